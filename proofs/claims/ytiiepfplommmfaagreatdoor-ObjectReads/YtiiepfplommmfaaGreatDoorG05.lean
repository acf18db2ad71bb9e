/-
  Objects that are handed in: what they are in memory; how long they can be.
  And: What every text of this seat shares: bytes as cells, the writing of a number (seven bits a byte), what may have turned in memory behind a call, and what a Writer is in memory.
-/
import Derived.Test.YtiiepfplommmfaaGreatDoorG04
import Derived.WalkKit
import Derived.WalkSpells
import Derived.WalkLawsBesides
import Derived.ScopeJumps
import Derived.WalkMore
import Derived.Deep.Upon
namespace Go.Proofs.YtiiepfplommmfaaGreatDoor
open Go.ChangeShapes Go.WideShapes Go.ChangeAt Go.RowKit Go.Deep

theorem w_each {H:Type}:∀ {fs:List Field} {ds:List (DataW H)} {ts:List TypeId} (k:Nat) (t:TypeId) (d:DataW H),ts = fs.map (·.type) → ts[k]? = some t → ds[k]? = some d → ∀ n ∈ d.weights Tryz.prog t,n ∈ DataW.weightsEach Tryz.prog ts ds
 | [],_,_,k,t,d,rfl,h,_=>by simp at h
 | f :: fs,[],_,k,t,d,_,_,h=>by simp at h
 | f :: fs,e :: ds,_,0,t,d,rfl,h1,h2=>by
  intro n hn
  simp only [List.map_cons,List.getElem?_cons_zero,Option.some.injEq] at h1 h2
  subst h1 h2
  simp only [List.map_cons,DataW.weightsEach,List.mem_append]
  exact .inl hn
 | f :: fs,e :: ds,_,k + 1,t,d,rfl,h1,h2=>by
  intro n hn
  simp only [List.map_cons,List.getElem?_cons_succ] at h1 h2
  simp only [List.map_cons,DataW.weightsEach,List.mem_append]
  exact .inr (w_each k t d rfl h1 h2 n hn)
theorem w_field {H:Type} {t:TypeId} {fs:Array Field} {ds:List (DataW H)} (hu:Tryz.prog.underlying t = some (.struct fs)) (h:WOk t (.agg ds)) (k:Nat) (f:Field) (d:DataW H) (hf:fs[k]? = some f) (hd:ds[k]? = some d):WOk f.type d:=by
 unfold WOk at h ⊢
 simp only [DataW.weights,hu] at h
 intro n hn
 refine h n (w_each (fs:=fs.toList) k f.type d rfl ?_ hd n hn)
 rw [List.getElem?_map,Array.getElem?_toList,hf]
 rfl
theorem texts_cap {H:Type} {enc:TypeId × Value → H} {W:World} {fuel:Nat} {a0:Option Addr} {len0 cap0:Nat} {x:DataW H × List MemPlace} (hf:DataW.trod enc Tryz.prog W 0 (fun _=>true) true fuel 23 [.slice a0 len0 cap0] = some x):len0 ≤ cap0:=by
 rcases open_slice1 Tryz.underlying23 (by kernel_rfl) hf with ⟨hcs,_⟩ | ⟨a,len,cap,m,n,V,D,Pl,hcs,hb,hl,hm,hmm,rfl,hx⟩
 ·simp only [List.cons.injEq,Value.slice.injEq,and_true] at hcs
  omega
 ·simp only [List.cons.injEq,Value.slice.injEq,and_true] at hcs
  obtain ⟨rfl,rfl,rfl⟩:=hcs
  exact hl
theorem texts_openC {H : Type} {enc : TypeId × Value → H} {W : World} {fuel : Nat} {a0 : Option Addr} {len0 cap0 : Nat} {x : DataW H × List MemPlace} (hf : DataW.trod enc Tryz.prog W 0 (fun _ => true) true fuel 23 [.slice a0 len0 cap0] = some x) (hw : WOk 23 x.1) :
  ∃ xs:List (List UInt8),xs.length = len0 ∧ TxC (fun g=>g < W.heap.size) W (.slice a0 len0 cap0) xs ∧ xs.length ≤ 8796093022208 ∧ ∀ y ∈ xs,Tk y:=by
 obtain ⟨xs,h1,h2,h3,h4⟩:=texts_open hf hw
 refine ⟨xs,h1,⟨h2,fun a n c h=>?_⟩,h3,h4⟩
 simp only [Value.slice.injEq] at h
 obtain ⟨_,rfl,rfl⟩:=h
 exact texts_cap hf
theorem rows_open {α : Type} {sz : Nat} {C : (Nat → Prop) → World → α → List Value → Prop} {Ok : α → Prop} {H : Type} {enc : TypeId × Value → H} {W : World} {fuel : Nat} {a0 : Option Addr} {len0 cap0 : Nat} {x : DataW H × List MemPlace} {S E : TypeId} (h0 : α) (hu : Tryz.prog.underlying S = some (.slice E)) (hc : Tryz.prog.cellsOf E = sz) (hsz : 0 < sz)
  (hel:∀ (fuel:Nat) (cs:List Value) (y:DataW H × List MemPlace),cs.length = sz → DataW.trod enc Tryz.prog W 0 (fun _=>true) true fuel E cs = some y → WOk E y.1 → ∃ x,C (fun g=>g < W.heap.size) W x cs ∧ Ok x)
  (hf:DataW.trod enc Tryz.prog W 0 (fun _=>true) true fuel S [.slice a0 len0 cap0] = some x) (hw:WOk S x.1) :
  ∃ l:List α,l.length = len0 ∧ RwR sz C (fun g=>g < W.heap.size) W (.slice a0 len0 cap0) l ∧ l.length * Tryz.prog.bytesOf E ≤ reachBytes ∧ ∀ c ∈ l,Ok c:=by
 haveI:Inhabited α:=⟨h0⟩
 rcases open_slice hu hf with ⟨hcs,_⟩ | ⟨a,len,cap,m,n,D,Pl,hcs,hb,hl,hm,hmm,rfl,hx⟩
 ·simp only [List.cons.injEq,Value.slice.injEq,and_true] at hcs
  obtain ⟨rfl,rfl,rfl⟩:=hcs
  exact ⟨[],rfl,.inl ⟨_,_,rfl,rfl⟩,by simp,by simp⟩
 ·simp only [List.cons.injEq,Value.slice.injEq,and_true] at hcs
  obtain ⟨rfl,rfl,rfl⟩:=hcs
  simp only [if_true] at hmm
  obtain ⟨w1,w2⟩:=w_slice hu hw
  rw [hc] at hx
  have key:∀ i,i < len0 → ∃ c:α × List Value,(∀ j y,c.2[j]? = some y → W.cell? ((a.add (i * sz)).add j) = some y) ∧ c.2.length = sz ∧ C (fun g=>g < W.heap.size) W c.1 c.2 ∧ Ok c.1:=fun i hi=>by
   obtain ⟨cs',h1,h2⟩:=hx i (by omega)
   obtain ⟨_,hl2,hcell⟩:=World.cells?_some h1
   have wi:=w2 (D i) (List.mem_map.2 ⟨i,List.mem_range.2 hi,rfl⟩)
   obtain ⟨x,hx1,hx2⟩:=hel _ cs' _ hl2 h2 wi
   refine ⟨(x,cs'),fun j y hy=>?_,hl2,hx1,hx2⟩
   obtain ⟨hj,rfl⟩:=List.getElem?_eq_some_iff.1 hy
   rw [hcell j (by rw [← hl2]; exact hj),List.getElem?_eq_getElem hj]
  obtain ⟨S,hS⟩:=choose_lt key
  refine ⟨(List.range len0).map (fun i=>(S i).1),by simp,?_,?_,?_⟩
  ·by_cases h0:len0 = 0
   ·subst h0
    exact .inl ⟨_,_,rfl,rfl⟩
   ·obtain ⟨ab,ao,asp⟩:=a
    have hl0:=(hS 0 (by omega)).2.1
    have hc0:=(hS 0 (by omega)).1 0 _ (List.getElem?_eq_getElem (by omega))
    have e0:((⟨ab,ao,asp⟩:Addr).add (0 * sz)).add 0 = (⟨ab,ao,asp⟩:Addr).add 0:=by simp [Addr.add]
    rw [e0] at hc0
    obtain rfl:=spot_none hc0
    rw [add_none] at hc0
    refine .inr ⟨ab,ao,cap0,by simp,by simpa using hl,World.block_lt_of_cell? W _ hc0,fun j y hj=>?_⟩
    obtain ⟨hj1,rfl⟩:=List.getElem?_eq_some_iff.1 hj
    simp only [List.length_map,List.length_range] at hj1
    obtain ⟨k0,k1,k2,_⟩:=hS j hj1
    refine ⟨(S j).2,by simpa using k2,fun i y hy=>?_⟩
    have:=k0 i y hy
    rwa [add_none,add_none] at this
  ·simp only [List.length_map,List.length_range] at w1 ⊢
   exact Nat.le_trans (Nat.mul_le_mul_right _ (by omega)) w1
  ·intro y hy
   obtain ⟨i,hi,rfl⟩:=List.mem_map.1 hy
   exact (hS i (List.mem_range.1 hi)).2.2.2
theorem int_cell {H:Type} {enc:TypeId × Value → H} {W:World} {fuel:Nat} {c:Value} {y:DataW H × List MemPlace} (h:DataW.trod enc Tryz.prog W 0 (fun _=>true) true fuel 3 [c] = some y):∃ k:Int,c = .int .i64 k ∧ i64 k:=by
 obtain ⟨k,hk,_,hkw⟩:=DataW.trod_int Tryz.underlying3 h
 simp only [List.cons.injEq,and_true] at hk
 exact ⟨k,hk,bounds_i64 hkw⟩
theorem str_cell {H:Type} {enc:TypeId × Value → H} {W:World} {fuel:Nat} {c:Value} {y:DataW H × List MemPlace} (h:DataW.trod enc Tryz.prog W 0 (fun _=>true) true fuel 9 [c] = some y) (hw:WOk 9 y.1):∃ s:List UInt8,c = .string (str s) ∧ Tk s:=by
 obtain ⟨s,hs,hd,_⟩:=DataW.trod_string Tryz.underlying9 h
 simp only [List.cons.injEq,and_true] at hs
 rw [hd] at hw
 exact ⟨s.data.toList,by rw [str_list]; exact hs,w_str hw⟩
theorem bytes_openC {H : Type} {enc : TypeId × Value → H} {W : World} {fuel : Nat} {c : Value} {x : DataW H × List MemPlace} (hf : DataW.trod enc Tryz.prog W 0 (fun _ => true) true fuel 42 [c] = some x) (hw : WOk 42 x.1) :
  ∃ l:List UInt8,ByR (fun g=>g < W.heap.size) W c l ∧ l.length ≤ 140737488355328:=by
 obtain ⟨a0,len0,cap0,hfc⟩:=Go.Joins.slice_form Tryz.underlying42 hf
 simp only [List.cons.injEq,and_true] at hfc
 subst hfc
 rcases open_ints Tryz.underlying42 Tryz.underlying5 (by kernel_rfl) hf with ⟨hcs,hx⟩ | ⟨a,ln,c,zs,hcs,_,hl,hm,hz,hx,hcell,hwz⟩
 ·simp only [List.cons.injEq,Value.slice.injEq,and_true] at hcs
  obtain ⟨rfl,rfl,rfl⟩:=hcs
  exact ⟨[],.inl ⟨_,_,rfl,rfl⟩,by simp⟩
 ·simp only [List.cons.injEq,Value.slice.injEq,and_true] at hcs
  obtain ⟨rfl,rfl,rfl⟩:=hcs
  simp at hz
  have hwf:∀ z ∈ zs,0 ≤ z ∧ z ≤ 255:=fun z hz=>bounds_u8 (hwz z hz)
  rw [hx] at hw
  obtain ⟨w1,w2⟩:=w_slice Tryz.underlying42 hw
  have hbytes:len0 ≤ 140737488355328:=by
   have hb:Tryz.prog.bytesOf 5 = 1:=by kernel_rfl
   rw [hb,reach_is] at w1
   simp only [lits,List.length_map,List.length_take,List.length_drop] at w1
   omega
  refine ⟨(zs.take len0).map fun z=>UInt8.ofNat z.toNat,?_,by simp; omega⟩
  by_cases h0:len0 = 0
  ·subst h0
   exact .inl ⟨_,_,rfl,by simp⟩
  ·obtain ⟨ab,ao,asp⟩:=a
   have hc0:=hcell 0 (by omega)
   obtain rfl:=spot_none hc0
   rw [add_none] at hc0
   refine .inr ⟨ab,ao,cap0,by simp; omega,by simp; omega,World.block_lt_of_cell? W _ hc0,fun j y hj=>?_⟩
   obtain ⟨hj1,rfl⟩:=List.getElem?_eq_some_iff.1 hj
   simp only [List.length_map,List.length_take] at hj1
   have hjz:j < zs.length:=by omega
   have hcj:=hcell j (by omega)
   rw [add_none] at hcj
   rw [hcj]
   have hb:=hwf _ (List.getElem_mem hjz)
   have hgd:zs.getD j 0 = zs[j]:=by simp [List.getD,hjz]
   rw [hgd]
   simp only [List.getElem_map,List.getElem_take]
   generalize zs[j] = z at *
   have:(UInt8.ofNat z.toNat).toNat = z.toNat:=by
    rw [UInt8.toNat_ofNat']
    omega
   rw [this,Int.toNat_of_nonneg hb.1]
theorem item_cells {H : Type} {enc : TypeId × Value → H} {W : World} {fuel : Nat} {c0 c1 c2 c3 : Value} {y : DataW H × List MemPlace} (h : DataW.trod enc Tryz.prog W 0 (fun _ => true) true fuel 77 [c0, c1, c2, c3] = some y) (hw : WOk 77 y.1) :
  ∃ (x:It) (cv:Value),[c0,c1,c2,c3] = [.int .i64 x.kind,.string (str x.name),.string (str x.ty),cv] ∧ CsR (fun g=>g < W.heap.size) W cv x.cases ∧ ItOk x:=by
 have hc0:Tryz.prog.cellsOf 3 = 1:=by kernel_rfl
 have hc1:Tryz.prog.cellsOf 9 = 1:=by kernel_rfl
 have hc1':Tryz.prog.cellsOf 75 = 1:=by kernel_rfl
 obtain ⟨y0,y1,y2,y3,n',hxx,_,t0,t1,t2,t3⟩:=Go.Joins.trod_struct4 Tryz.underlying77 h
 have t0':DataW.trod enc Tryz.prog W 0 (fun _=>true) true n' 3 [c0] = some y0:=by simpa [hc0] using t0
 have t1':DataW.trod enc Tryz.prog W 0 (fun _=>true) true n' 9 [c1] = some y1:=by simpa [hc1] using t1
 have t2':DataW.trod enc Tryz.prog W 0 (fun _=>true) true n' 9 [c2] = some y2:=by simpa [hc1] using t2
 have t3':DataW.trod enc Tryz.prog W 0 (fun _=>true) true n' 75 [c3] = some y3:=by simpa [hc1'] using t3
 rw [hxx] at hw
 obtain ⟨v1,v2,v3⟩:=w_four Tryz.underlying77 hw
 obtain ⟨k,rfl,hk⟩:=int_cell t0'
 obtain ⟨s1,rfl,hs1⟩:=str_cell t1' v1
 obtain ⟨s2,rfl,hs2⟩:=str_cell t2' v2
 obtain ⟨fa,fl,fc,hfc⟩:=Go.Joins.slice_form Tryz.underlying75 t3'
 simp only [List.cons.injEq,and_true] at hfc
 subst hfc
 obtain ⟨cs,g1,g2,g3,g4⟩:=cases_open t3' v3
 exact ⟨⟨k,s1,s2,cs⟩,_,rfl,g2,hk.1,hk.2,hs1,hs2,g3,g4⟩
theorem gl_cells {H : Type} {enc : TypeId × Value → H} {W : World} {fuel : Nat} {cs : List Value} {y : DataW H × List MemPlace} (hl : cs.length = 3) (h : DataW.trod enc Tryz.prog W 0 (fun _ => true) true fuel 73 cs = some y) (hw : WOk 73 y.1) :
  ∃ x:Gl,cGl (fun g=>g < W.heap.size) W x cs ∧ GlOk x:=by
 have hc0:Tryz.prog.cellsOf 3 = 1:=by kernel_rfl
 have hc1:Tryz.prog.cellsOf 9 = 1:=by kernel_rfl
 obtain ⟨c0,c1,c2,rfl⟩:∃ c0 c1 c2,cs = [c0,c1,c2]:=by
  match cs,hl with
  | [c0,c1,c2],_=>exact ⟨c0,c1,c2,rfl⟩
 obtain ⟨y0,y1,y2,n',hxx,_,t0,t1,t2⟩:=trod_struct3 Tryz.underlying73 h
 have t0':DataW.trod enc Tryz.prog W 0 (fun _=>true) true n' 9 [c0] = some y0:=by simpa [hc1] using t0
 have t1':DataW.trod enc Tryz.prog W 0 (fun _=>true) true n' 9 [c1] = some y1:=by simpa [hc1] using t1
 have t2':DataW.trod enc Tryz.prog W 0 (fun _=>true) true n' 3 [c2] = some y2:=by simpa [hc0] using t2
 rw [hxx] at hw
 obtain ⟨s0,rfl,hs0⟩:=str_cell t0' (w_field Tryz.underlying73 hw 0 _ _ rfl rfl)
 obtain ⟨s1,rfl,hs1⟩:=str_cell t1' (w_field Tryz.underlying73 hw 1 _ _ rfl rfl)
 obtain ⟨k,rfl,hk⟩:=int_cell t2'
 exact ⟨⟨s0,s1,k⟩,rfl,hs0,hs1,hk⟩
theorem rl_cells {H : Type} {enc : TypeId × Value → H} {W : World} {fuel : Nat} {cs : List Value} {y : DataW H × List MemPlace} (hl : cs.length = 3) (h : DataW.trod enc Tryz.prog W 0 (fun _ => true) true fuel 82 cs = some y) (_hw : WOk 82 y.1) :
  ∃ x:Rl,cRl (fun g=>g < W.heap.size) W x cs ∧ RlOk x:=by
 have hc0:Tryz.prog.cellsOf 3 = 1:=by kernel_rfl
 obtain ⟨c0,c1,c2,rfl⟩:∃ c0 c1 c2,cs = [c0,c1,c2]:=by
  match cs,hl with
  | [c0,c1,c2],_=>exact ⟨c0,c1,c2,rfl⟩
 obtain ⟨y0,y1,y2,n',hxx,_,t0,t1,t2⟩:=trod_struct3 Tryz.underlying82 h
 have t0':DataW.trod enc Tryz.prog W 0 (fun _=>true) true n' 3 [c0] = some y0:=by simpa [hc0] using t0
 have t1':DataW.trod enc Tryz.prog W 0 (fun _=>true) true n' 3 [c1] = some y1:=by simpa [hc0] using t1
 have t2':DataW.trod enc Tryz.prog W 0 (fun _=>true) true n' 3 [c2] = some y2:=by simpa [hc0] using t2
 obtain ⟨k0,rfl,hk0⟩:=int_cell t0'
 obtain ⟨k1,rfl,hk1⟩:=int_cell t1'
 obtain ⟨k2,rfl,hk2⟩:=int_cell t2'
 exact ⟨⟨k0,k1,k2⟩,rfl,hk0,hk1,hk2⟩
theorem sy_cells {H : Type} {enc : TypeId × Value → H} {W : World} {fuel : Nat} {cs : List Value} {y : DataW H × List MemPlace} (hl : cs.length = 5) (h : DataW.trod enc Tryz.prog W 0 (fun _ => true) true fuel 79 cs = some y) (hw : WOk 79 y.1) :
  ∃ x:Sy,cSy (fun g=>g < W.heap.size) W x cs ∧ SyOk x:=by
 have hc1:Tryz.prog.cellsOf 9 = 1:=by kernel_rfl
 have hc4:Tryz.prog.cellsOf 77 = 4:=by kernel_rfl
 obtain ⟨c0,c1,c2,c3,c4,rfl⟩:∃ c0 c1 c2 c3 c4,cs = [c0,c1,c2,c3,c4]:=by
  match cs,hl with
  | [c0,c1,c2,c3,c4],_=>exact ⟨c0,c1,c2,c3,c4,rfl⟩
 obtain ⟨y0,y1,n',hxx,_,t0,t1⟩:=trod_struct2 Tryz.underlying79 h
 have t0':DataW.trod enc Tryz.prog W 0 (fun _=>true) true n' 9 [c0] = some y0:=by simpa [hc1] using t0
 have t1':DataW.trod enc Tryz.prog W 0 (fun _=>true) true n' 77 [c1,c2,c3,c4] = some y1:=by simpa [hc4] using t1
 rw [hxx] at hw
 obtain ⟨w0,w1⟩:=w_two Tryz.underlying79 hw
 obtain ⟨s0,rfl,hs0⟩:=str_cell t0' w0
 obtain ⟨x,cv,hx,hc,hok⟩:=item_cells t1' w1
 exact ⟨⟨s0,x⟩,⟨cv,by rw [hx],hc⟩,hs0,hok⟩
set_option maxRecDepth 1000000 in
theorem fn_cells {H : Type} {enc : TypeId × Value → H} {W : World} {fuel : Nat} {cs : List Value} {y : DataW H × List MemPlace} (hl : cs.length = 6) (h : DataW.trod enc Tryz.prog W 0 (fun _ => true) true fuel 52 cs = some y) (hw : WOk 52 y.1) :
  ∃ x:Fn,cFn (fun g=>g < W.heap.size) W x cs ∧ FnOk x:=by
 have hc0:Tryz.prog.cellsOf 3 = 1:=by kernel_rfl
 have hc1:Tryz.prog.cellsOf 9 = 1:=by kernel_rfl
 have hc2:Tryz.prog.cellsOf 23 = 1:=by kernel_rfl
 have hc3:Tryz.prog.cellsOf 42 = 1:=by kernel_rfl
 obtain ⟨c0,c1,c2,c3,c4,c5,rfl⟩:∃ c0 c1 c2 c3 c4 c5,cs = [c0,c1,c2,c3,c4,c5]:=by
  match cs,hl with
  | [c0,c1,c2,c3,c4,c5],_=>exact ⟨c0,c1,c2,c3,c4,c5,rfl⟩
 obtain ⟨xs,n',_,rfl,_,hlen,hfl⟩:=DataW.trod_struct Tryz.underlying52 h
 obtain ⟨y0,y1,y2,y3,y4,y5,rfl⟩:∃ y0 y1 y2 y3 y4 y5,xs = [y0,y1,y2,y3,y4,y5]:=by
  match xs,hlen with
  | [y0,y1,y2,y3,y4,y5],_=>exact ⟨y0,y1,y2,y3,y4,y5,rfl⟩
 have t0:DataW.trod enc Tryz.prog W 0 (fun _=>true) true n' 9 [c0] = some y0:=by simpa [hc1] using hfl 0 _ rfl
 have t1:DataW.trod enc Tryz.prog W 0 (fun _=>true) true n' 23 [c1] = some y1:=by simpa [hc2] using hfl 1 _ rfl
 have t2:DataW.trod enc Tryz.prog W 0 (fun _=>true) true n' 3 [c2] = some y2:=by simpa [hc0] using hfl 2 _ rfl
 have t3:DataW.trod enc Tryz.prog W 0 (fun _=>true) true n' 9 [c3] = some y3:=by simpa [hc1] using hfl 3 _ rfl
 have t4:DataW.trod enc Tryz.prog W 0 (fun _=>true) true n' 3 [c4] = some y4:=by simpa [hc0] using hfl 4 _ rfl
 have t5:DataW.trod enc Tryz.prog W 0 (fun _=>true) true n' 42 [c5] = some y5:=by simpa [hc3] using hfl 5 _ rfl
 obtain ⟨s0,rfl,hs0⟩:=str_cell t0 (w_field Tryz.underlying52 hw 0 _ _ rfl rfl)
 obtain ⟨k2,rfl,hk2⟩:=int_cell t2
 obtain ⟨s3,rfl,hs3⟩:=str_cell t3 (w_field Tryz.underlying52 hw 3 _ _ rfl rfl)
 obtain ⟨k4,rfl,hk4⟩:=int_cell t4
 obtain ⟨b5,hb5,hl5⟩:=bytes_openC t5 (w_field Tryz.underlying52 hw 5 _ _ rfl rfl)
 obtain ⟨fa,fl,fc,hfc⟩:=Go.Joins.slice_form Tryz.underlying23 t1
 simp only [List.cons.injEq,and_true] at hfc
 subst hfc
 obtain ⟨ps,g1,g2,g3,g4⟩:=texts_openC t1 (w_field Tryz.underlying52 hw 1 _ _ rfl rfl)
 exact ⟨⟨s0,ps,k2,s3,k4,b5⟩,⟨_,_,rfl,g2,hb5⟩,hs0,g3,g4,hk2,hs3,hk4,hl5⟩
set_option maxRecDepth 1000000 in
theorem object_openL {H : Type} {enc : TypeId × Value → H} {W : World} {r : Reach} {b0 : Nat} {v : Value} {d : DataW H} {p : List MemPlace} (hv : Value.okWide Tryz.prog W r b0 29 v) (h : DataW.Trod enc Tryz.prog W 0 (fun _ => true) true 29 v d p) (hw : WOk 29 d) :
  ∃ (o:Ob) (u:ObV),v = .agg (u.cells o.mod).toArray ∧ ObR (fun g=>g < W.heap.size) W u o ∧ ObOk o ∧ o.globals.length * 40 ≤ 140737488355328 ∧ o.funs.length * 96 ≤ 140737488355328 ∧ o.symbols.length * 80 ≤ 140737488355328 ∧ o.relocs.length * 24 ≤ 140737488355328:=by
 have hc1:Tryz.prog.cellsOf 9 = 1:=by kernel_rfl
 have hct:Tryz.prog.cellsOf 22 = 1:=by kernel_rfl
 have hcx:Tryz.prog.cellsOf 23 = 1:=by kernel_rfl
 have hcg:Tryz.prog.cellsOf 24 = 1:=by kernel_rfl
 have hcf:Tryz.prog.cellsOf 25 = 1:=by kernel_rfl
 have hcs:Tryz.prog.cellsOf 26 = 1:=by kernel_rfl
 have hcr:Tryz.prog.cellsOf 27 = 1:=by kernel_rfl
 obtain ⟨cs,rfl,hsz⟩:=okWide_struct Tryz.underlying29 hv
 obtain ⟨l⟩:=cs
 obtain ⟨c0,c1,c2,c3,c4,c5,c6,c7,rfl⟩:∃ c0 c1 c2 c3 c4 c5 c6 c7,l = [c0,c1,c2,c3,c4,c5,c6,c7]:=by
  have hl:l.length = 8:=hsz.trans (by kernel_rfl)
  match l,hl with
  | [c0,c1,c2,c3,c4,c5,c6,c7],_=>exact ⟨c0,c1,c2,c3,c4,c5,c6,c7,rfl⟩
 obtain ⟨fuel,hf⟩:=h
 obtain ⟨xs,n',_,hd,_,hlen,hfl⟩:=DataW.trod_struct Tryz.underlying29 hf
 obtain ⟨y0,y1,y2,y3,y4,y5,y6,y7,rfl⟩:∃ y0 y1 y2 y3 y4 y5 y6 y7,xs = [y0,y1,y2,y3,y4,y5,y6,y7]:=by
  match xs,hlen with
  | [y0,y1,y2,y3,y4,y5,y6,y7],_=>exact ⟨y0,y1,y2,y3,y4,y5,y6,y7,rfl⟩
 simp only [Prod.mk.injEq] at hd
 rw [hd.1] at hw
 have wf:=fun k f d h1 h2=>w_field Tryz.underlying29 hw k f d h1 h2
 have t0:DataW.trod enc Tryz.prog W 0 (fun _=>true) true n' 9 [c0] = some y0:=by simpa [Value.cells,hc1] using hfl 0 _ rfl
 have t1:DataW.trod enc Tryz.prog W 0 (fun _=>true) true n' 22 [c1] = some y1:=by simpa [Value.cells,hct] using hfl 1 _ rfl
 have t2:DataW.trod enc Tryz.prog W 0 (fun _=>true) true n' 23 [c2] = some y2:=by simpa [Value.cells,hcx] using hfl 2 _ rfl
 have t3:DataW.trod enc Tryz.prog W 0 (fun _=>true) true n' 24 [c3] = some y3:=by simpa [Value.cells,hcg] using hfl 3 _ rfl
 have t4:DataW.trod enc Tryz.prog W 0 (fun _=>true) true n' 25 [c4] = some y4:=by simpa [Value.cells,hcf] using hfl 4 _ rfl
 have t5:DataW.trod enc Tryz.prog W 0 (fun _=>true) true n' 23 [c5] = some y5:=by simpa [Value.cells,hcx] using hfl 5 _ rfl
 have t6:DataW.trod enc Tryz.prog W 0 (fun _=>true) true n' 26 [c6] = some y6:=by simpa [Value.cells,hcs] using hfl 6 _ rfl
 have t7:DataW.trod enc Tryz.prog W 0 (fun _=>true) true n' 27 [c7] = some y7:=by simpa [Value.cells,hcr] using hfl 7 _ rfl
 obtain ⟨m,rfl,hm⟩:=str_cell t0 (wf 0 _ _ rfl rfl)
 obtain ⟨a1,l1,k1,e1⟩:=Go.Joins.slice_form Tryz.underlying22 t1
 obtain ⟨a2,l2,k2,e2⟩:=Go.Joins.slice_form Tryz.underlying23 t2
 obtain ⟨a3,l3,k3,e3⟩:=Go.Joins.slice_form Tryz.underlying24 t3
 obtain ⟨a4,l4,k4,e4⟩:=Go.Joins.slice_form Tryz.underlying25 t4
 obtain ⟨a5,l5,k5,e5⟩:=Go.Joins.slice_form Tryz.underlying23 t5
 obtain ⟨a6,l6,k6,e6⟩:=Go.Joins.slice_form Tryz.underlying26 t6
 obtain ⟨a7,l7,k7,e7⟩:=Go.Joins.slice_form Tryz.underlying27 t7
 simp only [List.cons.injEq,and_true] at e1 e2 e3 e4 e5 e6 e7
 subst e1 e2 e3 e4 e5 e6 e7
 obtain ⟨ts,p1,q1,r1,o1⟩:=items_open t1 (wf 1 _ _ rfl rfl)
 obtain ⟨xx,p2,q2,r2,o2⟩:=texts_openC t2 (wf 2 _ _ rfl rfl)
 obtain ⟨gs,p3,q3,r3,o3⟩:=rows_open (C:=cGl) (Ok:=GlOk) ⟨[],[],0⟩ Tryz.underlying24 (by kernel_rfl) (by omega) (fun _ _ _ hl h hw=>gl_cells hl h hw) t3 (wf 3 _ _ rfl rfl)
 obtain ⟨fs,p4,q4,r4,o4⟩:=rows_open (C:=cFn) (Ok:=FnOk) ⟨[],[],0,[],0,[]⟩ Tryz.underlying25 (by kernel_rfl) (by omega) (fun _ _ _ hl h hw=>fn_cells hl h hw) t4 (wf 4 _ _ rfl rfl)
 obtain ⟨es,p5,q5,r5,o5⟩:=texts_openC t5 (wf 5 _ _ rfl rfl)
 obtain ⟨ss,p6,q6,r6,o6⟩:=rows_open (C:=cSy) (Ok:=SyOk) ⟨[],⟨0,[],[],[]⟩⟩ Tryz.underlying26 (by kernel_rfl) (by omega) (fun _ _ _ hl h hw=>sy_cells hl h hw) t6 (wf 6 _ _ rfl rfl)
 obtain ⟨rs,p7,q7,r7,o7⟩:=rows_open (C:=cRl) (Ok:=RlOk) ⟨0,0,0⟩ Tryz.underlying27 (by kernel_rfl) (by omega) (fun _ _ _ hl h hw=>rl_cells hl h hw) t7 (wf 7 _ _ rfl rfl)
 have b3:Tryz.prog.bytesOf 73 = 40:=by kernel_rfl
 have b4:Tryz.prog.bytesOf 52 = 96:=by kernel_rfl
 have b6:Tryz.prog.bytesOf 79 = 80:=by kernel_rfl
 have b7:Tryz.prog.bytesOf 82 = 24:=by kernel_rfl
 rw [b3,reach_is] at r3
 rw [b4,reach_is] at r4
 rw [b6,reach_is] at r6
 rw [b7,reach_is] at r7
 exact ⟨⟨m,ts,xx,gs,fs,es,ss,rs⟩,⟨_,_,_,_,_,_,_⟩,rfl,⟨q1,q2,q3,q4,q5,q6,q7⟩,⟨hm,by simp only; omega,o1,r2,o2,by simp only; omega,o3,by simp only; omega,o4,r5,o5,by simp only; omega,o6,by simp only; omega,o7⟩,by simp only; omega,by simp only; omega,by simp only; omega,by simp only; omega⟩
end Go.Proofs.YtiiepfplommmfaaGreatDoor

namespace Go.Proofs.YtiiepfplommmfaaGreatDoor.Wire
open Go.RowKit

theorem wp_scope_via {P : Program} {a : Act} {w : World} {Q : Exit → Act → World → Prop} {c rest : Code} (l : Nat) (J : Act → World → Prop) (m : Act → World → Nat) (hf : findLabel c l = some (Code.skip.seq rest))
  (first:(∀ a w,J a w → rest.wp P (Exit.jump l J Q) a w) → c.wp P (Exit.jump l J Q) a w)
  (pass:∀ a w,J a w → rest.wp P (Exit.jump l (fun a' w'=>J a' w' ∧ m a' w' < m a w) Q) a w):(Code.scope c).wp P Q a w:=by
 refine wp_scope_jumps l J m hf (first fun a w h=>?_) (fun a w h=>wp_seq (wp_skip (pass a w h)))
 refine wp_mono (pass a w h) ?_
 intro e a' w' hq
 cases e <;> first | exact hq | exact ⟨hq.1,hq.2.1⟩
def bs (l:List Nat):List Value:=l.map fun (x:Nat)=>Value.int .u8 (x:Int)
theorem bs_length (l:List Nat):(bs l).length = l.length:=by simp [bs]
theorem bs_append (a b:List Nat):bs (a ++ b) = bs a ++ bs b:=by simp [bs]
theorem bs_one (l:List Nat):∀ u ∈ bs l,u.oneCell' = true:=by
 intro u hu
 obtain ⟨_,_,rfl⟩:=List.mem_map.1 hu
 rfl
def encF:Nat → Nat → List Nat
 | 0,n=>[n]
 | f + 1,n=>if 128 ≤ n then (n % 128 + 128) :: encF f (n / 128) else [n]
def enc (n:Nat):List Nat:=encF n n
theorem encF_eq:∀ (f g n:Nat),n ≤ f → n ≤ g → encF f n = encF g n
 | 0,0,n,_,_=>rfl
 | 0,g + 1,n,h,_=>by
  obtain rfl:n = 0:=by omega
  rfl
 | f + 1,0,n,_,h=>by
  obtain rfl:n = 0:=by omega
  rfl
 | f + 1,g + 1,n,h1,h2=>by
  rw [encF,encF]
  by_cases h:128 ≤ n
  ·rw [if_pos h,if_pos h,encF_eq f g (n / 128) (by omega) (by omega)]
  ·rw [if_neg h,if_neg h]
theorem enc_big {n:Nat} (h:128 ≤ n):enc n = (n % 128 + 128) :: enc (n / 128):=by
 obtain ⟨m,rfl⟩:∃ m,n = m + 1:=⟨n - 1,by omega⟩
 rw [enc,encF,if_pos h,enc,encF_eq m ((m + 1) / 128) ((m + 1) / 128) (by omega) (by omega)]
theorem enc_small {n:Nat} (h:n < 128):enc n = [n]:=by
 cases n with
 | zero=>rfl
 | succ m=>rw [enc,encF,if_neg (by omega)]
theorem enc_pos (n:Nat):0 < (enc n).length:=by
 by_cases h:128 ≤ n
 ·rw [enc_big h]; simp
 ·rw [enc_small (by omega)]; simp
theorem enc_le:∀ (k n:Nat),n < 128 ^ (k + 1) → (enc n).length ≤ k + 1
 | 0,n,h=>by rw [enc_small (by simpa using h)]; simp
 | k + 1,n,h=>by
  by_cases h1:128 ≤ n
  ·rw [enc_big h1]
   have:=enc_le k (n / 128) (by rw [Nat.div_lt_iff_lt_mul (by omega)]; rwa [Nat.pow_succ] at h)
   simpa using this
  ·rw [enc_small (by omega)]; simp
theorem enc_ten (n:Nat) (h:n < 18446744073709551616):(enc n).length ≤ 10:=enc_le 9 n (Nat.lt_of_lt_of_le h (by decide))
theorem low_byte (m:Nat):bits .or .u8 ((m:Int) % 256) 128 = ((m % 128 + 128:Nat):Int):=by
 have e:(m:Int) % 256 = ((m % 256:Nat):Int):=by omega
 rw [e]
 have h:bits .or .u8 ((m % 256:Nat):Int) 128 = ((m % 256 ||| 128:Nat):Int):=u8_or_nat (m % 256) 128 (by omega) (by omega)
 rw [h]
 have hj:128 ||| m % 128 = 128 + m % 128:=nat_join 7 128 (m % 128) (by decide) (by omega)
 have h2:m % 256 ||| 128 = m % 128 + 128:=by
  rcases (by omega:m % 256 = m % 128 ∨ m % 256 = 128 + m % 128) with e | e
  ·rw [e,Nat.or_comm,hj,Nat.add_comm]
  ·rw [e, ← hj,Nat.or_comm, ← Nat.or_assoc,Nat.or_self,hj,Nat.add_comm]
 rw [h2]
structure Kept (S:Nat → Prop) (w w':World):Prop where
 os:w'.os = w.os
 tape:w'.tape = w.tape
 output:w'.output = w.output
 size:w.heap.size ≤ w'.heap.size
 block:∀ k,k < w.heap.size → ¬ S k → w'.heap[k]? = w.heap[k]?
theorem Kept.refl (S:Nat → Prop) (w:World):Kept S w w:=⟨rfl,rfl,rfl,Nat.le_refl _,fun _ _ _=>rfl⟩
theorem Kept.trans {S T U:Nat → Prop} {a b c:World} (h:Kept S a b) (k:Kept T b c) (hS:∀ x,x < a.heap.size → S x → U x) (hT:∀ x,x < a.heap.size → T x → U x):Kept U a c :=
 ⟨k.os.trans h.os,k.tape.trans h.tape,k.output.trans h.output,Nat.le_trans h.size k.size,fun i hi hu =>
  (k.block i (Nat.lt_of_lt_of_le hi h.size) (fun e=>hu (hT i hi e))).trans (h.block i hi (fun e=>hu (hS i hi e)))⟩
theorem Kept.mono {S T:Nat → Prop} {a b:World} (h:Kept S a b) (hS:∀ x,x < a.heap.size → S x → T x):Kept T a b :=
 ⟨h.os,h.tape,h.output,h.size,fun i hi hu=>h.block i hi (fun e=>hu (hS i hi e))⟩
theorem Kept.alloc {S:Nat → Prop} {a w:World} (h:Kept S a w) (o:Obj):Kept S a (w.alloc o) :=
 h.trans (T:=S) ⟨rfl,rfl,rfl,by simp,fun k hk _=>Below.heap_alloc _ _ _ hk⟩ (fun _ _ h=>h) (fun _ _ h=>h)
theorem Kept.drew {S:Nat → Prop} {a w:World} (h:Kept S a w):Kept S a w.drew:=⟨h.os,h.tape,h.output,h.size,h.block⟩
theorem Kept.setCell {S:Nat → Prop} {a w:World} (h:Kept S a w) {p:Addr} (hp:p.block < a.heap.size → S p.block) (u:Value):Kept S a (w.setCell p u) :=
 ⟨h.os,h.tape,h.output,by simpa [World.setCell] using h.size,fun k hk hs=>(Below.heap_setCell _ _ _ _ (fun e=>by subst e; exact hs (hp hk))).trans (h.block k hk hs)⟩
theorem Kept.grown {S:Nat → Prop} {a w w':World} {row:Option Nat} (h:Kept S a w) (hg:w.grownBy w' row) (hr:∀ k,row = some k → k < a.heap.size → S k):Kept S a w' :=
 ⟨hg.os.trans h.os,hg.tape.trans h.tape,hg.output.trans h.output,Nat.le_trans h.size hg.size,fun k hk hs =>
  (hg.block k (Nat.lt_of_lt_of_le hk h.size) (fun e=>hs (hr k e.symm hk))).trans (h.block k hk hs)⟩
theorem Kept.below {S:Nat → Prop} {a w:World} {B:Nat} (h:Kept S a w) (hB:B ≤ a.heap.size) (hS:∀ x,x < B → ¬ S x):Below B a w :=
 ⟨h.os,h.tape,h.output,h.size,fun k hk=>h.block k (by omega) (hS k hk)⟩
theorem Kept.cell {S:Nat → Prop} {a w:World} (h:Kept S a w) {p:Addr} {v:Value} (hc:a.cell? p = some v) (hp:¬ S p.block):w.cell? p = some v :=
 (World.cell?_of_block (h.block p.block (World.block_lt_of_cell? a p hc) hp)).trans hc
def Box (w:World) (b:Nat) (cs:Array Value):Prop:=∃ t,w.heap[b]? = some (.cells cs t (0,0))
theorem Box.lt {w:World} {b:Nat} {cs:Array Value} (h:Box w b cs):b < w.heap.size:=by
 obtain ⟨t,h⟩:=h
 exact (Array.getElem?_eq_some_iff.1 h).1
theorem Box.cell {w:World} {b:Nat} {cs:Array Value} (h:Box w b cs) (i:Nat):w.cell? ⟨b,i,none⟩ = cs[i]?:=by
 obtain ⟨t,h⟩:=h
 simp [World.cell?,h]
theorem Box.frozen {w:World} {b:Nat} {cs:Array Value} (h:Box w b cs) (i:Nat):w.frozen? ⟨b,i,none⟩ = false:=by
 obtain ⟨t,h⟩:=h
 simp [World.frozen?,h]
theorem Box.of_block {w w':World} {b:Nat} {cs:Array Value} (h:Box w b cs) (e:w'.heap[b]? = w.heap[b]?):Box w' b cs:=by
 obtain ⟨t,h⟩:=h
 exact ⟨t,e.trans h⟩
theorem Box.kept {S:Nat → Prop} {w w':World} {b:Nat} {cs:Array Value} (h:Box w b cs) (k:Kept S w w') (hb:¬ S b):Box w' b cs:=h.of_block (k.block b h.lt hb)
theorem Box.alloc {w:World} {b:Nat} {cs:Array Value} (h:Box w b cs) (o:Obj):Box (w.alloc o) b cs:=h.of_block (Below.heap_alloc _ _ _ h.lt)
theorem Box.set {w:World} {b:Nat} {cs:Array Value} (h:Box w b cs) (i:Nat) (v:Value):Box (w.setCell ⟨b,i,none⟩ v) b (cs.setIfInBounds i v):=by
 obtain ⟨t,h⟩:=h
 exact ⟨t,by simp [World.setCell,Array.getElem?_modify,h]⟩
def Row (w:World) (g:Nat) (v:Value) (l:List Nat):Prop:=w.ownsRow 0 5 1 v l.length (bs l) ∧ (v.ownBlock = none ∨ v.ownBlock = some g)
theorem Row.nil (w:World) (g:Nat):Row w g (.slice none 0 0) []:=⟨World.ownsRow_nil w 0 5 1,Or.inl rfl⟩
theorem Row.alloc {w:World} {g:Nat} {v:Value} {l:List Nat} (h:Row w g v l) (o:Obj):Row (w.alloc o) g v l:=⟨h.1.alloc o,h.2⟩
theorem Row.kept {S:Nat → Prop} {w w':World} {g:Nat} {v:Value} {l:List Nat} (h:Row w g v l) (k:Kept S w w') (hg:v.ownBlock = some g → ¬ S g):Row w' g v l:=by
 refine ⟨⟨h.1.1,?_⟩,h.2⟩
 rcases h.1.2 with hn | ⟨g',cap,cur,rfl,hb,hgg,rest⟩
 ·exact .inl hn
 ·have e:g' = g:=by
   rcases h.2 with e | e
   ·simp [Value.ownBlock] at e
   ·simpa [Value.ownBlock] using e
  subst e
  exact .inr ⟨g',cap,cur,rfl,hb,(k.block g' (Array.getElem?_eq_some_iff.1 hgg).1 (hg rfl)).trans hgg,rest⟩
theorem Row.shape {w:World} {g:Nat} {v:Value} {l:List Nat} (h:Row w g v l):(v = .slice none 0 0 ∧ l = []) ∨ ∃ cap,v = .slice (some ⟨g,0,none⟩) l.length cap ∧ l.length ≤ cap ∧ cap ≤ maxLen:=by
 rcases h.1.2 with ⟨hn,h0⟩ | ⟨g',cap,cur,rfl,hb,hgg,rest⟩
 ·exact .inl ⟨hn,List.eq_nil_of_length_eq_zero h0⟩
 ·have e:g' = g:=by
   rcases h.2 with e | e
   ·simp [Value.ownBlock] at e
   ·simpa [Value.ownBlock] using e
  subst e
  exact .inr ⟨cap,rfl,rest.1,rest.2.1⟩
theorem Row.lt {w:World} {g k:Nat} {v:Value} {l:List Nat} (h:Row w g v l) (hk:v.ownBlock = some k):k < w.heap.size:=(h.1.lt k hk).2
theorem Row.cell {w:World} {g cap:Nat} {l:List Nat} (h:Row w g (.slice (some ⟨g,0,none⟩) l.length cap) l) (j:Nat) (hj:j < l.length):w.cell? ⟨g,j,none⟩ = some (.int .u8 ((l.getD j 0:Nat):Int)):=by
 rw [h.1.cellAt j (by omega)]
 simp [bs,hj]
theorem setCells_heap (e : TypeId) (fr : Nat × Nat) (g : Nat) : ∀ (vs : List Value) (o : Nat) (w : World) (cur : Array Value), w.heap[g]? = some (.cells cur e fr) → o + vs.length ≤ cur.size →
  (w.setCells g o vs).heap[g]? = some (.cells (cur.toList.take o ++ vs ++ cur.toList.drop (o + vs.length)).toArray e fr)
 | [],o,w,cur,h,hl=>by
  simp [World.setCells,h]
 | v :: r,o,w,cur,h,hl=>by
  simp only [World.setCells]
  have h1:(w.setCell ⟨g,o,none⟩ v).heap[g]? = some (.cells (cur.setIfInBounds o v) e fr):=by simp [World.setCell,Array.getElem?_modify,h]
  rw [setCells_heap e fr g r (o + 1) _ _ h1 (by simp at hl ⊢; omega)]
  congr 3
  simp only [Array.toList_setIfInBounds,List.length_cons] at hl ⊢
  rw [List.take_set,List.drop_set_of_lt (by omega),List.take_succ_eq_append_getElem (by simp; omega),List.set_append_right _ _ (by simp; omega)]
  simp [Nat.min_eq_left (show o ≤ cur.size by omega),Nat.add_comm,Nat.add_left_comm]
theorem run_append_row {P : Program} (w : World) (t tx ty : TypeId) (ht : P.underlying t = some (.slice 5)) (hinfo : (P.info? 5).map (fun i => (i.zero, i.size, i.bytes)) = some (some (.int .u8 0), 1, 1))
  {g:Nat} {v:Value} {l:List Nat} (hv:Row w g v l) {x:Value} {m:Nat} {news:List Nat} (hs:Src P 1 tx x m (bs news) w) (hlen:l.length + news.length ≤ 140737488355328) :
  ∃ v' w',(Builtin.append_ #[t,tx] ty #[v,x]).run P w = .ok v' w' ∧ w'.ownsRow 0 5 1 v' (l ++ news).length (bs (l ++ news)) ∧ (v'.ownBlock = v.ownBlock ∨ v'.ownBlock = some w.heap.size) ∧ w.grownBy w' v.ownBlock ∧ (v' = .slice none 0 0 ↔ v = .slice none 0 0 ∧ news = []):=by
 obtain ⟨i,hi,hz0,hz1,hz2⟩:=info_parts hinfo
 have hm:m = news.length:=by have:=hs.newsLen; rw [bs_length] at this; omega
 subst hm
 have hll:(bs (l ++ news)).length = (l ++ news).length * 1:=by rw [bs_length]; omega
 have grown : ∀ (ao : Option Addr) (old : Nat), old < l.length + news.length → (Builtin.firstCells i.size l.length (.slice ao l.length old)).run P w.drew = .ok (bs l).toArray w.drew →
   ∃ v' w',(Builtin.append_ #[t,tx] ty #[.slice ao l.length old,x]).run P w = .ok v' w' ∧ w'.ownsRow 0 5 1 v' (l ++ news).length (bs (l ++ news)) ∧ v'.ownBlock = some w.heap.size ∧ w.grownBy w' none ∧ v' ≠ .slice none 0 0:=by
  intro ao old ho hold
  have hr:=run_append_grow_src (P:=P) w t tx ty 5 i (.int .u8 0) ht hi hz0 ao l.length old (bs l) hold x news.length (bs news) (by rw [hz1]; exact hs) ho (by omega) (growslice_fits ho (by rw [hz2]; omega))
  refine ⟨_,_,hr,⟨hll,.inr ⟨w.heap.size,_,_,by rw [List.length_append],Nat.zero_le _,heap_alloc_new w.drew _,by rw [List.length_append]; exact grownCap_ge w _ old 5,grownCap_le_maxLen w _ old 5 (by unfold maxLen; omega),?_,?_⟩⟩,rfl,⟨rfl,rfl,rfl,by simp,fun k hk _=>Below.heap_alloc w.drew _ k hk⟩,by simp⟩
  ·have hge:=grownCap_ge w (l.length + news.length) old 5
   simp [size_zeroCells,bs_length,Value.cells]
   omega
  ·simp only [Array.toList_append]
   rw [← bs_append, ← hll]
   exact List.take_left
 rcases hv.1.2 with ⟨rfl,hn⟩ | ⟨g',cap,cur,rfl,hb,hg,hnc,hcm,hcs,htake⟩
 ·have hl0:l = []:=List.eq_nil_of_length_eq_zero hn
  subst hl0
  by_cases h0:news = []
  ·subst h0
   refine ⟨.slice none 0 0,w,run_append_nothing w t tx ty 5 i ht hi none 0 0 (Nat.le_refl _) x (by rw [hz1]; exact hs),hv.1,Or.inl rfl,⟨rfl,rfl,rfl,Nat.le_refl _,fun _ _ _=>rfl⟩,by simp⟩
  ·have hp:0 < news.length:=List.length_pos_iff.2 h0
   obtain ⟨v',w',h1,h2,h3,h4,h5⟩:=grown none 0 (by simpa using hp) (by simp [bs,Builtin.firstCells])
   exact ⟨v',w',h1,h2,Or.inr h3,h4,by simp [h5,h0]⟩
 ·by_cases hroom:l.length + news.length ≤ cap
  ·have hr:=run_append_room_src (P:=P) w t tx ty 5 i ht hi g' 0 l.length cap x news.length (bs news) (by rw [hz1]; exact hs) hroom
    (by
     intro j hj
     rw [bs_length] at hj
     rw [hz1,cell_of_row w g' _ cur 5 (0,0) hg,Array.getElem?_eq_getElem (by omega)]
     rfl)
    (by intro j hj; exact frozen_of_row w g' _ cur 5 hg)
   have hh:=setCells_heap 5 (0,0) g' (bs news) (0 + l.length * i.size) w cur hg (by rw [hz1,bs_length]; omega)
   refine ⟨_,_,hr,⟨hll,.inr ⟨g',cap,_,by rw [List.length_append],Nat.zero_le _,hh,by rw [List.length_append]; exact hroom,hcm,?_,?_⟩⟩,Or.inl rfl,?_,by simp⟩
   ·simp [hz1,bs_length]; omega
   ·simp only [hz1,Nat.zero_add]
    rw [htake, ← bs_append, ← hll]
    exact List.take_left
   ·exact ⟨World.os_setCells _ _ _ _,by
     have:∀ (vs:List Value) (o:Nat) (w:World),(w.setCells g' o vs).tape = w.tape:=by
      intro vs
      induction vs with
      | nil=>intro o w; rfl
      | cons a r ih=>intro o w; rw [World.setCells,ih]; rfl
     exact this _ _ _,World.output_setCells _ _ _ _,by
     have:∀ (vs:List Value) (o:Nat) (w:World),(w.setCells g' o vs).heap.size = w.heap.size:=by
      intro vs
      induction vs with
      | nil=>intro o w; rfl
      | cons a r ih=>intro o w; rw [World.setCells,ih]; simp [World.setCell]
     rw [this]; exact Nat.le_refl _,fun k hk hne=>World.heap_setCells_other _ _ _ _ hk (fun e=>hne (by rw [e]; rfl))⟩
  ·obtain ⟨v',w',h1,h2,h3,h4,h5⟩:=grown (some ⟨g',0,none⟩) cap (by omega) (by
    rw [hz1]
    refine run_firstCells_some w.drew 1 l.length ⟨g',0,none⟩ l.length cap (bs l) (by rw [bs_length]; omega) ?_
    intro j u hu
    have:=hv.1.cells (g:=g') rfl j u hu
    simpa using this)
   exact ⟨v',w',h1,h2,Or.inr h3,⟨h4.os,h4.tape,h4.output,h4.size,fun k hk _=>h4.block k hk (by simp)⟩,by simp [h5]⟩
theorem wpList_append_row {P : Program} (w : World) {ops : Array Oper} {rest : List Oper} {o : Oper} {a : Act} {Q : Exit → Act → World → Prop} (hgd : o.guard = none) (s x : Operand) (t tx : TypeId)
  (ho:o.op = .call { callee := .builtin .append,args:=#[s,x],argTypes:=#[t,tx] }) (ht:P.underlying t = some (.slice 5)) (hinfo:(P.info? 5).map (fun i=>(i.zero,i.size,i.bytes)) = some (some (.int .u8 0),1,1))
  (v:Value) (g:Nat) (l:List Nat) (hs:a.eval s = v) (hv:Row w g v l) (xv:Value) (m:Nat) (news:List Nat) (hx:a.eval x = xv) (hsrc:Src P 1 tx xv m (bs news) w) (hlen:l.length + news.length ≤ 140737488355328)
  (h:∀ v' w' g',Row w' g' v' (l ++ news) → (g' = g ∨ g' < w'.heap.size ∧ w.heap.size ≤ g') → (v'.ownBlock = v.ownBlock ∨ v'.ownBlock = some w.heap.size) → w.grownBy w' v.ownBlock → (v' = .slice none 0 0 ↔ v = .slice none 0 0 ∧ news = []) → wpList P ops Q rest (a.put o.dst v') w') :
  wpList P ops Q (o :: rest) a w:=by
 refine wpList_plain hgd fun K hK=>?_
 obtain ⟨v',w',hr,h2,h3,h4,h5⟩:=run_append_row (P:=P) w t tx o.type ht hinfo hv hsrc hlen
 unfold Oper.wp execOp
 simp only [ho,resolve,invoke,builtin,Sem.run_bind,Sem.run_pure,Result.andThen_ok,List.map_toArray,List.map_cons,List.map_nil,hs,hx,hr]
 rcases h3 with e | e
 ·exact hK _ _ (h v' w' g ⟨h2,by rw [e]; exact hv.2⟩ (Or.inl rfl) (Or.inl e) h4 h5)
 ·exact hK _ _ (h v' w' w.heap.size ⟨h2,Or.inr e⟩ (Or.inr ⟨(h2.lt _ e).2,Nat.le_refl _⟩) (Or.inr e) h4 h5)
def Rd (w:World) (b:Nat) (v:Value) (l:List Nat):Prop :=
 (v = .slice none 0 0 ∧ l = []) ∨ ∃ a cap,v = .slice (some a) l.length cap ∧ a.block = b ∧ ∀ j u,(bs l)[j]? = some u → w.cell? (a.add j) = some u
theorem Rd.kept {S:Nat → Prop} {w w':World} {b:Nat} {v:Value} {l:List Nat} (h:Rd w b v l) (k:Kept S w w') (hb:¬ S b):Rd w' b v l:=by
 rcases h with h | ⟨a,cap,h1,h2,h3⟩
 ·exact .inl h
 ·refine .inr ⟨a,cap,h1,h2,fun j u hu=>?_⟩
  have hc:=h3 j u hu
  exact k.cell hc (by have e:(a.add j).block = a.block:=by { unfold Addr.add; split <;> rfl }; rw [e,h2]; exact hb)
theorem Rd.alloc {w:World} {b:Nat} {v:Value} {l:List Nat} (h:Rd w b v l) (o:Obj):Rd (w.alloc o) b v l:=h.kept ((Kept.refl (fun _=>False) w).alloc o) (fun h=>h)
theorem Rd.src {P:Program} {w:World} {b:Nat} {v:Value} {l:List Nat} (h:Rd w b v l) {t e:TypeId} (ht:P.underlying t = some (.slice e)):Src P 1 t v l.length (bs l) w:=by
 rcases h with ⟨rfl,rfl⟩ | ⟨a,cap,rfl,h2,h3⟩
 ·exact Src.ofNil w ht 0
 ·exact Src.ofSlice w ht a _ cap _ (by rw [bs_length]; omega) h3 (bs_one l)
theorem Row.rd {w:World} {g:Nat} {v:Value} {l:List Nat} (h:Row w g v l):Rd w g v l:=by
 rcases h.shape with h1 | ⟨cap,rfl,_⟩
 ·exact .inl h1
 ·exact .inr ⟨⟨g,0,none⟩,cap,rfl,rfl,fun j u hu=>h.1.cells (g:=g) rfl j u hu⟩
theorem Rd.shape {w:World} {b:Nat} {v:Value} {l:List Nat} (h:Rd w b v l):∃ a cap,v = .slice a l.length cap:=by
 rcases h with ⟨rfl,rfl⟩ | ⟨a,cap,rfl,_⟩
 ·exact ⟨none,0,rfl⟩
 ·exact ⟨some a,cap,rfl⟩
theorem Row.lit (w:World) (l:List Nat) (h:l.length ≤ maxLen):Row (w.alloc (.cells (bs l).toArray 5)) w.heap.size (.slice (some ⟨w.heap.size,0,none⟩) l.length l.length) l :=
 ⟨World.ownsRow_lit (base:=0) w (bs l).toArray l.length (Nat.zero_le _) h (by simp [bs_length]),Or.inr rfl⟩
def WIs (w:World) (b g:Nat) (l:List Nat):Prop:=∃ v,Box w b #[v] ∧ Row w g v l ∧ v.ownBlock ≠ some b ∧ g < w.heap.size
theorem set_size {w:World} {g:Nat} (h:g < w.heap.size) (a:Addr) (u:Value):g < (w.setCell a u).heap.size:=by simpa [World.setCell] using h
theorem WIs.kept {S:Nat → Prop} {w w':World} {b g:Nat} {l:List Nat} (h:WIs w b g l) (k:Kept S w w') (hb:¬ S b) (hg:¬ S g):WIs w' b g l:=by
 obtain ⟨v,h1,h2,h3,h4⟩:=h
 exact ⟨v,h1.kept k hb,h2.kept k (fun _=>hg),h3,Nat.lt_of_lt_of_le h4 k.size⟩
theorem WIs.gt {w:World} {b g:Nat} {l:List Nat} (h:WIs w b g l):g < w.heap.size:=by
 obtain ⟨v,_,_,_,h1⟩:=h
 exact h1
theorem WIs.step {w w' w1 : World} {b g g' g1 : Nat} {v v' : Value} {l' l2 : List Nat} (hb : Box w' b #[v]) (hv : Row w' g' v l') (hvb : v.ownBlock ≠ some b) (hgs : g' < w'.heap.size) (hgr : w'.grownBy w1 v.ownBlock) (hv' : Row w1 g1 v' l2)
  (hat:v'.ownBlock = v.ownBlock ∨ v'.ownBlock = some w'.heap.size) (hg1:g1 = g' ∨ g1 < w1.heap.size ∧ w'.heap.size ≤ g1) (hg:g' = g ∨ w.heap.size ≤ g') (hk:Kept (fun k=>k = b ∨ k = g) w w') :
  Box w1 b #[v] ∧ WIs (w1.setCell ⟨b,0,none⟩ v') b g1 l2 ∧ (g1 = g ∨ w.heap.size ≤ g1) ∧ Kept (fun k=>k = b ∨ k = g) w (w1.setCell ⟨b,0,none⟩ v'):=by
 have hlt:=hb.lt
 have hsz:=hk.size
 have hb1:Box w1 b #[v]:=hb.of_block (hgr.block b hlt (fun e=>hvb e.symm))
 have hne:v'.ownBlock ≠ some b:=by
  rcases hat with e | e
  ·rw [e]; exact hvb
  ·rw [e]; simp; omega
 have hgz:=hgr.size
 refine ⟨hb1,⟨v',?_,?_,hne,set_size (by omega) _ _⟩,by omega,?_⟩
 ·exact hb1.set 0 v'
 ·exact hv'.kept (S:=fun k=>k = b) ((Kept.refl (fun k=>k = b) w1).setCell (p:=⟨b,0,none⟩) (fun _=>rfl) v') (fun e h=>by subst h; exact hne e)
 ·refine Kept.setCell (hk.grown hgr ?_) (fun _=>Or.inl rfl) _
  intro k e hkw
  rcases hv.2 with h | h
  ·rw [h] at e; simp at e
  ·rw [h] at e; simp at e; subst e; right; omega
theorem WIs.lt {w:World} {b g:Nat} {l:List Nat} (h:WIs w b g l):b < w.heap.size:=by
 obtain ⟨v,h1,_⟩:=h
 exact h1.lt
end Go.Proofs.YtiiepfplommmfaaGreatDoor.Wire
