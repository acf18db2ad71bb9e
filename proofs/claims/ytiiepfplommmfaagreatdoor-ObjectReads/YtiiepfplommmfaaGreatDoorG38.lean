/-
  The document's own objects: Encode of any object that memory can hold.
-/
import Derived.Deep.RegionHeld3
import Derived.Test.YtiiepfplommmfaaGreatDoorG25
import Derived.Test.YtiiepfplommmfaaGreatDoorG37
import Derived.Test.YtiiepfplommmfaaGreatDoorG34
namespace Go.Proofs.YtiiepfplommmfaaGreatDoor
open Go.RowKit

def EncD (o:Ob) (w:World) (e:Ending) (w':World):Prop :=
 (((rightO o).1 ≠ 0 ∧ e = .returned (.tuple #[.slice none 0 0,.int .i64 ((rightO o).1:Int)])) ∨ ((rightO o).1 = 0 ∧ 8192 < (objB o).length ∧ e = .returned (.tuple #[.slice none 0 0,.int .i64 3])) ∨ ((rightO o).1 = 0 ∧ (objB o).length ≤ 8192 ∧ ∃ v g,e = .returned (.tuple #[v,.int .i64 0]) ∧ Wire.Row w' g v (objB o) ∧ w.heap.size ≤ g)) ∧ Below w.heap.size w w'
theorem byr_src {F:Nat → Prop} {w:World} {v:Value} {l:List UInt8} (h:ByR F w v l) {t e:TypeId} (ht:Tryz.prog.underlying t = some (.slice e)):Src Tryz.prog 1 t v (l.map UInt8.toNat).length (Wire.bs (l.map UInt8.toNat)) w:=by
 rcases h with ⟨a,c,rfl,rfl⟩ | ⟨g,o,cap,rfl,_,_,hc⟩
 ·cases a with
  | none=>exact Src.ofNil w ht c
  | some a=>exact Src.ofSlice w ht a 0 c _ (by simp [Wire.bs]) (by simp [Wire.bs]) (Wire.bs_one _)
 ·rw [List.length_map]
  refine Src.ofSlice w ht ⟨g,o,none⟩ _ cap _ (by rw [Wire.bs_length]; simp) (fun j u hu=>?_) (Wire.bs_one _)
  simp only [Wire.bs,List.getElem?_map] at hu
  cases hx:l[j]? with
  | none=>simp [hx] at hu
  | some x =>
   simp only [hx,Option.map_some,Option.some.injEq] at hu
   subst hu
   have:=hc j x hx
   unfold Addr.add
   split
   ·rename_i e
    subst e
    simpa using this
   ·exact this
theorem item_sz {x:It} (h:ItS x):(itemB x).length ≤ 6200:=by
 have h1:=h.kind
 have h2:=txtB_len x.name (by have:=h.name; omega)
 have h3:=Wire.enc_ten x.kind.toNat (by omega)
 have h4:=h.name
 unfold itemB
 split
 ·rename_i hk
  obtain ⟨_,h5,h6⟩:=h.cases1 hk
  have h7:=cases_sz x.cases h6
  have h8:=Wire.enc_ten x.cases.length (by omega)
  simp only [List.length_append]
  omega
 ·rename_i hk
  obtain ⟨_,h5⟩:=h.ty1 hk
  have h6:=txtB_len x.ty (by omega)
  simp only [List.length_append]
  omega
theorem new_cells (u:World) (xs:List Value) (t:TypeId) (j:Nat) (x:Value) (h:xs[j]? = some x):(u.alloc (.cells xs.toArray t)).cell? ⟨u.heap.size,j,none⟩ = some x:=by
 rw [cell_of_row _ _ j _ _ _ (heap_alloc_new u _)]
 simpa using h
theorem flat_sz {α:Type} (f:α → List Nat) (D:Nat):∀ (xs:List α),(∀ x ∈ xs,(f x).length ≤ D) → (xs.flatMap f).length ≤ D * xs.length
 | [],_=>by simp
 | x :: r,h=>by
  have h1:=h x (by simp)
  have h2:=flat_sz f D r (fun y hy=>h y (by simp [hy]))
  rw [List.flatMap_cons,List.length_append,List.length_cons,Nat.mul_add,Nat.mul_one]
  omega
theorem lsB_sz {α:Type} (E:α → List Nat) (D:Nat) (xs:List α) (h:∀ x ∈ xs,(E x).length ≤ D) (hn:xs.length ≤ 65535):(lsB E xs).length ≤ 10 + D * xs.length:=by
 have h1:=flat_sz E D xs h
 have h2:=Wire.enc_ten xs.length (by omega)
 rw [lsB,List.length_append]
 omega
theorem int_nat {n:Int} (h:0 ≤ n):∃ k:Nat,n = (k:Int):=⟨n.toNat,by omega⟩
theorem rNumA (n:Nat) (v:Value) (g:Nat) (L:List Nat) (w u:World) (b:Nat) (hr:Wire.Row w g v L) (hb:Below w.heap.size w u) (hc:u.cell? ⟨b,0,none⟩ = some (.int .i64 (n:Int))) (hn:n ≤ 1000000) (hL:L.length ≤ 900000000):Calls Tryz.prog 43 #[v,.slice (some ⟨b,0,none⟩) 1 1] u (RwE (L ++ Wire.enc n) u):=by
 have h:=rNums [n] v g L b u (rowRd hr hb) (fun j x hj=>by
  rcases j with _ | j
  ·simp only [List.getElem?_cons_zero,Option.some.injEq] at hj
   subst hj
   exact hc
  ·simp at hj) (fun x hx=>by rw [List.mem_singleton.1 hx]; exact hn) (by simp) (by simp) hL
 simpa using h
theorem rNumB (n n':Nat) (v:Value) (g:Nat) (L:List Nat) (w u:World) (b:Nat) (hr:Wire.Row w g v L) (hb:Below w.heap.size w u) (hc:u.cell? ⟨b,0,none⟩ = some (.int .i64 (n:Int)) ∧ u.cell? ⟨b,1,none⟩ = some (.int .i64 (n':Int))) (hn:n ≤ 1000000 ∧ n' ≤ 1000000) (hL:L.length ≤ 900000000):Calls Tryz.prog 43 #[v,.slice (some ⟨b,0,none⟩) 2 2] u (RwE (L ++ (Wire.enc n ++ Wire.enc n')) u):=by
 have h:=rNums [n,n'] v g L b u (rowRd hr hb) (fun j x hj=>by
  rcases j with _ | _ | j
  ·simp only [List.getElem?_cons_zero,Option.some.injEq] at hj
   subst hj
   exact hc.1
  ·simp only [List.getElem?_cons_succ,List.getElem?_cons_zero,Option.some.injEq] at hj
   subst hj
   exact hc.2
  ·simp at hj) (fun x hx=>by simp only [List.mem_cons,List.not_mem_nil,or_false] at hx; rcases hx with rfl | rfl <;> omega) (by simp) (by simp) hL
 simpa using h
theorem rNumC (n n' n'':Nat) (v:Value) (g:Nat) (L:List Nat) (w u:World) (b:Nat) (hr:Wire.Row w g v L) (hb:Below w.heap.size w u) (hc:u.cell? ⟨b,0,none⟩ = some (.int .i64 (n:Int)) ∧ u.cell? ⟨b,1,none⟩ = some (.int .i64 (n':Int)) ∧ u.cell? ⟨b,2,none⟩ = some (.int .i64 (n'':Int))) (hn:n ≤ 1000000 ∧ n' ≤ 1000000 ∧ n'' ≤ 1000000) (hL:L.length ≤ 900000000):Calls Tryz.prog 43 #[v,.slice (some ⟨b,0,none⟩) 3 3] u (RwE (L ++ (Wire.enc n ++ (Wire.enc n' ++ Wire.enc n''))) u):=by
 have h:=rNums [n,n',n''] v g L b u (rowRd hr hb) (fun j x hj=>by
  rcases j with _ | _ | _ | j
  ·simp only [List.getElem?_cons_zero,Option.some.injEq] at hj
   subst hj
   exact hc.1
  ·simp only [List.getElem?_cons_succ,List.getElem?_cons_zero,Option.some.injEq] at hj
   subst hj
   exact hc.2.1
  ·simp only [List.getElem?_cons_succ,List.getElem?_cons_zero,Option.some.injEq] at hj
   subst hj
   exact hc.2.2
  ·simp at hj) (fun x hx=>by simp only [List.mem_cons,List.not_mem_nil,or_false] at hx; rcases hx with rfl | rfl | rfl <;> omega) (by simp) (by simp) hL
 simpa using h
theorem fn_sz {f:Fn} (h:FnS f) (h24:f.params.length ≤ 24):(fnB f).length ≤ 72000:=by
 have t1:=txtB_len f.name (by have:=h.name; omega)
 have t2:=lsB_sz txtB 210 f.params (fun x hx=>by have h1:=h.params.2 x hx; have:=txtB_len x (by omega); omega) (by omega)
 have t3:=Wire.enc_ten f.caps.toNat (by have:=h.caps; omega)
 have t4:=txtB_len f.res (by have:=h.res; omega)
 have t5:=Wire.enc_ten f.locals.toNat (by have:=h.locals; omega)
 have t6:=txtB_len f.code (by have:=h.code; omega)
 have h1:=h.name
 have h2:=h.res
 have h3:=h.code
 unfold fnB
 simp only [List.length_append]
 omega
set_option maxHeartbeats 16000000 in
set_option maxRecDepth 1000000 in
theorem rEncode (F:Nat → Prop) (u:ObV) (o:Ob) (w:World) (h:ObR F w u o) (hF:∀ g,F g → g < w.heap.size) (hok:ObOk o):Calls Tryz.prog 9 #[obv u o.mod] w (EncD o w):=by
 have hRt:Hid (∀ v,Below w.heap.size w v → Calls Tryz.prog 7 #[obv u o.mod] v (TwoB (rightO o) v)):=fun v hv=>rRight F u o v (h.below hv hF) (fun g hg=>Nat.lt_of_lt_of_le (hF g hg) hv.size) hok
 have HSh:Hid ((rightO o).1 = 0 → ObS o):=fun e=>obj_short e
 have HMn:Hid ((rightO o).1 = 0 → o.types.length ≤ 32 ∧ o.texts.length ≤ 32 ∧ o.globals.length ≤ 32 ∧ o.exports.length ≤ 32 ∧ o.funs.length ≤ 48 ∧ o.symbols.length ≤ 96 ∧ o.relocs.length ≤ 384):=fun e=>many_no e
 have HP24:Hid ((rightO o).1 = 0 → ∀ f ∈ o.funs,f.params.length ≤ 24):=fun e f hf=>by
  obtain ⟨i,hi,rfl⟩:=List.getElem_of_mem hf
  have h1:=elem_zero e 3 i (by omega) hi
  have h2:funO o.globals (o.funs.take i) o.funs[i] = 0:=by rw [← h1,elemO,List.getElem?_eq_getElem hi]
  exact (fun_small h2).1
 have HTy:=hidden h.types
 have HTx:=hidden h.texts
 have HGl:=hidden h.globals
 have HFn:=hidden h.funs
 have HEx:=hidden h.exports
 have HSy:=hidden h.symbols
 have HRl:=hidden h.relocs
 have HOB:Hid (objB o = txtB o.mod ++ (lsB itemB o.types ++ (lsB txtB o.texts ++ (lsB glB o.globals ++ (lsB fnB o.funs ++ (lsB txtB o.exports ++ (lsB syB o.symbols ++ lsB rlB o.relocs))))))):=rfl
 unfold EncD
 generalize objB o = OB at *
 generalize rightO o = pr at *
 obtain ⟨a1,c1,e1⟩:=h.types.shape
 obtain ⟨a2,c2,e2⟩:=h.texts.1.shape
 obtain ⟨a3,c3,e3⟩:=h.globals.shape
 obtain ⟨a4,c4,e4⟩:=h.funs.shape
 obtain ⟨a5,c5,e5⟩:=h.exports.1.shape
 obtain ⟨a6,c6,e6⟩:=h.symbols.shape
 obtain ⟨a7,c7,e7⟩:=h.relocs.shape
 clear h hok
 obtain ⟨tv,xv,gv,fv,ev,sv,rv⟩:=u
 unfold obv at *
 simp only at *
 subst e1 e2 e3 e4 e5 e6 e7
 generalize hn1:o.types.length = n1 at *
 generalize hn2:o.texts.length = n2 at *
 generalize hn3:o.globals.length = n3 at *
 generalize hn4:o.funs.length = n4 at *
 generalize hn5:o.exports.length = n5 at *
 generalize hn6:o.symbols.length = n6 at *
 generalize hn7:o.relocs.length = n7 at *
 generalize hm:o.mod = m at *
 generalize hW:w.alloc (.cells #[.string (str m),.slice a1 n1 c1,.slice a2 n2 c2,.slice a3 n3 c3,.slice a4 n4 c4,.slice a5 n5 c5,.slice a6 n6 c6,.slice a7 n7 c7] 35) = W0 at *
 have hb0:Below w.heap.size w W0:=by rw [← hW]; exact (Below.refl _ _).alloc (Nat.le_refl _) _
 have hs0:W0.heap.size = w.heap.size + 1:=by rw [← hW]; simp
 have hN0:=heap_alloc_new w (.cells #[.string (str m),.slice a1 n1 c1,.slice a2 n2 c2,.slice a3 n3 c3,.slice a4 n4 c4,.slice a5 n5 c5,.slice a6 n6 c6,.slice a7 n7 c7] 35)
 rw [hW] at hN0
 have HCh:Hid (∀ u,Below W0.heap.size W0 u → (u.cell? ⟨w.heap.size,0,none⟩ = some (.string (str m)) ∧ u.cell? ⟨w.heap.size,1,none⟩ = some (.slice a1 n1 c1) ∧ u.cell? ⟨w.heap.size,2,none⟩ = some (.slice a2 n2 c2) ∧ u.cell? ⟨w.heap.size,3,none⟩ = some (.slice a3 n3 c3) ∧ u.cell? ⟨w.heap.size,4,none⟩ = some (.slice a4 n4 c4) ∧ u.cell? ⟨w.heap.size,5,none⟩ = some (.slice a5 n5 c5) ∧ u.cell? ⟨w.heap.size,6,none⟩ = some (.slice a6 n6 c6) ∧ u.cell? ⟨w.heap.size,7,none⟩ = some (.slice a7 n7 c7)) ∧ Below w.heap.size w u ∧ (∀ g,F g → g < u.heap.size)):=by
  intro u hu
  have n0:=(hu.block w.heap.size (by omega)).trans hN0
  have hwu:=below_trans hb0 hu
  exact ⟨cells8 n0,hwu,fun g hg=>Nat.lt_of_lt_of_le (hF g hg) hwu.size⟩
 obtain ⟨⟨x0,x1,x2,x3,x4,x5,x6,x7⟩,hw0,_⟩:=HCh.out W0 (Below.refl _ _)
 have hR1:=hRt.out W0 hw0
 go_enter Tryz.func9,Tryz.ntmps9
 go_wp2_with (refine wpList_load_row rfl 35 (.tmp 1) rfl w.heap.size rfl 35 _ (0,0) _ hN0 Tryz.underlying35 rfl sizeObQ ?_)
 refine hR1.mono ?_
 rintro e w1 ⟨rfl,hb1⟩
 clear hR1 hRt hN0 x0 x1 x2 x3 x4 x5 x6 x7
 obtain ⟨⟨x0,x1,x2,x3,x4,x5,x6,x7⟩,hw1,_⟩:=HCh.out w1 hb1
 obtain ⟨p1,p2⟩:=pr
 simp only at *
 by_cases hp:p1 = 0
 case neg =>
  have hpi:((p1:Int) == 0) = false:=by simp [hp]
  have HP:=hidden hp
  clear hp HSh HMn HP24
  go_wp2
  go_ret2
  exact ⟨.inl ⟨HP.out,rfl⟩,hw1⟩
 have hS:=HSh.out hp
 obtain ⟨l1,l2,l3,l5,l4,l6,l7⟩:=HMn.out hp
 have hP24:=hidden (HP24.out hp)
 have HS:=hidden hS
 have hml:m.length ≤ 24:=by rw [← hm]; exact hS.mod
 have htm:=txtB_len m (by omega)
 have hT0:=rT w1 (.slice none 0 0) 0 [] m (.inl ⟨rfl,rfl⟩) (by simp) (by omega)
 subst hp
 clear HSh HMn HP24 hS
 go_wp2_with fail
 refine hT0.mono ?_
 rintro e w2 ⟨v2,g2,rfl,hr2,hf2,hb2⟩
 rw [List.nil_append] at hr2
 have hb02:=below_trans hb1 hb2
 clear hT0 x0 x1 x2 x3 x4 x5 x6 x7
 obtain ⟨⟨x0,x1,x2,x3,x4,x5,x6,x7⟩,hw2,_⟩:=HCh.out w2 hb02
 have hl2:(txtB m).length ≤ 34:=by omega
 have HE0:Hid (OB = txtB m ++ (lsB itemB o.types ++ (lsB txtB o.texts ++ (lsB glB o.globals ++ (lsB fnB o.funs ++ (lsB txtB o.exports ++ (lsB syB o.symbols ++ lsB rlB o.relocs))))))):=HOB.out
 clear HOB htm
 generalize txtB m = LL at *
 have hA:=rNumA n1 _ _ _ w2 (w2.alloc (.cells #[.int .i64 (n1:Int)] 3)) w2.heap.size hr2 ((Below.refl _ w2).alloc (Nat.le_refl _) _) (new_cells w2 [.int .i64 (n1:Int)] 3 0 _ rfl) (by omega) (by omega)
 have hten:=Wire.enc_ten n1 (by omega)
 have hal:Below w2.heap.size w2 (w2.alloc (.cells #[.int .i64 (n1:Int)] 3)):=(Below.refl _ w2).alloc (Nat.le_refl _) _
 obtain ⟨xa,xn,hxs⟩:=hr2.rd.shape
 subst hxs
 generalize hL3:LL ++ Wire.enc n1 = L3 at *
 go_wp2_with fail
 refine hA.mono ?_
 rintro e w3 ⟨v3,g3,rfl,hr3,hf3,hb3⟩
 have hb03:=below_trans hb02 (below_trans hal hb3)
 clear hA x0 x1 x2 x3 x4 x5 x6 x7
 obtain ⟨⟨x0,x1,x2,x3,x4,x5,x6,x7⟩,hw3,hF3⟩:=HCh.out w3 hb03
 have HE3:Hid (OB = L3 ++ (o.types.flatMap itemB ++ (lsB txtB o.texts ++ (lsB glB o.globals ++ (lsB fnB o.funs ++ (lsB txtB o.exports ++ (lsB syB o.symbols ++ lsB rlB o.relocs))))))):=by
  rw [hid_iff,HE0.out, ← hL3,lsB,hn1]
  simp only [List.append_assoc]
 have hl3:L3.length ≤ 44:=by rw [← hL3,List.length_append]; omega
 clear HE0 hL3
 go_wp2_with fail
 go_loopg [6,7] n1 (fun gk a i wr=>∃ (k g:Nat),gk + k = n1 ∧ i = .int .i64 (k:Int) ∧ Wire.Row wr g a (L3 ++ (o.types.take k).flatMap itemB) ∧ (L3 ++ (o.types.take k).flatMap itemB).length ≤ 44 + 6200 * k ∧ w.heap.size ≤ g ∧ Below W0.heap.size W0 wr)
 case atStart=>exact ⟨0,g3,by omega,rfl,by simpa using hr3,by simpa using hl3,by have:=hw2.size; have:=hal.size; omega,hb03⟩
 case round =>
  clear x0 x1 x2 x3 x4 x5 x6 x7
  obtain ⟨k,g,hgk,rfl,hrow,hlen,hgf,hbl⟩:=hrel
  rename World=>wr
  obtain ⟨⟨x0,x1,x2,x3,x4,x5,x6,x7⟩,hwr,hFr⟩:=HCh.out wr hbl
  by_cases hk:k < n1
  ·have hkt:k < o.types.length:=by omega
   obtain ⟨gt,of,cap,cv,e1,hgF,hcv,q0,q1,q2,q3⟩:=(HTy.out.below hwr hF).at k hkt
   simp only [Value.slice.injEq] at e1
   obtain ⟨rfl,e1,rfl⟩:=e1
   have hki:(k:Int) < (n1:Int):=by omega
   have hit:=HS.out.types.2 _ (List.getElem_mem hkt)
   have hsz:=item_sz hit
   have hfl:Hid (L3 ++ (o.types.take (k + 1)).flatMap itemB = (L3 ++ (o.types.take k).flatMap itemB) ++ itemB o.types[k]):=by rw [hid_iff,flatM_at itemB o.types k hkt]; simp only [List.append_assoc]
   have hgs:=hbl.size
   obtain ⟨ca,cc,rfl⟩:=hcv.shape
   generalize L3 ++ (o.types.take k).flatMap itemB = LK at *
   have hI:=refItemB F _ g LK o.types[k] _ wr hrow.rd hcv hFr hit (by omega)
   unfold itv at hI
   obtain ⟨xa,xn,hxs⟩:=hrow.rd.shape
   subst hxs
   generalize o.types[k] = it at *
   obtain ⟨kd,nm,ty,cs⟩:=it
   simp only at *
   have hle:(L3 ++ (o.types.take (k + 1)).flatMap itemB).length ≤ 44 + 6200 * (k + 1):=by rw [hfl.out,List.length_append]; omega
   have HLE:=hidden hle
   clear e1 hit hcv hle hlen
   go_wp2_with fail
   refine hI.mono ?_
   rintro e w5 ⟨v5,g5,rfl,hr5,hf5,hb5⟩
   have hb05:=below_trans hbl hb5
   clear x0 x1 x2 x3 x4 x5 x6 x7 q0 q1 q2 q3
   obtain ⟨⟨x0,x1,x2,x3,x4,x5,x6,x7⟩,hw5,hF5⟩:=HCh.out w5 hb05
   have hgs2:=hwr.size
   go_wp2
   go_roundg (n1 - (k + 1))
   case measure=>omega
   case rel=>exact ⟨k + 1,g5,by omega,by go_num,by rw [hfl.out]; exact hr5,HLE.out,by omega,hb05⟩
  ·have hki:¬ (k:Int) < (n1:Int):=by omega
   rw [List.take_of_length_le (by omega)] at hrow hlen
   have hl4:(L3 ++ o.types.flatMap itemB).length ≤ 200000:=by omega
   have HE4:Hid (OB = (L3 ++ o.types.flatMap itemB) ++ (lsB txtB o.texts ++ (lsB glB o.globals ++ (lsB fnB o.funs ++ (lsB txtB o.exports ++ (lsB syB o.symbols ++ lsB rlB o.relocs)))))):=by
    rw [hid_iff,HE3.out]
    simp only [List.append_assoc]
   have hTx:=rTexts F _ g _ _ o.texts wr hrow.rd (HTx.out.1.below hwr hF) hFr HS.out.texts.2 (by omega) (by omega)
   have hsz:=lsB_sz txtB 210 o.texts (fun x hx=>by have h1:=HS.out.texts.2 x hx; have:=txtB_len x (by omega); omega) (by omega)
   rw [hn2] at hsz
   have hgs:=hbl.size
   obtain ⟨xa,xn,hxs⟩:=hrow.rd.shape
   subst hxs
   generalize L3 ++ o.types.flatMap itemB = L4 at *
   have hl5:(L4 ++ lsB txtB o.texts).length ≤ 210000:=by rw [List.length_append]; omega
   generalize hL5:L4 ++ lsB txtB o.texts = L5 at *
   go_wp2_with fail
   refine hTx.mono ?_
   rintro e w5 ⟨v5,g5,rfl,hr5,hf5,hb5⟩
   have hb05:=below_trans hbl hb5
   have HE5:Hid (OB = L5 ++ (lsB glB o.globals ++ (lsB fnB o.funs ++ (lsB txtB o.exports ++ (lsB syB o.symbols ++ lsB rlB o.relocs))))):=by
    rw [hid_iff,HE4.out, ← hL5]
    simp only [List.append_assoc]
   clear hTx x0 x1 x2 x3 x4 x5 x6 x7 HE3 HE4 hL5 hr3 hb3 hf3 hal
   obtain ⟨⟨x0,x1,x2,x3,x4,x5,x6,x7⟩,hw5,hF5⟩:=HCh.out w5 hb05
   have hA:=rNumA n3 _ _ _ w5 (w5.alloc (.cells #[.int .i64 (n3:Int)] 3)) w5.heap.size hr5 ((Below.refl _ w5).alloc (Nat.le_refl _) _) (new_cells w5 [.int .i64 (n3:Int)] 3 0 _ rfl) (by omega) (by omega)
   have hten:=Wire.enc_ten n3 (by omega)
   have hal:Below w5.heap.size w5 (w5.alloc (.cells #[.int .i64 (n3:Int)] 3)):=(Below.refl _ w5).alloc (Nat.le_refl _) _
   obtain ⟨xa,xn,hxs⟩:=hr5.rd.shape
   subst hxs
   generalize hL6:L5 ++ Wire.enc n3 = L6 at *
   go_wp2_with fail
   refine hA.mono ?_
   rintro e w6 ⟨v6,g6,rfl,hr6,hf6,hb6⟩
   have hb06:=below_trans hb05 (below_trans hal hb6)
   clear hA x0 x1 x2 x3 x4 x5 x6 x7
   obtain ⟨⟨x0,x1,x2,x3,x4,x5,x6,x7⟩,hw6,hF6⟩:=HCh.out w6 hb06
   have HE6:Hid (OB = L6 ++ (o.globals.flatMap glB ++ (lsB fnB o.funs ++ (lsB txtB o.exports ++ (lsB syB o.symbols ++ lsB rlB o.relocs))))):=by
    rw [hid_iff,HE5.out, ← hL6,lsB,hn3]
    simp only [List.append_assoc]
   have hl6:L6.length ≤ 210010:=by rw [← hL6,List.length_append]; omega
   have hg6:w.heap.size ≤ g6:=by have:=hw5.size; have:=hal.size; omega
   clear HE5 hL6 hal
   go_wp2_with fail
   go_loopg [6,8] n3 (fun gk a i wr=>∃ (k g:Nat),gk + k = n3 ∧ i = .int .i64 (k:Int) ∧ Wire.Row wr g a (L6 ++ (o.globals.take k).flatMap glB) ∧ (L6 ++ (o.globals.take k).flatMap glB).length ≤ 210010 + 300 * k ∧ w.heap.size ≤ g ∧ Below W0.heap.size W0 wr)
   case atStart=>exact ⟨0,g6,by omega,rfl,by simpa using hr6,by simpa using hl6,hg6,hb06⟩
   case round =>
    clear x0 x1 x2 x3 x4 x5 x6 x7 hrow hbl hr5 hr6 hb06 hb05
    obtain ⟨k,g,hgk,rfl,hrow,hlen,hgf,hbl⟩:=hrel
    rename World=>wr
    obtain ⟨⟨x0,x1,x2,x3,x4,x5,x6,x7⟩,hwr,hFr⟩:=HCh.out wr hbl
    by_cases hk:k < n3
    ·have hkt:k < o.globals.length:=by omega
     obtain ⟨gt,of,cap,cs,e1,_,hgF,hC,hcell⟩:=(HGl.out.below cGl_stay hwr hF).at k hkt
     simp only [Value.slice.injEq] at e1
     obtain ⟨rfl,e1,rfl⟩:=e1
     unfold cGl at hC
     subst hC
     have q0:=hcell 0 _ rfl
     have q1:=hcell 1 _ rfl
     have q2:=hcell 2 _ rfl
     simp only [Nat.add_zero] at q0
     have hki:(k:Int) < (n3:Int):=by omega
     obtain ⟨s1,s2,s3,s4⟩:=HS.out.globals.2 _ (List.getElem_mem hkt)
     have hfl:Hid (L6 ++ (o.globals.take (k + 1)).flatMap glB = (L6 ++ (o.globals.take k).flatMap glB) ++ (txtB o.globals[k].name ++ (txtB o.globals[k].ty ++ Wire.enc o.globals[k].fn.toNat))):=by rw [hid_iff,flatM_at glB o.globals k hkt,glB]; simp only [List.append_assoc]
     have hgs:=hbl.size
     have hgs2:=hwr.size
     generalize L6 ++ (o.globals.take k).flatMap glB = LK at *
     generalize o.globals[k].name = nm at *
     generalize o.globals[k].ty = ty at *
     generalize o.globals[k].fn = fn at *
     obtain ⟨fN,rfl⟩:=int_nat s3
     rw [Int.toNat_natCast] at hfl
     have t1:=txtB_len nm (by omega)
     have t2:=txtB_len ty (by omega)
     have t3:=Wire.enc_ten fN (by omega)
     generalize hWs:wr.alloc (.cells #[.string (str nm),.string (str ty),.int .i64 (fN:Int)] 74) = ws at *
     have hbs:Below wr.heap.size wr ws:=by rw [← hWs]; exact (Below.refl _ _).alloc (Nat.le_refl _) _
     have hNs:=heap_alloc_new wr (.cells #[.string (str nm),.string (str ty),.int .i64 (fN:Int)] 74)
     rw [hWs] at hNs
     have hss:wr.heap.size < ws.heap.size:=(Array.getElem?_eq_some_iff.1 hNs).1
     have hSk:∀ u,Below ws.heap.size ws u → u.cell? ⟨wr.heap.size,0,none⟩ = some (.string (str nm)) ∧ u.cell? ⟨wr.heap.size,1,none⟩ = some (.string (str ty)) ∧ u.cell? ⟨wr.heap.size,2,none⟩ = some (.int .i64 (fN:Int)):=fun u hu=>cells3 ((hu.block _ hss).trans hNs)
     have hrs:Wire.Rd ws g _ LK:=rowRd hrow hbs
     have hT1:∀ u,Below ws.heap.size ws u → Calls Tryz.prog 42 #[_,.string (str nm)] u (RwE (LK ++ txtB nm) u):=fun u hu=>rT u _ g LK nm (rdV hrs hu) (by omega) (by omega)
     have hT2:∀ w2 v2 g2,Wire.Row w2 g2 v2 (LK ++ txtB nm) → ∀ u,Below w2.heap.size w2 u → Calls Tryz.prog 42 #[v2,.string (str ty)] u (RwE ((LK ++ txtB nm) ++ txtB ty) u):=fun w2 v2 g2 h u hu=>rT u _ g2 _ ty (rowRd h hu) (by rw [List.length_append]; omega) (by omega)
     have hN3:∀ w3 v3 g3,Wire.Row w3 g3 v3 ((LK ++ txtB nm) ++ txtB ty) → ∀ u b,Below w3.heap.size w3 u → u.cell? ⟨b,0,none⟩ = some (.int .i64 (fN:Int)) → Calls Tryz.prog 43 #[v3,.slice (some ⟨b,0,none⟩) 1 1] u (RwE (((LK ++ txtB nm) ++ txtB ty) ++ Wire.enc fN) u):=fun w3 v3 g3 h u b hu hc=>rNumA fN _ _ _ w3 u b h hu hc (by omega) (by simp only [List.length_append]; omega)
     have hle:(L6 ++ (o.globals.take (k + 1)).flatMap glB).length ≤ 210010 + 300 * (k + 1):=by rw [hfl.out]; simp only [List.length_append]; omega
     have HLE:=hidden hle
     obtain ⟨xa,xn,hxs⟩:=hrow.rd.shape
     subst hxs
     have hbD:Below ws.heap.size ws ws.drew:=(Below.refl _ _).drew
     have hbA2:Below ws.heap.size ws (ws.alloc (.cells #[.int .i64 (fN:Int)] 3)).drew:=((Below.refl _ _).alloc (Nat.le_refl _) _).drew
     have hcA2:(ws.alloc (.cells #[.int .i64 (fN:Int)] 3)).drew.cell? ⟨ws.heap.size,0,none⟩ = some (.int .i64 (fN:Int)):=new_cells ws [.int .i64 (fN:Int)] 3 0 _ rfl
     have hAl:∀ u:World,Below u.heap.size u (u.alloc (.cells #[.int .i64 (fN:Int)] 3)) ∧ (u.alloc (.cells #[.int .i64 (fN:Int)] 3)).cell? ⟨u.heap.size,0,none⟩ = some (.int .i64 (fN:Int)):=fun u=>⟨(Below.refl _ u).alloc (Nat.le_refl _) _,new_cells u [.int .i64 (fN:Int)] 3 0 _ rfl⟩
     clear e1 hcell hle hlen hNs s1 s2 s3 s4 t1 t2 t3 hrs
     go_upto_region 16 with fail
     clear x0 x1 x2 x4 x5 x6 x7 q0 q1 q2
     go_region_held3 (fun u=>u.cell? ⟨wr.heap.size,0,none⟩ = some (.string (str nm)) ∧ u.cell? ⟨wr.heap.size,1,none⟩ = some (.string (str ty)) ∧ u.cell? ⟨wr.heap.size,2,none⟩ = some (.int .i64 (fN:Int))) (first | exact hSk _ (by assumption) | go_keep) (first
      | (go_at_call_of 42 (str nm); first
       | ((with_reducible show Calls _ _ _ (World.drew (World.alloc _ _)) _); refine (hT1 (ws.alloc (.cells #[.int .i64 (fN:Int)] 3)).drew hbA2).mono ?_; rintro e w2 ⟨v2,g2,rfl,hr2,hf2,hb2⟩; have G2:=below_trans hbA2 hb2; have hcq:=(hb2.cell (p:=⟨ws.heap.size,0,none⟩) (by simp)).trans hcA2)
       | (refine (hT1 ws.drew hbD).mono ?_; rintro e w2 ⟨v2,g2,rfl,hr2,hf2,hb2⟩; have G2:=below_trans hbD hb2))
      | (go_at_call_of 42 (str ty); first
       | ((with_reducible show Calls _ _ _ (World.alloc _ _) _); refine (hT2 w2 _ g2 hr2 (w2.alloc (.cells #[.int .i64 (fN:Int)] 3)) (hAl w2).1).mono ?_; rintro e w3 ⟨v3,g3,rfl,hr3,hf3,hb3⟩; have G3:=below_trans G2 (below_trans (hAl w2).1 hb3); have hcq:=(hb3.cell (p:=⟨w2.heap.size,0,none⟩) (by simp)).trans (hAl w2).2)
       | (refine (hT2 w2 _ g2 hr2 w2 (Below.refl _ _)).mono ?_; rintro e w3 ⟨v3,g3,rfl,hr3,hf3,hb3⟩; have G3:=below_trans G2 hb3; try (have hcq:=(hb3.cell (p:=⟨ws.heap.size,0,none⟩) (by have:=World.block_lt_of_cell? w2 _ hcq; exact this)).trans hcq)))
      | (go_at_call 43; first
       | ((with_reducible show Calls _ _ _ (World.alloc _ _) _); refine (hN3 w3 _ g3 hr3 (w3.alloc (.cells #[.int .i64 (fN:Int)] 3)) w3.heap.size (hAl w3).1 (hAl w3).2).mono ?_; rintro e w4 ⟨v4,g4,rfl,hr4,hf4,hb4⟩; have G4:=below_trans G3 (below_trans (hAl w3).1 hb4))
       | (refine (hN3 w3 _ g3 hr3 w3 _ (Below.refl _ _) hcq).mono ?_; rintro e w4 ⟨v4,g4,rfl,hr4,hf4,hb4⟩; have G4:=below_trans G3 hb4)))
     all_goals (
      have hb05:=below_trans hbl (below_trans hbs G4)
      have hgg:w.heap.size ≤ g4:=by have:=G3.size; have:=(hAl w3).1.size; omega
      have HR4:Hid (Wire.Row w4 g4 v4 (L6 ++ (o.globals.take (k + 1)).flatMap glB)):=by rw [hid_iff,hfl.out]; simpa only [List.append_assoc] using hr4
      obtain ⟨⟨x0,x1,x2,x3,x4,x5,x6,x7⟩,hw5,hF5⟩:=HCh.out w4 hb05
      clear hT1 hT2 hN3 hAl hSk hbA2 hcA2 hbD hr2 hr3 hr4 hb2 hb3 hb4 hfl
      go_wp2
      go_roundg (n3 - (k + 1))
      case measure=>omega
      case rel=>exact ⟨k + 1,g4,by omega,by go_num,HR4.out,HLE.out,hgg,hb05⟩)
    ·have hki:¬ (k:Int) < (n3:Int):=by omega
     rw [List.take_of_length_le (by omega)] at hrow hlen
     have HE7:Hid (OB = (L6 ++ o.globals.flatMap glB) ++ (lsB fnB o.funs ++ (lsB txtB o.exports ++ (lsB syB o.symbols ++ lsB rlB o.relocs)))):=by
      rw [hid_iff,HE6.out]
      simp only [List.append_assoc]
     have hl7:(L6 ++ o.globals.flatMap glB).length ≤ 220000:=by omega
     have hgs:=hbl.size
     have hr7:=hrow
     have hb07:=hbl
     rename World=>w7
     clear HE6 hrow hlen hbl
     generalize L6 ++ o.globals.flatMap glB = L7 at *
     have hA:=rNumA n4 _ _ _ w7 (w7.alloc (.cells #[.int .i64 (n4:Int)] 3)) w7.heap.size hr7 ((Below.refl _ w7).alloc (Nat.le_refl _) _) (new_cells w7 [.int .i64 (n4:Int)] 3 0 _ rfl) (by omega) (by omega)
     have hten:=Wire.enc_ten n4 (by omega)
     have hal:Below w7.heap.size w7 (w7.alloc (.cells #[.int .i64 (n4:Int)] 3)):=(Below.refl _ w7).alloc (Nat.le_refl _) _
     obtain ⟨xa,xn,hxs⟩:=hr7.rd.shape
     subst hxs
     generalize hL8:L7 ++ Wire.enc n4 = L8 at *
     go_wp2_with fail
     refine hA.mono ?_
     rintro e w8 ⟨v8,g8,rfl,hr8,hf8,hb8⟩
     have hb08:=below_trans hb07 (below_trans hal hb8)
     clear hA x0 x1 x2 x3 x4 x5 x6 x7
     obtain ⟨⟨x0,x1,x2,x3,x4,x5,x6,x7⟩,hw8,hF8⟩:=HCh.out w8 hb08
     have HE8:Hid (OB = L8 ++ (o.funs.flatMap fnB ++ (lsB txtB o.exports ++ (lsB syB o.symbols ++ lsB rlB o.relocs)))):=by
      rw [hid_iff,HE7.out, ← hL8,lsB,hn4]
      simp only [List.append_assoc]
     have hl8:L8.length ≤ 220010:=by rw [← hL8,List.length_append]; omega
     have hg8:w.heap.size ≤ g8:=by have:=hwr.size; have:=hal.size; omega
     clear HE7 hL8 hal
     go_wp2_with fail
     go_loopg [6,10] n4 (fun gk a i wr=>∃ (k g:Nat),gk + k = n4 ∧ i = .int .i64 (k:Int) ∧ Wire.Row wr g a (L8 ++ (o.funs.take k).flatMap fnB) ∧ (L8 ++ (o.funs.take k).flatMap fnB).length ≤ 220010 + 72000 * k ∧ w.heap.size ≤ g ∧ Below W0.heap.size W0 wr)
     case atStart=>exact ⟨0,g8,by omega,rfl,by simpa using hr8,by simpa using hl8,hg8,hb08⟩
     case round =>
      clear x0 x1 x2 x3 x4 x5 x6 x7 hr8 hb08 hr7 hb07
      obtain ⟨k,g,hgk,rfl,hrow,hlen,hgf,hbl⟩:=hrel
      rename World=>wr
      obtain ⟨⟨x0,x1,x2,x3,x4,x5,x6,x7⟩,hwr,hFr⟩:=HCh.out wr hbl
      by_cases hk:k < n4
      ·have hkt:k < o.funs.length:=by omega
       obtain ⟨gt,of,cap,cs,e1,_,hgF,hC,hcell⟩:=(HFn.out.below cFn_stay hwr hF).at k hkt
       simp only [Value.slice.injEq] at e1
       obtain ⟨rfl,e1,rfl⟩:=e1
       obtain ⟨pv,kv,rfl,hpv,hkv⟩:=hC
       have q0:=hcell 0 _ rfl
       have q1:=hcell 1 _ rfl
       have q2:=hcell 2 _ rfl
       have q3:=hcell 3 _ rfl
       have q4:=hcell 4 _ rfl
       have q5:=hcell 5 _ rfl
       simp only [Nat.add_zero] at q0
       have hki:(k:Int) < (n4:Int):=by omega
       have hfs:=HS.out.funs.2 _ (List.getElem_mem hkt)
       have h24:=hP24.out _ (List.getElem_mem hkt)
       have hsz:=fn_sz hfs h24
       have hfl:Hid (L8 ++ (o.funs.take (k + 1)).flatMap fnB = (L8 ++ (o.funs.take k).flatMap fnB) ++ fnB o.funs[k]):=by rw [hid_iff,flatM_at fnB o.funs k hkt]; simp only [List.append_assoc]
       have hgs:=hbl.size
       have hgs2:=hwr.size
       generalize L8 ++ (o.funs.take k).flatMap fnB = LK at *
       have hle:(L8 ++ (o.funs.take (k + 1)).flatMap fnB).length ≤ 220010 + 72000 * (k + 1):=by rw [hfl.out]; simp only [List.length_append]; omega
       have HLE:=hidden hle
       generalize o.funs[k] = fk at *
       obtain ⟨nm,ps,cp,rs,lc,cd⟩:=fk
       obtain ⟨s1,⟨s2,s3⟩,⟨s4,s5⟩,s6,⟨s7,s8⟩,s9⟩:=hfs
       simp only at *
       obtain ⟨cN,rfl⟩:=int_nat s4
       obtain ⟨lN,rfl⟩:=int_nat s7
       replace hfl:Hid (L8 ++ (o.funs.take (k + 1)).flatMap fnB = LK ++ (txtB nm ++ (lsB txtB ps ++ (Wire.enc cN ++ (txtB rs ++ (Wire.enc lN ++ txtB cd)))))):=hfl
       have hLKl:LK.length ≤ 3700000:=by omega
       obtain ⟨pa,pc,rfl⟩:=hpv.1.shape
       obtain ⟨ka,kc,rfl⟩:=hkv.shape
       have t1:=txtB_len nm (by omega)
       have t2:=lsB_sz txtB 210 ps (fun x hx=>by have h1:=s3 x hx; have:=txtB_len x (by omega); omega) (by omega)
       have t3:=Wire.enc_ten cN (by omega)
       have t4:=txtB_len rs (by omega)
       generalize hnps:ps.length = np at *
       generalize hncd:cd.length = nc at *
       generalize hWs:wr.alloc (.cells #[.string (str nm),.slice pa np pc,.int .i64 (cN:Int),.string (str rs),.int .i64 (lN:Int),.slice ka nc kc] 54) = ws at *
       have hbs:Below wr.heap.size wr ws:=by rw [← hWs]; exact (Below.refl _ _).alloc (Nat.le_refl _) _
       have hNs:=heap_alloc_new wr (.cells #[.string (str nm),.slice pa np pc,.int .i64 (cN:Int),.string (str rs),.int .i64 (lN:Int),.slice ka nc kc] 54)
       rw [hWs] at hNs
       have hss:wr.heap.size < ws.heap.size:=(Array.getElem?_eq_some_iff.1 hNs).1
       have hSk:∀ u,Below ws.heap.size ws u → u.cell? ⟨wr.heap.size,0,none⟩ = some (.string (str nm)) ∧ u.cell? ⟨wr.heap.size,1,none⟩ = some (.slice pa np pc) ∧ u.cell? ⟨wr.heap.size,2,none⟩ = some (.int .i64 (cN:Int)) ∧ u.cell? ⟨wr.heap.size,3,none⟩ = some (.string (str rs)) ∧ u.cell? ⟨wr.heap.size,4,none⟩ = some (.int .i64 (lN:Int)) ∧ u.cell? ⟨wr.heap.size,5,none⟩ = some (.slice ka nc kc):=fun u hu=>cells6 ((hu.block _ hss).trans hNs)
       have HSk:=hidden hSk
       have hrs:Wire.Rd ws g _ LK:=rowRd hrow hbs
       have hbws:=below_trans hbl hbs
       have hFs:∀ u,Below ws.heap.size ws u → TxR F u (.slice pa np pc) ps ∧ ∀ g,F g → g < u.heap.size:=fun u hu=>⟨hpv.1.below (below_trans hbs hu) hFr,(HCh.out u (below_trans hbws hu)).2.2⟩
       have HKv:Hid (∀ u,Below ws.heap.size ws u → Src Tryz.prog 1 42 (.slice ka nc kc) (cd.map UInt8.toNat).length (Wire.bs (cd.map UInt8.toNat)) u):=fun u hu=>byr_src (hkv.frame fun g hg=>⟨hg,(below_trans hbs hu).block g (hFr g hg)⟩) Tryz.underlying42
       have hT1:∀ u,Below ws.heap.size ws u → Calls Tryz.prog 42 #[_,.string (str nm)] u (RwE (LK ++ txtB nm) u):=fun u hu=>rT u _ g LK nm (rdV hrs hu) (by omega) (by omega)
       have hT2:∀ w2 v2 g2,Wire.Row w2 g2 v2 (LK ++ txtB nm) → Below ws.heap.size ws w2 → ∀ u,Below w2.heap.size w2 u → Calls Tryz.prog 45 #[v2,.slice pa np pc] u (RwE ((LK ++ txtB nm) ++ lsB txtB ps) u):=fun w2 v2 g2 h hw u hu=>rTexts F _ g2 _ _ ps u (rowRd h hu) (hFs u (below_trans hw hu)).1 (hFs u (below_trans hw hu)).2 s3 (by omega) (by rw [List.length_append]; omega)
       have hN3:∀ w3 v3 g3,Wire.Row w3 g3 v3 ((LK ++ txtB nm) ++ lsB txtB ps) → ∀ u b,Below w3.heap.size w3 u → u.cell? ⟨b,0,none⟩ = some (.int .i64 (cN:Int)) → Calls Tryz.prog 43 #[v3,.slice (some ⟨b,0,none⟩) 1 1] u (RwE (((LK ++ txtB nm) ++ lsB txtB ps) ++ Wire.enc cN) u):=fun w3 v3 g3 h u b hu hc=>rNumA cN _ _ _ w3 u b h hu hc (by omega) (by simp only [List.length_append]; omega)
       obtain ⟨xa,xn,hxs⟩:=hrow.rd.shape
       subst hxs
       have hbD:Below ws.heap.size ws ws.drew:=(Below.refl _ _).drew
       have hbA2:Below ws.heap.size ws (ws.alloc (.cells #[.int .i64 (cN:Int)] 3)).drew:=((Below.refl _ _).alloc (Nat.le_refl _) _).drew
       have hcA2:(ws.alloc (.cells #[.int .i64 (cN:Int)] 3)).drew.cell? ⟨ws.heap.size,0,none⟩ = some (.int .i64 (cN:Int)):=new_cells ws [.int .i64 (cN:Int)] 3 0 _ rfl
       have hAl:∀ u:World,Below u.heap.size u (u.alloc (.cells #[.int .i64 (cN:Int)] 3)) ∧ (u.alloc (.cells #[.int .i64 (cN:Int)] 3)).cell? ⟨u.heap.size,0,none⟩ = some (.int .i64 (cN:Int)):=fun u=>⟨(Below.refl _ u).alloc (Nat.le_refl _) _,new_cells u [.int .i64 (cN:Int)] 3 0 _ rfl⟩
       clear e1 hcell hle hlen hNs hrs hpv hkv
       go_upto_region 22 with fail
       clear x0 x1 x2 x3 x5 x6 x7 q0 q1 q2 q3 q4 q5
       go_cut [6] (fun a wx=>∃ g3,Wire.Row wx g3 a (((LK ++ txtB nm) ++ lsB txtB ps) ++ Wire.enc cN) ∧ ws.heap.size ≤ g3 ∧ Below ws.heap.size ws wx)
       case first =>
        clear hfl HLE
        go_region_held3 (fun u=>u.cell? ⟨wr.heap.size,0,none⟩ = some (.string (str nm)) ∧ u.cell? ⟨wr.heap.size,1,none⟩ = some (.slice pa np pc) ∧ u.cell? ⟨wr.heap.size,2,none⟩ = some (.int .i64 (cN:Int))) (first | exact ⟨(hSk _ (by assumption)).1,(hSk _ (by assumption)).2.1,(hSk _ (by assumption)).2.2.1⟩ | go_keep) (first
         | (go_at_call 42; first
          | ((with_reducible show Calls _ _ _ (World.drew (World.alloc _ _)) _); refine (hT1 (ws.alloc (.cells #[.int .i64 (cN:Int)] 3)).drew hbA2).mono ?_; rintro e w2 ⟨v2,g2,rfl,hr2,hf2,hb2⟩; have G2:=below_trans hbA2 hb2; have hcq:=(hb2.cell (p:=⟨ws.heap.size,0,none⟩) (by simp)).trans hcA2)
          | (refine (hT1 ws.drew hbD).mono ?_; rintro e w2 ⟨v2,g2,rfl,hr2,hf2,hb2⟩; have G2:=below_trans hbD hb2))
         | (go_at_call 45; first
          | ((with_reducible show Calls _ _ _ (World.alloc _ _) _); refine (hT2 w2 _ g2 hr2 G2 (w2.alloc (.cells #[.int .i64 (cN:Int)] 3)) (hAl w2).1).mono ?_; rintro e w3 ⟨v3,g3,rfl,hr3,hf3,hb3⟩; have G3:=below_trans G2 (below_trans (hAl w2).1 hb3); have hcq:=(hb3.cell (p:=⟨w2.heap.size,0,none⟩) (by simp)).trans (hAl w2).2)
          | (refine (hT2 w2 _ g2 hr2 G2 w2 (Below.refl _ _)).mono ?_; rintro e w3 ⟨v3,g3,rfl,hr3,hf3,hb3⟩; have G3:=below_trans G2 hb3; try (have hcq:=(hb3.cell (p:=⟨ws.heap.size,0,none⟩) (by have:=World.block_lt_of_cell? w2 _ hcq; exact this)).trans hcq)))
         | (go_at_call 43; first
          | ((with_reducible show Calls _ _ _ (World.alloc _ _) _); refine (hN3 w3 _ g3 hr3 (w3.alloc (.cells #[.int .i64 (cN:Int)] 3)) w3.heap.size (hAl w3).1 (hAl w3).2).mono ?_; rintro e w4 ⟨v4,g4,rfl,hr4,hf4,hb4⟩; have G4:=below_trans G3 (below_trans (hAl w3).1 hb4))
          | (refine (hN3 w3 _ g3 hr3 w3 _ (Below.refl _ _) hcq).mono ?_; rintro e w4 ⟨v4,g4,rfl,hr4,hf4,hb4⟩; have G4:=below_trans G3 hb4)))
        all_goals (
         go_wp2_with fail
         go_meet
         exact ⟨_,hr4,by have:=G3.size; have:=(hAl w3).1.size; omega,G4⟩)
       case rest =>
        obtain ⟨g4,hr4,hf4,hb4⟩:=hcut
        rename World=>w4
        clear hT1 hT2 hN3 hAl hSk hbA2 hcA2 hbD hrow
        have hb04:=below_trans hbws hb4
        have hl4':(((LK ++ txtB nm) ++ lsB txtB ps) ++ Wire.enc cN).length ≤ 800000 + 6000 * 1000:=by simp only [List.length_append]; omega
        generalize hLP:((LK ++ txtB nm) ++ lsB txtB ps) ++ Wire.enc cN = LP at *
        have hT1:∀ u,Below w4.heap.size w4 u → Calls Tryz.prog 42 #[_,.string (str rs)] u (RwE (LP ++ txtB rs) u):=fun u hu=>rT u _ g4 LP rs (rowRd hr4 hu) (by omega) (by omega)
        have hN2:∀ w2 v2 g2,Wire.Row w2 g2 v2 (LP ++ txtB rs) → ∀ u b,Below w2.heap.size w2 u → (u.cell? ⟨b,0,none⟩ = some (.int .i64 (lN:Int)) ∧ u.cell? ⟨b,1,none⟩ = some (.int .i64 (nc:Int))) → Calls Tryz.prog 43 #[v2,.slice (some ⟨b,0,none⟩) 2 2] u (RwE ((LP ++ txtB rs) ++ (Wire.enc lN ++ Wire.enc nc)) u):=fun w2 v2 g2 h u b hu hc=>rNumB lN nc _ _ _ w2 u b h hu hc ⟨by omega,by omega⟩ (by simp only [List.length_append]; omega)
        obtain ⟨xa4,xn4,hxs4⟩:=hr4.rd.shape
        subst hxs4
        have hbD:Below w4.heap.size w4 w4.drew:=(Below.refl _ _).drew
        have hbA2:Below w4.heap.size w4 (w4.alloc (.cells #[.int .i64 (lN:Int),.int .i64 (nc:Int)] 3)).drew:=((Below.refl _ _).alloc (Nat.le_refl _) _).drew
        have hcA2:(w4.alloc (.cells #[.int .i64 (lN:Int),.int .i64 (nc:Int)] 3)).drew.cell? ⟨w4.heap.size,0,none⟩ = some (.int .i64 (lN:Int)) ∧ (w4.alloc (.cells #[.int .i64 (lN:Int),.int .i64 (nc:Int)] 3)).drew.cell? ⟨w4.heap.size,1,none⟩ = some (.int .i64 (nc:Int)):=⟨new_cells w4 [.int .i64 (lN:Int),.int .i64 (nc:Int)] 3 0 _ rfl,new_cells w4 [.int .i64 (lN:Int),.int .i64 (nc:Int)] 3 1 _ rfl⟩
        have hAl:∀ u:World,Below u.heap.size u (u.alloc (.cells #[.int .i64 (lN:Int),.int .i64 (nc:Int)] 3)) ∧ ((u.alloc (.cells #[.int .i64 (lN:Int),.int .i64 (nc:Int)] 3)).cell? ⟨u.heap.size,0,none⟩ = some (.int .i64 (lN:Int)) ∧ (u.alloc (.cells #[.int .i64 (lN:Int),.int .i64 (nc:Int)] 3)).cell? ⟨u.heap.size,1,none⟩ = some (.int .i64 (nc:Int))):=fun u=>⟨(Below.refl _ u).alloc (Nat.le_refl _) _,new_cells u [.int .i64 (lN:Int),.int .i64 (nc:Int)] 3 0 _ rfl,new_cells u [.int .i64 (lN:Int),.int .i64 (nc:Int)] 3 1 _ rfl⟩
        have hSk4:∀ u,Below w4.heap.size w4 u → u.cell? ⟨wr.heap.size,3,none⟩ = some (.string (str rs)) ∧ u.cell? ⟨wr.heap.size,4,none⟩ = some (.int .i64 (lN:Int)) ∧ u.cell? ⟨wr.heap.size,5,none⟩ = some (.slice ka nc kc):=fun u hu=>(HSk.out u (below_trans hb4 hu)).2.2.2
        clear x4
        go_upto_region 23 with fail
        go_cut [6] (fun a wx=>∃ g3,Wire.Row wx g3 a ((LP ++ txtB rs) ++ (Wire.enc lN ++ Wire.enc nc)) ∧ w4.heap.size ≤ g3 ∧ Below w4.heap.size w4 wx)
        case first =>
         clear hfl HLE hLP
         go_region_held3 (fun u=>u.cell? ⟨wr.heap.size,3,none⟩ = some (.string (str rs)) ∧ u.cell? ⟨wr.heap.size,4,none⟩ = some (.int .i64 (lN:Int)) ∧ u.cell? ⟨wr.heap.size,5,none⟩ = some (.slice ka nc kc)) (first | exact hSk4 _ (by assumption) | go_keep) (first
          | (go_at_call 42; first
           | ((with_reducible show Calls _ _ _ (World.drew (World.alloc _ _)) _); refine (hT1 (w4.alloc (.cells #[.int .i64 (lN:Int),.int .i64 (nc:Int)] 3)).drew hbA2).mono ?_; rintro e w2 ⟨v2,g2,rfl,hr2,hf2,hb2⟩; have G2:=below_trans hbA2 hb2; have hcq:=And.intro ((hb2.cell (p:=⟨w4.heap.size,0,none⟩) (by simp)).trans hcA2.1) ((hb2.cell (p:=⟨w4.heap.size,1,none⟩) (by simp)).trans hcA2.2))
           | (refine (hT1 w4.drew hbD).mono ?_; rintro e w2 ⟨v2,g2,rfl,hr2,hf2,hb2⟩; have G2:=below_trans hbD hb2))
          | (go_at_call 43; first
           | ((with_reducible show Calls _ _ _ (World.alloc _ _) _); refine (hN2 w2 _ g2 hr2 (w2.alloc (.cells #[.int .i64 (lN:Int),.int .i64 (nc:Int)] 3)) w2.heap.size (hAl w2).1 (hAl w2).2).mono ?_; rintro e w5 ⟨v5,g5,rfl,hr5,hf5,hb5⟩; have G5:=below_trans G2 (below_trans (hAl w2).1 hb5))
           | (refine (hN2 w2 _ g2 hr2 w2 _ (Below.refl _ _) hcq).mono ?_; rintro e w5 ⟨v5,g5,rfl,hr5,hf5,hb5⟩; have G5:=below_trans G2 hb5)))
         all_goals (
          go_wp2_with fail
          go_meet
          exact ⟨_,hr5,by have:=G2.size; have:=(hAl w2).1.size; omega,G5⟩)
        case rest =>
         obtain ⟨g5,hr5,hf5,hb5⟩:=hcut
         rename World=>w5
         have hb45:=below_trans hb4 hb5
         have hsr5:=HKv.out w5 hb45
         obtain ⟨-, -, -, -, -, d5⟩:=HSk.out w5 hb45
         have hb05:=below_trans hbws hb45
         have hsz5:=hb45.size
         have hw05:=hb05.size
         have hLq:Hid ((L8 ++ (o.funs.take (k + 1)).flatMap fnB) = ((LP ++ txtB rs) ++ (Wire.enc lN ++ Wire.enc nc)) ++ cd.map UInt8.toNat):=by
          have htc:txtB cd = Wire.enc nc ++ cd.map UInt8.toNat:=by rw [txtB,hncd]
          rw [hid_iff,hfl.out, ← hLP,htc]
          simp only [List.append_assoc]
         have hlq:(((LP ++ txtB rs) ++ (Wire.enc lN ++ Wire.enc nc)).length) ≤ 800000 + 6000 * 1000 + 1000:=by
          have:=Wire.enc_ten lN (by omega)
          have:=Wire.enc_ten nc (by omega)
          simp only [List.length_append]
          omega
         have hcl:(cd.map UInt8.toNat).length ≤ 65535:=by rw [List.length_map]; omega
         generalize (LP ++ txtB rs) ++ (Wire.enc lN ++ Wire.enc nc) = LQ at *
         clear hT1 hN2 hAl hSk4 hbA2 hcA2 hbD hfl hLP hr4
         go_wp2_with (at_builtin; refine Wire.wpList_append_row w5 rfl (.tmp 118) (.tmp 120) 42 42 rfl Tryz.underlying42 (by kernel_rfl) _ g5 LQ rfl hr5 _ _ (cd.map UInt8.toNat) rfl hsr5 (by omega) ?_; intro v6 w6 g6 h61 h62 h63 h64 h65)
         have hsz4:=hb04.size
         have hg56:w.heap.size ≤ g6:=by rcases h62 with h | h <;> omega
         have hb06:Below W0.heap.size W0 w6:=hb05.grown h64 hw05 (fun z hz=>by
          have hz2:u6.ownBlock = some z:=hz
          rcases hr5.2 with e | e
          ·rw [e] at hz2
           cases hz2
          ·rw [e] at hz2
           cases hz2
           omega)
         clear d5
         obtain ⟨⟨x0,x1,x2,x3,x4,x5,x6,x7⟩,hw6,hF6⟩:=HCh.out w6 hb06
         go_wp2
         go_roundg (n4 - (k + 1))
         case measure=>omega
         case rel=>exact ⟨k + 1,g6,by omega,by go_num,by rw [hLq.out]; exact h61,HLE.out,hg56,hb06⟩
      ·have hki:¬ (k:Int) < (n4:Int):=by omega
       rw [List.take_of_length_le (by omega)] at hrow hlen
       have HE9:Hid (OB = (L8 ++ o.funs.flatMap fnB) ++ (lsB txtB o.exports ++ (lsB syB o.symbols ++ lsB rlB o.relocs))):=by
        rw [hid_iff,HE8.out]
        simp only [List.append_assoc]
       have hl9:(L8 ++ o.funs.flatMap fnB).length ≤ 3700000:=by omega
       have hgs:=hbl.size
       have hTx:=rTexts F _ g _ _ o.exports wr hrow.rd (HEx.out.1.below hwr hF) hFr (fun x hx=>by have:=HS.out.exports.2 x hx; omega) (by omega) (by omega)
       have hsz:=lsB_sz txtB 210 o.exports (fun x hx=>by have h1:=HS.out.exports.2 x hx; have:=txtB_len x (by omega); omega) (by omega)
       rw [hn5] at hsz
       obtain ⟨xa,xn,hxs⟩:=hrow.rd.shape
       subst hxs
       clear HE8 hlen
       generalize L8 ++ o.funs.flatMap fnB = L9 at *
       have hl10:(L9 ++ lsB txtB o.exports).length ≤ 3710000:=by rw [List.length_append]; omega
       generalize hL10:L9 ++ lsB txtB o.exports = L10 at *
       go_wp2_with fail
       refine hTx.mono ?_
       rintro e w10 ⟨v10,g10,rfl,hr10,hf10,hb10⟩
       have hb010:=below_trans hbl hb10
       have HE10:Hid (OB = L10 ++ (lsB syB o.symbols ++ lsB rlB o.relocs)):=by
        rw [hid_iff,HE9.out, ← hL10]
        simp only [List.append_assoc]
       clear hTx x0 x1 x2 x3 x4 x5 x6 x7 HE9 hL10
       obtain ⟨⟨x0,x1,x2,x3,x4,x5,x6,x7⟩,hw10,hF10⟩:=HCh.out w10 hb010
       have hA:=rNumA n6 _ _ _ w10 (w10.alloc (.cells #[.int .i64 (n6:Int)] 3)) w10.heap.size hr10 ((Below.refl _ w10).alloc (Nat.le_refl _) _) (new_cells w10 [.int .i64 (n6:Int)] 3 0 _ rfl) (by omega) (by omega)
       have hten:=Wire.enc_ten n6 (by omega)
       have hal:Below w10.heap.size w10 (w10.alloc (.cells #[.int .i64 (n6:Int)] 3)):=(Below.refl _ w10).alloc (Nat.le_refl _) _
       obtain ⟨xa,xn,hxs⟩:=hr10.rd.shape
       subst hxs
       generalize hL11:L10 ++ Wire.enc n6 = L11 at *
       go_wp2_with fail
       refine hA.mono ?_
       rintro e w11 ⟨v11,g11,rfl,hr11,hf11,hb11⟩
       have hb011:=below_trans hb010 (below_trans hal hb11)
       clear hA x0 x1 x2 x3 x4 x5 x6 x7
       obtain ⟨⟨x0,x1,x2,x3,x4,x5,x6,x7⟩,hw11,hF11⟩:=HCh.out w11 hb011
       have HE11:Hid (OB = L11 ++ (o.symbols.flatMap syB ++ lsB rlB o.relocs)):=by
        rw [hid_iff,HE10.out, ← hL11,lsB,hn6]
        simp only [List.append_assoc]
       have hl11:L11.length ≤ 3710010:=by rw [← hL11,List.length_append]; omega
       have hg11:w.heap.size ≤ g11:=by have:=hw10.size; have:=hal.size; omega
       clear HE10 hL11 hal
       go_wp2_with fail
       go_loopg [6,12] n6 (fun gk a i wr=>∃ (k g:Nat),gk + k = n6 ∧ i = .int .i64 (k:Int) ∧ Wire.Row wr g a (L11 ++ (o.symbols.take k).flatMap syB) ∧ (L11 ++ (o.symbols.take k).flatMap syB).length ≤ 3710010 + 6300 * k ∧ w.heap.size ≤ g ∧ Below W0.heap.size W0 wr)
       case atStart=>exact ⟨0,g11,by omega,rfl,by simpa using hr11,by simpa using hl11,hg11,hb011⟩
       case round =>
        clear x0 x1 x2 x3 x4 x5 x6 x7 hr11 hb011 hr10 hb010 hrow hbl hwr hFr hgf hgs
        obtain ⟨k,g,hgk,rfl,hrow,hlen,hgf,hbl⟩:=hrel
        rename World=>wr
        obtain ⟨⟨x0,x1,x2,x3,x4,x5,x6,x7⟩,hwr,hFr⟩:=HCh.out wr hbl
        by_cases hk:k < n6
        ·have hkt:k < o.symbols.length:=by omega
         obtain ⟨gt,of,cap,cs,e1,_,hgF,⟨cv,rfl,hcv⟩,hcell⟩:=(HSy.out.below cSy_stay hwr hF).at k hkt
         simp only [Value.slice.injEq] at e1
         obtain ⟨rfl,e1,rfl⟩:=e1
         have hki:(k:Int) < (n6:Int):=by omega
         have hk0:(0:Int) ≤ (k:Int):=by omega
         obtain ⟨s1,s2⟩:=HS.out.symbols.2 _ (List.getElem_mem hkt)
         have hfl:Hid (L11 ++ (o.symbols.take (k + 1)).flatMap syB = (L11 ++ (o.symbols.take k).flatMap syB) ++ (txtB o.symbols[k].mod ++ itemB o.symbols[k].item)):=by rw [hid_iff,flatM_at syB o.symbols k hkt]; simp only [List.append_assoc]; rfl
         have hsz:=item_sz s2
         have hgs:=hbl.size
         have hgs2:=hwr.size
         generalize L11 ++ (o.symbols.take k).flatMap syB = LK at *
         generalize o.symbols[k] = sk at *
         obtain ⟨md,it⟩:=sk
         simp only at *
         have t1:=txtB_len md (by omega)
         have hle:(L11 ++ (o.symbols.take (k + 1)).flatMap syB).length ≤ 3710010 + 6300 * (k + 1):=by rw [hfl.out]; simp only [List.length_append]; omega
         have HLE:=hidden hle
         obtain ⟨ca,cc,rfl⟩:=hcv.shape
         have hgF0:=hFr gt hgF
         have hCl:∀ a x,wr.cell? ⟨gt,a,none⟩ = some x → ∀ u,Below wr.heap.size wr u → u.cell? ⟨gt,a,none⟩ = some x:=fun a x h u hu=>(hu.cell (p:=⟨gt,a,none⟩) hgF0).trans h
         have hSk:∀ u,Below wr.heap.size wr u → u.cell? ⟨w.heap.size,6,none⟩ = some (.slice (some ⟨gt,of,none⟩) n6 c6) ∧ u.cell? ⟨gt,of + k * 5,none⟩ = some (.string (str md)) ∧ u.cell? ⟨gt,of + k * 5 + 1,none⟩ = some (.int .i64 it.kind) ∧ u.cell? ⟨gt,of + k * 5 + 2,none⟩ = some (.string (str it.name)) ∧ u.cell? ⟨gt,of + k * 5 + 3,none⟩ = some (.string (str it.ty)) ∧ u.cell? ⟨gt,of + k * 5 + 4,none⟩ = some (.slice ca it.cases.length cc):=fun u hu=>⟨(HCh.out u (below_trans hbl hu)).1.2.2.2.2.2.2.1,hCl _ _ (hcell 0 _ rfl) u hu,hCl _ _ (hcell 1 _ rfl) u hu,hCl _ _ (hcell 2 _ rfl) u hu,hCl _ _ (hcell 3 _ rfl) u hu,hCl _ _ (hcell 4 _ rfl) u hu⟩
         have hT1:∀ u,Below wr.heap.size wr u → Calls Tryz.prog 42 #[_,.string (str md)] u (RwE (LK ++ txtB md) u):=fun u hu=>rT u _ g LK md (rowRd hrow hu) (by omega) (by omega)
         have hI2:∀ w2 v2 g2,Wire.Row w2 g2 v2 (LK ++ txtB md) → Below wr.heap.size wr w2 → Calls Tryz.prog 44 #[v2,.agg #[.int .i64 it.kind,.string (str it.name),.string (str it.ty),.slice ca it.cases.length cc]] w2 (RwE ((LK ++ txtB md) ++ itemB it) w2):=fun w2 v2 g2 h hw=>refItemB F v2 g2 _ it _ w2 h.rd (hcv.below hw hFr) (fun g hg=>Nat.lt_of_lt_of_le (hFr g hg) hw.size) s2 (by rw [List.length_append]; omega)
         generalize it.kind = kd at *
         generalize it.name = nm at *
         generalize it.ty = ty at *
         generalize it.cases.length = nc at *
         obtain ⟨xa,xn,hxs⟩:=hrow.rd.shape
         subst hxs
         have hbD:Below wr.heap.size wr wr.drew:=(Below.refl _ _).drew
         clear e1 hle hlen hCl hcell hcv
         go_upto_region 30 with fail
         clear x0 x1 x2 x3 x4 x5 x6 x7
         go_region_held3 (fun u=>u.cell? ⟨w.heap.size,6,none⟩ = some (.slice (some ⟨gt,of,none⟩) n6 c6) ∧ u.cell? ⟨gt,of + k * 5,none⟩ = some (.string (str md)) ∧ u.cell? ⟨gt,of + k * 5 + 1,none⟩ = some (.int .i64 kd) ∧ u.cell? ⟨gt,of + k * 5 + 2,none⟩ = some (.string (str nm)) ∧ u.cell? ⟨gt,of + k * 5 + 3,none⟩ = some (.string (str ty)) ∧ u.cell? ⟨gt,of + k * 5 + 4,none⟩ = some (.slice ca nc cc)) (first | exact hSk _ (by assumption) | go_keep) (first
          | (go_at_call 42; refine (hT1 wr.drew hbD).mono ?_; rintro e w2 ⟨v2,g2,rfl,hr2,hf2,hb2⟩; have G2:=below_trans hbD hb2)
          | (go_at_call 44; refine (hI2 w2 _ g2 hr2 G2).mono ?_; rintro e w5 ⟨v5,g5,rfl,hr5,hf5,hb5⟩; have G5:=below_trans G2 hb5))
         all_goals (
          have hb05:=below_trans hbl G5
          have hgg:w.heap.size ≤ g5:=by have:=G2.size; omega
          have HR5:Hid (Wire.Row w5 g5 v5 (L11 ++ (o.symbols.take (k + 1)).flatMap syB)):=by rw [hid_iff,hfl.out]; simpa only [List.append_assoc] using hr5
          obtain ⟨⟨x0,x1,x2,x3,x4,x5,x6,x7⟩,hw5,hF5⟩:=HCh.out w5 hb05
          clear hT1 hI2 hSk hbD hr2 hr5 hb2 hb5 hfl
          go_wp2
          go_roundg (n6 - (k + 1))
          case measure=>omega
          case rel=>exact ⟨k + 1,g5,by omega,by go_num,HR5.out,HLE.out,hgg,hb05⟩)
        ·have hki:¬ (k:Int) < (n6:Int):=by omega
         rw [List.take_of_length_le (by omega)] at hrow hlen
         have HE12:Hid (OB = (L11 ++ o.symbols.flatMap syB) ++ lsB rlB o.relocs):=by
          rw [hid_iff,HE11.out]
          simp only [List.append_assoc]
         have hl12:(L11 ++ o.symbols.flatMap syB).length ≤ 4400000:=by omega
         have hgs:=hbl.size
         have hr12:=hrow
         have hb012:=hbl
         rename World=>w12
         clear HE11 hrow hlen hbl
         generalize L11 ++ o.symbols.flatMap syB = L12 at *
         have hA:=rNumA n7 _ _ _ w12 (w12.alloc (.cells #[.int .i64 (n7:Int)] 3)) w12.heap.size hr12 ((Below.refl _ w12).alloc (Nat.le_refl _) _) (new_cells w12 [.int .i64 (n7:Int)] 3 0 _ rfl) (by omega) (by omega)
         have hten:=Wire.enc_ten n7 (by omega)
         have hal:Below w12.heap.size w12 (w12.alloc (.cells #[.int .i64 (n7:Int)] 3)):=(Below.refl _ w12).alloc (Nat.le_refl _) _
         obtain ⟨xa,xn,hxs⟩:=hr12.rd.shape
         subst hxs
         generalize hL13:L12 ++ Wire.enc n7 = L13 at *
         go_wp2_with fail
         refine hA.mono ?_
         rintro e w13 ⟨v13,g13,rfl,hr13,hf13,hb13⟩
         have hb013:=below_trans hb012 (below_trans hal hb13)
         clear hA x0 x1 x2 x3 x4 x5 x6 x7
         obtain ⟨⟨x0,x1,x2,x3,x4,x5,x6,x7⟩,hw13,hF13⟩:=HCh.out w13 hb013
         have HE13:Hid (OB = L13 ++ o.relocs.flatMap rlB):=by
          rw [hid_iff,HE12.out, ← hL13,lsB,hn7]
          simp only [List.append_assoc]
         have hl13:L13.length ≤ 4400010:=by rw [← hL13,List.length_append]; omega
         have hg13:w.heap.size ≤ g13:=by have:=hwr.size; have:=hal.size; omega
         clear HE12 hL13 hal
         go_wp2_with fail
         go_loopg [6,13] n7 (fun gk a i wr=>∃ (k g:Nat),gk + k = n7 ∧ i = .int .i64 (k:Int) ∧ Wire.Row wr g a (L13 ++ (o.relocs.take k).flatMap rlB) ∧ (L13 ++ (o.relocs.take k).flatMap rlB).length ≤ 4400010 + 30 * k ∧ w.heap.size ≤ g ∧ Below W0.heap.size W0 wr)
         case atStart=>exact ⟨0,g13,by omega,rfl,by simpa using hr13,by simpa using hl13,hg13,hb013⟩
         case round =>
          clear x0 x1 x2 x3 x4 x5 x6 x7 hr13 hb013 hr12 hb012 hwr hFr hgf hgs
          obtain ⟨k,g,hgk,rfl,hrow,hlen,hgf,hbl⟩:=hrel
          rename World=>wr
          obtain ⟨⟨x0,x1,x2,x3,x4,x5,x6,x7⟩,hwr,hFr⟩:=HCh.out wr hbl
          by_cases hk:k < n7
          ·have hkt:k < o.relocs.length:=by omega
           obtain ⟨gt,of,cap,cs,e1,_,hgF,hC,hcell⟩:=(HRl.out.below cRl_stay hwr hF).at k hkt
           simp only [Value.slice.injEq] at e1
           obtain ⟨rfl,e1,rfl⟩:=e1
           unfold cRl at hC
           subst hC
           have q0:=hcell 0 _ rfl
           have q1:=hcell 1 _ rfl
           have q2:=hcell 2 _ rfl
           simp only [Nat.add_zero] at q0
           have hki:(k:Int) < (n7:Int):=by omega
           have hk0:(0:Int) ≤ (k:Int):=by omega
           obtain ⟨⟨s1,s2⟩,⟨s3,s4⟩,⟨s5,s6⟩⟩:=HS.out.relocs.2 _ (List.getElem_mem hkt)
           have hfl:Hid (L13 ++ (o.relocs.take (k + 1)).flatMap rlB = (L13 ++ (o.relocs.take k).flatMap rlB) ++ (Wire.enc o.relocs[k].fn.toNat ++ (Wire.enc o.relocs[k].place.toNat ++ Wire.enc o.relocs[k].sym.toNat))):=by rw [hid_iff,flatM_at rlB o.relocs k hkt]; simp only [List.append_assoc]; rfl
           have hgs:=hbl.size
           have hgs2:=hwr.size
           generalize L13 ++ (o.relocs.take k).flatMap rlB = LK at *
           generalize o.relocs[k].fn = rf at *
           generalize o.relocs[k].place = ra at *
           generalize o.relocs[k].sym = ry at *
           obtain ⟨fN,rfl⟩:=int_nat s1
           obtain ⟨aN,rfl⟩:=int_nat s3
           obtain ⟨yN,rfl⟩:=int_nat s5
           simp only [Int.toNat_natCast] at hfl
           have t1:=Wire.enc_ten fN (by omega)
           have t2:=Wire.enc_ten aN (by omega)
           have t3:=Wire.enc_ten yN (by omega)
           have hle:(L13 ++ (o.relocs.take (k + 1)).flatMap rlB).length ≤ 4400010 + 30 * (k + 1):=by rw [hfl.out]; simp only [List.length_append]; omega
           have HLE:=hidden hle
           have hN3:∀ u b,Below wr.heap.size wr u → (u.cell? ⟨b,0,none⟩ = some (.int .i64 (fN:Int)) ∧ u.cell? ⟨b,1,none⟩ = some (.int .i64 (aN:Int)) ∧ u.cell? ⟨b,2,none⟩ = some (.int .i64 (yN:Int))) → Calls Tryz.prog 43 #[_,.slice (some ⟨b,0,none⟩) 3 3] u (RwE (LK ++ (Wire.enc fN ++ (Wire.enc aN ++ Wire.enc yN))) u):=fun u b hu hc=>rNumC fN aN yN _ _ _ wr u b hrow hu hc ⟨by omega,by omega,by omega⟩ (by omega)
           have hA2:Below wr.heap.size wr (wr.alloc (.cells #[.int .i64 (fN:Int),.int .i64 (aN:Int),.int .i64 (yN:Int)] 3)).drew:=((Below.refl _ _).alloc (Nat.le_refl _) _).drew
           have hA3:=hN3 _ wr.heap.size hA2 ⟨new_cells wr [.int .i64 (fN:Int),.int .i64 (aN:Int),.int .i64 (yN:Int)] 3 0 _ rfl,new_cells wr [.int .i64 (fN:Int),.int .i64 (aN:Int),.int .i64 (yN:Int)] 3 1 _ rfl,new_cells wr [.int .i64 (fN:Int),.int .i64 (aN:Int),.int .i64 (yN:Int)] 3 2 _ rfl⟩
           obtain ⟨xa,xn,hxs⟩:=hrow.rd.shape
           subst hxs
           have hgF0:=hFr gt hgF
           have hSk:∀ u,Below wr.heap.size wr u → u.cell? ⟨w.heap.size,7,none⟩ = some (.slice (some ⟨gt,of,none⟩) n7 c7) ∧ u.cell? ⟨gt,of + k * 3,none⟩ = some (.int .i64 (fN:Int)) ∧ u.cell? ⟨gt,of + k * 3 + 1,none⟩ = some (.int .i64 (aN:Int)) ∧ u.cell? ⟨gt,of + k * 3 + 2,none⟩ = some (.int .i64 (yN:Int)):=fun u hu=>⟨(HCh.out u (below_trans hbl hu)).1.2.2.2.2.2.2.2,(hu.cell (p:=⟨gt,of + k * 3,none⟩) hgF0).trans q0,(hu.cell (p:=⟨gt,of + k * 3 + 1,none⟩) hgF0).trans q1,(hu.cell (p:=⟨gt,of + k * 3 + 2,none⟩) hgF0).trans q2⟩
           have hbD:Below wr.heap.size wr wr.drew:=(Below.refl _ _).drew
           clear e1 hle hlen hcell hN3
           go_upto_region 35 with fail
           clear x0 x1 x2 x3 x4 x5 x6 q0 q1 q2
           go_region_held3 (fun u=>u.cell? ⟨w.heap.size,7,none⟩ = some (.slice (some ⟨gt,of,none⟩) n7 c7) ∧ u.cell? ⟨gt,of + k * 3,none⟩ = some (.int .i64 (fN:Int)) ∧ u.cell? ⟨gt,of + k * 3 + 1,none⟩ = some (.int .i64 (aN:Int)) ∧ u.cell? ⟨gt,of + k * 3 + 2,none⟩ = some (.int .i64 (yN:Int))) (first | exact hSk _ (by assumption) | go_keep) (first
            | (go_at_call 43; refine hA3.mono ?_; rintro e w5 ⟨v5,g5,rfl,hr5,hf5,hb5⟩; have G5:=below_trans hA2 hb5))
           all_goals (
            have hb05:=below_trans hbl G5
            have hgg:w.heap.size ≤ g5:=by have:=hA2.size; omega
            have HR5:Hid (Wire.Row w5 g5 v5 (L13 ++ (o.relocs.take (k + 1)).flatMap rlB)):=by rw [hid_iff,hfl.out]; exact hr5
            clear x7
            obtain ⟨⟨x0,x1,x2,x3,x4,x5,x6,x7⟩,hw5,hF5⟩:=HCh.out w5 hb05
            clear hA3 hSk hA2 hr5 hb5 hfl hbD
            go_wp2
            go_roundg (n7 - (k + 1))
            case measure=>omega
            case rel=>exact ⟨k + 1,g5,by omega,by go_num,HR5.out,HLE.out,hgg,hb05⟩)
          ·have hki:¬ (k:Int) < (n7:Int):=by omega
           rw [List.take_of_length_le (by omega)] at hrow hlen
           have hOB:=HE13.out
           rw [← hOB] at hrow
           have hob:OB.length ≤ 5000000:=by rw [hOB]; omega
           have HRW:=hidden hrow
           obtain ⟨xa,xn,hxs⟩:=hrow.rd.shape
           subst hxs
           clear hOB HE13 hlen hrow
           by_cases h8:8192 < OB.length
           ·have h8i:(8192:Int) < (OB.length:Int):=by omega
            have H8:=hidden h8
            clear h8
            go_wp2
            go_ret2
            first | exact ⟨.inr (.inl ⟨rfl,H8.out,rfl⟩),hwr⟩ | exact ⟨.inl ⟨rfl,H8.out,rfl⟩,hwr⟩ | exact ⟨.inl ⟨H8.out,rfl⟩,hwr⟩
           ·have h8i:¬ (8192:Int) < (OB.length:Int):=by omega
            have H8:Hid (OB.length ≤ 8192):=by rw [hid_iff]; omega
            clear h8
            go_wp2
            go_ret2
            first | exact ⟨.inr (.inr ⟨rfl,H8.out,_,g,rfl,HRW.out,hgf⟩),hwr⟩ | exact ⟨.inr ⟨rfl,H8.out,_,g,rfl,HRW.out,hgf⟩,hwr⟩ | exact ⟨.inr ⟨H8.out,_,rfl,g,HRW.out,hgf⟩,hwr⟩ | exact ⟨.inr ⟨rfl,H8.out,_,rfl,g,HRW.out,hgf⟩,hwr⟩
end Go.Proofs.YtiiepfplommmfaaGreatDoor
