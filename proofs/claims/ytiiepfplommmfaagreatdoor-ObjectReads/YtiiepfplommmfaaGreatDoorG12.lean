/-
  What is read of an object is no longer than it may be. No program in it.
  And: Nothing of its own. What a reader of objects keeps in memory: rows that it makes, as they can be read; a struct that is filled in field by field. The document's own reader of objects: a number, a list of texts. Reading an object as the document's own reader does it (what is refused keeps what was read so far), as functions; it tells the same. No program.
-/
import Derived.Test.YtiiepfplommmfaaGreatDoorG11
import Derived.Test.YtiiepfplommmfaaGreatDoorG04
import Derived.Test.YtiiepfplommmfaaGreatDoorG08
import Derived.Laws.CopyRow
import Derived.Test.YtiiepfplommmfaaGreatDoorG07
namespace Go.Proofs.YtiiepfplommmfaaGreatDoor

theorem tk_le {x:List UInt8} (h:x.length ≤ 65535):Tk x:=by unfold Tk; omega
theorem num_i64 (l:List Nat) (p y:Nat):i64 ((Wire.rNum l p y 65535).1:Int):=by
 have:=Wire.rNum_most l p y 65535
 unfold i64
 omega
theorem gl_ok (l:List Nat) (p y:Nat):GlOk (glR l p y).1 :=
 ⟨tk_le (Nat.le_trans (txt_len l 24 _ _) (by omega)),tk_le (Nat.le_trans (txt_len l 200 _ _) (by omega)),num_i64 l _ _⟩
theorem tk24 (l:List Nat) (p y:Nat):Tk (txtR l 24 p y).1:=tk_le (Nat.le_trans (txt_len l 24 _ _) (by omega))
theorem tk200 (l:List Nat) (p y:Nat):Tk (txtR l 200 p y).1:=tk_le (Nat.le_trans (txt_len l 200 _ _) (by omega))
theorem tks (l:List Nat) (m:Nat) (hm:m ≤ 65535) (p y:Nat):(listR l (txtR l m) p y).1.length ≤ 8796093022208 ∧ ∀ x ∈ (listR l (txtR l m) p y).1,Tk x:=by
 have h:=list_all (l:=l) (P:=fun f:List UInt8=>f.length ≤ m) (txt_len l m) p y
 exact ⟨Nat.le_trans h.2 (by omega),fun x hx=>tk_le (Nat.le_trans (h.1 x hx) hm)⟩
theorem cd_le (l:List Nat) (p y:Nat):(txtR l 65535 p y).1.length ≤ 140737488355328:=Nat.le_trans (txt_len l 65535 _ _) (by omega)
theorem fn_ok (l:List Nat) (p y:Nat):FnOk (fnR l p y).1:=by
 unfold fnR FnOk
 dsimp only
 refine ⟨?_,?_,?_,?_,?_,?_,?_⟩
 ·exact tk24 l _ _
 ·exact (tks l 200 (by omega) _ _).1
 ·exact (tks l 200 (by omega) _ _).2
 ·exact num_i64 l _ _
 ·exact tk200 l _ _
 ·exact num_i64 l _ _
 ·exact cd_le l _ _
theorem sy_ok (l:List Nat) (p y:Nat):SyOk (syR l p y).1:=⟨tk_le (Nat.le_trans (txt_len l 24 _ _) (by omega)),item_ok l _ _⟩
theorem rl_ok (l:List Nat) (p y:Nat):RlOk (rlR l p y).1:=⟨num_i64 l _ _,num_i64 l _ _,num_i64 l _ _⟩
theorem ls_ok {α:Type} {P:α → Prop} {l:List Nat} {rd:Nat → Nat → α × Nat × Nat} (h:∀ p y,P (rd p y).1) (p y:Nat):(listR l rd p y).1.length ≤ 3518437208883 ∧ ∀ x ∈ (listR l rd p y).1,P x:=by
 have h:=list_all (l:=l) (P:=P) h p y
 exact ⟨Nat.le_trans h.2 (by omega),h.1⟩
theorem obj_ok (l:List Nat) (p y:Nat):ObOk (objR l p y).1:=by
 unfold objR
 constructor <;> dsimp only
 ·exact tk24 l _ _
 ·exact (ls_ok (item_ok l) _ _).1
 ·exact (ls_ok (item_ok l) _ _).2
 ·exact (tks l 200 (by omega) _ _).1
 ·exact (tks l 200 (by omega) _ _).2
 ·exact (ls_ok (gl_ok l) _ _).1
 ·exact (ls_ok (gl_ok l) _ _).2
 ·exact (ls_ok (fn_ok l) _ _).1
 ·exact (ls_ok (fn_ok l) _ _).2
 ·exact (tks l 24 (by omega) _ _).1
 ·exact (tks l 24 (by omega) _ _).2
 ·exact (ls_ok (sy_ok l) _ _).1
 ·exact (ls_ok (sy_ok l) _ _).2
 ·exact Nat.le_trans (ls_ok (rl_ok l) _ _).1 (by omega)
 ·exact (ls_ok (rl_ok l) _ _).2
theorem none_ok:ObOk noneO:=⟨by unfold Tk; simp [noneO],by simp [noneO],by simp [noneO],by simp [noneO],by simp [noneO],by simp [noneO],by simp [noneO],by simp [noneO],by simp [noneO],by simp [noneO],by simp [noneO],by simp [noneO],by simp [noneO],by simp [noneO],by simp [noneO]⟩
theorem dec_ok (l:List Nat):ObOk (decO l).2:=by
 unfold decO
 split
 ·exact none_ok
 ·split
  ·exact none_ok
  ·split
   ·exact none_ok
   ·exact obj_ok l 0 0
/-! Every byte of an object is one. -/
theorem ls_256 {α:Type} {E:α → List Nat} (h:∀ x,∀ n ∈ E x,n < 256) (xs:List α):∀ n ∈ lsB E xs,n < 256:=by
 intro n hn
 rcases List.mem_append.1 hn with h1 | h1
 ·exact Wire.enc_256 _ n h1
 ·obtain ⟨x,_,hx⟩:=List.mem_flatMap.1 h1
  exact h x n hx
theorem app_256 {a b:List Nat} (ha:∀ n ∈ a,n < 256) (hb:∀ n ∈ b,n < 256):∀ n ∈ a ++ b,n < 256:=fun n hn=>(List.mem_append.1 hn).elim (ha n) (hb n)
theorem txtB_lt (x:List UInt8):∀ n ∈ txtB x,n < 256:=by
 intro n hn
 rcases List.mem_append.1 hn with h | h
 ·exact Wire.enc_256 _ n h
 ·obtain ⟨c,_,rfl⟩:=List.mem_map.1 h
  exact c.toNat_lt
theorem caseB_lt (c:Cs):∀ n ∈ caseB c,n < 256:=by
 unfold caseB
 rw [fieldsB_flat]
 exact app_256 (txtB_lt _) (ls_256 txtB_lt c.2)
theorem itemB_lt (x:It):∀ n ∈ itemB x,n < 256:=by
 unfold itemB
 refine app_256 (Wire.enc_256 _) (app_256 (txtB_lt _) ?_)
 split
 ·rw [casesB_flat]
  exact ls_256 caseB_lt x.cases
 ·exact txtB_lt _
theorem objB_lt (o:Ob):∀ n ∈ objB o,n < 256 :=
 app_256 (txtB_lt _) (app_256 (ls_256 itemB_lt _) (app_256 (ls_256 txtB_lt _) (app_256 (ls_256 (fun _=>app_256 (txtB_lt _) (app_256 (txtB_lt _) (Wire.enc_256 _))) _)
  (app_256 (ls_256 (fun _=>app_256 (txtB_lt _) (app_256 (ls_256 txtB_lt _) (app_256 (Wire.enc_256 _) (app_256 (txtB_lt _) (app_256 (Wire.enc_256 _) (txtB_lt _)))))) _)
   (app_256 (ls_256 txtB_lt _) (app_256 (ls_256 (fun _=>app_256 (txtB_lt _) (itemB_lt _)) _) (ls_256 (fun _=>app_256 (Wire.enc_256 _) (app_256 (Wire.enc_256 _) (Wire.enc_256 _))) _)))))))
end Go.Proofs.YtiiepfplommmfaaGreatDoor



namespace Go.Proofs.YtiiepfplommmfaaGreatDoor
open Go.RowKit

theorem wk_grown {w w':World} {row:Option Nat} (h:w.grownBy w' row):Wire.Kept (fun b=>row = some b) w w':=⟨h.os,h.tape,h.output,h.size,fun b hb hn=>h.block b hb (fun e=>hn e.symm)⟩
theorem wk_below {w w':World} (h:Below w.heap.size w w'):Wire.Kept (fun _=>False) w w':=⟨h.os,h.tape,h.output,h.size,fun k hk _=>h.block k hk⟩
theorem wk_alloc (w:World) (o:Obj):Wire.Kept (fun _=>False) w (w.alloc o):=wk_below ((Below.refl _ _).alloc (Nat.le_refl _) _)
theorem wk_setRow (w:World) (g:Nat) (cs:Array Value):Wire.Kept (fun k=>k = g) w (w.setRow g cs):=by
 refine ⟨rfl,rfl,rfl,by simp [World.setRow],fun k hk hn=>?_⟩
 simp only [World.setRow]
 rw [Array.getElem?_modify,if_neg (fun e=>hn e.symm)]
theorem RowG.wk {α:Type} {C:Cel α} {ty sz B:Nat} (hC:CelOk sz C) {S:Nat → Prop} {w w':World} {v:Value} {xs:List α} (h:RowG C ty sz B w v xs) (k:Wire.Kept S w w') (hS:∀ b,B ≤ b → ¬ S b):RowG C ty sz B w' v xs:=h.kept hC (keep_of k) hS
def rdv (b:Nat):Value := .agg #[.pointer (some ⟨b,0,none⟩)]
def cTx (_:Nat → Prop) (_:World) (x:List UInt8) (cs:List Value):Prop:=cs = [.string (str x)]
def cCs (F:Nat → Prop) (w:World) (x:Cs) (cs:List Value):Prop:=∃ fv,cs = [.string (str x.1),fv] ∧ TxR F w fv x.2
def cIt (F:Nat → Prop) (w:World) (x:It) (cs:List Value):Prop:=∃ cv,cs = [.int .i64 x.kind,.string (str x.name),.string (str x.ty),cv] ∧ CsR F w cv x.cases
theorem txr_one {F:Nat → Prop} {w:World} {v:Value} {xs:List (List UInt8)} (h:TxR F w v xs):v.oneCell' = true:=by
 obtain ⟨a,c,rfl⟩:=h.shape
 rfl
theorem csr_one {F:Nat → Prop} {w:World} {v:Value} {xs:List Cs} (h:CsR F w v xs):v.oneCell' = true:=by
 obtain ⟨a,c,rfl⟩:=h.shape
 rfl
theorem byr_one {F:Nat → Prop} {w:World} {v:Value} {xs:List UInt8} (h:ByR F w v xs):v.oneCell' = true:=by
 obtain ⟨a,c,rfl⟩:=h.shape
 rfl
theorem cTxK:CelOk 1 cTx:=⟨fun _ h=>h,fun h=>by rw [h]; rfl,fun h u hu=>by rw [h] at hu; simp at hu; subst hu; rfl⟩
theorem cCsK:CelOk 2 cCs:=by
 refine ⟨fun hF h=>?_,fun h=>?_,fun h u hu=>?_⟩
 ·obtain ⟨fv,h1,h2⟩:=h
  exact ⟨fv,h1,h2.frame hF⟩
 ·obtain ⟨fv,rfl,h2⟩:=h
  rfl
 ·obtain ⟨fv,rfl,h2⟩:=h
  simp only [List.mem_cons,List.not_mem_nil,or_false] at hu
  rcases hu with rfl | rfl
  ·rfl
  ·exact txr_one h2
theorem cItK:CelOk 4 cIt:=by
 refine ⟨fun hF h=>?_,fun h=>?_,fun h u hu=>?_⟩
 ·obtain ⟨fv,h1,h2⟩:=h
  exact ⟨fv,h1,h2.frame hF⟩
 ·obtain ⟨fv,rfl,h2⟩:=h
  rfl
 ·obtain ⟨fv,rfl,h2⟩:=h
  simp only [List.mem_cons,List.not_mem_nil,or_false] at hu
  rcases hu with rfl | rfl | rfl | rfl
  ·rfl
  ·rfl
  ·rfl
  ·exact csr_one h2
theorem cGlK:CelOk 3 cGl:=⟨fun _ h=>h,fun h=>by rw [h]; rfl,fun h u hu=>by
 rw [h] at hu
 simp only [List.mem_cons,List.not_mem_nil,or_false] at hu
 rcases hu with rfl | rfl | rfl <;> rfl⟩
theorem cRlK:CelOk 3 cRl:=⟨fun _ h=>h,fun h=>by rw [h]; rfl,fun h u hu=>by
 rw [h] at hu
 simp only [List.mem_cons,List.not_mem_nil,or_false] at hu
 rcases hu with rfl | rfl | rfl <;> rfl⟩
theorem cSyK:CelOk 5 cSy:=by
 refine ⟨fun hF h=>?_,fun h=>?_,fun h u hu=>?_⟩
 ·exact cSy_stay _ _ _ _ _ _ hF h
 ·obtain ⟨fv,rfl,h2⟩:=h
  rfl
 ·obtain ⟨fv,rfl,h2⟩:=h
  simp only [List.mem_cons,List.not_mem_nil,or_false] at hu
  rcases hu with rfl | rfl | rfl | rfl | rfl
  ·rfl
  ·rfl
  ·rfl
  ·rfl
  ·exact csr_one h2
theorem cFnK:CelOk 6 cFn:=by
 refine ⟨fun hF h=>?_,fun h=>?_,fun h u hu=>?_⟩
 ·exact cFn_stay _ _ _ _ _ _ hF h
 ·obtain ⟨pv,kv,rfl,h2⟩:=h
  rfl
 ·obtain ⟨pv,kv,rfl,h2,h3⟩:=h
  simp only [List.mem_cons,List.not_mem_nil,or_false] at hu
  rcases hu with rfl | rfl | rfl | rfl | rfl | rfl
  ·rfl
  ·exact txr_one h2.1
  ·rfl
  ·rfl
  ·rfl
  ·exact byr_one h3
theorem stayK {α:Type} {C:Cel α} {sz:Nat} (hC:CelOk sz C):Stay C:=fun _ _ _ _ _ _ hF h=>hC.frame hF h
theorem RowG.rw {α:Type} {C:Cel α} {ty sz B:Nat} (hC:CelOk sz C) {w:World} {v:Value} {xs:List α} (h:RowG C ty sz B w v xs):RwR sz C (fun g=>B ≤ g ∧ g < w.heap.size) w v xs:=by
 obtain ⟨ps,rfl,h2,h3⟩:=h
 rcases h2.2 with ⟨rfl,hn⟩ | ⟨g,cap,cur,rfl,hb,hg,hl,_⟩
 ·exact .inl ⟨none,0,rfl,List.eq_nil_of_length_eq_zero hn⟩
 ·refine .inr ⟨g,0,cap,rfl,hl,⟨hb,(Array.getElem?_eq_some_iff.1 hg).1⟩,fun j x hj=>?_⟩
  rw [List.getElem?_map] at hj
  obtain ⟨p,hp,rfl⟩:=Option.map_eq_some_iff.1 hj
  obtain ⟨hjl,rfl⟩:=List.getElem?_eq_some_iff.1 hp
  have hlen:∀ p ∈ ps,p.2.length = sz:=fun p hp=>hC.len (h3 p hp)
  refine ⟨ps[j].2,hC.frame (fun g' hg'=>⟨⟨hg'.1,hg'.2.1⟩,rfl⟩) (h3 _ (List.getElem_mem hjl)),fun i u hi=>?_⟩
  have hil:i < sz:=by
   have:=(List.getElem?_eq_some_iff.1 hi).1
   rwa [hlen _ (List.getElem_mem hjl)] at this
  have hm:j * sz + i < (ps.map (·.1)).length * sz:=by
   have h5:(j + 1) * sz ≤ ps.length * sz:=Nat.mul_le_mul_right sz hjl
   rw [Nat.succ_mul] at h5
   simp only [List.length_map]
   omega
  rw [Nat.zero_add,h2.cellAt _ hm,flat_at ps hlen j hjl i hil]
  exact hi
theorem rw_txC {F:Nat → Prop} {w:World} {v:Value} {xs:List (List UInt8)} (h:RwR 1 cTx F w v xs):TxC F w v xs:=by
 rcases h with ⟨a,c,rfl,rfl⟩ | ⟨g,o,cap,rfl,h1,h2,h3⟩
 ·exact ⟨.inl ⟨a,c,rfl,rfl⟩,by rintro a' n c' hh; simp only [Value.slice.injEq] at hh; omega⟩
 ·refine ⟨.inr ⟨g,o,cap,rfl,h2,fun j x hj=>?_⟩,by rintro a' n c' hh; simp only [Value.slice.injEq] at hh; omega⟩
  obtain ⟨cs,hc,h5⟩:=h3 j x hj
  unfold cTx at hc
  subst hc
  have:=h5 0 _ rfl
  simpa using this
theorem rw_cs {F:Nat → Prop} {w:World} {v:Value} {xs:List Cs} (h:RwR 2 cCs F w v xs):CsR F w v xs:=by
 rcases h with ⟨a,c,rfl,rfl⟩ | ⟨g,o,cap,rfl,h1,h2,h3⟩
 ·exact .inl ⟨a,c,rfl,rfl⟩
 ·refine .inr ⟨g,o,cap,rfl,h1,h2,fun j x hj=>?_⟩
  obtain ⟨cs,⟨fv,rfl,hT⟩,h5⟩:=h3 j x hj
  exact ⟨fv,hT,h5 0 _ rfl,h5 1 _ rfl⟩
theorem rw_it {F:Nat → Prop} {w:World} {v:Value} {xs:List It} (h:RwR 4 cIt F w v xs):ItR F w v xs:=by
 rcases h with ⟨a,c,rfl,rfl⟩ | ⟨g,o,cap,rfl,h1,h2,h3⟩
 ·exact .inl ⟨a,c,rfl,rfl⟩
 ·refine .inr ⟨g,o,cap,rfl,h1,h2,fun j x hj=>?_⟩
  obtain ⟨cs,⟨fv,rfl,hT⟩,h5⟩:=h3 j x hj
  exact ⟨fv,hT,h5 0 _ rfl,h5 1 _ rfl,h5 2 _ rfl,h5 3 _ rfl⟩
def RdE {α:Type} (C:Cel α) (RES:α × Nat × Nat) (l:List Nat) (b g:Nat) (w:World) (e:Ending) (w':World):Prop :=
 ∃ cs,e = .returned (.agg cs.toArray) ∧ C (Fr w w') w' RES.1 cs ∧ Wire.RIs w' b g l RES.2.1 RES.2.2 ∧ Wire.Kept (fun x=>x = b) w w'
def RlE {α:Type} (sz:Nat) (C:Cel α) (RES:List α × Nat × Nat) (l:List Nat) (b g:Nat) (w:World) (e:Ending) (w':World):Prop :=
 ∃ v,e = .returned v ∧ RwR sz C (Fr w w') w' v RES.1 ∧ RES.1.length ≤ 65535 ∧ Wire.RIs w' b g l RES.2.1 RES.2.2 ∧ Wire.Kept (fun x=>x = b) w w'
def NuE (RES:Nat × Nat × Nat) (l:List Nat) (b g:Nat) (w:World) (e:Ending) (w':World):Prop:=e = .returned (.int .i64 (RES.1:Int)) ∧ Wire.RIs w' b g l RES.2.1 RES.2.2 ∧ Wire.Kept (fun k=>k = b) w w'
def TeE (RES:List UInt8 × Nat × Nat) (l:List Nat) (b g:Nat) (w:World) (e:Ending) (w':World):Prop:=e = .returned (.string (str RES.1)) ∧ Wire.RIs w' b g l RES.2.1 RES.2.2 ∧ Wire.Kept (fun k=>k = b) w w'
def BrE (RES:List UInt8 × Nat × Nat) (l:List Nat) (b g:Nat) (w:World) (e:Ending) (w':World):Prop:=∃ v,e = .returned v ∧ ByR (Fr w w') w' v RES.1 ∧ Wire.RIs w' b g l RES.2.1 RES.2.2 ∧ Wire.Kept (fun k=>k = b) w w'
structure Fill (b g:Nat) (l:List Nat) (RT T:Nat) (Z:Array Value) (w u:World) (cs:Array Value) (p y:Nat):Prop where
 rbox:u.heap[w.heap.size]? = some (.cells #[.pointer (some ⟨b,0,none⟩)] RT (0,0))
 res:u.heap[w.heap.size + 1]? = some (.cells Z T (0,0))
 var:u.heap[w.heap.size + 1 + 1]? = some (.cells cs T (0,0))
 rd:Wire.RIs u b g l p y
 kept:Wire.Kept (fun x=>x = b) w u
 hb:b < w.heap.size
 hg:g < w.heap.size
 sz:w.heap.size + 3 ≤ u.heap.size
theorem Fill.start {b g : Nat} {l : List Nat} {p y : Nat} {w : World} (hr : Wire.RIs w b g l p y) (RT T : Nat) (Z : Array Value) :
  Fill b g l RT T Z w (((w.alloc (.cells #[.pointer (some ⟨b,0,none⟩)] RT)).alloc (.cells Z T)).alloc (.cells Z T)) Z p y:=by
 have k1:=wk_alloc w (.cells #[.pointer (some ⟨b,0,none⟩)] RT)
 have n1:=World.alloc_heap_new w (.cells #[.pointer (some ⟨b,0,none⟩)] RT)
 have z1:(w.alloc (.cells #[.pointer (some ⟨b,0,none⟩)] RT)).heap.size = w.heap.size + 1:=by simp
 have hb:=hr.lt
 have hg:=hr.gt
 have r1:=hr.kept k1 (fun h=>h) (fun h=>h)
 generalize w.alloc (.cells #[.pointer (some ⟨b,0,none⟩)] RT) = w1 at *
 have k2:=wk_alloc w1 (.cells Z T)
 have n2:=World.alloc_heap_new w1 (.cells Z T)
 have z2:(w1.alloc (.cells Z T)).heap.size = w.heap.size + 2:=by simp [z1]
 have r2:=r1.kept k2 (fun h=>h) (fun h=>h)
 have n12:=(Below.heap_alloc w1 (.cells Z T) w.heap.size (by omega)).trans n1
 rw [z1] at n2
 generalize w1.alloc (.cells Z T) = w2 at *
 have k3:=wk_alloc w2 (.cells Z T)
 have n3:=World.alloc_heap_new w2 (.cells Z T)
 have z3:(w2.alloc (.cells Z T)).heap.size = w.heap.size + 3:=by simp [z2]
 have r3:=r2.kept k3 (fun h=>h) (fun h=>h)
 have n13:=(Below.heap_alloc w2 (.cells Z T) w.heap.size (by omega)).trans n12
 have n23:=(Below.heap_alloc w2 (.cells Z T) (w.heap.size + 1) (by omega)).trans n2
 rw [z2] at n3
 exact ⟨n13,n23,n3,r3,(k1.trans k2 (U:=fun _=>False) (fun _ _ h=>h) (fun _ _ h=>h)).trans k3 (U:=fun x=>x = b) (fun _ _ h=>h.elim) (fun _ _ h=>h.elim),hb,hg,by omega⟩
theorem Fill.call {b g:Nat} {l:List Nat} {RT T:Nat} {Z cs:Array Value} {p y p' y':Nat} {w u u':World} (h:Fill b g l RT T Z w u cs p y) (k:Wire.Kept (fun x=>x = b) u u') (hr:Wire.RIs u' b g l p' y'):Fill b g l RT T Z w u' cs p' y':=by
 have:=h.sz
 have hb:=h.hb
 have:=k.size
 exact ⟨(k.block _ (by omega) (by omega)).trans h.rbox,(k.block _ (by omega) (by omega)).trans h.res,(k.block _ (by omega) (by omega)).trans h.var,hr,h.kept.trans k (fun _ _ h=>h) (fun _ _ h=>h),h.hb,h.hg,by omega⟩
theorem Fill.store {b g:Nat} {l:List Nat} {RT T:Nat} {Z cs:Array Value} {p y:Nat} {w u:World} (h:Fill b g l RT T Z w u cs p y) (i:Nat) (v:Value):Fill b g l RT T Z w (u.setCell ⟨w.heap.size + 1 + 1,i,none⟩ v) (cs.setIfInBounds i v) p y:=by
 have hs:=h.sz
 have hb:=h.hb
 have hg:=h.hg
 have k:=Wire.kept_set u (w.heap.size + 1 + 1) i v
 have hz:=k.size
 exact ⟨(k.block _ (by omega) (by omega)).trans h.rbox,(k.block _ (by omega) (by omega)).trans h.res,heap_setCell_same u _ i _ _ v h.var,h.rd.kept k (by omega) (by omega),h.kept.trans k (fun _ _ h=>h) (fun z hz h=>by omega),h.hb,h.hg,by omega⟩
theorem Fill.cell {b g:Nat} {l:List Nat} {RT T:Nat} {Z cs:Array Value} {p y:Nat} {w u:World} (h:Fill b g l RT T Z w u cs p y) (i:Nat):u.cell? ⟨w.heap.size + 1 + 1,i,none⟩ = cs[i]?:=cell_of_row u _ i _ _ _ h.var
theorem Fill.frozen {b g:Nat} {l:List Nat} {RT T:Nat} {Z cs:Array Value} {p y:Nat} {w u:World} (h:Fill b g l RT T Z w u cs p y) (i:Nat):u.frozen? ⟨w.heap.size + 1 + 1,i,none⟩ = false:=frozen_of_row u _ i _ _ h.var
theorem Fill.ptr {b g:Nat} {l:List Nat} {RT T:Nat} {Z cs:Array Value} {p y:Nat} {w u:World} (h:Fill b g l RT T Z w u cs p y):u.cell? ⟨w.heap.size,0,none⟩ = some (.pointer (some ⟨b,0,none⟩)):=by rw [cell_of_row u _ 0 _ _ _ h.rbox]; rfl
theorem Fill.carryC {b g:Nat} {l:List Nat} {RT T:Nat} {Z cs:Array Value} {p y:Nat} {w u u':World} (h:Fill b g l RT T Z w u cs p y) (k:Wire.Kept (fun x=>x = b) u u'):∀ z,(w.heap.size + 3 ≤ z ∧ z < u.heap.size) → (w.heap.size + 3 ≤ z ∧ z < u'.heap.size) ∧ u'.heap[z]? = u.heap[z]?:=fun z hz=>by
 have hb:=h.hb
 have:=k.size
 exact ⟨by omega,k.block z hz.2 (by omega)⟩
theorem Fill.carryS {b g:Nat} {l:List Nat} {RT T:Nat} {Z cs:Array Value} {p y:Nat} {w u:World} (_h:Fill b g l RT T Z w u cs p y) (i:Nat) (v:Value):∀ z,(w.heap.size + 3 ≤ z ∧ z < u.heap.size) → (w.heap.size + 3 ≤ z ∧ z < (u.setCell ⟨w.heap.size + 1 + 1,i,none⟩ v).heap.size) ∧ (u.setCell ⟨w.heap.size + 1 + 1,i,none⟩ v).heap[z]? = u.heap[z]?:=fun z hz=>by
 have k:=Wire.kept_set u (w.heap.size + 1 + 1) i v
 have:=k.size
 exact ⟨by omega,k.block z hz.2 (by omega)⟩
theorem Fill.take {b g:Nat} {l:List Nat} {RT T:Nat} {Z cs:Array Value} {p y:Nat} {w u u':World} (h:Fill b g l RT T Z w u cs p y):∀ z,Fr u u' z → (w.heap.size + 3 ≤ z ∧ z < u'.heap.size) ∧ u'.heap[z]? = u'.heap[z]?:=fun z hz=>by
 have:=h.sz
 exact ⟨⟨by have:=hz.1; omega,hz.2⟩,rfl⟩
theorem Fill.done {b g : Nat} {l : List Nat} {RT T : Nat} {Z cs : Array Value} {p y : Nat} {w u : World} (h : Fill b g l RT T Z w u cs p y) (ds : Array Value) :
  Wire.RIs (u.setRow (w.heap.size + 1) ds) b g l p y ∧ Wire.Kept (fun x=>x = b) w (u.setRow (w.heap.size + 1) ds) ∧ (∀ z,(w.heap.size + 3 ≤ z ∧ z < u.heap.size) → Fr w (u.setRow (w.heap.size + 1) ds) z ∧ (u.setRow (w.heap.size + 1) ds).heap[z]? = u.heap[z]?):=by
 have hs:=h.sz
 have hb:=h.hb
 have hg:=h.hg
 have k:=wk_setRow u (w.heap.size + 1) ds
 have:=k.size
 exact ⟨h.rd.kept k (by omega) (by omega),h.kept.trans k (fun _ _ h=>h) (fun z hz h=>by omega),fun z hz=>⟨⟨by omega,by omega⟩,k.block z hz.2 (by omega)⟩⟩
end Go.Proofs.YtiiepfplommmfaaGreatDoor

namespace Go.Proofs.YtiiepfplommmfaaGreatDoor
open Go.RowKit

def QNuE (R:Nat × Nat × Nat) (l:List Nat) (b b0:Nat) (bv:Value) (w:World) (e:Ending) (w':World):Prop:=e = .returned (.int .i64 (R.1:Int)) ∧ Wire.QIs w' b b0 bv l R.2.1 R.2.2 ∧ Wire.Kept (fun k=>k = b) w w'
theorem rnumber (b b0 : Nat) (bv : Value) (l : List Nat) (p y : Nat) (w : World) (hl : l.length ≤ 140737488351232) (h256 : ∀ x ∈ l, x < 256) (hp : p ≤ l.length) (hq : Wire.QIs w b b0 bv l p y) (hcap : ∃ a m c, bv = .slice a m c ∧ m ≤ c ∧ c ≤ maxLen) :
  Calls Tryz.prog 59 #[.pointer (some ⟨b,0,none⟩)] w (QNuE (Wire.rNum l p y 65535) l b b0 bv w):=by
 have hnum:=Wire.qnumber b b0 bv l p y 65535 w hl h256 hp (by decide) hq hcap
 have hN:=Wire.rNum_most l p y 65535
 unfold Wire.QNumE at hnum
 unfold QNuE
 generalize Wire.rNum l p y 65535 = R at *
 obtain ⟨n,p1,y1⟩:=R
 simp only at hnum hN ⊢
 have hw:IntKind.i64.wrap ((n:Nat):Int) = (n:Int):=by rw [IntKind.wrap_i64]; omega
 go_enter Tryz.func59,Tryz.ntmps59
 go_wp2_with fail
 refine hnum.mono ?_
 rintro e w1 ⟨rfl,hq1,K1⟩
 go_wp2
 go_ret
 exact ⟨rfl,hq1,K1⟩
def QTxsE (RES:List (List UInt8) × Nat × Nat) (l:List Nat) (b b0:Nat) (bv:Value) (w:World) (e:Ending) (w':World):Prop:=∃ v,e = .returned v ∧ TxC (Fr w w') w' v RES.1 ∧ RES.1.length ≤ 65535 ∧ Wire.QIs w' b b0 bv l RES.2.1 RES.2.2 ∧ Wire.Kept (fun x=>x = b) w w'
theorem own_txC {w:World} {B:Nat} {v:Value} {xs:List (List UInt8)} (h:w.ownsRow B 9 1 v xs.length (sc xs)):TxC (fun g=>B ≤ g ∧ g < w.heap.size) w v xs:=by
 have hG:RowG cTx 9 1 B w v xs:=by
  refine ⟨xs.map (fun x=>(x,[.string (str x)])),by simp [Function.comp_def],?_,fun p hp=>?_⟩
  ·have e:(xs.map (fun x=>(x,[Value.string (str x)]))).flatMap (·.2) = sc xs:=by
    clear h
    induction xs with
    | nil=>rfl
    | cons a r ih=>simpa [sc] using ih
   rw [e]
   exact h
  ·obtain ⟨x,_,rfl⟩:=List.mem_map.1 hp
   exact rfl
 exact rw_txC (hG.rw cTxK)
set_option maxHeartbeats 2000000 in
set_option maxRecDepth 1000000 in
theorem rreadTexts (most b b0 : Nat) (bv : Value) (l : List Nat) (p y : Nat) (w : World) (hm : most ≤ 65535) (hl : l.length ≤ 140737488351232) (h256 : ∀ x ∈ l, x < 256) (hp : p ≤ l.length) (hq : Wire.QIs w b b0 bv l p y) (hg0 : b0 < w.heap.size ∨ l = []) (hcap : ∃ a m c, bv = .slice a m c ∧ m ≤ c ∧ c ≤ maxLen) :
  Calls Tryz.prog 61 #[.pointer (some ⟨b,0,none⟩),.int .i64 (most:Int)] w (QTxsE (refL l (txtR l most) p y) l b b0 bv w):=by
 have hbl:=hq.lt
 have hnum:=Wire.qnumber b b0 bv l p y 65535 w hl h256 hp (by decide) hq hcap
 have hN:=Wire.rNum_most l p y 65535
 have hp1:=Wire.rNum_le l p y 65535 hp
 have HL:Hid (refL l (txtR l most) p y = refF (txtR l most) (Wire.rNum l p y 65535).1 (Wire.rNum l p y 65535).2.1 (Wire.rNum l p y 65535).2.2 []):=rfl
 have Hcap:=hidden hcap
 have HG:=hidden hg0
 clear hcap hg0
 unfold Wire.QNumE at hnum
 generalize Wire.rNum l p y 65535 = R at *
 obtain ⟨N,p1,y1⟩:=R
 simp only at hnum hN hp1 HL
 generalize refL l (txtR l most) p y = RES at *
 go_enter Tryz.func61,Tryz.ntmps61
 go_wp2_with fail
 refine hnum.mono ?_
 rintro e w1 ⟨rfl,hq1,K1⟩
 clear hnum
 go_wp2
 go_loopg [5,6] N (fun gk lv i wr=>∃ (k pk yk:Nat) (acc:List (List UInt8)),gk = k ∧ i = .int .u64 (k:Int) ∧ Hid (RES = refF (txtR l most) k pk yk acc) ∧ Hid (acc.length + k ≤ 65535) ∧ pk ≤ l.length ∧ Wire.QIs wr b b0 bv l pk yk ∧ wr.ownsRow w.heap.size 9 1 lv acc.length (sc acc) ∧ Wire.Kept (fun x=>x = b) w wr)
 case atStart=>exact ⟨N,p1,y1,[],rfl,rfl,HL,by simpa [Hid] using hN,hp1,hq1,World.ownsRow_nil _ _ _ _,K1⟩
 case round =>
  obtain ⟨k,pk,yk,acc,hgk0,rfl,hR,hak,hpk,hqr,hown,Kr⟩:=hrel
  rename World=>wo
  have hsr:=Kr.size
  obtain ⟨fl,hfl,hfy⟩:=qflag hqr
  by_cases hgo:0 < k ∧ yk = 0
  ·obtain ⟨hk,rfl⟩:=hgo
   have hff:fl = false:=by simpa using hfy
   subst hff
   clear hfy
   have hki:(0:Int) < (k:Int):=by omega
   have hkle:k ≤ 65535:=by have:=hak.out; omega
   have hwk:IntKind.u64.wrap ((k:Int) - 1) = ((k - 1:Nat):Int):=by rw [show (k:Int) - 1 = ((k - 1:Nat):Int) by omega]; exact wrapM (k - 1) (by omega)
   have htx:=qtxt most b b0 bv l pk 0 wo hm hl h256 hpk hqr Hcap.out
   have hst:=refF_go (txtR l most) k pk acc hk
   have hple:=txt_le l most pk 0 hpk
   unfold QTxtE at htx
   generalize txtR l most pk 0 = X at *
   obtain ⟨nm,px,yx⟩:=X
   simp only at htx hple hst
   have HE0:Hid (RES = refF (txtR l most) (k - 1) px yx (acc ++ [nm])):=by rw [hid_iff,hR.out,hst]
   clear hst hR
   go_wp2_with fail
   refine htx.mono ?_
   rintro e w2 ⟨rfl,hq2,K2⟩
   have hs2:=K2.size
   have ho2:=owns_wkept hown K2 (fun z hz e=>by omega)
   have K02:=Kr.trans K2 (U:=fun x=>x = b) (fun _ _ h=>h) (fun _ _ h=>h)
   have hqA:=fun ob=>hq2.kept (wkept_alloc w2 ob) (fun h=>h) (fun h=>h.elim)
   have hbA:=fun ob=>wkept_alloc w2 ob
   clear htx hfl hqr hown
   go_wp2_with (at_builtin; refine append_textN rfl (.tmp 20) (.tmp 24) rfl w.heap.size _ acc rfl (ho2.alloc _) _ _ nm rfl ?src ?len ?hB ?next)
   case src=>first | exact cells_new _ _ _ | exact fun j u h=>h
   case len=>have:=hak.out; omega
   case hB=>simp; omega
   case next =>
    intro ad c' w' k1 k2
    have hob:∀ z,u5.ownBlock = some z → w.heap.size ≤ z:=fun z hz=>by
     rcases ho2.2 with ⟨e,_⟩ | ⟨g,cap,cur,e,h2,_⟩
     ·rw [e] at hz
      cases hz
     ·rw [e] at hz
      cases hz
      exact h2
    have K7:=(hbA _).trans (U:=fun z=>u5.ownBlock = some z) (wkept_grown k2) (fun _ _ h=>h.elim) (fun _ _ h=>h)
    have hq7:=hq2.kept K7 (fun h=>by have:=hob _ h; omega) (fun h=>by have h1:=hob _ h; rcases HG.out with h2 | h2; omega; exact h2)
    have K9:=K02.trans K7 (U:=fun x=>x = b) (fun _ _ h=>h) (fun z hz h=>by have:=hob _ h; omega)
    have HE9:Hid ((acc ++ [nm]).length + (k - 1) ≤ 65535):=by rw [hid_iff,List.length_append,List.length_singleton]; have:=hak.out; omega
    clear k2 hq2 K2 ho2 hqA hbA
    go_wp2
    go_roundg (k - 1)
    case measure=>omega
    case rel=>exact ⟨k - 1,px,yx,acc ++ [nm],rfl,rfl,HE0,HE9.out,hple,hq7,by simpa using k1,K9⟩
  ·have hE:RES = (acc,pk,yk):=by rw [hR.out,refF_stop _ _ _ _ _ (by omega)]
   have hak':=hak.out
   have hTC:=own_txC hown
   have HTC:=hidden hTC
   have hfinal:Hid (TxC (Fr w wo) wo u5 RES.1 ∧ RES.1.length ≤ 65535 ∧ Wire.QIs wo b b0 bv l RES.2.1 RES.2.2 ∧ Wire.Kept (fun x=>x = b) w wo):=by
    rw [hid_iff,hE]
    exact ⟨hTC,by simp only; omega,hqr,Kr⟩
   clear hE hR hTC hqr hown HTC
   by_cases hk0:0 < k
   ·have hki:(0:Int) < (k:Int):=by omega
    have hyk:yk ≠ 0:=fun e=>hgo ⟨hk0,e⟩
    have hff:fl = true:=hfy.2 hyk
    subst hff
    clear hfy
    go_wp2
    go_ret
    exact ⟨_,rfl,hfinal.out⟩
   ·have hki:¬ (0:Int) < (k:Int):=by omega
    clear hfy
    go_wp2
    go_ret
    exact ⟨_,rfl,hfinal.out⟩
end Go.Proofs.YtiiepfplommmfaaGreatDoor

namespace Go.Proofs.YtiiepfplommmfaaGreatDoor
open Wire (rNum rEnd)

def fnQ (l:List Nat) (p y:Nat):Fn × Nat × Nat :=
 let a:=txtR l 24 p y
 let b:=refL l (txtR l 200) a.2.1 a.2.2
 let c:=rNum l b.2.1 b.2.2 65535
 let d:=txtR l 200 c.2.1 c.2.2
 let e:=rNum l d.2.1 d.2.2 65535
 let f:=txtR l 65535 e.2.1 e.2.2
 (⟨a.1,b.1,(c.1:Int),d.1,(e.1:Int),f.1⟩,f.2)
def syQ (l:List Nat) (p y:Nat):Sy × Nat × Nat :=
 let a:=txtR l 24 p y
 let b:=itemQ l a.2.1 a.2.2
 (⟨a.1,b.1⟩,b.2)
def objQ (l:List Nat) (p y:Nat):Ob × Nat × Nat :=
 let m:=txtR l 24 p y
 let a:=refL l (itemQ l) m.2.1 m.2.2
 let b:=refL l (txtR l 200) a.2.1 a.2.2
 let c:=refL l (glR l) b.2.1 b.2.2
 let d:=refL l (fnQ l) c.2.1 c.2.2
 let e:=refL l (txtR l 24) d.2.1 d.2.2
 let f:=refL l (syQ l) e.2.1 e.2.2
 let g:=refL l (rlR l) f.2.1 f.2.2
 (⟨m.1,a.1,b.1,c.1,d.1,e.1,f.1,g.1⟩,g.2)
structure Rf {α:Type} (rd' rd:Nat → Nat → α × Nat × Nat):Prop where
 st:∀ p y,y ≠ 0 → (rd p y).2 = (p,y)
 two:∀ p y,(rd' p y).2 = (rd p y).2
 one:∀ p y,(rd p y).2.2 = 0 → rd' p y = rd p y
theorem Rf.zero {α:Type} {rd' rd:Nat → Nat → α × Nat × Nat} (h:Rf rd' rd) {p y:Nat} (e:(rd p y).2.2 = 0):y = 0:=by
 by_cases hy:y = 0
 ·exact hy
 ·rw [h.st p y hy] at e
  exact absurd e hy
theorem rf_same {α:Type} {rd:Nat → Nat → α × Nat × Nat} (h:∀ p y,y ≠ 0 → (rd p y).2 = (p,y)):Rf rd rd:=⟨h,fun _ _=>rfl,fun _ _ _=>rfl⟩
theorem rf_txt (l:List Nat) (most:Nat):Rf (txtR l most) (txtR l most):=rf_same (txt_stuck l most)
theorem rf_num (l:List Nat):Rf (numD l) (numD l):=rf_same (fun p y h=>by
 show (rNum l p y 65535).2 = (p,y)
 rw [num_stick l 65535 p y h])
theorem rf_item (l:List Nat):Rf (itemQ l) (itemR l):=⟨item_stuck l,fun p y=>(item_ref l p y).1,fun p y=>(item_ref l p y).2⟩
theorem rf_list {α:Type} (l:List Nat) {rd' rd:Nat → Nat → α × Nat × Nat} (h:Rf rd' rd):Rf (refL l rd') (listR l rd):=⟨list_stuck l rd,fun p y=>(refL_list l h.two h.one h.st p y).1,fun p y=>(refL_list l h.two h.one h.st p y).2⟩
theorem rf_two {α β γ : Type} {ra' ra : Nat → Nat → α × Nat × Nat} {rb' rb : Nat → Nat → β × Nat × Nat} (ha : Rf ra' ra) (hb : Rf rb' rb) (rc' rc : Nat → Nat → γ × Nat × Nat) (f : α → β → γ)
  (hrc':∀ p y,rc' p y = (f (ra' p y).1 (rb' (ra' p y).2.1 (ra' p y).2.2).1,(rb' (ra' p y).2.1 (ra' p y).2.2).2))
  (hrc:∀ p y,rc p y = (f (ra p y).1 (rb (ra p y).2.1 (ra p y).2.2).1,(rb (ra p y).2.1 (ra p y).2.2).2)):Rf rc' rc:=by
 refine ⟨fun p y h=>?_,fun p y=>?_,fun p y h=>?_⟩
 ·rw [hrc]
  show (rb (ra p y).2.1 (ra p y).2.2).2 = (p,y)
  rw [ha.st p y h]
  exact hb.st p y h
 ·rw [hrc,hrc']
  show (rb' (ra' p y).2.1 (ra' p y).2.2).2 = (rb (ra p y).2.1 (ra p y).2.2).2
  rw [ha.two p y]
  exact hb.two _ _
 ·rw [hrc] at h
  have h1:(rb (ra p y).2.1 (ra p y).2.2).2.2 = 0:=h
  have h2:=hb.zero h1
  rw [hrc,hrc',ha.one p y h2,hb.one _ _ h1]
theorem rf_and {α β:Type} {ra' ra:Nat → Nat → α × Nat × Nat} {rb' rb:Nat → Nat → β × Nat × Nat} (ha:Rf ra' ra) (hb:Rf rb' rb):Rf (andR ra' rb') (andR ra rb) :=
 rf_two ha hb (andR ra' rb') (andR ra rb) Prod.mk (fun _ _=>rfl) (fun _ _=>rfl)
theorem rf_gl (l:List Nat):Rf (glR l) (glR l) :=
 rf_two (rf_txt l 24) (rf_and (rf_txt l 200) (rf_num l)) (glR l) (glR l) (fun a b=>(⟨a,b.1,b.2⟩:Gl)) (fun _ _=>by simp only [glR,andR,numD]) (fun _ _=>by simp only [glR,andR,numD])
theorem rf_rl (l:List Nat):Rf (rlR l) (rlR l) :=
 rf_two (rf_num l) (rf_and (rf_num l) (rf_num l)) (rlR l) (rlR l) (fun a b=>(⟨a,b.1,b.2⟩:Rl)) (fun _ _=>by simp only [rlR,andR,numD]) (fun _ _=>by simp only [rlR,andR,numD])
theorem rf_sy (l:List Nat):Rf (syQ l) (syR l) :=
 rf_two (rf_txt l 24) (rf_item l) (syQ l) (syR l) (fun a b=>(⟨a,b⟩:Sy)) (fun _ _=>by simp only [syQ]) (fun _ _=>by simp only [syR])
theorem rf_fn (l:List Nat):Rf (fnQ l) (fnR l) :=
 rf_two (rf_txt l 24) (rf_and (rf_list l (rf_txt l 200)) (rf_and (rf_num l) (rf_and (rf_txt l 200) (rf_and (rf_num l) (rf_txt l 65535))))) (fnQ l) (fnR l) (fun a b=>(⟨a,b.1,b.2.1,b.2.2.1,b.2.2.2.1,b.2.2.2.2⟩:Fn)) (fun _ _=>by simp only [fnQ,andR,numD]) (fun _ _=>by simp only [fnR,andR,numD])
theorem rf_obj (l:List Nat):Rf (objQ l) (objR l) :=
 rf_two (rf_txt l 24) (rf_and (rf_list l (rf_item l)) (rf_and (rf_list l (rf_txt l 200)) (rf_and (rf_list l (rf_gl l)) (rf_and (rf_list l (rf_fn l)) (rf_and (rf_list l (rf_txt l 24)) (rf_and (rf_list l (rf_sy l)) (rf_list l (rf_rl l)))))))) (objQ l) (objR l) (fun a b=>(⟨a,b.1,b.2.1,b.2.2.1,b.2.2.2.1,b.2.2.2.2.1,b.2.2.2.2.2.1,b.2.2.2.2.2.2⟩:Ob)) (fun _ _=>by simp only [objQ,andR]) (fun _ _=>by simp only [objR,andR])
theorem end_zero {l:List Nat} {p y:Nat} (h:(rEnd l p y).1 = 0):y = 0:=by
 unfold rEnd at h
 split at h
 ·rename_i h1
  exact absurd h h1
 ·rename_i h1
  exact Classical.not_not.1 h1
theorem dec_same (l:List Nat):rEnd l (objQ l 0 0).2.1 (objQ l 0 0).2.2 = rEnd l (objR l 0 0).2.1 (objR l 0 0).2.2 ∧ ((rEnd l (objR l 0 0).2.1 (objR l 0 0).2.2).1 = 0 → (objQ l 0 0).1 = (objR l 0 0).1):=by
 refine ⟨by rw [(rf_obj l).two],fun h=>?_⟩
 have h2:(objR l 0 0).2.2 = 0:=end_zero h
 rw [(rf_obj l).one 0 0 h2]
end Go.Proofs.YtiiepfplommmfaaGreatDoor
