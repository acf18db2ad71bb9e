/-
  The document's own ReadItem.
  And: Rows of structs that a call makes, whatever they hold: one put behind the others. No function in it. What ObjectParts asks of an object's imports and of its interface's items. No program in it. An object as bytes: what is written, how it is read, and that the one is the other's way back. No program in it. What Right lets by is small enough to be read again. No program in it. What is read is no longer than it may be. No program in it.
-/
import Derived.Test.YtiiepfplommmfaaGreatDoorG10
import Derived.Deep.AppendLies
import Derived.Test.YtiiepfplommmfaaGreatDoorG03
import Derived.Test.YtiiepfplommmfaaGreatDoorG04
import Derived.Test.YtiiepfplommmfaaGreatDoorG01
import Derived.Test.YtiiepfplommmfaaGreatDoorG07
namespace Go.Proofs.YtiiepfplommmfaaGreatDoor
open Go.RowKit

def RItemE (RES:It × Nat × Nat) (l:List Nat) (b b0:Nat) (bv:Value) (w:World) (e:Ending) (w':World):Prop:=∃ fv,e = .returned (itv RES.1 fv) ∧ CsR (Fr w w') w' fv RES.1.cases ∧ RES.1.cases.length ≤ 65535 ∧ Wire.QIs w' b b0 bv l RES.2.1 RES.2.2 ∧ Wire.Kept (fun x=>x = b) w w'
set_option maxHeartbeats 4000000 in
set_option maxRecDepth 1000000 in
theorem refReadItem (b b0 : Nat) (bv : Value) (l : List Nat) (p y : Nat) (w : World) (hl : l.length ≤ 140737488351232) (h256 : ∀ x ∈ l, x < 256) (hp : p ≤ l.length) (hq : Wire.QIs w b b0 bv l p y) (hg0 : b0 < w.heap.size ∨ l = []) (hcap : ∃ a m c, bv = .slice a m c ∧ m ≤ c ∧ c ≤ maxLen) :
  Calls Tryz.prog 60 #[.pointer (some ⟨b,0,none⟩)] w (RItemE (itemQ l p y) l b b0 bv w):=by
 have hbl:=hq.lt
 have HR:itemQ l p y = itemQN l (Wire.rNum l p y 65535).1 (Wire.rNum l p y 65535).2.1 (Wire.rNum l p y 65535).2.2:=rfl
 have hN:=Wire.rNum_most l p y 65535
 have hp1:=Wire.rNum_le l p y 65535 hp
 rw [HR]
 clear HR
 have Hcap:=hidden hcap
 have HG:=hidden hg0
 clear hcap hg0
 have hA1:=World.alloc_heap_new w (.cells #[.int .i64 0,.string ⟨#[]⟩,.string ⟨#[]⟩,.slice none 0 0] 77)
 have K1:Wire.Kept (fun x=>x = b) w (w.alloc (.cells #[.int .i64 0,.string ⟨#[]⟩,.string ⟨#[]⟩,.slice none 0 0] 77)):=(Wire.Kept.refl _ _).trans (wkept_alloc _ _) (fun _ _ h=>h) (fun _ _ h=>h.elim)
 have hq1:=hq.kept (wkept_alloc w (.cells #[.int .i64 0,.string ⟨#[]⟩,.string ⟨#[]⟩,.slice none 0 0] 77)) (fun h=>h) (fun h=>h.elim)
 have hnum:=Wire.qnumber b b0 bv l p y 65535 _ hl h256 hp (by decide) hq1 Hcap.out
 unfold Wire.QNumE at hnum
 generalize Wire.rNum l p y 65535 = X at *
 obtain ⟨kn,p1,y1⟩:=X
 simp only at hnum hN hp1
 have htx:∀ u,Wire.QIs u b b0 bv l p1 y1 → Calls Tryz.prog 58 #[.pointer (some ⟨b,0,none⟩),.int .i64 24] u (QTxtE l 24 p1 y1 b b0 bv u):=fun u hu=>qtxt 24 b b0 bv l p1 y1 u (by decide) hl h256 hp1 hu Hcap.out
 have hp2:=txt_le l 24 p1 y1 hp1
 unfold itemQN
 unfold QTxtE at htx
 generalize txtR l 24 p1 y1 = Y at *
 obtain ⟨nm,p2,y2⟩:=Y
 simp only at htx hp2 ⊢
 have hci:IntKind.i64.wrap (kn:Int) = (kn:Int):=by rw [IntKind.wrap_i64]; omega
 have hkb:(kn:Int) ≤ 65535:=by omega
 go_enter Tryz.func60,Tryz.ntmps60
 go_wp2_with fail
 generalize (w.alloc (.cells #[.int .i64 0,.string ⟨#[]⟩,.string ⟨#[]⟩,.slice none 0 0] 77)) = W2 at *
 refine hnum.mono ?_
 rintro e w3 ⟨rfl,hq3,KN⟩
 have hz2:w.heap.size < W2.heap.size:=(Array.getElem?_eq_some_iff.1 hA1).1
 have hs3:w.heap.size < w3.heap.size:=Nat.lt_of_lt_of_le hz2 KN.size
 have hA3:=(KN.block w.heap.size (by omega) (by omega)).trans hA1
 have hA4:=(Below.heap_alloc w3 (.cells #[.int .i64 (kn:Int),.string ⟨#[]⟩,.string ⟨#[]⟩,.slice none 0 0] 77) w.heap.size hs3).trans hA3
 have hC4:=World.alloc_heap_new w3 (.cells #[.int .i64 (kn:Int),.string ⟨#[]⟩,.string ⟨#[]⟩,.slice none 0 0] 77)
 have hr4:=hq3.kept (wkept_alloc w3 (.cells #[.int .i64 (kn:Int),.string ⟨#[]⟩,.string ⟨#[]⟩,.slice none 0 0] 77)) (fun h=>h) (fun h=>h.elim)
 have K4:Wire.Kept (fun x=>x = b) w (w3.alloc (.cells #[.int .i64 (kn:Int),.string ⟨#[]⟩,.string ⟨#[]⟩,.slice none 0 0] 77)):=(K1.trans KN (U:=fun x=>x = b) (fun _ _ h=>h) (fun _ _ h=>h)).trans (wkept_alloc _ _) (fun _ _ h=>h) (fun _ _ h=>h.elim)
 have ht4:=htx _ hr4
 clear hnum htx KN K1 hq3 hq1 hA1 hA3
 go_wp2_with fail
 generalize w3.alloc (.cells #[.int .i64 (kn:Int),.string ⟨#[]⟩,.string ⟨#[]⟩,.slice none 0 0] 77) = w4 at *
 refine ht4.mono ?_
 rintro e w5 ⟨rfl,hrw5,KT⟩
 have hz4:w3.heap.size < w4.heap.size:=(Array.getElem?_eq_some_iff.1 hC4).1
 have hAw5:=(KT.block w.heap.size (by omega) (by omega)).trans hA4
 have hCw5:=(KT.block (w3.heap.size) (by omega) (by omega)).trans hC4
 have Kw5:Wire.Kept (fun x=>x = b) w w5:=K4.trans KT (fun _ _ h=>h) (fun _ _ h=>h)
 have c1:w5.cell? ⟨w3.heap.size,1,none⟩ = some (.string ⟨#[]⟩):=by rw [cell_of_row _ _ 1 _ _ _ hCw5]; rfl
 have f1:=frozen_of_row w5 (w3.heap.size) 1 _ _ hCw5
 have hA6:=(Below.heap_setCell w5 ⟨w3.heap.size,1,none⟩ (.string (str nm)) w.heap.size (by show w.heap.size ≠ w3.heap.size; omega)).trans hAw5
 have hC6:(w5.setCell ⟨w3.heap.size,1,none⟩ (.string (str nm))).heap[w3.heap.size]? = some (.cells #[.int .i64 (kn:Int),.string (str nm),.string ⟨#[]⟩,.slice none 0 0] 77 (0,0)):=by simpa using heap_setCell_same w5 (w3.heap.size) 1 _ _ (.string (str nm)) hCw5
 have KS6:=Wire.kept_set w5 (w3.heap.size) 1 (.string (str nm))
 have hr6:=hrw5.kept KS6 (by omega) (fun h=>HG.out.resolve_left (fun e=>by omega))
 have K6:Wire.Kept (fun x=>x = b) w (w5.setCell ⟨w3.heap.size,1,none⟩ (.string (str nm))):=Kw5.trans KS6 (fun _ _ h=>h) (fun z hz h=>by omega)
 have g0:(w5.setCell ⟨w3.heap.size,1,none⟩ (.string (str nm))).cell? ⟨w3.heap.size,0,none⟩ = some (.int .i64 (kn:Int)):=by rw [cell_of_row _ _ 0 _ _ _ hC6]; rfl
 clear ht4 KT KS6 hrw5 Kw5 hAw5 hCw5 hr4 K4 hA4 hC4
 by_cases hk1:kn = 1
 ·subst hk1
  have hRT:itemQT l 1 nm p2 y2 = (⟨((1:Nat):Int),nm,[],(refL l (caseQ l) p2 y2).1⟩,(refL l (caseQ l) p2 y2).2):=rfl
  have HRT:=hidden hRT
  have hlist:=refReadCases b b0 bv l p2 y2 _ hl h256 hp2 hr6 (HG.out.imp_left (fun e=>Nat.lt_of_lt_of_le e K6.size)) Hcap.out
  generalize refL l (caseQ l) p2 y2 = V at *
  obtain ⟨cs,p3,y3⟩:=V
  unfold RCasesE at hlist
  simp only at hlist
  clear hRT
  go_wp2_with fail
  generalize w5.setCell ⟨w3.heap.size,1,none⟩ (.string (str nm)) = w6 at *
  refine hlist.mono ?_
  rintro e w7 ⟨fv,rfl,hT7,hf7,hrw7,KL⟩
  obtain ⟨fa,fc,rfl⟩:=hT7.shape
  have hz6:w3.heap.size < w6.heap.size:=(Array.getElem?_eq_some_iff.1 hC6).1
  have hAw7:=(KL.block w.heap.size (by omega) (by omega)).trans hA6
  have hCw7:=(KL.block (w3.heap.size) (by omega) (by omega)).trans hC6
  have Kw7:Wire.Kept (fun x=>x = b) w w7:=K6.trans KL (fun _ _ h=>h) (fun _ _ h=>h)
  have c3:w7.cell? ⟨w3.heap.size,3,none⟩ = some (.slice none 0 0):=by rw [cell_of_row _ _ 3 _ _ _ hCw7]; rfl
  have f3:=frozen_of_row w7 (w3.heap.size) 3 _ _ hCw7
  have hA8:=(Below.heap_setCell w7 ⟨w3.heap.size,3,none⟩ (.slice fa cs.length fc) w.heap.size (by show w.heap.size ≠ w3.heap.size; omega)).trans hAw7
  have hC8:(w7.setCell ⟨w3.heap.size,3,none⟩ (.slice fa cs.length fc)).heap[w3.heap.size]? = some (.cells #[.int .i64 ((1:Nat):Int),.string (str nm),.string ⟨#[]⟩,.slice fa cs.length fc] 77 (0,0)):=by simpa using heap_setCell_same w7 (w3.heap.size) 3 _ _ (.slice fa cs.length fc) hCw7
  have KS8:=Wire.kept_set w7 (w3.heap.size) 3 (.slice fa cs.length fc)
  have hr8:=hrw7.kept KS8 (by omega) (fun h=>HG.out.resolve_left (fun e=>by omega))
  have K8:Wire.Kept (fun x=>x = b) w (w7.setCell ⟨w3.heap.size,3,none⟩ (.slice fa cs.length fc)):=Kw7.trans KS8 (fun _ _ h=>h) (fun z hz h=>by omega)
  have K9:=wkept_setRow (w7.setCell ⟨w3.heap.size,3,none⟩ (.slice fa cs.length fc)) w.heap.size #[.int .i64 ((1:Nat):Int),.string (str nm),.string ⟨#[]⟩,.slice fa cs.length fc]
  have hT9:CsR (Fr w ((w7.setCell ⟨w3.heap.size,3,none⟩ (.slice fa cs.length fc)).setRow w.heap.size #[.int .i64 ((1:Nat):Int),.string (str nm),.string ⟨#[]⟩,.slice fa cs.length fc])) ((w7.setCell ⟨w3.heap.size,3,none⟩ (.slice fa cs.length fc)).setRow w.heap.size #[.int .i64 ((1:Nat):Int),.string (str nm),.string ⟨#[]⟩,.slice fa cs.length fc]) (.slice fa cs.length fc) cs:=hT7.frame fun z hz=>by
   have h1:=hz.1
   have h2:=hz.2
   have h3:=KS8.size
   have h4:=K9.size
   exact ⟨⟨by omega,by omega⟩,(K9.block z (by omega) (by omega)).trans (KS8.block z h2 (by omega))⟩
  have hr9:=hr8.kept K9 (by omega) (fun h=>HG.out.resolve_left (fun e=>by omega))
  have K9f:Wire.Kept (fun x=>x = b) w ((w7.setCell ⟨w3.heap.size,3,none⟩ (.slice fa cs.length fc)).setRow w.heap.size #[.int .i64 ((1:Nat):Int),.string (str nm),.string ⟨#[]⟩,.slice fa cs.length fc]):=K8.trans K9 (fun _ _ h=>h) (fun z hz h=>by omega)
  have d0:(w7.setCell ⟨w3.heap.size,3,none⟩ (.slice fa cs.length fc)).cell? ⟨w3.heap.size,0,none⟩ = some (.int .i64 ((1:Nat):Int)):=by rw [cell_of_row _ _ 0 _ _ _ hC8]; rfl
  have d1:(w7.setCell ⟨w3.heap.size,3,none⟩ (.slice fa cs.length fc)).cell? ⟨w3.heap.size,1,none⟩ = some (.string (str nm)):=by rw [cell_of_row _ _ 1 _ _ _ hC8]; rfl
  have d2:(w7.setCell ⟨w3.heap.size,3,none⟩ (.slice fa cs.length fc)).cell? ⟨w3.heap.size,2,none⟩ = some (.string ⟨#[]⟩):=by rw [cell_of_row _ _ 2 _ _ _ hC8]; rfl
  have d3:(w7.setCell ⟨w3.heap.size,3,none⟩ (.slice fa cs.length fc)).cell? ⟨w3.heap.size,3,none⟩ = some (.slice fa cs.length fc):=by rw [cell_of_row _ _ 3 _ _ _ hC8]; rfl
  clear hlist hT7 KL KS8 K9 hrw7 Kw7 hAw7 hCw7 hr6 K6 hA6 hC6 hr8 K8
  go_wp2_with (refine wpList_store_row rfl 77 (.tmp 2) (.tmp 20) rfl w.heap.size #[.int .i64 ((1:Nat):Int),.string (str nm),.string ⟨#[]⟩,.slice fa cs.length fc] rfl rfl 77 #[.int .i64 0,.string ⟨#[]⟩,.string ⟨#[]⟩,.slice none 0 0] hA8 sizeIt rfl (by kernel_rfl) ?_)
  (try simp only [Exit.inBlock,Exit.then])
  refine bodyPost_ret (results_cell_row rfl _ _ w.heap.size 77 #[.int .i64 ((1:Nat):Int),.string (str nm),.string ⟨#[]⟩,.slice fa cs.length fc] (0,0) _ rfl (setRow_heap _ w.heap.size _ _ 77 (0,0) hA8) Tryz.underlying77 rfl sizeIt) rfl ?_
  rw [HRT.out]
  exact ⟨_,rfl,hT9,hf7,hr9,K9f⟩
 ·have hRT:itemQT l kn nm p2 y2 = (⟨(kn:Int),nm,(txtR l 200 p2 y2).1,[]⟩,(txtR l 200 p2 y2).2):=by unfold itemQT; rw [if_neg hk1]
  have HRT:=hidden hRT
  have htt:=qtxt 200 b b0 bv l p2 y2 _ (by decide) hl h256 hp2 hr6 Hcap.out
  unfold QTxtE at htt
  generalize txtR l 200 p2 y2 = V at *
  obtain ⟨ty,p3,y3⟩:=V
  simp only at htt
  have hkf:((kn:Int) == 1) = false:=by rw [beq_eq_false_iff_ne]; omega
  clear hRT hk1
  go_wp2_with fail
  generalize w5.setCell ⟨w3.heap.size,1,none⟩ (.string (str nm)) = w6 at *
  refine htt.mono ?_
  rintro e w7 ⟨rfl,hrw7,KL⟩
  have hz6:w3.heap.size < w6.heap.size:=(Array.getElem?_eq_some_iff.1 hC6).1
  have hAw7:=(KL.block w.heap.size (by omega) (by omega)).trans hA6
  have hCw7:=(KL.block (w3.heap.size) (by omega) (by omega)).trans hC6
  have Kw7:Wire.Kept (fun x=>x = b) w w7:=K6.trans KL (fun _ _ h=>h) (fun _ _ h=>h)
  have c2:w7.cell? ⟨w3.heap.size,2,none⟩ = some (.string ⟨#[]⟩):=by rw [cell_of_row _ _ 2 _ _ _ hCw7]; rfl
  have f2:=frozen_of_row w7 (w3.heap.size) 2 _ _ hCw7
  have hA8:=(Below.heap_setCell w7 ⟨w3.heap.size,2,none⟩ (.string (str ty)) w.heap.size (by show w.heap.size ≠ w3.heap.size; omega)).trans hAw7
  have hC8:(w7.setCell ⟨w3.heap.size,2,none⟩ (.string (str ty))).heap[w3.heap.size]? = some (.cells #[.int .i64 (kn:Int),.string (str nm),.string (str ty),.slice none 0 0] 77 (0,0)):=by simpa using heap_setCell_same w7 (w3.heap.size) 2 _ _ (.string (str ty)) hCw7
  have KS8:=Wire.kept_set w7 (w3.heap.size) 2 (.string (str ty))
  have hr8:=hrw7.kept KS8 (by omega) (fun h=>HG.out.resolve_left (fun e=>by omega))
  have K8:Wire.Kept (fun x=>x = b) w (w7.setCell ⟨w3.heap.size,2,none⟩ (.string (str ty))):=Kw7.trans KS8 (fun _ _ h=>h) (fun z hz h=>by omega)
  have K9:=wkept_setRow (w7.setCell ⟨w3.heap.size,2,none⟩ (.string (str ty))) w.heap.size #[.int .i64 (kn:Int),.string (str nm),.string (str ty),.slice none 0 0]
  have hr9:=hr8.kept K9 (by omega) (fun h=>HG.out.resolve_left (fun e=>by omega))
  have K9f:Wire.Kept (fun x=>x = b) w ((w7.setCell ⟨w3.heap.size,2,none⟩ (.string (str ty))).setRow w.heap.size #[.int .i64 (kn:Int),.string (str nm),.string (str ty),.slice none 0 0]):=K8.trans K9 (fun _ _ h=>h) (fun z hz h=>by omega)
  have d0:(w7.setCell ⟨w3.heap.size,2,none⟩ (.string (str ty))).cell? ⟨w3.heap.size,0,none⟩ = some (.int .i64 (kn:Int)):=by rw [cell_of_row _ _ 0 _ _ _ hC8]; rfl
  have d1:(w7.setCell ⟨w3.heap.size,2,none⟩ (.string (str ty))).cell? ⟨w3.heap.size,1,none⟩ = some (.string (str nm)):=by rw [cell_of_row _ _ 1 _ _ _ hC8]; rfl
  have d2:(w7.setCell ⟨w3.heap.size,2,none⟩ (.string (str ty))).cell? ⟨w3.heap.size,2,none⟩ = some (.string (str ty)):=by rw [cell_of_row _ _ 2 _ _ _ hC8]; rfl
  have d3:(w7.setCell ⟨w3.heap.size,2,none⟩ (.string (str ty))).cell? ⟨w3.heap.size,3,none⟩ = some (.slice none 0 0):=by rw [cell_of_row _ _ 3 _ _ _ hC8]; rfl
  clear htt KL KS8 K9 hrw7 Kw7 hAw7 hCw7 hr6 K6 hA6 hC6 hr8 K8
  go_wp2_with (refine wpList_store_row rfl 77 (.tmp 2) (.tmp 20) rfl w.heap.size #[.int .i64 (kn:Int),.string (str nm),.string (str ty),.slice none 0 0] rfl rfl 77 #[.int .i64 0,.string ⟨#[]⟩,.string ⟨#[]⟩,.slice none 0 0] hA8 sizeIt rfl (by kernel_rfl) ?_)
  (try simp only [Exit.inBlock,Exit.then])
  refine bodyPost_ret (results_cell_row rfl _ _ w.heap.size 77 #[.int .i64 (kn:Int),.string (str nm),.string (str ty),.slice none 0 0] (0,0) _ rfl (setRow_heap _ w.heap.size _ _ 77 (0,0) hA8) Tryz.underlying77 rfl sizeIt) rfl ?_
  rw [HRT.out]
  exact ⟨_,rfl,.inl ⟨none,0,rfl,rfl⟩,by simp,hr9,K9f⟩
end Go.Proofs.YtiiepfplommmfaaGreatDoor

namespace Go.Proofs.YtiiepfplommmfaaGreatDoor
open Go.RowKit

abbrev Cel (α:Type):Type:=(Nat → Prop) → World → α → List Value → Prop
structure CelOk {α:Type} (sz:Nat) (C:Cel α):Prop where
 frame:∀ {F G:Nat → Prop} {w w':World} {x:α} {c:List Value},(∀ g,F g → G g ∧ w'.heap[g]? = w.heap[g]?) → C F w x c → C G w' x c
 len:∀ {F:Nat → Prop} {w:World} {x:α} {c:List Value},C F w x c → c.length = sz
 one:∀ {F:Nat → Prop} {w:World} {x:α} {c:List Value},C F w x c → ∀ u ∈ c,u.oneCell' = true
def RowG {α:Type} (C:Cel α) (ty sz B:Nat) (w:World) (v:Value) (xs:List α):Prop :=
 ∃ ps:List (α × List Value),ps.map (·.1) = xs ∧ w.ownsRow B ty sz v xs.length (ps.flatMap (·.2)) ∧ ∀ p ∈ ps,C (fun g=>B ≤ g ∧ g < w.heap.size ∧ some g ≠ v.ownBlock) w p.1 p.2
theorem RowG.nil {α:Type} (C:Cel α) (ty sz B:Nat) (w:World):RowG C ty sz B w (.slice none 0 0) []:=⟨[],rfl,World.ownsRow_nil _ _ _ _,by simp⟩
theorem RowG.block {α:Type} {C:Cel α} {ty sz B:Nat} {w:World} {v:Value} {xs:List α} (h:RowG C ty sz B w v xs) {g:Nat} (hg:v.ownBlock = some g):B ≤ g ∧ g < w.heap.size:=by
 obtain ⟨ps,h1,h2,h3⟩:=h
 rcases h2.2 with ⟨rfl,_⟩ | ⟨g',cap,cur,rfl,hb,hgg,_⟩
 ·cases hg
 ·simp only [Value.ownBlock,Option.some.injEq] at hg
  subst hg
  exact ⟨hb,(Array.getElem?_eq_some_iff.1 hgg).1⟩
theorem RowG.shape {α:Type} {C:Cel α} {ty sz B:Nat} {w:World} {v:Value} {xs:List α} (h:RowG C ty sz B w v xs):∃ a c,v = .slice a xs.length c:=by
 obtain ⟨ps,h1,h2,h3⟩:=h
 rcases h2.2 with ⟨rfl,hn⟩ | ⟨g,cap,cur,rfl,_⟩
 ·exact ⟨none,0,by rw [hn]⟩
 ·exact ⟨_,_,rfl⟩
theorem RowG.kept {α:Type} {C:Cel α} {ty sz B:Nat} (hC:CelOk sz C) {S:Nat → Prop} {w w':World} {v:Value} {xs:List α} (h:RowG C ty sz B w v xs) (k:Kept S w w') (hS:∀ b,B ≤ b → ¬ S b):RowG C ty sz B w' v xs:=by
 obtain ⟨ps,h1,h2,h3⟩:=h
 exact ⟨ps,h1,k.own h2 (fun g hg=>hS g (RowG.block (C:=C) ⟨ps,h1,h2,h3⟩ hg).1),fun p hp=>hC.frame (fun g hg=>⟨⟨hg.1,Nat.lt_of_lt_of_le hg.2.1 k.size,hg.2.2⟩,k.block g hg.2.1 (hS g hg.1)⟩) (h3 p hp)⟩
theorem flat_at {α:Type} {sz:Nat}:∀ (ps:List (α × List Value)),(∀ p ∈ ps,p.2.length = sz) → ∀ (j:Nat) (h:j < ps.length) (i:Nat),i < sz → (ps.flatMap (·.2))[j * sz + i]? = ps[j].2[i]?
 | p :: r,hl,0,_,i,hi=>by
  rw [Nat.zero_mul,Nat.zero_add,List.flatMap_cons,List.getElem?_append_left (by rw [hl p (by simp)]; exact hi)]
  rfl
 | p :: r,hl,j + 1,h,i,hi=>by
  have h0:=hl p (by simp)
  have:=flat_at r (fun q hq=>hl q (by simp [hq])) j (by simpa using h) i hi
  rw [List.flatMap_cons,List.getElem?_append_right (by rw [h0,Nat.succ_mul]; omega),h0,show (j + 1) * sz + i - sz = j * sz + i by rw [Nat.succ_mul]; omega]
  simpa using this
theorem rowG_more {α : Type} {C : Cel α} {ty sz B : Nat} (hC : CelOk sz C) {w w' : World} {v : Value} {xs : List α} {x : α} {c : List Value} {g cap : Nat} (hT : C (fun g => B ≤ g ∧ g < w.heap.size ∧ some g ≠ v.ownBlock) w x c)
  {ps:List (α × List Value)} (h1:ps.map (·.1) = xs) (h3:∀ p ∈ ps,C (fun g=>B ≤ g ∧ g < w.heap.size ∧ some g ≠ v.ownBlock) w p.1 p.2) (q1:w'.ownsRow B ty sz (.slice (some ⟨g,0,none⟩) (xs.length + 1) cap) (xs.length + 1) (ps.flatMap (·.2) ++ c)) (q2:w.grownBy w' v.ownBlock) (q3:v.ownBlock = some g ∨ g = w.heap.size) :
  RowG C ty sz B w' (.slice (some ⟨g,0,none⟩) (xs.length + 1) cap) (xs ++ [x]):=by
 refine ⟨ps ++ [(x,c)],by simp [h1],?_,fun p hp=>?_⟩
 ·rw [List.flatMap_append]
  simpa using q1
 ·have key:∀ (y:α) (d:List Value),C (fun g=>B ≤ g ∧ g < w.heap.size ∧ some g ≠ v.ownBlock) w y d → C (fun g'=>B ≤ g' ∧ g' < w'.heap.size ∧ some g' ≠ (Value.slice (some ⟨g,0,none⟩) (xs.length + 1) cap).ownBlock) w' y d:=fun y d ht=>hC.frame (fun g' hg'=>by
   refine ⟨⟨hg'.1,Nat.lt_of_lt_of_le hg'.2.1 q2.size,fun e=>?_⟩,q2.block g' hg'.2.1 hg'.2.2⟩
   simp only [Value.ownBlock,Option.some.injEq] at e
   subst e
   rcases q3 with q3 | q3
   ·exact hg'.2.2 q3.symm
   ·have:=hg'.2.1
    omega) ht
  rcases List.mem_append.1 hp with hp | hp
  ·exact key _ _ (h3 p hp)
  ·rw [List.mem_singleton.1 hp]
   exact key _ _ hT
theorem append_rowG {P : Program} {α : Type} {C : Cel α} {E sz bytes B : Nat} (hC : CelOk sz C) {w : World} {ops : Array Oper} {rest : List Oper} {o : Oper} {a : Act} {Q : Exit → Act → World → Prop} (hgd : o.guard = none) (s x : Operand) (T : TypeId)
  (ho:o.op = .call { callee := .builtin .append,args:=#[s,x],argTypes:=#[T,T] }) (ht:P.underlying T = some (.slice E)) (hi:(P.info? E).map (fun i=>(i.zero.map (fun z=>z.cells.size),i.size,i.bytes)) = some (some sz,sz,bytes)) (hsz:0 < sz)
  (v:Value) (xs:List α) (hs:a.eval s = v) (hI:RowG C E sz B w v xs) (y:α) (c:List Value) (ad:Addr) (cp:Nat) (hx:a.eval x = .slice (some ad) 1 cp)
  (hnews:∀ j u,c[j]? = some u → w.cell? (ad.add j) = some u) (hT:C (fun g=>B ≤ g ∧ g < w.heap.size ∧ some g ≠ v.ownBlock) w y c) (hlen:xs.length + 1 ≤ maxLen) (hby:(xs.length + 1) * bytes ≤ 140737488355328) (hB:B ≤ w.heap.size)
  (h:∀ g cap w',RowG C E sz B w' (.slice (some ⟨g,0,none⟩) (xs.length + 1) cap) (xs ++ [y]) → w.grownBy w' v.ownBlock → wpList P ops Q rest (a.put o.dst (.slice (some ⟨g,0,none⟩) (xs.length + 1) cap)) w') :
  wpList P ops Q (o :: rest) a w:=by
 obtain ⟨i,z,hi,hz,h1,h2,h3⟩:=info_z hi
 obtain ⟨ps,p1,p2,p3⟩:=id hI
 exact wpList_append_lies w hgd s x T ho B E i z sz bytes ht hi hz h1 h2 h3 hsz v _ _ hs p2 ad 1 cp c hx (by rw [hC.len hT,Nat.one_mul]) hnews (hC.one hT) (by decide) hlen hby hB w.heap.size rfl (fun g cap w' q1 q2 q3 _=>h g cap w' (rowG_more hC hT p1 p3 q1 q2 q3) q2)
theorem step_rowG {P : Program} {α : Type} {C : Cel α} {E sz bytes B : Nat} (hC : CelOk sz C) {w : World} {ops : Array Oper} {o : Oper} {a : Act} {K : Act → World → Prop} {Q : Exit → Act → World → Prop} {Z : Prop} (hgd : o.guard = none) (s x : Operand) (T : TypeId)
  (ho:o.op = .call { callee := .builtin .append,args:=#[s,x],argTypes:=#[T,T] }) (ht:P.underlying T = some (.slice E)) (hi:(P.info? E).map (fun i=>(i.zero.map (fun z=>z.cells.size),i.size,i.bytes)) = some (some sz,sz,bytes)) (hsz:0 < sz)
  (v:Value) (xs:List α) (hs:a.eval s = v) (hI:RowG C E sz B w v xs) (y:α) (c:List Value) (ad:Addr) (cp:Nat) (hx:a.eval x = .slice (some ad) 1 cp)
  (hnews:∀ j u,c[j]? = some u → w.cell? (ad.add j) = some u) (hT:C (fun g=>B ≤ g ∧ g < w.heap.size ∧ some g ≠ v.ownBlock) w y c) (hlen:xs.length + 1 ≤ maxLen) (hby:(xs.length + 1) * bytes ≤ 140737488355328) (hB:B ≤ w.heap.size)
  (h:∀ g cap w',RowG C E sz B w' (.slice (some ⟨g,0,none⟩) (xs.length + 1) cap) (xs ++ [y]) → w.grownBy w' v.ownBlock → K (a.put o.dst (.slice (some ⟨g,0,none⟩) (xs.length + 1) cap)) w') :
  if Region.wanted o (yielded ops a.tmps) = true then Oper.wp P o a w K Q else Z:=by
 obtain ⟨i,z,hi,hz,h1,h2,h3⟩:=info_z hi
 obtain ⟨ps,p1,p2,p3⟩:=id hI
 exact step_append_lies w hgd s x T ho B E i z sz bytes ht hi hz h1 h2 h3 hsz v _ _ hs p2 ad 1 cp c hx (by rw [hC.len hT,Nat.one_mul]) hnews (hC.one hT) (by decide) hlen hby hB w.heap.size rfl (fun g cap w' q1 q2 q3 _=>h g cap w' (rowG_more hC hT p1 p3 q1 q2 q3) q2)
end Go.Proofs.YtiiepfplommmfaaGreatDoor

namespace Go.Proofs.YtiiepfplommmfaaGreatDoor

theorem find_name {ts:List It} {n:List UInt8} {x:It} (h:findI ts n = some x):x.name = n:=by
 unfold findI at h
 simpa using List.find?_some h
theorem lists_zero {o:Ob} (h:(rightO o).1 = 0):rightO o = (0,0) ∧ manyO o = false ∧ ∀ j,j < 7 → (scanO (elemO o j) 0 (lenO o j)).1 = 0:=by
 unfold rightO at h ⊢
 by_cases h1:valueR o.mod = false
 ·rw [if_pos h1] at h
  cases h
 ·rw [if_neg h1] at h ⊢
  by_cases h2:manyO o = true
  ·rw [if_pos h2] at h
   cases h
  ·rw [if_neg h2] at h ⊢
   have h3:=listsO_all o 7 0 h
   refine ⟨?_,by simpa using h2,fun j hj=>h3 j (by omega) (by omega)⟩
   have:∀ n j,(∀ i,j ≤ i → i < j + n → (scanO (elemO o i) 0 (lenO o i)).1 = 0) → listsO o j n = (0,0):=by
    intro n
    induction n with
    | zero=>intro j _; rfl
    | succ n ih =>
     intro j hh
     rw [listsO,if_pos (hh j (by omega) (by omega))]
     exact ih (j + 1) fun i a b=>hh i (by omega) (by omega)
   exact this 7 0 fun i a b=>h3 i a b
end Go.Proofs.YtiiepfplommmfaaGreatDoor

namespace Go.Proofs.YtiiepfplommmfaaGreatDoor
open Wire (rNum rTake rEnd enc)

def lsB {α:Type} (E:α → List Nat) (xs:List α):List Nat:=enc xs.length ++ xs.flatMap E
def glB (g:Gl):List Nat:=txtB g.name ++ (txtB g.ty ++ enc g.fn.toNat)
def fnB (f:Fn):List Nat:=txtB f.name ++ (lsB txtB f.params ++ (enc f.caps.toNat ++ (txtB f.res ++ (enc f.locals.toNat ++ txtB f.code))))
def syB (s:Sy):List Nat:=txtB s.mod ++ itemB s.item
def rlB (r:Rl):List Nat:=enc r.fn.toNat ++ (enc r.place.toNat ++ enc r.sym.toNat)
def objB (o:Ob):List Nat :=
 txtB o.mod ++ (lsB itemB o.types ++ (lsB txtB o.texts ++ (lsB glB o.globals ++ (lsB fnB o.funs ++ (lsB txtB o.exports ++ (lsB syB o.symbols ++ lsB rlB o.relocs))))))
def glR (l:List Nat) (p y:Nat):Gl × Nat × Nat :=
 let a:=txtR l 24 p y
 let b:=txtR l 200 a.2.1 a.2.2
 let c:=rNum l b.2.1 b.2.2 65535
 (⟨a.1,b.1,(c.1:Int)⟩,c.2)
def fnR (l:List Nat) (p y:Nat):Fn × Nat × Nat :=
 let a:=txtR l 24 p y
 let b:=listR l (txtR l 200) a.2.1 a.2.2
 let c:=rNum l b.2.1 b.2.2 65535
 let d:=txtR l 200 c.2.1 c.2.2
 let e:=rNum l d.2.1 d.2.2 65535
 let f:=txtR l 65535 e.2.1 e.2.2
 (⟨a.1,b.1,(c.1:Int),d.1,(e.1:Int),f.1⟩,f.2)
def syR (l:List Nat) (p y:Nat):Sy × Nat × Nat :=
 let a:=txtR l 24 p y
 let b:=itemR l a.2.1 a.2.2
 (⟨a.1,b.1⟩,b.2)
def rlR (l:List Nat) (p y:Nat):Rl × Nat × Nat :=
 let a:=rNum l p y 65535
 let b:=rNum l a.2.1 a.2.2 65535
 let c:=rNum l b.2.1 b.2.2 65535
 (⟨(a.1:Int),(b.1:Int),(c.1:Int)⟩,c.2)
def objR (l:List Nat) (p y:Nat):Ob × Nat × Nat :=
 let m:=txtR l 24 p y
 let a:=listR l (itemR l) m.2.1 m.2.2
 let b:=listR l (txtR l 200) a.2.1 a.2.2
 let c:=listR l (glR l) b.2.1 b.2.2
 let d:=listR l (fnR l) c.2.1 c.2.2
 let e:=listR l (txtR l 24) d.2.1 d.2.2
 let f:=listR l (syR l) e.2.1 e.2.2
 let g:=listR l (rlR l) f.2.1 f.2.2
 (⟨m.1,a.1,b.1,c.1,d.1,e.1,f.1,g.1⟩,g.2)
def noneO:Ob:=⟨[],[],[],[],[],[],[],[]⟩
def decO (l:List Nat):(Nat × Nat) × Ob :=
 if 8192 < l.length then ((3,0),noneO)
 else if (rEnd l (objR l 0 0).2.1 (objR l 0 0).2.2).1 ≠ 0 then (rEnd l (objR l 0 0).2.1 (objR l 0 0).2.2,noneO)
 else if (rightO (objR l 0 0).1).1 ≠ 0 then (((rightO (objR l 0 0).1).1,0),noneO)
 else ((0,0),(objR l 0 0).1)
/-! One reader as a whole: it stays where something is refused already, within the bytes, and what it reads well was written so. -/
structure Rdr {α:Type} (l:List Nat) (rd:Nat → Nat → α × Nat × Nat) (E:α → List Nat) (ok:α → Prop):Prop where
 le:∀ p y,p ≤ l.length → (rd p y).2.1 ≤ l.length
 stick:∀ p y,y ≠ 0 → (rd p y).2.2 = y
 back:(∀ x ∈ l,x < 256) → ∀ p,p ≤ l.length → ∀ x p',rd p 0 = (x,p',0) → l.drop p = E x ++ l.drop p' ∧ p' ≤ l.length
 forth:∀ p x rest,p ≤ l.length → ok x → l.drop p = E x ++ rest → rd p 0 = (x,p + (E x).length,0)
def numD (l:List Nat) (p y:Nat):Int × Nat × Nat:=(((rNum l p y 65535).1:Int),(rNum l p y 65535).2)
theorem rdr_num (l:List Nat):Rdr l (numD l) (fun n=>enc n.toNat) (fun n=>0 ≤ n ∧ n ≤ 65535):=by
 refine ⟨fun p y hp=>Wire.rNum_le l p y 65535 hp,fun p y h=>?_,fun h256 p hp x p' h=>?_,fun p x rest hp hx h=>?_⟩
 ·unfold numD
  rw [num_stick l 65535 p y h]
 ·unfold numD at h
  obtain ⟨n,q,y,hr⟩:∃ n q y,rNum l p 0 65535 = (n,q,y):=⟨_,_,_,rfl⟩
  rw [hr] at h
  simp only [Prod.mk.injEq] at h
  obtain ⟨rfl,rfl,rfl⟩:=h
  obtain ⟨h1,_,h3,_⟩:=num_back l h256 65535 p n q hp hr
  exact ⟨by rw [Int.toNat_natCast]; exact h1,h3⟩
 ·obtain ⟨n,rfl⟩:∃ n:Nat,x = (n:Int):=⟨x.toNat,by omega⟩
  rw [Int.toNat_natCast] at h ⊢
  unfold numD
  rw [num_forth l 65535 p n rest (by omega) (by decide) h]
theorem rdr_txt (l:List Nat) (most:Nat) (hm:most < 18446744073709551616):Rdr l (txtR l most) txtB (fun x=>x.length ≤ most) :=
 ⟨txt_le l most,txt_stick l most,fun h256 p hp x p' h=>txt_back l h256 most p hp x p' h,fun p x rest hp hx h=>txt_forth l most p x rest hp hx hm h⟩
theorem rdr_item (l:List Nat):Rdr l (itemR l) itemB ItS :=
 ⟨item_le l,item_stick l,fun h256 p hp x p' h=>item_back l h256 p hp x p' h,fun p x rest hp hx h=>item_forth l p x rest hp hx h⟩
theorem rdr_list {α:Type} {l:List Nat} {rd:Nat → Nat → α × Nat × Nat} {E:α → List Nat} {ok:α → Prop} (h:Rdr l rd E ok):Rdr l (listR l rd) (lsB E) (fun xs=>xs.length ≤ 65535 ∧ ∀ x ∈ xs,ok x) :=
 ⟨list_le h.le,list_stick l rd,fun h256 p hp xs p' hr=>list_back h256 E h.stick (h.back h256) p hp xs p' hr,fun p xs rest hp hx hd=>list_forth E ok h.forth xs p rest hp hx.1 hx.2 hd⟩
theorem rdr_two {α β γ : Type} {l : List Nat} {ra : Nat → Nat → α × Nat × Nat} {rb : Nat → Nat → β × Nat × Nat} {Ea : α → List Nat} {Eb : β → List Nat} {oka : α → Prop} {okb : β → Prop} (ha : Rdr l ra Ea oka) (hb : Rdr l rb Eb okb)
  (rc:Nat → Nat → γ × Nat × Nat) (f:α → β → γ) (ga:γ → α) (gb:γ → β) (hf:∀ x,f (ga x) (gb x) = x) (hga:∀ x y,ga (f x y) = x) (hgb:∀ x y,gb (f x y) = y)
  (hrc:∀ p y,rc p y = (f (ra p y).1 (rb (ra p y).2.1 (ra p y).2.2).1,(rb (ra p y).2.1 (ra p y).2.2).2)):Rdr l rc (fun x=>Ea (ga x) ++ Eb (gb x)) (fun x=>oka (ga x) ∧ okb (gb x)):=by
 refine ⟨fun p y hp=>?_,fun p y h=>?_,fun h256 p hp x p' h=>?_,fun p x rest hp hx h=>?_⟩
 ·rw [hrc]
  exact hb.le _ _ (ha.le p y hp)
 ·rw [hrc]
  have:=ha.stick p y h
  show (rb (ra p y).2.1 (ra p y).2.2).2.2 = y
  rw [hb.stick _ _ (by rw [this]; exact h),this]
 ·rw [hrc] at h
  obtain ⟨a,q,y,hr⟩:∃ n q y,ra p 0 = (n,q,y):=⟨_,_,_,rfl⟩
  rw [hr] at h
  simp only at h
  obtain ⟨b,q2,y2,hr2⟩:∃ n q' y',rb q y = (n,q',y'):=⟨_,_,_,rfl⟩
  rw [hr2] at h
  simp only [Prod.mk.injEq] at h
  obtain ⟨rfl,rfl,rfl⟩:=h
  have hy:y = 0:=by
   refine Classical.byContradiction fun hy=>?_
   have:=hb.stick q y hy
   rw [hr2] at this
   exact hy this.symm
  subst hy
  obtain ⟨h1,h2⟩:=ha.back h256 p hp a q hr
  obtain ⟨h3,h4⟩:=hb.back h256 q h2 b q2 hr2
  exact ⟨by rw [h1,h3,hga,hgb,List.append_assoc],h4⟩
 ·have h0:l.drop p = Ea (ga x) ++ (Eb (gb x) ++ rest):=by rw [h,List.append_assoc]
  have h1:=ha.forth p (ga x) _ hp hx.1 h0
  have h2:=drop_len hp h0
  have h3:=hb.forth (p + (Ea (ga x)).length) (gb x) rest (by omega) hx.2 (drop_more h0)
  rw [hrc,h1]
  simp only
  rw [h3,hf]
  simp
  omega
def andR {α β:Type} (ra:Nat → Nat → α × Nat × Nat) (rb:Nat → Nat → β × Nat × Nat) (p y:Nat):(α × β) × Nat × Nat:=(((ra p y).1,(rb (ra p y).2.1 (ra p y).2.2).1),(rb (ra p y).2.1 (ra p y).2.2).2)
theorem rdr_and {α β : Type} {l : List Nat} {ra : Nat → Nat → α × Nat × Nat} {rb : Nat → Nat → β × Nat × Nat} {Ea : α → List Nat} {Eb : β → List Nat} {oka : α → Prop} {okb : β → Prop} (ha : Rdr l ra Ea oka) (hb : Rdr l rb Eb okb) :
  Rdr l (andR ra rb) (fun x=>Ea x.1 ++ Eb x.2) (fun x=>oka x.1 ∧ okb x.2) :=
 rdr_two ha hb (andR ra rb) Prod.mk Prod.fst Prod.snd (fun _=>rfl) (fun _ _=>rfl) (fun _ _=>rfl) (fun _ _=>rfl)
def GlS (g:Gl):Prop:=g.name.length ≤ 24 ∧ g.ty.length ≤ 200 ∧ 0 ≤ g.fn ∧ g.fn ≤ 65535
theorem rdr_gl (l:List Nat):Rdr l (glR l) glB GlS:=by
 have h:=rdr_two (rdr_txt l 24 (by decide)) (rdr_and (rdr_txt l 200 (by decide)) (rdr_num l))
  (glR l) (fun a b=>(⟨a,b.1,b.2⟩:Gl)) (fun g=>g.name) (fun g=>(g.ty,g.fn)) (fun _=>rfl) (fun _ _=>rfl) (fun _ _=>rfl) (fun _ _=>by simp only [glR,andR,numD])
 exact h
theorem rdr_sy (l:List Nat):Rdr l (syR l) syB (fun s=>s.mod.length ≤ 24 ∧ ItS s.item) :=
 rdr_two (rdr_txt l 24 (by decide)) (rdr_item l) (syR l) (fun a b=>(⟨a,b⟩:Sy)) (fun g=>g.mod) (fun g=>g.item) (fun _=>rfl) (fun _ _=>rfl) (fun _ _=>rfl) (fun _ _=>by simp only [syR])
def InS (n:Int):Prop:=0 ≤ n ∧ n ≤ 65535
theorem rdr_rl (l:List Nat):Rdr l (rlR l) rlB (fun r=>InS r.fn ∧ InS r.place ∧ InS r.sym) :=
 rdr_two (rdr_num l) (rdr_and (rdr_num l) (rdr_num l))
  (rlR l) (fun a b=>(⟨a,b.1,b.2⟩:Rl)) (fun g=>g.fn) (fun g=>(g.place,g.sym)) (fun _=>rfl) (fun _ _=>rfl) (fun _ _=>rfl) (fun _ _=>by simp only [rlR,andR,numD])
structure FnS (f:Fn):Prop where
 name:f.name.length ≤ 24
 params:f.params.length ≤ 65535 ∧ ∀ x ∈ f.params,x.length ≤ 200
 caps:0 ≤ f.caps ∧ f.caps ≤ 65535
 res:f.res.length ≤ 200
 locals:0 ≤ f.locals ∧ f.locals ≤ 65535
 code:f.code.length ≤ 65535
theorem rdr_ok {α:Type} {l:List Nat} {rd:Nat → Nat → α × Nat × Nat} {E E':α → List Nat} {ok ok':α → Prop} (h:Rdr l rd E ok) (hE:∀ x,E' x = E x) (h':∀ x,ok' x → ok x):Rdr l rd E' ok':=by
 obtain rfl:E' = E:=funext hE
 exact ⟨h.le,h.stick,h.back,fun p x rest hp hx hd=>h.forth p x rest hp (h' x hx) hd⟩
theorem rdr_fn (l:List Nat):Rdr l (fnR l) fnB FnS:=by
 have h:=rdr_two (rdr_txt l 24 (by decide)) (rdr_and (rdr_list (rdr_txt l 200 (by decide))) (rdr_and (rdr_num l) (rdr_and (rdr_txt l 200 (by decide)) (rdr_and (rdr_num l) (rdr_txt l 65535 (by decide))))))
  (fnR l) (fun a b=>(⟨a,b.1,b.2.1,b.2.2.1,b.2.2.2.1,b.2.2.2.2⟩:Fn)) (fun g=>g.name) (fun g=>(g.params,g.caps,g.res,g.locals,g.code)) (fun _=>rfl) (fun _ _=>rfl) (fun _ _=>rfl) (fun _ _=>by simp only [fnR,andR,numD])
 exact rdr_ok h (fun x=>rfl) (fun x hx=>⟨hx.name,hx.params,hx.caps,hx.res,hx.locals,hx.code⟩)
structure ObS (o:Ob):Prop where
 mod:o.mod.length ≤ 24
 types:o.types.length ≤ 65535 ∧ ∀ x ∈ o.types,ItS x
 texts:o.texts.length ≤ 65535 ∧ ∀ x ∈ o.texts,x.length ≤ 200
 globals:o.globals.length ≤ 65535 ∧ ∀ x ∈ o.globals,GlS x
 funs:o.funs.length ≤ 65535 ∧ ∀ x ∈ o.funs,FnS x
 exports:o.exports.length ≤ 65535 ∧ ∀ x ∈ o.exports,x.length ≤ 24
 symbols:o.symbols.length ≤ 65535 ∧ ∀ x ∈ o.symbols,x.mod.length ≤ 24 ∧ ItS x.item
 relocs:o.relocs.length ≤ 65535 ∧ ∀ x ∈ o.relocs,InS x.fn ∧ InS x.place ∧ InS x.sym
theorem rdr_obj (l:List Nat):Rdr l (objR l) objB ObS:=by
 have h:=rdr_two (rdr_txt l 24 (by decide)) (rdr_and (rdr_list (rdr_item l)) (rdr_and (rdr_list (rdr_txt l 200 (by decide))) (rdr_and (rdr_list (rdr_gl l)) (rdr_and (rdr_list (rdr_fn l)) (rdr_and (rdr_list (rdr_txt l 24 (by decide))) (rdr_and (rdr_list (rdr_sy l)) (rdr_list (rdr_rl l))))))))
  (objR l) (fun a b=>(⟨a,b.1,b.2.1,b.2.2.1,b.2.2.2.1,b.2.2.2.2.1,b.2.2.2.2.2.1,b.2.2.2.2.2.2⟩:Ob)) (fun g=>g.mod) (fun g=>(g.types,g.texts,g.globals,g.funs,g.exports,g.symbols,g.relocs)) (fun _=>rfl) (fun _ _=>rfl) (fun _ _=>rfl) (fun _ _=>by simp only [objR,andR])
 refine rdr_ok h (fun x=>?_) (fun x hx=>?_)
 ·unfold objB
  rfl
 ·exact (And.intro hx.mod (And.intro hx.types (And.intro hx.texts (And.intro hx.globals (And.intro hx.funs (And.intro hx.exports (And.intro hx.symbols hx.relocs)))))))
theorem obj_back (l:List Nat) (h256:∀ x ∈ l,x < 256) (h:(rEnd l (objR l 0 0).2.1 (objR l 0 0).2.2).1 = 0):objB (objR l 0 0).1 = l:=by
 generalize hr:objR l 0 0 = R at *
 obtain ⟨x,q,y⟩:=R
 simp only at h ⊢
 have he:y = 0 ∧ l.length ≤ q:=by
  unfold rEnd at h
  split at h
  ·rename_i h1; exact absurd h h1
  ·rename_i h1
   split at h
   ·cases h
   ·exact ⟨Classical.not_not.1 h1,by omega⟩
 obtain ⟨rfl,he2⟩:=he
 obtain ⟨h1,h2⟩:=(rdr_obj l).back h256 0 (Nat.zero_le _) x q hr
 rw [List.drop_zero,List.drop_eq_nil_of_le he2,List.append_nil] at h1
 exact h1.symm
theorem dec_backO {l:List Nat} (h256:∀ x ∈ l,x < 256) (h:(decO l).1.1 = 0):(rightO (decO l).2).1 = 0 ∧ objB (decO l).2 = l ∧ l.length ≤ 8192:=by
 unfold decO at h ⊢
 split at h
 ·cases h
 ·rename_i h1
  split at h
  ·rename_i h2; exact absurd h h2
  ·rename_i h2
   split at h
   ·rename_i h3; exact absurd h h3
   ·rename_i h3
    rw [if_neg h1,if_neg h2,if_neg h3]
    exact ⟨Classical.not_not.1 h3,obj_back l h256 (Classical.not_not.1 h2),by omega⟩
end Go.Proofs.YtiiepfplommmfaaGreatDoor

namespace Go.Proofs.YtiiepfplommmfaaGreatDoor

theorem elem_zero {o:Ob} (h:(rightO o).1 = 0) (j k:Nat) (hj:j < 7) (hk:k < lenO o j):elemO o j k = 0:=by
 obtain ⟨_,_,h2⟩:=lists_zero h
 exact scanO_all _ _ (h2 j hj) k (by omega) (by omega)
theorem many_no {o:Ob} (h:(rightO o).1 = 0):o.types.length ≤ 32 ∧ o.texts.length ≤ 32 ∧ o.globals.length ≤ 32 ∧ o.exports.length ≤ 32 ∧ o.funs.length ≤ 48 ∧ o.symbols.length ≤ 96 ∧ o.relocs.length ≤ 384:=by
 obtain ⟨_,h1,_⟩:=lists_zero h
 unfold manyO at h1
 simp only [Bool.or_eq_false_iff,decide_eq_false_iff_not] at h1
 omega
theorem typeO_short {m:List UInt8} {ah:List It} {x:It} (h:typeO m ah x = 0):ItS x:=by
 unfold typeO at h
 split at h
 ·rename_i h1; exact absurd h h1
 ·rename_i h1
  obtain ⟨_,_,_,h2⟩:=right_short (Classical.not_not.1 h1)
  obtain ⟨q,hq⟩:=h2 x (by simp)
  exact item_short hq
theorem textO_short {t:List UInt8} (h:textO t = 0):t.length ≤ 200:=by
 unfold textO at h
 split at h
 ·rename_i h1; exact right_len h1
 ·cases h
theorem in_short {n c:Int} (h:¬ inO n c = false):0 ≤ n ∧ n < c:=by
 simpa [inO] using h
theorem globalO_short {nf:Int} {ah:List Gl} {g:Gl} (hn:nf ≤ 48) (h:globalO nf ah g = 0):GlS g:=by
 unfold globalO at h
 split at h
 ·cases h
 ·rename_i h1
  split at h
  ·cases h
  ·split at h
   ·cases h
   ·rename_i h2
    split at h
    ·cases h
    ·rename_i h3
     have h4:=in_short h3
     exact ⟨value_len (by simpa using h1),right_len (by simpa using h2),h4.1,by omega⟩
theorem funO_short {gs:List Gl} {ah:List Fn} {f:Fn} (h:funO gs ah f = 0):FnS f:=by
 unfold funO at h
 split at h
 ·cases h
 ·rename_i h1
  split at h
  ·cases h
  ·split at h
   ·cases h
   ·rename_i h2
    split at h
    ·cases h
    ·rename_i h3
     split at h
     ·cases h
     ·rename_i h4
      simp only [countsO,Bool.not_eq_false,Bool.and_eq_true,decide_eq_true_eq] at h2
      simp only [not_or,Bool.not_eq_false] at h3
      have h5:f.name.length ≤ 24:=by
       by_cases e:f.name = []
       ·rw [e]; simp
       ·exact value_len (by simpa [e] using h1)
      exact ⟨h5,⟨by omega,fun x hx=>right_len (List.all_eq_true.1 h3.2.1 x hx)⟩,⟨by omega,by omega⟩,right_len h3.1,⟨by omega,by omega⟩,by omega⟩
theorem numO_short (n:Nat) (h:n < 100):(numO n).length ≤ 2:=by
 have:∀ k:Fin 100,(numO k.val).length ≤ 2:=by decide +kernel
 exact this ⟨n,h⟩
theorem unnamedO_short {fs:List Fn} {t:List UInt8} (hf:fs.length ≤ 48) (h:unnamedO fs t = true):t.length ≤ 2:=by
 unfold unnamedO at h
 split at h
 ·rename_i n h1
  have h2:=List.find?_some h1
  have h3:=List.mem_range.1 (List.mem_of_find?_eq_some h1)
  simp only [decide_eq_true_eq] at h2
  rw [← h2]
  exact numO_short n (by omega)
 ·cases h
theorem itemO_short {m:List UInt8} {fs:List Fn} {s:Sy} (hf:fs.length ≤ 48) (h:itemO m fs s = 0):ItS s.item:=by
 unfold itemO at h
 split at h
 ·obtain ⟨_,_,_,h2⟩:=right_short h
  obtain ⟨q,hq⟩:=h2 s.item (by simp)
  exact item_short hq
 ·rename_i h1
  simp only [ne_eq,not_or,Classical.not_not] at h1
  split at h
  ·cases h
  ·rename_i h2
   split at h
   ·cases h
   ·rename_i h3
    have h4:=unnamedO_short hf (by simpa using h3)
    have hc:s.item.cases = []:=List.eq_nil_of_length_eq_zero (by omega)
    refine ⟨by rw [h1.2.1]; decide,by rw [h1.2.2]; simp,fun e=>?_,fun _=>⟨hc,by omega⟩⟩
    rw [h1.2.1] at e
    exact absurd e (by decide)
theorem symbolO_short {m:List UInt8} {fs:List Fn} {ah:List Sy} {s:Sy} (hf:fs.length ≤ 48) (h:symbolO m fs ah s = 0):s.mod.length ≤ 24 ∧ ItS s.item:=by
 unfold symbolO at h
 split at h
 ·cases h
 ·rename_i h1
  split at h
  ·rename_i h2; exact absurd h h2
  ·rename_i h2
   exact ⟨value_len (by simpa using h1),itemO_short hf (Classical.not_not.1 h2)⟩
theorem relocO_short {fs:List Fn} {ns:Int} {prev:Option Rl} {r:Rl} (hn:ns ≤ 96) (hf:fs.length ≤ 48) (hc:∀ f ∈ fs,f.code.length ≤ 65535) (h:relocO fs ns prev r = 0):InS r.fn ∧ InS r.place ∧ InS r.sym:=by
 unfold relocO at h
 split at h
 ·cases h
 ·rename_i h1
  simp only [not_or] at h1
  obtain ⟨h2,h3,h4⟩:=h1
  have h2:=in_short h2
  have h3:=in_short h3
  have h4:=in_short h4
  have h5:codeAt fs r.fn ≤ 65535:=by
   unfold codeAt
   split
   ·rename_i f hf2
    have:=hc f (List.mem_of_getElem? hf2)
    omega
   ·decide
  exact ⟨⟨h2.1,by omega⟩,⟨h3.1,by omega⟩,⟨h4.1,by omega⟩⟩
theorem exportO_short {o:Ob} {prev:Option (List UInt8)} {n:List UInt8} (ht:∀ x ∈ o.types,ItS x) (hg:∀ x ∈ o.globals,GlS x) (hf:∀ x ∈ o.funs,FnS x) (h:exportO o prev n = 0):n.length ≤ 24:=by
 unfold exportO at h
 split at h
 ·cases h
 ·rename_i h1
  unfold ownO at h1
  split at h1
  ·exact absurd rfl h1
  ·split at h1
   ·rename_i g hgf
    have h2:=List.find?_some hgf
    have h3:=hg g (List.mem_of_find?_eq_some hgf)
    simp only [decide_eq_true_eq] at h2
    rw [← h2]
    exact h3.1
   ·split at h1
    ·rename_i f hff
     have h2:=List.find?_some hff
     have h3:=hf f (List.mem_of_find?_eq_some hff)
     simp only [decide_eq_true_eq] at h2
     rw [← h2]
     exact h3.name
    ·cases hfi:findI o.types n with
     | none=>rw [hfi] at h1; exact absurd rfl h1
     | some x =>
      have h2:=find_name hfi
      unfold findI at hfi
      have h3:=ht x (List.mem_of_find?_eq_some hfi)
      rw [← h2]
      exact h3.name
theorem obj_short {o:Ob} (h:(rightO o).1 = 0):ObS o:=by
 obtain ⟨n1,n2,n3,n4,n5,n6,n7⟩:=many_no h
 have hm:valueR o.mod = true:=by
  unfold rightO at h
  split at h
  ·cases h
  ·rename_i h1
   simpa using h1
 have ht:∀ x ∈ o.types,ItS x:=fun x hx=>by
  obtain ⟨k,hk,rfl⟩:=List.getElem_of_mem hx
  have:=elem_zero h 0 k (by decide) hk
  rw [elemO,List.getElem?_eq_getElem hk] at this
  exact typeO_short this
 have hg:∀ x ∈ o.globals,GlS x:=fun x hx=>by
  obtain ⟨k,hk,rfl⟩:=List.getElem_of_mem hx
  have:=elem_zero h 2 k (by decide) hk
  rw [elemO,List.getElem?_eq_getElem hk] at this
  exact globalO_short (by omega) this
 have hf:∀ x ∈ o.funs,FnS x:=fun x hx=>by
  obtain ⟨k,hk,rfl⟩:=List.getElem_of_mem hx
  have:=elem_zero h 3 k (by decide) hk
  rw [elemO,List.getElem?_eq_getElem hk] at this
  exact funO_short this
 refine ⟨value_len hm,⟨by omega,ht⟩,⟨by omega,fun x hx=>?_⟩,⟨by omega,hg⟩,⟨by omega,hf⟩,⟨by omega,fun x hx=>?_⟩,⟨by omega,fun x hx=>?_⟩,⟨by omega,fun x hx=>?_⟩⟩
 ·obtain ⟨k,hk,rfl⟩:=List.getElem_of_mem hx
  have:=elem_zero h 1 k (by decide) hk
  rw [elemO,List.getElem?_eq_getElem hk] at this
  exact textO_short this
 ·obtain ⟨k,hk,rfl⟩:=List.getElem_of_mem hx
  have:=elem_zero h 4 k (by decide) hk
  rw [elemO,List.getElem?_eq_getElem hk] at this
  exact exportO_short ht hg hf this
 ·obtain ⟨k,hk,rfl⟩:=List.getElem_of_mem hx
  have:=elem_zero h 5 k (by decide) hk
  rw [elemO,List.getElem?_eq_getElem hk] at this
  exact symbolO_short (by omega) this
 ·obtain ⟨k,hk,rfl⟩:=List.getElem_of_mem hx
  have:=elem_zero h 6 k (by decide) hk
  rw [elemO,List.getElem?_eq_getElem hk] at this
  exact relocO_short (by omega) (by omega) (fun f hf2=>(hf f hf2).code) this
end Go.Proofs.YtiiepfplommmfaaGreatDoor

namespace Go.Proofs.YtiiepfplommmfaaGreatDoor

theorem txt_len (l:List Nat) (most p y:Nat):(txtR l most p y).1.length ≤ most:=by
 have h:=Wire.rNum_most l p y most
 unfold txtR
 generalize Wire.rNum l p y most = R at *
 obtain ⟨n,q,z⟩:=R
 simp only at h ⊢
 unfold Wire.rTake
 split
 ·simp
 ·split
  ·simp
  ·simp only [Int.toNat_natCast,List.length_map]
   exact Nat.le_trans (List.length_take_le _ _) h
theorem listF_all {α:Type} {rd:Nat → Nat → α × Nat × Nat} {P:α → Prop} (hP:∀ p y,P (rd p y).1):∀ (n p y:Nat) (acc:List α),(∀ x ∈ acc,P x) → (∀ x ∈ (listF rd n p y acc).1,P x) ∧ (listF rd n p y acc).1.length ≤ acc.length + n
 | 0,p,y,acc,h=>⟨h,by simp [listF]⟩
 | n + 1,p,y,acc,h=>by
  rw [listF]
  split
  ·exact ⟨by simp,by simp⟩
  ·obtain ⟨h1,h2⟩:=listF_all hP n (rd p y).2.1 (rd p y).2.2 (acc ++ [(rd p y).1]) (fun x hx=>by
    rcases List.mem_append.1 hx with hx | hx
    ·exact h x hx
    ·rw [List.mem_singleton.1 hx]; exact hP p y)
   refine ⟨h1,?_⟩
   simp only [List.length_append,List.length_cons,List.length_nil] at h2
   omega
theorem list_all {α:Type} {l:List Nat} {rd:Nat → Nat → α × Nat × Nat} {P:α → Prop} (hP:∀ p y,P (rd p y).1) (p y:Nat):(∀ x ∈ (listR l rd p y).1,P x) ∧ (listR l rd p y).1.length ≤ 65535:=by
 have h:=listF_all hP (Wire.rNum l p y 65535).1 (Wire.rNum l p y 65535).2.1 (Wire.rNum l p y 65535).2.2 [] (by simp)
 have h2:=Wire.rNum_most l p y 65535
 refine ⟨h.1,?_⟩
 have h3:=h.2
 unfold listR
 simp only [List.length_nil] at h3
 omega
theorem case_ok (l:List Nat) (p y:Nat):CsOk (caseR l p y).1:=by
 have h1:=txt_len l 24 p y
 obtain ⟨h2,h3⟩:=list_all (l:=l) (P:=fun f:List UInt8=>f.length ≤ 200) (txt_len l 200) (txtR l 24 p y).2.1 (txtR l 24 p y).2.2
 exact ⟨by unfold Tk; show (txtR l 24 p y).1.length ≤ _; omega,by show (listR l (txtR l 200) _ _).1.length ≤ _; omega,fun f hf=>by have:=h2 f hf; unfold Tk; omega⟩
theorem item_ok (l:List Nat) (p y:Nat):ItOk (itemR l p y).1:=by
 have hk:=Wire.rNum_most l p y 65535
 unfold itemR itemN
 generalize Wire.rNum l p y 65535 = R at *
 obtain ⟨k,q,z⟩:=R
 simp only at hk ⊢
 have hn:=txt_len l 24 q z
 generalize txtR l 24 q z = N at *
 obtain ⟨nm,q2,z2⟩:=N
 simp only at hn ⊢
 unfold itemT
 split
 ·obtain ⟨h2,h3⟩:=list_all (l:=l) (P:=CsOk) (case_ok l) q2 z2
  exact ⟨by simp only; omega,by simp only; omega,by unfold Tk; simp only; omega,by unfold Tk; simp,by simp only; omega,h2⟩
 ·have ht:=txt_len l 200 q2 z2
  exact ⟨by simp only; omega,by simp only; omega,by unfold Tk; simp only; omega,by unfold Tk; simp only; omega,by simp,by simp⟩
end Go.Proofs.YtiiepfplommmfaaGreatDoor
