/-
  Right, given what is answered of each element once the lists ahead of it are let by.
  And: What is refused of one global of an object.
-/
import Derived.Laws.EntriesVeiled
import Derived.Test.YtiiepfplommmfaaGreatDoorG23
import Derived.Test.YtiiepfplommmfaaGreatDoorG17
namespace Go.Proofs.YtiiepfplommmfaaGreatDoor
open Go.RowKit

def ElS (u:ObV) (o:Ob) (w:World):Prop:=∀ (j k:Nat),j < 7 → k < lenO o j → (∀ i,i < j → (scanO (elemO o i) 0 (lenO o i)).1 = 0) → ∀ v,Below w.heap.size w v → Calls Tryz.prog (fnO j) #[obv u o.mod,.int .i64 (k:Int)] v (NumB (elemO o j k) v)
set_option maxHeartbeats 4000000 in
set_option maxRecDepth 1000000 in
theorem rightOs (F:Nat → Prop) (u:ObV) (o:Ob) (w:World) (h:ObR F w u o) (hF:∀ g,F g → g < w.heap.size) (hm:Tk o.mod) (hE:valueR o.mod = true → manyO o = false → ElS u o w):Calls Tryz.prog 6 #[obv u o.mod] w (TwoB (rightO o) w):=by
 have HV:Hid (rightO o = if valueR o.mod = false then (13,0) else if manyO o = true then (4,0) else listsO o 0 7):=rfl
 generalize rightO o = r at *
 have hL0:o.types.length = lenO o 0:=rfl
 have hL1:o.texts.length = lenO o 1:=rfl
 have hL2:o.globals.length = lenO o 2:=rfl
 have hL3:o.funs.length = lenO o 3:=rfl
 have hL4:o.exports.length = lenO o 4:=rfl
 have hL5:o.symbols.length = lenO o 5:=rfl
 have hL6:o.relocs.length = lenO o 6:=rfl
 have hTM:∀ v,Below w.heap.size w v → Calls Tryz.prog 26 #[obv u o.mod] v (BoolB (manyO o) v):=fun v hv=>otooMany F u o v (h.below hv hF)
 obtain ⟨a1,c1,e1⟩:=h.types.shape
 obtain ⟨a2,c2,e2⟩:=h.texts.1.shape
 obtain ⟨a3,c3,e3⟩:=h.globals.shape
 obtain ⟨a4,c4,e4⟩:=h.funs.shape
 obtain ⟨a5,c5,e5⟩:=h.exports.1.shape
 obtain ⟨a6,c6,e6⟩:=h.symbols.shape
 obtain ⟨a7,c7,e7⟩:=h.relocs.shape
 have hE2:valueR o.mod = true → manyO o = false → Hid (ElS u o w):=fun h1 h2=>hE h1 h2
 clear hE
 unfold ElS at hE2
 rw [hL0] at e1
 rw [hL1] at e2
 rw [hL2] at e3
 rw [hL3] at e4
 rw [hL4] at e5
 rw [hL5] at e6
 rw [hL6] at e7
 have HMn:Hid (manyO o = false → ∀ j,j < 7 → lenO o j ≤ 384):=by
  rw [hid_iff]
  intro hmn j hj
  simp only [manyO,Bool.or_eq_false_iff,decide_eq_false_iff_not] at hmn
  rcases j with _ | _ | _ | _ | _ | _ | _ | j <;> simp only [lenO] <;> omega
 obtain ⟨tv,xv,gv,fv,ev,sv,rv⟩:=u
 unfold obv at hTM hE2 ⊢
 simp only at e1 e2 e3 e4 e5 e6 e7 hTM hE2 ⊢
 subst e1 e2 e3 e4 e5 e6 e7
 clear h hL0 hL1 hL2 hL3 hL4 hL5 hL6
 have hV:=fun v=>value (str o.mod) v (by rw [str_size]; unfold Tk at hm; omega)
 rw [str_data] at hV
 generalize hLn:lenO o = ln at *
 generalize hm':o.mod = m at *
 generalize hW:w.alloc (.cells #[.string (str m),.slice a1 (ln 0) c1,.slice a2 (ln 1) c2,.slice a3 (ln 2) c3,.slice a4 (ln 3) c4,.slice a5 (ln 4) c5,.slice a6 (ln 5) c6,.slice a7 (ln 6) c7] 29) = W0 at *
 have hb0:Below w.heap.size w W0:=by rw [← hW]; exact (Below.refl _ _).alloc (Nat.le_refl _) _
 have hs0:W0.heap.size = w.heap.size + 1:=by rw [← hW]; simp
 have hN0:=heap_alloc_new w (.cells #[.string (str m),.slice a1 (ln 0) c1,.slice a2 (ln 1) c2,.slice a3 (ln 2) c3,.slice a4 (ln 3) c4,.slice a5 (ln 4) c5,.slice a6 (ln 5) c6,.slice a7 (ln 6) c7] 29)
 rw [hW] at hN0
 have HC:∀ u,Below W0.heap.size W0 u → u.cell? ⟨w.heap.size,0,none⟩ = some (.string (str m)) ∧ u.cell? ⟨w.heap.size,1,none⟩ = some (.slice a1 (ln 0) c1) ∧ u.cell? ⟨w.heap.size,2,none⟩ = some (.slice a2 (ln 1) c2) ∧ u.cell? ⟨w.heap.size,3,none⟩ = some (.slice a3 (ln 2) c3) ∧ u.cell? ⟨w.heap.size,4,none⟩ = some (.slice a4 (ln 3) c4) ∧ u.cell? ⟨w.heap.size,5,none⟩ = some (.slice a5 (ln 4) c5) ∧ u.cell? ⟨w.heap.size,6,none⟩ = some (.slice a6 (ln 5) c6) ∧ u.cell? ⟨w.heap.size,7,none⟩ = some (.slice a7 (ln 6) c7):=by
  intro u hu
  have n0:=(hu.block w.heap.size (by omega)).trans hN0
  exact ⟨by rw [cell_of_row u _ 0 _ _ _ n0]; rfl,by rw [cell_of_row u _ 1 _ _ _ n0]; rfl,by rw [cell_of_row u _ 2 _ _ _ n0]; rfl,by rw [cell_of_row u _ 3 _ _ _ n0]; rfl,by rw [cell_of_row u _ 4 _ _ _ n0]; rfl,by rw [cell_of_row u _ 5 _ _ _ n0]; rfl,by rw [cell_of_row u _ 6 _ _ _ n0]; rfl,by rw [cell_of_row u _ 7 _ _ _ n0]; rfl⟩
 cases hv:valueR m
 ·rw [hv] at hV HV
  have HW:Hid (r = (13,0)):=by rw [hid_iff,HV.out]; rfl
  obtain ⟨z0, -, -, -, -, -, -, -⟩:=HC W0 (Below.refl _ _)
  clear HC hE2 HMn hTM HV
  go_enter Tryz.func6,Tryz.ntmps6
  go_wp2_with fail
  refine (hV _).mono ?_
  rintro e w2 ⟨rfl,hw2⟩
  obtain rfl:=hw2.symm
  go_wp2
  go_ret2
  exact ⟨(by rw [HW.out]; first | done | rfl),hb0⟩
 ·rw [hv] at hV HV
  have HCh:=hidden HC
  have hT0:=hTM W0 hb0
  obtain ⟨z0,z1,z2,z3,z4,z5,z6,z7⟩:=HC W0 (Below.refl _ _)
  clear HC hTM
  cases hmn:manyO o
  ·rw [hmn] at hT0 HV
   have HE:=hE2 hv hmn
   have HM:=HMn.out hmn
   have HV':=HV.out
   simp only [Bool.true_eq_false,Bool.false_eq_true,if_false] at HV'
   have HV:=hidden HV'
   clear HV' hE2 HMn hmn
   go_enter Tryz.func6,Tryz.ntmps6
   go_wp2_with (go_at_call 25; refine (hV _).mono ?_; rintro e w2 ⟨rfl,hw2⟩; obtain rfl:=hw2.symm)
   refine hT0.mono ?_
   rintro e w3 ⟨rfl,hb3⟩
   obtain ⟨y0,y1,y2,y3,y4,y5,y6,y7⟩:=HCh.out w3 hb3
   clear hT0 z0 z1 z2 z3 z4 z5 z6 z7
   have hbw3:=below_trans hb0 hb3
   have hs3:=hb3.size
   generalize hW4:w3.alloc (.cells #[.string (str m),.slice a1 (ln 0) c1,.slice a2 (ln 1) c2,.slice a3 (ln 2) c3,.slice a4 (ln 3) c4,.slice a5 (ln 4) c5,.slice a6 (ln 5) c6,.slice a7 (ln 6) c7] 86) = W4 at *
   have hb4:Below w3.heap.size w3 W4:=by rw [← hW4]; exact (Below.refl _ _).alloc (Nat.le_refl _) _
   have hs4:W4.heap.size = w3.heap.size + 1:=by rw [← hW4]; simp
   have hN4:=heap_alloc_new w3 (.cells #[.string (str m),.slice a1 (ln 0) c1,.slice a2 (ln 1) c2,.slice a3 (ln 2) c3,.slice a4 (ln 3) c4,.slice a5 (ln 4) c5,.slice a6 (ln 5) c6,.slice a7 (ln 6) c7] 86)
   rw [hW4] at hN4
   obtain ⟨t0,t1,t2,t3,t4,t5,t6,t7⟩:=HCh.out W4 (below_trans hb3 hb4)
   obtain ⟨l0,l1,l2,l3,l4,l5,l6,l7⟩:W4.cell? ⟨w3.heap.size,0,none⟩ = some (.string (str m)) ∧ W4.cell? ⟨w3.heap.size,1,none⟩ = some (.slice a1 (ln 0) c1) ∧ W4.cell? ⟨w3.heap.size,2,none⟩ = some (.slice a2 (ln 1) c2) ∧ W4.cell? ⟨w3.heap.size,3,none⟩ = some (.slice a3 (ln 2) c3) ∧ W4.cell? ⟨w3.heap.size,4,none⟩ = some (.slice a4 (ln 3) c4) ∧ W4.cell? ⟨w3.heap.size,5,none⟩ = some (.slice a5 (ln 4) c5) ∧ W4.cell? ⟨w3.heap.size,6,none⟩ = some (.slice a6 (ln 5) c6) ∧ W4.cell? ⟨w3.heap.size,7,none⟩ = some (.slice a7 (ln 6) c7):=⟨by rw [cell_of_row W4 _ 0 _ _ _ hN4]; rfl,by rw [cell_of_row W4 _ 1 _ _ _ hN4]; rfl,by rw [cell_of_row W4 _ 2 _ _ _ hN4]; rfl,by rw [cell_of_row W4 _ 3 _ _ _ hN4]; rfl,by rw [cell_of_row W4 _ 4 _ _ _ hN4]; rfl,by rw [cell_of_row W4 _ 5 _ _ _ hN4]; rfl,by rw [cell_of_row W4 _ 6 _ _ _ hN4]; rfl,by rw [cell_of_row W4 _ 7 _ _ _ hN4]; rfl⟩
   generalize hW5:W4.alloc (.cells #[.int .i64 (ln 0:Int),.func (.func 27) #[.agg #[.string (str m),.slice a1 (ln 0) c1,.slice a2 (ln 1) c2,.slice a3 (ln 2) c3,.slice a4 (ln 3) c4,.slice a5 (ln 4) c5,.slice a6 (ln 5) c6,.slice a7 (ln 6) c7]] #[],.int .i64 (ln 1:Int),.func (.func 28) #[.agg #[.string (str m),.slice a1 (ln 0) c1,.slice a2 (ln 1) c2,.slice a3 (ln 2) c3,.slice a4 (ln 3) c4,.slice a5 (ln 4) c5,.slice a6 (ln 5) c6,.slice a7 (ln 6) c7]] #[],.int .i64 (ln 2:Int),.func (.func 29) #[.agg #[.string (str m),.slice a1 (ln 0) c1,.slice a2 (ln 1) c2,.slice a3 (ln 2) c3,.slice a4 (ln 3) c4,.slice a5 (ln 4) c5,.slice a6 (ln 5) c6,.slice a7 (ln 6) c7]] #[],.int .i64 (ln 3:Int),.func (.func 30) #[.agg #[.string (str m),.slice a1 (ln 0) c1,.slice a2 (ln 1) c2,.slice a3 (ln 2) c3,.slice a4 (ln 3) c4,.slice a5 (ln 4) c5,.slice a6 (ln 5) c6,.slice a7 (ln 6) c7]] #[],.int .i64 (ln 4:Int),.func (.func 31) #[.agg #[.string (str m),.slice a1 (ln 0) c1,.slice a2 (ln 1) c2,.slice a3 (ln 2) c3,.slice a4 (ln 3) c4,.slice a5 (ln 4) c5,.slice a6 (ln 5) c6,.slice a7 (ln 6) c7]] #[],.int .i64 (ln 5:Int),.func (.func 32) #[.agg #[.string (str m),.slice a1 (ln 0) c1,.slice a2 (ln 1) c2,.slice a3 (ln 2) c3,.slice a4 (ln 3) c4,.slice a5 (ln 4) c5,.slice a6 (ln 5) c6,.slice a7 (ln 6) c7]] #[],.int .i64 (ln 6:Int),.func (.func 33) #[.agg #[.string (str m),.slice a1 (ln 0) c1,.slice a2 (ln 1) c2,.slice a3 (ln 2) c3,.slice a4 (ln 3) c4,.slice a5 (ln 4) c5,.slice a6 (ln 5) c6,.slice a7 (ln 6) c7]] #[]] 88) = W5 at *
   have hb5:Below W4.heap.size W4 W5:=by rw [← hW5]; exact (Below.refl _ _).alloc (Nat.le_refl _) _
   have hs5:W5.heap.size = w3.heap.size + 2:=by rw [← hW5]; simp; omega
   have hN5:=heap_alloc_new W4 (.cells #[.int .i64 (ln 0:Int),.func (.func 27) #[.agg #[.string (str m),.slice a1 (ln 0) c1,.slice a2 (ln 1) c2,.slice a3 (ln 2) c3,.slice a4 (ln 3) c4,.slice a5 (ln 4) c5,.slice a6 (ln 5) c6,.slice a7 (ln 6) c7]] #[],.int .i64 (ln 1:Int),.func (.func 28) #[.agg #[.string (str m),.slice a1 (ln 0) c1,.slice a2 (ln 1) c2,.slice a3 (ln 2) c3,.slice a4 (ln 3) c4,.slice a5 (ln 4) c5,.slice a6 (ln 5) c6,.slice a7 (ln 6) c7]] #[],.int .i64 (ln 2:Int),.func (.func 29) #[.agg #[.string (str m),.slice a1 (ln 0) c1,.slice a2 (ln 1) c2,.slice a3 (ln 2) c3,.slice a4 (ln 3) c4,.slice a5 (ln 4) c5,.slice a6 (ln 5) c6,.slice a7 (ln 6) c7]] #[],.int .i64 (ln 3:Int),.func (.func 30) #[.agg #[.string (str m),.slice a1 (ln 0) c1,.slice a2 (ln 1) c2,.slice a3 (ln 2) c3,.slice a4 (ln 3) c4,.slice a5 (ln 4) c5,.slice a6 (ln 5) c6,.slice a7 (ln 6) c7]] #[],.int .i64 (ln 4:Int),.func (.func 31) #[.agg #[.string (str m),.slice a1 (ln 0) c1,.slice a2 (ln 1) c2,.slice a3 (ln 2) c3,.slice a4 (ln 3) c4,.slice a5 (ln 4) c5,.slice a6 (ln 5) c6,.slice a7 (ln 6) c7]] #[],.int .i64 (ln 5:Int),.func (.func 32) #[.agg #[.string (str m),.slice a1 (ln 0) c1,.slice a2 (ln 1) c2,.slice a3 (ln 2) c3,.slice a4 (ln 3) c4,.slice a5 (ln 4) c5,.slice a6 (ln 5) c6,.slice a7 (ln 6) c7]] #[],.int .i64 (ln 6:Int),.func (.func 33) #[.agg #[.string (str m),.slice a1 (ln 0) c1,.slice a2 (ln 1) c2,.slice a3 (ln 2) c3,.slice a4 (ln 3) c4,.slice a5 (ln 4) c5,.slice a6 (ln 5) c6,.slice a7 (ln 6) c7]] #[]] 88)
   rw [hW5,hs4] at hN5
   have hbw5:Below w.heap.size w W5:=below_trans hbw3 (below_trans hb4 hb5)
   have HF:Hid (∀ u,Below W5.heap.size W5 u → ∀ j,j < 7 → u.cell? ⟨w3.heap.size + 1,j * 2,none⟩ = some (.int .i64 (ln j:Int)) ∧ u.cell? ⟨w3.heap.size + 1,j * 2 + 1,none⟩ = some (.func (.func (fnO j)) #[.agg #[.string (str m),.slice a1 (ln 0) c1,.slice a2 (ln 1) c2,.slice a3 (ln 2) c3,.slice a4 (ln 3) c4,.slice a5 (ln 4) c5,.slice a6 (ln 5) c6,.slice a7 (ln 6) c7]] #[])):=by
    rw [hid_iff]
    intro u hu j hj
    have n5:=(hu.block (w3.heap.size + 1) (by omega)).trans hN5
    rcases j with _ | _ | _ | _ | _ | _ | _ | j
    all_goals first
     | omega
     | exact ⟨by rw [cell_of_row u _ _ _ _ _ n5]; rfl,by rw [cell_of_row u _ _ _ _ _ n5]; rfl⟩
   go_wp2_with fail
   clear y0 y1 y2 y3 y4 y5 y6 y7 t0 t1 t2 t3 t4 t5 t6 t7 l0 l1 l2 l3 l4 l5 l6 l7 hN0 hN4 hN5 hW hW4 hW5 HCh
   go_loopg [61] 7 (fun g i wr=>∃ (j:Nat),g + j = 7 ∧ i = .int .i64 (j:Int) ∧ Hid (r = listsO o j (7 - j)) ∧ Hid (∀ i,i < j → (scanO (elemO o i) 0 (ln i)).1 = 0) ∧ Below W5.heap.size W5 wr)
   case atStart=>exact ⟨0,by omega,rfl,HV,(by rw [hid_iff]; intro i hi; omega),Below.refl _ _⟩
   case round =>
    obtain ⟨j,hg,rfl,hq,hpre,hbl⟩:=hrel
    rename World=>wo
    have hso:=hbl.size
    by_cases hj:j < 7
    ·have hji:(j:Int) < 7:=by omega
     obtain ⟨f0,f1⟩:=HF.out wo hbl j hj
     generalize hW6:wo.alloc (.cells #[.int .i64 (ln j:Int),.func (.func (fnO j)) #[.agg #[.string (str m),.slice a1 (ln 0) c1,.slice a2 (ln 1) c2,.slice a3 (ln 2) c3,.slice a4 (ln 3) c4,.slice a5 (ln 4) c5,.slice a6 (ln 5) c6,.slice a7 (ln 6) c7]] #[]] 88) = W6 at *
     have hb6:Below wo.heap.size wo W6:=by rw [← hW6]; exact (Below.refl _ _).alloc (Nat.le_refl _) _
     have hs6:W6.heap.size = wo.heap.size + 1:=by rw [← hW6]; simp
     have hN6:=heap_alloc_new wo (.cells #[.int .i64 (ln j:Int),.func (.func (fnO j)) #[.agg #[.string (str m),.slice a1 (ln 0) c1,.slice a2 (ln 1) c2,.slice a3 (ln 2) c3,.slice a4 (ln 3) c4,.slice a5 (ln 4) c5,.slice a6 (ln 5) c6,.slice a7 (ln 6) c7]] #[]] 88)
     rw [hW6] at hN6
     have hb56:Below W5.heap.size W5 W6:=below_trans hbl hb6
     have HG:Hid (∀ u,Below W6.heap.size W6 u → u.cell? ⟨wo.heap.size,0,none⟩ = some (.int .i64 (ln j:Int)) ∧ u.cell? ⟨wo.heap.size,1,none⟩ = some (.func (.func (fnO j)) #[.agg #[.string (str m),.slice a1 (ln 0) c1,.slice a2 (ln 1) c2,.slice a3 (ln 2) c3,.slice a4 (ln 3) c4,.slice a5 (ln 4) c5,.slice a6 (ln 5) c6,.slice a7 (ln 6) c7]] #[])):=by
      rw [hid_iff]
      intro u hu
      have n6:=(hu.block wo.heap.size (by omega)).trans hN6
      exact ⟨by rw [cell_of_row u _ 0 _ _ _ n6]; rfl,by rw [cell_of_row u _ 1 _ _ _ n6]; rfl⟩
     obtain ⟨s0,s1⟩:=HG.out W6 (Below.refl _ _)
     have HLJ:=hidden (listsO_at o j hj)
     have hlj:ln j ≤ 384:=HM j hj
     go_wp2_with fail
     go_loopg [67] (ln j) (fun g i wr=>∃ (k:Nat),g + k = ln j ∧ i = .int .i64 (k:Int) ∧ Hid (scanO (elemO o j) 0 (ln j) = scanO (elemO o j) k (ln j - k)) ∧ Below W6.heap.size W6 wr)
     case atStart=>exact ⟨0,by omega,rfl,rfl,Below.refl _ _⟩
     case round =>
      obtain ⟨k,hgk,rfl,hqk,hbk⟩:=hrel
      rename World=>wi
      obtain ⟨u0,u1⟩:=HG.out wi hbk
      have hbwi:Below w.heap.size w wi:=below_trans hbw5 (below_trans hb56 hbk)
      by_cases hk:k < ln j
      ·have hki:(k:Int) < (ln j:Int):=by omega
       have hCal:=HE.out j k hj hk hpre.out wi hbwi
       have HSA:=hidden (scanO_at (elemO o j) (ln j) k hk)
       have eg:=enterO j hj
       generalize elemO o j k = el at *
       generalize fnO j = fj at *
       go_wp2_with fail
       refine hCal.mono ?_
       rintro e wx ⟨rfl,hbx⟩
       have hb7:Below W6.heap.size W6 wx:=below_trans hbk hbx
       by_cases h0:el = 0
       ·subst h0
        have HQ:Hid (scanO (elemO o j) 0 (ln j) = scanO (elemO o j) (k + 1) (ln j - (k + 1))):=by rw [hid_iff,hqk.out,HSA.out,if_pos rfl]
        clear hCal hqk HSA
        go_wp2
        go_roundg (ln j - (k + 1))
        case measure=>omega
        case rel=>exact ⟨k + 1,by omega,by go_num,HQ,hb7⟩
       ·have h0i:¬ (el:Int) = 0:=by omega
        have HW:Hid (r = (el,k)):=by
         have e1:scanO (elemO o j) 0 (ln j) = (el,k):=by rw [hqk.out,HSA.out,if_neg h0]
         rw [hid_iff,hq.out,HLJ.out,hLn,e1,if_neg h0]
        clear hCal hqk HSA
        have hbe:Below w.heap.size w wx:=below_trans hbw5 (below_trans hb56 hb7)
        go_wp2
        go_ret2
        exact ⟨(by rw [HW.out]; first | done | rfl),hbe⟩
      ·have hki:¬ (k:Int) < (ln j:Int):=by omega
       have HE1:Hid (scanO (elemO o j) 0 (ln j) = (0,0)):=by rw [hid_iff,hqk.out,show ln j - k = 0 from by omega]; rfl
       have HQ:Hid (r = listsO o (j + 1) (7 - (j + 1))):=by
        rw [hid_iff,hq.out,HLJ.out,hLn,HE1.out,if_pos rfl]
       clear hqk
       have hb7:Below W5.heap.size W5 wi:=below_trans hb56 hbk
       have HPre:Hid (∀ i,i < j + 1 → (scanO (elemO o i) 0 (ln i)).1 = 0):=by
        rw [hid_iff]
        intro i hi
        by_cases hij:i = j
        ·rw [hij,HE1.out]
        ·exact hpre.out i (by omega)
       go_wp2
       go_roundg (7 - (j + 1))
       case measure=>omega
       case rel=>exact ⟨j + 1,by omega,by go_num,HQ,HPre,hb7⟩
    ·have hji:¬ (j:Int) < 7:=by omega
     have HW:Hid (r = (0,0)):=by
      rw [hid_iff,hq.out,show 7 - j = 0 from by omega]
      rfl
     have hbe:Below w.heap.size w wo:=below_trans hbw5 hbl
     clear hq
     go_wp2
     go_ret2
     exact ⟨(by rw [HW.out]; first | done | rfl),hbe⟩
  ·rw [hmn] at hT0 HV
   have HW:Hid (r = (4,0)):=by rw [hid_iff,HV.out]; rfl
   clear hE2 HMn HV
   go_enter Tryz.func6,Tryz.ntmps6
   go_wp2_with (go_at_call 25; refine (hV _).mono ?_; rintro e w2 ⟨rfl,hw2⟩; obtain rfl:=hw2.symm)
   refine hT0.mono ?_
   rintro e w3 ⟨rfl,hb3⟩
   go_wp2
   go_ret2
   exact ⟨(by rw [HW.out]; first | done | rfl),below_trans hb0 hb3⟩
end Go.Proofs.YtiiepfplommmfaaGreatDoor

namespace Go.Proofs.YtiiepfplommmfaaGreatDoor
open Go.RowKit

set_option maxHeartbeats 4000000 in
set_option maxRecDepth 1000000 in
theorem globalAt (F:Nat → Prop) (u:ObV) (o:Ob) (w:World) (h:ObR F w u o) (hF:∀ g,F g → g < w.heap.size) (hok:ObOk o) (k:Nat) (hk:k < o.globals.length):Calls Tryz.prog 29 #[obv u o.mod,.int .i64 (k:Int)] w (NumB (elemO o 2 k) w):=by
 have HV:Hid (elemO o 2 k = globalO o.funs.length (o.globals.take k) o.globals[k]):=by rw [hid_iff,elemO,List.getElem?_eq_getElem hk]
 generalize elemO o 2 k = r at *
 have hT:=h.globals
 obtain ⟨g,of,cap,cs,e1,hcap,hg,hC,hcell⟩:=hT.at k hk
 have hxo:=hok.globals _ (List.getElem_mem hk)
 have hm:=hok.mod
 have hng:=hok.ng
 have hnf:=hok.nf
 obtain ⟨fa,fc,hfv⟩:=h.funs.shape
 obtain ⟨m,ts,xs,gs,fs,es,ss,rs⟩:=o
 obtain ⟨tv,xv,gv,fv,ev,sv,rv⟩:=u
 unfold obv
 simp only at *
 subst e1
 have hk':k < gs.length:=hk
 have hTk:=hT.take k (by omega)
 rcases hx:gs[k] with ⟨nm,ty,fi⟩
 rw [hx] at hC hxo HV
 unfold cGl at hC
 subst hC
 obtain ⟨hn,ht,hi⟩:=hxo
 simp only at *
 have q0:=hcell 0 _ rfl
 have q1:=hcell 1 _ rfl
 have q2:=hcell 2 _ rfl
 simp only [Nat.add_zero] at q0
 have ki0:(k:Int) < (gs.length:Int):=by omega
 have ki1:(k:Int) ≤ (cap:Int):=by omega
 have ki2:(0:Int) ≤ (k:Int):=by omega
 generalize hW:w.alloc (.cells #[.string (str m),tv,xv,(.slice (some ⟨g,of,none⟩) gs.length cap),fv,ev,sv,rv] 86) = W0 at *
 have hb0:Below w.heap.size w W0:=by rw [← hW]; exact (Below.refl _ _).alloc (Nat.le_refl _) _
 have hs0:W0.heap.size = w.heap.size + 1:=by rw [← hW]; simp
 have hN0:=heap_alloc_new w (.cells #[.string (str m),tv,xv,(.slice (some ⟨g,of,none⟩) gs.length cap),fv,ev,sv,rv] 86)
 rw [hW] at hN0
 generalize hW1:W0.alloc (.cells #[.string (str nm),.string (str ty),.int .i64 fi] 73) = W1 at *
 have hb1:Below W0.heap.size W0 W1:=by rw [← hW1]; exact (Below.refl _ _).alloc (Nat.le_refl _) _
 have hs1:W1.heap.size = w.heap.size + 2:=by rw [← hW1]; simp; omega
 have hN1:=heap_alloc_new W0 (.cells #[.string (str nm),.string (str ty),.int .i64 fi] 73)
 rw [hW1,hs0] at hN1
 have hbw:Below w.heap.size w W1:=below_trans hb0 hb1
 have HC:∀ u,Below W1.heap.size W1 u → (u.cell? ⟨w.heap.size,0,none⟩ = some (.string (str m)) ∧ u.cell? ⟨w.heap.size,1,none⟩ = some (tv) ∧ u.cell? ⟨w.heap.size,2,none⟩ = some (xv) ∧ u.cell? ⟨w.heap.size,3,none⟩ = some ((.slice (some ⟨g,of,none⟩) gs.length cap)) ∧ u.cell? ⟨w.heap.size,4,none⟩ = some (fv) ∧ u.cell? ⟨w.heap.size,5,none⟩ = some (ev) ∧ u.cell? ⟨w.heap.size,6,none⟩ = some (sv) ∧ u.cell? ⟨w.heap.size,7,none⟩ = some (rv)) ∧ (u.cell? ⟨w.heap.size + 1,0,none⟩ = some (.string (str nm)) ∧ u.cell? ⟨w.heap.size + 1,1,none⟩ = some (.string (str ty)) ∧ u.cell? ⟨w.heap.size + 1,2,none⟩ = some (.int .i64 fi)) ∧ Below w.heap.size w u:=by
  intro u hu
  have n0:=(hu.block w.heap.size (by omega)).trans ((hb1.block _ (by omega)).trans hN0)
  have n1:=(hu.block (w.heap.size + 1) (by omega)).trans hN1
  exact ⟨⟨(by rw [cell_of_row u _ 0 _ _ _ n0]; rfl),(by rw [cell_of_row u _ 1 _ _ _ n0]; rfl),(by rw [cell_of_row u _ 2 _ _ _ n0]; rfl),(by rw [cell_of_row u _ 3 _ _ _ n0]; rfl),(by rw [cell_of_row u _ 4 _ _ _ n0]; rfl),(by rw [cell_of_row u _ 5 _ _ _ n0]; rfl),(by rw [cell_of_row u _ 6 _ _ _ n0]; rfl),(by rw [cell_of_row u _ 7 _ _ _ n0]; rfl)⟩,⟨(by rw [cell_of_row u _ 0 _ _ _ n1]; rfl),(by rw [cell_of_row u _ 1 _ _ _ n1]; rfl),(by rw [cell_of_row u _ 2 _ _ _ n1]; rfl)⟩,below_trans hbw hu⟩
 have y0:=(hb0.cell (p:=⟨g,of + k * 3,none⟩) (hF g hg)).trans q0
 have y1:=(hb0.cell (p:=⟨g,of + k * 3 + 1,none⟩) (hF g hg)).trans q1
 have y2:=(hb0.cell (p:=⟨g,of + k * 3 + 2,none⟩) (hF g hg)).trans q2
 have zz:W0.cell? ⟨w.heap.size,3,none⟩ = some ((.slice (some ⟨g,of,none⟩) gs.length cap)):=by rw [cell_of_row W0 _ 3 _ _ _ hN0]; rfl
 obtain ⟨⟨-, -, -, z3, -, -, -, -⟩,⟨x0, -, -⟩, -⟩:=HC W1 (Below.refl _ _)
 have HCh:=hidden HC
 have hUp:∀ u,Below W1.heap.size W1 u → Below w.heap.size w u ∧ ∀ g,F g → g < u.heap.size:=fun u hu=>⟨(HC u hu).2.2,fun g hg=>by have:=hF g hg; have:=hu.size; omega⟩
 have hU2:∀ u,Below W1.heap.size W1 u → w.heap.size + 1 < u.heap.size:=fun u hu=>by have:=hu.size; omega
 subst hfv
 have hV:=fun u=>value (str nm) u (by rw [str_size]; unfold Tk at hn; omega)
 rw [str_data] at hV
 have hG:∀ u,Below W1.heap.size W1 u → Calls Tryz.prog 75 #[.slice (some ⟨g,of,none⟩) k cap,.string (str nm)] u (BoolB ((gs.take k).any (fun d=>decide (d.name = nm))) u):=fun u hu =>
  isGlobal F _ (gs.take k) nm u (hTk.below cGl_stay (hUp u hu).1 hF) (hUp u hu).2 (by rw [List.length_take]; omega)
 have hR:=fun u=>right (str ty) u
 rw [str_data] at hR
 have hX:=fun u=>isIndex fi (fs.length:Int) u
 have HR:Hid (globalO fs.length (gs.take k) ⟨nm,ty,fi⟩ = if valueR nm = false then 13 else if (gs.take k).any (fun d=>decide (d.name = nm)) = true then 15 else if rightR ty = false then 17 else if inO fi fs.length = false then 21 else 0):=rfl
 generalize (gs.take k).any (fun d=>decide (d.name = nm)) = an at *
 generalize inO fi (fs.length:Int) = ii at *
 generalize rightR ty = rt at *
 generalize valueR nm = vn at *
 rw [HR.out] at HV
 clear HR h hT hTk hok hx hcell HC q0 q1 q2
 have HGh:=hidden hG
 have HUh:=hidden hUp
 clear hG hUp hU2
 cases vn
 ·have HW:Hid (r = 13):=HV
  go_enter Tryz.func29,Tryz.ntmps29
  go_wp2_with (go_at_call 25; refine (hV _).mono ?_; rintro e w2 ⟨rfl,hw2⟩; obtain rfl:=hw2.symm)
  go_ret
  exact ⟨(by rw [HW.out]; first | done | rfl),hbw⟩
 ·go_enter Tryz.func29,Tryz.ntmps29
  go_wp2_with (go_at_call 25; refine (hV _).mono ?_; rintro e w2 ⟨rfl,hw2⟩; obtain rfl:=hw2.symm)
  go_region_with (go_at_call 75; refine (HGh.out _ (by first | exact Below.refl _ _ | exact below_drew (Below.refl _ _))).mono ?_; rintro e w3 ⟨rfl,hb3⟩)
  all_goals (
   have hb3':Below W1.heap.size W1 w3:=by first | exact hb3 | exact below_undrew hb3
   clear hb3 y0 y1 y2 zz z3 x0
   obtain ⟨⟨-, -, -, -, -, -, -, -⟩,⟨-, d1, -⟩,hw3⟩:=HCh.out w3 hb3'
   cases an
   ·cases rt
    ·have HW:Hid (r = 17):=HV
     go_wp2_with (go_at_call 74; refine (hR _).mono ?_; rintro e w4 ⟨rfl,hb4⟩)
     go_ret
     exact ⟨(by rw [HW.out]; first | done | rfl),below_trans hw3 hb4⟩
    ·go_wp2_with fail
     refine (hR _).mono ?_
     rintro e w4 ⟨rfl,hb4⟩
     clear d1
     obtain ⟨⟨-, -, -, -, c4, -, -, -⟩,⟨-, -, f2⟩,hw4⟩:=HCh.out w4 (below_trans hb3' hb4)
     cases ii
     ·have HW:Hid (r = 21):=HV
      go_wp2_with (go_at_call 76; refine (hX _).mono ?_; rintro e w5 ⟨rfl,hw5⟩; obtain rfl:=hw5.symm)
      go_ret
      exact ⟨(by rw [HW.out]; first | done | rfl),hw4⟩
     ·have HW:Hid (r = 0):=HV
      go_wp2_with (go_at_call 76; refine (hX _).mono ?_; rintro e w5 ⟨rfl,hw5⟩; obtain rfl:=hw5.symm)
      go_ret
      exact ⟨(by rw [HW.out]; first | done | rfl),hw4⟩
   ·have HW:Hid (r = 15):=HV
    go_wp2
    go_ret
    exact ⟨(by rw [HW.out]; first | done | rfl),hw3⟩)
end Go.Proofs.YtiiepfplommmfaaGreatDoor
