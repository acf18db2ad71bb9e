/-
  One: the document's own reading of one instruction.
-/
import Derived.Deep.DeepCutAuto
import Derived.Deep.CutBlock
import Derived.Deep.CutRange
import Derived.Test.YtbhcmhbicbhgmaaCodeOneS
namespace Go.Proofs.Ytbhcmhbicbhgmaa.Wire
open Go.RowKit

set_option maxHeartbeats 60000000 in
set_option maxRecDepth 1000000 in
theorem refOne (v : Value) (b0 : Nat) (l : List Nat) (p : Nat) (w : World) (hl : l.length ≤ 2048) (hO : QOk l v) (hp : p < l.length) (hb0 : b0 < w.heap.size) (hv : Rd w b0 v l) : Calls Try.prog 26 #[v, .int .i64 p, .bool false] w (OneE (rdI l p) w) := by
  have hrn := rdI_none l p hp
  have hri := rdI_is l p hp
  have hx256 : l[p] < 256 := hO.h256 _ (List.getElem_mem hp)
  have hcp : ∃ o c, v = .slice (some ⟨b0, o, none⟩) l.length c ∧ w.cell? ⟨b0, o + p, none⟩ = some (.int .u8 ((l[p] : Nat) : Int)) := by
    obtain ⟨o, c, h1, _⟩ := hv.addr2 (by omega)
    refine ⟨o, c, h1, ?_⟩
    rw [Rd.at (h1 ▸ hv) p hp]
    simp [List.getD, hp]
  obtain ⟨o, c, rfl, hcell⟩ := hcp
  have hll : (l.length : Int) ≤ 2048 := by omega
  have hpi : (p : Int) < l.length := by omega
  generalize l[p] = op at *
  have hz1 : (w.alloc (.cells #[.int .i64 0, .int .i64 0, .int .i64 0, .int .i64 0, .complex .f64 0 0, .string ⟨#[]⟩, .slice none 0 0] 57)).heap.size = w.heap.size + 1 := by simp
  have hbI : ((w.alloc (.cells #[.int .i64 0, .int .i64 0, .int .i64 0, .int .i64 0, .complex .f64 0 0, .string ⟨#[]⟩, .slice none 0 0] 57)).alloc (.cells #[.int .i64 0, .int .i64 0, .int .i64 0, .int .i64 0, .complex .f64 0 0, .string ⟨#[]⟩, .slice none 0 0] 57)).heap[w.heap.size + 1]? = some (.cells #[.int .i64 0, .int .i64 0, .int .i64 0, .int .i64 0, .complex .f64 0 0, .string ⟨#[]⟩, .slice none 0 0] 57 (0, 0)) := by
    have := heap_alloc_new (w.alloc (.cells #[.int .i64 0, .int .i64 0, .int .i64 0, .int .i64 0, .complex .f64 0 0, .string ⟨#[]⟩, .slice none 0 0] 57)) (.cells #[.int .i64 0, .int .i64 0, .int .i64 0, .int .i64 0, .complex .f64 0 0, .string ⟨#[]⟩, .slice none 0 0] 57)
    rw [hz1] at this
    exact this
  have hins : insC (i0 p op) (.slice none 0 0) = #[.int .i64 p, .int .i64 op, .int .i64 0, .int .i64 0, .complex .f64 0 0, .string ⟨#[]⟩, .slice none 0 0] := by
    unfold insC i0
    rw [show floatOfInt .f64 0 = 0 from by decide]
    rfl
  have k1 : Kept (fun _ => False) w (w.alloc (.cells #[.int .i64 0, .int .i64 0, .int .i64 0, .int .i64 0, .complex .f64 0 0, .string ⟨#[]⟩, .slice none 0 0] 57)) := (Kept.refl _ w).alloc _
  have k2 : Kept (fun _ => False) (w.alloc (.cells #[.int .i64 0, .int .i64 0, .int .i64 0, .int .i64 0, .complex .f64 0 0, .string ⟨#[]⟩, .slice none 0 0] 57)) ((w.alloc (.cells #[.int .i64 0, .int .i64 0, .int .i64 0, .int .i64 0, .complex .f64 0 0, .string ⟨#[]⟩, .slice none 0 0] 57)).alloc (.cells #[.int .i64 0, .int .i64 0, .int .i64 0, .int .i64 0, .complex .f64 0 0, .string ⟨#[]⟩, .slice none 0 0] 57)) := (Kept.refl _ (w.alloc (.cells #[.int .i64 0, .int .i64 0, .int .i64 0, .int .i64 0, .complex .f64 0 0, .string ⟨#[]⟩, .slice none 0 0] 57))).alloc _
  have k3 : Kept (fun k => k = w.heap.size + 1) ((w.alloc (.cells #[.int .i64 0, .int .i64 0, .int .i64 0, .int .i64 0, .complex .f64 0 0, .string ⟨#[]⟩, .slice none 0 0] 57)).alloc (.cells #[.int .i64 0, .int .i64 0, .int .i64 0, .int .i64 0, .complex .f64 0 0, .string ⟨#[]⟩, .slice none 0 0] 57)) (((w.alloc (.cells #[.int .i64 0, .int .i64 0, .int .i64 0, .int .i64 0, .complex .f64 0 0, .string ⟨#[]⟩, .slice none 0 0] 57)).alloc (.cells #[.int .i64 0, .int .i64 0, .int .i64 0, .int .i64 0, .complex .f64 0 0, .string ⟨#[]⟩, .slice none 0 0] 57)).setRow (w.heap.size + 1) #[.int .i64 p, .int .i64 op, .int .i64 0, .int .i64 0, .complex .f64 0 0, .string ⟨#[]⟩, .slice none 0 0]) := kept_setRow _ (w.heap.size + 1) #[.int .i64 p, .int .i64 op, .int .i64 0, .int .i64 0, .complex .f64 0 0, .string ⟨#[]⟩, .slice none 0 0]
  have k4 : Kept (fun _ => False) (((w.alloc (.cells #[.int .i64 0, .int .i64 0, .int .i64 0, .int .i64 0, .complex .f64 0 0, .string ⟨#[]⟩, .slice none 0 0] 57)).alloc (.cells #[.int .i64 0, .int .i64 0, .int .i64 0, .int .i64 0, .complex .f64 0 0, .string ⟨#[]⟩, .slice none 0 0] 57)).setRow (w.heap.size + 1) #[.int .i64 p, .int .i64 op, .int .i64 0, .int .i64 0, .complex .f64 0 0, .string ⟨#[]⟩, .slice none 0 0]) ((((w.alloc (.cells #[.int .i64 0, .int .i64 0, .int .i64 0, .int .i64 0, .complex .f64 0 0, .string ⟨#[]⟩, .slice none 0 0] 57)).alloc (.cells #[.int .i64 0, .int .i64 0, .int .i64 0, .int .i64 0, .complex .f64 0 0, .string ⟨#[]⟩, .slice none 0 0] 57)).setRow (w.heap.size + 1) #[.int .i64 p, .int .i64 op, .int .i64 0, .int .i64 0, .complex .f64 0 0, .string ⟨#[]⟩, .slice none 0 0]).alloc (.cells #[.slice (some ⟨b0, o, none⟩) l.length c, .int .i64 ((p : Int) + 1), .bool false, .int .i64 0, .int .i64 0] 86)) := (Kept.refl _ (((w.alloc (.cells #[.int .i64 0, .int .i64 0, .int .i64 0, .int .i64 0, .complex .f64 0 0, .string ⟨#[]⟩, .slice none 0 0] 57)).alloc (.cells #[.int .i64 0, .int .i64 0, .int .i64 0, .int .i64 0, .complex .f64 0 0, .string ⟨#[]⟩, .slice none 0 0] 57)).setRow (w.heap.size + 1) #[.int .i64 p, .int .i64 op, .int .i64 0, .int .i64 0, .complex .f64 0 0, .string ⟨#[]⟩, .slice none 0 0])).alloc _
  have hz2 : ((w.alloc (.cells #[.int .i64 0, .int .i64 0, .int .i64 0, .int .i64 0, .complex .f64 0 0, .string ⟨#[]⟩, .slice none 0 0] 57)).alloc (.cells #[.int .i64 0, .int .i64 0, .int .i64 0, .int .i64 0, .complex .f64 0 0, .string ⟨#[]⟩, .slice none 0 0] 57)).heap.size = w.heap.size + 2 := by simp
  have hz3 : (((w.alloc (.cells #[.int .i64 0, .int .i64 0, .int .i64 0, .int .i64 0, .complex .f64 0 0, .string ⟨#[]⟩, .slice none 0 0] 57)).alloc (.cells #[.int .i64 0, .int .i64 0, .int .i64 0, .int .i64 0, .complex .f64 0 0, .string ⟨#[]⟩, .slice none 0 0] 57)).setRow (w.heap.size + 1) #[.int .i64 p, .int .i64 op, .int .i64 0, .int .i64 0, .complex .f64 0 0, .string ⟨#[]⟩, .slice none 0 0]).heap.size = w.heap.size + 2 := by rw [← hz2]; simp [World.setRow]
  have hz4 : ((((w.alloc (.cells #[.int .i64 0, .int .i64 0, .int .i64 0, .int .i64 0, .complex .f64 0 0, .string ⟨#[]⟩, .slice none 0 0] 57)).alloc (.cells #[.int .i64 0, .int .i64 0, .int .i64 0, .int .i64 0, .complex .f64 0 0, .string ⟨#[]⟩, .slice none 0 0] 57)).setRow (w.heap.size + 1) #[.int .i64 p, .int .i64 op, .int .i64 0, .int .i64 0, .complex .f64 0 0, .string ⟨#[]⟩, .slice none 0 0]).alloc (.cells #[.slice (some ⟨b0, o, none⟩) l.length c, .int .i64 ((p : Int) + 1), .bool false, .int .i64 0, .int .i64 0] 86)).heap.size = w.heap.size + 3 := by
    have : ((((w.alloc (.cells #[.int .i64 0, .int .i64 0, .int .i64 0, .int .i64 0, .complex .f64 0 0, .string ⟨#[]⟩, .slice none 0 0] 57)).alloc (.cells #[.int .i64 0, .int .i64 0, .int .i64 0, .int .i64 0, .complex .f64 0 0, .string ⟨#[]⟩, .slice none 0 0] 57)).setRow (w.heap.size + 1) #[.int .i64 p, .int .i64 op, .int .i64 0, .int .i64 0, .complex .f64 0 0, .string ⟨#[]⟩, .slice none 0 0]).alloc (.cells #[.slice (some ⟨b0, o, none⟩) l.length c, .int .i64 ((p : Int) + 1), .bool false, .int .i64 0, .int .i64 0] 86)).heap.size = (((w.alloc (.cells #[.int .i64 0, .int .i64 0, .int .i64 0, .int .i64 0, .complex .f64 0 0, .string ⟨#[]⟩, .slice none 0 0] 57)).alloc (.cells #[.int .i64 0, .int .i64 0, .int .i64 0, .int .i64 0, .complex .f64 0 0, .string ⟨#[]⟩, .slice none 0 0] 57)).setRow (w.heap.size + 1) #[.int .i64 p, .int .i64 op, .int .i64 0, .int .i64 0, .complex .f64 0 0, .string ⟨#[]⟩, .slice none 0 0]).heap.size + 1 := by simp
    rw [this, hz3]
  have hM : MR w ((((w.alloc (.cells #[.int .i64 0, .int .i64 0, .int .i64 0, .int .i64 0, .complex .f64 0 0, .string ⟨#[]⟩, .slice none 0 0] 57)).alloc (.cells #[.int .i64 0, .int .i64 0, .int .i64 0, .int .i64 0, .complex .f64 0 0, .string ⟨#[]⟩, .slice none 0 0] 57)).setRow (w.heap.size + 1) #[.int .i64 p, .int .i64 op, .int .i64 0, .int .i64 0, .complex .f64 0 0, .string ⟨#[]⟩, .slice none 0 0]).alloc (.cells #[.slice (some ⟨b0, o, none⟩) l.length c, .int .i64 ((p : Int) + 1), .bool false, .int .i64 0, .int .i64 0] 86)) b0 (.slice (some ⟨b0, o, none⟩) l.length c) l (i0 p op) (p + 1) 0 (.slice none 0 0) := by
    have kk : Kept (fun k => k = w.heap.size + 1) w ((((w.alloc (.cells #[.int .i64 0, .int .i64 0, .int .i64 0, .int .i64 0, .complex .f64 0 0, .string ⟨#[]⟩, .slice none 0 0] 57)).alloc (.cells #[.int .i64 0, .int .i64 0, .int .i64 0, .int .i64 0, .complex .f64 0 0, .string ⟨#[]⟩, .slice none 0 0] 57)).setRow (w.heap.size + 1) #[.int .i64 p, .int .i64 op, .int .i64 0, .int .i64 0, .complex .f64 0 0, .string ⟨#[]⟩, .slice none 0 0]).alloc (.cells #[.slice (some ⟨b0, o, none⟩) l.length c, .int .i64 ((p : Int) + 1), .bool false, .int .i64 0, .int .i64 0] 86)) := ((k1.trans k2 (fun _ _ h => h) (fun _ _ h => h)).trans k3 (fun _ _ h => h.elim) (fun _ _ h => h)).trans k4 (fun _ _ h => h) (fun _ _ h => h.elim)
    refine ⟨?_, ?_, RowG.nil _ _ _ _ _, hb0, ?_, by rw [hz4]; exact Nat.le_refl _, kk.mono (fun x hx h => by omega)⟩
    · have : BxJ (((w.alloc (.cells #[.int .i64 0, .int .i64 0, .int .i64 0, .int .i64 0, .complex .f64 0 0, .string ⟨#[]⟩, .slice none 0 0] 57)).alloc (.cells #[.int .i64 0, .int .i64 0, .int .i64 0, .int .i64 0, .complex .f64 0 0, .string ⟨#[]⟩, .slice none 0 0] 57)).setRow (w.heap.size + 1) #[.int .i64 p, .int .i64 op, .int .i64 0, .int .i64 0, .complex .f64 0 0, .string ⟨#[]⟩, .slice none 0 0]) (w.heap.size + 1) (i0 p op) (.slice none 0 0) := by
        unfold BxJ
        rw [hins]
        exact setRow_heap _ (w.heap.size + 1) _ _ 57 (0, 0) hbI
      exact this.kept k4 (fun h => h)
    · have : BxJ (w.alloc (.cells #[.int .i64 0, .int .i64 0, .int .i64 0, .int .i64 0, .complex .f64 0 0, .string ⟨#[]⟩, .slice none 0 0] 57)) w.heap.size zIns (.slice none 0 0) := by
        unfold BxJ
        rw [zero_ins]
        exact heap_alloc_new w _
      exact ((this.kept k2 (fun h => h)).kept k3 (by omega)).kept k4 (fun h => h)
    · refine ⟨p + 1, false, 0, 0, ⟨86, ?_⟩, hv.keptE kk (fun h => by omega), fun h => by omega, by omega, .inl ⟨rfl, rfl, rfl⟩⟩
      have := heap_alloc_new (((w.alloc (.cells #[.int .i64 0, .int .i64 0, .int .i64 0, .int .i64 0, .complex .f64 0 0, .string ⟨#[]⟩, .slice none 0 0] 57)).alloc (.cells #[.int .i64 0, .int .i64 0, .int .i64 0, .int .i64 0, .complex .f64 0 0, .string ⟨#[]⟩, .slice none 0 0] 57)).setRow (w.heap.size + 1) #[.int .i64 p, .int .i64 op, .int .i64 0, .int .i64 0, .complex .f64 0 0, .string ⟨#[]⟩, .slice none 0 0]) (.cells #[.slice (some ⟨b0, o, none⟩) l.length c, .int .i64 ((p : Int) + 1), .bool false, .int .i64 0, .int .i64 0] 86)
      rw [hz3] at this
      exact this
  have HM := hidden hM
  have HW : Hid (((((w.alloc (.cells #[.int .i64 0, .int .i64 0, .int .i64 0, .int .i64 0, .complex .f64 0 0, .string ⟨#[]⟩, .slice none 0 0] 57)).alloc (.cells #[.int .i64 0, .int .i64 0, .int .i64 0, .int .i64 0, .complex .f64 0 0, .string ⟨#[]⟩, .slice none 0 0] 57)).setRow (w.heap.size + 1) #[.int .i64 p, .int .i64 op, .int .i64 0, .int .i64 0, .complex .f64 0 0, .string ⟨#[]⟩, .slice none 0 0]).alloc (.cells #[.slice (some ⟨b0, o, none⟩) l.length c, .int .i64 ((p : Int) + 1), .bool false, .int .i64 0, .int .i64 0] 86)) = ((((w.alloc (.cells #[.int .i64 0, .int .i64 0, .int .i64 0, .int .i64 0, .complex .f64 0 0, .string ⟨#[]⟩, .slice none 0 0] 57)).alloc (.cells #[.int .i64 0, .int .i64 0, .int .i64 0, .int .i64 0, .complex .f64 0 0, .string ⟨#[]⟩, .slice none 0 0] 57)).setRow (w.heap.size + 1) #[.int .i64 p, .int .i64 op, .int .i64 0, .int .i64 0, .complex .f64 0 0, .string ⟨#[]⟩, .slice none 0 0]).alloc (.cells #[.slice (some ⟨b0, o, none⟩) l.length c, .int .i64 ((p : Int) + 1), .bool false, .int .i64 0, .int .i64 0] 86))) := rfl
  clear hM k1 k2 k3 k4 hins hz1 hz2
  by_cases hop : isOp (op : Nat) = true
  · have hR := hri hop
    have hop1 : 1 ≤ (op : Int) ∧ (op : Int) ≤ 15 := of_decide_eq_true hop
    have ho1 := hop1.1
    have ho2 := hop1.2
    have hak := rasks (op : Nat)
    have HR := hidden hR
    clear hrn hri hR hop1 hop
    have hop2 := HM.out.hB.cells.2.1
    simp only [i0] at hop2
    go_enter Try.func26, Try.ntmps26
    go_wp2_with (refine wpList_store_row rfl 57 (.tmp 9) (.tmp 37) rfl (w.heap.size + 1) #[.int .i64 p, .int .i64 op, .int .i64 0, .int .i64 0, .complex .f64 0 0, .string ⟨#[]⟩, .slice none 0 0] rfl rfl 57 #[.int .i64 0, .int .i64 0, .int .i64 0, .int .i64 0, .complex .f64 0 0, .string ⟨#[]⟩, .slice none 0 0] hbI sizeJns rfl (by kernel_rfl) ?_)
    have hM := HM.out
    generalize ((((w.alloc (.cells #[.int .i64 0, .int .i64 0, .int .i64 0, .int .i64 0, .complex .f64 0 0, .string ⟨#[]⟩, .slice none 0 0] 57)).alloc (.cells #[.int .i64 0, .int .i64 0, .int .i64 0, .int .i64 0, .complex .f64 0 0, .string ⟨#[]⟩, .slice none 0 0] 57)).setRow (w.heap.size + 1) #[.int .i64 p, .int .i64 op, .int .i64 0, .int .i64 0, .complex .f64 0 0, .string ⟨#[]⟩, .slice none 0 0]).alloc (.cells #[.slice (some ⟨b0, o, none⟩) l.length c, .int .i64 ((p : Int) + 1), .bool false, .int .i64 0, .int .i64 0] 86)) = W at *
    refine (hak W).mono ?_
    rintro e w1 ⟨rfl, rfl⟩
    clear HM HW hak hbI hz3 hz4 hcell hv
    have HO := hidden hO
    clear hO
    go_upto_if 60 with fail
    have hi1 : ¬ ((op : Nat) : Int) = 1 → ((op : Int) == 1) = false := fun h => by simpa using h
    clear hi1
    go_cut [] (fun wx => MR w wx b0 (.slice (some ⟨b0, o, none⟩) l.length c) l (sN l op (i0 p op, p + 1, 0)).1 (sN l op (i0 p op, p + 1, 0)).2.1 (sN l op (i0 p op, p + 1, 0)).2.2 (.slice none 0 0))
    case first =>
      as_aux_lemma =>
        by_cases h1 : op = 1
        · subst h1
          have hs1 := qsigned (w.heap.size + 2) b0 (.slice (some ⟨b0, o, none⟩) l.length c) l (p + 1) 0 w1 HO.out.hl HO.out.h256 (by omega) hM.hq HO.out.hcap
          have hp1 := rNum_le l (p + 1) 0 18446744073709551615 (by omega)
          have HS : Hid (sN l ((1 : Nat) : Int) (i0 p ((1 : Nat) : Int), p + 1, 0) = ({ i0 p 1 with x := (rN l (p + 1) 0).1.1, y := (rN l (p + 1) 0).1.2 }, (rN l (p + 1) 0).2)) := rfl
          unfold rN at HS
          generalize rNum l (p + 1) 0 18446744073709551615 = R at *
          obtain ⟨n1, p2, y2⟩ := R
          simp only at hs1 hp1 HS
          have hs2 := fun u hu => qsigned (w.heap.size + 2) b0 (.slice (some ⟨b0, o, none⟩) l.length c) l p2 y2 u HO.out.hl HO.out.h256 hp1 hu HO.out.hcap
          generalize rNum l p2 y2 18446744073709551615 = R at *
          obtain ⟨n2, p3, y3⟩ := R
          simp only at hs2 HS
          unfold QSigE at hs1 hs2
          generalize zag n1 = a1 at *
          generalize zag n2 = a2 at *
          have HS2 := hidden hs2
          clear hs2
          go_wp2_with fail
          refine hs1.mono ?_
          rintro e w2 ⟨rfl, q2, k2⟩
          have M2 := hM.call q2 k2
          clear hs1 hop2
          go_wp2_with fail
          refine (HS2.out w2 q2).mono ?_
          rintro e w3 ⟨rfl, q3, k3⟩
          have M3 := M2.call q3 k3
          have hrf := q3.refused
          obtain ⟨c0, c1, c2, c3, c4, c5, c6⟩ := M3.hB.cells
          have f4 := M3.hB.frozen 4
          have M4 := M3.set 4 (.complex .f64 (floatOfInt .f64 a1) (floatOfInt .f64 a2)) { i0 p 1 with x := a1, y := a2 } rfl rfl
          have hof := rOf a1 a2 w3
          simp only [i0] at c4
          generalize floatOfInt .f64 0 = fz at c4
          clear HS2 M2 q2 k2 hM c0 c1 c2 c3 c5 c6
          generalize floatOfInt .f64 a1 = fa at *
          generalize floatOfInt .f64 a2 = fb at *
          by_cases hy : y3 = 0
          · subst hy
            rw [show (decide ((0 : Nat) ≠ 0)) = false from rfl] at hrf
            by_cases hr : rgtI a1 a2 = true
            · obtain ⟨g1, g2, g3, g4⟩ := rgt_yes hr
              have HX : Hid (fU 0 (rgtI a1 a2) = 0) := by unfold Hid; rw [hr]; rfl
              clear hr
              go_wp2_with fail
              refine hof.mono ?_
              rintro e w4 ⟨rfl, rfl⟩
              go_wp2_with (refine wpList_store_cell rfl 31 (.tmp 90) (.tmp 89) rfl (w.heap.size + 1) 4 rfl (.complex .f64 fa fb) (.complex .f64 fz fz) rfl rfl c4 f4 sizeCx ?_)
              go_wp2
              go_meet
              rw [HS.out, HX.out]
              exact M4
            · have HX : Hid (fU 0 (rgtI a1 a2) = 12) := by unfold Hid; rw [Bool.not_eq_true] at hr; rw [hr]; rfl
              have hRy : (rdI l p).2.2 = 12 := by
                rw [HR.out]
                refine (stk_GT l _ _ ?_).trans ?_
                · rw [HS.out, HX.out]; show (12 : Nat) ≠ 0; decide
                · rw [HS.out]; exact HX.out
              have HRY := hidden hRy
              clear hRy
              rcases rgt_not hr with g1 | ⟨g1, g2⟩ | ⟨g1, g2, g3⟩ | ⟨g1, g2, g3, g4⟩
              all_goals clear hr
              · have hA := M3.hA
                unfold BxJ at hA
                rw [zero_ins] at hA
                go_wp2_with (refine wpList_store_row rfl 57 (.tmp 6) (.tmp 86) rfl w.heap.size #[.int .i64 0, .int .i64 0, .int .i64 0, .int .i64 0, .complex .f64 0 0, .string ⟨#[]⟩, .slice none 0 0] rfl rfl 57 #[.int .i64 0, .int .i64 0, .int .i64 0, .int .i64 0, .complex .f64 0 0, .string ⟨#[]⟩, .slice none 0 0] hA sizeJns rfl (by kernel_rfl) ?_)
                (try simp only [Exit.inBlock, Exit.then])
                refine bodyPost_ret (res8 rfl _ _ w.heap.size 57 #[.int .i64 0, .int .i64 0, .int .i64 0, .int .i64 0, .complex .f64 0 0, .string ⟨#[]⟩, .slice none 0 0] (0, 0) _ rfl (setRow_heap _ w.heap.size _ _ 57 (0, 0) hA) Try.underlying57 rfl sizeJns) rfl ?_
                exact one_bad M3 12 (by rw [HRY.out]; decide) (by rw [HRY.out]; rfl) _ zero_ins.symm
              · have hA := M3.hA
                unfold BxJ at hA
                rw [zero_ins] at hA
                go_wp2_with (refine wpList_store_row rfl 57 (.tmp 6) (.tmp 86) rfl w.heap.size #[.int .i64 0, .int .i64 0, .int .i64 0, .int .i64 0, .complex .f64 0 0, .string ⟨#[]⟩, .slice none 0 0] rfl rfl 57 #[.int .i64 0, .int .i64 0, .int .i64 0, .int .i64 0, .complex .f64 0 0, .string ⟨#[]⟩, .slice none 0 0] hA sizeJns rfl (by kernel_rfl) ?_)
                (try simp only [Exit.inBlock, Exit.then])
                refine bodyPost_ret (res8 rfl _ _ w.heap.size 57 #[.int .i64 0, .int .i64 0, .int .i64 0, .int .i64 0, .complex .f64 0 0, .string ⟨#[]⟩, .slice none 0 0] (0, 0) _ rfl (setRow_heap _ w.heap.size _ _ 57 (0, 0) hA) Try.underlying57 rfl sizeJns) rfl ?_
                exact one_bad M3 12 (by rw [HRY.out]; decide) (by rw [HRY.out]; rfl) _ zero_ins.symm
              · have hA := M3.hA
                unfold BxJ at hA
                rw [zero_ins] at hA
                go_wp2_with (refine wpList_store_row rfl 57 (.tmp 6) (.tmp 86) rfl w.heap.size #[.int .i64 0, .int .i64 0, .int .i64 0, .int .i64 0, .complex .f64 0 0, .string ⟨#[]⟩, .slice none 0 0] rfl rfl 57 #[.int .i64 0, .int .i64 0, .int .i64 0, .int .i64 0, .complex .f64 0 0, .string ⟨#[]⟩, .slice none 0 0] hA sizeJns rfl (by kernel_rfl) ?_)
                (try simp only [Exit.inBlock, Exit.then])
                refine bodyPost_ret (res8 rfl _ _ w.heap.size 57 #[.int .i64 0, .int .i64 0, .int .i64 0, .int .i64 0, .complex .f64 0 0, .string ⟨#[]⟩, .slice none 0 0] (0, 0) _ rfl (setRow_heap _ w.heap.size _ _ 57 (0, 0) hA) Try.underlying57 rfl sizeJns) rfl ?_
                exact one_bad M3 12 (by rw [HRY.out]; decide) (by rw [HRY.out]; rfl) _ zero_ins.symm
              · have hA := M3.hA
                unfold BxJ at hA
                rw [zero_ins] at hA
                go_wp2_with (refine wpList_store_row rfl 57 (.tmp 6) (.tmp 86) rfl w.heap.size #[.int .i64 0, .int .i64 0, .int .i64 0, .int .i64 0, .complex .f64 0 0, .string ⟨#[]⟩, .slice none 0 0] rfl rfl 57 #[.int .i64 0, .int .i64 0, .int .i64 0, .int .i64 0, .complex .f64 0 0, .string ⟨#[]⟩, .slice none 0 0] hA sizeJns rfl (by kernel_rfl) ?_)
                (try simp only [Exit.inBlock, Exit.then])
                refine bodyPost_ret (res8 rfl _ _ w.heap.size 57 #[.int .i64 0, .int .i64 0, .int .i64 0, .int .i64 0, .complex .f64 0 0, .string ⟨#[]⟩, .slice none 0 0] (0, 0) _ rfl (setRow_heap _ w.heap.size _ _ 57 (0, 0) hA) Try.underlying57 rfl sizeJns) rfl ?_
                exact one_bad M3 12 (by rw [HRY.out]; decide) (by rw [HRY.out]; rfl) _ zero_ins.symm
          · rw [decide_eq_true hy] at hrf
            have HX : Hid (fU y3 (rgtI a1 a2) = y3) := fU_stick hy _
            clear hy
            go_wp2_with fail
            refine hof.mono ?_
            rintro e w4 ⟨rfl, rfl⟩
            go_wp2_with (refine wpList_store_cell rfl 31 (.tmp 90) (.tmp 89) rfl (w.heap.size + 1) 4 rfl (.complex .f64 fa fb) (.complex .f64 fz fz) rfl rfl c4 f4 sizeCx ?_)
            go_wp2
            go_meet
            rw [HS.out, HX.out]
            exact M4
        · have h1i : ¬ ((op : Nat) : Int) = 1 := by omega
          have HS : Hid (sN l op (i0 p op, p + 1, 0) = (i0 p op, p + 1, 0)) := by unfold sN Hid; rw [if_neg h1i]
          go_wp2
          go_meet
          rw [HS.out]
          exact hM
    case rest =>
      have hP := ps_N (ps_0 l p op hp)
      have hR2 : rdI l p = sGT l op (sN l op (i0 p op, p + 1, 0)) := HR.out
      clear HR hM hop2
      generalize sN l op (i0 p op, p + 1, 0) = s at *
      have HR := hidden hR2
      clear hR2
      have hM := hcut
      clear hcut
      obtain ⟨si, sp, sy⟩ := s
      simp only at hM hP
      have hsop := hP.hop
      simp only at hsop
      have hop2 := hM.hB.cells.2.1
      rw [hsop] at hop2
      rename World => w1
      go_upto_if 93 with fail
      go_cut [] (fun wx => MR w wx b0 (.slice (some ⟨b0, o, none⟩) l.length c) l (sT l op (si, sp, sy)).1 (sT l op (si, sp, sy)).2.1 (sT l op (si, sp, sy)).2.2 (.slice none 0 0))
      case first =>
        as_aux_lemma =>
          by_cases h2 : op = 2
          · subst h2
            have hs := qtext 200 (w.heap.size + 2) b0 (.slice (some ⟨b0, o, none⟩) l.length c) l sp sy w1 (by decide) (by decide) HO.out.hl HO.out.h256 hP.hp hM.hq HO.out.hcap _ (show Hid (rNum l sp sy 200 = rNum l sp sy (200 : Int).toNat) from rfl)
            have HS : Hid (sT l ((2 : Nat) : Int) (si, sp, sy) = ({ si with tx := (rT l sp sy).1 }, (rT l sp sy).2)) := rfl
            have hs' : Calls Try.prog 51 #[.pointer (some ⟨w.heap.size + 2, 0, none⟩), .int .i64 200] w1 (QTextE w1 (w.heap.size + 2) b0 (.slice (some ⟨b0, o, none⟩) l.length c) l (rT l sp sy)) := hs
            clear hs
            generalize rT l sp sy = R at *
            obtain ⟨tx, p2, y2⟩ := R
            unfold QTextE at hs'
            simp only at hs' HS
            go_wp2_with fail
            refine hs'.mono ?_
            rintro e w2 ⟨rfl, q2, k2⟩
            have M2 := hM.call q2 k2
            obtain ⟨c0, c1, c2, c3, c4, c5, c6⟩ := M2.hB.cells
            have f5 := M2.hB.frozen 5
            have M3 := M2.set 5 (.string (toStr tx)) { si with tx := tx } rfl rfl
            clear c0 c1 c2 c3 c4 c6 hs' hop2 hM
            go_wp2
            go_meet
            rw [HS.out]
            exact M3
          · have h2i : ¬ ((op : Nat) : Int) = 2 := by omega
            have HS : Hid (sT l op (si, sp, sy) = (si, sp, sy)) := by unfold sT Hid; rw [if_neg h2i]
            go_wp2
            go_meet
            rw [HS.out]
            exact hM
      case rest =>
        have hP2 := ps_T hP
        clear hP hsop
        have hP := hP2
        clear hP2
        have hR2 : rdI l p = sGA l op (sT l op (si, sp, sy)) := HR.out
        clear HR hM hop2
        generalize sT l op (si, sp, sy) = s at *
        have HR := hidden hR2
        clear hR2
        have hM := hcut
        clear hcut
        obtain ⟨si, sp, sy⟩ := s
        simp only at hM hP
        have hsop := hP.hop
        simp only at hsop
        have hop2 := hM.hB.cells.2.1
        rw [hsop] at hop2
        rename World => w1
        obtain ⟨ab, hab⟩ : ∃ ab, asksA (op : Nat) = ab := ⟨_, rfl⟩
        rw [hab]
        have HAB := hidden hab
        clear hab
        go_upto_if 97 with fail
        go_cut [] (fun wx => MR w wx b0 (.slice (some ⟨b0, o, none⟩) l.length c) l (sA l op (si, sp, sy)).1 (sA l op (si, sp, sy)).2.1 (sA l op (si, sp, sy)).2.2 (.slice none 0 0))
        case first =>
          as_aux_lemma =>
            cases ab
            · have HS : Hid (sA l op (si, sp, sy) = (si, sp, sy)) := by unfold sA Hid; rw [if_neg (by rw [HAB.out]; decide)]
              clear HAB
              go_wp2
              go_meet
              rw [HS.out]
              exact hM
            · have ha := HAB.out
              clear HAB
              have hs := rone (w.heap.size + 2) b0 (.slice (some ⟨b0, o, none⟩) l.length c) l sp sy w1 HO.out hP.hp hM.hq
              have HS : Hid (sA l op (si, sp, sy) = ({ si with a := ((rB l sp sy).1 : Nat) }, (rB l sp sy).2)) := by unfold sA Hid; rw [if_pos ha]
              generalize rB l sp sy = R at *
              obtain ⟨q, p2, y2⟩ := R
              unfold QQ at hs
              simp only at hs HS
              clear ha
              go_wp2_with fail
              refine hs.mono ?_
              rintro e w2 ⟨rfl, q2, k2⟩
              have M2 := hM.call q2 k2
              obtain ⟨c0, c1, c2, c3, c4, c5, c6⟩ := M2.hB.cells
              have f2 := M2.hB.frozen 2
              have M3 := M2.set 2 (.int .i64 q) { si with a := (q : Nat) } rfl rfl
              clear c0 c1 c3 c4 c5 c6 hs hop2 hM
              go_wp2
              go_meet
              rw [HS.out]
              exact M3
        case rest =>
          have hP2 := ps_A HO.out.h256 hP
          clear hP hsop
          have hP := hP2
          clear hP2
          have hR2 : rdI l p = sGB l op (sA l op (si, sp, sy)) := HR.out
          clear HR hM hop2
          generalize sA l op (si, sp, sy) = s at *
          have HR := hidden hR2
          clear hR2
          have hM := hcut
          clear hcut
          obtain ⟨si, sp, sy⟩ := s
          simp only at hM hP
          have hsop := hP.hop
          simp only at hsop
          have hop2 := hM.hB.cells.2.1
          rw [hsop] at hop2
          rename World => w1
          go_upto_if 101 with fail
          go_cut [] (fun wx => MR w wx b0 (.slice (some ⟨b0, o, none⟩) l.length c) l (sB l op (si, sp, sy)).1 (sB l op (si, sp, sy)).2.1 (sB l op (si, sp, sy)).2.2 (.slice none 0 0))
          case first =>
            as_aux_lemma =>
              by_cases h8 : op = 8
              · subst h8
                have hs := rone (w.heap.size + 2) b0 (.slice (some ⟨b0, o, none⟩) l.length c) l sp sy w1 HO.out hP.hp hM.hq
                have HS : Hid (sB l ((8 : Nat) : Int) (si, sp, sy) = ({ si with b := ((rB l sp sy).1 : Nat) }, (rB l sp sy).2)) := rfl
                generalize rB l sp sy = R at *
                obtain ⟨q, p2, y2⟩ := R
                unfold QQ at hs
                simp only at hs HS
                go_wp2_with fail
                refine hs.mono ?_
                rintro e w2 ⟨rfl, q2, k2⟩
                have M2 := hM.call q2 k2
                obtain ⟨c0, c1, c2, c3, c4, c5, c6⟩ := M2.hB.cells
                have f3 := M2.hB.frozen 3
                have M3 := M2.set 3 (.int .i64 q) { si with b := (q : Nat) } rfl rfl
                clear c0 c1 c2 c4 c5 c6 hs hop2 hM
                go_wp2
                go_meet
                rw [HS.out]
                exact M3
              · have h8i : ¬ ((op : Nat) : Int) = 8 := by omega
                have HS : Hid (sB l op (si, sp, sy) = (si, sp, sy)) := by unfold sB Hid; rw [if_neg h8i]
                go_wp2
                go_meet
                rw [HS.out]
                exact hM
          case rest =>
            have hP2 := ps_B hP
            clear hP hsop
            have hP := hP2
            clear hP2
            have hR2 : rdI l p = sGC l op (sB l op (si, sp, sy)) := HR.out
            clear HR hM hop2
            generalize sB l op (si, sp, sy) = s at *
            have HR := hidden hR2
            clear hR2
            have hM := hcut
            clear hcut
            obtain ⟨si, sp, sy⟩ := s
            simp only at hM hP
            have hsop := hP.hop
            simp only at hsop
            have hop2 := hM.hB.cells.2.1
            rw [hsop] at hop2
            rename World => w1
            have hc2 := hM.hB.cells.2.2.1
            have hrf := hM.hq.refused
            go_upto_region 20 with fail
            go_cut [124] (fun bv wx => bv = .bool (bdC op (si, sp, sy)) ∧ wx = w1)
            case first =>
              as_aux_lemma =>
                by_cases h10 : op = 10
                · subst h10
                  by_cases hy : sy = 0
                  · subst hy
                    rw [show (decide ((0 : Nat) ≠ 0)) = false from rfl] at hrf
                    by_cases h1 : si.a < 1
                    · have HB : Hid (bdC ((10 : Nat) : Int) (si, sp, 0) = true) := by unfold bdC rcR Hid; simp; omega
                      go_wp2
                      go_meet
                      exact ⟨by rw [HB.out], rfl⟩
                    · by_cases h6 : 6 < si.a
                      · have HB : Hid (bdC ((10 : Nat) : Int) (si, sp, 0) = true) := by unfold bdC rcR Hid; simp; omega
                        go_wp2
                        go_meet
                        exact ⟨by rw [HB.out], rfl⟩
                      · have HB : Hid (bdC ((10 : Nat) : Int) (si, sp, 0) = false) := by unfold bdC rcR Hid; simp; omega
                        go_wp2
                        go_meet
                        exact ⟨by rw [HB.out], rfl⟩
                  · rw [decide_eq_true hy] at hrf
                    have HB : Hid (bdC ((10 : Nat) : Int) (si, sp, sy) = false) := by unfold bdC Hid; simp [hy]
                    go_wp2
                    go_meet
                    exact ⟨by rw [HB.out], rfl⟩
                · have h10i : ¬ ((op : Nat) : Int) = 10 := by omega
                  have HB : Hid (bdC op (si, sp, sy) = false) := by unfold bdC Hid; simp [h10i]
                  go_wp2
                  go_meet
                  exact ⟨by rw [HB.out], rfl⟩
            case rest =>
              obtain ⟨rfl, rfl⟩ := hcut
              clear hc2 hrf
              by_cases hbd : bdC op (si, sp, sy) = true
              · have HRY : Hid ((rdI l p).2.2 = 12) := by
                  unfold Hid
                  rw [HR.out]
                  show (sGR l op (sC op (si, sp, sy))).2.2 = 12
                  have := bdC_yes hbd
                  rw [stk_GR l op _ (by rw [this]; decide), this]
                rw [hbd]
                as_aux_lemma =>
                  have hA := hM.hA
                  unfold BxJ at hA
                  rw [zero_ins] at hA
                  go_wp2_with (refine wpList_store_row rfl 57 (.tmp 6) (.tmp 125) rfl w.heap.size #[.int .i64 0, .int .i64 0, .int .i64 0, .int .i64 0, .complex .f64 0 0, .string ⟨#[]⟩, .slice none 0 0] rfl rfl 57 #[.int .i64 0, .int .i64 0, .int .i64 0, .int .i64 0, .complex .f64 0 0, .string ⟨#[]⟩, .slice none 0 0] hA sizeJns rfl (by kernel_rfl) ?_)
                  (try simp only [Exit.inBlock, Exit.then])
                  refine bodyPost_ret (res8 rfl _ _ w.heap.size 57 #[.int .i64 0, .int .i64 0, .int .i64 0, .int .i64 0, .complex .f64 0 0, .string ⟨#[]⟩, .slice none 0 0] (0, 0) _ rfl (setRow_heap _ w.heap.size _ _ 57 (0, 0) hA) Try.underlying57 rfl sizeJns) rfl ?_
                  exact one_bad hM 12 (by rw [HRY.out]; decide) (by rw [HRY.out]; rfl) _ zero_ins.symm
              · rw [Bool.not_eq_true] at hbd
                rw [hbd]
                have hR3 : rdI l p = sGR l op (si, sp, sy) := by
                  rw [HR.out]
                  show sGR l op (sC op (si, sp, sy)) = _
                  rw [bdC_no hbd]
                clear HR hbd
                have HR := hidden hR3
                clear hR3
                have htk := rtakes (op : Nat)
                unfold TkE at htk
                obtain ⟨tb, htb⟩ : ∃ tb, (takesR (op : Nat)).isSome = tb := ⟨_, rfl⟩
                rw [htb] at htk
                have HTB := hidden htb
                clear htb
                go_upto_region 23 with (refine (htk _).mono ?_; rintro e w2 ⟨rfl, rfl⟩)
                clear htk
                rename World => w1
                go_cut [141] (fun bv wx => bv = .bool (bdR l op (si, sp, sy)) ∧ MR w wx b0 (.slice (some ⟨b0, o, none⟩) l.length c) l (sR0 l op (si, sp, sy)).1 (sR0 l op (si, sp, sy)).2.1 (sR0 l op (si, sp, sy)).2.2 (.slice none 0 0))
                case first =>
                  as_aux_lemma =>
                    cases tb
                    · have HB : Hid (bdR l op (si, sp, sy) = false) := by unfold bdR Hid; rw [HTB.out]; rfl
                      have HS : Hid (sR0 l op (si, sp, sy) = (si, sp, sy)) := by unfold sR0 Hid; rw [if_neg (by rw [HTB.out]; decide)]
                      clear HTB
                      go_wp2
                      go_meet
                      exact ⟨by rw [HB.out], by rw [HS.out]; exact hM⟩
                    · have hs := rtwo (w.heap.size + 2) b0 (.slice (some ⟨b0, o, none⟩) l.length c) l sp sy w1 HO.out hP.hp hM.hq
                      have HB : Hid (bdR l op (si, sp, sy) = decide ((rP l sp sy).1 ≠ 0)) := by unfold bdR Hid; rw [HTB.out]; rfl
                      have HS : Hid (sR0 l op (si, sp, sy) = (si, (rP l sp sy).2)) := by unfold sR0 Hid; rw [if_pos HTB.out]
                      generalize rP l sp sy = R at *
                      obtain ⟨q, p2, y2⟩ := R
                      unfold QQ at hs
                      simp only at hs HS HB
                      clear HTB
                      by_cases hq0 : q = 0
                      · subst hq0
                        go_wp2_with fail
                        refine hs.mono ?_
                        rintro e w2 ⟨rfl, q2, k2⟩
                        have M2 := hM.call q2 k2
                        go_wp2
                        go_meet
                        exact ⟨by rw [HB.out]; rfl, by rw [HS.out]; exact M2⟩
                      · have hqb : ((q : Int) != 0) = true := by rw [bne_iff_ne]; omega
                        go_wp2_with fail
                        refine hs.mono ?_
                        rintro e w2 ⟨rfl, q2, k2⟩
                        have M2 := hM.call q2 k2
                        go_wp2
                        go_meet
                        exact ⟨by rw [HB.out, decide_eq_true hq0], by rw [HS.out]; exact M2⟩
                case rest =>
                  obtain ⟨rfl, hM2⟩ := hcut
                  clear hM hop2
                  by_cases hbd : bdR l op (si, sp, sy) = true
                  · have HRY : Hid ((rdI l p).2.2 = 12) := by
                      unfold Hid
                      rw [HR.out]
                      show (sG l op (sR l op (si, sp, sy))).2.2 = 12
                      have := bdR_yes hbd
                      rw [stk_G l op _ (by rw [this]; decide), this]
                    rw [hbd]
                    as_aux_lemma =>
                      have hA := hM2.hA
                      unfold BxJ at hA
                      rw [zero_ins] at hA
                      go_wp2_with (refine wpList_store_row rfl 57 (.tmp 6) (.tmp 142) rfl w.heap.size #[.int .i64 0, .int .i64 0, .int .i64 0, .int .i64 0, .complex .f64 0 0, .string ⟨#[]⟩, .slice none 0 0] rfl rfl 57 #[.int .i64 0, .int .i64 0, .int .i64 0, .int .i64 0, .complex .f64 0 0, .string ⟨#[]⟩, .slice none 0 0] hA sizeJns rfl (by kernel_rfl) ?_)
                      (try simp only [Exit.inBlock, Exit.then])
                      refine bodyPost_ret (res8 rfl _ _ w.heap.size 57 #[.int .i64 0, .int .i64 0, .int .i64 0, .int .i64 0, .complex .f64 0 0, .string ⟨#[]⟩, .slice none 0 0] (0, 0) _ rfl (setRow_heap _ w.heap.size _ _ 57 (0, 0) hA) Try.underlying57 rfl sizeJns) rfl ?_
                      exact one_bad hM2 12 (by rw [HRY.out]; decide) (by rw [HRY.out]; rfl) _ zero_ins.symm
                  · rw [Bool.not_eq_true] at hbd
                    rw [hbd]
                    have hR3 : rdI l p = sG l op (sR0 l op (si, sp, sy)) := by
                      rw [HR.out]
                      show sG l op (sR l op (si, sp, sy)) = _
                      rw [bdR_no hbd]
                    have hP2 : PS l op (sR0 l op (si, sp, sy)) := by rw [← bdR_no hbd]; exact ps_R hP
                    clear HR hbd hP hsop
                    generalize sR0 l op (si, sp, sy) = s at *
                    obtain ⟨si, sp, sy⟩ := s
                    simp only at hM2 hP2
                    have HR := hidden hR3
                    clear hR3
                    have hsop := hP2.hop
                    simp only at hsop
                    have hop2 := hM2.hB.cells.2.1
                    rw [hsop] at hop2
                    rename World => w1
                    obtain ⟨m, hm⟩ : ∃ m : Nat, waysR (op : Nat) si.a = m := ⟨(waysR (op : Nat) si.a).toNat, by have := ways_le hP2; simp only at this; omega⟩
                    have hm2 : m ≤ 255 := by have := ways_le hP2; simp only at this; omega
                    have hc2 := hM2.hB.cells.2.2.1
                    have HM3 := hidden hm
                    clear hm
                    go_upto_block 0 with fail
                    go_cut [17] (fun nv wx => nv = .int .i64 (m : Int) ∧ wx = w1)
                    case first =>
                      as_aux_lemma =>
                        by_cases h5 : op = 5
                        · subst h5
                          have HX : Hid ((m : Int) = 1) := HM3.out.symm
                          go_wp2
                          go_meet
                          exact ⟨by rw [HX.out], rfl⟩
                        · by_cases h6 : op = 6
                          · subst h6
                            have HX : Hid ((m : Int) = 1) := HM3.out.symm
                            go_wp2
                            go_meet
                            exact ⟨by rw [HX.out], rfl⟩
                          · by_cases h10 : op = 10
                            · subst h10
                              have HX : Hid (si.a = (m : Int)) := HM3.out
                              go_wp2
                              go_meet
                              exact ⟨by rw [HX.out], rfl⟩
                            · have h5i : ¬ ((op : Nat) : Int) = 5 := by omega
                              have h6i : ¬ ((op : Nat) : Int) = 6 := by omega
                              have h10i : ¬ ((op : Nat) : Int) = 10 := by omega
                              have HX : Hid ((m : Int) = 0) := by
                                unfold Hid
                                rw [← HM3.out]
                                unfold waysR
                                rw [if_neg (by omega), if_neg h10i]
                              go_wp2
                              go_meet
                              exact ⟨by rw [HX.out], rfl⟩
                    case rest =>
                      obtain ⟨rfl, rfl⟩ := hcut
                      have hR4 : rdI l p = ({ si with tos := (rW l 0 m sp sy).1.map (fun x => ((l.length - lf l sp sy : Nat) + 2 * (m : Int)) + x) }, (rW l 0 m sp sy).2) := by
                        rw [HR.out]
                        exact sG_eq hP2 HM3.out
                      have hwe := ways_end (m := m) (y := sy) hP2.hp
                      have hto := hP2.hto
                      have hp0 := hP2.hp
                      have hy0 := hP2.hy
                      simp only at hto hp0 hy0 hwe
                      have HR4 := hidden hR4
                      have HWE := hidden hwe
                      clear HR hR4 HM3 hP2 hc2 hwe
                      rename World => w1
                      go_wp2_with fail
                      go_loopg [18] m (fun gk iv wr => ∃ (k p1 y1 : Nat) (ds : List Int) (tv : Value), gk + k = m ∧ iv = .int .i64 k ∧ ds.length = k ∧ MR w wr b0 (.slice (some ⟨b0, o, none⟩) l.length c) l { si with tos := ds } p1 y1 tv ∧ p1 ≤ l.length ∧ Yw y1 ∧ (∀ x ∈ ds, 0 ≤ x ∧ x < 65536) ∧ rW l 0 m sp sy = (ds ++ (rW l 0 (m - k) p1 y1).1, (rW l 0 (m - k) p1 y1).2))
                      case atStart => exact ⟨0, sp, sy, [], .slice none 0 0, rfl, rfl, rfl, by rw [← hto]; exact hM2, hp0, hy0, by simp, by simp⟩
                      case round =>
                        obtain ⟨k, p1, y1, ds, tv, hgk, rfl, hdk, hM, hp1, hy1, hds, hW⟩ := hrel
                        have HDS := hidden hds
                        clear hds
                        clear hM2 hop2
                        have hrf := hM.hq.refused
                        have hop2 := hM.hB.cells.2.1
                        simp only [hsop] at hop2
                        by_cases hy : y1 = 0
                        · subst hy
                          rw [show (decide ((0 : Nat) ≠ 0)) = false from rfl] at hrf
                          by_cases hk : k < m
                          · as_aux_lemma =>
                              have hs : ∀ u, Kept (fun _ => False) wr u → Calls Try.prog 53 #[.pointer (some ⟨w.heap.size + 2, 0, none⟩)] u (QQ l (w.heap.size + 2) b0 (.slice (some ⟨b0, o, none⟩) l.length c) (.int .i64 ((rP l p1 0).1 : Nat)) (rP l p1 0).2.1 (rP l p1 0).2.2 u) := fun u k0 => rtwo (w.heap.size + 2) b0 (.slice (some ⟨b0, o, none⟩) l.length c) l p1 0 u HO.out hp1 (hM.hq.kept k0 (fun h => h) (fun h => h.elim))
                              have hs1 := rP_step l p1 0 hp1 (.inl rfl)
                              have hlt := pair_lt l p1 0 HO.out.h256
                              have HWS := way_step l 0 (m - (k + 1)) p1 0
                              rw [show m - (k + 1) + 1 = m - k by omega] at HWS
                              have HWS := hidden HWS
                              have HWW := hidden hW
                              generalize rP l p1 0 = R at *
                              obtain ⟨q, p2, y2⟩ := R
                              simp only [Int.zero_add] at hs hs1 hlt HWS
                              unfold QQ at hs
                              have HTW := hidden hs
                              have HGK := hidden hgk
                              have HDK := hidden hdk
                              have hdl : ds.length ≤ 300 := by omega
                              clear hs hW hgk hdk
                              have q0 : Kept (fun _ => False) wr wr.drew := (Kept.refl _ wr).drew
                              have M0 := hM.quiet q0
                              have d6 := M0.hB.cells.2.2.2.2.2.2
                              have hmx : Try.prog.follows .mixedOrders = true := by kernel_rfl
                              go_upto_region 35 with fail
                              refine wp_region_any hmx ?_
                              show wpAny Try.prog .any _ _ _ _ _ wr.drew
                              refine wpAny_take (i := 0) (v := .pointer (some ⟨w.heap.size + 1, 6, none⟩)) rfl (by kernel_rfl) (by kernel_rfl) (by kernel_rfl) (fun _ _ _ h => h) (.inl ⟨by rfl, fun u => by go_simp⟩) ?_
                              show wpAny Try.prog .any _ _ _ _ (Act.put _ (some 164) (.pointer (some ⟨w.heap.size + 1, 6, none⟩))) _
                              simp only [Act.put, List.setIfInBounds_toArray, List.set_cons_zero, List.set_cons_succ]
                              refine wpAny_take (i := 2) (v := .pointer (some ⟨w.heap.size + 2, 0, none⟩)) rfl (by kernel_rfl) (by kernel_rfl) (by kernel_rfl) (fun _ _ _ h => h) (.inl ⟨by rfl, fun u => by go_simp⟩) ?_
                              show wpAny Try.prog .any _ _ _ _ (Act.put _ (some 166) (.pointer (some ⟨w.heap.size + 2, 0, none⟩))) _
                              simp only [Act.put, List.setIfInBounds_toArray, List.set_cons_zero, List.set_cons_succ]
                              refine wpAny_ready (rs := [1, 3]) (by kernel_rfl) (by simp) ?_
                              refine AllReady.cons rfl (fun K hK => ?_) (AllReady.cons rfl (fun K hK => ?_) AllReady.nil)
                              · go_simp
                                refine hK _ _ ?_
                                clear hK K
                                refine wpAny_ready (rs := [3]) (by kernel_rfl) (by simp) ?_
                                refine AllReady.cons rfl (fun K hK => ?_) AllReady.nil
                                go_simp
                                refine (HTW.out wr.drew q0).mono ?_
                                rintro e u2 ⟨rfl, qq2, kk2⟩
                                have M2 := (M0).call qq2 kk2
                                have d6 := M2.hB.cells.2.2.2.2.2.2
                                have hrowA := (M2.hT.kept cInt_ok ((Kept.refl (fun _ => False) u2).alloc (.cells #[.int .i64 (q : Int)] 3)) (fun _ _ h => h))
                                have d6A := ((Kept.refl (fun _ => False) u2).alloc (.cells #[.int .i64 (q : Int)] 3)).cell d6 (fun h => h)
                                have hzA : w.heap.size + 3 ≤ (u2.alloc (.cells #[.int .i64 (q : Int)] 3)).heap.size := Nat.le_trans M2.hz (by simp)
                                refine hK _ _ ?_
                                clear hK K
                                refine wpAny_ready (rs := [4]) (by kernel_rfl) (by simp) ?_
                                refine AllReady.cons rfl (fun K hK => ?_) AllReady.nil
                                go_simp
                                refine hK _ _ ?_
                                clear hK K
                                refine wpAny_ready (rs := [5]) (by kernel_rfl) (by simp) ?_
                                refine AllReady.cons rfl (fun K hK => ?_) AllReady.nil
                                refine step_rowG cInt_ok (by rfl) (.tmp 165) (.tmp 168) 32 (by rfl) Try.underlying32 infoInt1 (by decide) _ ds (by rfl) hrowA (q : Int) [.int .i64 (q : Int)] ⟨u2.heap.size, 0, none⟩ 1 (by rfl) (cells_new u2 [.int .i64 (q : Int)] 3) rfl (by unfold maxLen; omega) (by omega) hzA ?_
                                intro g3 cap3 w3 hrow3 hg3
                                obtain ⟨M3, e6, f6⟩ := M2.push _ hrow3 hg3
                                refine hK _ _ ?_
                                clear hK K
                                refine wpAny_take (i := 6) (v := .pointer (some ⟨w.heap.size + 1, 6, none⟩)) rfl (by kernel_rfl) (by kernel_rfl) (by kernel_rfl) (fun _ _ _ h => h) (.inl ⟨by rfl, fun u => by go_simp⟩) ?_
                                refine wpAny_ready (rs := [7]) (by kernel_rfl) (by simp) ?_
                                refine AllReady.cons rfl (fun K hK => ?_) AllReady.nil
                                go_simp
                                refine hK _ _ ?_
                                clear hK K
                                refine wpAny_done (by kernel_rfl) ?_ _
                                clear hrow3 hg3 hrowA d6A hzA d6 M2 M0 e6 f6
                                go_wp2
                                go_roundg (m - (k + 1))
                                case measure => have := HGK.out; omega
                                case rel => exact ⟨k + 1, p2, y2, ds ++ [(q : Int)], _, by omega, by go_num, by rw [List.length_append, HDK.out]; rfl, M3, hs1.1, hs1.2.1, fun x hx => by rcases List.mem_append.1 hx with h | h; exact HDS.out x h; rw [List.mem_singleton.1 h]; exact ⟨by omega, by omega⟩, by rw [HWW.out, HWS.out]; simp⟩
                              · go_simp
                                refine (HTW.out wr.drew q0).mono ?_
                                rintro e u2 ⟨rfl, qq2, kk2⟩
                                have M2 := (M0).call qq2 kk2
                                have d6 := M2.hB.cells.2.2.2.2.2.2
                                have hrowA := (M2.hT.kept cInt_ok ((Kept.refl (fun _ => False) u2).alloc (.cells #[.int .i64 (q : Int)] 3)) (fun _ _ h => h))
                                have d6A := ((Kept.refl (fun _ => False) u2).alloc (.cells #[.int .i64 (q : Int)] 3)).cell d6 (fun h => h)
                                have hzA : w.heap.size + 3 ≤ (u2.alloc (.cells #[.int .i64 (q : Int)] 3)).heap.size := Nat.le_trans M2.hz (by simp)
                                refine hK _ _ ?_
                                clear hK K
                                refine wpAny_ready (rs := [1, 4]) (by kernel_rfl) (by simp) ?_
                                refine AllReady.cons rfl (fun K hK => ?_) (AllReady.cons rfl (fun K hK => ?_) AllReady.nil)
                                · go_simp
                                  refine hK _ _ ?_
                                  clear hK K
                                  refine wpAny_ready (rs := [4]) (by kernel_rfl) (by simp) ?_
                                  refine AllReady.cons rfl (fun K hK => ?_) AllReady.nil
                                  go_simp
                                  refine hK _ _ ?_
                                  clear hK K
                                  refine wpAny_ready (rs := [5]) (by kernel_rfl) (by simp) ?_
                                  refine AllReady.cons rfl (fun K hK => ?_) AllReady.nil
                                  refine step_rowG cInt_ok (by rfl) (.tmp 165) (.tmp 168) 32 (by rfl) Try.underlying32 infoInt1 (by decide) _ ds (by rfl) hrowA (q : Int) [.int .i64 (q : Int)] ⟨u2.heap.size, 0, none⟩ 1 (by rfl) (cells_new u2 [.int .i64 (q : Int)] 3) rfl (by unfold maxLen; omega) (by omega) hzA ?_
                                  intro g3 cap3 w3 hrow3 hg3
                                  obtain ⟨M3, e6, f6⟩ := M2.push _ hrow3 hg3
                                  refine hK _ _ ?_
                                  clear hK K
                                  refine wpAny_take (i := 6) (v := .pointer (some ⟨w.heap.size + 1, 6, none⟩)) rfl (by kernel_rfl) (by kernel_rfl) (by kernel_rfl) (fun _ _ _ h => h) (.inl ⟨by rfl, fun u => by go_simp⟩) ?_
                                  refine wpAny_ready (rs := [7]) (by kernel_rfl) (by simp) ?_
                                  refine AllReady.cons rfl (fun K hK => ?_) AllReady.nil
                                  go_simp
                                  refine hK _ _ ?_
                                  clear hK K
                                  refine wpAny_done (by kernel_rfl) ?_ _
                                  clear hrow3 hg3 hrowA d6A hzA d6 M2 M0 e6 f6
                                  go_wp2
                                  go_roundg (m - (k + 1))
                                  case measure => have := HGK.out; omega
                                  case rel => exact ⟨k + 1, p2, y2, ds ++ [(q : Int)], _, by omega, by go_num, by rw [List.length_append, HDK.out]; rfl, M3, hs1.1, hs1.2.1, fun x hx => by rcases List.mem_append.1 hx with h | h; exact HDS.out x h; rw [List.mem_singleton.1 h]; exact ⟨by omega, by omega⟩, by rw [HWW.out, HWS.out]; simp⟩
                                · go_simp
                                  refine hK _ _ ?_
                                  clear hK K
                                  refine wpAny_ready (rs := [1]) (by kernel_rfl) (by simp) ?_
                                  refine AllReady.cons rfl (fun K hK => ?_) AllReady.nil
                                  go_simp
                                  refine hK _ _ ?_
                                  clear hK K
                                  refine wpAny_ready (rs := [5]) (by kernel_rfl) (by simp) ?_
                                  refine AllReady.cons rfl (fun K hK => ?_) AllReady.nil
                                  refine step_rowG cInt_ok (by rfl) (.tmp 165) (.tmp 168) 32 (by rfl) Try.underlying32 infoInt1 (by decide) _ ds (by rfl) hrowA (q : Int) [.int .i64 (q : Int)] ⟨u2.heap.size, 0, none⟩ 1 (by rfl) (cells_new u2 [.int .i64 (q : Int)] 3) rfl (by unfold maxLen; omega) (by omega) hzA ?_
                                  intro g3 cap3 w3 hrow3 hg3
                                  obtain ⟨M3, e6, f6⟩ := M2.push _ hrow3 hg3
                                  refine hK _ _ ?_
                                  clear hK K
                                  refine wpAny_take (i := 6) (v := .pointer (some ⟨w.heap.size + 1, 6, none⟩)) rfl (by kernel_rfl) (by kernel_rfl) (by kernel_rfl) (fun _ _ _ h => h) (.inl ⟨by rfl, fun u => by go_simp⟩) ?_
                                  refine wpAny_ready (rs := [7]) (by kernel_rfl) (by simp) ?_
                                  refine AllReady.cons rfl (fun K hK => ?_) AllReady.nil
                                  go_simp
                                  refine hK _ _ ?_
                                  clear hK K
                                  refine wpAny_done (by kernel_rfl) ?_ _
                                  clear hrow3 hg3 hrowA d6A hzA d6 M2 M0 e6 f6
                                  go_wp2
                                  go_roundg (m - (k + 1))
                                  case measure => have := HGK.out; omega
                                  case rel => exact ⟨k + 1, p2, y2, ds ++ [(q : Int)], _, by omega, by go_num, by rw [List.length_append, HDK.out]; rfl, M3, hs1.1, hs1.2.1, fun x hx => by rcases List.mem_append.1 hx with h | h; exact HDS.out x h; rw [List.mem_singleton.1 h]; exact ⟨by omega, by omega⟩, by rw [HWW.out, HWS.out]; simp⟩
                          · as_aux_lemma =>
                              obtain rfl : k = m := by omega
                              rw [Nat.sub_self] at hW
                              have hW2 : rW l 0 k sp sy = (ds, p1, 0) := by rw [hW]; show (ds ++ [], p1, 0) = _; rw [List.append_nil]
                              have hRF : rdI l p = ({ si with tos := ds.map (fun x => x + (p1 : Int)) }, p1, 0) := by
                                have hb := HWE.out (by rw [hW2])
                                rw [HR4.out]
                                rw [hb, hW2]
                                have e : (fun x : Int => ((p1 : Nat) : Int) + x) = (fun x => x + (p1 : Int)) := by funext x; exact Int.add_comm _ _
                                show (({ si with tos := ds.map (fun x => ((p1 : Nat) : Int) + x) }, p1, 0) : Tri) = _
                                rw [e]
                              have HRF := hidden hRF
                              have hen := qend (w.heap.size + 2) b0 (.slice (some ⟨b0, o, none⟩) l.length c) l p1 0 wr HO.out.hl hM.hq
                              generalize (rEnd l p1 0).1 = e1 at hen
                              generalize (rEnd l p1 0).2 = e2 at hen
                              have hki : ¬ (k : Int) < (k : Int) := by omega
                              have HDK := hidden hdk
                              clear hW hW2 hRF HR4 HWE hgk hdk hk hto hp0 hy0 hsop
                              go_wp2_with fail
                              refine hen.mono ?_
                              rintro e w2 ⟨rfl, K2⟩
                              have M2 := hM.quiet K2
                              have hrf2 := M2.hq.refused
                              rw [show (decide ((0 : Nat) ≠ 0)) = false from rfl] at hrf2
                              clear hrf hop2 hM hen
                              obtain ⟨ta, tc, rfl⟩ := M2.hT.shape
                              have hdl : ds.length ≤ 255 := by have := HDK.out; omega
                              simp only at M2
                              go_wp2_with fail
                              go_loopg [21] ds.length (fun gq iv wq => ∃ jj : Nat, gq + jj = ds.length ∧ iv = .int .i64 jj ∧ MR w wq b0 (.slice (some ⟨b0, o, none⟩) l.length c) l { si with tos := (ds.take jj).map (fun x => x + (p1 : Int)) ++ ds.drop jj } p1 0 (.slice ta ds.length tc))
                              case atStart => exact ⟨0, rfl, rfl, by simpa using M2⟩
                              case round =>
                                obtain ⟨jj, hgj, rfl, M⟩ := hrel
                                clear M2 hrf2 K2
                                have c6 := M.hB.cells.2.2.2.2.2.2
                                by_cases hj : jj < ds.length
                                · have hll2 : ((ds.take jj).map (fun x => x + (p1 : Int)) ++ ds.drop jj).length = ds.length := by simp; omega
                                  have hjl : jj < ((ds.take jj).map (fun x => x + (p1 : Int)) ++ ds.drop jj).length := by omega
                                  obtain ⟨g, cap, cc, hv, hcp, hgg, hc1, hcl⟩ := M.hT.at cInt_ok jj hjl
                                  have hd0 := hcl 0 _ (by rw [hc1]; rfl)
                                  have hx : ((ds.take jj).map (fun x => x + (p1 : Int)) ++ ds.drop jj)[jj] = ds[jj] := by
                                    have := add_at_j ds p1 jj hj
                                    rw [List.getElem?_eq_getElem hjl] at this
                                    exact Option.some.inj this
                                  rw [hx, Nat.mul_one, Nat.add_zero] at hd0
                                  rw [hll2] at hv hcp
                                  simp only [Value.slice.injEq, true_and] at hv
                                  obtain ⟨rfl, rfl⟩ := hv
                                  have hdb := HDS.out ds[jj] (List.getElem_mem hj)
                                  have MT : MR w (wr.setCell ⟨g, jj, none⟩ (.int .i64 (ds[jj] + (p1 : Int)))) b0 (.slice (some ⟨b0, o, none⟩) l.length c) l { si with tos := (ds.take (jj + 1)).map (fun x => x + (p1 : Int)) ++ ds.drop (jj + 1) } p1 0 (.slice (some ⟨g, 0, none⟩) ds.length tc) := by
                                    have M' : MR w wr b0 (.slice (some ⟨b0, o, none⟩) l.length c) l { si with tos := (ds.take jj).map (fun x => x + (p1 : Int)) ++ ds.drop jj } p1 0 (.slice (some ⟨g, 0, none⟩) ((ds.take jj).map (fun x => x + (p1 : Int)) ++ ds.drop jj).length tc) := by rw [hll2]; exact M
                                    have := M'.turn jj (ds[jj] + (p1 : Int))
                                    simp only at this
                                    rw [hll2, add_step ds p1 jj hj] at this
                                    exact this
                                  have MT2 := hidden MT
                                  have hpl := M.hq.place
                                  have hfz : wr.frozen? ⟨g, jj, none⟩ = false := by
                                    have h9 := rowI_iff.1 M.hT
                                    simp only at h9
                                    rw [hll2] at h9
                                    exact h9.frozenAt jj
                                  have HGJ := hidden hgj
                                  have hmx : Try.prog.follows .mixedOrders = true := by kernel_rfl
                                  have hji : (jj : Int) < (ds.length : Int) := by omega
                                  have hj0 : (0 : Int) ≤ (jj : Int) := by omega
                                  clear MT hx hjl hcl hc1 hgj hll2
                                  generalize ds[jj] = dv at *
                                  have hwr : IntKind.i64.wrap (dv + (p1 : Int)) = dv + (p1 : Int) := by rw [IntKind.wrap_i64]; omega
                                  go_upto_region 44 with fail
                                  refine wp_region_any hmx ?_
                                  show wpAny Try.prog .any _ _ _ _ _ wr.drew
                                  have c6d : wr.drew.cell? ⟨w.heap.size + 1, 6, none⟩ = some (.slice (some ⟨g, 0, none⟩) ds.length tc) := c6
                                  have hd0d : wr.drew.cell? ⟨g, jj, none⟩ = some (.int .i64 dv) := hd0
                                  have hpld : wr.drew.cell? ⟨w.heap.size + 2, 1, none⟩ = some (.int .i64 (p1 : Int)) := hpl
                                  have hfzd : wr.drew.frozen? ⟨g, jj, none⟩ = false := hfz
                                  have k9 := (kept_set wr g jj (.int .i64 (dv + (p1 : Int)))).drew
                                  have c6s : (wr.setCell ⟨g, jj, none⟩ (.int .i64 (dv + (p1 : Int)))).drew.cell? ⟨w.heap.size + 1, 6, none⟩ = some (.slice (some ⟨g, 0, none⟩) ds.length tc) := k9.cell c6 (by show ¬ (w.heap.size + 1 = g); omega)
                                  have hpls : (wr.setCell ⟨g, jj, none⟩ (.int .i64 (dv + (p1 : Int)))).drew.cell? ⟨w.heap.size + 2, 1, none⟩ = some (.int .i64 (p1 : Int)) := k9.cell hpl (by show ¬ (w.heap.size + 2 = g); omega)
                                  have S0 : wr.drew = wr.drew ∨ wr.drew = (wr.setCell ⟨g, jj, none⟩ (.int .i64 (dv + (p1 : Int)))).drew := .inl rfl
                                  refine wpAny_of_held (S := fun u => u = wr.drew ∨ u = (wr.setCell ⟨g, jj, none⟩ (.int .i64 (dv + (p1 : Int)))).drew) _ _ _ _ ?_
                                  refine wpAnyH_take (i := 0) (v := .pointer (some ⟨w.heap.size + 1, 6, none⟩)) rfl (by kernel_rfl) (by kernel_rfl) (by kernel_rfl) (fun _ _ _ h => h) (.inl ⟨by rfl, fun u hu => by rcases hu with rfl | rfl <;> go_simp⟩) S0 ?_
                                  show wpAnyH Try.prog .any _ _ _ _ _ (Act.put _ (some 201) (.pointer (some ⟨w.heap.size + 1, 6, none⟩))) _
                                  simp only [Act.put, List.setIfInBounds_toArray, List.set_cons_zero, List.set_cons_succ]
                                  refine wpAnyH_take (i := 1) (v := .slice (some ⟨g, 0, none⟩) ds.length tc) rfl (by kernel_rfl) (by kernel_rfl) (by kernel_rfl) (fun _ _ _ h => h) (.inl ⟨by rfl, fun u hu => by rcases hu with rfl | rfl <;> go_simp⟩) S0 ?_
                                  show wpAnyH Try.prog .any _ _ _ _ _ (Act.put _ (some 202) (.slice (some ⟨g, 0, none⟩) ds.length tc)) _
                                  simp only [Act.put, List.setIfInBounds_toArray, List.set_cons_zero, List.set_cons_succ]
                                  refine wpAnyH_take (i := 2) (v := .int .i64 (jj : Int)) rfl (by kernel_rfl) (by kernel_rfl) (by kernel_rfl) (fun _ _ _ h => h) (.inl ⟨by rfl, fun u hu => by rcases hu with rfl | rfl <;> go_simp⟩) S0 ?_
                                  show wpAnyH Try.prog .any _ _ _ _ _ (Act.put _ (some 203) (.int .i64 (jj : Int))) _
                                  simp only [Act.put, List.setIfInBounds_toArray, List.set_cons_zero, List.set_cons_succ]
                                  refine wpAnyH_take (i := 3) (v := .pointer (some ⟨w.heap.size + 1, 6, none⟩)) rfl (by kernel_rfl) (by kernel_rfl) (by kernel_rfl) (fun _ _ _ h => h) (.inl ⟨by rfl, fun u hu => by rcases hu with rfl | rfl <;> go_simp⟩) S0 ?_
                                  show wpAnyH Try.prog .any _ _ _ _ _ (Act.put _ (some 204) (.pointer (some ⟨w.heap.size + 1, 6, none⟩))) _
                                  simp only [Act.put, List.setIfInBounds_toArray, List.set_cons_zero, List.set_cons_succ]
                                  refine wpAnyH_take (i := 4) (v := .slice (some ⟨g, 0, none⟩) ds.length tc) rfl (by kernel_rfl) (by kernel_rfl) (by kernel_rfl) (fun _ _ _ h => h) (.inl ⟨by rfl, fun u hu => by rcases hu with rfl | rfl <;> go_simp⟩) S0 ?_
                                  show wpAnyH Try.prog .any _ _ _ _ _ (Act.put _ (some 205) (.slice (some ⟨g, 0, none⟩) ds.length tc)) _
                                  simp only [Act.put, List.setIfInBounds_toArray, List.set_cons_zero, List.set_cons_succ]
                                  refine wpAnyH_take (i := 5) (v := .int .i64 (jj : Int)) rfl (by kernel_rfl) (by kernel_rfl) (by kernel_rfl) (fun _ _ _ h => h) (.inl ⟨by rfl, fun u hu => by rcases hu with rfl | rfl <;> go_simp⟩) S0 ?_
                                  show wpAnyH Try.prog .any _ _ _ _ _ (Act.put _ (some 206) (.int .i64 (jj : Int))) _
                                  simp only [Act.put, List.setIfInBounds_toArray, List.set_cons_zero, List.set_cons_succ]
                                  refine wpAnyH_take (i := 6) (v := .pointer (some ⟨g, jj, none⟩)) rfl (by kernel_rfl) (by kernel_rfl) (by kernel_rfl) (fun _ _ _ h => h) (.inl ⟨by rfl, fun u hu => by rcases hu with rfl | rfl <;> go_simp⟩) S0 ?_
                                  show wpAnyH Try.prog .any _ _ _ _ _ (Act.put _ (some 207) (.pointer (some ⟨g, jj, none⟩))) _
                                  simp only [Act.put, List.setIfInBounds_toArray, List.set_cons_zero, List.set_cons_succ]
                                  refine wpAnyH_take (i := 8) (v := .pointer (some ⟨w.heap.size + 2, 0, none⟩)) rfl (by kernel_rfl) (by kernel_rfl) (by kernel_rfl) (fun _ _ _ h => h) (.inl ⟨by rfl, fun u hu => by rcases hu with rfl | rfl <;> go_simp⟩) S0 ?_
                                  show wpAnyH Try.prog .any _ _ _ _ _ (Act.put _ (some 209) (.pointer (some ⟨w.heap.size + 2, 0, none⟩))) _
                                  simp only [Act.put, List.setIfInBounds_toArray, List.set_cons_zero, List.set_cons_succ]
                                  refine wpAnyH_take (i := 9) (v := .pointer (some ⟨w.heap.size + 2, 0, none⟩)) rfl (by kernel_rfl) (by kernel_rfl) (by kernel_rfl) (fun _ _ _ h => h) (.inl ⟨by rfl, fun u hu => by rcases hu with rfl | rfl <;> go_simp⟩) S0 ?_
                                  show wpAnyH Try.prog .any _ _ _ _ _ (Act.put _ (some 210) (.pointer (some ⟨w.heap.size + 2, 0, none⟩))) _
                                  simp only [Act.put, List.setIfInBounds_toArray, List.set_cons_zero, List.set_cons_succ]
                                  refine wpAnyH_take (i := 10) (v := .pointer (some ⟨w.heap.size + 2, 1, none⟩)) rfl (by kernel_rfl) (by kernel_rfl) (by kernel_rfl) (fun _ _ _ h => h) (.inl ⟨by rfl, fun u hu => by rcases hu with rfl | rfl <;> go_simp⟩) S0 ?_
                                  show wpAnyH Try.prog .any _ _ _ _ _ (Act.put _ (some 211) (.pointer (some ⟨w.heap.size + 2, 1, none⟩))) _
                                  simp only [Act.put, List.setIfInBounds_toArray, List.set_cons_zero, List.set_cons_succ]
                                  refine wpAnyH_take (i := 11) (v := .int .i64 (p1 : Int)) rfl (by kernel_rfl) (by kernel_rfl) (by kernel_rfl) (fun _ _ _ h => h) (.inl ⟨by rfl, fun u hu => by rcases hu with rfl | rfl <;> go_simp⟩) S0 ?_
                                  show wpAnyH Try.prog .any _ _ _ _ _ (Act.put _ (some 212) (.int .i64 (p1 : Int))) _
                                  simp only [Act.put, List.setIfInBounds_toArray, List.set_cons_zero, List.set_cons_succ]
                                  refine wpAnyH_ready (rs := [7]) (by kernel_rfl) (by simp) ?_
                                  refine AllReadyH.cons rfl (fun K hK => ?_) AllReadyH.nil
                                  go_simp
                                  refine hK.out _ _ S0 (fun _ => ?_)
                                  clear hK K
                                  refine wpAnyH_take (i := 12) (v := .int .i64 (dv + (p1 : Int))) rfl (by kernel_rfl) (by kernel_rfl) (by kernel_rfl) (fun _ _ _ h => h) (.inl ⟨by rfl, fun u hu => by rcases hu with rfl | rfl <;> go_simp⟩) S0 ?_
                                  show wpAnyH Try.prog .any _ _ _ _ _ (Act.put _ (some 213) (.int .i64 (dv + (p1 : Int)))) _
                                  simp only [Act.put, List.setIfInBounds_toArray, List.set_cons_zero, List.set_cons_succ]
                                  refine wpAnyH_take (i := 13) (v := .pointer (some ⟨g, jj, none⟩)) rfl (by kernel_rfl) (by kernel_rfl) (by kernel_rfl) (fun _ _ _ h => h) (.inl ⟨by rfl, fun u hu => by rcases hu with rfl | rfl <;> go_simp⟩) S0 ?_
                                  show wpAnyH Try.prog .any _ _ _ _ _ (Act.put _ (some 214) (.pointer (some ⟨g, jj, none⟩))) _
                                  simp only [Act.put, List.setIfInBounds_toArray, List.set_cons_zero, List.set_cons_succ]
                                  refine wpAnyH_ready (rs := [14]) (by kernel_rfl) (by simp) ?_
                                  refine AllReadyH.cons rfl (fun K hK => ?_) AllReadyH.nil
                                  go_simp
                                  refine hK.out _ _ (.inr rfl) (fun _ => ?_)
                                  clear hK K
                                  refine wpAnyH_done (by kernel_rfl) ?_ _
                                  clear c6d hd0d hpld hfzd c6s hpls S0 k9 c6 hd0 hpl hfz hwr M
                                  go_wp2
                                  go_roundg (ds.length - (jj + 1))
                                  case measure => have := HGJ.out; omega
                                  case rel => exact ⟨jj + 1, by omega, by go_num, MT2.out.quiet ((Kept.refl _ _).drew)⟩
                                · have hjj : jj = ds.length := by omega
                                  subst hjj
                                  rw [List.take_length, List.drop_length, List.append_nil] at M
                                  have hji : ¬ (ds.length : Int) < (ds.length : Int) := by omega
                                  obtain ⟨b0', b1', b2', b3', b4', b5', b6'⟩ := M.hB.cells
                                  have hpl := M.hq.place
                                  have hmx : Try.prog.follows .mixedOrders = true := by kernel_rfl
                                  clear hgj
                                  go_upto_region 45 with fail
                                  have kd : Kept (fun _ => False) wr wr.drew := (Kept.refl _ wr).drew
                                  have Md := M.quiet kd
                                  have hrow := Md.hT.iwR
                                  have h1c := insC_one (i := { si with tos := ds.map (fun x => x + (p1 : Int)) }) hrow
                                  have kR := kept_setRow wr.drew w.heap.size (insC { si with tos := ds.map (fun x => x + (p1 : Int)) } (.slice ta ds.length tc))
                                  have hcellS : ∀ u, (u = wr.drew ∨ u = wr.drew.setRow w.heap.size (insC { si with tos := ds.map (fun x => x + (p1 : Int)) } (.slice ta ds.length tc))) → (u.cell? ⟨w.heap.size + 1, 0, none⟩ = some (.int .i64 si.pl) ∧ u.cell? ⟨w.heap.size + 1, 1, none⟩ = some (.int .i64 si.op) ∧ u.cell? ⟨w.heap.size + 1, 2, none⟩ = some (.int .i64 si.a) ∧ u.cell? ⟨w.heap.size + 1, 3, none⟩ = some (.int .i64 si.b) ∧ u.cell? ⟨w.heap.size + 1, 4, none⟩ = some (.complex .f64 (floatOfInt .f64 si.x) (floatOfInt .f64 si.y)) ∧ u.cell? ⟨w.heap.size + 1, 5, none⟩ = some (.string (toStr si.tx)) ∧ u.cell? ⟨w.heap.size + 1, 6, none⟩ = some (.slice ta ds.length tc)) ∧ u.cell? ⟨w.heap.size + 2, 1, none⟩ = some (.int .i64 (p1 : Int)) := fun u hu => by
                                    rcases hu with rfl | rfl
                                    · exact ⟨Md.hB.cells, Md.hq.place⟩
                                    · exact ⟨(Md.hB.kept kR (by omega)).cells, kR.cell Md.hq.place (by show ¬ (w.heap.size + 2 = w.heap.size); omega)⟩
                                  have HCS := hidden hcellS
                                  have S0 : wr.drew = wr.drew ∨ wr.drew = wr.drew.setRow w.heap.size (insC { si with tos := ds.map (fun x => x + (p1 : Int)) } (.slice ta ds.length tc)) := .inl rfl
                                  clear hcellS b0' b1' b2' b3' b4' b5' b6' c6 hpl
                                  refine wp_region_any hmx ?_
                                  show wpAny Try.prog .any _ _ _ _ _ wr.drew
                                  refine wpAny_of_held (S := fun u => u = wr.drew ∨ u = wr.drew.setRow w.heap.size (insC { si with tos := ds.map (fun x => x + (p1 : Int)) } (.slice ta ds.length tc))) _ _ _ _ ?_
                                  refine wpAnyH_take (i := 0) (v := .agg #[.int .i64 si.pl, .int .i64 si.op, .int .i64 si.a, .int .i64 si.b, .complex .f64 (floatOfInt .f64 si.x) (floatOfInt .f64 si.y), .string (toStr si.tx), .slice ta ds.length tc]) rfl (by kernel_rfl) (by kernel_rfl) (by kernel_rfl) (fun _ _ _ h => h) (.inl ⟨by rfl, fun u hu => by obtain ⟨⟨z0, z1, z2, z3, z4, z5, z6⟩, z7⟩ := HCS.out u hu; go_simp⟩) S0 ?_
                                  show wpAnyH Try.prog .any _ _ _ _ _ (Act.put _ (some 215) (.agg #[.int .i64 si.pl, .int .i64 si.op, .int .i64 si.a, .int .i64 si.b, .complex .f64 (floatOfInt .f64 si.x) (floatOfInt .f64 si.y), .string (toStr si.tx), .slice ta ds.length tc])) _
                                  simp only [Act.put, List.setIfInBounds_toArray, List.set_cons_zero, List.set_cons_succ]
                                  refine wpAnyH_take (i := 1) (v := .pointer (some ⟨w.heap.size + 2, 0, none⟩)) rfl (by kernel_rfl) (by kernel_rfl) (by kernel_rfl) (fun _ _ _ h => h) (.inl ⟨by rfl, fun u hu => by go_simp⟩) S0 ?_
                                  show wpAnyH Try.prog .any _ _ _ _ _ (Act.put _ (some 216) (.pointer (some ⟨w.heap.size + 2, 0, none⟩))) _
                                  simp only [Act.put, List.setIfInBounds_toArray, List.set_cons_zero, List.set_cons_succ]
                                  refine wpAnyH_take (i := 2) (v := .pointer (some ⟨w.heap.size + 2, 0, none⟩)) rfl (by kernel_rfl) (by kernel_rfl) (by kernel_rfl) (fun _ _ _ h => h) (.inl ⟨by rfl, fun u hu => by go_simp⟩) S0 ?_
                                  show wpAnyH Try.prog .any _ _ _ _ _ (Act.put _ (some 217) (.pointer (some ⟨w.heap.size + 2, 0, none⟩))) _
                                  simp only [Act.put, List.setIfInBounds_toArray, List.set_cons_zero, List.set_cons_succ]
                                  refine wpAnyH_take (i := 3) (v := .pointer (some ⟨w.heap.size + 2, 1, none⟩)) rfl (by kernel_rfl) (by kernel_rfl) (by kernel_rfl) (fun _ _ _ h => h) (.inl ⟨by rfl, fun u hu => by go_simp⟩) S0 ?_
                                  show wpAnyH Try.prog .any _ _ _ _ _ (Act.put _ (some 218) (.pointer (some ⟨w.heap.size + 2, 1, none⟩))) _
                                  simp only [Act.put, List.setIfInBounds_toArray, List.set_cons_zero, List.set_cons_succ]
                                  refine wpAnyH_take (i := 4) (v := .int .i64 (p1 : Int)) rfl (by kernel_rfl) (by kernel_rfl) (by kernel_rfl) (fun _ _ _ h => h) (.inl ⟨by rfl, fun u hu => by obtain ⟨⟨z0, z1, z2, z3, z4, z5, z6⟩, z7⟩ := HCS.out u hu; go_simp⟩) S0 ?_
                                  show wpAnyH Try.prog .any _ _ _ _ _ (Act.put _ (some 219) (.int .i64 (p1 : Int))) _
                                  simp only [Act.put, List.setIfInBounds_toArray, List.set_cons_zero, List.set_cons_succ]
                                  refine wpAnyH_ready (rs := [5]) (by kernel_rfl) (by simp) ?_
                                  refine AllReadyH.cons rfl (fun K hK => ?_) AllReadyH.nil
                                  rw [if_pos (by rfl)]
                                  refine wp_store_row 57 (.tmp 6) (.tmp 215) rfl w.heap.size (insC { si with tos := ds.map (fun x => x + (p1 : Int)) } (.slice ta ds.length tc)) rfl rfl 57 _ Md.hA sizeJns rfl h1c ?_
                                  refine hK.out _ _ (.inr rfl) (fun _ => ?_)
                                  clear hK K
                                  show wpAnyH Try.prog .any _ _ _ _ _ (Act.put _ none undef) _
                                  simp only [Act.put]
                                  refine wpAnyH_take (i := 6) (v := .int .i64 (p1 : Int)) rfl (by kernel_rfl) (by kernel_rfl) (by kernel_rfl) (fun _ _ _ h => h) (.inl ⟨by rfl, fun u hu => by go_simp⟩) (.inr rfl) ?_
                                  show wpAnyH Try.prog .any _ _ _ _ _ (Act.put _ (some 7) (.int .i64 (p1 : Int))) _
                                  simp only [Act.put, List.setIfInBounds_toArray, List.set_cons_zero, List.set_cons_succ]
                                  refine wpAnyH_take (i := 7) (v := .int .i64 0) rfl (by kernel_rfl) (by kernel_rfl) (by kernel_rfl) (fun _ _ _ h => h) (.inl ⟨by rfl, fun u hu => by go_simp⟩) (.inr rfl) ?_
                                  show wpAnyH Try.prog .any _ _ _ _ _ (Act.put _ (some 8) (.int .i64 0)) _
                                  simp only [Act.put, List.setIfInBounds_toArray, List.set_cons_zero, List.set_cons_succ]
                                  refine wpAnyH_done (by kernel_rfl) ?_ _
                                  have hAR := setRow_heap wr.drew w.heap.size _ (insC { si with tos := ds.map (fun x => x + (p1 : Int)) } (.slice ta ds.length tc)) 57 (0, 0) Md.hA
                                  have hTR : IwR (fun z => w.heap.size ≤ z ∧ z < (wr.drew.setRow w.heap.size (insC { si with tos := ds.map (fun x => x + (p1 : Int)) } (.slice ta ds.length tc))).heap.size) (wr.drew.setRow w.heap.size (insC { si with tos := ds.map (fun x => x + (p1 : Int)) } (.slice ta ds.length tc))) (.slice ta ds.length tc) (ds.map (fun x => x + (p1 : Int))) := hrow.frame fun z hz => ⟨⟨by have := hz.1; omega, Nat.lt_of_lt_of_le hz.2 kR.size⟩, kR.block z hz.2 (by have := hz.1; omega)⟩
                                  have hkF := Md.hk.trans kR (fun _ _ h => h) (fun z hz h => by omega)
                                  generalize wr.drew.setRow w.heap.size (insC { si with tos := ds.map (fun x => x + (p1 : Int)) } (.slice ta ds.length tc)) = WF at *
                                  clear HCS kR hrow Md M kd
                                  go_wp2_with fail
                                  (try simp only [Exit.inBlock, Exit.then])
                                  refine bodyPost_ret (res8 rfl _ _ w.heap.size 57 _ (0, 0) _ rfl hAR Try.underlying57 rfl sizeJns) rfl ?_
                                  rw [HRF.out]
                                  exact ⟨.inl ⟨rfl, _, rfl, hTR⟩, hkF⟩
                        · rw [decide_eq_true hy] at hrf
                          have HRY : Hid ((rdI l p).2.2 = y1) := by
                            unfold Hid
                            rw [HR4.out]
                            show (rW l 0 m sp sy).2.2 = y1
                            rw [hW]
                            exact rW_stick l 0 (m - k) p1 y1 hy
                          have hen := qend (w.heap.size + 2) b0 (.slice (some ⟨b0, o, none⟩) l.length c) l p1 y1 wr HO.out.hl hM.hq
                          rw [show rEnd l p1 y1 = (y1, p1) by unfold rEnd; rw [if_pos hy]] at hen
                          clear hW hgk hdk
                          by_cases hk : k < m
                          · rcases hy1 with h | h | h | h
                            · exact absurd h hy
                            · as_aux_lemma =>
                              subst h
                              clear hy
                              go_wp2_with fail
                              refine hen.mono ?_
                              rintro e w2 ⟨rfl, K2⟩
                              have M2 := hM.quiet K2
                              have hrf2 := M2.hq.refused
                              rw [show (decide ((3 : Nat) ≠ 0)) = true from rfl] at hrf2
                              clear hrf hop2 hM
                              have hA := M2.hA
                              unfold BxJ at hA
                              rw [zero_ins] at hA
                              go_wp2_with (refine wpList_store_row rfl 57 (.tmp 6) (.tmp 188) rfl w.heap.size #[.int .i64 0, .int .i64 0, .int .i64 0, .int .i64 0, .complex .f64 0 0, .string ⟨#[]⟩, .slice none 0 0] rfl rfl 57 #[.int .i64 0, .int .i64 0, .int .i64 0, .int .i64 0, .complex .f64 0 0, .string ⟨#[]⟩, .slice none 0 0] hA sizeJns rfl (by kernel_rfl) ?_)
                              (try simp only [Exit.inBlock, Exit.then])
                              refine bodyPost_ret (res8 rfl _ _ w.heap.size 57 #[.int .i64 0, .int .i64 0, .int .i64 0, .int .i64 0, .complex .f64 0 0, .string ⟨#[]⟩, .slice none 0 0] (0, 0) _ rfl (setRow_heap _ w.heap.size _ _ 57 (0, 0) hA) Try.underlying57 rfl sizeJns) rfl ?_
                              exact one_bad M2 12 (by rw [HRY.out]; decide) (by rw [HRY.out]; rfl) _ zero_ins.symm
                            · as_aux_lemma =>
                              subst h
                              clear hy
                              go_wp2_with fail
                              refine hen.mono ?_
                              rintro e w2 ⟨rfl, K2⟩
                              have M2 := hM.quiet K2
                              have hrf2 := M2.hq.refused
                              rw [show (decide ((10 : Nat) ≠ 0)) = true from rfl] at hrf2
                              clear hrf hop2 hM
                              have hA := M2.hA
                              unfold BxJ at hA
                              rw [zero_ins] at hA
                              go_wp2_with (refine wpList_store_row rfl 57 (.tmp 6) (.tmp 193) rfl w.heap.size #[.int .i64 0, .int .i64 0, .int .i64 0, .int .i64 0, .complex .f64 0 0, .string ⟨#[]⟩, .slice none 0 0] rfl rfl 57 #[.int .i64 0, .int .i64 0, .int .i64 0, .int .i64 0, .complex .f64 0 0, .string ⟨#[]⟩, .slice none 0 0] hA sizeJns rfl (by kernel_rfl) ?_)
                              (try simp only [Exit.inBlock, Exit.then])
                              refine bodyPost_ret (res8 rfl _ _ w.heap.size 57 #[.int .i64 0, .int .i64 0, .int .i64 0, .int .i64 0, .complex .f64 0 0, .string ⟨#[]⟩, .slice none 0 0] (0, 0) _ rfl (setRow_heap _ w.heap.size _ _ 57 (0, 0) hA) Try.underlying57 rfl sizeJns) rfl ?_
                              exact one_bad M2 10 (by rw [HRY.out]; decide) (by rw [HRY.out]; rfl) _ zero_ins.symm
                            · as_aux_lemma =>
                              subst h
                              clear hy
                              go_wp2_with fail
                              refine hen.mono ?_
                              rintro e w2 ⟨rfl, K2⟩
                              have M2 := hM.quiet K2
                              have hrf2 := M2.hq.refused
                              rw [show (decide ((12 : Nat) ≠ 0)) = true from rfl] at hrf2
                              clear hrf hop2 hM
                              have hA := M2.hA
                              unfold BxJ at hA
                              rw [zero_ins] at hA
                              go_wp2_with (refine wpList_store_row rfl 57 (.tmp 6) (.tmp 188) rfl w.heap.size #[.int .i64 0, .int .i64 0, .int .i64 0, .int .i64 0, .complex .f64 0 0, .string ⟨#[]⟩, .slice none 0 0] rfl rfl 57 #[.int .i64 0, .int .i64 0, .int .i64 0, .int .i64 0, .complex .f64 0 0, .string ⟨#[]⟩, .slice none 0 0] hA sizeJns rfl (by kernel_rfl) ?_)
                              (try simp only [Exit.inBlock, Exit.then])
                              refine bodyPost_ret (res8 rfl _ _ w.heap.size 57 #[.int .i64 0, .int .i64 0, .int .i64 0, .int .i64 0, .complex .f64 0 0, .string ⟨#[]⟩, .slice none 0 0] (0, 0) _ rfl (setRow_heap _ w.heap.size _ _ 57 (0, 0) hA) Try.underlying57 rfl sizeJns) rfl ?_
                              exact one_bad M2 12 (by rw [HRY.out]; decide) (by rw [HRY.out]; rfl) _ zero_ins.symm
                          · rcases hy1 with h | h | h | h
                            · exact absurd h hy
                            · as_aux_lemma =>
                              subst h
                              clear hy
                              go_wp2_with fail
                              refine hen.mono ?_
                              rintro e w2 ⟨rfl, K2⟩
                              have M2 := hM.quiet K2
                              have hrf2 := M2.hq.refused
                              rw [show (decide ((3 : Nat) ≠ 0)) = true from rfl] at hrf2
                              clear hrf hop2 hM
                              have hA := M2.hA
                              unfold BxJ at hA
                              rw [zero_ins] at hA
                              go_wp2_with (refine wpList_store_row rfl 57 (.tmp 6) (.tmp 188) rfl w.heap.size #[.int .i64 0, .int .i64 0, .int .i64 0, .int .i64 0, .complex .f64 0 0, .string ⟨#[]⟩, .slice none 0 0] rfl rfl 57 #[.int .i64 0, .int .i64 0, .int .i64 0, .int .i64 0, .complex .f64 0 0, .string ⟨#[]⟩, .slice none 0 0] hA sizeJns rfl (by kernel_rfl) ?_)
                              (try simp only [Exit.inBlock, Exit.then])
                              refine bodyPost_ret (res8 rfl _ _ w.heap.size 57 #[.int .i64 0, .int .i64 0, .int .i64 0, .int .i64 0, .complex .f64 0 0, .string ⟨#[]⟩, .slice none 0 0] (0, 0) _ rfl (setRow_heap _ w.heap.size _ _ 57 (0, 0) hA) Try.underlying57 rfl sizeJns) rfl ?_
                              exact one_bad M2 12 (by rw [HRY.out]; decide) (by rw [HRY.out]; rfl) _ zero_ins.symm
                            · as_aux_lemma =>
                              subst h
                              clear hy
                              go_wp2_with fail
                              refine hen.mono ?_
                              rintro e w2 ⟨rfl, K2⟩
                              have M2 := hM.quiet K2
                              have hrf2 := M2.hq.refused
                              rw [show (decide ((10 : Nat) ≠ 0)) = true from rfl] at hrf2
                              clear hrf hop2 hM
                              have hA := M2.hA
                              unfold BxJ at hA
                              rw [zero_ins] at hA
                              go_wp2_with (refine wpList_store_row rfl 57 (.tmp 6) (.tmp 193) rfl w.heap.size #[.int .i64 0, .int .i64 0, .int .i64 0, .int .i64 0, .complex .f64 0 0, .string ⟨#[]⟩, .slice none 0 0] rfl rfl 57 #[.int .i64 0, .int .i64 0, .int .i64 0, .int .i64 0, .complex .f64 0 0, .string ⟨#[]⟩, .slice none 0 0] hA sizeJns rfl (by kernel_rfl) ?_)
                              (try simp only [Exit.inBlock, Exit.then])
                              refine bodyPost_ret (res8 rfl _ _ w.heap.size 57 #[.int .i64 0, .int .i64 0, .int .i64 0, .int .i64 0, .complex .f64 0 0, .string ⟨#[]⟩, .slice none 0 0] (0, 0) _ rfl (setRow_heap _ w.heap.size _ _ 57 (0, 0) hA) Try.underlying57 rfl sizeJns) rfl ?_
                              exact one_bad M2 10 (by rw [HRY.out]; decide) (by rw [HRY.out]; rfl) _ zero_ins.symm
                            · as_aux_lemma =>
                              subst h
                              clear hy
                              go_wp2_with fail
                              refine hen.mono ?_
                              rintro e w2 ⟨rfl, K2⟩
                              have M2 := hM.quiet K2
                              have hrf2 := M2.hq.refused
                              rw [show (decide ((12 : Nat) ≠ 0)) = true from rfl] at hrf2
                              clear hrf hop2 hM
                              have hA := M2.hA
                              unfold BxJ at hA
                              rw [zero_ins] at hA
                              go_wp2_with (refine wpList_store_row rfl 57 (.tmp 6) (.tmp 188) rfl w.heap.size #[.int .i64 0, .int .i64 0, .int .i64 0, .int .i64 0, .complex .f64 0 0, .string ⟨#[]⟩, .slice none 0 0] rfl rfl 57 #[.int .i64 0, .int .i64 0, .int .i64 0, .int .i64 0, .complex .f64 0 0, .string ⟨#[]⟩, .slice none 0 0] hA sizeJns rfl (by kernel_rfl) ?_)
                              (try simp only [Exit.inBlock, Exit.then])
                              refine bodyPost_ret (res8 rfl _ _ w.heap.size 57 #[.int .i64 0, .int .i64 0, .int .i64 0, .int .i64 0, .complex .f64 0 0, .string ⟨#[]⟩, .slice none 0 0] (0, 0) _ rfl (setRow_heap _ w.heap.size _ _ 57 (0, 0) hA) Try.underlying57 rfl sizeJns) rfl ?_
                              exact one_bad M2 12 (by rw [HRY.out]; decide) (by rw [HRY.out]; rfl) _ zero_ins.symm
  · rw [Bool.not_eq_true] at hop
    have HRY := hidden (hrn hop)
    have hop1 : ¬ (1 ≤ (op : Int) ∧ (op : Int) ≤ 15) := of_decide_eq_false hop
    have hop2 := HM.out.hB.cells.2.1
    simp only [i0] at hop2
    have hM := HM.out
    have hA := hM.hA
    unfold BxJ at hA
    rw [zero_ins] at hA
    clear hrn hri hop HW hz3 hz4
    rcases (by omega : (op : Int) < 1 ∨ (1 ≤ (op : Int) ∧ 15 < (op : Int))) with h1 | ⟨h1, h2⟩
    all_goals (
      clear hop1
      go_enter Try.func26, Try.ntmps26
      go_wp2_with (first | refine wpList_store_row rfl 57 (.tmp 9) (.tmp 37) rfl (w.heap.size + 1) #[.int .i64 p, .int .i64 op, .int .i64 0, .int .i64 0, .complex .f64 0 0, .string ⟨#[]⟩, .slice none 0 0] rfl rfl 57 #[.int .i64 0, .int .i64 0, .int .i64 0, .int .i64 0, .complex .f64 0 0, .string ⟨#[]⟩, .slice none 0 0] hbI sizeJns rfl (by kernel_rfl) ?_ | refine wpList_store_row rfl 57 (.tmp 6) (.tmp 51) rfl w.heap.size #[.int .i64 0, .int .i64 0, .int .i64 0, .int .i64 0, .complex .f64 0 0, .string ⟨#[]⟩, .slice none 0 0] rfl rfl 57 #[.int .i64 0, .int .i64 0, .int .i64 0, .int .i64 0, .complex .f64 0 0, .string ⟨#[]⟩, .slice none 0 0] hA sizeJns rfl (by kernel_rfl) ?_)
      (try simp only [Exit.inBlock, Exit.then])
      refine bodyPost_ret (res8 rfl _ _ w.heap.size 57 #[.int .i64 0, .int .i64 0, .int .i64 0, .int .i64 0, .complex .f64 0 0, .string ⟨#[]⟩, .slice none 0 0] (0, 0) _ rfl (setRow_heap _ w.heap.size _ _ 57 (0, 0) hA) Try.underlying57 rfl sizeJns) rfl ?_
      exact one_bad hM 12 (by rw [HRY.out]; decide) (by rw [HRY.out]; rfl) _ zero_ins.symm)
end Go.Proofs.Ytbhcmhbicbhgmaa.Wire
