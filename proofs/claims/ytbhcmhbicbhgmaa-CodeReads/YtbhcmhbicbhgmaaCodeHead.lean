/-
  writeHead at the instructions that the runs have.
-/
import Derived.Test.YtbhcmhbicbhgmaaCodeEncW
namespace Go.Proofs.Ytbhcmhbicbhgmaa.Wire
open Go.RowKit

/-- What writeHead answers of an instruction. -/
def WC (i : Ins) : Prop := ∀ (F : Nat → Prop) (tv : Value) (w : World), IwR F w tv i.tos → Calls Try.prog 23 #[.agg (insC i tv)] w fun e w' => ∃ v' g', e = .returned v' ∧ Row w' g' v' (headR i) ∧ w.heap.size ≤ g' ∧ Kept (fun _ => False) w w'

set_option maxHeartbeats 4000000 in
set_option maxRecDepth 1000000 in
theorem head_push : WC ⟨0, 1, 0, 0, 3, -1, [], []⟩ := by
  intro F tv w hT
  obtain ⟨ta, tc, rfl⟩ := hT.shape
  have HF : Hid (headR ⟨0, 1, 0, 0, 3, -1, [], []⟩ = [1, 6, 1]) := by unfold Hid; decide
  have hcx : ∀ u, (convert 80 2 (.float .f64 (floatOfInt .f64 3))).run Try.prog u = .ok (.int .i64 3) u := fun u => run_convert_float_int (P := Try.prog) u 80 2 .f64 .i64 (floatOfInt .f64 3) 3 (by kernel_rfl) Try.underlying2 (by decide)
  have hcy : ∀ u, (convert 80 2 (.float .f64 (floatOfInt .f64 (-1)))).run Try.prog u = .ok (.int .i64 (-1)) u := fun u => run_convert_float_int (P := Try.prog) u 80 2 .f64 .i64 (floatOfInt .f64 (-1)) (-1) (by kernel_rfl) Try.underlying2 (by decide)
  unfold insC
  simp only [List.length_nil]
  rw [show toStr [] = ⟨#[]⟩ from rfl]
  generalize floatOfInt .f64 3 = X at *
  generalize floatOfInt .f64 (-1) = Y at *
  have hBI : (w.alloc (.cells #[.int .i64 0, .int .i64 1, .int .i64 0, .int .i64 0, .complex .f64 X Y, .string ⟨#[]⟩, .slice ta 0 tc] 34)).heap[w.heap.size]? = some (.cells #[.int .i64 0, .int .i64 1, .int .i64 0, .int .i64 0, .complex .f64 X Y, .string ⟨#[]⟩, .slice ta 0 tc] 34 (0, 0)) := heap_alloc_new w _
  have hK1 : Kept (fun _ => False) w (w.alloc (.cells #[.int .i64 0, .int .i64 1, .int .i64 0, .int .i64 0, .complex .f64 X Y, .string ⟨#[]⟩, .slice ta 0 tc] 34)) := (Kept.refl _ w).alloc _
  have hnw := newwriter (w.alloc (.cells #[.int .i64 0, .int .i64 1, .int .i64 0, .int .i64 0, .complex .f64 X Y, .string ⟨#[]⟩, .slice ta 0 tc] 34))
  go_enter Try.func23, Try.ntmps23
  go_wp2_with fail
  have hz1 : w.heap.size < (w.alloc (.cells #[.int .i64 0, .int .i64 1, .int .i64 0, .int .i64 0, .complex .f64 X Y, .string ⟨#[]⟩, .slice ta 0 tc] 34)).heap.size := (Array.getElem?_eq_some_iff.1 hBI).1
  generalize (w.alloc (.cells #[.int .i64 0, .int .i64 1, .int .i64 0, .int .i64 0, .complex .f64 X Y, .string ⟨#[]⟩, .slice ta 0 tc] 34)) = W1 at *
  refine hnw.mono ?_
  rintro e w2 ⟨b, rfl, hw2, hb2, K2⟩
  have hb2l := hw2.lt
  have hBI2 := (K2.block _ hz1 (fun h => h)).trans hBI
  have hK2 := hK1.trans K2 (fun _ _ h => h) (fun _ _ h => h)
  have hz2 := K2.size
  have c1 : w2.cell? ⟨w.heap.size, 1, none⟩ = some (.int .i64 1) := by rw [cell_of_row _ _ _ _ _ _ hBI2]; rfl
  have K3 : Kept (fun _ => False) w2 (w2.alloc (.cells #[.int .u8 1] 5)) := (Kept.refl _ w2).alloc _
  have hrd : Rd (w2.alloc (.cells #[.int .u8 1] 5)) w2.heap.size (.slice (some ⟨w2.heap.size, 0, none⟩) 1 1) [1] := (Row.lit w2 [1] (by decide)).rd
  have hraw := wraw _ w2.heap.size [1] b b [] _ (by decide) (hw2.kept K3 (fun h => h) (fun h => h)) hrd
  clear hnw K2 hBI hK1
  go_wp2_with fail
  refine hraw.mono ?_
  rintro e w4 ⟨rfl, g4, hw4, hg4, K4⟩
  have hz3 : (w2.alloc (.cells #[.int .u8 1] 5)).heap.size = w2.heap.size + 1 := by simp
  have hz4 := K4.size
  have hBI4 := (K4.block w.heap.size (by omega) (by omega)).trans ((K3.block w.heap.size (by omega) (fun h => h)).trans hBI2)
  have hK4 := (hK2.trans K3 (fun _ _ h => h) (fun _ _ h => h)).trans K4 (fun _ _ h => h) (fun z hz h => by omega)
  have hgw : w.heap.size ≤ g4 ∧ w.heap.size ≠ g4 := by omega
  have hly := clayout 1 w4
  rw [show layS 1 = [110] from rfl, show isOp 1 = true from rfl, show toStr [110] = ⟨#[110]⟩ from rfl] at hly
  rw [List.nil_append] at hw4
  have d1 : w4.cell? ⟨w.heap.size, 1, none⟩ = some (.int .i64 1) := by rw [cell_of_row _ _ _ _ _ _ hBI4]; rfl
  have hbw : w.heap.size < b := by omega
  clear hraw hrd K3 K4 hBI2 hK2 c1 hg4 hz3 hz4 hz2 hz1 hb2 hb2l hw2
  go_wp2_with fail
  refine hly.mono ?_
  rintro e w5 ⟨rfl, rfl⟩
  clear hly d1
  go_wp2_with fail
  go_loopg [22] 1 (fun gk i wr => ∃ (k g : Nat) (bl : List Nat), gk + k = 1 ∧ i = .int .i64 k ∧ WIs wr b g bl ∧ w.heap.size < g ∧ wr.heap[w.heap.size]? = some (.cells #[.int .i64 0, .int .i64 1, .int .i64 0, .int .i64 0, .complex .f64 X Y, .string ⟨#[]⟩, .slice ta 0 tc] 34 (0, 0)) ∧ Kept (fun _ => False) w wr ∧ (k = 0 ∧ bl = [1] ∨ k = 1 ∧ bl = [1, 6, 1]))
  case atStart => exact ⟨0, g4, [1], rfl, rfl, hw4, by omega, hBI4, hK4, .inl ⟨rfl, rfl⟩⟩
  case round =>
    obtain ⟨k, g, bl, hgk, rfl, hW, hgg, hB, hK, hbl⟩ := hrel
    clear hw4 hBI4 hK4 hgw
    by_cases hk : k < 1
    · obtain rfl : k = 0 := by omega
      obtain rfl : bl = [1] := by
        rcases hbl with h | h
        · exact h.2
        · omega
      clear hbl
      have c4 : wr.cell? ⟨w.heap.size, 4, none⟩ = some (.complex .f64 X Y) := by rw [cell_of_row _ _ _ _ _ _ hB]; rfl
      have hs1 := wsigned 3 b g [1] wr (by decide) (by decide) (by decide) hW
      go_wp2_with fail
      refine hs1.mono ?_
      rintro e w6 ⟨rfl, g6, hw6, hg6, k6⟩
      have hzk := hK.size
      have hbl6 := hW.lt
      have hB6 := (k6.block w.heap.size (by have := (Array.getElem?_eq_some_iff.1 hB).1; omega) (by omega)).trans hB
      have hK6 := hK.trans k6 (fun _ _ h => h) (fun z hz h => by omega)
      have c4' : w6.cell? ⟨w.heap.size, 4, none⟩ = some (.complex .f64 X Y) := by rw [cell_of_row _ _ _ _ _ _ hB6]; rfl
      have hs2 := wsigned (-1) b g6 _ w6 (by decide) (by decide) (by decide) hw6
      clear hs1 c4
      go_wp2_with fail
      refine hs2.mono ?_
      rintro e w7 ⟨rfl, g7, hw7, hg7, k7⟩
      have hB7 := (k7.block w.heap.size (by have := (Array.getElem?_eq_some_iff.1 hB6).1; omega) (by omega)).trans hB6
      have hK7 := hK6.trans k7 (fun _ _ h => h) (fun z hz h => by omega)
      have hzz := k6.size
      clear hs2 c4' hcx hcy
      go_wp2
      go_roundg 0
      case measure => omega
      case rel => exact ⟨1, g7, [1, 6, 1], rfl, by go_num, hw7, by omega, hB7, hK7, .inr ⟨rfl, rfl⟩⟩
    · obtain rfl : bl = [1, 6, 1] := by
        rcases hbl with h | h
        · omega
        · exact h.2
      obtain rfl : k = 1 := by omega
      have hdn := wdone b g [1, 6, 1] wr (by decide) hW
      go_wp2_with fail
      refine hdn.mono ?_
      rintro e w6 ⟨v6, g6, rfl, r1, r2, r3⟩
      obtain ⟨ra, rc, rfl⟩ := r1.rd.shape
      have hzk := hK.size
      go_wp2
      go_ret
      rw [HF.out]
      exact ⟨_, g6, rfl, r1, by omega, hK.trans r3 (fun _ _ h => h) (fun _ _ h => h)⟩

set_option maxHeartbeats 4000000 in
set_option maxRecDepth 1000000 in
theorem head_ret (pl : Int) : WC ⟨pl, 15, 0, 0, 0, 0, [], []⟩ := by
  intro F tv w hT
  obtain ⟨ta, tc, rfl⟩ := hT.shape
  have HF : Hid (headR ⟨pl, 15, 0, 0, 0, 0, [], []⟩ = [15]) := rfl
  unfold insC
  simp only [List.length_nil]
  rw [show toStr [] = ⟨#[]⟩ from rfl]
  generalize floatOfInt .f64 0 = X at *
  have hBI : (w.alloc (.cells #[.int .i64 pl, .int .i64 15, .int .i64 0, .int .i64 0, .complex .f64 X X, .string ⟨#[]⟩, .slice ta 0 tc] 34)).heap[w.heap.size]? = some (.cells #[.int .i64 pl, .int .i64 15, .int .i64 0, .int .i64 0, .complex .f64 X X, .string ⟨#[]⟩, .slice ta 0 tc] 34 (0, 0)) := heap_alloc_new w _
  have hK1 : Kept (fun _ => False) w (w.alloc (.cells #[.int .i64 pl, .int .i64 15, .int .i64 0, .int .i64 0, .complex .f64 X X, .string ⟨#[]⟩, .slice ta 0 tc] 34)) := (Kept.refl _ w).alloc _
  have hnw := newwriter (w.alloc (.cells #[.int .i64 pl, .int .i64 15, .int .i64 0, .int .i64 0, .complex .f64 X X, .string ⟨#[]⟩, .slice ta 0 tc] 34))
  go_enter Try.func23, Try.ntmps23
  go_wp2_with fail
  have hz1 : w.heap.size < (w.alloc (.cells #[.int .i64 pl, .int .i64 15, .int .i64 0, .int .i64 0, .complex .f64 X X, .string ⟨#[]⟩, .slice ta 0 tc] 34)).heap.size := (Array.getElem?_eq_some_iff.1 hBI).1
  generalize (w.alloc (.cells #[.int .i64 pl, .int .i64 15, .int .i64 0, .int .i64 0, .complex .f64 X X, .string ⟨#[]⟩, .slice ta 0 tc] 34)) = W1 at *
  refine hnw.mono ?_
  rintro e w2 ⟨b, rfl, hw2, hb2, K2⟩
  have hb2l := hw2.lt
  have hBI2 := (K2.block _ hz1 (fun h => h)).trans hBI
  have hK2 := hK1.trans K2 (fun _ _ h => h) (fun _ _ h => h)
  have hz2 := K2.size
  have c1 : w2.cell? ⟨w.heap.size, 1, none⟩ = some (.int .i64 15) := by rw [cell_of_row _ _ _ _ _ _ hBI2]; rfl
  have K3 : Kept (fun _ => False) w2 (w2.alloc (.cells #[.int .u8 15] 5)) := (Kept.refl _ w2).alloc _
  have hrd : Rd (w2.alloc (.cells #[.int .u8 15] 5)) w2.heap.size (.slice (some ⟨w2.heap.size, 0, none⟩) 1 1) [15] := (Row.lit w2 [15] (by decide)).rd
  have hraw := wraw _ w2.heap.size [15] b b [] _ (by decide) (hw2.kept K3 (fun h => h) (fun h => h)) hrd
  clear hnw K2 hBI hK1
  go_wp2_with fail
  refine hraw.mono ?_
  rintro e w4 ⟨rfl, g4, hw4, hg4, K4⟩
  have hz3 : (w2.alloc (.cells #[.int .u8 15] 5)).heap.size = w2.heap.size + 1 := by simp
  have hz4 := K4.size
  have hBI4 := (K4.block w.heap.size (by omega) (by omega)).trans ((K3.block w.heap.size (by omega) (fun h => h)).trans hBI2)
  have hK4 := (hK2.trans K3 (fun _ _ h => h) (fun _ _ h => h)).trans K4 (fun _ _ h => h) (fun z hz h => by omega)
  have hgw : w.heap.size ≤ g4 ∧ w.heap.size ≠ g4 := by omega
  have hly := clayout 15 w4
  rw [show layS 15 = [] from rfl, show isOp 15 = true from rfl, show toStr [] = ⟨#[]⟩ from rfl] at hly
  rw [List.nil_append] at hw4
  have d1 : w4.cell? ⟨w.heap.size, 1, none⟩ = some (.int .i64 15) := by rw [cell_of_row _ _ _ _ _ _ hBI4]; rfl
  have hbw : w.heap.size < b := by omega
  clear hraw hrd K3 K4 hBI2 hK2 c1 hg4 hz3 hz4 hz2 hz1 hb2 hb2l hw2
  go_wp2_with fail
  refine hly.mono ?_
  rintro e w5 ⟨rfl, rfl⟩
  clear hly d1
  go_wp2_with fail
  go_loopg [22] 0 (fun gk i wr => ∃ (k g : Nat) (bl : List Nat), gk + k = 0 ∧ i = .int .i64 k ∧ WIs wr b g bl ∧ w.heap.size < g ∧ wr.heap[w.heap.size]? = some (.cells #[.int .i64 pl, .int .i64 15, .int .i64 0, .int .i64 0, .complex .f64 X X, .string ⟨#[]⟩, .slice ta 0 tc] 34 (0, 0)) ∧ Kept (fun _ => False) w wr ∧ bl = [15])
  case atStart => exact ⟨0, g4, [15], rfl, rfl, hw4, by omega, hBI4, hK4, rfl⟩
  case round =>
    obtain ⟨k, g, bl, hgk, rfl, hW, hgg, hB, hK, hbl⟩ := hrel
    clear hw4 hBI4 hK4 hgw
    · obtain rfl : k = 0 := by omega
      subst hbl
      have hdn := wdone b g [15] wr (by decide) hW
      go_wp2_with fail
      refine hdn.mono ?_
      rintro e w6 ⟨v6, g6, rfl, r1, r2, r3⟩
      obtain ⟨ra, rc, rfl⟩ := r1.rd.shape
      have hzk := hK.size
      go_wp2
      go_ret
      rw [HF.out]
      exact ⟨_, g6, rfl, r1, by omega, hK.trans r3 (fun _ _ h => h) (fun _ _ h => h)⟩

set_option maxHeartbeats 4000000 in
set_option maxRecDepth 1000000 in
theorem head_jump : WC ⟨0, 5, 0, 0, 0, 0, [], [2]⟩ := by
  intro F tv w hT
  obtain ⟨ta, tc, rfl⟩ := hT.shape
  have HF : Hid (headR ⟨0, 5, 0, 0, 0, 0, [], [2]⟩ = [5]) := rfl
  unfold insC
  simp only [List.length_nil, List.length_cons, Nat.zero_add]
  rw [show toStr [] = ⟨#[]⟩ from rfl]
  generalize floatOfInt .f64 0 = X at *
  have hBI : (w.alloc (.cells #[.int .i64 0, .int .i64 5, .int .i64 0, .int .i64 0, .complex .f64 X X, .string ⟨#[]⟩, .slice ta 1 tc] 34)).heap[w.heap.size]? = some (.cells #[.int .i64 0, .int .i64 5, .int .i64 0, .int .i64 0, .complex .f64 X X, .string ⟨#[]⟩, .slice ta 1 tc] 34 (0, 0)) := heap_alloc_new w _
  have hK1 : Kept (fun _ => False) w (w.alloc (.cells #[.int .i64 0, .int .i64 5, .int .i64 0, .int .i64 0, .complex .f64 X X, .string ⟨#[]⟩, .slice ta 1 tc] 34)) := (Kept.refl _ w).alloc _
  have hnw := newwriter (w.alloc (.cells #[.int .i64 0, .int .i64 5, .int .i64 0, .int .i64 0, .complex .f64 X X, .string ⟨#[]⟩, .slice ta 1 tc] 34))
  go_enter Try.func23, Try.ntmps23
  go_wp2_with fail
  have hz1 : w.heap.size < (w.alloc (.cells #[.int .i64 0, .int .i64 5, .int .i64 0, .int .i64 0, .complex .f64 X X, .string ⟨#[]⟩, .slice ta 1 tc] 34)).heap.size := (Array.getElem?_eq_some_iff.1 hBI).1
  generalize (w.alloc (.cells #[.int .i64 0, .int .i64 5, .int .i64 0, .int .i64 0, .complex .f64 X X, .string ⟨#[]⟩, .slice ta 1 tc] 34)) = W1 at *
  refine hnw.mono ?_
  rintro e w2 ⟨b, rfl, hw2, hb2, K2⟩
  have hb2l := hw2.lt
  have hBI2 := (K2.block _ hz1 (fun h => h)).trans hBI
  have hK2 := hK1.trans K2 (fun _ _ h => h) (fun _ _ h => h)
  have hz2 := K2.size
  have c1 : w2.cell? ⟨w.heap.size, 1, none⟩ = some (.int .i64 5) := by rw [cell_of_row _ _ _ _ _ _ hBI2]; rfl
  have K3 : Kept (fun _ => False) w2 (w2.alloc (.cells #[.int .u8 5] 5)) := (Kept.refl _ w2).alloc _
  have hrd : Rd (w2.alloc (.cells #[.int .u8 5] 5)) w2.heap.size (.slice (some ⟨w2.heap.size, 0, none⟩) 1 1) [5] := (Row.lit w2 [5] (by decide)).rd
  have hraw := wraw _ w2.heap.size [5] b b [] _ (by decide) (hw2.kept K3 (fun h => h) (fun h => h)) hrd
  clear hnw K2 hBI hK1
  go_wp2_with fail
  refine hraw.mono ?_
  rintro e w4 ⟨rfl, g4, hw4, hg4, K4⟩
  have hz3 : (w2.alloc (.cells #[.int .u8 5] 5)).heap.size = w2.heap.size + 1 := by simp
  have hz4 := K4.size
  have hBI4 := (K4.block w.heap.size (by omega) (by omega)).trans ((K3.block w.heap.size (by omega) (fun h => h)).trans hBI2)
  have hK4 := (hK2.trans K3 (fun _ _ h => h) (fun _ _ h => h)).trans K4 (fun _ _ h => h) (fun z hz h => by omega)
  have hgw : w.heap.size ≤ g4 ∧ w.heap.size ≠ g4 := by omega
  have hly := clayout 5 w4
  rw [show layS 5 = [103] from rfl, show isOp 5 = true from rfl, show toStr [103] = ⟨#[103]⟩ from rfl] at hly
  rw [List.nil_append] at hw4
  have d1 : w4.cell? ⟨w.heap.size, 1, none⟩ = some (.int .i64 5) := by rw [cell_of_row _ _ _ _ _ _ hBI4]; rfl
  have hbw : w.heap.size < b := by omega
  clear hraw hrd K3 K4 hBI2 hK2 c1 hg4 hz3 hz4 hz2 hz1 hb2 hb2l hw2
  go_wp2_with fail
  refine hly.mono ?_
  rintro e w5 ⟨rfl, rfl⟩
  clear hly d1
  go_wp2_with fail
  go_loopg [22] 1 (fun gk i wr => ∃ (k g : Nat) (bl : List Nat), gk + k = 1 ∧ i = .int .i64 k ∧ WIs wr b g bl ∧ w.heap.size < g ∧ wr.heap[w.heap.size]? = some (.cells #[.int .i64 0, .int .i64 5, .int .i64 0, .int .i64 0, .complex .f64 X X, .string ⟨#[]⟩, .slice ta 1 tc] 34 (0, 0)) ∧ Kept (fun _ => False) w wr ∧ bl = [5])
  case atStart => exact ⟨0, g4, [5], rfl, rfl, hw4, by omega, hBI4, hK4, rfl⟩
  case round =>
    obtain ⟨k, g, bl, hgk, rfl, hW, hgg, hB, hK, hbl⟩ := hrel
    clear hw4 hBI4 hK4 hgw
    subst hbl
    by_cases hk : k < 1
    · obtain rfl : k = 0 := by omega
      go_wp2
      go_roundg 0
      case measure => omega
      case rel => exact ⟨1, g, _, rfl, by go_num, hW, hgg, hB, hK, rfl⟩
    · obtain rfl : k = 1 := by omega
      have hdn := wdone b g [5] wr (by decide) hW
      go_wp2_with fail
      refine hdn.mono ?_
      rintro e w6 ⟨v6, g6, rfl, r1, r2, r3⟩
      obtain ⟨ra, rc, rfl⟩ := r1.rd.shape
      have hzk := hK.size
      go_wp2
      go_ret
      rw [HF.out]
      exact ⟨_, g6, rfl, r1, by omega, hK.trans r3 (fun _ _ h => h) (fun _ _ h => h)⟩
end Go.Proofs.Ytbhcmhbicbhgmaa.Wire
