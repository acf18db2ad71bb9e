/-
  formed at the instructions that the runs have.
-/
import Derived.Test.YtbhcmhbicbhgmaaCodeEncW
namespace Go.Proofs.Ytbhcmhbicbhgmaa.Wire
open Go.RowKit

/-- What formed answers of an instruction. -/
def FC (i : Ins) : Prop := ∀ (F : Nat → Prop) (tv : Value) (w : World), IwR F w tv i.tos → Calls Try.prog 22 #[.agg (insC i tv)] w fun e w' => e = .returned (.bool (formR i)) ∧ Kept (fun _ => False) w w'

theorem casked (s : ByteArray) (c : Int) (g : Nat) (w : World) (h : w.cell? ⟨g, 0, none⟩ = some (.string s)) : Calls Try.prog 40 #[.int .u8 c, .pointer (some ⟨g, 0, none⟩)] w fun e w' => e = .returned (.bool (decide (0 ≤ Lib.indexByte s.data.toList c.toNat.toUInt8))) ∧ w' = w := by
  have hi := Try.strings_IndexByte s c w
  generalize Lib.indexByte s.data.toList c.toNat.toUInt8 = n at *
  go_enter Try.func40, Try.ntmps40
  go_wp2_with fail
  refine hi.mono ?_
  rintro e w1 ⟨rfl, rfl⟩
  go_wp2
  go_ret
  exact ⟨rfl, rfl⟩
def byB (n : Int) : Bool := decide (0 ≤ n ∧ n ≤ 255)
theorem cisByte (n : Int) (w : World) : Calls Try.prog 42 #[.int .i64 n] w fun e w' => e = .returned (.bool (byB n)) ∧ w' = w := by
  by_cases h0 : 0 ≤ n
  · by_cases h1 : n ≤ 255
    · have HB : Hid (byB n = true) := decide_eq_true ⟨h0, h1⟩
      go_enter Try.func42, Try.ntmps42
      go_wp2
      go_ret
      rw [HB.out]
      exact ⟨rfl, rfl⟩
    · have HB : Hid (byB n = false) := decide_eq_false (fun h => h1 h.2)
      go_enter Try.func42, Try.ntmps42
      go_wp2
      go_ret
      rw [HB.out]
      exact ⟨rfl, rfl⟩
  · have HB : Hid (byB n = false) := decide_eq_false (fun h => h0 h.1)
    go_enter Try.func42, Try.ntmps42
    go_wp2
    go_ret
    rw [HB.out]
    exact ⟨rfl, rfl⟩

set_option maxHeartbeats 4000000 in
set_option maxRecDepth 1000000 in
theorem form_push : FC ⟨0, 1, 0, 0, 3, -1, [], []⟩ := by
  intro F tv w hT
  obtain ⟨ta, tc, rfl⟩ := hT.shape
  have HF : Hid (formR ⟨0, 1, 0, 0, 3, -1, [], []⟩ = true) := rfl
  have hri : ∀ u, Calls Try.prog 41 #[.complex .f64 (floatOfInt .f64 3) (floatOfInt .f64 (-1))] u (Num.Pu (.bool true) u) := fun u => Num.right_int 3 (-1) u
  have h00 : (FloatKind.f64.format.order (floatOfInt .f64 3) 0 == some .eq) = false := by decide
  unfold insC
  simp only [List.length_nil]
  rw [show toStr [] = ⟨#[]⟩ from rfl]
  generalize floatOfInt .f64 3 = X at *
  generalize floatOfInt .f64 (-1) = Y at *
  have hly := clayout 1 (w.alloc (.cells #[.int .i64 0, .int .i64 1, .int .i64 0, .int .i64 0, .complex .f64 X Y, .string ⟨#[]⟩, .slice ta 0 tc] 34))
  rw [show layS 1 = [110] from rfl, show isOp 1 = true from rfl, show toStr [110] = ⟨#[110]⟩ from rfl] at hly
  have hBI : ((w.alloc (.cells #[.int .i64 0, .int .i64 1, .int .i64 0, .int .i64 0, .complex .f64 X Y, .string ⟨#[]⟩, .slice ta 0 tc] 34)).alloc (.cells #[.string ⟨#[110]⟩] 9)).heap[w.heap.size]? = some (.cells #[.int .i64 0, .int .i64 1, .int .i64 0, .int .i64 0, .complex .f64 X Y, .string ⟨#[]⟩, .slice ta 0 tc] 34 (0, 0)) := (Below.heap_alloc _ _ _ (by simp)).trans (heap_alloc_new w _)
  have hBS : ((w.alloc (.cells #[.int .i64 0, .int .i64 1, .int .i64 0, .int .i64 0, .complex .f64 X Y, .string ⟨#[]⟩, .slice ta 0 tc] 34)).alloc (.cells #[.string ⟨#[110]⟩] 9)).heap[w.heap.size + 1]? = some (.cells #[.string ⟨#[110]⟩] 9 (0, 0)) := by
    have := heap_alloc_new (w.alloc (.cells #[.int .i64 0, .int .i64 1, .int .i64 0, .int .i64 0, .complex .f64 X Y, .string ⟨#[]⟩, .slice ta 0 tc] 34)) (.cells #[.string ⟨#[110]⟩] 9)
    simpa using this
  have hK2 : Kept (fun _ => False) w ((w.alloc (.cells #[.int .i64 0, .int .i64 1, .int .i64 0, .int .i64 0, .complex .f64 X Y, .string ⟨#[]⟩, .slice ta 0 tc] 34)).alloc (.cells #[.string ⟨#[110]⟩] 9)) := ((Kept.refl _ w).alloc _).alloc _
  go_enter Try.func22, Try.ntmps22
  go_wp2_with fail
  refine hly.mono ?_
  rintro e w1 ⟨rfl, rfl⟩
  go_wp2_with fail
  clear hly
  generalize ((w.alloc (.cells #[.int .i64 0, .int .i64 1, .int .i64 0, .int .i64 0, .complex .f64 X Y, .string ⟨#[]⟩, .slice ta 0 tc] 34)).alloc (.cells #[.string ⟨#[110]⟩] 9)) = W at *
  have hS : ∀ u, Kept (fun _ => False) W u → u.cell? ⟨w.heap.size, 0, none⟩ = some (.int .i64 0) ∧ u.cell? ⟨w.heap.size, 1, none⟩ = some (.int .i64 1) ∧ u.cell? ⟨w.heap.size, 2, none⟩ = some (.int .i64 0) ∧ u.cell? ⟨w.heap.size, 3, none⟩ = some (.int .i64 0) ∧ u.cell? ⟨w.heap.size, 4, none⟩ = some (.complex .f64 X Y) ∧ u.cell? ⟨w.heap.size, 5, none⟩ = some (.string ⟨#[]⟩) ∧ u.cell? ⟨w.heap.size, 6, none⟩ = some (.slice ta 0 tc) ∧ u.cell? ⟨w.heap.size + 1, 0, none⟩ = some (.string ⟨#[110]⟩) := fun u k => by
    have g1 := (k.block _ (Array.getElem?_eq_some_iff.1 hBI).1 (fun h => h)).trans hBI
    have g2 := (k.block _ (Array.getElem?_eq_some_iff.1 hBS).1 (fun h => h)).trans hBS
    refine ⟨?_, ?_, ?_, ?_, ?_, ?_, ?_, ?_⟩
    all_goals first | (rw [cell_of_row _ _ _ _ _ _ g1]; rfl) | (rw [cell_of_row _ _ _ _ _ _ g2]; rfl)
  have G0 : Kept (fun _ => False) W W.drew := (Kept.refl _ W).drew
  have G1 := hS _ G0
  clear hBI hBS
  dsimp only [List.append]
  have hmx : Try.prog.follows .mixedOrders = true := by kernel_rfl
  refine wp_region_held (S := fun u => Kept (fun _ => False) W u) hmx ?_
  show wpAnyH Try.prog .any _ _ _ _ _ _ W.drew
  refine wpAnyH_take (i := 0) (v := .bool true) rfl (by kernel_rfl) (by kernel_rfl) (by kernel_rfl) (fun _ _ _ h => h) (.inl ⟨by rfl, fun u hu => by go_simp⟩) G0 ?_
  show wpAnyH Try.prog .any _ _ _ _ _ (Act.put _ (some 13) (.bool true)) _
  simp only [Act.put, List.setIfInBounds_toArray, List.set_cons_zero, List.set_cons_succ]
  refine wpAnyH_take (i := 1) (v := .bool true) rfl (by kernel_rfl) (by kernel_rfl) (by kernel_rfl) (fun _ _ _ h => h) (.inl ⟨by rfl, fun u hu => by go_simp⟩) G0 ?_
  show wpAnyH Try.prog .any _ _ _ _ _ (Act.put _ (some 14) (.bool true)) _
  simp only [Act.put, List.setIfInBounds_toArray, List.set_cons_zero, List.set_cons_succ]
  refine wpAnyH_take (i := 2) (v := .pointer (some ⟨w.heap.size, 4, none⟩)) rfl (by kernel_rfl) (by kernel_rfl) (by kernel_rfl) (fun _ _ _ h => h) (.inl ⟨by rfl, fun u hu => by go_simp⟩) G0 ?_
  show wpAnyH Try.prog .any _ _ _ _ _ (Act.put _ (some 15) (.pointer (some ⟨w.heap.size, 4, none⟩))) _
  simp only [Act.put, List.setIfInBounds_toArray, List.set_cons_zero, List.set_cons_succ]
  refine wpAnyH_take (i := 3) (v := .complex .f64 X Y) rfl (by kernel_rfl) (by kernel_rfl) (by kernel_rfl) (fun _ _ _ h => h) (.inl ⟨by rfl, fun u hu => by obtain ⟨e0, e1, e2, e3, e4, e5, e6, e7⟩ := hS u hu; go_simp⟩) G0 ?_
  show wpAnyH Try.prog .any _ _ _ _ _ (Act.put _ (some 16) (.complex .f64 X Y)) _
  simp only [Act.put, List.setIfInBounds_toArray, List.set_cons_zero, List.set_cons_succ]
  refine wpAnyH_take (i := 4) (v := .bool false) rfl (by kernel_rfl) (by kernel_rfl) (by kernel_rfl) (fun _ _ _ h => h) (.inl ⟨by rfl, fun u hu => by go_simp⟩) G0 ?_
  show wpAnyH Try.prog .any _ _ _ _ _ (Act.put _ (some 17) (.bool false)) _
  simp only [Act.put, List.setIfInBounds_toArray, List.set_cons_zero, List.set_cons_succ]
  refine wpAnyH_take (i := 5) (v := .bool false) rfl (by kernel_rfl) (by kernel_rfl) (by kernel_rfl) (fun _ _ _ h => h) (.inl ⟨by rfl, fun u hu => by go_simp⟩) G0 ?_
  show wpAnyH Try.prog .any _ _ _ _ _ (Act.put _ (some 18) (.bool false)) _
  simp only [Act.put, List.setIfInBounds_toArray, List.set_cons_zero, List.set_cons_succ]
  refine wpAnyH_take (i := 6) (v := .func (.func 40) #[] #[.pointer (some ⟨w.heap.size + 1, 0, none⟩)]) rfl (by kernel_rfl) (by kernel_rfl) (by kernel_rfl) (fun _ _ _ h => h) (.inl ⟨by rfl, fun u hu => by go_simp⟩) G0 ?_
  show wpAnyH Try.prog .any _ _ _ _ _ (Act.put _ (some 19) (.func (.func 40) #[] #[.pointer (some ⟨w.heap.size + 1, 0, none⟩)])) _
  simp only [Act.put, List.setIfInBounds_toArray, List.set_cons_zero, List.set_cons_succ]
  refine wpAnyH_ready (rs := [7]) (by kernel_rfl) (by simp) ?_
  refine AllReadyH.cons rfl (fun K hK => ?_) AllReadyH.nil
  go_simp
  refine (casked ⟨#[110]⟩ 110 (w.heap.size + 1) _ (hS _ G0).2.2.2.2.2.2.2).mono ?_
  rintro e wc1 ⟨rfl, rfl⟩
  rw [show (decide (0 ≤ Lib.indexByte (ByteArray.mk #[110]).data.toList (Int.toNat 110).toUInt8)) = true from by decide]
  refine hK.out _ _ G0 (fun _ => ?_)
  clear hK K
  (try show wpAnyH Try.prog .any _ _ _ _ _ (Act.put _ (some 20) (.bool true)) _)
  (try simp only [Act.put, List.setIfInBounds_toArray, List.set_cons_zero, List.set_cons_succ])
  refine wpAnyH_take (i := 8) (v := .bool true) rfl (by kernel_rfl) (by kernel_rfl) (by kernel_rfl) (fun _ _ _ h => h) (.inl ⟨by rfl, fun u hu => by go_simp⟩) G0 ?_
  show wpAnyH Try.prog .any _ _ _ _ _ (Act.put _ (some 21) (.bool true)) _
  simp only [Act.put, List.setIfInBounds_toArray, List.set_cons_zero, List.set_cons_succ]
  refine wpAnyH_take (i := 9) (v := .pointer (some ⟨w.heap.size, 4, none⟩)) rfl (by kernel_rfl) (by kernel_rfl) (by kernel_rfl) (fun _ _ _ h => h) (.inl ⟨by rfl, fun u hu => by go_simp⟩) G0 ?_
  show wpAnyH Try.prog .any _ _ _ _ _ (Act.put _ (some 22) (.pointer (some ⟨w.heap.size, 4, none⟩))) _
  simp only [Act.put, List.setIfInBounds_toArray, List.set_cons_zero, List.set_cons_succ]
  refine wpAnyH_take (i := 10) (v := .complex .f64 X Y) rfl (by kernel_rfl) (by kernel_rfl) (by kernel_rfl) (fun _ _ _ h => h) (.inl ⟨by rfl, fun u hu => by obtain ⟨e0, e1, e2, e3, e4, e5, e6, e7⟩ := hS u hu; go_simp⟩) G0 ?_
  show wpAnyH Try.prog .any _ _ _ _ _ (Act.put _ (some 23) (.complex .f64 X Y)) _
  simp only [Act.put, List.setIfInBounds_toArray, List.set_cons_zero, List.set_cons_succ]
  refine wpAnyH_ready (rs := [11]) (by kernel_rfl) (by simp) ?_
  refine AllReadyH.cons rfl (fun K hK => ?_) AllReadyH.nil
  go_simp
  refine (hri _).mono ?_
  rintro e wc2 ⟨rfl, rfl⟩
  refine hK.out _ _ G0 (fun _ => ?_)
  clear hK K
  (try show wpAnyH Try.prog .any _ _ _ _ _ (Act.put _ (some 24) (.bool true)) _)
  (try simp only [Act.put, List.setIfInBounds_toArray, List.set_cons_zero, List.set_cons_succ])
  refine wpAnyH_take (i := 12) (v := .bool true) rfl (by kernel_rfl) (by kernel_rfl) (by kernel_rfl) (fun _ _ _ h => h) (.inl ⟨by rfl, fun u hu => by go_simp⟩) G0 ?_
  show wpAnyH Try.prog .any _ _ _ _ _ (Act.put _ (some 25) (.bool true)) _
  simp only [Act.put, List.setIfInBounds_toArray, List.set_cons_zero, List.set_cons_succ]
  refine wpAnyH_take (i := 13) (v := .bool true) rfl (by kernel_rfl) (by kernel_rfl) (by kernel_rfl) (fun _ _ _ h => h) (.inl ⟨by rfl, fun u hu => by go_simp⟩) G0 ?_
  show wpAnyH Try.prog .any _ _ _ _ _ (Act.put _ (some 26) (.bool true)) _
  simp only [Act.put, List.setIfInBounds_toArray, List.set_cons_zero, List.set_cons_succ]
  refine wpAnyH_take (i := 14) (v := .bool true) rfl (by kernel_rfl) (by kernel_rfl) (by kernel_rfl) (fun _ _ _ h => h) (.inl ⟨by rfl, fun u hu => by go_simp⟩) G0 ?_
  show wpAnyH Try.prog .any _ _ _ _ _ (Act.put _ (some 27) (.bool true)) _
  simp only [Act.put, List.setIfInBounds_toArray, List.set_cons_zero, List.set_cons_succ]
  refine wpAnyH_take (i := 15) (v := .bool true) rfl (by kernel_rfl) (by kernel_rfl) (by kernel_rfl) (fun _ _ _ h => h) (.inl ⟨by rfl, fun u hu => by go_simp⟩) G0 ?_
  show wpAnyH Try.prog .any _ _ _ _ _ (Act.put _ (some 28) (.bool true)) _
  simp only [Act.put, List.setIfInBounds_toArray, List.set_cons_zero, List.set_cons_succ]
  refine wpAnyH_take (i := 16) (v := .pointer (some ⟨w.heap.size, 5, none⟩)) rfl (by kernel_rfl) (by kernel_rfl) (by kernel_rfl) (fun _ _ _ h => h) (.inl ⟨by rfl, fun u hu => by go_simp⟩) G0 ?_
  show wpAnyH Try.prog .any _ _ _ _ _ (Act.put _ (some 29) (.pointer (some ⟨w.heap.size, 5, none⟩))) _
  simp only [Act.put, List.setIfInBounds_toArray, List.set_cons_zero, List.set_cons_succ]
  refine wpAnyH_take (i := 17) (v := .string ⟨#[]⟩) rfl (by kernel_rfl) (by kernel_rfl) (by kernel_rfl) (fun _ _ _ h => h) (.inl ⟨by rfl, fun u hu => by obtain ⟨e0, e1, e2, e3, e4, e5, e6, e7⟩ := hS u hu; go_simp⟩) G0 ?_
  show wpAnyH Try.prog .any _ _ _ _ _ (Act.put _ (some 30) (.string ⟨#[]⟩)) _
  simp only [Act.put, List.setIfInBounds_toArray, List.set_cons_zero, List.set_cons_succ]
  refine wpAnyH_take (i := 18) (v := .bool true) rfl (by kernel_rfl) (by kernel_rfl) (by kernel_rfl) (fun _ _ _ h => h) (.inl ⟨by rfl, fun u hu => by go_simp⟩) G0 ?_
  show wpAnyH Try.prog .any _ _ _ _ _ (Act.put _ (some 31) (.bool true)) _
  simp only [Act.put, List.setIfInBounds_toArray, List.set_cons_zero, List.set_cons_succ]
  refine wpAnyH_take (i := 19) (v := .bool true) rfl (by kernel_rfl) (by kernel_rfl) (by kernel_rfl) (fun _ _ _ h => h) (.inl ⟨by rfl, fun u hu => by go_simp⟩) G0 ?_
  show wpAnyH Try.prog .any _ _ _ _ _ (Act.put _ (some 32) (.bool true)) _
  simp only [Act.put, List.setIfInBounds_toArray, List.set_cons_zero, List.set_cons_succ]
  refine wpAnyH_take (i := 20) (v := undef) rfl (by kernel_rfl) (by kernel_rfl) (by kernel_rfl) (fun _ _ _ h => h) (.inr ⟨by rfl, rfl⟩) G0 ?_
  show wpAnyH Try.prog .any _ _ _ _ _ (Act.put _ (some 33) (undef)) _
  simp only [Act.put, List.setIfInBounds_toArray, List.set_cons_zero, List.set_cons_succ]
  refine wpAnyH_take (i := 21) (v := undef) rfl (by kernel_rfl) (by kernel_rfl) (by kernel_rfl) (fun _ _ _ h => h) (.inr ⟨by rfl, rfl⟩) G0 ?_
  show wpAnyH Try.prog .any _ _ _ _ _ (Act.put _ (some 34) (undef)) _
  simp only [Act.put, List.setIfInBounds_toArray, List.set_cons_zero, List.set_cons_succ]
  refine wpAnyH_take (i := 22) (v := undef) rfl (by kernel_rfl) (by kernel_rfl) (by kernel_rfl) (fun _ _ _ h => h) (.inr ⟨by rfl, rfl⟩) G0 ?_
  show wpAnyH Try.prog .any _ _ _ _ _ (Act.put _ (some 35) (undef)) _
  simp only [Act.put, List.setIfInBounds_toArray, List.set_cons_zero, List.set_cons_succ]
  refine wpAnyH_take (i := 23) (v := undef) rfl (by kernel_rfl) (by kernel_rfl) (by kernel_rfl) (fun _ _ _ h => h) (.inr ⟨by rfl, rfl⟩) G0 ?_
  show wpAnyH Try.prog .any _ _ _ _ _ (Act.put _ (some 36) (undef)) _
  simp only [Act.put, List.setIfInBounds_toArray, List.set_cons_zero, List.set_cons_succ]
  refine wpAnyH_take (i := 24) (v := undef) rfl (by kernel_rfl) (by kernel_rfl) (by kernel_rfl) (fun _ _ _ h => h) (.inr ⟨by rfl, rfl⟩) G0 ?_
  show wpAnyH Try.prog .any _ _ _ _ _ (Act.put _ (some 37) (undef)) _
  simp only [Act.put, List.setIfInBounds_toArray, List.set_cons_zero, List.set_cons_succ]
  refine wpAnyH_take (i := 25) (v := undef) rfl (by kernel_rfl) (by kernel_rfl) (by kernel_rfl) (fun _ _ _ h => h) (.inr ⟨by rfl, rfl⟩) G0 ?_
  show wpAnyH Try.prog .any _ _ _ _ _ (Act.put _ (some 38) (undef)) _
  simp only [Act.put, List.setIfInBounds_toArray, List.set_cons_zero, List.set_cons_succ]
  refine wpAnyH_take (i := 26) (v := undef) rfl (by kernel_rfl) (by kernel_rfl) (by kernel_rfl) (fun _ _ _ h => h) (.inr ⟨by rfl, rfl⟩) G0 ?_
  show wpAnyH Try.prog .any _ _ _ _ _ (Act.put _ (some 39) (undef)) _
  simp only [Act.put, List.setIfInBounds_toArray, List.set_cons_zero, List.set_cons_succ]
  refine wpAnyH_take (i := 27) (v := undef) rfl (by kernel_rfl) (by kernel_rfl) (by kernel_rfl) (fun _ _ _ h => h) (.inr ⟨by rfl, rfl⟩) G0 ?_
  show wpAnyH Try.prog .any _ _ _ _ _ (Act.put _ (some 40) (undef)) _
  simp only [Act.put, List.setIfInBounds_toArray, List.set_cons_zero, List.set_cons_succ]
  refine wpAnyH_take (i := 28) (v := .bool true) rfl (by kernel_rfl) (by kernel_rfl) (by kernel_rfl) (fun _ _ _ h => h) (.inl ⟨by rfl, fun u hu => by go_simp⟩) G0 ?_
  show wpAnyH Try.prog .any _ _ _ _ _ (Act.put _ (some 41) (.bool true)) _
  simp only [Act.put, List.setIfInBounds_toArray, List.set_cons_zero, List.set_cons_succ]
  refine wpAnyH_take (i := 29) (v := .bool true) rfl (by kernel_rfl) (by kernel_rfl) (by kernel_rfl) (fun _ _ _ h => h) (.inl ⟨by rfl, fun u hu => by go_simp⟩) G0 ?_
  show wpAnyH Try.prog .any _ _ _ _ _ (Act.put _ (some 42) (.bool true)) _
  simp only [Act.put, List.setIfInBounds_toArray, List.set_cons_zero, List.set_cons_succ]
  refine wpAnyH_take (i := 30) (v := .bool true) rfl (by kernel_rfl) (by kernel_rfl) (by kernel_rfl) (fun _ _ _ h => h) (.inl ⟨by rfl, fun u hu => by go_simp⟩) G0 ?_
  show wpAnyH Try.prog .any _ _ _ _ _ (Act.put _ (some 43) (.bool true)) _
  simp only [Act.put, List.setIfInBounds_toArray, List.set_cons_zero, List.set_cons_succ]
  refine wpAnyH_take (i := 31) (v := .pointer (some ⟨w.heap.size, 2, none⟩)) rfl (by kernel_rfl) (by kernel_rfl) (by kernel_rfl) (fun _ _ _ h => h) (.inl ⟨by rfl, fun u hu => by go_simp⟩) G0 ?_
  show wpAnyH Try.prog .any _ _ _ _ _ (Act.put _ (some 44) (.pointer (some ⟨w.heap.size, 2, none⟩))) _
  simp only [Act.put, List.setIfInBounds_toArray, List.set_cons_zero, List.set_cons_succ]
  refine wpAnyH_take (i := 32) (v := .int .i64 0) rfl (by kernel_rfl) (by kernel_rfl) (by kernel_rfl) (fun _ _ _ h => h) (.inl ⟨by rfl, fun u hu => by obtain ⟨e0, e1, e2, e3, e4, e5, e6, e7⟩ := hS u hu; go_simp⟩) G0 ?_
  show wpAnyH Try.prog .any _ _ _ _ _ (Act.put _ (some 45) (.int .i64 0)) _
  simp only [Act.put, List.setIfInBounds_toArray, List.set_cons_zero, List.set_cons_succ]
  refine wpAnyH_take (i := 33) (v := .bool true) rfl (by kernel_rfl) (by kernel_rfl) (by kernel_rfl) (fun _ _ _ h => h) (.inl ⟨by rfl, fun u hu => by go_simp⟩) G0 ?_
  show wpAnyH Try.prog .any _ _ _ _ _ (Act.put _ (some 46) (.bool true)) _
  simp only [Act.put, List.setIfInBounds_toArray, List.set_cons_zero, List.set_cons_succ]
  refine wpAnyH_take (i := 34) (v := .bool true) rfl (by kernel_rfl) (by kernel_rfl) (by kernel_rfl) (fun _ _ _ h => h) (.inl ⟨by rfl, fun u hu => by go_simp⟩) G0 ?_
  show wpAnyH Try.prog .any _ _ _ _ _ (Act.put _ (some 47) (.bool true)) _
  simp only [Act.put, List.setIfInBounds_toArray, List.set_cons_zero, List.set_cons_succ]
  refine wpAnyH_take (i := 35) (v := undef) rfl (by kernel_rfl) (by kernel_rfl) (by kernel_rfl) (fun _ _ _ h => h) (.inr ⟨by rfl, rfl⟩) G0 ?_
  show wpAnyH Try.prog .any _ _ _ _ _ (Act.put _ (some 48) (undef)) _
  simp only [Act.put, List.setIfInBounds_toArray, List.set_cons_zero, List.set_cons_succ]
  refine wpAnyH_take (i := 36) (v := undef) rfl (by kernel_rfl) (by kernel_rfl) (by kernel_rfl) (fun _ _ _ h => h) (.inr ⟨by rfl, rfl⟩) G0 ?_
  show wpAnyH Try.prog .any _ _ _ _ _ (Act.put _ (some 49) (undef)) _
  simp only [Act.put, List.setIfInBounds_toArray, List.set_cons_zero, List.set_cons_succ]
  refine wpAnyH_take (i := 37) (v := undef) rfl (by kernel_rfl) (by kernel_rfl) (by kernel_rfl) (fun _ _ _ h => h) (.inr ⟨by rfl, rfl⟩) G0 ?_
  show wpAnyH Try.prog .any _ _ _ _ _ (Act.put _ (some 50) (undef)) _
  simp only [Act.put, List.setIfInBounds_toArray, List.set_cons_zero, List.set_cons_succ]
  refine wpAnyH_take (i := 38) (v := undef) rfl (by kernel_rfl) (by kernel_rfl) (by kernel_rfl) (fun _ _ _ h => h) (.inr ⟨by rfl, rfl⟩) G0 ?_
  show wpAnyH Try.prog .any _ _ _ _ _ (Act.put _ (some 51) (undef)) _
  simp only [Act.put, List.setIfInBounds_toArray, List.set_cons_zero, List.set_cons_succ]
  refine wpAnyH_take (i := 39) (v := undef) rfl (by kernel_rfl) (by kernel_rfl) (by kernel_rfl) (fun _ _ _ h => h) (.inr ⟨by rfl, rfl⟩) G0 ?_
  show wpAnyH Try.prog .any _ _ _ _ _ (Act.put _ (some 52) (undef)) _
  simp only [Act.put, List.setIfInBounds_toArray, List.set_cons_zero, List.set_cons_succ]
  refine wpAnyH_take (i := 40) (v := undef) rfl (by kernel_rfl) (by kernel_rfl) (by kernel_rfl) (fun _ _ _ h => h) (.inr ⟨by rfl, rfl⟩) G0 ?_
  show wpAnyH Try.prog .any _ _ _ _ _ (Act.put _ (some 53) (undef)) _
  simp only [Act.put, List.setIfInBounds_toArray, List.set_cons_zero, List.set_cons_succ]
  refine wpAnyH_take (i := 41) (v := undef) rfl (by kernel_rfl) (by kernel_rfl) (by kernel_rfl) (fun _ _ _ h => h) (.inr ⟨by rfl, rfl⟩) G0 ?_
  show wpAnyH Try.prog .any _ _ _ _ _ (Act.put _ (some 54) (undef)) _
  simp only [Act.put, List.setIfInBounds_toArray, List.set_cons_zero, List.set_cons_succ]
  refine wpAnyH_take (i := 42) (v := .bool true) rfl (by kernel_rfl) (by kernel_rfl) (by kernel_rfl) (fun _ _ _ h => h) (.inl ⟨by rfl, fun u hu => by go_simp⟩) G0 ?_
  show wpAnyH Try.prog .any _ _ _ _ _ (Act.put _ (some 55) (.bool true)) _
  simp only [Act.put, List.setIfInBounds_toArray, List.set_cons_zero, List.set_cons_succ]
  refine wpAnyH_take (i := 43) (v := .bool true) rfl (by kernel_rfl) (by kernel_rfl) (by kernel_rfl) (fun _ _ _ h => h) (.inl ⟨by rfl, fun u hu => by go_simp⟩) G0 ?_
  show wpAnyH Try.prog .any _ _ _ _ _ (Act.put _ (some 56) (.bool true)) _
  simp only [Act.put, List.setIfInBounds_toArray, List.set_cons_zero, List.set_cons_succ]
  refine wpAnyH_take (i := 44) (v := .bool true) rfl (by kernel_rfl) (by kernel_rfl) (by kernel_rfl) (fun _ _ _ h => h) (.inl ⟨by rfl, fun u hu => by go_simp⟩) G0 ?_
  show wpAnyH Try.prog .any _ _ _ _ _ (Act.put _ (some 57) (.bool true)) _
  simp only [Act.put, List.setIfInBounds_toArray, List.set_cons_zero, List.set_cons_succ]
  refine wpAnyH_take (i := 45) (v := .pointer (some ⟨w.heap.size, 3, none⟩)) rfl (by kernel_rfl) (by kernel_rfl) (by kernel_rfl) (fun _ _ _ h => h) (.inl ⟨by rfl, fun u hu => by go_simp⟩) G0 ?_
  show wpAnyH Try.prog .any _ _ _ _ _ (Act.put _ (some 58) (.pointer (some ⟨w.heap.size, 3, none⟩))) _
  simp only [Act.put, List.setIfInBounds_toArray, List.set_cons_zero, List.set_cons_succ]
  refine wpAnyH_take (i := 46) (v := .int .i64 0) rfl (by kernel_rfl) (by kernel_rfl) (by kernel_rfl) (fun _ _ _ h => h) (.inl ⟨by rfl, fun u hu => by obtain ⟨e0, e1, e2, e3, e4, e5, e6, e7⟩ := hS u hu; go_simp⟩) G0 ?_
  show wpAnyH Try.prog .any _ _ _ _ _ (Act.put _ (some 59) (.int .i64 0)) _
  simp only [Act.put, List.setIfInBounds_toArray, List.set_cons_zero, List.set_cons_succ]
  refine wpAnyH_take (i := 47) (v := .bool true) rfl (by kernel_rfl) (by kernel_rfl) (by kernel_rfl) (fun _ _ _ h => h) (.inl ⟨by rfl, fun u hu => by go_simp⟩) G0 ?_
  show wpAnyH Try.prog .any _ _ _ _ _ (Act.put _ (some 60) (.bool true)) _
  simp only [Act.put, List.setIfInBounds_toArray, List.set_cons_zero, List.set_cons_succ]
  refine wpAnyH_take (i := 48) (v := .bool true) rfl (by kernel_rfl) (by kernel_rfl) (by kernel_rfl) (fun _ _ _ h => h) (.inl ⟨by rfl, fun u hu => by go_simp⟩) G0 ?_
  show wpAnyH Try.prog .any _ _ _ _ _ (Act.put _ (some 61) (.bool true)) _
  simp only [Act.put, List.setIfInBounds_toArray, List.set_cons_zero, List.set_cons_succ]
  refine wpAnyH_take (i := 49) (v := undef) rfl (by kernel_rfl) (by kernel_rfl) (by kernel_rfl) (fun _ _ _ h => h) (.inr ⟨by rfl, rfl⟩) G0 ?_
  show wpAnyH Try.prog .any _ _ _ _ _ (Act.put _ (some 62) (undef)) _
  simp only [Act.put, List.setIfInBounds_toArray, List.set_cons_zero, List.set_cons_succ]
  refine wpAnyH_take (i := 50) (v := undef) rfl (by kernel_rfl) (by kernel_rfl) (by kernel_rfl) (fun _ _ _ h => h) (.inr ⟨by rfl, rfl⟩) G0 ?_
  show wpAnyH Try.prog .any _ _ _ _ _ (Act.put _ (some 63) (undef)) _
  simp only [Act.put, List.setIfInBounds_toArray, List.set_cons_zero, List.set_cons_succ]
  refine wpAnyH_take (i := 51) (v := undef) rfl (by kernel_rfl) (by kernel_rfl) (by kernel_rfl) (fun _ _ _ h => h) (.inr ⟨by rfl, rfl⟩) G0 ?_
  show wpAnyH Try.prog .any _ _ _ _ _ (Act.put _ (some 64) (undef)) _
  simp only [Act.put, List.setIfInBounds_toArray, List.set_cons_zero, List.set_cons_succ]
  refine wpAnyH_take (i := 52) (v := undef) rfl (by kernel_rfl) (by kernel_rfl) (by kernel_rfl) (fun _ _ _ h => h) (.inr ⟨by rfl, rfl⟩) G0 ?_
  show wpAnyH Try.prog .any _ _ _ _ _ (Act.put _ (some 65) (undef)) _
  simp only [Act.put, List.setIfInBounds_toArray, List.set_cons_zero, List.set_cons_succ]
  refine wpAnyH_take (i := 53) (v := undef) rfl (by kernel_rfl) (by kernel_rfl) (by kernel_rfl) (fun _ _ _ h => h) (.inr ⟨by rfl, rfl⟩) G0 ?_
  show wpAnyH Try.prog .any _ _ _ _ _ (Act.put _ (some 66) (undef)) _
  simp only [Act.put, List.setIfInBounds_toArray, List.set_cons_zero, List.set_cons_succ]
  refine wpAnyH_take (i := 54) (v := undef) rfl (by kernel_rfl) (by kernel_rfl) (by kernel_rfl) (fun _ _ _ h => h) (.inr ⟨by rfl, rfl⟩) G0 ?_
  show wpAnyH Try.prog .any _ _ _ _ _ (Act.put _ (some 67) (undef)) _
  simp only [Act.put, List.setIfInBounds_toArray, List.set_cons_zero, List.set_cons_succ]
  refine wpAnyH_take (i := 55) (v := undef) rfl (by kernel_rfl) (by kernel_rfl) (by kernel_rfl) (fun _ _ _ h => h) (.inr ⟨by rfl, rfl⟩) G0 ?_
  show wpAnyH Try.prog .any _ _ _ _ _ (Act.put _ (some 68) (undef)) _
  simp only [Act.put, List.setIfInBounds_toArray, List.set_cons_zero, List.set_cons_succ]
  refine wpAnyH_take (i := 56) (v := .bool true) rfl (by kernel_rfl) (by kernel_rfl) (by kernel_rfl) (fun _ _ _ h => h) (.inl ⟨by rfl, fun u hu => by go_simp⟩) G0 ?_
  show wpAnyH Try.prog .any _ _ _ _ _ (Act.put _ (some 69) (.bool true)) _
  simp only [Act.put, List.setIfInBounds_toArray, List.set_cons_zero, List.set_cons_succ]
  refine wpAnyH_take (i := 57) (v := .bool true) rfl (by kernel_rfl) (by kernel_rfl) (by kernel_rfl) (fun _ _ _ h => h) (.inl ⟨by rfl, fun u hu => by go_simp⟩) G0 ?_
  show wpAnyH Try.prog .any _ _ _ _ _ (Act.put _ (some 70) (.bool true)) _
  simp only [Act.put, List.setIfInBounds_toArray, List.set_cons_zero, List.set_cons_succ]
  refine wpAnyH_take (i := 58) (v := .bool true) rfl (by kernel_rfl) (by kernel_rfl) (by kernel_rfl) (fun _ _ _ h => h) (.inl ⟨by rfl, fun u hu => by go_simp⟩) G0 ?_
  show wpAnyH Try.prog .any _ _ _ _ _ (Act.put _ (some 71) (.bool true)) _
  simp only [Act.put, List.setIfInBounds_toArray, List.set_cons_zero, List.set_cons_succ]
  refine wpAnyH_take (i := 59) (v := .agg #[.int .i64 0, .int .i64 1, .int .i64 0, .int .i64 0, .complex .f64 X Y, .string ⟨#[]⟩, .slice ta 0 tc]) rfl (by kernel_rfl) (by kernel_rfl) (by kernel_rfl) (fun _ _ _ h => h) (.inl ⟨by rfl, fun u hu => by obtain ⟨e0, e1, e2, e3, e4, e5, e6, e7⟩ := hS u hu; go_simp⟩) G0 ?_
  show wpAnyH Try.prog .any _ _ _ _ _ (Act.put _ (some 72) (.agg #[.int .i64 0, .int .i64 1, .int .i64 0, .int .i64 0, .complex .f64 X Y, .string ⟨#[]⟩, .slice ta 0 tc])) _
  simp only [Act.put, List.setIfInBounds_toArray, List.set_cons_zero, List.set_cons_succ]
  refine wpAnyH_ready (rs := [60]) (by kernel_rfl) (by simp) ?_
  refine AllReadyH.cons rfl (fun K hK => ?_) AllReadyH.nil
  go_simp
  refine (ccount 1 0 _ _ _ _ _ _).mono ?_
  rintro e wc3 ⟨rfl, kc3⟩
  have Gc3 : Kept (fun _ => False) W wc3 := G0.trans kc3 (fun _ _ h => h) (fun _ _ h => h)
  rw [show rcR 1 0 = true from rfl]
  refine hK.out _ _ Gc3 (fun _ => ?_)
  clear hK K
  (try show wpAnyH Try.prog .any _ _ _ _ _ (Act.put _ (some 73) (.bool true)) _)
  (try simp only [Act.put, List.setIfInBounds_toArray, List.set_cons_zero, List.set_cons_succ])
  refine wpAnyH_take (i := 61) (v := .bool true) rfl (by kernel_rfl) (by kernel_rfl) (by kernel_rfl) (fun _ _ _ h => h) (.inl ⟨by rfl, fun u hu => by go_simp⟩) Gc3 ?_
  show wpAnyH Try.prog .any _ _ _ _ _ (Act.put _ (some 74) (.bool true)) _
  simp only [Act.put, List.setIfInBounds_toArray, List.set_cons_zero, List.set_cons_succ]
  refine wpAnyH_take (i := 62) (v := .bool true) rfl (by kernel_rfl) (by kernel_rfl) (by kernel_rfl) (fun _ _ _ h => h) (.inl ⟨by rfl, fun u hu => by go_simp⟩) Gc3 ?_
  show wpAnyH Try.prog .any _ _ _ _ _ (Act.put _ (some 75) (.bool true)) _
  simp only [Act.put, List.setIfInBounds_toArray, List.set_cons_zero, List.set_cons_succ]
  refine wpAnyH_take (i := 63) (v := .pointer (some ⟨w.heap.size, 6, none⟩)) rfl (by kernel_rfl) (by kernel_rfl) (by kernel_rfl) (fun _ _ _ h => h) (.inl ⟨by rfl, fun u hu => by go_simp⟩) Gc3 ?_
  show wpAnyH Try.prog .any _ _ _ _ _ (Act.put _ (some 76) (.pointer (some ⟨w.heap.size, 6, none⟩))) _
  simp only [Act.put, List.setIfInBounds_toArray, List.set_cons_zero, List.set_cons_succ]
  refine wpAnyH_take (i := 64) (v := .slice ta 0 tc) rfl (by kernel_rfl) (by kernel_rfl) (by kernel_rfl) (fun _ _ _ h => h) (.inl ⟨by rfl, fun u hu => by obtain ⟨e0, e1, e2, e3, e4, e5, e6, e7⟩ := hS u hu; go_simp⟩) Gc3 ?_
  show wpAnyH Try.prog .any _ _ _ _ _ (Act.put _ (some 77) (.slice ta 0 tc)) _
  simp only [Act.put, List.setIfInBounds_toArray, List.set_cons_zero, List.set_cons_succ]
  refine wpAnyH_take (i := 65) (v := .int .i64 0) rfl (by kernel_rfl) (by kernel_rfl) (by kernel_rfl) (fun _ _ _ h => h) (.inl ⟨by rfl, fun u hu => by go_simp⟩) Gc3 ?_
  show wpAnyH Try.prog .any _ _ _ _ _ (Act.put _ (some 78) (.int .i64 0)) _
  simp only [Act.put, List.setIfInBounds_toArray, List.set_cons_zero, List.set_cons_succ]
  refine wpAnyH_take (i := 66) (v := .agg #[.int .i64 0, .int .i64 1, .int .i64 0, .int .i64 0, .complex .f64 X Y, .string ⟨#[]⟩, .slice ta 0 tc]) rfl (by kernel_rfl) (by kernel_rfl) (by kernel_rfl) (fun _ _ _ h => h) (.inl ⟨by rfl, fun u hu => by obtain ⟨e0, e1, e2, e3, e4, e5, e6, e7⟩ := hS u hu; go_simp⟩) Gc3 ?_
  show wpAnyH Try.prog .any _ _ _ _ _ (Act.put _ (some 79) (.agg #[.int .i64 0, .int .i64 1, .int .i64 0, .int .i64 0, .complex .f64 X Y, .string ⟨#[]⟩, .slice ta 0 tc])) _
  simp only [Act.put, List.setIfInBounds_toArray, List.set_cons_zero, List.set_cons_succ]
  refine wpAnyH_ready (rs := [67]) (by kernel_rfl) (by simp) ?_
  refine AllReadyH.cons rfl (fun K hK => ?_) AllReadyH.nil
  go_simp
  refine (cways 1 0 _ _ _ _ _ _).mono ?_
  rintro e wc4 ⟨rfl, kc4⟩
  have Gc4 : Kept (fun _ => False) W wc4 := Gc3.trans kc4 (fun _ _ h => h) (fun _ _ h => h)
  rw [show waysR 1 0 = 0 from rfl]
  refine hK.out _ _ Gc4 (fun _ => ?_)
  clear hK K
  (try show wpAnyH Try.prog .any _ _ _ _ _ (Act.put _ (some 80) (.int .i64 0)) _)
  (try simp only [Act.put, List.setIfInBounds_toArray, List.set_cons_zero, List.set_cons_succ])
  refine wpAnyH_take (i := 68) (v := .bool true) rfl (by kernel_rfl) (by kernel_rfl) (by kernel_rfl) (fun _ _ _ h => h) (.inl ⟨by rfl, fun u hu => by go_simp⟩) Gc4 ?_
  show wpAnyH Try.prog .any _ _ _ _ _ (Act.put _ (some 81) (.bool true)) _
  simp only [Act.put, List.setIfInBounds_toArray, List.set_cons_zero, List.set_cons_succ]
  refine wpAnyH_take (i := 69) (v := .bool true) rfl (by kernel_rfl) (by kernel_rfl) (by kernel_rfl) (fun _ _ _ h => h) (.inl ⟨by rfl, fun u hu => by go_simp⟩) Gc4 ?_
  show wpAnyH Try.prog .any _ _ _ _ _ (Act.put _ (some 82) (.bool true)) _
  simp only [Act.put, List.setIfInBounds_toArray, List.set_cons_zero, List.set_cons_succ]
  refine wpAnyH_take (i := 70) (v := .bool true) rfl (by kernel_rfl) (by kernel_rfl) (by kernel_rfl) (fun _ _ _ h => h) (.inl ⟨by rfl, fun u hu => by go_simp⟩) Gc4 ?_
  show wpAnyH Try.prog .any _ _ _ _ _ (Act.put _ (some 2) (.bool true)) _
  simp only [Act.put, List.setIfInBounds_toArray, List.set_cons_zero, List.set_cons_succ]
  refine wpAnyH_done (by kernel_rfl) ?_ _
  go_wp2
  go_ret
  rw [HF.out]
  exact ⟨rfl, hK2.trans (by assumption) (fun _ _ h => h) (fun _ _ h => h)⟩

set_option maxHeartbeats 4000000 in
set_option maxRecDepth 1000000 in
theorem form_ret (pl : Int) : FC ⟨pl, 15, 0, 0, 0, 0, [], []⟩ := by
  intro F tv w hT
  obtain ⟨ta, tc, rfl⟩ := hT.shape
  have HF : Hid (formR ⟨pl, 15, 0, 0, 0, 0, [], []⟩ = true) := rfl
  have h00 : (FloatKind.f64.format.order (floatOfInt .f64 0) 0 == some .eq) = true := by decide
  unfold insC
  simp only [List.length_nil]
  rw [show toStr [] = ⟨#[]⟩ from rfl]
  generalize floatOfInt .f64 0 = X at *
  have hly := clayout 15 (w.alloc (.cells #[.int .i64 pl, .int .i64 15, .int .i64 0, .int .i64 0, .complex .f64 X X, .string ⟨#[]⟩, .slice ta 0 tc] 34))
  rw [show layS 15 = [] from rfl, show isOp 15 = true from rfl, show toStr [] = ⟨#[]⟩ from rfl] at hly
  have hBI : ((w.alloc (.cells #[.int .i64 pl, .int .i64 15, .int .i64 0, .int .i64 0, .complex .f64 X X, .string ⟨#[]⟩, .slice ta 0 tc] 34)).alloc (.cells #[.string ⟨#[]⟩] 9)).heap[w.heap.size]? = some (.cells #[.int .i64 pl, .int .i64 15, .int .i64 0, .int .i64 0, .complex .f64 X X, .string ⟨#[]⟩, .slice ta 0 tc] 34 (0, 0)) := (Below.heap_alloc _ _ _ (by simp)).trans (heap_alloc_new w _)
  have hBS : ((w.alloc (.cells #[.int .i64 pl, .int .i64 15, .int .i64 0, .int .i64 0, .complex .f64 X X, .string ⟨#[]⟩, .slice ta 0 tc] 34)).alloc (.cells #[.string ⟨#[]⟩] 9)).heap[w.heap.size + 1]? = some (.cells #[.string ⟨#[]⟩] 9 (0, 0)) := by
    have := heap_alloc_new (w.alloc (.cells #[.int .i64 pl, .int .i64 15, .int .i64 0, .int .i64 0, .complex .f64 X X, .string ⟨#[]⟩, .slice ta 0 tc] 34)) (.cells #[.string ⟨#[]⟩] 9)
    simpa using this
  have hK2 : Kept (fun _ => False) w ((w.alloc (.cells #[.int .i64 pl, .int .i64 15, .int .i64 0, .int .i64 0, .complex .f64 X X, .string ⟨#[]⟩, .slice ta 0 tc] 34)).alloc (.cells #[.string ⟨#[]⟩] 9)) := ((Kept.refl _ w).alloc _).alloc _
  go_enter Try.func22, Try.ntmps22
  go_wp2_with fail
  refine hly.mono ?_
  rintro e w1 ⟨rfl, rfl⟩
  go_wp2_with fail
  clear hly
  generalize ((w.alloc (.cells #[.int .i64 pl, .int .i64 15, .int .i64 0, .int .i64 0, .complex .f64 X X, .string ⟨#[]⟩, .slice ta 0 tc] 34)).alloc (.cells #[.string ⟨#[]⟩] 9)) = W at *
  have hS : ∀ u, Kept (fun _ => False) W u → u.cell? ⟨w.heap.size, 0, none⟩ = some (.int .i64 pl) ∧ u.cell? ⟨w.heap.size, 1, none⟩ = some (.int .i64 15) ∧ u.cell? ⟨w.heap.size, 2, none⟩ = some (.int .i64 0) ∧ u.cell? ⟨w.heap.size, 3, none⟩ = some (.int .i64 0) ∧ u.cell? ⟨w.heap.size, 4, none⟩ = some (.complex .f64 X X) ∧ u.cell? ⟨w.heap.size, 5, none⟩ = some (.string ⟨#[]⟩) ∧ u.cell? ⟨w.heap.size, 6, none⟩ = some (.slice ta 0 tc) ∧ u.cell? ⟨w.heap.size + 1, 0, none⟩ = some (.string ⟨#[]⟩) := fun u k => by
    have g1 := (k.block _ (Array.getElem?_eq_some_iff.1 hBI).1 (fun h => h)).trans hBI
    have g2 := (k.block _ (Array.getElem?_eq_some_iff.1 hBS).1 (fun h => h)).trans hBS
    refine ⟨?_, ?_, ?_, ?_, ?_, ?_, ?_, ?_⟩
    all_goals first | (rw [cell_of_row _ _ _ _ _ _ g1]; rfl) | (rw [cell_of_row _ _ _ _ _ _ g2]; rfl)
  have G0 : Kept (fun _ => False) W W.drew := (Kept.refl _ W).drew
  have G1 := hS _ G0
  clear hBI hBS
  dsimp only [List.append]
  have hmx : Try.prog.follows .mixedOrders = true := by kernel_rfl
  refine wp_region_held (S := fun u => Kept (fun _ => False) W u) hmx ?_
  show wpAnyH Try.prog .any _ _ _ _ _ _ W.drew
  refine wpAnyH_take (i := 0) (v := .bool true) rfl (by kernel_rfl) (by kernel_rfl) (by kernel_rfl) (fun _ _ _ h => h) (.inl ⟨by rfl, fun u hu => by go_simp⟩) G0 ?_
  show wpAnyH Try.prog .any _ _ _ _ _ (Act.put _ (some 13) (.bool true)) _
  simp only [Act.put, List.setIfInBounds_toArray, List.set_cons_zero, List.set_cons_succ]
  refine wpAnyH_take (i := 1) (v := .bool true) rfl (by kernel_rfl) (by kernel_rfl) (by kernel_rfl) (fun _ _ _ h => h) (.inl ⟨by rfl, fun u hu => by go_simp⟩) G0 ?_
  show wpAnyH Try.prog .any _ _ _ _ _ (Act.put _ (some 14) (.bool true)) _
  simp only [Act.put, List.setIfInBounds_toArray, List.set_cons_zero, List.set_cons_succ]
  refine wpAnyH_take (i := 2) (v := .pointer (some ⟨w.heap.size, 4, none⟩)) rfl (by kernel_rfl) (by kernel_rfl) (by kernel_rfl) (fun _ _ _ h => h) (.inl ⟨by rfl, fun u hu => by go_simp⟩) G0 ?_
  show wpAnyH Try.prog .any _ _ _ _ _ (Act.put _ (some 15) (.pointer (some ⟨w.heap.size, 4, none⟩))) _
  simp only [Act.put, List.setIfInBounds_toArray, List.set_cons_zero, List.set_cons_succ]
  refine wpAnyH_take (i := 3) (v := .complex .f64 X X) rfl (by kernel_rfl) (by kernel_rfl) (by kernel_rfl) (fun _ _ _ h => h) (.inl ⟨by rfl, fun u hu => by obtain ⟨e0, e1, e2, e3, e4, e5, e6, e7⟩ := hS u hu; go_simp⟩) G0 ?_
  show wpAnyH Try.prog .any _ _ _ _ _ (Act.put _ (some 16) (.complex .f64 X X)) _
  simp only [Act.put, List.setIfInBounds_toArray, List.set_cons_zero, List.set_cons_succ]
  refine wpAnyH_take (i := 4) (v := .bool true) rfl (by kernel_rfl) (by kernel_rfl) (by kernel_rfl) (fun _ _ _ h => h) (.inl ⟨by rfl, fun u hu => by go_simp⟩) G0 ?_
  show wpAnyH Try.prog .any _ _ _ _ _ (Act.put _ (some 17) (.bool true)) _
  simp only [Act.put, List.setIfInBounds_toArray, List.set_cons_zero, List.set_cons_succ]
  refine wpAnyH_take (i := 5) (v := .bool true) rfl (by kernel_rfl) (by kernel_rfl) (by kernel_rfl) (fun _ _ _ h => h) (.inl ⟨by rfl, fun u hu => by go_simp⟩) G0 ?_
  show wpAnyH Try.prog .any _ _ _ _ _ (Act.put _ (some 18) (.bool true)) _
  simp only [Act.put, List.setIfInBounds_toArray, List.set_cons_zero, List.set_cons_succ]
  refine wpAnyH_take (i := 6) (v := undef) rfl (by kernel_rfl) (by kernel_rfl) (by kernel_rfl) (fun _ _ _ h => h) (.inr ⟨by rfl, rfl⟩) G0 ?_
  show wpAnyH Try.prog .any _ _ _ _ _ (Act.put _ (some 19) (undef)) _
  simp only [Act.put, List.setIfInBounds_toArray, List.set_cons_zero, List.set_cons_succ]
  refine wpAnyH_take (i := 7) (v := undef) rfl (by kernel_rfl) (by kernel_rfl) (by kernel_rfl) (fun _ _ _ h => h) (.inr ⟨by rfl, rfl⟩) G0 ?_
  show wpAnyH Try.prog .any _ _ _ _ _ (Act.put _ (some 20) (undef)) _
  simp only [Act.put, List.setIfInBounds_toArray, List.set_cons_zero, List.set_cons_succ]
  refine wpAnyH_take (i := 8) (v := undef) rfl (by kernel_rfl) (by kernel_rfl) (by kernel_rfl) (fun _ _ _ h => h) (.inr ⟨by rfl, rfl⟩) G0 ?_
  show wpAnyH Try.prog .any _ _ _ _ _ (Act.put _ (some 21) (undef)) _
  simp only [Act.put, List.setIfInBounds_toArray, List.set_cons_zero, List.set_cons_succ]
  refine wpAnyH_take (i := 9) (v := undef) rfl (by kernel_rfl) (by kernel_rfl) (by kernel_rfl) (fun _ _ _ h => h) (.inr ⟨by rfl, rfl⟩) G0 ?_
  show wpAnyH Try.prog .any _ _ _ _ _ (Act.put _ (some 22) (undef)) _
  simp only [Act.put, List.setIfInBounds_toArray, List.set_cons_zero, List.set_cons_succ]
  refine wpAnyH_take (i := 10) (v := undef) rfl (by kernel_rfl) (by kernel_rfl) (by kernel_rfl) (fun _ _ _ h => h) (.inr ⟨by rfl, rfl⟩) G0 ?_
  show wpAnyH Try.prog .any _ _ _ _ _ (Act.put _ (some 23) (undef)) _
  simp only [Act.put, List.setIfInBounds_toArray, List.set_cons_zero, List.set_cons_succ]
  refine wpAnyH_take (i := 11) (v := undef) rfl (by kernel_rfl) (by kernel_rfl) (by kernel_rfl) (fun _ _ _ h => h) (.inr ⟨by rfl, rfl⟩) G0 ?_
  show wpAnyH Try.prog .any _ _ _ _ _ (Act.put _ (some 24) (undef)) _
  simp only [Act.put, List.setIfInBounds_toArray, List.set_cons_zero, List.set_cons_succ]
  refine wpAnyH_take (i := 12) (v := undef) rfl (by kernel_rfl) (by kernel_rfl) (by kernel_rfl) (fun _ _ _ h => h) (.inr ⟨by rfl, rfl⟩) G0 ?_
  show wpAnyH Try.prog .any _ _ _ _ _ (Act.put _ (some 25) (undef)) _
  simp only [Act.put, List.setIfInBounds_toArray, List.set_cons_zero, List.set_cons_succ]
  refine wpAnyH_take (i := 13) (v := .bool true) rfl (by kernel_rfl) (by kernel_rfl) (by kernel_rfl) (fun _ _ _ h => h) (.inl ⟨by rfl, fun u hu => by go_simp⟩) G0 ?_
  show wpAnyH Try.prog .any _ _ _ _ _ (Act.put _ (some 26) (.bool true)) _
  simp only [Act.put, List.setIfInBounds_toArray, List.set_cons_zero, List.set_cons_succ]
  refine wpAnyH_take (i := 14) (v := .bool true) rfl (by kernel_rfl) (by kernel_rfl) (by kernel_rfl) (fun _ _ _ h => h) (.inl ⟨by rfl, fun u hu => by go_simp⟩) G0 ?_
  show wpAnyH Try.prog .any _ _ _ _ _ (Act.put _ (some 27) (.bool true)) _
  simp only [Act.put, List.setIfInBounds_toArray, List.set_cons_zero, List.set_cons_succ]
  refine wpAnyH_take (i := 15) (v := .bool true) rfl (by kernel_rfl) (by kernel_rfl) (by kernel_rfl) (fun _ _ _ h => h) (.inl ⟨by rfl, fun u hu => by go_simp⟩) G0 ?_
  show wpAnyH Try.prog .any _ _ _ _ _ (Act.put _ (some 28) (.bool true)) _
  simp only [Act.put, List.setIfInBounds_toArray, List.set_cons_zero, List.set_cons_succ]
  refine wpAnyH_take (i := 16) (v := .pointer (some ⟨w.heap.size, 5, none⟩)) rfl (by kernel_rfl) (by kernel_rfl) (by kernel_rfl) (fun _ _ _ h => h) (.inl ⟨by rfl, fun u hu => by go_simp⟩) G0 ?_
  show wpAnyH Try.prog .any _ _ _ _ _ (Act.put _ (some 29) (.pointer (some ⟨w.heap.size, 5, none⟩))) _
  simp only [Act.put, List.setIfInBounds_toArray, List.set_cons_zero, List.set_cons_succ]
  refine wpAnyH_take (i := 17) (v := .string ⟨#[]⟩) rfl (by kernel_rfl) (by kernel_rfl) (by kernel_rfl) (fun _ _ _ h => h) (.inl ⟨by rfl, fun u hu => by obtain ⟨e0, e1, e2, e3, e4, e5, e6, e7⟩ := hS u hu; go_simp⟩) G0 ?_
  show wpAnyH Try.prog .any _ _ _ _ _ (Act.put _ (some 30) (.string ⟨#[]⟩)) _
  simp only [Act.put, List.setIfInBounds_toArray, List.set_cons_zero, List.set_cons_succ]
  refine wpAnyH_take (i := 18) (v := .bool true) rfl (by kernel_rfl) (by kernel_rfl) (by kernel_rfl) (fun _ _ _ h => h) (.inl ⟨by rfl, fun u hu => by go_simp⟩) G0 ?_
  show wpAnyH Try.prog .any _ _ _ _ _ (Act.put _ (some 31) (.bool true)) _
  simp only [Act.put, List.setIfInBounds_toArray, List.set_cons_zero, List.set_cons_succ]
  refine wpAnyH_take (i := 19) (v := .bool true) rfl (by kernel_rfl) (by kernel_rfl) (by kernel_rfl) (fun _ _ _ h => h) (.inl ⟨by rfl, fun u hu => by go_simp⟩) G0 ?_
  show wpAnyH Try.prog .any _ _ _ _ _ (Act.put _ (some 32) (.bool true)) _
  simp only [Act.put, List.setIfInBounds_toArray, List.set_cons_zero, List.set_cons_succ]
  refine wpAnyH_take (i := 20) (v := undef) rfl (by kernel_rfl) (by kernel_rfl) (by kernel_rfl) (fun _ _ _ h => h) (.inr ⟨by rfl, rfl⟩) G0 ?_
  show wpAnyH Try.prog .any _ _ _ _ _ (Act.put _ (some 33) (undef)) _
  simp only [Act.put, List.setIfInBounds_toArray, List.set_cons_zero, List.set_cons_succ]
  refine wpAnyH_take (i := 21) (v := undef) rfl (by kernel_rfl) (by kernel_rfl) (by kernel_rfl) (fun _ _ _ h => h) (.inr ⟨by rfl, rfl⟩) G0 ?_
  show wpAnyH Try.prog .any _ _ _ _ _ (Act.put _ (some 34) (undef)) _
  simp only [Act.put, List.setIfInBounds_toArray, List.set_cons_zero, List.set_cons_succ]
  refine wpAnyH_take (i := 22) (v := undef) rfl (by kernel_rfl) (by kernel_rfl) (by kernel_rfl) (fun _ _ _ h => h) (.inr ⟨by rfl, rfl⟩) G0 ?_
  show wpAnyH Try.prog .any _ _ _ _ _ (Act.put _ (some 35) (undef)) _
  simp only [Act.put, List.setIfInBounds_toArray, List.set_cons_zero, List.set_cons_succ]
  refine wpAnyH_take (i := 23) (v := undef) rfl (by kernel_rfl) (by kernel_rfl) (by kernel_rfl) (fun _ _ _ h => h) (.inr ⟨by rfl, rfl⟩) G0 ?_
  show wpAnyH Try.prog .any _ _ _ _ _ (Act.put _ (some 36) (undef)) _
  simp only [Act.put, List.setIfInBounds_toArray, List.set_cons_zero, List.set_cons_succ]
  refine wpAnyH_take (i := 24) (v := undef) rfl (by kernel_rfl) (by kernel_rfl) (by kernel_rfl) (fun _ _ _ h => h) (.inr ⟨by rfl, rfl⟩) G0 ?_
  show wpAnyH Try.prog .any _ _ _ _ _ (Act.put _ (some 37) (undef)) _
  simp only [Act.put, List.setIfInBounds_toArray, List.set_cons_zero, List.set_cons_succ]
  refine wpAnyH_take (i := 25) (v := undef) rfl (by kernel_rfl) (by kernel_rfl) (by kernel_rfl) (fun _ _ _ h => h) (.inr ⟨by rfl, rfl⟩) G0 ?_
  show wpAnyH Try.prog .any _ _ _ _ _ (Act.put _ (some 38) (undef)) _
  simp only [Act.put, List.setIfInBounds_toArray, List.set_cons_zero, List.set_cons_succ]
  refine wpAnyH_take (i := 26) (v := undef) rfl (by kernel_rfl) (by kernel_rfl) (by kernel_rfl) (fun _ _ _ h => h) (.inr ⟨by rfl, rfl⟩) G0 ?_
  show wpAnyH Try.prog .any _ _ _ _ _ (Act.put _ (some 39) (undef)) _
  simp only [Act.put, List.setIfInBounds_toArray, List.set_cons_zero, List.set_cons_succ]
  refine wpAnyH_take (i := 27) (v := undef) rfl (by kernel_rfl) (by kernel_rfl) (by kernel_rfl) (fun _ _ _ h => h) (.inr ⟨by rfl, rfl⟩) G0 ?_
  show wpAnyH Try.prog .any _ _ _ _ _ (Act.put _ (some 40) (undef)) _
  simp only [Act.put, List.setIfInBounds_toArray, List.set_cons_zero, List.set_cons_succ]
  refine wpAnyH_take (i := 28) (v := .bool true) rfl (by kernel_rfl) (by kernel_rfl) (by kernel_rfl) (fun _ _ _ h => h) (.inl ⟨by rfl, fun u hu => by go_simp⟩) G0 ?_
  show wpAnyH Try.prog .any _ _ _ _ _ (Act.put _ (some 41) (.bool true)) _
  simp only [Act.put, List.setIfInBounds_toArray, List.set_cons_zero, List.set_cons_succ]
  refine wpAnyH_take (i := 29) (v := .bool true) rfl (by kernel_rfl) (by kernel_rfl) (by kernel_rfl) (fun _ _ _ h => h) (.inl ⟨by rfl, fun u hu => by go_simp⟩) G0 ?_
  show wpAnyH Try.prog .any _ _ _ _ _ (Act.put _ (some 42) (.bool true)) _
  simp only [Act.put, List.setIfInBounds_toArray, List.set_cons_zero, List.set_cons_succ]
  refine wpAnyH_take (i := 30) (v := .bool true) rfl (by kernel_rfl) (by kernel_rfl) (by kernel_rfl) (fun _ _ _ h => h) (.inl ⟨by rfl, fun u hu => by go_simp⟩) G0 ?_
  show wpAnyH Try.prog .any _ _ _ _ _ (Act.put _ (some 43) (.bool true)) _
  simp only [Act.put, List.setIfInBounds_toArray, List.set_cons_zero, List.set_cons_succ]
  refine wpAnyH_take (i := 31) (v := .pointer (some ⟨w.heap.size, 2, none⟩)) rfl (by kernel_rfl) (by kernel_rfl) (by kernel_rfl) (fun _ _ _ h => h) (.inl ⟨by rfl, fun u hu => by go_simp⟩) G0 ?_
  show wpAnyH Try.prog .any _ _ _ _ _ (Act.put _ (some 44) (.pointer (some ⟨w.heap.size, 2, none⟩))) _
  simp only [Act.put, List.setIfInBounds_toArray, List.set_cons_zero, List.set_cons_succ]
  refine wpAnyH_take (i := 32) (v := .int .i64 0) rfl (by kernel_rfl) (by kernel_rfl) (by kernel_rfl) (fun _ _ _ h => h) (.inl ⟨by rfl, fun u hu => by obtain ⟨e0, e1, e2, e3, e4, e5, e6, e7⟩ := hS u hu; go_simp⟩) G0 ?_
  show wpAnyH Try.prog .any _ _ _ _ _ (Act.put _ (some 45) (.int .i64 0)) _
  simp only [Act.put, List.setIfInBounds_toArray, List.set_cons_zero, List.set_cons_succ]
  refine wpAnyH_take (i := 33) (v := .bool true) rfl (by kernel_rfl) (by kernel_rfl) (by kernel_rfl) (fun _ _ _ h => h) (.inl ⟨by rfl, fun u hu => by go_simp⟩) G0 ?_
  show wpAnyH Try.prog .any _ _ _ _ _ (Act.put _ (some 46) (.bool true)) _
  simp only [Act.put, List.setIfInBounds_toArray, List.set_cons_zero, List.set_cons_succ]
  refine wpAnyH_take (i := 34) (v := .bool true) rfl (by kernel_rfl) (by kernel_rfl) (by kernel_rfl) (fun _ _ _ h => h) (.inl ⟨by rfl, fun u hu => by go_simp⟩) G0 ?_
  show wpAnyH Try.prog .any _ _ _ _ _ (Act.put _ (some 47) (.bool true)) _
  simp only [Act.put, List.setIfInBounds_toArray, List.set_cons_zero, List.set_cons_succ]
  refine wpAnyH_take (i := 35) (v := undef) rfl (by kernel_rfl) (by kernel_rfl) (by kernel_rfl) (fun _ _ _ h => h) (.inr ⟨by rfl, rfl⟩) G0 ?_
  show wpAnyH Try.prog .any _ _ _ _ _ (Act.put _ (some 48) (undef)) _
  simp only [Act.put, List.setIfInBounds_toArray, List.set_cons_zero, List.set_cons_succ]
  refine wpAnyH_take (i := 36) (v := undef) rfl (by kernel_rfl) (by kernel_rfl) (by kernel_rfl) (fun _ _ _ h => h) (.inr ⟨by rfl, rfl⟩) G0 ?_
  show wpAnyH Try.prog .any _ _ _ _ _ (Act.put _ (some 49) (undef)) _
  simp only [Act.put, List.setIfInBounds_toArray, List.set_cons_zero, List.set_cons_succ]
  refine wpAnyH_take (i := 37) (v := undef) rfl (by kernel_rfl) (by kernel_rfl) (by kernel_rfl) (fun _ _ _ h => h) (.inr ⟨by rfl, rfl⟩) G0 ?_
  show wpAnyH Try.prog .any _ _ _ _ _ (Act.put _ (some 50) (undef)) _
  simp only [Act.put, List.setIfInBounds_toArray, List.set_cons_zero, List.set_cons_succ]
  refine wpAnyH_take (i := 38) (v := undef) rfl (by kernel_rfl) (by kernel_rfl) (by kernel_rfl) (fun _ _ _ h => h) (.inr ⟨by rfl, rfl⟩) G0 ?_
  show wpAnyH Try.prog .any _ _ _ _ _ (Act.put _ (some 51) (undef)) _
  simp only [Act.put, List.setIfInBounds_toArray, List.set_cons_zero, List.set_cons_succ]
  refine wpAnyH_take (i := 39) (v := undef) rfl (by kernel_rfl) (by kernel_rfl) (by kernel_rfl) (fun _ _ _ h => h) (.inr ⟨by rfl, rfl⟩) G0 ?_
  show wpAnyH Try.prog .any _ _ _ _ _ (Act.put _ (some 52) (undef)) _
  simp only [Act.put, List.setIfInBounds_toArray, List.set_cons_zero, List.set_cons_succ]
  refine wpAnyH_take (i := 40) (v := undef) rfl (by kernel_rfl) (by kernel_rfl) (by kernel_rfl) (fun _ _ _ h => h) (.inr ⟨by rfl, rfl⟩) G0 ?_
  show wpAnyH Try.prog .any _ _ _ _ _ (Act.put _ (some 53) (undef)) _
  simp only [Act.put, List.setIfInBounds_toArray, List.set_cons_zero, List.set_cons_succ]
  refine wpAnyH_take (i := 41) (v := undef) rfl (by kernel_rfl) (by kernel_rfl) (by kernel_rfl) (fun _ _ _ h => h) (.inr ⟨by rfl, rfl⟩) G0 ?_
  show wpAnyH Try.prog .any _ _ _ _ _ (Act.put _ (some 54) (undef)) _
  simp only [Act.put, List.setIfInBounds_toArray, List.set_cons_zero, List.set_cons_succ]
  refine wpAnyH_take (i := 42) (v := .bool true) rfl (by kernel_rfl) (by kernel_rfl) (by kernel_rfl) (fun _ _ _ h => h) (.inl ⟨by rfl, fun u hu => by go_simp⟩) G0 ?_
  show wpAnyH Try.prog .any _ _ _ _ _ (Act.put _ (some 55) (.bool true)) _
  simp only [Act.put, List.setIfInBounds_toArray, List.set_cons_zero, List.set_cons_succ]
  refine wpAnyH_take (i := 43) (v := .bool true) rfl (by kernel_rfl) (by kernel_rfl) (by kernel_rfl) (fun _ _ _ h => h) (.inl ⟨by rfl, fun u hu => by go_simp⟩) G0 ?_
  show wpAnyH Try.prog .any _ _ _ _ _ (Act.put _ (some 56) (.bool true)) _
  simp only [Act.put, List.setIfInBounds_toArray, List.set_cons_zero, List.set_cons_succ]
  refine wpAnyH_take (i := 44) (v := .bool true) rfl (by kernel_rfl) (by kernel_rfl) (by kernel_rfl) (fun _ _ _ h => h) (.inl ⟨by rfl, fun u hu => by go_simp⟩) G0 ?_
  show wpAnyH Try.prog .any _ _ _ _ _ (Act.put _ (some 57) (.bool true)) _
  simp only [Act.put, List.setIfInBounds_toArray, List.set_cons_zero, List.set_cons_succ]
  refine wpAnyH_take (i := 45) (v := .pointer (some ⟨w.heap.size, 3, none⟩)) rfl (by kernel_rfl) (by kernel_rfl) (by kernel_rfl) (fun _ _ _ h => h) (.inl ⟨by rfl, fun u hu => by go_simp⟩) G0 ?_
  show wpAnyH Try.prog .any _ _ _ _ _ (Act.put _ (some 58) (.pointer (some ⟨w.heap.size, 3, none⟩))) _
  simp only [Act.put, List.setIfInBounds_toArray, List.set_cons_zero, List.set_cons_succ]
  refine wpAnyH_take (i := 46) (v := .int .i64 0) rfl (by kernel_rfl) (by kernel_rfl) (by kernel_rfl) (fun _ _ _ h => h) (.inl ⟨by rfl, fun u hu => by obtain ⟨e0, e1, e2, e3, e4, e5, e6, e7⟩ := hS u hu; go_simp⟩) G0 ?_
  show wpAnyH Try.prog .any _ _ _ _ _ (Act.put _ (some 59) (.int .i64 0)) _
  simp only [Act.put, List.setIfInBounds_toArray, List.set_cons_zero, List.set_cons_succ]
  refine wpAnyH_take (i := 47) (v := .bool true) rfl (by kernel_rfl) (by kernel_rfl) (by kernel_rfl) (fun _ _ _ h => h) (.inl ⟨by rfl, fun u hu => by go_simp⟩) G0 ?_
  show wpAnyH Try.prog .any _ _ _ _ _ (Act.put _ (some 60) (.bool true)) _
  simp only [Act.put, List.setIfInBounds_toArray, List.set_cons_zero, List.set_cons_succ]
  refine wpAnyH_take (i := 48) (v := .bool true) rfl (by kernel_rfl) (by kernel_rfl) (by kernel_rfl) (fun _ _ _ h => h) (.inl ⟨by rfl, fun u hu => by go_simp⟩) G0 ?_
  show wpAnyH Try.prog .any _ _ _ _ _ (Act.put _ (some 61) (.bool true)) _
  simp only [Act.put, List.setIfInBounds_toArray, List.set_cons_zero, List.set_cons_succ]
  refine wpAnyH_take (i := 49) (v := undef) rfl (by kernel_rfl) (by kernel_rfl) (by kernel_rfl) (fun _ _ _ h => h) (.inr ⟨by rfl, rfl⟩) G0 ?_
  show wpAnyH Try.prog .any _ _ _ _ _ (Act.put _ (some 62) (undef)) _
  simp only [Act.put, List.setIfInBounds_toArray, List.set_cons_zero, List.set_cons_succ]
  refine wpAnyH_take (i := 50) (v := undef) rfl (by kernel_rfl) (by kernel_rfl) (by kernel_rfl) (fun _ _ _ h => h) (.inr ⟨by rfl, rfl⟩) G0 ?_
  show wpAnyH Try.prog .any _ _ _ _ _ (Act.put _ (some 63) (undef)) _
  simp only [Act.put, List.setIfInBounds_toArray, List.set_cons_zero, List.set_cons_succ]
  refine wpAnyH_take (i := 51) (v := undef) rfl (by kernel_rfl) (by kernel_rfl) (by kernel_rfl) (fun _ _ _ h => h) (.inr ⟨by rfl, rfl⟩) G0 ?_
  show wpAnyH Try.prog .any _ _ _ _ _ (Act.put _ (some 64) (undef)) _
  simp only [Act.put, List.setIfInBounds_toArray, List.set_cons_zero, List.set_cons_succ]
  refine wpAnyH_take (i := 52) (v := undef) rfl (by kernel_rfl) (by kernel_rfl) (by kernel_rfl) (fun _ _ _ h => h) (.inr ⟨by rfl, rfl⟩) G0 ?_
  show wpAnyH Try.prog .any _ _ _ _ _ (Act.put _ (some 65) (undef)) _
  simp only [Act.put, List.setIfInBounds_toArray, List.set_cons_zero, List.set_cons_succ]
  refine wpAnyH_take (i := 53) (v := undef) rfl (by kernel_rfl) (by kernel_rfl) (by kernel_rfl) (fun _ _ _ h => h) (.inr ⟨by rfl, rfl⟩) G0 ?_
  show wpAnyH Try.prog .any _ _ _ _ _ (Act.put _ (some 66) (undef)) _
  simp only [Act.put, List.setIfInBounds_toArray, List.set_cons_zero, List.set_cons_succ]
  refine wpAnyH_take (i := 54) (v := undef) rfl (by kernel_rfl) (by kernel_rfl) (by kernel_rfl) (fun _ _ _ h => h) (.inr ⟨by rfl, rfl⟩) G0 ?_
  show wpAnyH Try.prog .any _ _ _ _ _ (Act.put _ (some 67) (undef)) _
  simp only [Act.put, List.setIfInBounds_toArray, List.set_cons_zero, List.set_cons_succ]
  refine wpAnyH_take (i := 55) (v := undef) rfl (by kernel_rfl) (by kernel_rfl) (by kernel_rfl) (fun _ _ _ h => h) (.inr ⟨by rfl, rfl⟩) G0 ?_
  show wpAnyH Try.prog .any _ _ _ _ _ (Act.put _ (some 68) (undef)) _
  simp only [Act.put, List.setIfInBounds_toArray, List.set_cons_zero, List.set_cons_succ]
  refine wpAnyH_take (i := 56) (v := .bool true) rfl (by kernel_rfl) (by kernel_rfl) (by kernel_rfl) (fun _ _ _ h => h) (.inl ⟨by rfl, fun u hu => by go_simp⟩) G0 ?_
  show wpAnyH Try.prog .any _ _ _ _ _ (Act.put _ (some 69) (.bool true)) _
  simp only [Act.put, List.setIfInBounds_toArray, List.set_cons_zero, List.set_cons_succ]
  refine wpAnyH_take (i := 57) (v := .bool true) rfl (by kernel_rfl) (by kernel_rfl) (by kernel_rfl) (fun _ _ _ h => h) (.inl ⟨by rfl, fun u hu => by go_simp⟩) G0 ?_
  show wpAnyH Try.prog .any _ _ _ _ _ (Act.put _ (some 70) (.bool true)) _
  simp only [Act.put, List.setIfInBounds_toArray, List.set_cons_zero, List.set_cons_succ]
  refine wpAnyH_take (i := 58) (v := .bool true) rfl (by kernel_rfl) (by kernel_rfl) (by kernel_rfl) (fun _ _ _ h => h) (.inl ⟨by rfl, fun u hu => by go_simp⟩) G0 ?_
  show wpAnyH Try.prog .any _ _ _ _ _ (Act.put _ (some 71) (.bool true)) _
  simp only [Act.put, List.setIfInBounds_toArray, List.set_cons_zero, List.set_cons_succ]
  refine wpAnyH_take (i := 59) (v := .agg #[.int .i64 pl, .int .i64 15, .int .i64 0, .int .i64 0, .complex .f64 X X, .string ⟨#[]⟩, .slice ta 0 tc]) rfl (by kernel_rfl) (by kernel_rfl) (by kernel_rfl) (fun _ _ _ h => h) (.inl ⟨by rfl, fun u hu => by obtain ⟨e0, e1, e2, e3, e4, e5, e6, e7⟩ := hS u hu; go_simp⟩) G0 ?_
  show wpAnyH Try.prog .any _ _ _ _ _ (Act.put _ (some 72) (.agg #[.int .i64 pl, .int .i64 15, .int .i64 0, .int .i64 0, .complex .f64 X X, .string ⟨#[]⟩, .slice ta 0 tc])) _
  simp only [Act.put, List.setIfInBounds_toArray, List.set_cons_zero, List.set_cons_succ]
  refine wpAnyH_ready (rs := [60]) (by kernel_rfl) (by simp) ?_
  refine AllReadyH.cons rfl (fun K hK => ?_) AllReadyH.nil
  go_simp
  refine (ccount 15 0 _ _ _ _ _ _).mono ?_
  rintro e wc1 ⟨rfl, kc1⟩
  have Gc1 : Kept (fun _ => False) W wc1 := G0.trans kc1 (fun _ _ h => h) (fun _ _ h => h)
  rw [show rcR 15 0 = true from rfl]
  refine hK.out _ _ Gc1 (fun _ => ?_)
  clear hK K
  (try show wpAnyH Try.prog .any _ _ _ _ _ (Act.put _ (some 73) (.bool true)) _)
  (try simp only [Act.put, List.setIfInBounds_toArray, List.set_cons_zero, List.set_cons_succ])
  refine wpAnyH_take (i := 61) (v := .bool true) rfl (by kernel_rfl) (by kernel_rfl) (by kernel_rfl) (fun _ _ _ h => h) (.inl ⟨by rfl, fun u hu => by go_simp⟩) Gc1 ?_
  show wpAnyH Try.prog .any _ _ _ _ _ (Act.put _ (some 74) (.bool true)) _
  simp only [Act.put, List.setIfInBounds_toArray, List.set_cons_zero, List.set_cons_succ]
  refine wpAnyH_take (i := 62) (v := .bool true) rfl (by kernel_rfl) (by kernel_rfl) (by kernel_rfl) (fun _ _ _ h => h) (.inl ⟨by rfl, fun u hu => by go_simp⟩) Gc1 ?_
  show wpAnyH Try.prog .any _ _ _ _ _ (Act.put _ (some 75) (.bool true)) _
  simp only [Act.put, List.setIfInBounds_toArray, List.set_cons_zero, List.set_cons_succ]
  refine wpAnyH_take (i := 63) (v := .pointer (some ⟨w.heap.size, 6, none⟩)) rfl (by kernel_rfl) (by kernel_rfl) (by kernel_rfl) (fun _ _ _ h => h) (.inl ⟨by rfl, fun u hu => by go_simp⟩) Gc1 ?_
  show wpAnyH Try.prog .any _ _ _ _ _ (Act.put _ (some 76) (.pointer (some ⟨w.heap.size, 6, none⟩))) _
  simp only [Act.put, List.setIfInBounds_toArray, List.set_cons_zero, List.set_cons_succ]
  refine wpAnyH_take (i := 64) (v := .slice ta 0 tc) rfl (by kernel_rfl) (by kernel_rfl) (by kernel_rfl) (fun _ _ _ h => h) (.inl ⟨by rfl, fun u hu => by obtain ⟨e0, e1, e2, e3, e4, e5, e6, e7⟩ := hS u hu; go_simp⟩) Gc1 ?_
  show wpAnyH Try.prog .any _ _ _ _ _ (Act.put _ (some 77) (.slice ta 0 tc)) _
  simp only [Act.put, List.setIfInBounds_toArray, List.set_cons_zero, List.set_cons_succ]
  refine wpAnyH_take (i := 65) (v := .int .i64 0) rfl (by kernel_rfl) (by kernel_rfl) (by kernel_rfl) (fun _ _ _ h => h) (.inl ⟨by rfl, fun u hu => by go_simp⟩) Gc1 ?_
  show wpAnyH Try.prog .any _ _ _ _ _ (Act.put _ (some 78) (.int .i64 0)) _
  simp only [Act.put, List.setIfInBounds_toArray, List.set_cons_zero, List.set_cons_succ]
  refine wpAnyH_take (i := 66) (v := .agg #[.int .i64 pl, .int .i64 15, .int .i64 0, .int .i64 0, .complex .f64 X X, .string ⟨#[]⟩, .slice ta 0 tc]) rfl (by kernel_rfl) (by kernel_rfl) (by kernel_rfl) (fun _ _ _ h => h) (.inl ⟨by rfl, fun u hu => by obtain ⟨e0, e1, e2, e3, e4, e5, e6, e7⟩ := hS u hu; go_simp⟩) Gc1 ?_
  show wpAnyH Try.prog .any _ _ _ _ _ (Act.put _ (some 79) (.agg #[.int .i64 pl, .int .i64 15, .int .i64 0, .int .i64 0, .complex .f64 X X, .string ⟨#[]⟩, .slice ta 0 tc])) _
  simp only [Act.put, List.setIfInBounds_toArray, List.set_cons_zero, List.set_cons_succ]
  refine wpAnyH_ready (rs := [67]) (by kernel_rfl) (by simp) ?_
  refine AllReadyH.cons rfl (fun K hK => ?_) AllReadyH.nil
  go_simp
  refine (cways 15 0 _ _ _ _ _ _).mono ?_
  rintro e wc2 ⟨rfl, kc2⟩
  have Gc2 : Kept (fun _ => False) W wc2 := Gc1.trans kc2 (fun _ _ h => h) (fun _ _ h => h)
  rw [show waysR 15 0 = 0 from rfl]
  refine hK.out _ _ Gc2 (fun _ => ?_)
  clear hK K
  (try show wpAnyH Try.prog .any _ _ _ _ _ (Act.put _ (some 80) (.int .i64 0)) _)
  (try simp only [Act.put, List.setIfInBounds_toArray, List.set_cons_zero, List.set_cons_succ])
  refine wpAnyH_take (i := 68) (v := .bool true) rfl (by kernel_rfl) (by kernel_rfl) (by kernel_rfl) (fun _ _ _ h => h) (.inl ⟨by rfl, fun u hu => by go_simp⟩) Gc2 ?_
  show wpAnyH Try.prog .any _ _ _ _ _ (Act.put _ (some 81) (.bool true)) _
  simp only [Act.put, List.setIfInBounds_toArray, List.set_cons_zero, List.set_cons_succ]
  refine wpAnyH_take (i := 69) (v := .bool true) rfl (by kernel_rfl) (by kernel_rfl) (by kernel_rfl) (fun _ _ _ h => h) (.inl ⟨by rfl, fun u hu => by go_simp⟩) Gc2 ?_
  show wpAnyH Try.prog .any _ _ _ _ _ (Act.put _ (some 82) (.bool true)) _
  simp only [Act.put, List.setIfInBounds_toArray, List.set_cons_zero, List.set_cons_succ]
  refine wpAnyH_take (i := 70) (v := .bool true) rfl (by kernel_rfl) (by kernel_rfl) (by kernel_rfl) (fun _ _ _ h => h) (.inl ⟨by rfl, fun u hu => by go_simp⟩) Gc2 ?_
  show wpAnyH Try.prog .any _ _ _ _ _ (Act.put _ (some 2) (.bool true)) _
  simp only [Act.put, List.setIfInBounds_toArray, List.set_cons_zero, List.set_cons_succ]
  refine wpAnyH_done (by kernel_rfl) ?_ _
  go_wp2
  go_ret
  rw [HF.out]
  exact ⟨rfl, hK2.trans (by assumption) (fun _ _ h => h) (fun _ _ h => h)⟩

set_option maxHeartbeats 4000000 in
set_option maxRecDepth 1000000 in
theorem form_load : FC ⟨0, 3, 256, 0, 0, 0, [], []⟩ := by
  intro F tv w hT
  obtain ⟨ta, tc, rfl⟩ := hT.shape
  have HF : Hid (formR ⟨0, 3, 256, 0, 0, 0, [], []⟩ = false) := rfl
  have h00 : (FloatKind.f64.format.order (floatOfInt .f64 0) 0 == some .eq) = true := by decide
  unfold insC
  simp only [List.length_nil]
  rw [show toStr [] = ⟨#[]⟩ from rfl]
  generalize floatOfInt .f64 0 = X at *
  have hly := clayout 3 (w.alloc (.cells #[.int .i64 0, .int .i64 3, .int .i64 256, .int .i64 0, .complex .f64 X X, .string ⟨#[]⟩, .slice ta 0 tc] 34))
  rw [show layS 3 = [97] from rfl, show isOp 3 = true from rfl, show toStr [97] = ⟨#[97]⟩ from rfl] at hly
  have hBI : ((w.alloc (.cells #[.int .i64 0, .int .i64 3, .int .i64 256, .int .i64 0, .complex .f64 X X, .string ⟨#[]⟩, .slice ta 0 tc] 34)).alloc (.cells #[.string ⟨#[97]⟩] 9)).heap[w.heap.size]? = some (.cells #[.int .i64 0, .int .i64 3, .int .i64 256, .int .i64 0, .complex .f64 X X, .string ⟨#[]⟩, .slice ta 0 tc] 34 (0, 0)) := (Below.heap_alloc _ _ _ (by simp)).trans (heap_alloc_new w _)
  have hBS : ((w.alloc (.cells #[.int .i64 0, .int .i64 3, .int .i64 256, .int .i64 0, .complex .f64 X X, .string ⟨#[]⟩, .slice ta 0 tc] 34)).alloc (.cells #[.string ⟨#[97]⟩] 9)).heap[w.heap.size + 1]? = some (.cells #[.string ⟨#[97]⟩] 9 (0, 0)) := by
    have := heap_alloc_new (w.alloc (.cells #[.int .i64 0, .int .i64 3, .int .i64 256, .int .i64 0, .complex .f64 X X, .string ⟨#[]⟩, .slice ta 0 tc] 34)) (.cells #[.string ⟨#[97]⟩] 9)
    simpa using this
  have hK2 : Kept (fun _ => False) w ((w.alloc (.cells #[.int .i64 0, .int .i64 3, .int .i64 256, .int .i64 0, .complex .f64 X X, .string ⟨#[]⟩, .slice ta 0 tc] 34)).alloc (.cells #[.string ⟨#[97]⟩] 9)) := ((Kept.refl _ w).alloc _).alloc _
  go_enter Try.func22, Try.ntmps22
  go_wp2_with fail
  refine hly.mono ?_
  rintro e w1 ⟨rfl, rfl⟩
  go_wp2_with fail
  clear hly
  generalize ((w.alloc (.cells #[.int .i64 0, .int .i64 3, .int .i64 256, .int .i64 0, .complex .f64 X X, .string ⟨#[]⟩, .slice ta 0 tc] 34)).alloc (.cells #[.string ⟨#[97]⟩] 9)) = W at *
  have hS : ∀ u, Kept (fun _ => False) W u → u.cell? ⟨w.heap.size, 0, none⟩ = some (.int .i64 0) ∧ u.cell? ⟨w.heap.size, 1, none⟩ = some (.int .i64 3) ∧ u.cell? ⟨w.heap.size, 2, none⟩ = some (.int .i64 256) ∧ u.cell? ⟨w.heap.size, 3, none⟩ = some (.int .i64 0) ∧ u.cell? ⟨w.heap.size, 4, none⟩ = some (.complex .f64 X X) ∧ u.cell? ⟨w.heap.size, 5, none⟩ = some (.string ⟨#[]⟩) ∧ u.cell? ⟨w.heap.size, 6, none⟩ = some (.slice ta 0 tc) ∧ u.cell? ⟨w.heap.size + 1, 0, none⟩ = some (.string ⟨#[97]⟩) := fun u k => by
    have g1 := (k.block _ (Array.getElem?_eq_some_iff.1 hBI).1 (fun h => h)).trans hBI
    have g2 := (k.block _ (Array.getElem?_eq_some_iff.1 hBS).1 (fun h => h)).trans hBS
    refine ⟨?_, ?_, ?_, ?_, ?_, ?_, ?_, ?_⟩
    all_goals first | (rw [cell_of_row _ _ _ _ _ _ g1]; rfl) | (rw [cell_of_row _ _ _ _ _ _ g2]; rfl)
  have G0 : Kept (fun _ => False) W W.drew := (Kept.refl _ W).drew
  have G1 := hS _ G0
  clear hBI hBS
  dsimp only [List.append]
  have hmx : Try.prog.follows .mixedOrders = true := by kernel_rfl
  refine wp_region_held (S := fun u => Kept (fun _ => False) W u) hmx ?_
  show wpAnyH Try.prog .any _ _ _ _ _ _ W.drew
  refine wpAnyH_take (i := 0) (v := .bool true) rfl (by kernel_rfl) (by kernel_rfl) (by kernel_rfl) (fun _ _ _ h => h) (.inl ⟨by rfl, fun u hu => by go_simp⟩) G0 ?_
  show wpAnyH Try.prog .any _ _ _ _ _ (Act.put _ (some 13) (.bool true)) _
  simp only [Act.put, List.setIfInBounds_toArray, List.set_cons_zero, List.set_cons_succ]
  refine wpAnyH_take (i := 1) (v := .bool true) rfl (by kernel_rfl) (by kernel_rfl) (by kernel_rfl) (fun _ _ _ h => h) (.inl ⟨by rfl, fun u hu => by go_simp⟩) G0 ?_
  show wpAnyH Try.prog .any _ _ _ _ _ (Act.put _ (some 14) (.bool true)) _
  simp only [Act.put, List.setIfInBounds_toArray, List.set_cons_zero, List.set_cons_succ]
  refine wpAnyH_take (i := 2) (v := .pointer (some ⟨w.heap.size, 4, none⟩)) rfl (by kernel_rfl) (by kernel_rfl) (by kernel_rfl) (fun _ _ _ h => h) (.inl ⟨by rfl, fun u hu => by go_simp⟩) G0 ?_
  show wpAnyH Try.prog .any _ _ _ _ _ (Act.put _ (some 15) (.pointer (some ⟨w.heap.size, 4, none⟩))) _
  simp only [Act.put, List.setIfInBounds_toArray, List.set_cons_zero, List.set_cons_succ]
  refine wpAnyH_take (i := 3) (v := .complex .f64 X X) rfl (by kernel_rfl) (by kernel_rfl) (by kernel_rfl) (fun _ _ _ h => h) (.inl ⟨by rfl, fun u hu => by obtain ⟨e0, e1, e2, e3, e4, e5, e6, e7⟩ := hS u hu; go_simp⟩) G0 ?_
  show wpAnyH Try.prog .any _ _ _ _ _ (Act.put _ (some 16) (.complex .f64 X X)) _
  simp only [Act.put, List.setIfInBounds_toArray, List.set_cons_zero, List.set_cons_succ]
  refine wpAnyH_take (i := 4) (v := .bool true) rfl (by kernel_rfl) (by kernel_rfl) (by kernel_rfl) (fun _ _ _ h => h) (.inl ⟨by rfl, fun u hu => by go_simp⟩) G0 ?_
  show wpAnyH Try.prog .any _ _ _ _ _ (Act.put _ (some 17) (.bool true)) _
  simp only [Act.put, List.setIfInBounds_toArray, List.set_cons_zero, List.set_cons_succ]
  refine wpAnyH_take (i := 5) (v := .bool true) rfl (by kernel_rfl) (by kernel_rfl) (by kernel_rfl) (fun _ _ _ h => h) (.inl ⟨by rfl, fun u hu => by go_simp⟩) G0 ?_
  show wpAnyH Try.prog .any _ _ _ _ _ (Act.put _ (some 18) (.bool true)) _
  simp only [Act.put, List.setIfInBounds_toArray, List.set_cons_zero, List.set_cons_succ]
  refine wpAnyH_take (i := 6) (v := undef) rfl (by kernel_rfl) (by kernel_rfl) (by kernel_rfl) (fun _ _ _ h => h) (.inr ⟨by rfl, rfl⟩) G0 ?_
  show wpAnyH Try.prog .any _ _ _ _ _ (Act.put _ (some 19) (undef)) _
  simp only [Act.put, List.setIfInBounds_toArray, List.set_cons_zero, List.set_cons_succ]
  refine wpAnyH_take (i := 7) (v := undef) rfl (by kernel_rfl) (by kernel_rfl) (by kernel_rfl) (fun _ _ _ h => h) (.inr ⟨by rfl, rfl⟩) G0 ?_
  show wpAnyH Try.prog .any _ _ _ _ _ (Act.put _ (some 20) (undef)) _
  simp only [Act.put, List.setIfInBounds_toArray, List.set_cons_zero, List.set_cons_succ]
  refine wpAnyH_take (i := 8) (v := undef) rfl (by kernel_rfl) (by kernel_rfl) (by kernel_rfl) (fun _ _ _ h => h) (.inr ⟨by rfl, rfl⟩) G0 ?_
  show wpAnyH Try.prog .any _ _ _ _ _ (Act.put _ (some 21) (undef)) _
  simp only [Act.put, List.setIfInBounds_toArray, List.set_cons_zero, List.set_cons_succ]
  refine wpAnyH_take (i := 9) (v := undef) rfl (by kernel_rfl) (by kernel_rfl) (by kernel_rfl) (fun _ _ _ h => h) (.inr ⟨by rfl, rfl⟩) G0 ?_
  show wpAnyH Try.prog .any _ _ _ _ _ (Act.put _ (some 22) (undef)) _
  simp only [Act.put, List.setIfInBounds_toArray, List.set_cons_zero, List.set_cons_succ]
  refine wpAnyH_take (i := 10) (v := undef) rfl (by kernel_rfl) (by kernel_rfl) (by kernel_rfl) (fun _ _ _ h => h) (.inr ⟨by rfl, rfl⟩) G0 ?_
  show wpAnyH Try.prog .any _ _ _ _ _ (Act.put _ (some 23) (undef)) _
  simp only [Act.put, List.setIfInBounds_toArray, List.set_cons_zero, List.set_cons_succ]
  refine wpAnyH_take (i := 11) (v := undef) rfl (by kernel_rfl) (by kernel_rfl) (by kernel_rfl) (fun _ _ _ h => h) (.inr ⟨by rfl, rfl⟩) G0 ?_
  show wpAnyH Try.prog .any _ _ _ _ _ (Act.put _ (some 24) (undef)) _
  simp only [Act.put, List.setIfInBounds_toArray, List.set_cons_zero, List.set_cons_succ]
  refine wpAnyH_take (i := 12) (v := undef) rfl (by kernel_rfl) (by kernel_rfl) (by kernel_rfl) (fun _ _ _ h => h) (.inr ⟨by rfl, rfl⟩) G0 ?_
  show wpAnyH Try.prog .any _ _ _ _ _ (Act.put _ (some 25) (undef)) _
  simp only [Act.put, List.setIfInBounds_toArray, List.set_cons_zero, List.set_cons_succ]
  refine wpAnyH_take (i := 13) (v := .bool true) rfl (by kernel_rfl) (by kernel_rfl) (by kernel_rfl) (fun _ _ _ h => h) (.inl ⟨by rfl, fun u hu => by go_simp⟩) G0 ?_
  show wpAnyH Try.prog .any _ _ _ _ _ (Act.put _ (some 26) (.bool true)) _
  simp only [Act.put, List.setIfInBounds_toArray, List.set_cons_zero, List.set_cons_succ]
  refine wpAnyH_take (i := 14) (v := .bool true) rfl (by kernel_rfl) (by kernel_rfl) (by kernel_rfl) (fun _ _ _ h => h) (.inl ⟨by rfl, fun u hu => by go_simp⟩) G0 ?_
  show wpAnyH Try.prog .any _ _ _ _ _ (Act.put _ (some 27) (.bool true)) _
  simp only [Act.put, List.setIfInBounds_toArray, List.set_cons_zero, List.set_cons_succ]
  refine wpAnyH_take (i := 15) (v := .bool true) rfl (by kernel_rfl) (by kernel_rfl) (by kernel_rfl) (fun _ _ _ h => h) (.inl ⟨by rfl, fun u hu => by go_simp⟩) G0 ?_
  show wpAnyH Try.prog .any _ _ _ _ _ (Act.put _ (some 28) (.bool true)) _
  simp only [Act.put, List.setIfInBounds_toArray, List.set_cons_zero, List.set_cons_succ]
  refine wpAnyH_take (i := 16) (v := .pointer (some ⟨w.heap.size, 5, none⟩)) rfl (by kernel_rfl) (by kernel_rfl) (by kernel_rfl) (fun _ _ _ h => h) (.inl ⟨by rfl, fun u hu => by go_simp⟩) G0 ?_
  show wpAnyH Try.prog .any _ _ _ _ _ (Act.put _ (some 29) (.pointer (some ⟨w.heap.size, 5, none⟩))) _
  simp only [Act.put, List.setIfInBounds_toArray, List.set_cons_zero, List.set_cons_succ]
  refine wpAnyH_take (i := 17) (v := .string ⟨#[]⟩) rfl (by kernel_rfl) (by kernel_rfl) (by kernel_rfl) (fun _ _ _ h => h) (.inl ⟨by rfl, fun u hu => by obtain ⟨e0, e1, e2, e3, e4, e5, e6, e7⟩ := hS u hu; go_simp⟩) G0 ?_
  show wpAnyH Try.prog .any _ _ _ _ _ (Act.put _ (some 30) (.string ⟨#[]⟩)) _
  simp only [Act.put, List.setIfInBounds_toArray, List.set_cons_zero, List.set_cons_succ]
  refine wpAnyH_take (i := 18) (v := .bool true) rfl (by kernel_rfl) (by kernel_rfl) (by kernel_rfl) (fun _ _ _ h => h) (.inl ⟨by rfl, fun u hu => by go_simp⟩) G0 ?_
  show wpAnyH Try.prog .any _ _ _ _ _ (Act.put _ (some 31) (.bool true)) _
  simp only [Act.put, List.setIfInBounds_toArray, List.set_cons_zero, List.set_cons_succ]
  refine wpAnyH_take (i := 19) (v := .bool true) rfl (by kernel_rfl) (by kernel_rfl) (by kernel_rfl) (fun _ _ _ h => h) (.inl ⟨by rfl, fun u hu => by go_simp⟩) G0 ?_
  show wpAnyH Try.prog .any _ _ _ _ _ (Act.put _ (some 32) (.bool true)) _
  simp only [Act.put, List.setIfInBounds_toArray, List.set_cons_zero, List.set_cons_succ]
  refine wpAnyH_take (i := 20) (v := undef) rfl (by kernel_rfl) (by kernel_rfl) (by kernel_rfl) (fun _ _ _ h => h) (.inr ⟨by rfl, rfl⟩) G0 ?_
  show wpAnyH Try.prog .any _ _ _ _ _ (Act.put _ (some 33) (undef)) _
  simp only [Act.put, List.setIfInBounds_toArray, List.set_cons_zero, List.set_cons_succ]
  refine wpAnyH_take (i := 21) (v := undef) rfl (by kernel_rfl) (by kernel_rfl) (by kernel_rfl) (fun _ _ _ h => h) (.inr ⟨by rfl, rfl⟩) G0 ?_
  show wpAnyH Try.prog .any _ _ _ _ _ (Act.put _ (some 34) (undef)) _
  simp only [Act.put, List.setIfInBounds_toArray, List.set_cons_zero, List.set_cons_succ]
  refine wpAnyH_take (i := 22) (v := undef) rfl (by kernel_rfl) (by kernel_rfl) (by kernel_rfl) (fun _ _ _ h => h) (.inr ⟨by rfl, rfl⟩) G0 ?_
  show wpAnyH Try.prog .any _ _ _ _ _ (Act.put _ (some 35) (undef)) _
  simp only [Act.put, List.setIfInBounds_toArray, List.set_cons_zero, List.set_cons_succ]
  refine wpAnyH_take (i := 23) (v := undef) rfl (by kernel_rfl) (by kernel_rfl) (by kernel_rfl) (fun _ _ _ h => h) (.inr ⟨by rfl, rfl⟩) G0 ?_
  show wpAnyH Try.prog .any _ _ _ _ _ (Act.put _ (some 36) (undef)) _
  simp only [Act.put, List.setIfInBounds_toArray, List.set_cons_zero, List.set_cons_succ]
  refine wpAnyH_take (i := 24) (v := undef) rfl (by kernel_rfl) (by kernel_rfl) (by kernel_rfl) (fun _ _ _ h => h) (.inr ⟨by rfl, rfl⟩) G0 ?_
  show wpAnyH Try.prog .any _ _ _ _ _ (Act.put _ (some 37) (undef)) _
  simp only [Act.put, List.setIfInBounds_toArray, List.set_cons_zero, List.set_cons_succ]
  refine wpAnyH_take (i := 25) (v := undef) rfl (by kernel_rfl) (by kernel_rfl) (by kernel_rfl) (fun _ _ _ h => h) (.inr ⟨by rfl, rfl⟩) G0 ?_
  show wpAnyH Try.prog .any _ _ _ _ _ (Act.put _ (some 38) (undef)) _
  simp only [Act.put, List.setIfInBounds_toArray, List.set_cons_zero, List.set_cons_succ]
  refine wpAnyH_take (i := 26) (v := undef) rfl (by kernel_rfl) (by kernel_rfl) (by kernel_rfl) (fun _ _ _ h => h) (.inr ⟨by rfl, rfl⟩) G0 ?_
  show wpAnyH Try.prog .any _ _ _ _ _ (Act.put _ (some 39) (undef)) _
  simp only [Act.put, List.setIfInBounds_toArray, List.set_cons_zero, List.set_cons_succ]
  refine wpAnyH_take (i := 27) (v := undef) rfl (by kernel_rfl) (by kernel_rfl) (by kernel_rfl) (fun _ _ _ h => h) (.inr ⟨by rfl, rfl⟩) G0 ?_
  show wpAnyH Try.prog .any _ _ _ _ _ (Act.put _ (some 40) (undef)) _
  simp only [Act.put, List.setIfInBounds_toArray, List.set_cons_zero, List.set_cons_succ]
  refine wpAnyH_take (i := 28) (v := .bool true) rfl (by kernel_rfl) (by kernel_rfl) (by kernel_rfl) (fun _ _ _ h => h) (.inl ⟨by rfl, fun u hu => by go_simp⟩) G0 ?_
  show wpAnyH Try.prog .any _ _ _ _ _ (Act.put _ (some 41) (.bool true)) _
  simp only [Act.put, List.setIfInBounds_toArray, List.set_cons_zero, List.set_cons_succ]
  refine wpAnyH_take (i := 29) (v := .bool true) rfl (by kernel_rfl) (by kernel_rfl) (by kernel_rfl) (fun _ _ _ h => h) (.inl ⟨by rfl, fun u hu => by go_simp⟩) G0 ?_
  show wpAnyH Try.prog .any _ _ _ _ _ (Act.put _ (some 42) (.bool true)) _
  simp only [Act.put, List.setIfInBounds_toArray, List.set_cons_zero, List.set_cons_succ]
  refine wpAnyH_take (i := 30) (v := .bool true) rfl (by kernel_rfl) (by kernel_rfl) (by kernel_rfl) (fun _ _ _ h => h) (.inl ⟨by rfl, fun u hu => by go_simp⟩) G0 ?_
  show wpAnyH Try.prog .any _ _ _ _ _ (Act.put _ (some 43) (.bool true)) _
  simp only [Act.put, List.setIfInBounds_toArray, List.set_cons_zero, List.set_cons_succ]
  refine wpAnyH_take (i := 31) (v := .pointer (some ⟨w.heap.size, 2, none⟩)) rfl (by kernel_rfl) (by kernel_rfl) (by kernel_rfl) (fun _ _ _ h => h) (.inl ⟨by rfl, fun u hu => by go_simp⟩) G0 ?_
  show wpAnyH Try.prog .any _ _ _ _ _ (Act.put _ (some 44) (.pointer (some ⟨w.heap.size, 2, none⟩))) _
  simp only [Act.put, List.setIfInBounds_toArray, List.set_cons_zero, List.set_cons_succ]
  refine wpAnyH_take (i := 32) (v := .int .i64 256) rfl (by kernel_rfl) (by kernel_rfl) (by kernel_rfl) (fun _ _ _ h => h) (.inl ⟨by rfl, fun u hu => by obtain ⟨e0, e1, e2, e3, e4, e5, e6, e7⟩ := hS u hu; go_simp⟩) G0 ?_
  show wpAnyH Try.prog .any _ _ _ _ _ (Act.put _ (some 45) (.int .i64 256)) _
  simp only [Act.put, List.setIfInBounds_toArray, List.set_cons_zero, List.set_cons_succ]
  refine wpAnyH_take (i := 33) (v := .bool false) rfl (by kernel_rfl) (by kernel_rfl) (by kernel_rfl) (fun _ _ _ h => h) (.inl ⟨by rfl, fun u hu => by go_simp⟩) G0 ?_
  show wpAnyH Try.prog .any _ _ _ _ _ (Act.put _ (some 46) (.bool false)) _
  simp only [Act.put, List.setIfInBounds_toArray, List.set_cons_zero, List.set_cons_succ]
  refine wpAnyH_take (i := 34) (v := .bool false) rfl (by kernel_rfl) (by kernel_rfl) (by kernel_rfl) (fun _ _ _ h => h) (.inl ⟨by rfl, fun u hu => by go_simp⟩) G0 ?_
  show wpAnyH Try.prog .any _ _ _ _ _ (Act.put _ (some 47) (.bool false)) _
  simp only [Act.put, List.setIfInBounds_toArray, List.set_cons_zero, List.set_cons_succ]
  refine wpAnyH_take (i := 35) (v := .func (.func 40) #[] #[.pointer (some ⟨w.heap.size + 1, 0, none⟩)]) rfl (by kernel_rfl) (by kernel_rfl) (by kernel_rfl) (fun _ _ _ h => h) (.inl ⟨by rfl, fun u hu => by go_simp⟩) G0 ?_
  show wpAnyH Try.prog .any _ _ _ _ _ (Act.put _ (some 48) (.func (.func 40) #[] #[.pointer (some ⟨w.heap.size + 1, 0, none⟩)])) _
  simp only [Act.put, List.setIfInBounds_toArray, List.set_cons_zero, List.set_cons_succ]
  refine wpAnyH_ready (rs := [36]) (by kernel_rfl) (by simp) ?_
  refine AllReadyH.cons rfl (fun K hK => ?_) AllReadyH.nil
  go_simp
  refine (casked ⟨#[97]⟩ 97 (w.heap.size + 1) _ (hS _ G0).2.2.2.2.2.2.2).mono ?_
  rintro e wc1 ⟨rfl, rfl⟩
  rw [show (decide (0 ≤ Lib.indexByte (ByteArray.mk #[97]).data.toList (Int.toNat 97).toUInt8)) = true from by decide]
  refine hK.out _ _ G0 (fun _ => ?_)
  clear hK K
  (try show wpAnyH Try.prog .any _ _ _ _ _ (Act.put _ (some 49) (.bool true)) _)
  (try simp only [Act.put, List.setIfInBounds_toArray, List.set_cons_zero, List.set_cons_succ])
  refine wpAnyH_take (i := 37) (v := .bool true) rfl (by kernel_rfl) (by kernel_rfl) (by kernel_rfl) (fun _ _ _ h => h) (.inl ⟨by rfl, fun u hu => by go_simp⟩) G0 ?_
  show wpAnyH Try.prog .any _ _ _ _ _ (Act.put _ (some 50) (.bool true)) _
  simp only [Act.put, List.setIfInBounds_toArray, List.set_cons_zero, List.set_cons_succ]
  refine wpAnyH_take (i := 38) (v := .pointer (some ⟨w.heap.size, 2, none⟩)) rfl (by kernel_rfl) (by kernel_rfl) (by kernel_rfl) (fun _ _ _ h => h) (.inl ⟨by rfl, fun u hu => by go_simp⟩) G0 ?_
  show wpAnyH Try.prog .any _ _ _ _ _ (Act.put _ (some 51) (.pointer (some ⟨w.heap.size, 2, none⟩))) _
  simp only [Act.put, List.setIfInBounds_toArray, List.set_cons_zero, List.set_cons_succ]
  refine wpAnyH_take (i := 39) (v := .int .i64 256) rfl (by kernel_rfl) (by kernel_rfl) (by kernel_rfl) (fun _ _ _ h => h) (.inl ⟨by rfl, fun u hu => by obtain ⟨e0, e1, e2, e3, e4, e5, e6, e7⟩ := hS u hu; go_simp⟩) G0 ?_
  show wpAnyH Try.prog .any _ _ _ _ _ (Act.put _ (some 52) (.int .i64 256)) _
  simp only [Act.put, List.setIfInBounds_toArray, List.set_cons_zero, List.set_cons_succ]
  refine wpAnyH_ready (rs := [40]) (by kernel_rfl) (by simp) ?_
  refine AllReadyH.cons rfl (fun K hK => ?_) AllReadyH.nil
  go_simp
  refine (cisByte 256 _).mono ?_
  rintro e wc2 ⟨rfl, rfl⟩
  rw [show byB 256 = false from rfl]
  refine hK.out _ _ G0 (fun _ => ?_)
  clear hK K
  (try show wpAnyH Try.prog .any _ _ _ _ _ (Act.put _ (some 53) (.bool false)) _)
  (try simp only [Act.put, List.setIfInBounds_toArray, List.set_cons_zero, List.set_cons_succ])
  refine wpAnyH_take (i := 41) (v := .bool false) rfl (by kernel_rfl) (by kernel_rfl) (by kernel_rfl) (fun _ _ _ h => h) (.inl ⟨by rfl, fun u hu => by go_simp⟩) G0 ?_
  show wpAnyH Try.prog .any _ _ _ _ _ (Act.put _ (some 54) (.bool false)) _
  simp only [Act.put, List.setIfInBounds_toArray, List.set_cons_zero, List.set_cons_succ]
  refine wpAnyH_take (i := 42) (v := .bool false) rfl (by kernel_rfl) (by kernel_rfl) (by kernel_rfl) (fun _ _ _ h => h) (.inl ⟨by rfl, fun u hu => by go_simp⟩) G0 ?_
  show wpAnyH Try.prog .any _ _ _ _ _ (Act.put _ (some 55) (.bool false)) _
  simp only [Act.put, List.setIfInBounds_toArray, List.set_cons_zero, List.set_cons_succ]
  refine wpAnyH_take (i := 43) (v := .bool false) rfl (by kernel_rfl) (by kernel_rfl) (by kernel_rfl) (fun _ _ _ h => h) (.inl ⟨by rfl, fun u hu => by go_simp⟩) G0 ?_
  show wpAnyH Try.prog .any _ _ _ _ _ (Act.put _ (some 56) (.bool false)) _
  simp only [Act.put, List.setIfInBounds_toArray, List.set_cons_zero, List.set_cons_succ]
  refine wpAnyH_take (i := 44) (v := .bool false) rfl (by kernel_rfl) (by kernel_rfl) (by kernel_rfl) (fun _ _ _ h => h) (.inl ⟨by rfl, fun u hu => by go_simp⟩) G0 ?_
  show wpAnyH Try.prog .any _ _ _ _ _ (Act.put _ (some 57) (.bool false)) _
  simp only [Act.put, List.setIfInBounds_toArray, List.set_cons_zero, List.set_cons_succ]
  refine wpAnyH_take (i := 45) (v := undef) rfl (by kernel_rfl) (by kernel_rfl) (by kernel_rfl) (fun _ _ _ h => h) (.inr ⟨by rfl, rfl⟩) G0 ?_
  show wpAnyH Try.prog .any _ _ _ _ _ (Act.put _ (some 58) (undef)) _
  simp only [Act.put, List.setIfInBounds_toArray, List.set_cons_zero, List.set_cons_succ]
  refine wpAnyH_take (i := 46) (v := undef) rfl (by kernel_rfl) (by kernel_rfl) (by kernel_rfl) (fun _ _ _ h => h) (.inr ⟨by rfl, rfl⟩) G0 ?_
  show wpAnyH Try.prog .any _ _ _ _ _ (Act.put _ (some 59) (undef)) _
  simp only [Act.put, List.setIfInBounds_toArray, List.set_cons_zero, List.set_cons_succ]
  refine wpAnyH_take (i := 47) (v := undef) rfl (by kernel_rfl) (by kernel_rfl) (by kernel_rfl) (fun _ _ _ h => h) (.inr ⟨by rfl, rfl⟩) G0 ?_
  show wpAnyH Try.prog .any _ _ _ _ _ (Act.put _ (some 60) (undef)) _
  simp only [Act.put, List.setIfInBounds_toArray, List.set_cons_zero, List.set_cons_succ]
  refine wpAnyH_take (i := 48) (v := undef) rfl (by kernel_rfl) (by kernel_rfl) (by kernel_rfl) (fun _ _ _ h => h) (.inr ⟨by rfl, rfl⟩) G0 ?_
  show wpAnyH Try.prog .any _ _ _ _ _ (Act.put _ (some 61) (undef)) _
  simp only [Act.put, List.setIfInBounds_toArray, List.set_cons_zero, List.set_cons_succ]
  refine wpAnyH_take (i := 49) (v := undef) rfl (by kernel_rfl) (by kernel_rfl) (by kernel_rfl) (fun _ _ _ h => h) (.inr ⟨by rfl, rfl⟩) G0 ?_
  show wpAnyH Try.prog .any _ _ _ _ _ (Act.put _ (some 62) (undef)) _
  simp only [Act.put, List.setIfInBounds_toArray, List.set_cons_zero, List.set_cons_succ]
  refine wpAnyH_take (i := 50) (v := undef) rfl (by kernel_rfl) (by kernel_rfl) (by kernel_rfl) (fun _ _ _ h => h) (.inr ⟨by rfl, rfl⟩) G0 ?_
  show wpAnyH Try.prog .any _ _ _ _ _ (Act.put _ (some 63) (undef)) _
  simp only [Act.put, List.setIfInBounds_toArray, List.set_cons_zero, List.set_cons_succ]
  refine wpAnyH_take (i := 51) (v := undef) rfl (by kernel_rfl) (by kernel_rfl) (by kernel_rfl) (fun _ _ _ h => h) (.inr ⟨by rfl, rfl⟩) G0 ?_
  show wpAnyH Try.prog .any _ _ _ _ _ (Act.put _ (some 64) (undef)) _
  simp only [Act.put, List.setIfInBounds_toArray, List.set_cons_zero, List.set_cons_succ]
  refine wpAnyH_take (i := 52) (v := undef) rfl (by kernel_rfl) (by kernel_rfl) (by kernel_rfl) (fun _ _ _ h => h) (.inr ⟨by rfl, rfl⟩) G0 ?_
  show wpAnyH Try.prog .any _ _ _ _ _ (Act.put _ (some 65) (undef)) _
  simp only [Act.put, List.setIfInBounds_toArray, List.set_cons_zero, List.set_cons_succ]
  refine wpAnyH_take (i := 53) (v := undef) rfl (by kernel_rfl) (by kernel_rfl) (by kernel_rfl) (fun _ _ _ h => h) (.inr ⟨by rfl, rfl⟩) G0 ?_
  show wpAnyH Try.prog .any _ _ _ _ _ (Act.put _ (some 66) (undef)) _
  simp only [Act.put, List.setIfInBounds_toArray, List.set_cons_zero, List.set_cons_succ]
  refine wpAnyH_take (i := 54) (v := undef) rfl (by kernel_rfl) (by kernel_rfl) (by kernel_rfl) (fun _ _ _ h => h) (.inr ⟨by rfl, rfl⟩) G0 ?_
  show wpAnyH Try.prog .any _ _ _ _ _ (Act.put _ (some 67) (undef)) _
  simp only [Act.put, List.setIfInBounds_toArray, List.set_cons_zero, List.set_cons_succ]
  refine wpAnyH_take (i := 55) (v := undef) rfl (by kernel_rfl) (by kernel_rfl) (by kernel_rfl) (fun _ _ _ h => h) (.inr ⟨by rfl, rfl⟩) G0 ?_
  show wpAnyH Try.prog .any _ _ _ _ _ (Act.put _ (some 68) (undef)) _
  simp only [Act.put, List.setIfInBounds_toArray, List.set_cons_zero, List.set_cons_succ]
  refine wpAnyH_take (i := 56) (v := undef) rfl (by kernel_rfl) (by kernel_rfl) (by kernel_rfl) (fun _ _ _ h => h) (.inr ⟨by rfl, rfl⟩) G0 ?_
  show wpAnyH Try.prog .any _ _ _ _ _ (Act.put _ (some 69) (undef)) _
  simp only [Act.put, List.setIfInBounds_toArray, List.set_cons_zero, List.set_cons_succ]
  refine wpAnyH_take (i := 57) (v := .bool false) rfl (by kernel_rfl) (by kernel_rfl) (by kernel_rfl) (fun _ _ _ h => h) (.inl ⟨by rfl, fun u hu => by go_simp⟩) G0 ?_
  show wpAnyH Try.prog .any _ _ _ _ _ (Act.put _ (some 70) (.bool false)) _
  simp only [Act.put, List.setIfInBounds_toArray, List.set_cons_zero, List.set_cons_succ]
  refine wpAnyH_take (i := 58) (v := .bool false) rfl (by kernel_rfl) (by kernel_rfl) (by kernel_rfl) (fun _ _ _ h => h) (.inl ⟨by rfl, fun u hu => by go_simp⟩) G0 ?_
  show wpAnyH Try.prog .any _ _ _ _ _ (Act.put _ (some 71) (.bool false)) _
  simp only [Act.put, List.setIfInBounds_toArray, List.set_cons_zero, List.set_cons_succ]
  refine wpAnyH_take (i := 59) (v := undef) rfl (by kernel_rfl) (by kernel_rfl) (by kernel_rfl) (fun _ _ _ h => h) (.inr ⟨by rfl, rfl⟩) G0 ?_
  show wpAnyH Try.prog .any _ _ _ _ _ (Act.put _ (some 72) (undef)) _
  simp only [Act.put, List.setIfInBounds_toArray, List.set_cons_zero, List.set_cons_succ]
  refine wpAnyH_take (i := 60) (v := undef) rfl (by kernel_rfl) (by kernel_rfl) (by kernel_rfl) (fun _ _ _ h => h) (.inr ⟨by rfl, rfl⟩) G0 ?_
  show wpAnyH Try.prog .any _ _ _ _ _ (Act.put _ (some 73) (undef)) _
  simp only [Act.put, List.setIfInBounds_toArray, List.set_cons_zero, List.set_cons_succ]
  refine wpAnyH_take (i := 61) (v := .bool false) rfl (by kernel_rfl) (by kernel_rfl) (by kernel_rfl) (fun _ _ _ h => h) (.inl ⟨by rfl, fun u hu => by go_simp⟩) G0 ?_
  show wpAnyH Try.prog .any _ _ _ _ _ (Act.put _ (some 74) (.bool false)) _
  simp only [Act.put, List.setIfInBounds_toArray, List.set_cons_zero, List.set_cons_succ]
  refine wpAnyH_take (i := 62) (v := .bool false) rfl (by kernel_rfl) (by kernel_rfl) (by kernel_rfl) (fun _ _ _ h => h) (.inl ⟨by rfl, fun u hu => by go_simp⟩) G0 ?_
  show wpAnyH Try.prog .any _ _ _ _ _ (Act.put _ (some 75) (.bool false)) _
  simp only [Act.put, List.setIfInBounds_toArray, List.set_cons_zero, List.set_cons_succ]
  refine wpAnyH_take (i := 63) (v := undef) rfl (by kernel_rfl) (by kernel_rfl) (by kernel_rfl) (fun _ _ _ h => h) (.inr ⟨by rfl, rfl⟩) G0 ?_
  show wpAnyH Try.prog .any _ _ _ _ _ (Act.put _ (some 76) (undef)) _
  simp only [Act.put, List.setIfInBounds_toArray, List.set_cons_zero, List.set_cons_succ]
  refine wpAnyH_take (i := 64) (v := undef) rfl (by kernel_rfl) (by kernel_rfl) (by kernel_rfl) (fun _ _ _ h => h) (.inr ⟨by rfl, rfl⟩) G0 ?_
  show wpAnyH Try.prog .any _ _ _ _ _ (Act.put _ (some 77) (undef)) _
  simp only [Act.put, List.setIfInBounds_toArray, List.set_cons_zero, List.set_cons_succ]
  refine wpAnyH_take (i := 65) (v := undef) rfl (by kernel_rfl) (by kernel_rfl) (by kernel_rfl) (fun _ _ _ h => h) (.inr ⟨by rfl, rfl⟩) G0 ?_
  show wpAnyH Try.prog .any _ _ _ _ _ (Act.put _ (some 78) (undef)) _
  simp only [Act.put, List.setIfInBounds_toArray, List.set_cons_zero, List.set_cons_succ]
  refine wpAnyH_take (i := 66) (v := undef) rfl (by kernel_rfl) (by kernel_rfl) (by kernel_rfl) (fun _ _ _ h => h) (.inr ⟨by rfl, rfl⟩) G0 ?_
  show wpAnyH Try.prog .any _ _ _ _ _ (Act.put _ (some 79) (undef)) _
  simp only [Act.put, List.setIfInBounds_toArray, List.set_cons_zero, List.set_cons_succ]
  refine wpAnyH_take (i := 67) (v := undef) rfl (by kernel_rfl) (by kernel_rfl) (by kernel_rfl) (fun _ _ _ h => h) (.inr ⟨by rfl, rfl⟩) G0 ?_
  show wpAnyH Try.prog .any _ _ _ _ _ (Act.put _ (some 80) (undef)) _
  simp only [Act.put, List.setIfInBounds_toArray, List.set_cons_zero, List.set_cons_succ]
  refine wpAnyH_take (i := 68) (v := undef) rfl (by kernel_rfl) (by kernel_rfl) (by kernel_rfl) (fun _ _ _ h => h) (.inr ⟨by rfl, rfl⟩) G0 ?_
  show wpAnyH Try.prog .any _ _ _ _ _ (Act.put _ (some 81) (undef)) _
  simp only [Act.put, List.setIfInBounds_toArray, List.set_cons_zero, List.set_cons_succ]
  refine wpAnyH_take (i := 69) (v := .bool false) rfl (by kernel_rfl) (by kernel_rfl) (by kernel_rfl) (fun _ _ _ h => h) (.inl ⟨by rfl, fun u hu => by go_simp⟩) G0 ?_
  show wpAnyH Try.prog .any _ _ _ _ _ (Act.put _ (some 82) (.bool false)) _
  simp only [Act.put, List.setIfInBounds_toArray, List.set_cons_zero, List.set_cons_succ]
  refine wpAnyH_take (i := 70) (v := .bool false) rfl (by kernel_rfl) (by kernel_rfl) (by kernel_rfl) (fun _ _ _ h => h) (.inl ⟨by rfl, fun u hu => by go_simp⟩) G0 ?_
  show wpAnyH Try.prog .any _ _ _ _ _ (Act.put _ (some 2) (.bool false)) _
  simp only [Act.put, List.setIfInBounds_toArray, List.set_cons_zero, List.set_cons_succ]
  refine wpAnyH_done (by kernel_rfl) ?_ _
  go_wp2
  go_ret
  rw [HF.out]
  exact ⟨rfl, hK2.trans (by assumption) (fun _ _ h => h) (fun _ _ h => h)⟩

set_option maxHeartbeats 4000000 in
set_option maxRecDepth 1000000 in
theorem form_jump : FC ⟨0, 5, 0, 0, 0, 0, [], [2]⟩ := by
  intro F tv w hT
  obtain ⟨ta, tc, rfl⟩ := hT.shape
  have HF : Hid (formR ⟨0, 5, 0, 0, 0, 0, [], [2]⟩ = true) := rfl
  have h00 : (FloatKind.f64.format.order (floatOfInt .f64 0) 0 == some .eq) = true := by decide
  unfold insC
  simp only [List.length_nil, List.length_cons, Nat.zero_add]
  rw [show toStr [] = ⟨#[]⟩ from rfl]
  generalize floatOfInt .f64 0 = X at *
  have hly := clayout 5 (w.alloc (.cells #[.int .i64 0, .int .i64 5, .int .i64 0, .int .i64 0, .complex .f64 X X, .string ⟨#[]⟩, .slice ta 1 tc] 34))
  rw [show layS 5 = [103] from rfl, show isOp 5 = true from rfl, show toStr [103] = ⟨#[103]⟩ from rfl] at hly
  have hBI : ((w.alloc (.cells #[.int .i64 0, .int .i64 5, .int .i64 0, .int .i64 0, .complex .f64 X X, .string ⟨#[]⟩, .slice ta 1 tc] 34)).alloc (.cells #[.string ⟨#[103]⟩] 9)).heap[w.heap.size]? = some (.cells #[.int .i64 0, .int .i64 5, .int .i64 0, .int .i64 0, .complex .f64 X X, .string ⟨#[]⟩, .slice ta 1 tc] 34 (0, 0)) := (Below.heap_alloc _ _ _ (by simp)).trans (heap_alloc_new w _)
  have hBS : ((w.alloc (.cells #[.int .i64 0, .int .i64 5, .int .i64 0, .int .i64 0, .complex .f64 X X, .string ⟨#[]⟩, .slice ta 1 tc] 34)).alloc (.cells #[.string ⟨#[103]⟩] 9)).heap[w.heap.size + 1]? = some (.cells #[.string ⟨#[103]⟩] 9 (0, 0)) := by
    have := heap_alloc_new (w.alloc (.cells #[.int .i64 0, .int .i64 5, .int .i64 0, .int .i64 0, .complex .f64 X X, .string ⟨#[]⟩, .slice ta 1 tc] 34)) (.cells #[.string ⟨#[103]⟩] 9)
    simpa using this
  have hK2 : Kept (fun _ => False) w ((w.alloc (.cells #[.int .i64 0, .int .i64 5, .int .i64 0, .int .i64 0, .complex .f64 X X, .string ⟨#[]⟩, .slice ta 1 tc] 34)).alloc (.cells #[.string ⟨#[103]⟩] 9)) := ((Kept.refl _ w).alloc _).alloc _
  go_enter Try.func22, Try.ntmps22
  go_wp2_with fail
  refine hly.mono ?_
  rintro e w1 ⟨rfl, rfl⟩
  go_wp2_with fail
  clear hly
  generalize ((w.alloc (.cells #[.int .i64 0, .int .i64 5, .int .i64 0, .int .i64 0, .complex .f64 X X, .string ⟨#[]⟩, .slice ta 1 tc] 34)).alloc (.cells #[.string ⟨#[103]⟩] 9)) = W at *
  have hS : ∀ u, Kept (fun _ => False) W u → u.cell? ⟨w.heap.size, 0, none⟩ = some (.int .i64 0) ∧ u.cell? ⟨w.heap.size, 1, none⟩ = some (.int .i64 5) ∧ u.cell? ⟨w.heap.size, 2, none⟩ = some (.int .i64 0) ∧ u.cell? ⟨w.heap.size, 3, none⟩ = some (.int .i64 0) ∧ u.cell? ⟨w.heap.size, 4, none⟩ = some (.complex .f64 X X) ∧ u.cell? ⟨w.heap.size, 5, none⟩ = some (.string ⟨#[]⟩) ∧ u.cell? ⟨w.heap.size, 6, none⟩ = some (.slice ta 1 tc) ∧ u.cell? ⟨w.heap.size + 1, 0, none⟩ = some (.string ⟨#[103]⟩) := fun u k => by
    have g1 := (k.block _ (Array.getElem?_eq_some_iff.1 hBI).1 (fun h => h)).trans hBI
    have g2 := (k.block _ (Array.getElem?_eq_some_iff.1 hBS).1 (fun h => h)).trans hBS
    refine ⟨?_, ?_, ?_, ?_, ?_, ?_, ?_, ?_⟩
    all_goals first | (rw [cell_of_row _ _ _ _ _ _ g1]; rfl) | (rw [cell_of_row _ _ _ _ _ _ g2]; rfl)
  have G0 : Kept (fun _ => False) W W.drew := (Kept.refl _ W).drew
  have G1 := hS _ G0
  clear hBI hBS
  dsimp only [List.append]
  have hmx : Try.prog.follows .mixedOrders = true := by kernel_rfl
  refine wp_region_held (S := fun u => Kept (fun _ => False) W u) hmx ?_
  show wpAnyH Try.prog .any _ _ _ _ _ _ W.drew
  refine wpAnyH_take (i := 0) (v := .bool true) rfl (by kernel_rfl) (by kernel_rfl) (by kernel_rfl) (fun _ _ _ h => h) (.inl ⟨by rfl, fun u hu => by go_simp⟩) G0 ?_
  show wpAnyH Try.prog .any _ _ _ _ _ (Act.put _ (some 13) (.bool true)) _
  simp only [Act.put, List.setIfInBounds_toArray, List.set_cons_zero, List.set_cons_succ]
  refine wpAnyH_take (i := 1) (v := .bool true) rfl (by kernel_rfl) (by kernel_rfl) (by kernel_rfl) (fun _ _ _ h => h) (.inl ⟨by rfl, fun u hu => by go_simp⟩) G0 ?_
  show wpAnyH Try.prog .any _ _ _ _ _ (Act.put _ (some 14) (.bool true)) _
  simp only [Act.put, List.setIfInBounds_toArray, List.set_cons_zero, List.set_cons_succ]
  refine wpAnyH_take (i := 2) (v := .pointer (some ⟨w.heap.size, 4, none⟩)) rfl (by kernel_rfl) (by kernel_rfl) (by kernel_rfl) (fun _ _ _ h => h) (.inl ⟨by rfl, fun u hu => by go_simp⟩) G0 ?_
  show wpAnyH Try.prog .any _ _ _ _ _ (Act.put _ (some 15) (.pointer (some ⟨w.heap.size, 4, none⟩))) _
  simp only [Act.put, List.setIfInBounds_toArray, List.set_cons_zero, List.set_cons_succ]
  refine wpAnyH_take (i := 3) (v := .complex .f64 X X) rfl (by kernel_rfl) (by kernel_rfl) (by kernel_rfl) (fun _ _ _ h => h) (.inl ⟨by rfl, fun u hu => by obtain ⟨e0, e1, e2, e3, e4, e5, e6, e7⟩ := hS u hu; go_simp⟩) G0 ?_
  show wpAnyH Try.prog .any _ _ _ _ _ (Act.put _ (some 16) (.complex .f64 X X)) _
  simp only [Act.put, List.setIfInBounds_toArray, List.set_cons_zero, List.set_cons_succ]
  refine wpAnyH_take (i := 4) (v := .bool true) rfl (by kernel_rfl) (by kernel_rfl) (by kernel_rfl) (fun _ _ _ h => h) (.inl ⟨by rfl, fun u hu => by go_simp⟩) G0 ?_
  show wpAnyH Try.prog .any _ _ _ _ _ (Act.put _ (some 17) (.bool true)) _
  simp only [Act.put, List.setIfInBounds_toArray, List.set_cons_zero, List.set_cons_succ]
  refine wpAnyH_take (i := 5) (v := .bool true) rfl (by kernel_rfl) (by kernel_rfl) (by kernel_rfl) (fun _ _ _ h => h) (.inl ⟨by rfl, fun u hu => by go_simp⟩) G0 ?_
  show wpAnyH Try.prog .any _ _ _ _ _ (Act.put _ (some 18) (.bool true)) _
  simp only [Act.put, List.setIfInBounds_toArray, List.set_cons_zero, List.set_cons_succ]
  refine wpAnyH_take (i := 6) (v := undef) rfl (by kernel_rfl) (by kernel_rfl) (by kernel_rfl) (fun _ _ _ h => h) (.inr ⟨by rfl, rfl⟩) G0 ?_
  show wpAnyH Try.prog .any _ _ _ _ _ (Act.put _ (some 19) (undef)) _
  simp only [Act.put, List.setIfInBounds_toArray, List.set_cons_zero, List.set_cons_succ]
  refine wpAnyH_take (i := 7) (v := undef) rfl (by kernel_rfl) (by kernel_rfl) (by kernel_rfl) (fun _ _ _ h => h) (.inr ⟨by rfl, rfl⟩) G0 ?_
  show wpAnyH Try.prog .any _ _ _ _ _ (Act.put _ (some 20) (undef)) _
  simp only [Act.put, List.setIfInBounds_toArray, List.set_cons_zero, List.set_cons_succ]
  refine wpAnyH_take (i := 8) (v := undef) rfl (by kernel_rfl) (by kernel_rfl) (by kernel_rfl) (fun _ _ _ h => h) (.inr ⟨by rfl, rfl⟩) G0 ?_
  show wpAnyH Try.prog .any _ _ _ _ _ (Act.put _ (some 21) (undef)) _
  simp only [Act.put, List.setIfInBounds_toArray, List.set_cons_zero, List.set_cons_succ]
  refine wpAnyH_take (i := 9) (v := undef) rfl (by kernel_rfl) (by kernel_rfl) (by kernel_rfl) (fun _ _ _ h => h) (.inr ⟨by rfl, rfl⟩) G0 ?_
  show wpAnyH Try.prog .any _ _ _ _ _ (Act.put _ (some 22) (undef)) _
  simp only [Act.put, List.setIfInBounds_toArray, List.set_cons_zero, List.set_cons_succ]
  refine wpAnyH_take (i := 10) (v := undef) rfl (by kernel_rfl) (by kernel_rfl) (by kernel_rfl) (fun _ _ _ h => h) (.inr ⟨by rfl, rfl⟩) G0 ?_
  show wpAnyH Try.prog .any _ _ _ _ _ (Act.put _ (some 23) (undef)) _
  simp only [Act.put, List.setIfInBounds_toArray, List.set_cons_zero, List.set_cons_succ]
  refine wpAnyH_take (i := 11) (v := undef) rfl (by kernel_rfl) (by kernel_rfl) (by kernel_rfl) (fun _ _ _ h => h) (.inr ⟨by rfl, rfl⟩) G0 ?_
  show wpAnyH Try.prog .any _ _ _ _ _ (Act.put _ (some 24) (undef)) _
  simp only [Act.put, List.setIfInBounds_toArray, List.set_cons_zero, List.set_cons_succ]
  refine wpAnyH_take (i := 12) (v := undef) rfl (by kernel_rfl) (by kernel_rfl) (by kernel_rfl) (fun _ _ _ h => h) (.inr ⟨by rfl, rfl⟩) G0 ?_
  show wpAnyH Try.prog .any _ _ _ _ _ (Act.put _ (some 25) (undef)) _
  simp only [Act.put, List.setIfInBounds_toArray, List.set_cons_zero, List.set_cons_succ]
  refine wpAnyH_take (i := 13) (v := .bool true) rfl (by kernel_rfl) (by kernel_rfl) (by kernel_rfl) (fun _ _ _ h => h) (.inl ⟨by rfl, fun u hu => by go_simp⟩) G0 ?_
  show wpAnyH Try.prog .any _ _ _ _ _ (Act.put _ (some 26) (.bool true)) _
  simp only [Act.put, List.setIfInBounds_toArray, List.set_cons_zero, List.set_cons_succ]
  refine wpAnyH_take (i := 14) (v := .bool true) rfl (by kernel_rfl) (by kernel_rfl) (by kernel_rfl) (fun _ _ _ h => h) (.inl ⟨by rfl, fun u hu => by go_simp⟩) G0 ?_
  show wpAnyH Try.prog .any _ _ _ _ _ (Act.put _ (some 27) (.bool true)) _
  simp only [Act.put, List.setIfInBounds_toArray, List.set_cons_zero, List.set_cons_succ]
  refine wpAnyH_take (i := 15) (v := .bool true) rfl (by kernel_rfl) (by kernel_rfl) (by kernel_rfl) (fun _ _ _ h => h) (.inl ⟨by rfl, fun u hu => by go_simp⟩) G0 ?_
  show wpAnyH Try.prog .any _ _ _ _ _ (Act.put _ (some 28) (.bool true)) _
  simp only [Act.put, List.setIfInBounds_toArray, List.set_cons_zero, List.set_cons_succ]
  refine wpAnyH_take (i := 16) (v := .pointer (some ⟨w.heap.size, 5, none⟩)) rfl (by kernel_rfl) (by kernel_rfl) (by kernel_rfl) (fun _ _ _ h => h) (.inl ⟨by rfl, fun u hu => by go_simp⟩) G0 ?_
  show wpAnyH Try.prog .any _ _ _ _ _ (Act.put _ (some 29) (.pointer (some ⟨w.heap.size, 5, none⟩))) _
  simp only [Act.put, List.setIfInBounds_toArray, List.set_cons_zero, List.set_cons_succ]
  refine wpAnyH_take (i := 17) (v := .string ⟨#[]⟩) rfl (by kernel_rfl) (by kernel_rfl) (by kernel_rfl) (fun _ _ _ h => h) (.inl ⟨by rfl, fun u hu => by obtain ⟨e0, e1, e2, e3, e4, e5, e6, e7⟩ := hS u hu; go_simp⟩) G0 ?_
  show wpAnyH Try.prog .any _ _ _ _ _ (Act.put _ (some 30) (.string ⟨#[]⟩)) _
  simp only [Act.put, List.setIfInBounds_toArray, List.set_cons_zero, List.set_cons_succ]
  refine wpAnyH_take (i := 18) (v := .bool true) rfl (by kernel_rfl) (by kernel_rfl) (by kernel_rfl) (fun _ _ _ h => h) (.inl ⟨by rfl, fun u hu => by go_simp⟩) G0 ?_
  show wpAnyH Try.prog .any _ _ _ _ _ (Act.put _ (some 31) (.bool true)) _
  simp only [Act.put, List.setIfInBounds_toArray, List.set_cons_zero, List.set_cons_succ]
  refine wpAnyH_take (i := 19) (v := .bool true) rfl (by kernel_rfl) (by kernel_rfl) (by kernel_rfl) (fun _ _ _ h => h) (.inl ⟨by rfl, fun u hu => by go_simp⟩) G0 ?_
  show wpAnyH Try.prog .any _ _ _ _ _ (Act.put _ (some 32) (.bool true)) _
  simp only [Act.put, List.setIfInBounds_toArray, List.set_cons_zero, List.set_cons_succ]
  refine wpAnyH_take (i := 20) (v := undef) rfl (by kernel_rfl) (by kernel_rfl) (by kernel_rfl) (fun _ _ _ h => h) (.inr ⟨by rfl, rfl⟩) G0 ?_
  show wpAnyH Try.prog .any _ _ _ _ _ (Act.put _ (some 33) (undef)) _
  simp only [Act.put, List.setIfInBounds_toArray, List.set_cons_zero, List.set_cons_succ]
  refine wpAnyH_take (i := 21) (v := undef) rfl (by kernel_rfl) (by kernel_rfl) (by kernel_rfl) (fun _ _ _ h => h) (.inr ⟨by rfl, rfl⟩) G0 ?_
  show wpAnyH Try.prog .any _ _ _ _ _ (Act.put _ (some 34) (undef)) _
  simp only [Act.put, List.setIfInBounds_toArray, List.set_cons_zero, List.set_cons_succ]
  refine wpAnyH_take (i := 22) (v := undef) rfl (by kernel_rfl) (by kernel_rfl) (by kernel_rfl) (fun _ _ _ h => h) (.inr ⟨by rfl, rfl⟩) G0 ?_
  show wpAnyH Try.prog .any _ _ _ _ _ (Act.put _ (some 35) (undef)) _
  simp only [Act.put, List.setIfInBounds_toArray, List.set_cons_zero, List.set_cons_succ]
  refine wpAnyH_take (i := 23) (v := undef) rfl (by kernel_rfl) (by kernel_rfl) (by kernel_rfl) (fun _ _ _ h => h) (.inr ⟨by rfl, rfl⟩) G0 ?_
  show wpAnyH Try.prog .any _ _ _ _ _ (Act.put _ (some 36) (undef)) _
  simp only [Act.put, List.setIfInBounds_toArray, List.set_cons_zero, List.set_cons_succ]
  refine wpAnyH_take (i := 24) (v := undef) rfl (by kernel_rfl) (by kernel_rfl) (by kernel_rfl) (fun _ _ _ h => h) (.inr ⟨by rfl, rfl⟩) G0 ?_
  show wpAnyH Try.prog .any _ _ _ _ _ (Act.put _ (some 37) (undef)) _
  simp only [Act.put, List.setIfInBounds_toArray, List.set_cons_zero, List.set_cons_succ]
  refine wpAnyH_take (i := 25) (v := undef) rfl (by kernel_rfl) (by kernel_rfl) (by kernel_rfl) (fun _ _ _ h => h) (.inr ⟨by rfl, rfl⟩) G0 ?_
  show wpAnyH Try.prog .any _ _ _ _ _ (Act.put _ (some 38) (undef)) _
  simp only [Act.put, List.setIfInBounds_toArray, List.set_cons_zero, List.set_cons_succ]
  refine wpAnyH_take (i := 26) (v := undef) rfl (by kernel_rfl) (by kernel_rfl) (by kernel_rfl) (fun _ _ _ h => h) (.inr ⟨by rfl, rfl⟩) G0 ?_
  show wpAnyH Try.prog .any _ _ _ _ _ (Act.put _ (some 39) (undef)) _
  simp only [Act.put, List.setIfInBounds_toArray, List.set_cons_zero, List.set_cons_succ]
  refine wpAnyH_take (i := 27) (v := undef) rfl (by kernel_rfl) (by kernel_rfl) (by kernel_rfl) (fun _ _ _ h => h) (.inr ⟨by rfl, rfl⟩) G0 ?_
  show wpAnyH Try.prog .any _ _ _ _ _ (Act.put _ (some 40) (undef)) _
  simp only [Act.put, List.setIfInBounds_toArray, List.set_cons_zero, List.set_cons_succ]
  refine wpAnyH_take (i := 28) (v := .bool true) rfl (by kernel_rfl) (by kernel_rfl) (by kernel_rfl) (fun _ _ _ h => h) (.inl ⟨by rfl, fun u hu => by go_simp⟩) G0 ?_
  show wpAnyH Try.prog .any _ _ _ _ _ (Act.put _ (some 41) (.bool true)) _
  simp only [Act.put, List.setIfInBounds_toArray, List.set_cons_zero, List.set_cons_succ]
  refine wpAnyH_take (i := 29) (v := .bool true) rfl (by kernel_rfl) (by kernel_rfl) (by kernel_rfl) (fun _ _ _ h => h) (.inl ⟨by rfl, fun u hu => by go_simp⟩) G0 ?_
  show wpAnyH Try.prog .any _ _ _ _ _ (Act.put _ (some 42) (.bool true)) _
  simp only [Act.put, List.setIfInBounds_toArray, List.set_cons_zero, List.set_cons_succ]
  refine wpAnyH_take (i := 30) (v := .bool true) rfl (by kernel_rfl) (by kernel_rfl) (by kernel_rfl) (fun _ _ _ h => h) (.inl ⟨by rfl, fun u hu => by go_simp⟩) G0 ?_
  show wpAnyH Try.prog .any _ _ _ _ _ (Act.put _ (some 43) (.bool true)) _
  simp only [Act.put, List.setIfInBounds_toArray, List.set_cons_zero, List.set_cons_succ]
  refine wpAnyH_take (i := 31) (v := .pointer (some ⟨w.heap.size, 2, none⟩)) rfl (by kernel_rfl) (by kernel_rfl) (by kernel_rfl) (fun _ _ _ h => h) (.inl ⟨by rfl, fun u hu => by go_simp⟩) G0 ?_
  show wpAnyH Try.prog .any _ _ _ _ _ (Act.put _ (some 44) (.pointer (some ⟨w.heap.size, 2, none⟩))) _
  simp only [Act.put, List.setIfInBounds_toArray, List.set_cons_zero, List.set_cons_succ]
  refine wpAnyH_take (i := 32) (v := .int .i64 0) rfl (by kernel_rfl) (by kernel_rfl) (by kernel_rfl) (fun _ _ _ h => h) (.inl ⟨by rfl, fun u hu => by obtain ⟨e0, e1, e2, e3, e4, e5, e6, e7⟩ := hS u hu; go_simp⟩) G0 ?_
  show wpAnyH Try.prog .any _ _ _ _ _ (Act.put _ (some 45) (.int .i64 0)) _
  simp only [Act.put, List.setIfInBounds_toArray, List.set_cons_zero, List.set_cons_succ]
  refine wpAnyH_take (i := 33) (v := .bool true) rfl (by kernel_rfl) (by kernel_rfl) (by kernel_rfl) (fun _ _ _ h => h) (.inl ⟨by rfl, fun u hu => by go_simp⟩) G0 ?_
  show wpAnyH Try.prog .any _ _ _ _ _ (Act.put _ (some 46) (.bool true)) _
  simp only [Act.put, List.setIfInBounds_toArray, List.set_cons_zero, List.set_cons_succ]
  refine wpAnyH_take (i := 34) (v := .bool true) rfl (by kernel_rfl) (by kernel_rfl) (by kernel_rfl) (fun _ _ _ h => h) (.inl ⟨by rfl, fun u hu => by go_simp⟩) G0 ?_
  show wpAnyH Try.prog .any _ _ _ _ _ (Act.put _ (some 47) (.bool true)) _
  simp only [Act.put, List.setIfInBounds_toArray, List.set_cons_zero, List.set_cons_succ]
  refine wpAnyH_take (i := 35) (v := undef) rfl (by kernel_rfl) (by kernel_rfl) (by kernel_rfl) (fun _ _ _ h => h) (.inr ⟨by rfl, rfl⟩) G0 ?_
  show wpAnyH Try.prog .any _ _ _ _ _ (Act.put _ (some 48) (undef)) _
  simp only [Act.put, List.setIfInBounds_toArray, List.set_cons_zero, List.set_cons_succ]
  refine wpAnyH_take (i := 36) (v := undef) rfl (by kernel_rfl) (by kernel_rfl) (by kernel_rfl) (fun _ _ _ h => h) (.inr ⟨by rfl, rfl⟩) G0 ?_
  show wpAnyH Try.prog .any _ _ _ _ _ (Act.put _ (some 49) (undef)) _
  simp only [Act.put, List.setIfInBounds_toArray, List.set_cons_zero, List.set_cons_succ]
  refine wpAnyH_take (i := 37) (v := undef) rfl (by kernel_rfl) (by kernel_rfl) (by kernel_rfl) (fun _ _ _ h => h) (.inr ⟨by rfl, rfl⟩) G0 ?_
  show wpAnyH Try.prog .any _ _ _ _ _ (Act.put _ (some 50) (undef)) _
  simp only [Act.put, List.setIfInBounds_toArray, List.set_cons_zero, List.set_cons_succ]
  refine wpAnyH_take (i := 38) (v := undef) rfl (by kernel_rfl) (by kernel_rfl) (by kernel_rfl) (fun _ _ _ h => h) (.inr ⟨by rfl, rfl⟩) G0 ?_
  show wpAnyH Try.prog .any _ _ _ _ _ (Act.put _ (some 51) (undef)) _
  simp only [Act.put, List.setIfInBounds_toArray, List.set_cons_zero, List.set_cons_succ]
  refine wpAnyH_take (i := 39) (v := undef) rfl (by kernel_rfl) (by kernel_rfl) (by kernel_rfl) (fun _ _ _ h => h) (.inr ⟨by rfl, rfl⟩) G0 ?_
  show wpAnyH Try.prog .any _ _ _ _ _ (Act.put _ (some 52) (undef)) _
  simp only [Act.put, List.setIfInBounds_toArray, List.set_cons_zero, List.set_cons_succ]
  refine wpAnyH_take (i := 40) (v := undef) rfl (by kernel_rfl) (by kernel_rfl) (by kernel_rfl) (fun _ _ _ h => h) (.inr ⟨by rfl, rfl⟩) G0 ?_
  show wpAnyH Try.prog .any _ _ _ _ _ (Act.put _ (some 53) (undef)) _
  simp only [Act.put, List.setIfInBounds_toArray, List.set_cons_zero, List.set_cons_succ]
  refine wpAnyH_take (i := 41) (v := undef) rfl (by kernel_rfl) (by kernel_rfl) (by kernel_rfl) (fun _ _ _ h => h) (.inr ⟨by rfl, rfl⟩) G0 ?_
  show wpAnyH Try.prog .any _ _ _ _ _ (Act.put _ (some 54) (undef)) _
  simp only [Act.put, List.setIfInBounds_toArray, List.set_cons_zero, List.set_cons_succ]
  refine wpAnyH_take (i := 42) (v := .bool true) rfl (by kernel_rfl) (by kernel_rfl) (by kernel_rfl) (fun _ _ _ h => h) (.inl ⟨by rfl, fun u hu => by go_simp⟩) G0 ?_
  show wpAnyH Try.prog .any _ _ _ _ _ (Act.put _ (some 55) (.bool true)) _
  simp only [Act.put, List.setIfInBounds_toArray, List.set_cons_zero, List.set_cons_succ]
  refine wpAnyH_take (i := 43) (v := .bool true) rfl (by kernel_rfl) (by kernel_rfl) (by kernel_rfl) (fun _ _ _ h => h) (.inl ⟨by rfl, fun u hu => by go_simp⟩) G0 ?_
  show wpAnyH Try.prog .any _ _ _ _ _ (Act.put _ (some 56) (.bool true)) _
  simp only [Act.put, List.setIfInBounds_toArray, List.set_cons_zero, List.set_cons_succ]
  refine wpAnyH_take (i := 44) (v := .bool true) rfl (by kernel_rfl) (by kernel_rfl) (by kernel_rfl) (fun _ _ _ h => h) (.inl ⟨by rfl, fun u hu => by go_simp⟩) G0 ?_
  show wpAnyH Try.prog .any _ _ _ _ _ (Act.put _ (some 57) (.bool true)) _
  simp only [Act.put, List.setIfInBounds_toArray, List.set_cons_zero, List.set_cons_succ]
  refine wpAnyH_take (i := 45) (v := .pointer (some ⟨w.heap.size, 3, none⟩)) rfl (by kernel_rfl) (by kernel_rfl) (by kernel_rfl) (fun _ _ _ h => h) (.inl ⟨by rfl, fun u hu => by go_simp⟩) G0 ?_
  show wpAnyH Try.prog .any _ _ _ _ _ (Act.put _ (some 58) (.pointer (some ⟨w.heap.size, 3, none⟩))) _
  simp only [Act.put, List.setIfInBounds_toArray, List.set_cons_zero, List.set_cons_succ]
  refine wpAnyH_take (i := 46) (v := .int .i64 0) rfl (by kernel_rfl) (by kernel_rfl) (by kernel_rfl) (fun _ _ _ h => h) (.inl ⟨by rfl, fun u hu => by obtain ⟨e0, e1, e2, e3, e4, e5, e6, e7⟩ := hS u hu; go_simp⟩) G0 ?_
  show wpAnyH Try.prog .any _ _ _ _ _ (Act.put _ (some 59) (.int .i64 0)) _
  simp only [Act.put, List.setIfInBounds_toArray, List.set_cons_zero, List.set_cons_succ]
  refine wpAnyH_take (i := 47) (v := .bool true) rfl (by kernel_rfl) (by kernel_rfl) (by kernel_rfl) (fun _ _ _ h => h) (.inl ⟨by rfl, fun u hu => by go_simp⟩) G0 ?_
  show wpAnyH Try.prog .any _ _ _ _ _ (Act.put _ (some 60) (.bool true)) _
  simp only [Act.put, List.setIfInBounds_toArray, List.set_cons_zero, List.set_cons_succ]
  refine wpAnyH_take (i := 48) (v := .bool true) rfl (by kernel_rfl) (by kernel_rfl) (by kernel_rfl) (fun _ _ _ h => h) (.inl ⟨by rfl, fun u hu => by go_simp⟩) G0 ?_
  show wpAnyH Try.prog .any _ _ _ _ _ (Act.put _ (some 61) (.bool true)) _
  simp only [Act.put, List.setIfInBounds_toArray, List.set_cons_zero, List.set_cons_succ]
  refine wpAnyH_take (i := 49) (v := undef) rfl (by kernel_rfl) (by kernel_rfl) (by kernel_rfl) (fun _ _ _ h => h) (.inr ⟨by rfl, rfl⟩) G0 ?_
  show wpAnyH Try.prog .any _ _ _ _ _ (Act.put _ (some 62) (undef)) _
  simp only [Act.put, List.setIfInBounds_toArray, List.set_cons_zero, List.set_cons_succ]
  refine wpAnyH_take (i := 50) (v := undef) rfl (by kernel_rfl) (by kernel_rfl) (by kernel_rfl) (fun _ _ _ h => h) (.inr ⟨by rfl, rfl⟩) G0 ?_
  show wpAnyH Try.prog .any _ _ _ _ _ (Act.put _ (some 63) (undef)) _
  simp only [Act.put, List.setIfInBounds_toArray, List.set_cons_zero, List.set_cons_succ]
  refine wpAnyH_take (i := 51) (v := undef) rfl (by kernel_rfl) (by kernel_rfl) (by kernel_rfl) (fun _ _ _ h => h) (.inr ⟨by rfl, rfl⟩) G0 ?_
  show wpAnyH Try.prog .any _ _ _ _ _ (Act.put _ (some 64) (undef)) _
  simp only [Act.put, List.setIfInBounds_toArray, List.set_cons_zero, List.set_cons_succ]
  refine wpAnyH_take (i := 52) (v := undef) rfl (by kernel_rfl) (by kernel_rfl) (by kernel_rfl) (fun _ _ _ h => h) (.inr ⟨by rfl, rfl⟩) G0 ?_
  show wpAnyH Try.prog .any _ _ _ _ _ (Act.put _ (some 65) (undef)) _
  simp only [Act.put, List.setIfInBounds_toArray, List.set_cons_zero, List.set_cons_succ]
  refine wpAnyH_take (i := 53) (v := undef) rfl (by kernel_rfl) (by kernel_rfl) (by kernel_rfl) (fun _ _ _ h => h) (.inr ⟨by rfl, rfl⟩) G0 ?_
  show wpAnyH Try.prog .any _ _ _ _ _ (Act.put _ (some 66) (undef)) _
  simp only [Act.put, List.setIfInBounds_toArray, List.set_cons_zero, List.set_cons_succ]
  refine wpAnyH_take (i := 54) (v := undef) rfl (by kernel_rfl) (by kernel_rfl) (by kernel_rfl) (fun _ _ _ h => h) (.inr ⟨by rfl, rfl⟩) G0 ?_
  show wpAnyH Try.prog .any _ _ _ _ _ (Act.put _ (some 67) (undef)) _
  simp only [Act.put, List.setIfInBounds_toArray, List.set_cons_zero, List.set_cons_succ]
  refine wpAnyH_take (i := 55) (v := undef) rfl (by kernel_rfl) (by kernel_rfl) (by kernel_rfl) (fun _ _ _ h => h) (.inr ⟨by rfl, rfl⟩) G0 ?_
  show wpAnyH Try.prog .any _ _ _ _ _ (Act.put _ (some 68) (undef)) _
  simp only [Act.put, List.setIfInBounds_toArray, List.set_cons_zero, List.set_cons_succ]
  refine wpAnyH_take (i := 56) (v := .bool true) rfl (by kernel_rfl) (by kernel_rfl) (by kernel_rfl) (fun _ _ _ h => h) (.inl ⟨by rfl, fun u hu => by go_simp⟩) G0 ?_
  show wpAnyH Try.prog .any _ _ _ _ _ (Act.put _ (some 69) (.bool true)) _
  simp only [Act.put, List.setIfInBounds_toArray, List.set_cons_zero, List.set_cons_succ]
  refine wpAnyH_take (i := 57) (v := .bool true) rfl (by kernel_rfl) (by kernel_rfl) (by kernel_rfl) (fun _ _ _ h => h) (.inl ⟨by rfl, fun u hu => by go_simp⟩) G0 ?_
  show wpAnyH Try.prog .any _ _ _ _ _ (Act.put _ (some 70) (.bool true)) _
  simp only [Act.put, List.setIfInBounds_toArray, List.set_cons_zero, List.set_cons_succ]
  refine wpAnyH_take (i := 58) (v := .bool true) rfl (by kernel_rfl) (by kernel_rfl) (by kernel_rfl) (fun _ _ _ h => h) (.inl ⟨by rfl, fun u hu => by go_simp⟩) G0 ?_
  show wpAnyH Try.prog .any _ _ _ _ _ (Act.put _ (some 71) (.bool true)) _
  simp only [Act.put, List.setIfInBounds_toArray, List.set_cons_zero, List.set_cons_succ]
  refine wpAnyH_take (i := 59) (v := .agg #[.int .i64 0, .int .i64 5, .int .i64 0, .int .i64 0, .complex .f64 X X, .string ⟨#[]⟩, .slice ta 1 tc]) rfl (by kernel_rfl) (by kernel_rfl) (by kernel_rfl) (fun _ _ _ h => h) (.inl ⟨by rfl, fun u hu => by obtain ⟨e0, e1, e2, e3, e4, e5, e6, e7⟩ := hS u hu; go_simp⟩) G0 ?_
  show wpAnyH Try.prog .any _ _ _ _ _ (Act.put _ (some 72) (.agg #[.int .i64 0, .int .i64 5, .int .i64 0, .int .i64 0, .complex .f64 X X, .string ⟨#[]⟩, .slice ta 1 tc])) _
  simp only [Act.put, List.setIfInBounds_toArray, List.set_cons_zero, List.set_cons_succ]
  refine wpAnyH_ready (rs := [60]) (by kernel_rfl) (by simp) ?_
  refine AllReadyH.cons rfl (fun K hK => ?_) AllReadyH.nil
  go_simp
  refine (ccount 5 0 _ _ _ _ _ _).mono ?_
  rintro e wc1 ⟨rfl, kc1⟩
  have Gc1 : Kept (fun _ => False) W wc1 := G0.trans kc1 (fun _ _ h => h) (fun _ _ h => h)
  rw [show rcR 5 0 = true from rfl]
  refine hK.out _ _ Gc1 (fun _ => ?_)
  clear hK K
  (try show wpAnyH Try.prog .any _ _ _ _ _ (Act.put _ (some 73) (.bool true)) _)
  (try simp only [Act.put, List.setIfInBounds_toArray, List.set_cons_zero, List.set_cons_succ])
  refine wpAnyH_take (i := 61) (v := .bool true) rfl (by kernel_rfl) (by kernel_rfl) (by kernel_rfl) (fun _ _ _ h => h) (.inl ⟨by rfl, fun u hu => by go_simp⟩) Gc1 ?_
  show wpAnyH Try.prog .any _ _ _ _ _ (Act.put _ (some 74) (.bool true)) _
  simp only [Act.put, List.setIfInBounds_toArray, List.set_cons_zero, List.set_cons_succ]
  refine wpAnyH_take (i := 62) (v := .bool true) rfl (by kernel_rfl) (by kernel_rfl) (by kernel_rfl) (fun _ _ _ h => h) (.inl ⟨by rfl, fun u hu => by go_simp⟩) Gc1 ?_
  show wpAnyH Try.prog .any _ _ _ _ _ (Act.put _ (some 75) (.bool true)) _
  simp only [Act.put, List.setIfInBounds_toArray, List.set_cons_zero, List.set_cons_succ]
  refine wpAnyH_take (i := 63) (v := .pointer (some ⟨w.heap.size, 6, none⟩)) rfl (by kernel_rfl) (by kernel_rfl) (by kernel_rfl) (fun _ _ _ h => h) (.inl ⟨by rfl, fun u hu => by go_simp⟩) Gc1 ?_
  show wpAnyH Try.prog .any _ _ _ _ _ (Act.put _ (some 76) (.pointer (some ⟨w.heap.size, 6, none⟩))) _
  simp only [Act.put, List.setIfInBounds_toArray, List.set_cons_zero, List.set_cons_succ]
  refine wpAnyH_take (i := 64) (v := .slice ta 1 tc) rfl (by kernel_rfl) (by kernel_rfl) (by kernel_rfl) (fun _ _ _ h => h) (.inl ⟨by rfl, fun u hu => by obtain ⟨e0, e1, e2, e3, e4, e5, e6, e7⟩ := hS u hu; go_simp⟩) Gc1 ?_
  show wpAnyH Try.prog .any _ _ _ _ _ (Act.put _ (some 77) (.slice ta 1 tc)) _
  simp only [Act.put, List.setIfInBounds_toArray, List.set_cons_zero, List.set_cons_succ]
  refine wpAnyH_take (i := 65) (v := .int .i64 1) rfl (by kernel_rfl) (by kernel_rfl) (by kernel_rfl) (fun _ _ _ h => h) (.inl ⟨by rfl, fun u hu => by go_simp⟩) Gc1 ?_
  show wpAnyH Try.prog .any _ _ _ _ _ (Act.put _ (some 78) (.int .i64 1)) _
  simp only [Act.put, List.setIfInBounds_toArray, List.set_cons_zero, List.set_cons_succ]
  refine wpAnyH_take (i := 66) (v := .agg #[.int .i64 0, .int .i64 5, .int .i64 0, .int .i64 0, .complex .f64 X X, .string ⟨#[]⟩, .slice ta 1 tc]) rfl (by kernel_rfl) (by kernel_rfl) (by kernel_rfl) (fun _ _ _ h => h) (.inl ⟨by rfl, fun u hu => by obtain ⟨e0, e1, e2, e3, e4, e5, e6, e7⟩ := hS u hu; go_simp⟩) Gc1 ?_
  show wpAnyH Try.prog .any _ _ _ _ _ (Act.put _ (some 79) (.agg #[.int .i64 0, .int .i64 5, .int .i64 0, .int .i64 0, .complex .f64 X X, .string ⟨#[]⟩, .slice ta 1 tc])) _
  simp only [Act.put, List.setIfInBounds_toArray, List.set_cons_zero, List.set_cons_succ]
  refine wpAnyH_ready (rs := [67]) (by kernel_rfl) (by simp) ?_
  refine AllReadyH.cons rfl (fun K hK => ?_) AllReadyH.nil
  go_simp
  refine (cways 5 0 _ _ _ _ _ _).mono ?_
  rintro e wc2 ⟨rfl, kc2⟩
  have Gc2 : Kept (fun _ => False) W wc2 := Gc1.trans kc2 (fun _ _ h => h) (fun _ _ h => h)
  rw [show waysR 5 0 = 1 from rfl]
  refine hK.out _ _ Gc2 (fun _ => ?_)
  clear hK K
  (try show wpAnyH Try.prog .any _ _ _ _ _ (Act.put _ (some 80) (.int .i64 1)) _)
  (try simp only [Act.put, List.setIfInBounds_toArray, List.set_cons_zero, List.set_cons_succ])
  refine wpAnyH_take (i := 68) (v := .bool true) rfl (by kernel_rfl) (by kernel_rfl) (by kernel_rfl) (fun _ _ _ h => h) (.inl ⟨by rfl, fun u hu => by go_simp⟩) Gc2 ?_
  show wpAnyH Try.prog .any _ _ _ _ _ (Act.put _ (some 81) (.bool true)) _
  simp only [Act.put, List.setIfInBounds_toArray, List.set_cons_zero, List.set_cons_succ]
  refine wpAnyH_take (i := 69) (v := .bool true) rfl (by kernel_rfl) (by kernel_rfl) (by kernel_rfl) (fun _ _ _ h => h) (.inl ⟨by rfl, fun u hu => by go_simp⟩) Gc2 ?_
  show wpAnyH Try.prog .any _ _ _ _ _ (Act.put _ (some 82) (.bool true)) _
  simp only [Act.put, List.setIfInBounds_toArray, List.set_cons_zero, List.set_cons_succ]
  refine wpAnyH_take (i := 70) (v := .bool true) rfl (by kernel_rfl) (by kernel_rfl) (by kernel_rfl) (fun _ _ _ h => h) (.inl ⟨by rfl, fun u hu => by go_simp⟩) Gc2 ?_
  show wpAnyH Try.prog .any _ _ _ _ _ (Act.put _ (some 2) (.bool true)) _
  simp only [Act.put, List.setIfInBounds_toArray, List.set_cons_zero, List.set_cons_succ]
  refine wpAnyH_done (by kernel_rfl) ?_ _
  go_wp2
  go_ret
  rw [HF.out]
  exact ⟨rfl, hK2.trans (by assumption) (fun _ _ h => h) (fun _ _ h => h)⟩

set_option maxHeartbeats 4000000 in
set_option maxRecDepth 1000000 in
theorem form_retB : FC ⟨0, 15, 0, 1, 0, 0, [], []⟩ := by
  intro F tv w hT
  obtain ⟨ta, tc, rfl⟩ := hT.shape
  have HF : Hid (formR ⟨0, 15, 0, 1, 0, 0, [], []⟩ = false) := rfl
  have h00 : (FloatKind.f64.format.order (floatOfInt .f64 0) 0 == some .eq) = true := by decide
  unfold insC
  simp only [List.length_nil]
  rw [show toStr [] = ⟨#[]⟩ from rfl]
  generalize floatOfInt .f64 0 = X at *
  have hly := clayout 15 (w.alloc (.cells #[.int .i64 0, .int .i64 15, .int .i64 0, .int .i64 1, .complex .f64 X X, .string ⟨#[]⟩, .slice ta 0 tc] 34))
  rw [show layS 15 = [] from rfl, show isOp 15 = true from rfl, show toStr [] = ⟨#[]⟩ from rfl] at hly
  have hBI : ((w.alloc (.cells #[.int .i64 0, .int .i64 15, .int .i64 0, .int .i64 1, .complex .f64 X X, .string ⟨#[]⟩, .slice ta 0 tc] 34)).alloc (.cells #[.string ⟨#[]⟩] 9)).heap[w.heap.size]? = some (.cells #[.int .i64 0, .int .i64 15, .int .i64 0, .int .i64 1, .complex .f64 X X, .string ⟨#[]⟩, .slice ta 0 tc] 34 (0, 0)) := (Below.heap_alloc _ _ _ (by simp)).trans (heap_alloc_new w _)
  have hBS : ((w.alloc (.cells #[.int .i64 0, .int .i64 15, .int .i64 0, .int .i64 1, .complex .f64 X X, .string ⟨#[]⟩, .slice ta 0 tc] 34)).alloc (.cells #[.string ⟨#[]⟩] 9)).heap[w.heap.size + 1]? = some (.cells #[.string ⟨#[]⟩] 9 (0, 0)) := by
    have := heap_alloc_new (w.alloc (.cells #[.int .i64 0, .int .i64 15, .int .i64 0, .int .i64 1, .complex .f64 X X, .string ⟨#[]⟩, .slice ta 0 tc] 34)) (.cells #[.string ⟨#[]⟩] 9)
    simpa using this
  have hK2 : Kept (fun _ => False) w ((w.alloc (.cells #[.int .i64 0, .int .i64 15, .int .i64 0, .int .i64 1, .complex .f64 X X, .string ⟨#[]⟩, .slice ta 0 tc] 34)).alloc (.cells #[.string ⟨#[]⟩] 9)) := ((Kept.refl _ w).alloc _).alloc _
  go_enter Try.func22, Try.ntmps22
  go_wp2_with fail
  refine hly.mono ?_
  rintro e w1 ⟨rfl, rfl⟩
  go_wp2_with fail
  clear hly
  generalize ((w.alloc (.cells #[.int .i64 0, .int .i64 15, .int .i64 0, .int .i64 1, .complex .f64 X X, .string ⟨#[]⟩, .slice ta 0 tc] 34)).alloc (.cells #[.string ⟨#[]⟩] 9)) = W at *
  have hS : ∀ u, Kept (fun _ => False) W u → u.cell? ⟨w.heap.size, 0, none⟩ = some (.int .i64 0) ∧ u.cell? ⟨w.heap.size, 1, none⟩ = some (.int .i64 15) ∧ u.cell? ⟨w.heap.size, 2, none⟩ = some (.int .i64 0) ∧ u.cell? ⟨w.heap.size, 3, none⟩ = some (.int .i64 1) ∧ u.cell? ⟨w.heap.size, 4, none⟩ = some (.complex .f64 X X) ∧ u.cell? ⟨w.heap.size, 5, none⟩ = some (.string ⟨#[]⟩) ∧ u.cell? ⟨w.heap.size, 6, none⟩ = some (.slice ta 0 tc) ∧ u.cell? ⟨w.heap.size + 1, 0, none⟩ = some (.string ⟨#[]⟩) := fun u k => by
    have g1 := (k.block _ (Array.getElem?_eq_some_iff.1 hBI).1 (fun h => h)).trans hBI
    have g2 := (k.block _ (Array.getElem?_eq_some_iff.1 hBS).1 (fun h => h)).trans hBS
    refine ⟨?_, ?_, ?_, ?_, ?_, ?_, ?_, ?_⟩
    all_goals first | (rw [cell_of_row _ _ _ _ _ _ g1]; rfl) | (rw [cell_of_row _ _ _ _ _ _ g2]; rfl)
  have G0 : Kept (fun _ => False) W W.drew := (Kept.refl _ W).drew
  have G1 := hS _ G0
  clear hBI hBS
  dsimp only [List.append]
  have hmx : Try.prog.follows .mixedOrders = true := by kernel_rfl
  refine wp_region_held (S := fun u => Kept (fun _ => False) W u) hmx ?_
  show wpAnyH Try.prog .any _ _ _ _ _ _ W.drew
  refine wpAnyH_take (i := 0) (v := .bool true) rfl (by kernel_rfl) (by kernel_rfl) (by kernel_rfl) (fun _ _ _ h => h) (.inl ⟨by rfl, fun u hu => by go_simp⟩) G0 ?_
  show wpAnyH Try.prog .any _ _ _ _ _ (Act.put _ (some 13) (.bool true)) _
  simp only [Act.put, List.setIfInBounds_toArray, List.set_cons_zero, List.set_cons_succ]
  refine wpAnyH_take (i := 1) (v := .bool true) rfl (by kernel_rfl) (by kernel_rfl) (by kernel_rfl) (fun _ _ _ h => h) (.inl ⟨by rfl, fun u hu => by go_simp⟩) G0 ?_
  show wpAnyH Try.prog .any _ _ _ _ _ (Act.put _ (some 14) (.bool true)) _
  simp only [Act.put, List.setIfInBounds_toArray, List.set_cons_zero, List.set_cons_succ]
  refine wpAnyH_take (i := 2) (v := .pointer (some ⟨w.heap.size, 4, none⟩)) rfl (by kernel_rfl) (by kernel_rfl) (by kernel_rfl) (fun _ _ _ h => h) (.inl ⟨by rfl, fun u hu => by go_simp⟩) G0 ?_
  show wpAnyH Try.prog .any _ _ _ _ _ (Act.put _ (some 15) (.pointer (some ⟨w.heap.size, 4, none⟩))) _
  simp only [Act.put, List.setIfInBounds_toArray, List.set_cons_zero, List.set_cons_succ]
  refine wpAnyH_take (i := 3) (v := .complex .f64 X X) rfl (by kernel_rfl) (by kernel_rfl) (by kernel_rfl) (fun _ _ _ h => h) (.inl ⟨by rfl, fun u hu => by obtain ⟨e0, e1, e2, e3, e4, e5, e6, e7⟩ := hS u hu; go_simp⟩) G0 ?_
  show wpAnyH Try.prog .any _ _ _ _ _ (Act.put _ (some 16) (.complex .f64 X X)) _
  simp only [Act.put, List.setIfInBounds_toArray, List.set_cons_zero, List.set_cons_succ]
  refine wpAnyH_take (i := 4) (v := .bool true) rfl (by kernel_rfl) (by kernel_rfl) (by kernel_rfl) (fun _ _ _ h => h) (.inl ⟨by rfl, fun u hu => by go_simp⟩) G0 ?_
  show wpAnyH Try.prog .any _ _ _ _ _ (Act.put _ (some 17) (.bool true)) _
  simp only [Act.put, List.setIfInBounds_toArray, List.set_cons_zero, List.set_cons_succ]
  refine wpAnyH_take (i := 5) (v := .bool true) rfl (by kernel_rfl) (by kernel_rfl) (by kernel_rfl) (fun _ _ _ h => h) (.inl ⟨by rfl, fun u hu => by go_simp⟩) G0 ?_
  show wpAnyH Try.prog .any _ _ _ _ _ (Act.put _ (some 18) (.bool true)) _
  simp only [Act.put, List.setIfInBounds_toArray, List.set_cons_zero, List.set_cons_succ]
  refine wpAnyH_take (i := 6) (v := undef) rfl (by kernel_rfl) (by kernel_rfl) (by kernel_rfl) (fun _ _ _ h => h) (.inr ⟨by rfl, rfl⟩) G0 ?_
  show wpAnyH Try.prog .any _ _ _ _ _ (Act.put _ (some 19) (undef)) _
  simp only [Act.put, List.setIfInBounds_toArray, List.set_cons_zero, List.set_cons_succ]
  refine wpAnyH_take (i := 7) (v := undef) rfl (by kernel_rfl) (by kernel_rfl) (by kernel_rfl) (fun _ _ _ h => h) (.inr ⟨by rfl, rfl⟩) G0 ?_
  show wpAnyH Try.prog .any _ _ _ _ _ (Act.put _ (some 20) (undef)) _
  simp only [Act.put, List.setIfInBounds_toArray, List.set_cons_zero, List.set_cons_succ]
  refine wpAnyH_take (i := 8) (v := undef) rfl (by kernel_rfl) (by kernel_rfl) (by kernel_rfl) (fun _ _ _ h => h) (.inr ⟨by rfl, rfl⟩) G0 ?_
  show wpAnyH Try.prog .any _ _ _ _ _ (Act.put _ (some 21) (undef)) _
  simp only [Act.put, List.setIfInBounds_toArray, List.set_cons_zero, List.set_cons_succ]
  refine wpAnyH_take (i := 9) (v := undef) rfl (by kernel_rfl) (by kernel_rfl) (by kernel_rfl) (fun _ _ _ h => h) (.inr ⟨by rfl, rfl⟩) G0 ?_
  show wpAnyH Try.prog .any _ _ _ _ _ (Act.put _ (some 22) (undef)) _
  simp only [Act.put, List.setIfInBounds_toArray, List.set_cons_zero, List.set_cons_succ]
  refine wpAnyH_take (i := 10) (v := undef) rfl (by kernel_rfl) (by kernel_rfl) (by kernel_rfl) (fun _ _ _ h => h) (.inr ⟨by rfl, rfl⟩) G0 ?_
  show wpAnyH Try.prog .any _ _ _ _ _ (Act.put _ (some 23) (undef)) _
  simp only [Act.put, List.setIfInBounds_toArray, List.set_cons_zero, List.set_cons_succ]
  refine wpAnyH_take (i := 11) (v := undef) rfl (by kernel_rfl) (by kernel_rfl) (by kernel_rfl) (fun _ _ _ h => h) (.inr ⟨by rfl, rfl⟩) G0 ?_
  show wpAnyH Try.prog .any _ _ _ _ _ (Act.put _ (some 24) (undef)) _
  simp only [Act.put, List.setIfInBounds_toArray, List.set_cons_zero, List.set_cons_succ]
  refine wpAnyH_take (i := 12) (v := undef) rfl (by kernel_rfl) (by kernel_rfl) (by kernel_rfl) (fun _ _ _ h => h) (.inr ⟨by rfl, rfl⟩) G0 ?_
  show wpAnyH Try.prog .any _ _ _ _ _ (Act.put _ (some 25) (undef)) _
  simp only [Act.put, List.setIfInBounds_toArray, List.set_cons_zero, List.set_cons_succ]
  refine wpAnyH_take (i := 13) (v := .bool true) rfl (by kernel_rfl) (by kernel_rfl) (by kernel_rfl) (fun _ _ _ h => h) (.inl ⟨by rfl, fun u hu => by go_simp⟩) G0 ?_
  show wpAnyH Try.prog .any _ _ _ _ _ (Act.put _ (some 26) (.bool true)) _
  simp only [Act.put, List.setIfInBounds_toArray, List.set_cons_zero, List.set_cons_succ]
  refine wpAnyH_take (i := 14) (v := .bool true) rfl (by kernel_rfl) (by kernel_rfl) (by kernel_rfl) (fun _ _ _ h => h) (.inl ⟨by rfl, fun u hu => by go_simp⟩) G0 ?_
  show wpAnyH Try.prog .any _ _ _ _ _ (Act.put _ (some 27) (.bool true)) _
  simp only [Act.put, List.setIfInBounds_toArray, List.set_cons_zero, List.set_cons_succ]
  refine wpAnyH_take (i := 15) (v := .bool true) rfl (by kernel_rfl) (by kernel_rfl) (by kernel_rfl) (fun _ _ _ h => h) (.inl ⟨by rfl, fun u hu => by go_simp⟩) G0 ?_
  show wpAnyH Try.prog .any _ _ _ _ _ (Act.put _ (some 28) (.bool true)) _
  simp only [Act.put, List.setIfInBounds_toArray, List.set_cons_zero, List.set_cons_succ]
  refine wpAnyH_take (i := 16) (v := .pointer (some ⟨w.heap.size, 5, none⟩)) rfl (by kernel_rfl) (by kernel_rfl) (by kernel_rfl) (fun _ _ _ h => h) (.inl ⟨by rfl, fun u hu => by go_simp⟩) G0 ?_
  show wpAnyH Try.prog .any _ _ _ _ _ (Act.put _ (some 29) (.pointer (some ⟨w.heap.size, 5, none⟩))) _
  simp only [Act.put, List.setIfInBounds_toArray, List.set_cons_zero, List.set_cons_succ]
  refine wpAnyH_take (i := 17) (v := .string ⟨#[]⟩) rfl (by kernel_rfl) (by kernel_rfl) (by kernel_rfl) (fun _ _ _ h => h) (.inl ⟨by rfl, fun u hu => by obtain ⟨e0, e1, e2, e3, e4, e5, e6, e7⟩ := hS u hu; go_simp⟩) G0 ?_
  show wpAnyH Try.prog .any _ _ _ _ _ (Act.put _ (some 30) (.string ⟨#[]⟩)) _
  simp only [Act.put, List.setIfInBounds_toArray, List.set_cons_zero, List.set_cons_succ]
  refine wpAnyH_take (i := 18) (v := .bool true) rfl (by kernel_rfl) (by kernel_rfl) (by kernel_rfl) (fun _ _ _ h => h) (.inl ⟨by rfl, fun u hu => by go_simp⟩) G0 ?_
  show wpAnyH Try.prog .any _ _ _ _ _ (Act.put _ (some 31) (.bool true)) _
  simp only [Act.put, List.setIfInBounds_toArray, List.set_cons_zero, List.set_cons_succ]
  refine wpAnyH_take (i := 19) (v := .bool true) rfl (by kernel_rfl) (by kernel_rfl) (by kernel_rfl) (fun _ _ _ h => h) (.inl ⟨by rfl, fun u hu => by go_simp⟩) G0 ?_
  show wpAnyH Try.prog .any _ _ _ _ _ (Act.put _ (some 32) (.bool true)) _
  simp only [Act.put, List.setIfInBounds_toArray, List.set_cons_zero, List.set_cons_succ]
  refine wpAnyH_take (i := 20) (v := undef) rfl (by kernel_rfl) (by kernel_rfl) (by kernel_rfl) (fun _ _ _ h => h) (.inr ⟨by rfl, rfl⟩) G0 ?_
  show wpAnyH Try.prog .any _ _ _ _ _ (Act.put _ (some 33) (undef)) _
  simp only [Act.put, List.setIfInBounds_toArray, List.set_cons_zero, List.set_cons_succ]
  refine wpAnyH_take (i := 21) (v := undef) rfl (by kernel_rfl) (by kernel_rfl) (by kernel_rfl) (fun _ _ _ h => h) (.inr ⟨by rfl, rfl⟩) G0 ?_
  show wpAnyH Try.prog .any _ _ _ _ _ (Act.put _ (some 34) (undef)) _
  simp only [Act.put, List.setIfInBounds_toArray, List.set_cons_zero, List.set_cons_succ]
  refine wpAnyH_take (i := 22) (v := undef) rfl (by kernel_rfl) (by kernel_rfl) (by kernel_rfl) (fun _ _ _ h => h) (.inr ⟨by rfl, rfl⟩) G0 ?_
  show wpAnyH Try.prog .any _ _ _ _ _ (Act.put _ (some 35) (undef)) _
  simp only [Act.put, List.setIfInBounds_toArray, List.set_cons_zero, List.set_cons_succ]
  refine wpAnyH_take (i := 23) (v := undef) rfl (by kernel_rfl) (by kernel_rfl) (by kernel_rfl) (fun _ _ _ h => h) (.inr ⟨by rfl, rfl⟩) G0 ?_
  show wpAnyH Try.prog .any _ _ _ _ _ (Act.put _ (some 36) (undef)) _
  simp only [Act.put, List.setIfInBounds_toArray, List.set_cons_zero, List.set_cons_succ]
  refine wpAnyH_take (i := 24) (v := undef) rfl (by kernel_rfl) (by kernel_rfl) (by kernel_rfl) (fun _ _ _ h => h) (.inr ⟨by rfl, rfl⟩) G0 ?_
  show wpAnyH Try.prog .any _ _ _ _ _ (Act.put _ (some 37) (undef)) _
  simp only [Act.put, List.setIfInBounds_toArray, List.set_cons_zero, List.set_cons_succ]
  refine wpAnyH_take (i := 25) (v := undef) rfl (by kernel_rfl) (by kernel_rfl) (by kernel_rfl) (fun _ _ _ h => h) (.inr ⟨by rfl, rfl⟩) G0 ?_
  show wpAnyH Try.prog .any _ _ _ _ _ (Act.put _ (some 38) (undef)) _
  simp only [Act.put, List.setIfInBounds_toArray, List.set_cons_zero, List.set_cons_succ]
  refine wpAnyH_take (i := 26) (v := undef) rfl (by kernel_rfl) (by kernel_rfl) (by kernel_rfl) (fun _ _ _ h => h) (.inr ⟨by rfl, rfl⟩) G0 ?_
  show wpAnyH Try.prog .any _ _ _ _ _ (Act.put _ (some 39) (undef)) _
  simp only [Act.put, List.setIfInBounds_toArray, List.set_cons_zero, List.set_cons_succ]
  refine wpAnyH_take (i := 27) (v := undef) rfl (by kernel_rfl) (by kernel_rfl) (by kernel_rfl) (fun _ _ _ h => h) (.inr ⟨by rfl, rfl⟩) G0 ?_
  show wpAnyH Try.prog .any _ _ _ _ _ (Act.put _ (some 40) (undef)) _
  simp only [Act.put, List.setIfInBounds_toArray, List.set_cons_zero, List.set_cons_succ]
  refine wpAnyH_take (i := 28) (v := .bool true) rfl (by kernel_rfl) (by kernel_rfl) (by kernel_rfl) (fun _ _ _ h => h) (.inl ⟨by rfl, fun u hu => by go_simp⟩) G0 ?_
  show wpAnyH Try.prog .any _ _ _ _ _ (Act.put _ (some 41) (.bool true)) _
  simp only [Act.put, List.setIfInBounds_toArray, List.set_cons_zero, List.set_cons_succ]
  refine wpAnyH_take (i := 29) (v := .bool true) rfl (by kernel_rfl) (by kernel_rfl) (by kernel_rfl) (fun _ _ _ h => h) (.inl ⟨by rfl, fun u hu => by go_simp⟩) G0 ?_
  show wpAnyH Try.prog .any _ _ _ _ _ (Act.put _ (some 42) (.bool true)) _
  simp only [Act.put, List.setIfInBounds_toArray, List.set_cons_zero, List.set_cons_succ]
  refine wpAnyH_take (i := 30) (v := .bool true) rfl (by kernel_rfl) (by kernel_rfl) (by kernel_rfl) (fun _ _ _ h => h) (.inl ⟨by rfl, fun u hu => by go_simp⟩) G0 ?_
  show wpAnyH Try.prog .any _ _ _ _ _ (Act.put _ (some 43) (.bool true)) _
  simp only [Act.put, List.setIfInBounds_toArray, List.set_cons_zero, List.set_cons_succ]
  refine wpAnyH_take (i := 31) (v := .pointer (some ⟨w.heap.size, 2, none⟩)) rfl (by kernel_rfl) (by kernel_rfl) (by kernel_rfl) (fun _ _ _ h => h) (.inl ⟨by rfl, fun u hu => by go_simp⟩) G0 ?_
  show wpAnyH Try.prog .any _ _ _ _ _ (Act.put _ (some 44) (.pointer (some ⟨w.heap.size, 2, none⟩))) _
  simp only [Act.put, List.setIfInBounds_toArray, List.set_cons_zero, List.set_cons_succ]
  refine wpAnyH_take (i := 32) (v := .int .i64 0) rfl (by kernel_rfl) (by kernel_rfl) (by kernel_rfl) (fun _ _ _ h => h) (.inl ⟨by rfl, fun u hu => by obtain ⟨e0, e1, e2, e3, e4, e5, e6, e7⟩ := hS u hu; go_simp⟩) G0 ?_
  show wpAnyH Try.prog .any _ _ _ _ _ (Act.put _ (some 45) (.int .i64 0)) _
  simp only [Act.put, List.setIfInBounds_toArray, List.set_cons_zero, List.set_cons_succ]
  refine wpAnyH_take (i := 33) (v := .bool true) rfl (by kernel_rfl) (by kernel_rfl) (by kernel_rfl) (fun _ _ _ h => h) (.inl ⟨by rfl, fun u hu => by go_simp⟩) G0 ?_
  show wpAnyH Try.prog .any _ _ _ _ _ (Act.put _ (some 46) (.bool true)) _
  simp only [Act.put, List.setIfInBounds_toArray, List.set_cons_zero, List.set_cons_succ]
  refine wpAnyH_take (i := 34) (v := .bool true) rfl (by kernel_rfl) (by kernel_rfl) (by kernel_rfl) (fun _ _ _ h => h) (.inl ⟨by rfl, fun u hu => by go_simp⟩) G0 ?_
  show wpAnyH Try.prog .any _ _ _ _ _ (Act.put _ (some 47) (.bool true)) _
  simp only [Act.put, List.setIfInBounds_toArray, List.set_cons_zero, List.set_cons_succ]
  refine wpAnyH_take (i := 35) (v := undef) rfl (by kernel_rfl) (by kernel_rfl) (by kernel_rfl) (fun _ _ _ h => h) (.inr ⟨by rfl, rfl⟩) G0 ?_
  show wpAnyH Try.prog .any _ _ _ _ _ (Act.put _ (some 48) (undef)) _
  simp only [Act.put, List.setIfInBounds_toArray, List.set_cons_zero, List.set_cons_succ]
  refine wpAnyH_take (i := 36) (v := undef) rfl (by kernel_rfl) (by kernel_rfl) (by kernel_rfl) (fun _ _ _ h => h) (.inr ⟨by rfl, rfl⟩) G0 ?_
  show wpAnyH Try.prog .any _ _ _ _ _ (Act.put _ (some 49) (undef)) _
  simp only [Act.put, List.setIfInBounds_toArray, List.set_cons_zero, List.set_cons_succ]
  refine wpAnyH_take (i := 37) (v := undef) rfl (by kernel_rfl) (by kernel_rfl) (by kernel_rfl) (fun _ _ _ h => h) (.inr ⟨by rfl, rfl⟩) G0 ?_
  show wpAnyH Try.prog .any _ _ _ _ _ (Act.put _ (some 50) (undef)) _
  simp only [Act.put, List.setIfInBounds_toArray, List.set_cons_zero, List.set_cons_succ]
  refine wpAnyH_take (i := 38) (v := undef) rfl (by kernel_rfl) (by kernel_rfl) (by kernel_rfl) (fun _ _ _ h => h) (.inr ⟨by rfl, rfl⟩) G0 ?_
  show wpAnyH Try.prog .any _ _ _ _ _ (Act.put _ (some 51) (undef)) _
  simp only [Act.put, List.setIfInBounds_toArray, List.set_cons_zero, List.set_cons_succ]
  refine wpAnyH_take (i := 39) (v := undef) rfl (by kernel_rfl) (by kernel_rfl) (by kernel_rfl) (fun _ _ _ h => h) (.inr ⟨by rfl, rfl⟩) G0 ?_
  show wpAnyH Try.prog .any _ _ _ _ _ (Act.put _ (some 52) (undef)) _
  simp only [Act.put, List.setIfInBounds_toArray, List.set_cons_zero, List.set_cons_succ]
  refine wpAnyH_take (i := 40) (v := undef) rfl (by kernel_rfl) (by kernel_rfl) (by kernel_rfl) (fun _ _ _ h => h) (.inr ⟨by rfl, rfl⟩) G0 ?_
  show wpAnyH Try.prog .any _ _ _ _ _ (Act.put _ (some 53) (undef)) _
  simp only [Act.put, List.setIfInBounds_toArray, List.set_cons_zero, List.set_cons_succ]
  refine wpAnyH_take (i := 41) (v := undef) rfl (by kernel_rfl) (by kernel_rfl) (by kernel_rfl) (fun _ _ _ h => h) (.inr ⟨by rfl, rfl⟩) G0 ?_
  show wpAnyH Try.prog .any _ _ _ _ _ (Act.put _ (some 54) (undef)) _
  simp only [Act.put, List.setIfInBounds_toArray, List.set_cons_zero, List.set_cons_succ]
  refine wpAnyH_take (i := 42) (v := .bool true) rfl (by kernel_rfl) (by kernel_rfl) (by kernel_rfl) (fun _ _ _ h => h) (.inl ⟨by rfl, fun u hu => by go_simp⟩) G0 ?_
  show wpAnyH Try.prog .any _ _ _ _ _ (Act.put _ (some 55) (.bool true)) _
  simp only [Act.put, List.setIfInBounds_toArray, List.set_cons_zero, List.set_cons_succ]
  refine wpAnyH_take (i := 43) (v := .bool true) rfl (by kernel_rfl) (by kernel_rfl) (by kernel_rfl) (fun _ _ _ h => h) (.inl ⟨by rfl, fun u hu => by go_simp⟩) G0 ?_
  show wpAnyH Try.prog .any _ _ _ _ _ (Act.put _ (some 56) (.bool true)) _
  simp only [Act.put, List.setIfInBounds_toArray, List.set_cons_zero, List.set_cons_succ]
  refine wpAnyH_take (i := 44) (v := .bool true) rfl (by kernel_rfl) (by kernel_rfl) (by kernel_rfl) (fun _ _ _ h => h) (.inl ⟨by rfl, fun u hu => by go_simp⟩) G0 ?_
  show wpAnyH Try.prog .any _ _ _ _ _ (Act.put _ (some 57) (.bool true)) _
  simp only [Act.put, List.setIfInBounds_toArray, List.set_cons_zero, List.set_cons_succ]
  refine wpAnyH_take (i := 45) (v := .pointer (some ⟨w.heap.size, 3, none⟩)) rfl (by kernel_rfl) (by kernel_rfl) (by kernel_rfl) (fun _ _ _ h => h) (.inl ⟨by rfl, fun u hu => by go_simp⟩) G0 ?_
  show wpAnyH Try.prog .any _ _ _ _ _ (Act.put _ (some 58) (.pointer (some ⟨w.heap.size, 3, none⟩))) _
  simp only [Act.put, List.setIfInBounds_toArray, List.set_cons_zero, List.set_cons_succ]
  refine wpAnyH_take (i := 46) (v := .int .i64 1) rfl (by kernel_rfl) (by kernel_rfl) (by kernel_rfl) (fun _ _ _ h => h) (.inl ⟨by rfl, fun u hu => by obtain ⟨e0, e1, e2, e3, e4, e5, e6, e7⟩ := hS u hu; go_simp⟩) G0 ?_
  show wpAnyH Try.prog .any _ _ _ _ _ (Act.put _ (some 59) (.int .i64 1)) _
  simp only [Act.put, List.setIfInBounds_toArray, List.set_cons_zero, List.set_cons_succ]
  refine wpAnyH_take (i := 47) (v := .bool false) rfl (by kernel_rfl) (by kernel_rfl) (by kernel_rfl) (fun _ _ _ h => h) (.inl ⟨by rfl, fun u hu => by go_simp⟩) G0 ?_
  show wpAnyH Try.prog .any _ _ _ _ _ (Act.put _ (some 60) (.bool false)) _
  simp only [Act.put, List.setIfInBounds_toArray, List.set_cons_zero, List.set_cons_succ]
  refine wpAnyH_take (i := 48) (v := .bool false) rfl (by kernel_rfl) (by kernel_rfl) (by kernel_rfl) (fun _ _ _ h => h) (.inl ⟨by rfl, fun u hu => by go_simp⟩) G0 ?_
  show wpAnyH Try.prog .any _ _ _ _ _ (Act.put _ (some 61) (.bool false)) _
  simp only [Act.put, List.setIfInBounds_toArray, List.set_cons_zero, List.set_cons_succ]
  refine wpAnyH_take (i := 49) (v := .func (.func 40) #[] #[.pointer (some ⟨w.heap.size + 1, 0, none⟩)]) rfl (by kernel_rfl) (by kernel_rfl) (by kernel_rfl) (fun _ _ _ h => h) (.inl ⟨by rfl, fun u hu => by go_simp⟩) G0 ?_
  show wpAnyH Try.prog .any _ _ _ _ _ (Act.put _ (some 62) (.func (.func 40) #[] #[.pointer (some ⟨w.heap.size + 1, 0, none⟩)])) _
  simp only [Act.put, List.setIfInBounds_toArray, List.set_cons_zero, List.set_cons_succ]
  refine wpAnyH_ready (rs := [50]) (by kernel_rfl) (by simp) ?_
  refine AllReadyH.cons rfl (fun K hK => ?_) AllReadyH.nil
  go_simp
  refine (casked ⟨#[]⟩ 98 (w.heap.size + 1) _ (hS _ G0).2.2.2.2.2.2.2).mono ?_
  rintro e wc1 ⟨rfl, rfl⟩
  rw [show (decide (0 ≤ Lib.indexByte (ByteArray.mk #[]).data.toList (Int.toNat 98).toUInt8)) = false from by decide]
  refine hK.out _ _ G0 (fun _ => ?_)
  clear hK K
  (try show wpAnyH Try.prog .any _ _ _ _ _ (Act.put _ (some 63) (.bool false)) _)
  (try simp only [Act.put, List.setIfInBounds_toArray, List.set_cons_zero, List.set_cons_succ])
  refine wpAnyH_take (i := 51) (v := .bool false) rfl (by kernel_rfl) (by kernel_rfl) (by kernel_rfl) (fun _ _ _ h => h) (.inl ⟨by rfl, fun u hu => by go_simp⟩) G0 ?_
  show wpAnyH Try.prog .any _ _ _ _ _ (Act.put _ (some 64) (.bool false)) _
  simp only [Act.put, List.setIfInBounds_toArray, List.set_cons_zero, List.set_cons_succ]
  refine wpAnyH_take (i := 52) (v := undef) rfl (by kernel_rfl) (by kernel_rfl) (by kernel_rfl) (fun _ _ _ h => h) (.inr ⟨by rfl, rfl⟩) G0 ?_
  show wpAnyH Try.prog .any _ _ _ _ _ (Act.put _ (some 65) (undef)) _
  simp only [Act.put, List.setIfInBounds_toArray, List.set_cons_zero, List.set_cons_succ]
  refine wpAnyH_take (i := 53) (v := undef) rfl (by kernel_rfl) (by kernel_rfl) (by kernel_rfl) (fun _ _ _ h => h) (.inr ⟨by rfl, rfl⟩) G0 ?_
  show wpAnyH Try.prog .any _ _ _ _ _ (Act.put _ (some 66) (undef)) _
  simp only [Act.put, List.setIfInBounds_toArray, List.set_cons_zero, List.set_cons_succ]
  refine wpAnyH_take (i := 54) (v := undef) rfl (by kernel_rfl) (by kernel_rfl) (by kernel_rfl) (fun _ _ _ h => h) (.inr ⟨by rfl, rfl⟩) G0 ?_
  show wpAnyH Try.prog .any _ _ _ _ _ (Act.put _ (some 67) (undef)) _
  simp only [Act.put, List.setIfInBounds_toArray, List.set_cons_zero, List.set_cons_succ]
  refine wpAnyH_take (i := 55) (v := .bool false) rfl (by kernel_rfl) (by kernel_rfl) (by kernel_rfl) (fun _ _ _ h => h) (.inl ⟨by rfl, fun u hu => by go_simp⟩) G0 ?_
  show wpAnyH Try.prog .any _ _ _ _ _ (Act.put _ (some 68) (.bool false)) _
  simp only [Act.put, List.setIfInBounds_toArray, List.set_cons_zero, List.set_cons_succ]
  refine wpAnyH_take (i := 56) (v := .bool false) rfl (by kernel_rfl) (by kernel_rfl) (by kernel_rfl) (fun _ _ _ h => h) (.inl ⟨by rfl, fun u hu => by go_simp⟩) G0 ?_
  show wpAnyH Try.prog .any _ _ _ _ _ (Act.put _ (some 69) (.bool false)) _
  simp only [Act.put, List.setIfInBounds_toArray, List.set_cons_zero, List.set_cons_succ]
  refine wpAnyH_take (i := 57) (v := .bool false) rfl (by kernel_rfl) (by kernel_rfl) (by kernel_rfl) (fun _ _ _ h => h) (.inl ⟨by rfl, fun u hu => by go_simp⟩) G0 ?_
  show wpAnyH Try.prog .any _ _ _ _ _ (Act.put _ (some 70) (.bool false)) _
  simp only [Act.put, List.setIfInBounds_toArray, List.set_cons_zero, List.set_cons_succ]
  refine wpAnyH_take (i := 58) (v := .bool false) rfl (by kernel_rfl) (by kernel_rfl) (by kernel_rfl) (fun _ _ _ h => h) (.inl ⟨by rfl, fun u hu => by go_simp⟩) G0 ?_
  show wpAnyH Try.prog .any _ _ _ _ _ (Act.put _ (some 71) (.bool false)) _
  simp only [Act.put, List.setIfInBounds_toArray, List.set_cons_zero, List.set_cons_succ]
  refine wpAnyH_take (i := 59) (v := undef) rfl (by kernel_rfl) (by kernel_rfl) (by kernel_rfl) (fun _ _ _ h => h) (.inr ⟨by rfl, rfl⟩) G0 ?_
  show wpAnyH Try.prog .any _ _ _ _ _ (Act.put _ (some 72) (undef)) _
  simp only [Act.put, List.setIfInBounds_toArray, List.set_cons_zero, List.set_cons_succ]
  refine wpAnyH_take (i := 60) (v := undef) rfl (by kernel_rfl) (by kernel_rfl) (by kernel_rfl) (fun _ _ _ h => h) (.inr ⟨by rfl, rfl⟩) G0 ?_
  show wpAnyH Try.prog .any _ _ _ _ _ (Act.put _ (some 73) (undef)) _
  simp only [Act.put, List.setIfInBounds_toArray, List.set_cons_zero, List.set_cons_succ]
  refine wpAnyH_take (i := 61) (v := .bool false) rfl (by kernel_rfl) (by kernel_rfl) (by kernel_rfl) (fun _ _ _ h => h) (.inl ⟨by rfl, fun u hu => by go_simp⟩) G0 ?_
  show wpAnyH Try.prog .any _ _ _ _ _ (Act.put _ (some 74) (.bool false)) _
  simp only [Act.put, List.setIfInBounds_toArray, List.set_cons_zero, List.set_cons_succ]
  refine wpAnyH_take (i := 62) (v := .bool false) rfl (by kernel_rfl) (by kernel_rfl) (by kernel_rfl) (fun _ _ _ h => h) (.inl ⟨by rfl, fun u hu => by go_simp⟩) G0 ?_
  show wpAnyH Try.prog .any _ _ _ _ _ (Act.put _ (some 75) (.bool false)) _
  simp only [Act.put, List.setIfInBounds_toArray, List.set_cons_zero, List.set_cons_succ]
  refine wpAnyH_take (i := 63) (v := undef) rfl (by kernel_rfl) (by kernel_rfl) (by kernel_rfl) (fun _ _ _ h => h) (.inr ⟨by rfl, rfl⟩) G0 ?_
  show wpAnyH Try.prog .any _ _ _ _ _ (Act.put _ (some 76) (undef)) _
  simp only [Act.put, List.setIfInBounds_toArray, List.set_cons_zero, List.set_cons_succ]
  refine wpAnyH_take (i := 64) (v := undef) rfl (by kernel_rfl) (by kernel_rfl) (by kernel_rfl) (fun _ _ _ h => h) (.inr ⟨by rfl, rfl⟩) G0 ?_
  show wpAnyH Try.prog .any _ _ _ _ _ (Act.put _ (some 77) (undef)) _
  simp only [Act.put, List.setIfInBounds_toArray, List.set_cons_zero, List.set_cons_succ]
  refine wpAnyH_take (i := 65) (v := undef) rfl (by kernel_rfl) (by kernel_rfl) (by kernel_rfl) (fun _ _ _ h => h) (.inr ⟨by rfl, rfl⟩) G0 ?_
  show wpAnyH Try.prog .any _ _ _ _ _ (Act.put _ (some 78) (undef)) _
  simp only [Act.put, List.setIfInBounds_toArray, List.set_cons_zero, List.set_cons_succ]
  refine wpAnyH_take (i := 66) (v := undef) rfl (by kernel_rfl) (by kernel_rfl) (by kernel_rfl) (fun _ _ _ h => h) (.inr ⟨by rfl, rfl⟩) G0 ?_
  show wpAnyH Try.prog .any _ _ _ _ _ (Act.put _ (some 79) (undef)) _
  simp only [Act.put, List.setIfInBounds_toArray, List.set_cons_zero, List.set_cons_succ]
  refine wpAnyH_take (i := 67) (v := undef) rfl (by kernel_rfl) (by kernel_rfl) (by kernel_rfl) (fun _ _ _ h => h) (.inr ⟨by rfl, rfl⟩) G0 ?_
  show wpAnyH Try.prog .any _ _ _ _ _ (Act.put _ (some 80) (undef)) _
  simp only [Act.put, List.setIfInBounds_toArray, List.set_cons_zero, List.set_cons_succ]
  refine wpAnyH_take (i := 68) (v := undef) rfl (by kernel_rfl) (by kernel_rfl) (by kernel_rfl) (fun _ _ _ h => h) (.inr ⟨by rfl, rfl⟩) G0 ?_
  show wpAnyH Try.prog .any _ _ _ _ _ (Act.put _ (some 81) (undef)) _
  simp only [Act.put, List.setIfInBounds_toArray, List.set_cons_zero, List.set_cons_succ]
  refine wpAnyH_take (i := 69) (v := .bool false) rfl (by kernel_rfl) (by kernel_rfl) (by kernel_rfl) (fun _ _ _ h => h) (.inl ⟨by rfl, fun u hu => by go_simp⟩) G0 ?_
  show wpAnyH Try.prog .any _ _ _ _ _ (Act.put _ (some 82) (.bool false)) _
  simp only [Act.put, List.setIfInBounds_toArray, List.set_cons_zero, List.set_cons_succ]
  refine wpAnyH_take (i := 70) (v := .bool false) rfl (by kernel_rfl) (by kernel_rfl) (by kernel_rfl) (fun _ _ _ h => h) (.inl ⟨by rfl, fun u hu => by go_simp⟩) G0 ?_
  show wpAnyH Try.prog .any _ _ _ _ _ (Act.put _ (some 2) (.bool false)) _
  simp only [Act.put, List.setIfInBounds_toArray, List.set_cons_zero, List.set_cons_succ]
  refine wpAnyH_done (by kernel_rfl) ?_ _
  go_wp2
  go_ret
  rw [HF.out]
  exact ⟨rfl, hK2.trans (by assumption) (fun _ _ h => h) (fun _ _ h => h)⟩
end Go.Proofs.Ytbhcmhbicbhgmaa.Wire
