/-
  The package's Split: its walk, from label to label.
-/
import Derived.Test.YtcjddbponknnoaaGreatDoorLexReadQuoted
namespace Go.Proofs.YtcjddbponknnoaaGreatDoor
open Go.RowKit

set_option maxRecDepth 1000000 in
theorem sClone (s : ByteArray) (w : World) (h : s.size ≤ 8192) : Calls Tryz.prog 48 #[.string s] w fun e w' => e = .returned (.string s) ∧ Below w.heap.size w w' := by
  go_enter Tryz.func48, Tryz.ntmps48
  go_wp2_with fail
  refine (Tryz.stringslite_Clone s _ (by omega)).mono ?_
  rintro e w1 ⟨rfl, hb⟩
  go_wp2
  go_ret
  exact ⟨rfl, hb⟩

theorem arr_map (t : Array Value) : t = ((List.range t.size).map fun k => t.getD k undef).toArray := by
  apply Array.ext
  · simp
  · intro i h1 h2
    simp [Array.getD, h1]
theorem frame115 (a : Act) (h : a.tmps.size = 115) (hd : a.defers = []) : ∃ f : Nat → Value, a = { tmps := #[f 0, f 1, f 2, f 3, f 4, f 5, f 6, f 7, f 8, f 9, f 10, f 11, f 12, f 13, f 14, f 15, f 16, f 17, f 18, f 19, f 20, f 21, f 22, f 23, f 24, f 25, f 26, f 27, f 28, f 29, f 30, f 31, f 32, f 33, f 34, f 35, f 36, f 37, f 38, f 39, f 40, f 41, f 42, f 43, f 44, f 45, f 46, f 47, f 48, f 49, f 50, f 51, f 52, f 53, f 54, f 55, f 56, f 57, f 58, f 59, f 60, f 61, f 62, f 63, f 64, f 65, f 66, f 67, f 68, f 69, f 70, f 71, f 72, f 73, f 74, f 75, f 76, f 77, f 78, f 79, f 80, f 81, f 82, f 83, f 84, f 85, f 86, f 87, f 88, f 89, f 90, f 91, f 92, f 93, f 94, f 95, f 96, f 97, f 98, f 99, f 100, f 101, f 102, f 103, f 104, f 105, f 106, f 107, f 108, f 109, f 110, f 111, f 112, f 113, f 114], defers := [] } := by
  refine ⟨fun k => a.tmps.getD k undef, ?_⟩
  obtain ⟨t, d⟩ := a
  simp only at h hd
  subst hd
  have e := arr_map t
  rw [h] at e
  simp only [Act.mk.injEq, and_true]
  exact e
def spM (s : ByteArray) (l : Nat) (a : Act) (_ : World) : Nat :=
  match l with
  | 0 => 3 * (s.size - (intOf (a.tmps.getD 7 undef)).toNat)
  | 2 => 3 * (s.size - (intOf (a.tmps.getD 7 undef)).toNat) - 1
  | _ => if (intOf (a.tmps.getD 7 undef)).toNat = (intOf (a.tmps.getD 8 undef)).toNat then 3 * (s.size - (intOf (a.tmps.getD 7 undef)).toNat) - 1 else 3 * (s.size - (intOf (a.tmps.getD 7 undef)).toNat) + 1

end Go.Proofs.YtcjddbponknnoaaGreatDoor
