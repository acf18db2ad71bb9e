/-
  The document's own answers: Parts, made, Two, One, Less, Index: what each call answers.
-/
import Derived.Test.YtldbfldonkcjmabDoorOne
namespace Go.Proofs.YtldbfldonkcjmabDoor
open Go.RowKit Ieee

def geB (x : Nat) : Bool := FloatKind.f64.format.order x 13920626448202203136 == some .gt || FloatKind.f64.format.order x 13920626448202203136 == some .eq
def leB (x : Nat) : Bool := FloatKind.f64.format.order x 4697254411347427328 == some .lt || FloatKind.f64.format.order x 4697254411347427328 == some .eq
theorem small_iff (x : Nat) : (geB x = true ∧ leB x = true) ↔ Small (double.read x) := by
  have := two_small x
  rw [fl20, flm20] at this
  exact this

theorem toInt_small (x : Nat) (h : Small (double.read x)) : ∃ v : Int, v.natAbs ≤ 1048576 ∧ floatToIntVal .f64 x .i64 = some v ∧ (Fl x v ∨ (double.order (floatOfInt .f64 v) x == some .eq) = false) := by
  obtain ⟨v, hv, ht, _⟩ := h.whole
  refine ⟨v, hv, ?_, ?_⟩
  · unfold floatToIntVal
    have e : (FloatKind.f64.decode x).toInt .zero = some v := ht
    rw [e]
    simp only
    rw [if_pos]
    constructor
    · show (-9223372036854775808 : Int) ≤ v
      omega
    · show v ≤ (9223372036854775807 : Int)
      omega
  · have hf := Fl.mk v (by omega)
    have hs : (double.order (floatOfInt .f64 v) x == some .eq) = (double.order x (floatOfInt .f64 v) == some .eq) := order_symm_eq _ _
    rw [hs]
    by_cases h : double.order x (floatOfInt .f64 v) = some .eq
    · exact .inl (Is.of_order hf h)
    · exact .inr (beq_eq_false_iff_ne.2 h)

def PartsNo (w : World) (e : Ending) (w' : World) : Prop := (∃ u v : Int, e = .returned (.tuple #[.int .i64 u, .int .i64 v, .bool false])) ∧ w' = w

theorem fl_lt (n : Int) : floatOfInt .f64 n < 18446744073709551616 := by
  have := floatOfInt_wf .f64 n
  simpa [Lit.wf] using this
theorem fl_eq_zero (n : Int) (h : n = 0) : floatOfInt .f64 n = 0 := by subst h; exact fl_zero

end Go.Proofs.YtldbfldonkcjmabDoor
