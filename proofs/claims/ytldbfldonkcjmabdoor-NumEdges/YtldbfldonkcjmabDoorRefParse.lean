/-
  The document's Parse: its walk.
-/
import Derived.Test.YtldbfldonkcjmabDoorParseWalk
namespace Go.Proofs.YtldbfldonkcjmabDoor
open Go.RowKit Ieee

/-- How the text begins: with a minus, or not. -/
theorem ahead_or (s : ByteArray) : (minusAhead s = true ∧ s.toList.isEmpty = false ∧ ∃ h : 0 < s.size, (s[0].toNat : Int) = 45) ∨ (minusAhead s = false ∧ s.toList.isEmpty = true) ∨
    (minusAhead s = false ∧ s.toList.isEmpty = false ∧ ∃ h : 0 < s.size, ((s[0].toNat : Int) == 45) = false) := by
  by_cases h : s.toList.isEmpty = true
  · refine .inr (.inl ⟨?_, h⟩)
    unfold minusAhead
    rw [ByteArray.toList_eq, List.isEmpty_iff] at h
    rw [h]
    rfl
  · have h' := Bool.eq_false_iff.2 h
    have hp := empty_size s h'
    unfold minusAhead
    rw [head_at s hp]
    by_cases hx : s[0] = 45
    · exact .inl ⟨by rw [hx]; rfl, h', hp, by rw [hx]; rfl⟩
    · refine .inr (.inr ⟨by simpa using hx, h', hp, ?_⟩)
      have : s[0].toNat ≠ 45 := fun e => hx (UInt8.toNat_inj.1 (by rw [e]; rfl))
      simp; omega

end Go.Proofs.YtldbfldonkcjmabDoor
