/-
  Runes that are no ASCII ones, in bytes: how far one goes; none is a sign.
-/
import Derived.Laws.RangeAny
import Derived.Laws.Runes
import Derived.Lib.IndexAny
import Derived.Test.YtcjddbponknnoaaGreatDoorLexNames
import Derived.Test.YtcjddbponknnoaaGreatDoorTypesSpec
namespace Go.Proofs.YtcjddbponknnoaaGreatDoor
open Go.RowKit Go.Lib

theorem below_drewN {H : Nat} {w w1 : World} (h : Below H w w1) (n : Nat) : Below H w (w1.drewN n) := ⟨h.os, h.tape, h.output, h.size, h.block⟩

theorem get_nat (s : ByteArray) (p : Nat) (h : p < s.size) : s.get! p = s[p] := get_at s p h
/-- How far a rune that is no ASCII one goes: over no ASCII byte. -/
theorem decode_wide (s : ByteArray) (pos : Nat) (h : pos < s.size) (ha : 128 ≤ (s[pos]'h).toNat) : pos + (Utf8.decode s pos).2 ≤ s.size ∧ ∀ j (hj : j < s.size), pos ≤ j → j < pos + (Utf8.decode s pos).2 → 128 ≤ (s[j]'hj).toNat := by
  have hn : ¬ (s[pos]'h).toNat < 128 := by omega
  have one : pos + 1 ≤ s.size ∧ ∀ j (hj : j < s.size), pos ≤ j → j < pos + 1 → 128 ≤ (s[j]'hj).toNat := by
    refine ⟨by omega, fun j hj h1 h2 => ?_⟩
    obtain rfl : j = pos := by omega
    exact ha
  have c : ∀ k, (decide (pos + k < s.size) && (s.get! (pos + k)).toNat / 64 == 2) = true → ∀ hj : pos + k < s.size, 128 ≤ (s[pos + k]'hj).toNat := by
    intro k hk hj
    rw [Bool.and_eq_true, beq_iff_eq, get_nat s _ hj] at hk
    omega
  have c' : ∀ k, (decide (pos + k < s.size) && (s.get! (pos + k)).toNat / 64 == 2) = true → pos + k < s.size := by
    intro k hk
    rw [Bool.and_eq_true] at hk
    exact of_decide_eq_true hk.1
  simp only [Utf8.decode, get_at s pos h, hn, if_false]
  split
  · rename_i h2
    rw [Bool.and_eq_true] at h2
    split
    · refine ⟨by have := c' 1 h2.2; omega, fun j hj h3 h4 => ?_⟩
      rcases (by omega : j = pos ∨ j = pos + 1) with rfl | rfl
      · exact ha
      · exact c 1 h2.2 hj
    · exact one
  · split
    · rename_i h2
      simp only [Bool.and_eq_true] at h2
      have q1 := c 1 (by simp only [Bool.and_eq_true]; exact h2.1.2)
      have q2 := c 2 (by simp only [Bool.and_eq_true]; exact h2.2)
      have q3 := c' 2 (by simp only [Bool.and_eq_true]; exact h2.2)
      split
      · refine ⟨by omega, fun j hj h3 h4 => ?_⟩
        rcases (by omega : j = pos ∨ j = pos + 1 ∨ j = pos + 2) with rfl | rfl | rfl
        · exact ha
        · exact q1 hj
        · exact q2 hj
      · exact one
    · split
      · rename_i h2
        simp only [Bool.and_eq_true] at h2
        have q1 := c 1 (by simp only [Bool.and_eq_true]; exact h2.1.1.2)
        have q2 := c 2 (by simp only [Bool.and_eq_true]; exact h2.1.2)
        have q3 := c 3 (by simp only [Bool.and_eq_true]; exact h2.2)
        have q4 := c' 3 (by simp only [Bool.and_eq_true]; exact h2.2)
        split
        · refine ⟨by omega, fun j hj h3 h4 => ?_⟩
          rcases (by omega : j = pos ∨ j = pos + 1 ∨ j = pos + 2 ∨ j = pos + 3) with rfl | rfl | rfl | rfl
          · exact ha
          · exact q1 hj
          · exact q2 hj
          · exact q3 hj
        · exact one
      · exact one

def sgn : ByteArray := ⟨#[91, 93, 40, 41, 44]⟩
theorem sgn_low : ∀ i (h : i < sgn.size), (sgn[i]'h).toNat < 128 := by decide
theorem indexByte_high : ∀ (l : List UInt8) (c : UInt8), 128 ≤ c.toNat → (∀ b ∈ l, b.toNat < 128) → indexByte l c = -1
  | [], _, _, _ => rfl
  | b :: l, c, h, hl => by
    have h1 : b ≠ c := by rintro rfl; have := hl b (by simp); omega
    rw [indexByte, if_neg (by simpa using h1), indexByte_high l c h (fun x hx => hl x (by simp [hx]))]
    rfl
theorem low_mem (s : ByteArray) (hs : ∀ i (h : i < s.size), (s[i]'h).toNat < 128) : ∀ b ∈ s.data.toList, b.toNat < 128 := by
  intro b hb
  obtain ⟨i, hi, rfl⟩ := List.getElem_of_mem hb
  exact hs i (by rw [← size_len]; exact hi)

theorem valid_of (r : Int) (h : Lib.validRune r = true) : Utf8.valid r = true := by /- 215 -/
  simp only [Lib.validRune, decide_eq_true_eq] at h
  simp only [Utf8.valid, Bool.or_eq_true, Bool.and_eq_true, decide_eq_true_eq]
  omega
end Go.Proofs.YtcjddbponknnoaaGreatDoor
