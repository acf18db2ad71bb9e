/-
  The document's digits and Text: what each call answers.
-/
import Derived.Test.YtldbfldonkcjmabDoorText
import Derived.Deep.LoopGhost
namespace Go.Proofs.YtldbfldonkcjmabDoor
open Go.RowKit Ieee

theorem dig_piece : ∀ d : Fin 10, (⟨#[48, 49, 50, 51, 52, 53, 54, 55, 56, 57]⟩ : ByteArray).extract d.val (d.val + 1) = ⟨#[UInt8.ofNat (48 + d.val)]⟩ := by decide +kernel
theorem dec_small {u : Nat} (h : u < 10) : Lib.decDigits u = [UInt8.ofNat (48 + u)] := by rw [Lib.decDigits, dif_pos h]
theorem dec_big {u : Nat} (h : ¬ u < 10) : Lib.decDigits u = Lib.decDigits (u / 10) ++ [UInt8.ofNat (48 + u % 10)] := by rw [Lib.decDigits, dif_neg h]
/-- What is ahead of the digits that were taken. -/
def ahead (m : Nat) : List UInt8 := if m = 0 then [] else Lib.decDigits m
theorem dec_step (m : Nat) : Lib.decDigits m = ahead (m / 10) ++ [UInt8.ofNat (48 + m % 10)] := by
  by_cases h : m < 10
  · rw [dec_small h, ahead, if_pos (by omega), show m % 10 = m by omega]; rfl
  · rw [dec_big h, ahead, if_neg (by omega)]
theorem ahead_step (m : Nat) (h : m ≠ 0) : ahead m = ahead (m / 10) ++ [UInt8.ofNat (48 + m % 10)] := by
  rw [← dec_step, ahead, if_neg h]
theorem pre_eq (x : UInt8) (s : ByteArray) : (⟨#[x]⟩ : ByteArray) ++ s = ⟨(x :: s.data.toList).toArray⟩ := by
  apply ByteArray.ext
  rw [ByteArray.data_append]
  apply Array.ext'
  simp

theorem dig_step (m : Nat) (l : ByteArray) : ((⟨#[48, 49, 50, 51, 52, 53, 54, 55, 56, 57]⟩ : ByteArray).extract (m % 10) (m % 10 + 1) ++ l).size = l.size + 1 ∧
    ((⟨#[48, 49, 50, 51, 52, 53, 54, 55, 56, 57]⟩ : ByteArray).extract (m % 10) (m % 10 + 1) ++ l).toList.isEmpty = false ∧
    ((⟨#[48, 49, 50, 51, 52, 53, 54, 55, 56, 57]⟩ : ByteArray).extract (m % 10) (m % 10 + 1) ++ l).data.toList = UInt8.ofNat (48 + m % 10) :: l.data.toList := by
  have hp := dig_piece ⟨m % 10, Nat.mod_lt _ (by decide)⟩
  simp only at hp
  have e : ((⟨#[48, 49, 50, 51, 52, 53, 54, 55, 56, 57]⟩ : ByteArray).extract (m % 10) (m % 10 + 1) ++ l).data.toList = UInt8.ofNat (48 + m % 10) :: l.data.toList := by
    rw [hp, pre_eq]
  refine ⟨?_, ?_, e⟩
  · have h := congrArg List.length e
    rw [List.length_cons, Array.length_toList, Array.length_toList] at h
    exact h
  · rw [ByteArray.toList_eq, e]
    rfl
end Go.Proofs.YtldbfldonkcjmabDoor
