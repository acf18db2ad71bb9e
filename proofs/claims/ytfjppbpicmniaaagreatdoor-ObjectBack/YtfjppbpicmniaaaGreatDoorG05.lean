/-
  The package's Split: its walk, from label to label.
  And: Nothing of its own. Names: the package's Name, Value, Big, and the document's own. Runes that are no ASCII ones, in bytes: how far one goes; none is a sign. strings.IndexAny at the signs of a type, in any bytes. strings.IndexRune of a rune that is no ASCII one, in ASCII bytes.
-/
import Derived.Test.YtfjppbpicmniaaaGreatDoorG04
import Derived.Test.YtfjppbpicmniaaaGreatDoorShelf
import Derived.Deep.Upon
import Derived.Deep.LoopGhost
import Derived.Laws.RangeAny
import Derived.Laws.Runes
import Derived.Lib.IndexAny
import Derived.Test.YtfjppbpicmniaaaGreatDoorG03
import Derived.BigQuiet
namespace Go.Proofs.YtfjppbpicmniaaaGreatDoor
open Go.RowKit

set_option maxRecDepth 1000000 in
theorem sClone (s : ByteArray) (w : World) (h : s.size ≤ 8192) : Calls Tryz.prog 47 #[.string s] w fun e w' => e = .returned (.string s) ∧ Below w.heap.size w w' := by
  go_enter Tryz.func47, Tryz.ntmps47
  go_wp2_with fail
  refine (Tryz.stringslite_Clone s _ (by omega)).mono ?_
  rintro e w1 ⟨rfl, hb⟩
  go_wp2
  go_ret
  exact ⟨rfl, hb⟩

theorem arr_map (t : Array Value) : t = ((List.range t.size).map fun k => t.getD k undef).toArray := by
  apply Array.ext
  · simp
  · intro i h1 h2
    simp [Array.getD, h1]
theorem frame115 (a : Act) (h : a.tmps.size = 115) (hd : a.defers = []) : ∃ f : Nat → Value, a = { tmps := #[f 0, f 1, f 2, f 3, f 4, f 5, f 6, f 7, f 8, f 9, f 10, f 11, f 12, f 13, f 14, f 15, f 16, f 17, f 18, f 19, f 20, f 21, f 22, f 23, f 24, f 25, f 26, f 27, f 28, f 29, f 30, f 31, f 32, f 33, f 34, f 35, f 36, f 37, f 38, f 39, f 40, f 41, f 42, f 43, f 44, f 45, f 46, f 47, f 48, f 49, f 50, f 51, f 52, f 53, f 54, f 55, f 56, f 57, f 58, f 59, f 60, f 61, f 62, f 63, f 64, f 65, f 66, f 67, f 68, f 69, f 70, f 71, f 72, f 73, f 74, f 75, f 76, f 77, f 78, f 79, f 80, f 81, f 82, f 83, f 84, f 85, f 86, f 87, f 88, f 89, f 90, f 91, f 92, f 93, f 94, f 95, f 96, f 97, f 98, f 99, f 100, f 101, f 102, f 103, f 104, f 105, f 106, f 107, f 108, f 109, f 110, f 111, f 112, f 113, f 114], defers := [] } := by
  refine ⟨fun k => a.tmps.getD k undef, ?_⟩
  obtain ⟨t, d⟩ := a
  simp only at h hd
  subst hd
  have e := arr_map t
  rw [h] at e
  simp only [Act.mk.injEq, and_true]
  exact e
def spM (s : ByteArray) (l : Nat) (a : Act) (_ : World) : Nat :=
  match l with
  | 0 => 3 * (s.size - (intOf (a.tmps.getD 7 undef)).toNat)
  | 2 => 3 * (s.size - (intOf (a.tmps.getD 7 undef)).toNat) - 1
  | _ => if (intOf (a.tmps.getD 7 undef)).toNat = (intOf (a.tmps.getD 8 undef)).toNat then 3 * (s.size - (intOf (a.tmps.getD 7 undef)).toNat) - 1 else 3 * (s.size - (intOf (a.tmps.getD 7 undef)).toNat) + 1

end Go.Proofs.YtfjppbpicmniaaaGreatDoor



namespace Go.Proofs.YtfjppbpicmniaaaGreatDoor
open Go.RowKit

theorem take_all (s : ByteArray) (k : Nat) (hk : k < s.size) (h : (s.data.toList.take k).all isLetter = true) (hc : isLetter s[k] = true) : (s.data.toList.take (k + 1)).all isLetter = true := by
  have hk' : k < s.data.toList.length := by rw [size_len]; exact hk
  have e : s.data.toList.take (k + 1) = s.data.toList.take k ++ [s[k]] := by
    rw [List.take_succ_eq_append_getElem hk']
    rfl
  rw [e, List.all_append, h]
  simp [hc]
theorem not_all (s : ByteArray) (k : Nat) (hk : k < s.size) (hc : isLetter s[k] = false) : s.data.toList.all isLetter = false := by
  refine Bool.eq_false_iff.2 (fun h => ?_)
  rw [List.all_eq_true] at h
  have hk' : k < s.data.toList.length := by rw [size_len]; exact hk
  have := h s[k] (by
    have e : s[k] = s.data.toList[k] := rfl
    rw [e]
    exact List.getElem_mem hk')
  rw [hc] at this
  cases this
theorem all_all (s : ByteArray) (h : (s.data.toList.take s.size).all isLetter = true) : s.data.toList.all isLetter = true := by
  rwa [List.take_of_length_le (by rw [size_len]; exact Nat.le_refl _)] at h
theorem head_s (s : ByteArray) (h : 0 < s.size) : s.data.toList.head? = some s[0] := by
  have := drop_at s 0 h
  rw [List.drop_zero] at this
  rw [this]
  rfl
theorem not_nil (s : ByteArray) (h : 0 < s.size) : s.data.toList.isEmpty = false := by
  have := drop_at s 0 h
  rw [List.drop_zero] at this
  rw [this]
  rfl
theorem nameR_some (s : ByteArray) (h : 0 < s.size) (h2 : s.size ≤ 24) (h3 : isDigit s[0] = false) : nameR s.data.toList = s.data.toList.all isLetter := by
  unfold nameR
  rw [head_s s h, not_nil s h, size_len]
  simp [h2, h3]
theorem nameR_empty (s : ByteArray) (h : s.size = 0) : nameR s.data.toList = false := by
  have : s.data.toList = [] := List.eq_nil_of_length_eq_zero (by rw [size_len]; exact h)
  rw [this]
  rfl
theorem nameR_long (s : ByteArray) (h : 24 < s.size) : nameR s.data.toList = false := by
  unfold nameR
  rw [size_len]
  simp
  omega
theorem nameR_digit (s : ByteArray) (h : 0 < s.size) (h3 : isDigit s[0] = true) : nameR s.data.toList = false := by
  unfold nameR
  rw [head_s s h]
  simp [h3]
theorem nameR_pos (s : ByteArray) (h : nameR s.data.toList = true) : 0 < s.size := by
  rcases Nat.eq_zero_or_pos s.size with h0 | h0
  · rw [nameR_empty s h0] at h
    cases h
  · exact h0

set_option maxHeartbeats 1600000 in
set_option maxRecDepth 1000000 in
theorem name (s : ByteArray) (w : World) (hs : s.size ≤ 9223372036854775806) : Calls Tryz.prog 70 #[.string s] w (Pu (.bool (nameR s.data.toList)) w) := by
  by_cases h0 : s.size = 0
  · rw [nameR_empty s h0]
    have h0' : ((s.size : Int) == 0) = true := by rw [beq_iff_eq]; omega
    clear h0
    go_enter Tryz.func70, Tryz.ntmps70
    go_wp2
    go_ret
    exact ⟨rfl, rfl⟩
  have h0' : ((s.size : Int) == 0) = false := by rw [beq_eq_false_iff_ne]; omega
  have hp : 0 < s.size := by omega
  have hp' : (0 : Int) < (s.size : Int) := by omega
  clear h0
  by_cases h1 : 24 < s.size
  · rw [nameR_long s h1]
    have h1' : (24 : Int) < (s.size : Int) := by omega
    clear h1
    go_enter Tryz.func70, Tryz.ntmps70
    go_wp2
    go_ret
    exact ⟨rfl, rfl⟩
  have h1' : ¬ (24 : Int) < (s.size : Int) := by omega
  have hd0 := digit s[0]
  rcases (by cases isDigit s[0] <;> simp : isDigit s[0] = true ∨ isDigit s[0] = false) with h2 | h2
  · rw [nameR_digit s hp h2]
    rw [h2] at hd0
    clear h1 h2
    go_enter Tryz.func70, Tryz.ntmps70
    go_wp2_with fail
    refine (hd0 _).mono ?_
    rintro e w1 ⟨rfl, rfl⟩
    go_wp2
    go_ret
    exact ⟨rfl, rfl⟩
  rw [nameR_some s hp (by omega) h2]
  rw [h2] at hd0
  clear h1 h2
  go_enter Tryz.func70, Tryz.ntmps70
  go_wp2_with fail
  refine (hd0 _).mono ?_
  rintro e w1 ⟨rfl, rfl⟩
  go_wp2
  go_loopg [19] s.size (fun g i wr => ∃ (k : Nat), g + k = s.size ∧ i = .int .i64 k ∧ Hid ((s.data.toList.take k).all isLetter = true) ∧ wr = w1)
  case atStart => exact ⟨0, rfl, rfl, rfl, rfl⟩
  case round =>
    obtain ⟨k, hg, rfl, hall, rfl⟩ := hrel
    by_cases hk : k < s.size
    · have hS := small s[k]
      have hL := large s[k]
      have hD := digit s[k]
      clear hd0
      rcases (by cases isSmall s[k] <;> simp : isSmall s[k] = true ∨ isSmall s[k] = false) with d0 | d0
      · have HA : Hid ((s.data.toList.take (k + 1)).all isLetter = true) := take_all s k hk hall.out (by simp [isLetter, d0])
        rw [d0] at hS
        clear d0 hall
        go_wp2_with fail
        refine (hS _).mono ?_
        rintro e w2 ⟨rfl, rfl⟩
        go_wp2
        go_roundg (s.size - (k + 1))
        case measure => omega
        case rel => exact ⟨k + 1, by omega, by go_num, HA, rfl⟩
      rw [d0] at hS
      rcases (by cases isLarge s[k] <;> simp : isLarge s[k] = true ∨ isLarge s[k] = false) with d1 | d1
      · have HA : Hid ((s.data.toList.take (k + 1)).all isLetter = true) := take_all s k hk hall.out (by simp [isLetter, d1])
        rw [d1] at hL
        clear d0 d1 hall
        go_wp2_with fail
        refine (hS _).mono ?_
        rintro e w2 ⟨rfl, rfl⟩
        go_wp2_with fail
        refine (hL _).mono ?_
        rintro e w2 ⟨rfl, rfl⟩
        go_wp2
        go_roundg (s.size - (k + 1))
        case measure => omega
        case rel => exact ⟨k + 1, by omega, by go_num, HA, rfl⟩
      rw [d1] at hL
      rcases (by cases isDigit s[k] <;> simp : isDigit s[k] = true ∨ isDigit s[k] = false) with d2 | d2
      · have HA : Hid ((s.data.toList.take (k + 1)).all isLetter = true) := take_all s k hk hall.out (by simp [isLetter, d2])
        rw [d2] at hD
        clear d0 d1 d2 hall
        go_wp2_with fail
        refine (hS _).mono ?_
        rintro e w2 ⟨rfl, rfl⟩
        go_wp2_with fail
        refine (hL _).mono ?_
        rintro e w2 ⟨rfl, rfl⟩
        go_wp2_with fail
        refine (hD _).mono ?_
        rintro e w2 ⟨rfl, rfl⟩
        go_wp2
        go_roundg (s.size - (k + 1))
        case measure => omega
        case rel => exact ⟨k + 1, by omega, by go_num, HA, rfl⟩
      rw [d2] at hD
      by_cases d3 : s[k].toNat = 95
      · have HA : Hid ((s.data.toList.take (k + 1)).all isLetter = true) := take_all s k hk hall.out (by simp [isLetter, d3])
        have d3' : ((s[k].toNat : Int) != 95) = false := by rw [bne_eq_false_iff_eq]; omega
        clear d0 d1 d2 d3 hall
        go_wp2_with fail
        refine (hS _).mono ?_
        rintro e w2 ⟨rfl, rfl⟩
        go_wp2_with fail
        refine (hL _).mono ?_
        rintro e w2 ⟨rfl, rfl⟩
        go_wp2_with fail
        refine (hD _).mono ?_
        rintro e w2 ⟨rfl, rfl⟩
        go_wp2
        go_roundg (s.size - (k + 1))
        case measure => omega
        case rel => exact ⟨k + 1, by omega, by go_num, HA, rfl⟩
      have d3' : ((s[k].toNat : Int) != 95) = true := by rw [bne_iff_ne]; omega
      rw [not_all s k hk (by simp [isLetter, d0, d1, d2, d3])]
      clear d0 d1 d2 d3 hall
      go_wp2_with fail
      refine (hS _).mono ?_
      rintro e w2 ⟨rfl, rfl⟩
      go_wp2_with fail
      refine (hL _).mono ?_
      rintro e w2 ⟨rfl, rfl⟩
      go_wp2_with fail
      refine (hD _).mono ?_
      rintro e w2 ⟨rfl, rfl⟩
      go_wp2
      go_ret
      exact ⟨rfl, rfl⟩
    · have hk' : k = s.size := by omega
      subst hk'
      have HA : Hid (s.data.toList.all isLetter = true) := all_all s hall.out
      clear hall hd0
      go_wp2
      go_ret
      exact ⟨by rw [HA.out]; rfl, rfl⟩

theorem bigR_no (s : ByteArray) (h : nameR s.data.toList = false) : bigR s.data.toList = false := by simp [bigR, h]
theorem valueR_no (s : ByteArray) (h : nameR s.data.toList = false) : valueR s.data.toList = false := by simp [valueR, h]
theorem bigR_yes (s : ByteArray) (h : nameR s.data.toList = true) (hp : 0 < s.size) : bigR s.data.toList = isLarge s[0] := by simp [bigR, h, head_s s hp]
theorem valueR_yes (s : ByteArray) (h : nameR s.data.toList = true) (hp : 0 < s.size) : valueR s.data.toList = !isLarge s[0] := by simp [valueR, h, head_s s hp]

set_option maxHeartbeats 400000 in
set_option maxRecDepth 1000000 in
theorem big (s : ByteArray) (w : World) (hs : s.size ≤ 9223372036854775806) : Calls Tryz.prog 195 #[.string s] w (Pu (.bool (bigR s.data.toList)) w) := by
  have hn := fun w => name s w hs
  rcases (by cases nameR s.data.toList <;> simp : nameR s.data.toList = true ∨ nameR s.data.toList = false) with h | h
  · have hp := nameR_pos s h
    have hp' : (0 : Int) < (s.size : Int) := by omega
    rw [bigR_yes s h hp]
    rw [h] at hn
    have hl := large s[0]
    generalize isLarge s[0] = b at *
    clear h
    go_enter Tryz.func195, Tryz.ntmps195
    go_wp2_with fail
    refine (hn _).mono ?_
    rintro e w1 ⟨rfl, rfl⟩
    go_wp2_with fail
    refine (hl _).mono ?_
    rintro e w1 ⟨rfl, rfl⟩
    go_wp2
    go_ret
    exact ⟨rfl, rfl⟩
  · rw [bigR_no s h]
    rw [h] at hn
    clear h
    go_enter Tryz.func195, Tryz.ntmps195
    go_wp2_with fail
    refine (hn _).mono ?_
    rintro e w1 ⟨rfl, rfl⟩
    go_wp2
    go_ret
    exact ⟨rfl, rfl⟩
set_option maxHeartbeats 400000 in
set_option maxRecDepth 1000000 in
theorem value (s : ByteArray) (w : World) (hs : s.size ≤ 9223372036854775806) : Calls Tryz.prog 26 #[.string s] w (Pu (.bool (valueR s.data.toList)) w) := by
  have hn := fun w => name s w hs
  rcases (by cases nameR s.data.toList <;> simp : nameR s.data.toList = true ∨ nameR s.data.toList = false) with h | h
  · have hp := nameR_pos s h
    have hp' : (0 : Int) < (s.size : Int) := by omega
    rw [valueR_yes s h hp]
    rw [h] at hn
    have hl := large s[0]
    generalize isLarge s[0] = b at *
    clear h
    go_enter Tryz.func26, Tryz.ntmps26
    go_wp2_with fail
    refine (hn _).mono ?_
    rintro e w1 ⟨rfl, rfl⟩
    go_wp2_with fail
    refine (hl _).mono ?_
    rintro e w1 ⟨rfl, rfl⟩
    go_wp2
    go_ret
    exact ⟨rfl, rfl⟩
  · rw [valueR_no s h]
    rw [h] at hn
    clear h
    go_enter Tryz.func26, Tryz.ntmps26
    go_wp2_with fail
    refine (hn _).mono ?_
    rintro e w1 ⟨rfl, rfl⟩
    go_wp2
    go_ret
    exact ⟨rfl, rfl⟩

end Go.Proofs.YtfjppbpicmniaaaGreatDoor

namespace Go.Proofs.YtfjppbpicmniaaaGreatDoor
open Go.RowKit Go.Lib

theorem below_drewN {H : Nat} {w w1 : World} (h : Below H w w1) (n : Nat) : Below H w (w1.drewN n) := ⟨h.os, h.tape, h.output, h.size, h.block⟩

theorem get_nat (s : ByteArray) (p : Nat) (h : p < s.size) : s.get! p = s[p] := get_at s p h
/-- How far a rune that is no ASCII one goes: over no ASCII byte. -/
theorem decode_wide (s : ByteArray) (pos : Nat) (h : pos < s.size) (ha : 128 ≤ (s[pos]'h).toNat) : pos + (Utf8.decode s pos).2 ≤ s.size ∧ ∀ j (hj : j < s.size), pos ≤ j → j < pos + (Utf8.decode s pos).2 → 128 ≤ (s[j]'hj).toNat := by
  have hn : ¬ (s[pos]'h).toNat < 128 := by omega
  have one : pos + 1 ≤ s.size ∧ ∀ j (hj : j < s.size), pos ≤ j → j < pos + 1 → 128 ≤ (s[j]'hj).toNat := by
    refine ⟨by omega, fun j hj h1 h2 => ?_⟩
    obtain rfl : j = pos := by omega
    exact ha
  have c : ∀ k, (decide (pos + k < s.size) && (s.get! (pos + k)).toNat / 64 == 2) = true → ∀ hj : pos + k < s.size, 128 ≤ (s[pos + k]'hj).toNat := by
    intro k hk hj
    rw [Bool.and_eq_true, beq_iff_eq, get_nat s _ hj] at hk
    omega
  have c' : ∀ k, (decide (pos + k < s.size) && (s.get! (pos + k)).toNat / 64 == 2) = true → pos + k < s.size := by
    intro k hk
    rw [Bool.and_eq_true] at hk
    exact of_decide_eq_true hk.1
  simp only [Utf8.decode, get_at s pos h, hn, if_false]
  split
  · rename_i h2
    rw [Bool.and_eq_true] at h2
    split
    · refine ⟨by have := c' 1 h2.2; omega, fun j hj h3 h4 => ?_⟩
      rcases (by omega : j = pos ∨ j = pos + 1) with rfl | rfl
      · exact ha
      · exact c 1 h2.2 hj
    · exact one
  · split
    · rename_i h2
      simp only [Bool.and_eq_true] at h2
      have q1 := c 1 (by simp only [Bool.and_eq_true]; exact h2.1.2)
      have q2 := c 2 (by simp only [Bool.and_eq_true]; exact h2.2)
      have q3 := c' 2 (by simp only [Bool.and_eq_true]; exact h2.2)
      split
      · refine ⟨by omega, fun j hj h3 h4 => ?_⟩
        rcases (by omega : j = pos ∨ j = pos + 1 ∨ j = pos + 2) with rfl | rfl | rfl
        · exact ha
        · exact q1 hj
        · exact q2 hj
      · exact one
    · split
      · rename_i h2
        simp only [Bool.and_eq_true] at h2
        have q1 := c 1 (by simp only [Bool.and_eq_true]; exact h2.1.1.2)
        have q2 := c 2 (by simp only [Bool.and_eq_true]; exact h2.1.2)
        have q3 := c 3 (by simp only [Bool.and_eq_true]; exact h2.2)
        have q4 := c' 3 (by simp only [Bool.and_eq_true]; exact h2.2)
        split
        · refine ⟨by omega, fun j hj h3 h4 => ?_⟩
          rcases (by omega : j = pos ∨ j = pos + 1 ∨ j = pos + 2 ∨ j = pos + 3) with rfl | rfl | rfl | rfl
          · exact ha
          · exact q1 hj
          · exact q2 hj
          · exact q3 hj
        · exact one
      · exact one

def sgn : ByteArray := ⟨#[91, 93, 40, 41, 44]⟩
theorem sgn_low : ∀ i (h : i < sgn.size), (sgn[i]'h).toNat < 128 := by decide
theorem indexByte_high : ∀ (l : List UInt8) (c : UInt8), 128 ≤ c.toNat → (∀ b ∈ l, b.toNat < 128) → indexByte l c = -1
  | [], _, _, _ => rfl
  | b :: l, c, h, hl => by
    have h1 : b ≠ c := by rintro rfl; have := hl b (by simp); omega
    rw [indexByte, if_neg (by simpa using h1), indexByte_high l c h (fun x hx => hl x (by simp [hx]))]
    rfl
theorem low_mem (s : ByteArray) (hs : ∀ i (h : i < s.size), (s[i]'h).toNat < 128) : ∀ b ∈ s.data.toList, b.toNat < 128 := by
  intro b hb
  obtain ⟨i, hi, rfl⟩ := List.getElem_of_mem hb
  exact hs i (by rw [← size_len]; exact hi)

theorem valid_of (r : Int) (h : Lib.validRune r = true) : Utf8.valid r = true := by /- 214 -/
  simp only [Lib.validRune, decide_eq_true_eq] at h
  simp only [Utf8.valid, Bool.or_eq_true, Bool.and_eq_true, decide_eq_true_eq]
  omega
end Go.Proofs.YtfjppbpicmniaaaGreatDoor

namespace Go.Proofs.YtfjppbpicmniaaaGreatDoor
open Go.RowKit Go.Lib

set_option maxHeartbeats 4000000 in
set_option maxRecDepth 1000000 in
theorem idxRune_err (s : ByteArray) (hlow : ∀ i (h : i < s.size), (s[i]'h).toNat < 128) (w : World) :
    Calls Tryz.prog 214 #[.string s, .int .i32 65533] w fun e w' => e = .returned (.int .i64 (-1)) ∧ Below w.heap.size w w' := by
  have HL : Hid (∀ i (h : i < s.size), (s[i]'h).toNat < 128) := hlow
  clear hlow
  go_enter Tryz.func214, Tryz.ntmps214
  go_wp2
  go_loopg [5, 6] s.size (fun g _ _ wx => ∃ i : Nat, i + g = s.size ∧ wx = w.iter s i)
  case atStart => exact ⟨0, by omega, rfl⟩
  case round =>
    obtain ⟨i, hig, rfl⟩ := hrel
    cases gk with
    | zero =>
      obtain rfl : i = s.size := by omega
      have hnx := run_next_end (P := Tryz.prog) w s s.size
      go_wp2
      refine bodyPost_ret (results_tmp (fn := Tryz.f214) (t := 4) rfl _ _ _) rfl ?_
      exact ⟨rfl, (Below.refl _ _).alloc (Nat.le_refl _) _⟩
    | succ g =>
      have hi : i < s.size := by omega
      have hx := HL.out i hi
      have hnx := fun ty => run_next_ascii (P := Tryz.prog) w s i ty hi hx
      have hne : ((s[i].toNat : Int) == 65533) = false := by rw [beq_eq_false_iff_ne]; omega
      go_wp2
      go_roundg g
      case measure => omega
      case rel => exact ⟨i + 1, by omega, rfl⟩
end Go.Proofs.YtfjppbpicmniaaaGreatDoor

namespace Go.Proofs.YtfjppbpicmniaaaGreatDoor
open Go.RowKit Go.Lib

set_option maxHeartbeats 4000000 in
set_option maxRecDepth 1000000 in
theorem idxRune_bad (s : ByteArray) (r : Nat) (w : World) (h0 : 128 ≤ r) (he : r ≠ 65533) (hv : Lib.validRune (r : Int) = false) :
    Calls Tryz.prog 214 #[.string s, .int .i32 (r : Int)] w fun e w' => e = .returned (.int .i64 (-1)) ∧ Below w.heap.size w w' := by
  have g0 : ¬ (r : Int) < 128 := by omega
  have he' : ((r : Int) == 65533) = false := by rw [beq_eq_false_iff_ne]; omega
  clear he
  go_enter Tryz.func214, Tryz.ntmps214
  go_wp2_with (go_at_call 222; refine (Tryz.utf8_ValidRune _ _).mono ?_; rintro e w' ⟨rfl, hw⟩; rw [hw, hv])
  go_ret
  exact ⟨rfl, Below.refl _ _⟩

set_option maxHeartbeats 4000000 in
set_option maxRecDepth 1000000 in
theorem idxRune_far (s : ByteArray) (hlow : ∀ i (h : i < s.size), (s[i]'h).toNat < 128) (h5 : s.size = 5) (r : Nat) (w : World) (h0 : 128 ≤ r) (he : r ≠ 65533) (hv : Lib.validRune (r : Int) = true) :
    Calls Tryz.prog 214 #[.string s, .int .i32 (r : Int)] w fun e w' => e = .returned (.int .i64 (-1)) ∧ Below w.heap.size w w' := by
  have HL : Hid (∀ i (h : i < s.size), (s[i]'h).toNat < 128) := hlow
  clear hlow
  have g0 : ¬ (r : Int) < 128 := by omega
  have he' : ((r : Int) == 65533) = false := by rw [beq_eq_false_iff_ne]; omega
  clear he
  obtain ⟨e1, e2, e3⟩ := encode_facts (r : Int) (valid_of _ hv) (by omega)
  generalize hE : Utf8.encode (r : Int) = x at *
  have hxs : x.size - 1 < x.size := by omega
  have hx := e3 hxs
  clear e3
  have hc : (x.size : Int) - 1 = ((x.size - 1 : Nat) : Int) := by omega
  generalize hm : x.size - 1 = m at *
  have hm5 : m < s.size := by omega
  have hsm := HL.out m hm5
  have hlm : (m : Int) < (s.size : Int) := by omega
  have hne : ((s[m].toNat : Int) != (x[m].toNat : Int)) = true := by simp; omega
  have hib : indexByte (s.extract (m + 1) s.size).data.toList x[m] = -1 := by
    refine indexByte_high _ _ hx (fun b hb => ?_)
    rw [extract_data] at hb
    exact low_mem s HL.out b (List.mem_of_mem_drop (List.mem_of_mem_take hb))
  have hb2 : (m : Int) + 1 ≤ (s.size : Int) := by omega
  have hcv : ∀ w, (convert 21 9 (.int .i32 (r : Int))).run Tryz.prog w = .ok (.string x) w := fun w => by
    rw [run_convert_int_string w 21 9 .i32 (r : Int) (by simp [Tryz.underlying21]) Tryz.underlying9, hE]
  clear hE
  go_enter Tryz.func214, Tryz.ntmps214
  go_wp2_with (go_at_call 222; refine (Tryz.utf8_ValidRune _ _).mono ?_; rintro e w' ⟨rfl, hw⟩; rw [hw, hv])
  refine wp_scope_labels (fun _ _ _ => False) (fun _ _ _ => 0) ?_ (fun _ _ _ h => h.elim)
  intro hz
  clear hz
  go_wp2
  go_loopg [9] 0 (fun _ i wx => i = .int .i64 (m : Int) ∧ wx = w)
  case atStart => exact ⟨rfl, rfl⟩
  case round =>
    obtain ⟨rfl, rfl⟩ := hrel
    have hm9 : m < 5 := by omega
    clear h5 e1 e2 hm hc hv
    rw [extract_data] at hib
    go_wp2
    refine wp_scope_labels (fun _ _ _ => False) (fun _ _ _ => 0) ?_ (fun _ _ _ h => h.elim)
    intro hz
    clear hz
    have k1 : IntKind.i64.wrap ((m : Int) + 1) = (m : Int) + 1 := by rw [IntKind.wrap_i64]; omega
    have k2 : (0 : Int) ≤ (m : Int) + 1 := by omega
    have k3 : ((m : Int) + 1).toNat = m + 1 := by omega
    have k4 : (x[m].toNat : Int).toNat.toUInt8 = x[m] := by simp
    go_wp2
    go_region
    go_wp2
    go_region_with (first
      | (go_at_call 221; refine (Tryz.strings_IndexByte _ _ _).mono ?_; rintro e w' ⟨rfl, rfl⟩))
    go_wp2
    show bodyPost Tryz.prog Tryz.f214 (fun e w' => e = Ending.returned (Value.int IntKind.i64 (-1)) ∧ Below wr.heap.size wr w') Exit.ret _ _
    refine bodyPost_ret (results_tmp (fn := Tryz.f214) (t := 4) rfl _ _ _) rfl ?_
    exact ⟨rfl, below_drewN (Below.refl _ _) 2⟩
/-- strings.IndexRune of a rune that is no ASCII one, among the signs. -/
theorem idxRune (s : ByteArray) (hlow : ∀ i (h : i < s.size), (s[i]'h).toNat < 128) (h5 : s.size = 5) (r : Nat) (w : World) (h0 : 128 ≤ r) :
    Calls Tryz.prog 214 #[.string s, .int .i32 (r : Int)] w fun e w' => e = .returned (.int .i64 (-1)) ∧ Below w.heap.size w w' := by
  by_cases he : r = 65533
  · subst he
    exact idxRune_err s hlow w
  · rcases (by cases Lib.validRune (r : Int) <;> simp : Lib.validRune (r : Int) = false ∨ Lib.validRune (r : Int) = true) with hv | hv
    · exact idxRune_bad s r w h0 he hv
    · exact idxRune_far s hlow h5 r w h0 he hv
end Go.Proofs.YtfjppbpicmniaaaGreatDoor
