/-
  Names: the package's Name, Value, Big, and the document's own.
-/
import Derived.Deep.Upon
import Derived.Deep.LoopGhost
import Derived.Test.YtcjddbponknnoaaGreatDoorLexSmall
namespace Go.Proofs.YtcjddbponknnoaaGreatDoor
open Go.RowKit

theorem take_all (s : ByteArray) (k : Nat) (hk : k < s.size) (h : (s.data.toList.take k).all isLetter = true) (hc : isLetter s[k] = true) : (s.data.toList.take (k + 1)).all isLetter = true := by
  have hk' : k < s.data.toList.length := by rw [size_len]; exact hk
  have e : s.data.toList.take (k + 1) = s.data.toList.take k ++ [s[k]] := by
    rw [List.take_succ_eq_append_getElem hk']
    rfl
  rw [e, List.all_append, h]
  simp [hc]
theorem not_all (s : ByteArray) (k : Nat) (hk : k < s.size) (hc : isLetter s[k] = false) : s.data.toList.all isLetter = false := by
  refine Bool.eq_false_iff.2 (fun h => ?_)
  rw [List.all_eq_true] at h
  have hk' : k < s.data.toList.length := by rw [size_len]; exact hk
  have := h s[k] (by
    have e : s[k] = s.data.toList[k] := rfl
    rw [e]
    exact List.getElem_mem hk')
  rw [hc] at this
  cases this
theorem all_all (s : ByteArray) (h : (s.data.toList.take s.size).all isLetter = true) : s.data.toList.all isLetter = true := by
  rwa [List.take_of_length_le (by rw [size_len]; exact Nat.le_refl _)] at h
theorem head_s (s : ByteArray) (h : 0 < s.size) : s.data.toList.head? = some s[0] := by
  have := drop_at s 0 h
  rw [List.drop_zero] at this
  rw [this]
  rfl
theorem not_nil (s : ByteArray) (h : 0 < s.size) : s.data.toList.isEmpty = false := by
  have := drop_at s 0 h
  rw [List.drop_zero] at this
  rw [this]
  rfl
theorem nameR_some (s : ByteArray) (h : 0 < s.size) (h2 : s.size ≤ 24) (h3 : isDigit s[0] = false) : nameR s.data.toList = s.data.toList.all isLetter := by
  unfold nameR
  rw [head_s s h, not_nil s h, size_len]
  simp [h2, h3]
theorem nameR_empty (s : ByteArray) (h : s.size = 0) : nameR s.data.toList = false := by
  have : s.data.toList = [] := List.eq_nil_of_length_eq_zero (by rw [size_len]; exact h)
  rw [this]
  rfl
theorem nameR_long (s : ByteArray) (h : 24 < s.size) : nameR s.data.toList = false := by
  unfold nameR
  rw [size_len]
  simp
  omega
theorem nameR_digit (s : ByteArray) (h : 0 < s.size) (h3 : isDigit s[0] = true) : nameR s.data.toList = false := by
  unfold nameR
  rw [head_s s h]
  simp [h3]
theorem nameR_pos (s : ByteArray) (h : nameR s.data.toList = true) : 0 < s.size := by
  rcases Nat.eq_zero_or_pos s.size with h0 | h0
  · rw [nameR_empty s h0] at h
    cases h
  · exact h0

set_option maxHeartbeats 1600000 in
set_option maxRecDepth 1000000 in
theorem name (s : ByteArray) (w : World) (hs : s.size ≤ 9223372036854775806) : Calls Tryz.prog 71 #[.string s] w (Pu (.bool (nameR s.data.toList)) w) := by
  by_cases h0 : s.size = 0
  · rw [nameR_empty s h0]
    have h0' : ((s.size : Int) == 0) = true := by rw [beq_iff_eq]; omega
    clear h0
    go_enter Tryz.func71, Tryz.ntmps71
    go_wp2
    go_ret
    exact ⟨rfl, rfl⟩
  have h0' : ((s.size : Int) == 0) = false := by rw [beq_eq_false_iff_ne]; omega
  have hp : 0 < s.size := by omega
  have hp' : (0 : Int) < (s.size : Int) := by omega
  clear h0
  by_cases h1 : 24 < s.size
  · rw [nameR_long s h1]
    have h1' : (24 : Int) < (s.size : Int) := by omega
    clear h1
    go_enter Tryz.func71, Tryz.ntmps71
    go_wp2
    go_ret
    exact ⟨rfl, rfl⟩
  have h1' : ¬ (24 : Int) < (s.size : Int) := by omega
  have hd0 := digit s[0]
  rcases (by cases isDigit s[0] <;> simp : isDigit s[0] = true ∨ isDigit s[0] = false) with h2 | h2
  · rw [nameR_digit s hp h2]
    rw [h2] at hd0
    clear h1 h2
    go_enter Tryz.func71, Tryz.ntmps71
    go_wp2_with fail
    refine (hd0 _).mono ?_
    rintro e w1 ⟨rfl, rfl⟩
    go_wp2
    go_ret
    exact ⟨rfl, rfl⟩
  rw [nameR_some s hp (by omega) h2]
  rw [h2] at hd0
  clear h1 h2
  go_enter Tryz.func71, Tryz.ntmps71
  go_wp2_with fail
  refine (hd0 _).mono ?_
  rintro e w1 ⟨rfl, rfl⟩
  go_wp2
  go_loopg [19] s.size (fun g i wr => ∃ (k : Nat), g + k = s.size ∧ i = .int .i64 k ∧ Hid ((s.data.toList.take k).all isLetter = true) ∧ wr = w1)
  case atStart => exact ⟨0, rfl, rfl, rfl, rfl⟩
  case round =>
    obtain ⟨k, hg, rfl, hall, rfl⟩ := hrel
    by_cases hk : k < s.size
    · have hS := small s[k]
      have hL := large s[k]
      have hD := digit s[k]
      clear hd0
      rcases (by cases isSmall s[k] <;> simp : isSmall s[k] = true ∨ isSmall s[k] = false) with d0 | d0
      · have HA : Hid ((s.data.toList.take (k + 1)).all isLetter = true) := take_all s k hk hall.out (by simp [isLetter, d0])
        rw [d0] at hS
        clear d0 hall
        go_wp2_with fail
        refine (hS _).mono ?_
        rintro e w2 ⟨rfl, rfl⟩
        go_wp2
        go_roundg (s.size - (k + 1))
        case measure => omega
        case rel => exact ⟨k + 1, by omega, by go_num, HA, rfl⟩
      rw [d0] at hS
      rcases (by cases isLarge s[k] <;> simp : isLarge s[k] = true ∨ isLarge s[k] = false) with d1 | d1
      · have HA : Hid ((s.data.toList.take (k + 1)).all isLetter = true) := take_all s k hk hall.out (by simp [isLetter, d1])
        rw [d1] at hL
        clear d0 d1 hall
        go_wp2_with fail
        refine (hS _).mono ?_
        rintro e w2 ⟨rfl, rfl⟩
        go_wp2_with fail
        refine (hL _).mono ?_
        rintro e w2 ⟨rfl, rfl⟩
        go_wp2
        go_roundg (s.size - (k + 1))
        case measure => omega
        case rel => exact ⟨k + 1, by omega, by go_num, HA, rfl⟩
      rw [d1] at hL
      rcases (by cases isDigit s[k] <;> simp : isDigit s[k] = true ∨ isDigit s[k] = false) with d2 | d2
      · have HA : Hid ((s.data.toList.take (k + 1)).all isLetter = true) := take_all s k hk hall.out (by simp [isLetter, d2])
        rw [d2] at hD
        clear d0 d1 d2 hall
        go_wp2_with fail
        refine (hS _).mono ?_
        rintro e w2 ⟨rfl, rfl⟩
        go_wp2_with fail
        refine (hL _).mono ?_
        rintro e w2 ⟨rfl, rfl⟩
        go_wp2_with fail
        refine (hD _).mono ?_
        rintro e w2 ⟨rfl, rfl⟩
        go_wp2
        go_roundg (s.size - (k + 1))
        case measure => omega
        case rel => exact ⟨k + 1, by omega, by go_num, HA, rfl⟩
      rw [d2] at hD
      by_cases d3 : s[k].toNat = 95
      · have HA : Hid ((s.data.toList.take (k + 1)).all isLetter = true) := take_all s k hk hall.out (by simp [isLetter, d3])
        have d3' : ((s[k].toNat : Int) != 95) = false := by rw [bne_eq_false_iff_eq]; omega
        clear d0 d1 d2 d3 hall
        go_wp2_with fail
        refine (hS _).mono ?_
        rintro e w2 ⟨rfl, rfl⟩
        go_wp2_with fail
        refine (hL _).mono ?_
        rintro e w2 ⟨rfl, rfl⟩
        go_wp2_with fail
        refine (hD _).mono ?_
        rintro e w2 ⟨rfl, rfl⟩
        go_wp2
        go_roundg (s.size - (k + 1))
        case measure => omega
        case rel => exact ⟨k + 1, by omega, by go_num, HA, rfl⟩
      have d3' : ((s[k].toNat : Int) != 95) = true := by rw [bne_iff_ne]; omega
      rw [not_all s k hk (by simp [isLetter, d0, d1, d2, d3])]
      clear d0 d1 d2 d3 hall
      go_wp2_with fail
      refine (hS _).mono ?_
      rintro e w2 ⟨rfl, rfl⟩
      go_wp2_with fail
      refine (hL _).mono ?_
      rintro e w2 ⟨rfl, rfl⟩
      go_wp2_with fail
      refine (hD _).mono ?_
      rintro e w2 ⟨rfl, rfl⟩
      go_wp2
      go_ret
      exact ⟨rfl, rfl⟩
    · have hk' : k = s.size := by omega
      subst hk'
      have HA : Hid (s.data.toList.all isLetter = true) := all_all s hall.out
      clear hall hd0
      go_wp2
      go_ret
      exact ⟨by rw [HA.out]; rfl, rfl⟩

theorem bigR_no (s : ByteArray) (h : nameR s.data.toList = false) : bigR s.data.toList = false := by simp [bigR, h]
theorem valueR_no (s : ByteArray) (h : nameR s.data.toList = false) : valueR s.data.toList = false := by simp [valueR, h]
theorem bigR_yes (s : ByteArray) (h : nameR s.data.toList = true) (hp : 0 < s.size) : bigR s.data.toList = isLarge s[0] := by simp [bigR, h, head_s s hp]
theorem valueR_yes (s : ByteArray) (h : nameR s.data.toList = true) (hp : 0 < s.size) : valueR s.data.toList = !isLarge s[0] := by simp [valueR, h, head_s s hp]

set_option maxHeartbeats 400000 in
set_option maxRecDepth 1000000 in
theorem big (s : ByteArray) (w : World) (hs : s.size ≤ 9223372036854775806) : Calls Tryz.prog 196 #[.string s] w (Pu (.bool (bigR s.data.toList)) w) := by
  have hn := fun w => name s w hs
  rcases (by cases nameR s.data.toList <;> simp : nameR s.data.toList = true ∨ nameR s.data.toList = false) with h | h
  · have hp := nameR_pos s h
    have hp' : (0 : Int) < (s.size : Int) := by omega
    rw [bigR_yes s h hp]
    rw [h] at hn
    have hl := large s[0]
    generalize isLarge s[0] = b at *
    clear h
    go_enter Tryz.func196, Tryz.ntmps196
    go_wp2_with fail
    refine (hn _).mono ?_
    rintro e w1 ⟨rfl, rfl⟩
    go_wp2_with fail
    refine (hl _).mono ?_
    rintro e w1 ⟨rfl, rfl⟩
    go_wp2
    go_ret
    exact ⟨rfl, rfl⟩
  · rw [bigR_no s h]
    rw [h] at hn
    clear h
    go_enter Tryz.func196, Tryz.ntmps196
    go_wp2_with fail
    refine (hn _).mono ?_
    rintro e w1 ⟨rfl, rfl⟩
    go_wp2
    go_ret
    exact ⟨rfl, rfl⟩
set_option maxHeartbeats 400000 in
set_option maxRecDepth 1000000 in
theorem value (s : ByteArray) (w : World) (hs : s.size ≤ 9223372036854775806) : Calls Tryz.prog 27 #[.string s] w (Pu (.bool (valueR s.data.toList)) w) := by
  have hn := fun w => name s w hs
  rcases (by cases nameR s.data.toList <;> simp : nameR s.data.toList = true ∨ nameR s.data.toList = false) with h | h
  · have hp := nameR_pos s h
    have hp' : (0 : Int) < (s.size : Int) := by omega
    rw [valueR_yes s h hp]
    rw [h] at hn
    have hl := large s[0]
    generalize isLarge s[0] = b at *
    clear h
    go_enter Tryz.func27, Tryz.ntmps27
    go_wp2_with fail
    refine (hn _).mono ?_
    rintro e w1 ⟨rfl, rfl⟩
    go_wp2_with fail
    refine (hl _).mono ?_
    rintro e w1 ⟨rfl, rfl⟩
    go_wp2
    go_ret
    exact ⟨rfl, rfl⟩
  · rw [valueR_no s h]
    rw [h] at hn
    clear h
    go_enter Tryz.func27, Tryz.ntmps27
    go_wp2_with fail
    refine (hn _).mono ?_
    rintro e w1 ⟨rfl, rfl⟩
    go_wp2
    go_ret
    exact ⟨rfl, rfl⟩

end Go.Proofs.YtcjddbponknnoaaGreatDoor
