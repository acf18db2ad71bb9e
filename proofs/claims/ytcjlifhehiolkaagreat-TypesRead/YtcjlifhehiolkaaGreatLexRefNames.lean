/-
  The document's own Name, Value, Big: their walks.
-/
import Derived.Test.YtcjlifhehiolkaaGreatLexNames
namespace Go.Proofs.YtcjlifhehiolkaaGreat
open Go.RowKit

/-- The first byte, if there is one, is no digit. -/
def fstOk (l : List UInt8) : Prop := ∀ c r, l = c :: r → isDigit c = false
theorem fstOk_of (s : ByteArray) (h : 0 < s.size) (hd : isDigit s[0] = false) : fstOk s.data.toList := by
  intro c r e
  have := head_s s h
  rw [e] at this
  cases this
  exact hd
theorem digit_of (s : ByteArray) (h : 0 < s.size) (hf : fstOk s.data.toList) : isDigit s[0] = false := by
  have := drop_at s 0 h
  rw [List.drop_zero] at this
  exact hf _ _ this

set_option maxHeartbeats 4000000 in
set_option maxRecDepth 1000000 in
theorem refName (s : ByteArray) (w : World) (hs : s.size ≤ 9223372036854775806) : Calls Tryz.prog 65 #[.string s] w (Pu (.bool (nameR s.data.toList)) w) := by
  go_enter Tryz.func65, Tryz.ntmps65
  go_wp2
  go_loopg [3] s.size (fun g i wr => ∃ (k : Nat), g + k = s.size ∧ i = .int .i64 k ∧ Hid ((s.data.toList.take k).all isLetter = true) ∧ Hid (0 < k → fstOk s.data.toList) ∧ w = wr)
  case atStart => exact ⟨0, rfl, rfl, rfl, fun h => absurd h (by omega), rfl⟩
  case round =>
    obtain ⟨k, hg, rfl, hall, hfst, rfl⟩ := hrel
    by_cases hk : k < s.size
    · have h256 : s[k].toNat < 256 := s[k].toNat_lt
      by_cases a1 : 97 ≤ s[k].toNat
      · have a1' : (97 : Int) ≤ (s[k].toNat : Int) := by omega
        by_cases a2 : s[k].toNat ≤ 122
        · have a2' : (s[k].toNat : Int) ≤ 122 := by omega
          have HA : Hid ((s.data.toList.take (k + 1)).all isLetter = true) := take_all s k hk hall.out (by simp [isLetter, isSmall, a1, a2])
          have HD : Hid (0 < k + 1 → fstOk s.data.toList) := fun _ => (by
            rcases Nat.eq_zero_or_pos k with h0 | h0
            · subst h0
              exact fstOk_of s hk (by simp [isDigit]; omega)
            · exact hfst.out h0)
          clear hall hfst
          clear a1 a2
          go_wp2
          go_roundg (s.size - (k + 1))
          case measure => omega
          case rel => exact ⟨k + 1, by omega, by go_num, HA, HD, rfl⟩
        · have a2' : ¬ (s[k].toNat : Int) ≤ 122 := by omega
          have b1' : (65 : Int) ≤ (s[k].toNat : Int) := by omega
          have b2' : ¬ (s[k].toNat : Int) ≤ 90 := by omega
          have c' : ((s[k].toNat : Int) == 95) = false := by rw [beq_eq_false_iff_ne]; omega
          have d1' : (48 : Int) ≤ (s[k].toNat : Int) := by omega
          have d2' : ¬ (s[k].toNat : Int) ≤ 57 := by omega
          have HN : Hid (nameR s.data.toList = false) := by
            have := not_all s k hk (by simp [isLetter, isSmall, isLarge, isDigit]; omega)
            simp [Hid, nameR, this]
          clear a1 a2 hall hfst
          go_wp2
          go_ret
          exact ⟨by rw [HN.out]; rfl, rfl⟩
      have a1' : ¬ (97 : Int) ≤ (s[k].toNat : Int) := by omega
      by_cases b1 : 65 ≤ s[k].toNat
      · have b1' : (65 : Int) ≤ (s[k].toNat : Int) := by omega
        by_cases b2 : s[k].toNat ≤ 90
        · have b2' : (s[k].toNat : Int) ≤ 90 := by omega
          have HA : Hid ((s.data.toList.take (k + 1)).all isLetter = true) := take_all s k hk hall.out (by simp [isLetter, isLarge, b1, b2])
          have HD : Hid (0 < k + 1 → fstOk s.data.toList) := fun _ => (by
            rcases Nat.eq_zero_or_pos k with h0 | h0
            · subst h0
              exact fstOk_of s hk (by simp [isDigit]; omega)
            · exact hfst.out h0)
          clear hall hfst
          clear a1 b1 b2
          go_wp2
          go_roundg (s.size - (k + 1))
          case measure => omega
          case rel => exact ⟨k + 1, by omega, by go_num, HA, HD, rfl⟩
        · have b2' : ¬ (s[k].toNat : Int) ≤ 90 := by omega
          by_cases c : s[k].toNat = 95
          · have c' : ((s[k].toNat : Int) == 95) = true := by rw [beq_iff_eq]; omega
            have HA : Hid ((s.data.toList.take (k + 1)).all isLetter = true) := take_all s k hk hall.out (by simp [isLetter, c])
            have HD : Hid (0 < k + 1 → fstOk s.data.toList) := fun _ => (by
              rcases Nat.eq_zero_or_pos k with h0 | h0
              · subst h0
                exact fstOk_of s hk (by simp [isDigit]; omega)
              · exact hfst.out h0)
            clear hall hfst
            clear a1 b1 b2 c
            go_wp2
            go_roundg (s.size - (k + 1))
            case measure => omega
            case rel => exact ⟨k + 1, by omega, by go_num, HA, HD, rfl⟩
          · have c' : ((s[k].toNat : Int) == 95) = false := by rw [beq_eq_false_iff_ne]; omega
            have d1' : (48 : Int) ≤ (s[k].toNat : Int) := by omega
            have d2' : ¬ (s[k].toNat : Int) ≤ 57 := by omega
            have HN : Hid (nameR s.data.toList = false) := by
              have := not_all s k hk (by simp [isLetter, isSmall, isLarge, isDigit]; omega)
              simp [Hid, nameR, this]
            clear a1 b1 b2 c hall hfst
            go_wp2
            go_ret
            exact ⟨by rw [HN.out]; rfl, rfl⟩
      have b1' : ¬ (65 : Int) ≤ (s[k].toNat : Int) := by omega
      have c' : ((s[k].toNat : Int) == 95) = false := by rw [beq_eq_false_iff_ne]; omega
      by_cases d1 : 48 ≤ s[k].toNat
      · have d1' : (48 : Int) ≤ (s[k].toNat : Int) := by omega
        by_cases d2 : s[k].toNat ≤ 57
        · have d2' : (s[k].toNat : Int) ≤ 57 := by omega
          by_cases k0 : 0 < k
          · have k0' : (0 : Int) < (k : Int) := by omega
            have HA : Hid ((s.data.toList.take (k + 1)).all isLetter = true) := take_all s k hk hall.out (by simp [isLetter, isDigit, d1, d2])
            have HD : Hid (0 < k + 1 → fstOk s.data.toList) := fun _ => hfst.out k0
            clear hall hfst
            clear a1 b1 d1 d2
            go_wp2
            go_roundg (s.size - (k + 1))
            case measure => omega
            case rel => exact ⟨k + 1, by omega, by go_num, HA, HD, rfl⟩
          · have k0' : ¬ (0 : Int) < (k : Int) := by omega
            have HN : Hid (nameR s.data.toList = false) := by
              have e0 : k = 0 := by omega
              subst e0
              exact nameR_digit s hk (by simp [isDigit]; omega)
            clear a1 b1 d1 d2 hall hfst
            go_wp2
            go_ret
            exact ⟨by rw [HN.out]; rfl, rfl⟩
        · have d2' : ¬ (s[k].toNat : Int) ≤ 57 := by omega
          have HN : Hid (nameR s.data.toList = false) := by
            have := not_all s k hk (by simp [isLetter, isSmall, isLarge, isDigit]; omega)
            simp [Hid, nameR, this]
          clear a1 b1 d1 d2 hall hfst
          go_wp2
          go_ret
          exact ⟨by rw [HN.out]; rfl, rfl⟩
      have d1' : ¬ (48 : Int) ≤ (s[k].toNat : Int) := by omega
      have HN : Hid (nameR s.data.toList = false) := by
        have := not_all s k hk (by simp [isLetter, isSmall, isLarge, isDigit]; omega)
        simp [Hid, nameR, this]
      clear a1 b1 d1 hall hfst
      go_wp2
      go_ret
      exact ⟨by rw [HN.out]; rfl, rfl⟩
    · have hk' : k = s.size := by omega
      subst hk'
      have hal := all_all s hall.out
      by_cases h1 : 1 ≤ s.size
      · have h1' : (1 : Int) ≤ (s.size : Int) := by omega
        have hdg := digit_of s h1 (hfst.out h1)
        by_cases h2 : s.size ≤ 24
        · have h2' : (s.size : Int) ≤ 24 := by omega
          have HN : Hid (nameR s.data.toList = true) := by rw [nameR_some s h1 h2 hdg]; exact hal
          clear hall hfst hal hdg
          go_wp2
          go_ret
          exact ⟨by rw [HN.out]; rfl, rfl⟩
        · have h2' : ¬ (s.size : Int) ≤ 24 := by omega
          have HN : Hid (nameR s.data.toList = false) := nameR_long s (by omega)
          clear hall hfst hal hdg
          go_wp2
          go_ret
          exact ⟨by rw [HN.out]; rfl, rfl⟩
      · have h1' : ¬ (1 : Int) ≤ (s.size : Int) := by omega
        have HN : Hid (nameR s.data.toList = false) := nameR_empty s (by omega)
        clear hall hfst hal
        go_wp2
        go_ret
        exact ⟨by rw [HN.out]; rfl, rfl⟩

set_option maxHeartbeats 800000 in
set_option maxRecDepth 1000000 in
theorem refBig (s : ByteArray) (w : World) (hs : s.size ≤ 9223372036854775806) : Calls Tryz.prog 45 #[.string s] w (Pu (.bool (bigR s.data.toList)) w) := by
  have hn := fun w => refName s w hs
  rcases (by cases nameR s.data.toList <;> simp : nameR s.data.toList = true ∨ nameR s.data.toList = false) with h | h
  · have hp := nameR_pos s h
    have hp' : (0 : Int) < (s.size : Int) := by omega
    rw [bigR_yes s h hp]
    rw [h] at hn
    clear h
    by_cases a1 : 65 ≤ s[0].toNat
    · have a1' : (65 : Int) ≤ (s[0].toNat : Int) := by omega
      by_cases a2 : s[0].toNat ≤ 90
      · have a2' : (s[0].toNat : Int) ≤ 90 := by omega
        rw [show isLarge s[0] = true from by simp [isLarge, a1, a2]]
        clear a1 a2
        go_enter Tryz.func45, Tryz.ntmps45
        go_wp2_with fail
        refine (hn _).mono ?_
        rintro e w1 ⟨rfl, rfl⟩
        go_wp2
        go_ret
        exact ⟨rfl, rfl⟩
      · have a2' : ¬ (s[0].toNat : Int) ≤ 90 := by omega
        rw [show isLarge s[0] = false from by simp [isLarge, a1, a2]]
        clear a1 a2
        go_enter Tryz.func45, Tryz.ntmps45
        go_wp2_with fail
        refine (hn _).mono ?_
        rintro e w1 ⟨rfl, rfl⟩
        go_wp2
        go_ret
        refine ⟨?_, rfl⟩
        show Ending.returned (Value.bool (decide ((s[0].toNat : Int) ≤ 90))) = _
        rw [decide_eq_false (by omega)]
    · have a1' : ¬ (65 : Int) ≤ (s[0].toNat : Int) := by omega
      rw [show isLarge s[0] = false from by simp [isLarge, a1]]
      clear a1
      go_enter Tryz.func45, Tryz.ntmps45
      go_wp2_with fail
      refine (hn _).mono ?_
      rintro e w1 ⟨rfl, rfl⟩
      go_wp2
      go_ret
      exact ⟨rfl, rfl⟩
  · rw [bigR_no s h]
    rw [h] at hn
    clear h
    go_enter Tryz.func45, Tryz.ntmps45
    go_wp2_with fail
    refine (hn _).mono ?_
    rintro e w1 ⟨rfl, rfl⟩
    go_wp2
    go_ret
    exact ⟨rfl, rfl⟩
set_option maxHeartbeats 800000 in
set_option maxRecDepth 1000000 in
theorem refValue (s : ByteArray) (w : World) (hs : s.size ≤ 9223372036854775806) : Calls Tryz.prog 44 #[.string s] w (Pu (.bool (valueR s.data.toList)) w) := by
  have hn := fun w => refName s w hs
  have hb := fun w => refBig s w hs
  rcases (by cases nameR s.data.toList <;> simp : nameR s.data.toList = true ∨ nameR s.data.toList = false) with h | h
  · have hp := nameR_pos s h
    rw [valueR_yes s h hp]
    rw [bigR_yes s h hp] at hb
    rw [h] at hn
    generalize isLarge s[0] = b at *
    clear h
    go_enter Tryz.func44, Tryz.ntmps44
    go_wp2_with fail
    refine (hn _).mono ?_
    rintro e w1 ⟨rfl, rfl⟩
    go_wp2_with fail
    refine (hb _).mono ?_
    rintro e w1 ⟨rfl, rfl⟩
    go_wp2
    go_ret
    exact ⟨rfl, rfl⟩
  · rw [valueR_no s h]
    rw [h] at hn
    clear h
    go_enter Tryz.func44, Tryz.ntmps44
    go_wp2_with fail
    refine (hn _).mono ?_
    rintro e w1 ⟨rfl, rfl⟩
    go_wp2
    go_ret
    exact ⟨rfl, rfl⟩

end Go.Proofs.YtcjlifhehiolkaaGreat
