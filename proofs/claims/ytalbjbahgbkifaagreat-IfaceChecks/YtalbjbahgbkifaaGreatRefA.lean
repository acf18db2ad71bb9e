/-
  The document's own Name, Value, Big: their walks.
  And: What the document's own reader of types takes: the type with which a text begins, whatever comes behind it; how that hangs together with the chapter's. No program in it. The document's own tests of letters, and what its reader of types answers. The document's own reader of functions' types: its walk. The document's own reader of types: its walk. The document's own Right, kind, Elem, Named, Func, Dotted, short: their walks. The document's own Parts: its walk.
-/
import Derived.Test.YtalbjbahgbkifaaGreatLexNames
import Derived.Test.YtalbjbahgbkifaaGreatTypesMath
import Derived.Test.YtalbjbahgbkifaaGreatTypesEnd
import Derived.Deep.LoopGhost
import Derived.Deep.Cut
import Derived.Deep.CutRange
import Derived.Test.YtalbjbahgbkifaaGreatTypesParts
namespace Go.Proofs.YtalbjbahgbkifaaGreat
open Go.RowKit

/-- The first byte, if there is one, is no digit. -/
def fstOk (l : List UInt8) : Prop := ∀ c r, l = c :: r → isDigit c = false
theorem fstOk_of (s : ByteArray) (h : 0 < s.size) (hd : isDigit s[0] = false) : fstOk s.data.toList := by
  intro c r e
  have := head_s s h
  rw [e] at this
  cases this
  exact hd
theorem digit_of (s : ByteArray) (h : 0 < s.size) (hf : fstOk s.data.toList) : isDigit s[0] = false := by
  have := drop_at s 0 h
  rw [List.drop_zero] at this
  exact hf _ _ this

set_option maxHeartbeats 4000000 in
set_option maxRecDepth 1000000 in
theorem refName (s : ByteArray) (w : World) (hs : s.size ≤ 9223372036854775806) : Calls Tryz.prog 72 #[.string s] w (Pu (.bool (nameR s.data.toList)) w) := by
  go_enter Tryz.func72, Tryz.ntmps72
  go_wp2
  go_loopg [3] s.size (fun g i wr => ∃ (k : Nat), g + k = s.size ∧ i = .int .i64 k ∧ Hid ((s.data.toList.take k).all isLetter = true) ∧ Hid (0 < k → fstOk s.data.toList) ∧ w = wr)
  case atStart => exact ⟨0, rfl, rfl, rfl, fun h => absurd h (by omega), rfl⟩
  case round =>
    obtain ⟨k, hg, rfl, hall, hfst, rfl⟩ := hrel
    by_cases hk : k < s.size
    · have h256 : s[k].toNat < 256 := s[k].toNat_lt
      by_cases a1 : 97 ≤ s[k].toNat
      · have a1' : (97 : Int) ≤ (s[k].toNat : Int) := by omega
        by_cases a2 : s[k].toNat ≤ 122
        · have a2' : (s[k].toNat : Int) ≤ 122 := by omega
          have HA : Hid ((s.data.toList.take (k + 1)).all isLetter = true) := take_all s k hk hall.out (by simp [isLetter, isSmall, a1, a2])
          have HD : Hid (0 < k + 1 → fstOk s.data.toList) := fun _ => (by
            rcases Nat.eq_zero_or_pos k with h0 | h0
            · subst h0
              exact fstOk_of s hk (by simp [isDigit]; omega)
            · exact hfst.out h0)
          clear hall hfst
          clear a1 a2
          go_wp2
          go_roundg (s.size - (k + 1))
          case measure => omega
          case rel => exact ⟨k + 1, by omega, by go_num, HA, HD, rfl⟩
        · have a2' : ¬ (s[k].toNat : Int) ≤ 122 := by omega
          have b1' : (65 : Int) ≤ (s[k].toNat : Int) := by omega
          have b2' : ¬ (s[k].toNat : Int) ≤ 90 := by omega
          have c' : ((s[k].toNat : Int) == 95) = false := by rw [beq_eq_false_iff_ne]; omega
          have d1' : (48 : Int) ≤ (s[k].toNat : Int) := by omega
          have d2' : ¬ (s[k].toNat : Int) ≤ 57 := by omega
          have HN : Hid (nameR s.data.toList = false) := by
            have := not_all s k hk (by simp [isLetter, isSmall, isLarge, isDigit]; omega)
            simp [Hid, nameR, this]
          clear a1 a2 hall hfst
          go_wp2
          go_ret
          exact ⟨by rw [HN.out]; rfl, rfl⟩
      have a1' : ¬ (97 : Int) ≤ (s[k].toNat : Int) := by omega
      by_cases b1 : 65 ≤ s[k].toNat
      · have b1' : (65 : Int) ≤ (s[k].toNat : Int) := by omega
        by_cases b2 : s[k].toNat ≤ 90
        · have b2' : (s[k].toNat : Int) ≤ 90 := by omega
          have HA : Hid ((s.data.toList.take (k + 1)).all isLetter = true) := take_all s k hk hall.out (by simp [isLetter, isLarge, b1, b2])
          have HD : Hid (0 < k + 1 → fstOk s.data.toList) := fun _ => (by
            rcases Nat.eq_zero_or_pos k with h0 | h0
            · subst h0
              exact fstOk_of s hk (by simp [isDigit]; omega)
            · exact hfst.out h0)
          clear hall hfst
          clear a1 b1 b2
          go_wp2
          go_roundg (s.size - (k + 1))
          case measure => omega
          case rel => exact ⟨k + 1, by omega, by go_num, HA, HD, rfl⟩
        · have b2' : ¬ (s[k].toNat : Int) ≤ 90 := by omega
          by_cases c : s[k].toNat = 95
          · have c' : ((s[k].toNat : Int) == 95) = true := by rw [beq_iff_eq]; omega
            have HA : Hid ((s.data.toList.take (k + 1)).all isLetter = true) := take_all s k hk hall.out (by simp [isLetter, c])
            have HD : Hid (0 < k + 1 → fstOk s.data.toList) := fun _ => (by
              rcases Nat.eq_zero_or_pos k with h0 | h0
              · subst h0
                exact fstOk_of s hk (by simp [isDigit]; omega)
              · exact hfst.out h0)
            clear hall hfst
            clear a1 b1 b2 c
            go_wp2
            go_roundg (s.size - (k + 1))
            case measure => omega
            case rel => exact ⟨k + 1, by omega, by go_num, HA, HD, rfl⟩
          · have c' : ((s[k].toNat : Int) == 95) = false := by rw [beq_eq_false_iff_ne]; omega
            have d1' : (48 : Int) ≤ (s[k].toNat : Int) := by omega
            have d2' : ¬ (s[k].toNat : Int) ≤ 57 := by omega
            have HN : Hid (nameR s.data.toList = false) := by
              have := not_all s k hk (by simp [isLetter, isSmall, isLarge, isDigit]; omega)
              simp [Hid, nameR, this]
            clear a1 b1 b2 c hall hfst
            go_wp2
            go_ret
            exact ⟨by rw [HN.out]; rfl, rfl⟩
      have b1' : ¬ (65 : Int) ≤ (s[k].toNat : Int) := by omega
      have c' : ((s[k].toNat : Int) == 95) = false := by rw [beq_eq_false_iff_ne]; omega
      by_cases d1 : 48 ≤ s[k].toNat
      · have d1' : (48 : Int) ≤ (s[k].toNat : Int) := by omega
        by_cases d2 : s[k].toNat ≤ 57
        · have d2' : (s[k].toNat : Int) ≤ 57 := by omega
          by_cases k0 : 0 < k
          · have k0' : (0 : Int) < (k : Int) := by omega
            have HA : Hid ((s.data.toList.take (k + 1)).all isLetter = true) := take_all s k hk hall.out (by simp [isLetter, isDigit, d1, d2])
            have HD : Hid (0 < k + 1 → fstOk s.data.toList) := fun _ => hfst.out k0
            clear hall hfst
            clear a1 b1 d1 d2
            go_wp2
            go_roundg (s.size - (k + 1))
            case measure => omega
            case rel => exact ⟨k + 1, by omega, by go_num, HA, HD, rfl⟩
          · have k0' : ¬ (0 : Int) < (k : Int) := by omega
            have HN : Hid (nameR s.data.toList = false) := by
              have e0 : k = 0 := by omega
              subst e0
              exact nameR_digit s hk (by simp [isDigit]; omega)
            clear a1 b1 d1 d2 hall hfst
            go_wp2
            go_ret
            exact ⟨by rw [HN.out]; rfl, rfl⟩
        · have d2' : ¬ (s[k].toNat : Int) ≤ 57 := by omega
          have HN : Hid (nameR s.data.toList = false) := by
            have := not_all s k hk (by simp [isLetter, isSmall, isLarge, isDigit]; omega)
            simp [Hid, nameR, this]
          clear a1 b1 d1 d2 hall hfst
          go_wp2
          go_ret
          exact ⟨by rw [HN.out]; rfl, rfl⟩
      have d1' : ¬ (48 : Int) ≤ (s[k].toNat : Int) := by omega
      have HN : Hid (nameR s.data.toList = false) := by
        have := not_all s k hk (by simp [isLetter, isSmall, isLarge, isDigit]; omega)
        simp [Hid, nameR, this]
      clear a1 b1 d1 hall hfst
      go_wp2
      go_ret
      exact ⟨by rw [HN.out]; rfl, rfl⟩
    · have hk' : k = s.size := by omega
      subst hk'
      have hal := all_all s hall.out
      by_cases h1 : 1 ≤ s.size
      · have h1' : (1 : Int) ≤ (s.size : Int) := by omega
        have hdg := digit_of s h1 (hfst.out h1)
        by_cases h2 : s.size ≤ 24
        · have h2' : (s.size : Int) ≤ 24 := by omega
          have HN : Hid (nameR s.data.toList = true) := by rw [nameR_some s h1 h2 hdg]; exact hal
          clear hall hfst hal hdg
          go_wp2
          go_ret
          exact ⟨by rw [HN.out]; rfl, rfl⟩
        · have h2' : ¬ (s.size : Int) ≤ 24 := by omega
          have HN : Hid (nameR s.data.toList = false) := nameR_long s (by omega)
          clear hall hfst hal hdg
          go_wp2
          go_ret
          exact ⟨by rw [HN.out]; rfl, rfl⟩
      · have h1' : ¬ (1 : Int) ≤ (s.size : Int) := by omega
        have HN : Hid (nameR s.data.toList = false) := nameR_empty s (by omega)
        clear hall hfst hal
        go_wp2
        go_ret
        exact ⟨by rw [HN.out]; rfl, rfl⟩

set_option maxHeartbeats 800000 in
set_option maxRecDepth 1000000 in
theorem refBig (s : ByteArray) (w : World) (hs : s.size ≤ 9223372036854775806) : Calls Tryz.prog 39 #[.string s] w (Pu (.bool (bigR s.data.toList)) w) := by
  have hn := fun w => refName s w hs
  rcases (by cases nameR s.data.toList <;> simp : nameR s.data.toList = true ∨ nameR s.data.toList = false) with h | h
  · have hp := nameR_pos s h
    have hp' : (0 : Int) < (s.size : Int) := by omega
    rw [bigR_yes s h hp]
    rw [h] at hn
    clear h
    by_cases a1 : 65 ≤ s[0].toNat
    · have a1' : (65 : Int) ≤ (s[0].toNat : Int) := by omega
      by_cases a2 : s[0].toNat ≤ 90
      · have a2' : (s[0].toNat : Int) ≤ 90 := by omega
        rw [show isLarge s[0] = true from by simp [isLarge, a1, a2]]
        clear a1 a2
        go_enter Tryz.func39, Tryz.ntmps39
        go_wp2_with fail
        refine (hn _).mono ?_
        rintro e w1 ⟨rfl, rfl⟩
        go_wp2
        go_ret
        exact ⟨rfl, rfl⟩
      · have a2' : ¬ (s[0].toNat : Int) ≤ 90 := by omega
        rw [show isLarge s[0] = false from by simp [isLarge, a1, a2]]
        clear a1 a2
        go_enter Tryz.func39, Tryz.ntmps39
        go_wp2_with fail
        refine (hn _).mono ?_
        rintro e w1 ⟨rfl, rfl⟩
        go_wp2
        go_ret
        refine ⟨?_, rfl⟩
        show Ending.returned (Value.bool (decide ((s[0].toNat : Int) ≤ 90))) = _
        rw [decide_eq_false (by omega)]
    · have a1' : ¬ (65 : Int) ≤ (s[0].toNat : Int) := by omega
      rw [show isLarge s[0] = false from by simp [isLarge, a1]]
      clear a1
      go_enter Tryz.func39, Tryz.ntmps39
      go_wp2_with fail
      refine (hn _).mono ?_
      rintro e w1 ⟨rfl, rfl⟩
      go_wp2
      go_ret
      exact ⟨rfl, rfl⟩
  · rw [bigR_no s h]
    rw [h] at hn
    clear h
    go_enter Tryz.func39, Tryz.ntmps39
    go_wp2_with fail
    refine (hn _).mono ?_
    rintro e w1 ⟨rfl, rfl⟩
    go_wp2
    go_ret
    exact ⟨rfl, rfl⟩
set_option maxHeartbeats 800000 in
set_option maxRecDepth 1000000 in
theorem refValue (s : ByteArray) (w : World) (hs : s.size ≤ 9223372036854775806) : Calls Tryz.prog 38 #[.string s] w (Pu (.bool (valueR s.data.toList)) w) := by
  have hn := fun w => refName s w hs
  have hb := fun w => refBig s w hs
  rcases (by cases nameR s.data.toList <;> simp : nameR s.data.toList = true ∨ nameR s.data.toList = false) with h | h
  · have hp := nameR_pos s h
    rw [valueR_yes s h hp]
    rw [bigR_yes s h hp] at hb
    rw [h] at hn
    generalize isLarge s[0] = b at *
    clear h
    go_enter Tryz.func38, Tryz.ntmps38
    go_wp2_with fail
    refine (hn _).mono ?_
    rintro e w1 ⟨rfl, rfl⟩
    go_wp2_with fail
    refine (hb _).mono ?_
    rintro e w1 ⟨rfl, rfl⟩
    go_wp2
    go_ret
    exact ⟨rfl, rfl⟩
  · rw [valueR_no s h]
    rw [h] at hn
    clear h
    go_enter Tryz.func38, Tryz.ntmps38
    go_wp2_with fail
    refine (hn _).mono ?_
    rintro e w1 ⟨rfl, rfl⟩
    go_wp2
    go_ret
    exact ⟨rfl, rfl⟩

end Go.Proofs.YtalbjbahgbkifaaGreat

namespace Go.Proofs.YtalbjbahgbkifaaGreat

def goesR (l : List UInt8) : Bool := l.head?.any (fun c => isLetter c || decide (c.toNat = 46))
def letR (l : List UInt8) : List UInt8 := l.takeWhile isLetter
/-- Behind a named type at the beginning. -/
def nmR (l : List UInt8) : Option (List UInt8) :=
  if valueR (letR l) = true then
    if isHead 46 (l.drop (letR l).length) = true then
      if bigR (letR (l.drop ((letR l).length + 1))) = true then some ((l.drop ((letR l).length + 1)).drop (letR (l.drop ((letR l).length + 1))).length) else none
    else none
  else none
def isNum (l : List UInt8) : Bool := decide (l.take 3 = numL) && !goesR (l.drop 3)
def isByt (l : List UInt8) : Bool := decide (l.take 5 = bytesL) && !goesR (l.drop 5)
def wpR (l : List UInt8) : Option (List UInt8) := if isNum l = true then some (l.drop 3) else if isByt l = true then some (l.drop 5) else nmR l
/-- As gF, whatever comes behind a word; parameters are counted at their end alone. -/
def rF : Nat → Nat → List UInt8 → Option (List UInt8)
  | 0, _, _ => none
  | _ + 1, 0, [] => none
  | f + 1, 0, c :: r =>
    if c.toNat = 91 then (rF f 0 r).bind (fun x => match x with | [] => none | d :: y => if d.toNat = 93 then some y else none)
    else if c.toNat = 40 then
      if isHead 41 r then rF f 0 r.tail else (rF f 0 r).bind (fun x => (rF f 1 x).bind (rF f 0))
    else wpR (c :: r)
  | _ + 1, _ + 1, [] => none
  | f + 1, k + 1, c :: r => if c.toNat = 44 then (rF f 0 r).bind (rF f (k + 2)) else if c.toNat = 41 ∧ k + 1 ≤ 6 then some r else none

theorem valueR_nil : valueR [] = false := by decide
theorem bigR_nil : bigR [] = false := by decide
theorem nmR_len {l r : List UInt8} (h : nmR l = some r) : r.length < l.length := by
  unfold nmR at h
  split at h
  · rename_i h1
    split at h
    · rename_i h2
      split at h
      · cases h
        obtain ⟨d, y, e, _⟩ := isHead_pos h2
        have := congrArg List.length e
        simp at this ⊢
        omega
      · cases h
    · cases h
  · cases h
theorem take_len {l y : List UInt8} {n : Nat} (h : l.take n = y) (hn : y.length = n) (_hp : 0 < n) : n ≤ l.length := by
  have := congrArg List.length h
  rw [List.length_take, hn] at this
  omega
theorem wpR_len {l r : List UInt8} (h : wpR l = some r) : r.length < l.length := by
  unfold wpR at h
  split at h
  · rename_i h1
    rw [isNum, Bool.and_eq_true, decide_eq_true_iff] at h1
    have := take_len h1.1 rfl (by decide)
    cases h
    simp; omega
  · split at h
    · rename_i h1
      rw [isByt, Bool.and_eq_true, decide_eq_true_iff] at h1
      have := take_len h1.1 rfl (by decide)
      cases h
      simp; omega
    · exact nmR_len h
theorem rF_len : ∀ (f k : Nat) (l r : List UInt8), rF f k l = some r → r.length < l.length
  | 0, _, _, _, h => by simp [rF] at h
  | f + 1, 0, [], _, h => by simp [rF] at h
  | f + 1, 0, c :: l, r, h => by
    rw [rF] at h
    split at h
    · obtain ⟨x, h1, h2⟩ := Option.bind_eq_some_iff.1 h
      have := rF_len f 0 l x h1
      split at h2
      · cases h2
      · rename_i d y
        split at h2
        · cases h2; simp at this ⊢; omega
        · cases h2
    · split at h
      · split at h
        · rename_i hh
          obtain ⟨d, y, rfl, _⟩ := isHead_pos hh
          have := rF_len f 0 y r h
          simp at this ⊢; omega
        · obtain ⟨x, h1, h2⟩ := Option.bind_eq_some_iff.1 h
          obtain ⟨z, h3, h4⟩ := Option.bind_eq_some_iff.1 h2
          have a1 := rF_len f 0 _ x h1
          have a2 := rF_len f 1 x z h3
          have a3 := rF_len f 0 z r h4
          simp; omega
      · exact wpR_len h
  | f + 1, k + 1, [], _, h => by simp [rF] at h
  | f + 1, k + 1, c :: l, r, h => by
    rw [rF] at h
    split at h
    · obtain ⟨x, h1, h2⟩ := Option.bind_eq_some_iff.1 h
      have a1 := rF_len f 0 l x h1
      have a2 := rF_len f (k + 2) x r h2
      simp; omega
    · split at h
      · cases h; simp
      · cases h
theorem rF_fuel : ∀ (f g k : Nat) (l : List UInt8), l.length < f → l.length < g → rF f k l = rF g k l
  | 0, _, _, _, h, _ => by omega
  | _ + 1, 0, _, _, _, h => by omega
  | f + 1, g + 1, 0, [], _, _ => by simp [rF]
  | f + 1, g + 1, k + 1, [], _, _ => by simp [rF]
  | f + 1, g + 1, 0, c :: l, hf, hg => by
    simp only [List.length_cons] at hf hg
    have e : rF f 0 l = rF g 0 l := rF_fuel f g 0 l (by omega) (by omega)
    rw [rF, rF, e]
    split
    · rfl
    · split
      · split
        · exact rF_fuel f g 0 _ (by simp; omega) (by simp; omega)
        · refine bind_same (fun x hx => ?_)
          have a1 := rF_len g 0 _ x hx
          rw [rF_fuel f g 1 x (by omega) (by omega)]
          refine bind_same (fun z hz => ?_)
          have a2 := rF_len g 1 x z hz
          exact rF_fuel f g 0 z (by omega) (by omega)
      · rfl
  | f + 1, g + 1, k + 1, c :: l, hf, hg => by
    simp only [List.length_cons] at hf hg
    rw [rF, rF]
    split
    · rw [rF_fuel f g 0 l (by omega) (by omega)]
      refine bind_same (fun x hx => ?_)
      have a1 := rF_len g 0 _ x hx
      exact rF_fuel f g (k + 2) x (by omega) (by omega)
    · rfl
def rOne (l : List UInt8) : Option (List UInt8) := rF (l.length + 1) 0 l
def rTl (k : Nat) (l : List UInt8) : Option (List UInt8) := rF (l.length + 1) (k + 1) l
theorem rOne_len {l r : List UInt8} (h : rOne l = some r) : r.length < l.length := rF_len _ _ _ _ h
theorem rTl_len {k : Nat} {l r : List UInt8} (h : rTl k l = some r) : r.length < l.length := rF_len _ _ _ _ h
theorem rOne_nil : rOne [] = none := by simp [rOne, rF]
theorem rOne_arr {c : UInt8} (r : List UInt8) (h : c.toNat = 91) : rOne (c :: r) = (rOne r).bind (fun x => match x with | [] => none | d :: y => if d.toNat = 93 then some y else none) := by
  simp only [rOne, List.length_cons]
  rw [rF, if_pos h]
/-- A function's type behind its bracket: k parameters are read, a comma behind them. -/
def fnHd (k : Nat) (l : List UInt8) : Option (List UInt8) := if k = 0 ∧ isHead 41 l = true then rOne l.tail else (rOne l).bind (fun x => (rTl k x).bind rOne)
theorem rOne_fn {c : UInt8} (r : List UInt8) (h : c.toNat = 40) : rOne (c :: r) = fnHd 0 r := by
  simp only [rOne, fnHd, List.length_cons, true_and]
  rw [rF, if_neg (by omega), if_pos h]
  split
  · exact rF_fuel _ _ _ _ (by simp; omega) (by simp)
  · refine bind_same (fun x hx => ?_)
    have a1 := rF_len _ 0 _ x hx
    rw [rTl, rF_fuel (r.length + 1) (x.length + 1) 1 x (by omega) (by omega)]
    refine bind_same (fun z hz => ?_)
    have a2 := rF_len _ 1 x z hz
    exact rF_fuel _ _ 0 z (by omega) (by omega)
theorem rOne_word {c : UInt8} (r : List UInt8) (h : c.toNat ≠ 91) (h2 : c.toNat ≠ 40) : rOne (c :: r) = wpR (c :: r) := by
  simp only [rOne, List.length_cons]
  rw [rF, if_neg h, if_neg h2]
theorem rTl_nil (k : Nat) : rTl k [] = none := by simp [rTl, rF]
theorem rTl_comma {c : UInt8} (k : Nat) (r : List UInt8) (h : c.toNat = 44) : rTl k (c :: r) = (rOne r).bind (rTl (k + 1)) := by
  simp only [rTl, rOne, List.length_cons]
  rw [rF, if_pos h]
  refine bind_same (fun x hx => ?_)
  have a1 := rF_len _ 0 _ x hx
  exact rF_fuel _ _ _ x (by omega) (by omega)
theorem rTl_close {c : UInt8} (k : Nat) (r : List UInt8) (h : c.toNat = 41) (hk : k + 1 ≤ 6) : rTl k (c :: r) = some r := by
  simp only [rTl, List.length_cons]
  rw [rF, if_neg (by omega), if_pos ⟨h, hk⟩]
theorem rTl_bad {c : UInt8} (k : Nat) (r : List UInt8) (h : c.toNat ≠ 44) (h2 : ¬ (c.toNat = 41 ∧ k + 1 ≤ 6)) : rTl k (c :: r) = none := by
  simp only [rTl, List.length_cons]
  rw [rF, if_neg h, if_neg h2]
theorem fnHd_next {k : Nat} {l y : List UInt8} {c : UInt8} (h0 : ¬ (k = 0 ∧ isHead 41 l = true)) (h : rOne l = some (c :: y)) (hc : c.toNat = 44) : fnHd k l = fnHd (k + 1) y := by
  rw [fnHd, if_neg h0, h, Option.bind_some, rTl_comma k y hc, fnHd, if_neg (by omega), Option.bind_assoc]

/-! Words. -/
theorem letter_sign {c : UInt8} (h : isLetter c = true) : notSign c = true := by
  simp only [isLetter, isSmall, isLarge, isDigit, notSign, isSign, Bool.or_eq_true, Bool.and_eq_true, decide_eq_true_eq, Bool.not_eq_true', Bool.or_eq_false_iff, decide_eq_false_iff_not] at h ⊢
  omega
theorem letter_dot {c : UInt8} (h : isLetter c = true) : notDot c = true := by
  simp only [isLetter, isSmall, isLarge, isDigit, notDot, Bool.or_eq_true, Bool.and_eq_true, decide_eq_true_eq, Bool.not_eq_true', decide_eq_false_iff_not] at h ⊢
  omega
theorem sign_letter {c : UInt8} (h : isSign c = true) : isLetter c = false := by
  rw [Bool.eq_false_iff]
  intro h2
  have := letter_sign h2
  rw [notSign, h] at this
  cases this
theorem sign_dot {c : UInt8} (h : isSign c = true) : c.toNat ≠ 46 := by
  simp only [isSign, Bool.or_eq_true, decide_eq_true_eq] at h
  omega
theorem value_all {l : List UInt8} (h : valueR l = true) : ∀ c ∈ l, isLetter c = true := by
  simp only [valueR, nameR, Bool.and_eq_true] at h
  exact List.all_eq_true.1 h.1.2
theorem big_all {l : List UInt8} (h : bigR l = true) : ∀ c ∈ l, isLetter c = true := by
  simp only [bigR, nameR, Bool.and_eq_true] at h
  exact List.all_eq_true.1 h.1.2
theorem value_len {l : List UInt8} (h : valueR l = true) : l.length ≤ 24 := by
  simp only [valueR, nameR, Bool.and_eq_true, decide_eq_true_eq] at h
  exact h.1.1.1.2
theorem big_len {l : List UInt8} (h : bigR l = true) : l.length ≤ 24 := by
  simp only [bigR, nameR, Bool.and_eq_true, decide_eq_true_eq] at h
  exact h.1.1.1.2
theorem goes_ok {t : List UInt8} (h : okB t) : goesR t = false := by
  rcases h with rfl | ⟨c, r, rfl, hc⟩
  · rfl
  · simp [goesR, sign_letter hc, sign_dot hc]
theorem word_rest (l : List UInt8) : okB (l.drop (wordR l).length) := by
  induction l with
  | nil => exact .inl rfl
  | cons c l ih =>
    by_cases h : notSign c = true
    · have e : wordR (c :: l) = c :: wordR l := by simp [wordR, h]
      rw [e]
      simpa using ih
    · have e : wordR (c :: l) = [] := by simp [wordR, h]
      rw [e]
      refine .inr ⟨c, l, rfl, ?_⟩
      simp only [notSign, Bool.not_eq_true, Bool.not_eq_false'] at h
      exact h
theorem word_split (l : List UInt8) : l = wordR l ++ l.drop (wordR l).length := by
  have h1 : wordR l <+: l := List.takeWhile_prefix _
  obtain ⟨t, e⟩ := h1
  have h2 := List.drop_left (l₁ := wordR l) (l₂ := t)
  rw [e] at h2
  rw [h2]
  exact e.symm
/-- A named type in its parts. -/
theorem named_split {x : List UInt8} (h : namedR x = true) : ∃ a b, x = a ++ 46 :: b ∧ valueR a = true ∧ bigR b = true ∧ aheadR x = a ∧ behindR x = b := by
  simp only [namedR, Bool.and_eq_true] at h
  refine ⟨aheadR x, behindR x, ?_, h.1, h.2, rfl, rfl⟩
  have hb : behindR x ≠ [] := by intro e; rw [e, bigR_nil] at h; cases h.2
  have hlen : (aheadR x).length + 1 < x.length := by
    rcases Nat.lt_or_ge ((aheadR x).length + 1) x.length with h2 | h2
    · exact h2
    · exact absurd (List.drop_eq_nil_of_le h2) hb
  have h1 : aheadR x <+: x := List.takeWhile_prefix _
  obtain ⟨t, e⟩ := h1
  have ht : x.drop (aheadR x).length = t := by
    have h2 := List.drop_left (l₁ := aheadR x) (l₂ := t)
    rwa [e] at h2
  have hd : behindR x = t.tail := by
    rw [behindR, ← List.drop_drop, ht, List.drop_one]
  cases t with
  | nil => rw [List.append_nil] at e; have := congrArg List.length e; omega
  | cons d t =>
    have : notDot d = false := by
      have := List.head?_dropWhile_not notDot x
      have e2 : x.dropWhile notDot = d :: t := by
        have h3 := List.takeWhile_append_dropWhile (p := notDot) (l := x)
        have h4 : aheadR x ++ x.dropWhile notDot = aheadR x ++ d :: t := by rw [e]; exact h3
        exact List.append_cancel_left h4
      rw [e2] at this
      simpa using this
    simp only [notDot, Bool.not_eq_false', decide_eq_true_eq] at this
    rw [hd, List.tail_cons]
    have hd46 : d = 46 := UInt8.toNat_inj.1 this
    rw [← hd46]
    exact e.symm
theorem named_of {a b : List UInt8} (ha : valueR a = true) (hb : bigR b = true) : namedR (a ++ 46 :: b) = true := by
  have e : aheadR (a ++ 46 :: b) = a := by
    rw [aheadR, List.takeWhile_append_of_pos (fun c hc => letter_dot (value_all ha c hc))]
    simp [notDot]
  rw [namedR, behindR, e, ha]
  simpa using hb
theorem let_stop {a t : List UInt8} (h : ∀ c ∈ a, isLetter c = true) (ht : ∀ d y, t = d :: y → isLetter d = false) : letR (a ++ t) = a := by
  rw [letR, List.takeWhile_append_of_pos h]
  cases t with
  | nil => simp
  | cons d y => simp [ht d y rfl]
theorem nmR_of {a b t : List UInt8} (ha : valueR a = true) (hb : bigR b = true) (ht : ∀ d y, t = d :: y → isLetter d = false) : nmR (a ++ 46 :: (b ++ t)) = some t := by
  have e1 : letR (a ++ 46 :: (b ++ t)) = a := let_stop (value_all ha) (fun d y e => by cases e; rfl)
  have e2 : (a ++ 46 :: (b ++ t)).drop (a.length + 1) = b ++ t := by simp
  have e3 : letR (b ++ t) = b := let_stop (big_all hb) ht
  rw [nmR, e1, if_pos ha, e2, e3, if_pos hb, if_pos (by simp; rfl)]
  simp
theorem nmR_split {l r : List UInt8} (h : nmR l = some r) : ∃ a b, l = a ++ 46 :: (b ++ r) ∧ valueR a = true ∧ bigR b = true := by
  unfold nmR at h
  split at h
  · rename_i h1
    split at h
    · rename_i h2
      split at h
      · rename_i h3
        refine ⟨letR l, letR (l.drop ((letR l).length + 1)), ?_, h1, h3⟩
        obtain ⟨d, y, e, hd⟩ := isHead_pos h2
        have hd46 : d = 46 := UInt8.toNat_inj.1 hd
        have ey : l.drop ((letR l).length + 1) = y := by rw [← List.drop_drop, e]; rfl
        rw [ey] at h ⊢
        simp only [Option.some.injEq] at h
        have e1 : letR y ++ r = y := by
          rw [← h, letR]
          conv => rhs; rw [← List.take_append_drop (y.takeWhile isLetter).length y]
          rw [take_tw]
        rw [e1, ← hd46, ← e]
        have := List.take_append_drop (letR l).length l
        rw [letR, take_tw] at this
        exact this.symm
      · cases h
    · cases h
  · cases h
/-- Letters, a point: no run of letters alone ends within. -/
theorem goes_in : ∀ (a y z : List UInt8), (∀ c ∈ a, isLetter c = true) → (∀ c ∈ y, isLetter c = true) → (a ++ 46 :: z).take y.length = y → goesR ((a ++ 46 :: z).drop y.length) = true
  | [], [], z, _, _, _ => rfl
  | [], d :: y, z, _, hy, h => by
    simp only [List.nil_append, List.length_cons, List.take_succ_cons, List.cons.injEq] at h
    have := hy d (by simp)
    rw [← h.1] at this
    cases this
  | c :: a, [], z, ha, _, _ => by
    simp [goesR, ha c (by simp)]
  | c :: a, d :: y, z, ha, hy, h => by
    simp only [List.cons_append, List.length_cons, List.take_succ_cons, List.cons.injEq] at h
    have := goes_in a y z (fun x hx => ha x (by simp [hx])) (fun x hx => hy x (by simp [hx])) h.2
    simpa using this
theorem not_num {a z : List UInt8} (ha : ∀ c ∈ a, isLetter c = true) : isNum (a ++ 46 :: z) = false := by
  rw [Bool.eq_false_iff]
  intro h
  rw [isNum, Bool.and_eq_true, decide_eq_true_iff] at h
  have := goes_in a numL z ha (by decide) h.1
  rw [show numL.length = 3 from rfl] at this
  rw [this] at h
  cases h.2
theorem not_byt {a z : List UInt8} (ha : ∀ c ∈ a, isLetter c = true) : isByt (a ++ 46 :: z) = false := by
  rw [Bool.eq_false_iff]
  intro h
  rw [isByt, Bool.and_eq_true, decide_eq_true_iff] at h
  have := goes_in a bytesL z ha (by decide) h.1
  rw [show bytesL.length = 5 from rfl] at this
  rw [this] at h
  cases h.2
theorem okB_letter {t : List UInt8} (h : okB t) : ∀ d y, t = d :: y → isLetter d = false := by
  intro d y e
  rcases h with rfl | ⟨c, r, rfl, hc⟩
  · cases e
  · cases e; exact sign_letter hc
theorem wp_named {a b t : List UInt8} (ha : valueR a = true) (hb : bigR b = true) (ht : ∀ d y, t = d :: y → isLetter d = false) : wpR (a ++ 46 :: (b ++ t)) = some t := by
  rw [wpR, not_num (value_all ha), not_byt (value_all ha)]
  exact nmR_of ha hb ht
theorem isNum_of {t : List UInt8} (h : okB t) : isNum (numL ++ t) = true := by
  rw [isNum, Bool.and_eq_true, decide_eq_true_iff]
  refine ⟨by simp [numL], ?_⟩
  rw [show (numL ++ t).drop 3 = t from rfl, goes_ok h]
  rfl
theorem isByt_of {t : List UInt8} (h : okB t) : isNum (bytesL ++ t) = false ∧ isByt (bytesL ++ t) = true := by
  refine ⟨by rw [isNum, Bool.and_eq_false_iff]; exact .inl (by simp [bytesL, numL]), ?_⟩
  rw [isByt, Bool.and_eq_true, decide_eq_true_iff]
  refine ⟨by simp [bytesL], ?_⟩
  rw [show (bytesL ++ t).drop 5 = t from rfl, goes_ok h]
  rfl
theorem wp_word {l : List UInt8} (h : wordOk (wordR l) = true) : wpR l = some (l.drop (wordR l).length) := by
  have hr := word_rest l
  have hs := word_split l
  generalize l.drop (wordR l).length = t at *
  generalize wordR l = x at *
  subst hs
  simp only [wordOk, Bool.or_eq_true, decide_eq_true_eq] at h
  rcases h with (h | rfl) | rfl
  · obtain ⟨a, b, rfl, ha, hb, _, _⟩ := named_split h
    rw [List.append_assoc, List.cons_append]
    exact wp_named ha hb (okB_letter hr)
  · rw [wpR, if_pos (isNum_of hr)]; rfl
  · obtain ⟨h1, h2⟩ := isByt_of hr
    rw [wpR, h1, if_neg (by decide), if_pos h2]; rfl
theorem wp_ok {l r : List UInt8} (h : wpR l = some r) (hr : okB r) : wordOk (wordR l) = true ∧ l.drop (wordR l).length = r := by
  unfold wpR at h
  split at h
  · rename_i h1
    rw [isNum, Bool.and_eq_true, decide_eq_true_iff] at h1
    have e := List.take_append_drop 3 l
    simp only [Option.some.injEq] at h
    rw [h1.1, h] at e
    have hw : wordR l = numL := by rw [← e]; exact word_stop (by decide) hr
    rw [hw]
    exact ⟨by decide, h⟩
  · split at h
    · rename_i h1
      rw [isByt, Bool.and_eq_true, decide_eq_true_iff] at h1
      have e := List.take_append_drop 5 l
      simp only [Option.some.injEq] at h
      rw [h1.1, h] at e
      have hw : wordR l = bytesL := by rw [← e]; exact word_stop (by decide) hr
      rw [hw]
      exact ⟨by decide, h⟩
    · obtain ⟨a, b, rfl, ha, hb⟩ := nmR_split h
      have hw : wordR (a ++ 46 :: (b ++ r)) = a ++ 46 :: b := by
        rw [show a ++ 46 :: (b ++ r) = (a ++ 46 :: b) ++ r from by simp]
        refine word_stop ?_ hr
        intro c hc
        simp only [List.mem_append, List.mem_cons] at hc
        rcases hc with hc | rfl | hc
        · exact letter_sign (value_all ha c hc)
        · rfl
        · exact letter_sign (big_all hb c hc)
      rw [hw]
      refine ⟨by simp [wordOk, named_of ha hb], by rw [show a ++ 46 :: (b ++ r) = (a ++ 46 :: b) ++ r from by simp]; simp⟩

theorem rF_many : ∀ (f k : Nat) (l : List UInt8), 6 < k + 1 → rF f (k + 1) l = none
  | 0, _, _, _ => by simp [rF]
  | f + 1, k, [], _ => by simp [rF]
  | f + 1, k, c :: l, h => by
    rw [rF, if_neg (fun hh : c.toNat = 41 ∧ k + 1 ≤ 6 => by omega)]
    split
    · cases rF f 0 l with
      | none => rfl
      | some x => exact rF_many f (k + 1) x (by omega)
    · rfl
theorem rF_sign {f k : Nat} {l r : List UInt8} (h : rF f (k + 1) l = some r) : okB l := by
  cases f with
  | zero => simp [rF] at h
  | succ f =>
    cases l with
    | nil => simp [rF] at h
    | cons c l =>
      refine .inr ⟨c, l, rfl, ?_⟩
      rw [rF] at h
      split at h
      · rename_i hc; exact sign_of (by omega)
      · split at h
        · rename_i hc; exact sign_of (by omega)
        · cases h
theorem g_r : ∀ f, (∀ l r, gF f 0 l = some r → rF f 0 l = some r) ∧ (∀ l r, rF f 0 l = some r → okB r → gF f 0 l = some r) ∧ (∀ k l r, k + 1 ≤ 6 → (gF f (k + 1) l = some r ↔ rF f (k + 1) l = some r))
  | 0 => by simp [gF, rF]
  | f + 1 => by
    obtain ⟨i1, i2, i3⟩ := g_r f
    refine ⟨?_, ?_, ?_⟩
    · intro l r h
      cases l with
      | nil => simp [gF] at h
      | cons c l =>
        rw [gF] at h
        rw [rF]
        split at h
        · rename_i hc
          rw [if_pos hc]
          obtain ⟨x, h1, h2⟩ := Option.bind_eq_some_iff.1 h
          rw [i1 _ _ h1]
          exact h2
        · rename_i hc
          rw [if_neg hc]
          split at h
          · rename_i hc2
            rw [if_pos hc2]
            split at h
            · rename_i hh
              rw [if_pos hh]
              exact i1 _ _ h
            · rename_i hh
              rw [if_neg hh]
              obtain ⟨x, h1, h2⟩ := Option.bind_eq_some_iff.1 h
              obtain ⟨z, h3, h4⟩ := Option.bind_eq_some_iff.1 h2
              rw [i1 _ _ h1, Option.bind_some, (i3 0 _ _ (by omega)).1 h3, Option.bind_some]
              exact i1 _ _ h4
          · rename_i hc2
            rw [if_neg hc2]
            split at h
            · rename_i hw
              rw [wp_word hw]
              exact h
            · cases h
    · intro l r h hr
      cases l with
      | nil => simp [rF] at h
      | cons c l =>
        rw [rF] at h
        rw [gF]
        split at h
        · rename_i hc
          rw [if_pos hc]
          obtain ⟨x, h1, h2⟩ := Option.bind_eq_some_iff.1 h
          split at h2
          · cases h2
          · rename_i d y
            split at h2
            · rename_i hd
              rw [i2 _ _ h1 (.inr ⟨d, y, rfl, sign_of (by omega)⟩)]
              simp only [Option.bind_some, if_pos hd]
              exact h2
            · cases h2
        · rename_i hc
          rw [if_neg hc]
          split at h
          · rename_i hc2
            rw [if_pos hc2]
            split at h
            · rename_i hh
              rw [if_pos hh]
              exact i2 _ _ h hr
            · rename_i hh
              rw [if_neg hh]
              obtain ⟨x, h1, h2⟩ := Option.bind_eq_some_iff.1 h
              obtain ⟨z, h3, h4⟩ := Option.bind_eq_some_iff.1 h2
              rw [i2 _ _ h1 (rF_sign h3), Option.bind_some, (i3 0 _ _ (by omega)).2 h3, Option.bind_some]
              exact i2 _ _ h4 hr
          · rename_i hc2
            rw [if_neg hc2]
            obtain ⟨hw, e⟩ := wp_ok h hr
            rw [if_pos hw, e]
    · intro k l r hk
      cases l with
      | nil => simp [gF, rF]
      | cons c l =>
        rw [gF, rF]
        by_cases h44 : c.toNat = 44
        · rw [if_neg (by omega), if_pos h44]
          constructor
          · intro h
            split at h
            · obtain ⟨x, h1, h2⟩ := Option.bind_eq_some_iff.1 h
              rw [i1 _ _ h1, Option.bind_some]
              exact (i3 _ _ _ (by omega)).1 h2
            · cases h
          · intro h
            obtain ⟨x, h1, h2⟩ := Option.bind_eq_some_iff.1 h
            rcases Nat.lt_or_ge (k + 1) 6 with h6 | h6
            · rw [if_pos ⟨h44, h6⟩, i2 _ _ h1 (rF_sign h2), Option.bind_some]
              exact (i3 _ _ _ (by omega)).2 h2
            · rw [rF_many f (k + 1) x (by omega)] at h2
              cases h2
        · rw [if_neg h44]
          by_cases h41 : c.toNat = 41
          · rw [if_pos h41, if_pos ⟨h41, hk⟩]
          · rw [if_neg h41, if_neg (fun h => h44 h.1), if_neg (fun h => h41 h.1)]
theorem rOne_of {l r : List UInt8} (h : one l = some r) : rOne l = some r := (g_r _).1 _ _ h
theorem one_of {l r : List UInt8} (h : rOne l = some r) (hr : okB r) : one l = some r := (g_r _).2.1 _ _ h hr
theorem right_is (l : List UInt8) : rightR l = (decide (l.length ≤ 200) && decide (rOne l = some [])) := by
  rw [rightR]
  congr 1
  rw [Bool.eq_iff_iff, decide_eq_true_iff, decide_eq_true_iff]
  exact ⟨rOne_of, fun h => one_of h (.inl rfl)⟩

/-- What kind of type a text begins with. -/
def kindR (l : List UInt8) : Nat := if isHead 91 l = true then 2 else if isHead 40 l = true then 3 else if isNum l = true ∨ isByt l = true then 1 else 4
theorem kind_named (l : List UInt8) : (rightR l = true ∧ kindR l = 4) ↔ namedR l = true := by
  constructor
  · rintro ⟨h1, h2⟩
    rw [rightR, Bool.and_eq_true, decide_eq_true_iff, decide_eq_true_iff] at h1
    cases l with
    | nil => rw [one_nil] at h1; cases h1.2
    | cons c l =>
      by_cases c1 : c.toNat = 91
      · simp [kindR, isHead_cons, c1] at h2
      · by_cases c2 : c.toNat = 40
        · simp [kindR, isHead_cons, c2] at h2
        · rw [one_word l c1 c2] at h1
          split at h1
          · rename_i hw
            have hn := h1.2
            simp only [Option.some.injEq] at hn
            have e := word_split (c :: l)
            rw [hn, List.append_nil] at e
            rw [← e] at hw
            simp only [wordOk, Bool.or_eq_true, decide_eq_true_eq] at hw
            have hnn : ¬ (isNum (c :: l) = true ∨ isByt (c :: l) = true) := by
              intro hh
              simp [kindR, isHead_cons, c1, c2, hh] at h2
            rcases hw with (h | h) | h
            · exact h
            · rw [h] at hnn; exact absurd (.inl (by have := isNum_of (t := []) (.inl rfl); rwa [List.append_nil] at this)) hnn
            · rw [h] at hnn; exact absurd (.inr (by have := (isByt_of (t := []) (.inl rfl)).2; rwa [List.append_nil] at this)) hnn
          · cases h1.2
  · intro h
    obtain ⟨a, b, rfl, ha, hb, _, _⟩ := named_split h
    have la := value_len ha
    have lb := big_len hb
    have hw : wpR (a ++ 46 :: b) = some [] := by
      have := wp_named (t := []) ha hb (fun d y e => by cases e)
      rwa [List.append_nil] at this
    cases a with
    | nil => rw [valueR_nil] at ha; cases ha
    | cons c a =>
      have hc := value_all ha c (by simp)
      have c1 : c.toNat ≠ 91 := by intro e; revert hc; rw [show c = 91 from UInt8.toNat_inj.1 e]; decide
      have c2 : c.toNat ≠ 40 := by intro e; revert hc; rw [show c = 40 from UInt8.toNat_inj.1 e]; decide
      refine ⟨?_, ?_⟩
      · rw [right_is, Bool.and_eq_true, decide_eq_true_iff, decide_eq_true_iff]
        refine ⟨by simp at la ⊢; omega, ?_⟩
        rw [List.cons_append] at hw ⊢
        rw [rOne_word _ c1 c2]
        exact hw
      · have n1 := not_num (z := b) (value_all ha)
        have n2 := not_byt (z := b) (value_all ha)
        rw [kindR, List.cons_append, isHead_cons, isHead_cons, decide_eq_false c1, decide_eq_false c2]
        rw [List.cons_append] at n1 n2
        rw [n1, n2]
        rfl
theorem wpR_suffix {l r : List UInt8} (h : wpR l = some r) : r <:+ l := by
  unfold wpR at h
  split at h
  · cases h; exact List.drop_suffix _ _
  · split at h
    · cases h; exact List.drop_suffix _ _
    · obtain ⟨a, b, rfl, _, _⟩ := nmR_split h
      exact ⟨a ++ 46 :: b, by simp⟩
theorem rF_suffix : ∀ (f k : Nat) (l r : List UInt8), rF f k l = some r → r <:+ l
  | 0, _, _, _, h => by simp [rF] at h
  | f + 1, 0, [], _, h => by simp [rF] at h
  | f + 1, 0, c :: l, r, h => by
    rw [rF] at h
    split at h
    · obtain ⟨x, h1, h2⟩ := Option.bind_eq_some_iff.1 h
      have := rF_suffix f 0 l x h1
      split at h2
      · cases h2
      · rename_i d y
        split at h2
        · cases h2
          exact ((List.suffix_cons d r).trans this).trans (List.suffix_cons c l)
        · cases h2
    · split at h
      · split at h
        · rename_i hh
          obtain ⟨d, y, rfl, _⟩ := isHead_pos hh
          have := rF_suffix f 0 y r h
          exact (this.trans (List.suffix_cons d y)).trans (List.suffix_cons c _)
        · obtain ⟨x, h1, h2⟩ := Option.bind_eq_some_iff.1 h
          obtain ⟨z, h3, h4⟩ := Option.bind_eq_some_iff.1 h2
          exact (((rF_suffix f 0 z r h4).trans (rF_suffix f 1 x z h3)).trans (rF_suffix f 0 _ x h1)).trans (List.suffix_cons c _)
      · exact wpR_suffix h
  | f + 1, k + 1, [], _, h => by simp [rF] at h
  | f + 1, k + 1, c :: l, r, h => by
    rw [rF] at h
    split at h
    · obtain ⟨x, h1, h2⟩ := Option.bind_eq_some_iff.1 h
      exact ((rF_suffix f (k + 2) x r h2).trans (rF_suffix f 0 l x h1)).trans (List.suffix_cons c _)
    · split at h
      · cases h; exact List.suffix_cons _ _
      · cases h
/-- How many bytes the type has; 0: there is none. -/
def oneN (l : List UInt8) : Nat := match rOne l with | none => 0 | some r => l.length - r.length
theorem oneN_none {l : List UInt8} (h : rOne l = none) : oneN l = 0 := by rw [oneN, h]
theorem oneN_some {l r : List UInt8} (h : rOne l = some r) : 0 < oneN l ∧ oneN l ≤ l.length ∧ r = l.drop (oneN l) := by
  have h1 := rOne_len h
  have h2 : r <:+ l := rF_suffix _ _ _ _ h
  rw [oneN, h]
  exact ⟨by simp only; omega, by simp only; omega, List.suffix_iff_eq_drop.1 h2⟩
theorem oneN_at {l : List UInt8} {n : Nat} (h : rOne l = some (l.drop n)) (hn : n ≤ l.length) : oneN l = n := by
  rw [oneN, h]
  simp
  omega
def funN (l : List UInt8) : Nat := match fnHd 0 (l.drop 1) with | none => 0 | some r => l.length - r.length
theorem funN_none {l : List UInt8} (h : fnHd 0 (l.drop 1) = none) : funN l = 0 := by rw [funN, h]
theorem funN_at {l : List UInt8} {n : Nat} (h : fnHd 0 (l.drop 1) = some (l.drop n)) (hn : n ≤ l.length) : funN l = n := by
  rw [funN, h]
  simp
  omega
theorem let_at {l : List UInt8} {k : Nat} (h : (l.take k).all isLetter = true) (hs : ∀ d y, l.drop k = d :: y → isLetter d = false) : letR l = l.take k := by
  conv => lhs; rw [← List.take_append_drop k l]
  exact let_stop (List.all_eq_true.1 h) hs
theorem num_head {l : List UInt8} (h : isNum l = true) : rOne l = some (l.drop 3) ∧ kindR l = 1 ∧ 3 ≤ l.length := by
  have h' := h
  rw [isNum, Bool.and_eq_true, decide_eq_true_iff] at h
  have e := List.take_append_drop 3 l
  rw [h.1] at e
  have hl : 3 ≤ l.length := take_len h.1 rfl (by decide)
  generalize l.drop 3 = r at *
  subst e
  refine ⟨?_, ?_, hl⟩
  · have := rOne_word (c := 110) (117 :: 109 :: r) (by decide) (by decide)
    rw [show numL ++ r = 110 :: 117 :: 109 :: r from rfl] at h' ⊢
    rw [this, wpR, if_pos h']; rfl
  · rw [kindR, if_neg (by simp [numL, isHead]), if_neg (by simp [numL, isHead]), if_pos (.inl h')]
theorem byt_head {l : List UInt8} (hn : isNum l = false) (h : isByt l = true) : rOne l = some (l.drop 5) ∧ kindR l = 1 ∧ 5 ≤ l.length := by
  have h' := h
  rw [isByt, Bool.and_eq_true, decide_eq_true_iff] at h
  have e := List.take_append_drop 5 l
  rw [h.1] at e
  have hl : 5 ≤ l.length := take_len h.1 rfl (by decide)
  generalize l.drop 5 = r at *
  subst e
  refine ⟨?_, ?_, hl⟩
  · have := rOne_word (c := 98) (121 :: 116 :: 101 :: 115 :: r) (by decide) (by decide)
    rw [show bytesL ++ r = 98 :: 121 :: 116 :: 101 :: 115 :: r from rfl] at h' hn ⊢
    rw [this, wpR, hn, if_neg (by decide), if_pos h']; rfl
  · rw [kindR, if_neg (by simp [bytesL, isHead]), if_neg (by simp [bytesL, isHead]), if_pos (.inr h')]
theorem nm_head {l : List UInt8} {c : UInt8} {r : List UInt8} (e : l = c :: r) (h1 : c.toNat ≠ 91) (h2 : c.toNat ≠ 40) (hn : isNum l = false) (hb : isByt l = false) : rOne l = nmR l ∧ kindR l = 4 := by
  subst e
  refine ⟨by rw [rOne_word r h1 h2, wpR, hn, hb]; rfl, ?_⟩
  rw [kindR, isHead_cons, isHead_cons, decide_eq_false h1, decide_eq_false h2, hn, hb]
  rfl
theorem nmR_no1 {l : List UInt8} {k : Nat} (e : letR l = l.take k) (h : valueR (l.take k) = false) : nmR l = none := by
  rw [nmR, e, if_neg (by rw [h]; decide)]
theorem nmR_no2 {l : List UInt8} {k : Nat} (hk : k ≤ l.length) (e : letR l = l.take k) (h : isHead 46 (l.drop k) = false) : nmR l = none := by
  rw [nmR, e, List.length_take, Nat.min_eq_left hk, h]
  simp
theorem nmR_no3 {l : List UInt8} {k j : Nat} (hk : k ≤ l.length) (e : letR l = l.take k) (e2 : letR (l.drop (k + 1)) = (l.drop (k + 1)).take j) (h : bigR ((l.drop (k + 1)).take j) = false) : nmR l = none := by
  rw [nmR, e, List.length_take, Nat.min_eq_left hk, e2, h]
  simp
theorem nmR_yes {l : List UInt8} {k j : Nat} (hk : k ≤ l.length) (e : letR l = l.take k) (h1 : valueR (l.take k) = true) (h2 : isHead 46 (l.drop k) = true) (hj : k + 1 + j ≤ l.length) (e2 : letR (l.drop (k + 1)) = (l.drop (k + 1)).take j) (h : bigR ((l.drop (k + 1)).take j) = true) : nmR l = some (l.drop (k + 1 + j)) := by
  rw [nmR, e, List.length_take, Nat.min_eq_left hk, e2, h, h1, h2, List.length_take, List.length_drop, Nat.min_eq_left (by omega), List.drop_drop]
  simp
end Go.Proofs.YtalbjbahgbkifaaGreat

namespace Go.Proofs.YtalbjbahgbkifaaGreat
open Go.RowKit

set_option maxHeartbeats 2000000 in
set_option maxRecDepth 1000000 in
theorem letter5 (c : UInt8) (w : World) : Calls Tryz.prog 105 #[.int .u8 c.toNat] w (Pu (.bool (isLetter c)) w) := by
  have h256 : c.toNat < 256 := c.toNat_lt
  by_cases h0 : 97 ≤ c.toNat ∧ c.toNat ≤ 122
  · have f1 : (97 : Int) ≤ (c.toNat : Int) := by omega
    have f2 : (c.toNat : Int) ≤ 122 := by omega
    rw [show isLetter c = true from by simp [isLetter, isSmall, isLarge, isDigit]; omega]
    generalize (c.toNat : Int) = x at *
    go_enter Tryz.func105, Tryz.ntmps105
    go_wp2
    go_ret
    exact ⟨rfl, rfl⟩
  by_cases h1 : 97 ≤ c.toNat
  · have f1 : (97 : Int) ≤ (c.toNat : Int) := by omega
    have f2 : ¬ (c.toNat : Int) ≤ 122 := by omega
    have f3 : (65 : Int) ≤ (c.toNat : Int) := by omega
    have f4 : ¬ (c.toNat : Int) ≤ 90 := by omega
    have f5 : ((c.toNat : Int) == 95) = false := by rw [beq_eq_false_iff_ne]; omega
    have f6 : (48 : Int) ≤ (c.toNat : Int) := by omega
    have f7 : ¬ (c.toNat : Int) ≤ 57 := by omega
    rw [show isLetter c = false from by simp [isLetter, isSmall, isLarge, isDigit]; omega]
    generalize (c.toNat : Int) = x at *
    go_enter Tryz.func105, Tryz.ntmps105
    go_wp2
    go_ret
    exact ⟨rfl, rfl⟩
  by_cases h2 : 65 ≤ c.toNat ∧ c.toNat ≤ 90
  · have f1 : ¬ (97 : Int) ≤ (c.toNat : Int) := by omega
    have f3 : (65 : Int) ≤ (c.toNat : Int) := by omega
    have f4 : (c.toNat : Int) ≤ 90 := by omega
    rw [show isLetter c = true from by simp [isLetter, isSmall, isLarge, isDigit]; omega]
    generalize (c.toNat : Int) = x at *
    go_enter Tryz.func105, Tryz.ntmps105
    go_wp2
    go_ret
    exact ⟨rfl, rfl⟩
  by_cases h3 : c.toNat = 95
  · have f1 : ¬ (97 : Int) ≤ (c.toNat : Int) := by omega
    have f3 : (65 : Int) ≤ (c.toNat : Int) := by omega
    have f4 : ¬ (c.toNat : Int) ≤ 90 := by omega
    have f5 : ((c.toNat : Int) == 95) = true := by rw [beq_iff_eq]; omega
    rw [show isLetter c = true from by simp [isLetter, isSmall, isLarge, isDigit]; omega]
    generalize (c.toNat : Int) = x at *
    go_enter Tryz.func105, Tryz.ntmps105
    go_wp2
    go_ret
    exact ⟨rfl, rfl⟩
  by_cases h4 : 65 ≤ c.toNat
  · have f1 : ¬ (97 : Int) ≤ (c.toNat : Int) := by omega
    have f3 : (65 : Int) ≤ (c.toNat : Int) := by omega
    have f4 : ¬ (c.toNat : Int) ≤ 90 := by omega
    have f5 : ((c.toNat : Int) == 95) = false := by rw [beq_eq_false_iff_ne]; omega
    have f6 : (48 : Int) ≤ (c.toNat : Int) := by omega
    have f7 : ¬ (c.toNat : Int) ≤ 57 := by omega
    rw [show isLetter c = false from by simp [isLetter, isSmall, isLarge, isDigit]; omega]
    generalize (c.toNat : Int) = x at *
    go_enter Tryz.func105, Tryz.ntmps105
    go_wp2
    go_ret
    exact ⟨rfl, rfl⟩
  by_cases h5 : 48 ≤ c.toNat ∧ c.toNat ≤ 57
  · have f1 : ¬ (97 : Int) ≤ (c.toNat : Int) := by omega
    have f3 : ¬ (65 : Int) ≤ (c.toNat : Int) := by omega
    have f5 : ((c.toNat : Int) == 95) = false := by rw [beq_eq_false_iff_ne]; omega
    have f6 : (48 : Int) ≤ (c.toNat : Int) := by omega
    have f7 : (c.toNat : Int) ≤ 57 := by omega
    rw [show isLetter c = true from by simp [isLetter, isSmall, isLarge, isDigit]; omega]
    generalize (c.toNat : Int) = x at *
    go_enter Tryz.func105, Tryz.ntmps105
    go_wp2
    go_ret
    exact ⟨rfl, rfl⟩
  by_cases h6 : 48 ≤ c.toNat
  · have f1 : ¬ (97 : Int) ≤ (c.toNat : Int) := by omega
    have f3 : ¬ (65 : Int) ≤ (c.toNat : Int) := by omega
    have f5 : ((c.toNat : Int) == 95) = false := by rw [beq_eq_false_iff_ne]; omega
    have f6 : (48 : Int) ≤ (c.toNat : Int) := by omega
    have f7 : ¬ (c.toNat : Int) ≤ 57 := by omega
    rw [show isLetter c = false from by simp [isLetter, isSmall, isLarge, isDigit]; omega]
    generalize (c.toNat : Int) = x at *
    go_enter Tryz.func105, Tryz.ntmps105
    go_wp2
    go_ret
    exact ⟨rfl, rfl⟩
  have f1 : ¬ (97 : Int) ≤ (c.toNat : Int) := by omega
  have f3 : ¬ (65 : Int) ≤ (c.toNat : Int) := by omega
  have f5 : ((c.toNat : Int) == 95) = false := by rw [beq_eq_false_iff_ne]; omega
  have f6 : ¬ (48 : Int) ≤ (c.toNat : Int) := by omega
  rw [show isLetter c = false from by simp [isLetter, isSmall, isLarge, isDigit]; omega]
  generalize (c.toNat : Int) = x at *
  go_enter Tryz.func105, Tryz.ntmps105
  go_wp2
  go_ret
  exact ⟨rfl, rfl⟩

def NE (z : Int) (w : World) (e : Ending) (w' : World) : Prop := ∃ k : Nat, e = .returned (.tuple #[.int .i64 z, .int .i64 (k : Int)]) ∧ w' = w
/-- How long, and of which kind, the type is with which a text begins. -/
def OneE (l : List UInt8) (w : World) (e : Ending) (w' : World) : Prop := ∃ k : Nat, e = .returned (.tuple #[.int .i64 (oneN l : Int), .int .i64 (k : Int)]) ∧ (rOne l ≠ none → k = kindR l) ∧ w' = w
def OneAll (n : Nat) : Prop := ∀ s : ByteArray, s.size < n → ∀ u, Calls Tryz.prog 74 #[.string s] u (OneE s.data.toList u)
theorem oneAt {s : ByteArray} (h : OneAll s.size) (p : Nat) (hp : 0 < p) (hps : p ≤ s.size) (_h0 : 0 < s.size) : ∀ u, Calls Tryz.prog 74 #[.string (s.extract p s.size)] u (NE (oneN (s.data.toList.drop p) : Int) u) := by
  intro u
  have := h (s.extract p s.size) (by rw [str_drop, str_size, List.length_drop, size_len]; omega) u
  rw [ext_data] at this
  refine this.mono ?_
  rintro e w1 ⟨k, rfl, _, rfl⟩
  exact ⟨k, rfl, rfl⟩

set_option maxHeartbeats 2000000 in
set_option maxRecDepth 1000000 in
theorem goes5 (s : ByteArray) (k : Nat) (w : World) (_hk : k ≤ 1000) : Calls Tryz.prog 103 #[.string s, .int .i64 (k : Int)] w (Pu (.bool (goesR (s.data.toList.drop k))) w) := by
  by_cases h : k < s.size
  · have hl := letter5 s[k]
    have hki : (k : Int) < (s.size : Int) := by omega
    rw [drop_at s k h]
    cases hb : isLetter s[k]
    · rw [hb] at hl
      by_cases hd : s[k].toNat = 46
      · have hd' : ((s[k].toNat : Int) == 46) = true := by rw [beq_iff_eq]; omega
        rw [show goesR (s[k] :: s.data.toList.drop (k + 1)) = true from by simp [goesR, hb, hd]]
        clear hd hb
        go_enter Tryz.func103, Tryz.ntmps103
        go_wp2_with (go_at_call 105; refine (hl _).mono ?_; rintro e w1 ⟨rfl, rfl⟩)
        go_ret
        exact ⟨rfl, rfl⟩
      · have hd' : ((s[k].toNat : Int) == 46) = false := by rw [beq_eq_false_iff_ne]; omega
        rw [show goesR (s[k] :: s.data.toList.drop (k + 1)) = false from by simp [goesR, hb, hd]]
        clear hd hb
        go_enter Tryz.func103, Tryz.ntmps103
        go_wp2_with (go_at_call 105; refine (hl _).mono ?_; rintro e w1 ⟨rfl, rfl⟩)
        go_ret
        exact ⟨rfl, rfl⟩
    · rw [hb] at hl
      rw [show goesR (s[k] :: s.data.toList.drop (k + 1)) = true from by simp [goesR, hb]]
      clear hb
      go_enter Tryz.func103, Tryz.ntmps103
      go_wp2_with (go_at_call 105; refine (hl _).mono ?_; rintro e w1 ⟨rfl, rfl⟩)
      go_ret
      exact ⟨rfl, rfl⟩
  · have hki : ¬ (k : Int) < (s.size : Int) := by omega
    rw [List.drop_eq_nil_of_le (by rw [size_len]; omega), show goesR [] = false from rfl]
    go_enter Tryz.func103, Tryz.ntmps103
    go_wp2
    go_ret
    exact ⟨rfl, rfl⟩
end Go.Proofs.YtalbjbahgbkifaaGreat

namespace Go.Proofs.YtalbjbahgbkifaaGreat
open Go.RowKit

set_option maxHeartbeats 4000000 in
set_option maxRecDepth 1000000 in
theorem refFun (s : ByteArray) (w : World) (hs : s.size ≤ 200) (h0 : 0 < s.size) (IH : OneAll s.size) : Calls Tryz.prog 104 #[.string s] w (Pu (.int .i64 (funN s.data.toList : Int)) w) := by
  go_enter Tryz.func104, Tryz.ntmps104
  go_wp2
  go_loopg [3, 4] (s.size - 1) (fun g n c wr => ∃ (p k : Nat), g + p = s.size ∧ n = .int .i64 (p : Int) ∧ c = .int .i64 (k : Int) ∧ 1 ≤ p ∧ k < p ∧ Hid (fnHd k (s.data.toList.drop p) = fnHd 0 (s.data.toList.drop 1)) ∧ wr = w)
  case atStart => exact ⟨1, 0, by omega, rfl, rfl, by omega, by omega, rfl, rfl⟩
  case round =>
    obtain ⟨p, k, hg, rfl, rfl, hp1, hkp, HQ, rfl⟩ := hrel
    by_cases hp : p < s.size
    · have hpi : (p : Int) < (s.size : Int) := by omega
      have hpl : (p : Int) ≤ (s.size : Int) := by omega
      have hd := drop_at s p hp
      by_cases hA : k = 0 ∧ s[p].toNat = 41
      · obtain ⟨rfl, c41⟩ := hA
        have c41' : ((s[p].toNat : Int) == 41) = true := by rw [beq_iff_eq]; omega
        have c41n : ((s[p].toNat : Int) != 41) = false := by rw [bne_eq_false_iff_eq]; omega
        have HT : Hid (fnHd 0 (s.data.toList.drop 1) = rOne (s.data.toList.drop (p + 1))) := by
          rw [hid_iff, ← HQ.out, hd, fnHd, if_pos ⟨rfl, by rw [isHead_cons]; exact decide_eq_true c41⟩]
          rfl
        clear HQ hd c41
        have h2 := oneAt IH (p + 1) (by omega) (by omega) h0
        have hq1 : (p : Int) + 1 ≤ (s.size : Int) := by omega
        cases hr2 : rOne (s.data.toList.drop (p + 1)) with
        | none =>
          have HF : Hid (funN s.data.toList = 0) := by rw [hid_iff]; exact funN_none (by rw [HT.out, hr2])
          rw [oneN_none hr2] at h2
          clear HT hr2 IH
          go_wp2_with fail
          refine (h2 _).mono ?_
          rintro e w1 ⟨k7, rfl, rfl⟩
          go_wp2
          go_ret
          exact ⟨by rw [HF.out]; rfl, rfl⟩
        | some y =>
          obtain ⟨m1, m2, m3⟩ := oneN_some hr2
          rw [List.length_drop, size_len] at m2
          have HF : Hid (funN s.data.toList = p + 1 + oneN (s.data.toList.drop (p + 1))) := by
            rw [hid_iff]
            refine funN_at ?_ (by rw [size_len]; omega)
            rw [HT.out, hr2, m3, List.drop_drop]
          clear HT hr2 IH m3
          generalize oneN (s.data.toList.drop (p + 1)) = m7 at *
          have m1' : ((m7 : Int) == 0) = false := by rw [beq_eq_false_iff_ne]; omega
          go_wp2_with fail
          refine (h2 _).mono ?_
          rintro e w1 ⟨k7, rfl, rfl⟩
          go_wp2
          go_ret
          exact ⟨by rw [HF.out]; go_num, rfl⟩
      · have hnh : ¬ (k = 0 ∧ isHead 41 (s.data.toList.drop p) = true) := by
          rintro ⟨h1, h2⟩
          rw [hd, isHead_cons] at h2
          exact hA ⟨h1, of_decide_eq_true h2⟩
        have hfh : Hid (fnHd k (s.data.toList.drop p) = (rOne (s.data.toList.drop p)).bind (fun x => (rTl k x).bind rOne)) := by rw [hid_iff, fnHd, if_neg hnh]
        have h1 := oneAt IH p (by omega) (by omega) h0
        have hcond : ((s[p].toNat : Int) == 41) = false ∨ (((s[p].toNat : Int) == 41) = true ∧ ((k : Int) == 0) = false) := by
          by_cases c : s[p].toNat = 41
          · exact .inr ⟨by rw [beq_iff_eq]; omega, by rw [beq_eq_false_iff_ne]; intro h; exact hA ⟨by omega, c⟩⟩
          · exact .inl (by rw [beq_eq_false_iff_ne]; omega)
        clear hA
        go_upto_region 3 with fail
        go_cut [22] from 9 to 22 (fun c wx => c = .bool false ∧ wx = wr)
        case first =>
          rcases hcond with c | ⟨c, c'⟩
          · go_wp2_with fail
            go_meet
            exact ⟨rfl, rfl⟩
          · go_wp2_with fail
            go_meet
            exact ⟨rfl, rfl⟩
        case rest =>
          obtain ⟨rfl, rfl⟩ := hcut
          clear hcond
          cases hr : rOne (s.data.toList.drop p) with
          | none =>
            have HF : Hid (funN s.data.toList = 0) := by rw [hid_iff]; exact funN_none (by rw [← HQ.out, hfh.out, hr]; rfl)
            rw [oneN_none hr] at h1
            clear HQ hfh hr IH hnh hd
            go_wp2_with fail
            refine (h1 _).mono ?_
            rintro e w1 ⟨k7, rfl, rfl⟩
            go_wp2
            go_ret
            exact ⟨by rw [HF.out]; rfl, rfl⟩
          | some x =>
            obtain ⟨m1, m2, m3⟩ := oneN_some hr
            rw [List.length_drop, size_len] at m2
            rw [List.drop_drop] at m3
            generalize oneN (s.data.toList.drop p) = m at *
            have m1' : ((m : Int) == 0) = false := by rw [beq_eq_false_iff_ne]; omega
            have HX : Hid (fnHd 0 (s.data.toList.drop 1) = (rTl k x).bind rOne) := by rw [hid_iff, ← HQ.out, hfh.out, hr]; rfl
            by_cases hqs : p + m < s.size
            · have hqi : (p : Int) + (m : Int) < (s.size : Int) := by omega
              have hdq := drop_at s (p + m) hqs
              have hqn : ¬ (s.size : Int) ≤ (p : Int) + (m : Int) := by omega
              by_cases c44 : s[p + m].toNat = 44
              · have c44' : ((s[p + m].toNat : Int) == 44) = true := by rw [beq_iff_eq]; omega
                have HN : Hid (fnHd (k + 1) (s.data.toList.drop (p + m + 1)) = fnHd 0 (s.data.toList.drop 1)) := by
                  rw [hid_iff, ← HQ.out]
                  exact (fnHd_next hnh (by rw [hr, m3, hdq]) c44).symm
                clear HQ hfh hr IH hnh hd HX hdq m3 c44
                go_wp2_with fail
                refine (h1 _).mono ?_
                rintro e w1 ⟨k7, rfl, rfl⟩
                go_wp2
                go_roundg (s.size - (p + m + 1))
                case measure => omega
                case rel => exact ⟨p + m + 1, k + 1, by omega, by go_num, by go_num, by omega, by omega, HN, rfl⟩
              · have c44' : ((s[p + m].toNat : Int) == 44) = false := by rw [beq_eq_false_iff_ne]; omega
                by_cases c41 : s[p + m].toNat = 41
                · have c41' : ((s[p + m].toNat : Int) != 41) = false := by rw [bne_eq_false_iff_eq]; omega
                  by_cases h6 : 6 < k + 1
                  · have h6' : (6 : Int) < (k : Int) + 1 := by omega
                    have HF : Hid (funN s.data.toList = 0) := by
                      rw [hid_iff]
                      refine funN_none ?_
                      rw [HX.out, m3, hdq, rTl_bad k _ c44 (fun h => by omega)]
                      rfl
                    clear HQ hfh hr IH hnh hd HX hdq m3 c44 c41
                    go_wp2_with fail
                    refine (h1 _).mono ?_
                    rintro e w1 ⟨k7, rfl, rfl⟩
                    go_wp2
                    go_ret
                    exact ⟨by rw [HF.out]; rfl, rfl⟩
                  · have h6' : ¬ (6 : Int) < (k : Int) + 1 := by omega
                    have HT : Hid (fnHd 0 (s.data.toList.drop 1) = rOne (s.data.toList.drop (p + m + 1))) := by
                      rw [hid_iff, HX.out, m3, hdq, rTl_close k _ c41 (by omega)]
                      rfl
                    clear HQ hfh hr hnh hd HX hdq m3 c44 c41
                    go_wp2_with fail
                    refine (h1 _).mono ?_
                    rintro e w1 ⟨k7', rfl, rfl⟩
                    clear h1
                    have h2 := oneAt IH (p + m + 1) (by omega) (by omega) h0
                    have hq1 : (p : Int) + (m : Int) + 1 ≤ (s.size : Int) := by omega
                    cases hr2 : rOne (s.data.toList.drop (p + m + 1)) with
                    | none =>
                      have HF : Hid (funN s.data.toList = 0) := by rw [hid_iff]; exact funN_none (by rw [HT.out, hr2])
                      rw [oneN_none hr2] at h2
                      clear HT hr2 IH
                      go_wp2_with fail
                      refine (h2 _).mono ?_
                      rintro e w1 ⟨k7, rfl, rfl⟩
                      go_wp2
                      go_ret
                      exact ⟨by rw [HF.out]; rfl, rfl⟩
                    | some y =>
                      obtain ⟨n1, n2, n3⟩ := oneN_some hr2
                      rw [List.length_drop, size_len] at n2
                      have HF : Hid (funN s.data.toList = p + m + 1 + oneN (s.data.toList.drop (p + m + 1))) := by
                        rw [hid_iff]
                        refine funN_at ?_ (by rw [size_len]; omega)
                        rw [HT.out, hr2, n3, List.drop_drop]
                      clear HT hr2 IH n3
                      generalize oneN (s.data.toList.drop (p + m + 1)) = m7 at *
                      have n1' : ((m7 : Int) == 0) = false := by rw [beq_eq_false_iff_ne]; omega
                      go_wp2_with fail
                      refine (h2 _).mono ?_
                      rintro e w1 ⟨k7, rfl, rfl⟩
                      go_wp2
                      go_ret
                      exact ⟨by rw [HF.out]; go_num, rfl⟩
                · have c41' : ((s[p + m].toNat : Int) != 41) = true := by rw [bne_iff_ne]; omega
                  have HF : Hid (funN s.data.toList = 0) := by
                    rw [hid_iff]
                    refine funN_none ?_
                    rw [HX.out, m3, hdq, rTl_bad k _ c44 (fun h => c41 h.1)]
                    rfl
                  clear HQ hfh hr IH hnh hd HX hdq m3 c44 c41
                  go_wp2_with fail
                  refine (h1 _).mono ?_
                  rintro e w1 ⟨k7, rfl, rfl⟩
                  go_wp2
                  go_ret
                  exact ⟨by rw [HF.out]; rfl, rfl⟩
            · have hqi : ¬ (p : Int) + (m : Int) < (s.size : Int) := by omega
              have hqn : (s.size : Int) ≤ (p : Int) + (m : Int) := by omega
              have HF : Hid (funN s.data.toList = 0) := by
                rw [hid_iff]
                refine funN_none ?_
                rw [HX.out, m3, List.drop_eq_nil_of_le (by rw [size_len]; omega), rTl_nil]
                rfl
              clear HQ hfh hr IH hnh hd HX m3
              go_wp2_with fail
              refine (h1 _).mono ?_
              rintro e w1 ⟨k7, rfl, rfl⟩
              go_wp2
              go_ret
              exact ⟨by rw [HF.out]; rfl, rfl⟩
    · have hpi : ¬ (p : Int) < (s.size : Int) := by omega
      have hpn : (s.size : Int) ≤ (p : Int) := by omega
      have HF : Hid (funN s.data.toList = 0) := by
        rw [hid_iff]
        refine funN_none ?_
        rw [← HQ.out, List.drop_eq_nil_of_le (by rw [size_len]; omega), fnHd, if_neg (by rintro ⟨_, h⟩; cases h), rOne_nil]
        rfl
      clear HQ IH
      go_wp2
      go_ret
      exact ⟨by rw [HF.out]; rfl, rfl⟩
end Go.Proofs.YtalbjbahgbkifaaGreat

namespace Go.Proofs.YtalbjbahgbkifaaGreat
open Go.RowKit

theorem oneE_no {l : List UInt8} {z k : Int} {w w' : World} (h : rOne l = none) (hz : z = 0) (hk : k = 0) (hw : w' = w) : OneE l w (.returned (.tuple #[.int .i64 z, .int .i64 k])) w' := by
  subst hz hk
  exact ⟨0, by rw [oneN_none h]; rfl, fun hh => absurd h hh, hw⟩
theorem oneE_yes {l : List UInt8} {z k : Int} {n j : Nat} {w w' : World} (h : rOne l = some (l.drop n)) (hn : n ≤ l.length) (hz : z = (n : Int)) (hj : kindR l = j) (hk : k = (j : Int)) (hw : w' = w) : OneE l w (.returned (.tuple #[.int .i64 z, .int .i64 k])) w' := by
  subst hz hk
  exact ⟨j, by rw [oneN_at h hn], fun _ => hj.symm, hw⟩
def shutA : List UInt8 → Option (List UInt8)
  | [] => none
  | d :: y => if d.toNat = 93 then some y else none
theorem rOne_arr' {c : UInt8} {r x : List UInt8} (h : c.toNat = 91) (hx : rOne r = some x) : rOne (c :: r) = shutA x := by
  rw [rOne_arr r h, hx, Option.bind_some]
  cases x <;> rfl
theorem rOne_arr0 {c : UInt8} {r : List UInt8} (h : c.toNat = 91) (hx : rOne r = none) : rOne (c :: r) = none := by
  rw [rOne_arr r h, hx, Option.bind_none]
theorem ext_take (s : ByteArray) (k : Nat) : (s.extract 0 k).data.toList = s.data.toList.take k := by rw [str_take, str_data]
theorem ext_mid (s : ByteArray) (a b : Nat) : (s.extract a b).data.toList = (s.data.toList.drop a).take (b - a) := by rw [extract_str, str_data]
theorem take_all_next {l : List UInt8} {k : Nat} {c : UInt8} {r : List UInt8} (h : (l.take k).all isLetter = true) (hd : l.drop k = c :: r) (hc : isLetter c = true) : (l.take (k + 1)).all isLetter = true := by
  rw [List.take_add, hd, List.all_append, h]
  simp [hc]

set_option maxHeartbeats 8000000 in
set_option maxRecDepth 1000000 in
theorem refOneStep (s : ByteArray) (w : World) (hs : s.size ≤ 200) (IH : OneAll s.size) : Calls Tryz.prog 74 #[.string s] w (OneE s.data.toList w) := by
  go_enter Tryz.func74, Tryz.ntmps74
  go_upto_region 1 with fail
  go_cut [21] from 9 to 21 (fun c wx => c = .bool (isNum s.data.toList) ∧ wx = w)
  case first =>
    by_cases hn : 3 ≤ s.size
    · have hni : (3 : Int) ≤ (s.size : Int) := by omega
      have hext : s.extract 0 3 = str (s.data.toList.take 3) := str_take s 3
      by_cases ht : s.data.toList.take 3 = numL
      · have hgo := goes5 s 3 w (by decide)
        have heq : ((s.extract 0 3).toList == [110, 117, 109]) = true := by
          rw [beq_iff_eq, Lib.toList_data, hext, str_data, ht]; rfl
        cases hg : goesR (s.data.toList.drop 3)
        · have HV : Hid (isNum s.data.toList = true) := by rw [hid_iff, isNum, hg, decide_eq_true ht]; rfl
          rw [hg] at hgo
          clear hg ht hext
          go_wp2_with (go_at_call 103; refine hgo.mono ?_; rintro e w1 ⟨rfl, rfl⟩)
          go_meet
          exact ⟨by rw [HV.out], rfl⟩
        · have HV : Hid (isNum s.data.toList = false) := by rw [hid_iff, isNum, hg, decide_eq_true ht]; rfl
          rw [hg] at hgo
          clear hg ht hext
          go_wp2_with (go_at_call 103; refine hgo.mono ?_; rintro e w1 ⟨rfl, rfl⟩)
          go_meet
          exact ⟨by rw [HV.out], rfl⟩
      · have heq : ((s.extract 0 3).toList == [110, 117, 109]) = false := by
          rw [beq_eq_false_iff_ne, Lib.toList_data, hext, str_data]
          exact fun h => ht h
        have HV : Hid (isNum s.data.toList = false) := by rw [hid_iff, isNum, decide_eq_false ht]; rfl
        clear ht hext
        go_wp2_with fail
        go_meet
        exact ⟨by rw [HV.out], rfl⟩
    · have hni : ¬ (3 : Int) ≤ (s.size : Int) := by omega
      have HV : Hid (isNum s.data.toList = false) := by
        rw [hid_iff, isNum, decide_eq_false (fun h => hn (by have := take_len h rfl (by decide); rw [size_len] at this; exact this))]; rfl
      go_wp2_with fail
      go_meet
      exact ⟨by rw [HV.out], rfl⟩
  case rest =>
    obtain ⟨rfl, rfl⟩ := hcut
    cases hN : isNum s.data.toList with
    | true =>
      obtain ⟨h1, h2, h3⟩ := num_head hN
      have H := hidden (And.intro h1 (And.intro h2 h3))
      clear h1 h2 h3 IH hN
      go_wp2
      go_ret2
      exact oneE_yes H.out.1 H.out.2.2 rfl H.out.2.1 rfl rfl
    | false =>
      go_upto_region 3 with fail
      go_cut [34] from 22 to 34 (fun c wx => c = .bool (isByt s.data.toList) ∧ wx = wc)
      case first =>
        by_cases hn : 5 ≤ s.size
        · have hni : (5 : Int) ≤ (s.size : Int) := by omega
          have hext : s.extract 0 5 = str (s.data.toList.take 5) := str_take s 5
          by_cases ht : s.data.toList.take 5 = bytesL
          · have hgo := goes5 s 5 wc (by decide)
            have heq : ((s.extract 0 5).toList == [98, 121, 116, 101, 115]) = true := by
              rw [beq_iff_eq, Lib.toList_data, hext, str_data, ht]; rfl
            cases hg : goesR (s.data.toList.drop 5)
            · have HV : Hid (isByt s.data.toList = true) := by rw [hid_iff, isByt, hg, decide_eq_true ht]; rfl
              rw [hg] at hgo
              clear hg ht hext
              go_wp2_with (go_at_call 103; refine hgo.mono ?_; rintro e w1 ⟨rfl, rfl⟩)
              go_meet
              exact ⟨by rw [HV.out], rfl⟩
            · have HV : Hid (isByt s.data.toList = false) := by rw [hid_iff, isByt, hg, decide_eq_true ht]; rfl
              rw [hg] at hgo
              clear hg ht hext
              go_wp2_with (go_at_call 103; refine hgo.mono ?_; rintro e w1 ⟨rfl, rfl⟩)
              go_meet
              exact ⟨by rw [HV.out], rfl⟩
          · have heq : ((s.extract 0 5).toList == [98, 121, 116, 101, 115]) = false := by
              rw [beq_eq_false_iff_ne, Lib.toList_data, hext, str_data]
              exact fun h => ht h
            have HV : Hid (isByt s.data.toList = false) := by rw [hid_iff, isByt, decide_eq_false ht]; rfl
            clear ht hext
            go_wp2_with fail
            go_meet
            exact ⟨by rw [HV.out], rfl⟩
        · have hni : ¬ (5 : Int) ≤ (s.size : Int) := by omega
          have HV : Hid (isByt s.data.toList = false) := by
            rw [hid_iff, isByt, decide_eq_false (fun h => hn (by have := take_len h rfl (by decide); rw [size_len] at this; exact this))]; rfl
          go_wp2_with fail
          go_meet
          exact ⟨by rw [HV.out], rfl⟩
      case rest =>
        obtain ⟨rfl, rfl⟩ := hcut
        cases hB : isByt s.data.toList with
        | true =>
          obtain ⟨h1, h2, h3⟩ := byt_head hN hB
          have H := hidden (And.intro h1 (And.intro h2 h3))
          clear h1 h2 h3 IH hN hB
          go_wp2
          go_ret2
          exact oneE_yes H.out.1 H.out.2.2 rfl H.out.2.1 rfl rfl
        | false =>
          by_cases h0 : s.size = 0
          · have HR : Hid (rOne s.data.toList = none) := by
              have hz : s.data.toList = [] := List.eq_nil_of_length_eq_zero (by rw [size_len]; exact h0)
              rw [hid_iff, hz, rOne_nil]
            have hz : s.data.toList = [] := List.eq_nil_of_length_eq_zero (by rw [size_len]; exact h0)
            have he : s = ByteArray.empty := by rw [← str_toList s, hz]; rfl
            have he2 : (s.toList == []) = true := by rw [Lib.toList_data, hz]; rfl
            have he3 : s.toList.isEmpty = true := by rw [Lib.toList_data, hz]; rfl
            clear hz
            clear hN hB IH
            go_wp2
            go_ret2
            exact oneE_no HR.out rfl rfl rfl
          · have h0' : 0 < s.size := by omega
            have h0i : (0 : Int) < (s.size : Int) := by omega
            have he : ¬ s = ByteArray.empty := fun e => h0 (by rw [e]; rfl)
            have he2 : (s.toList == []) = false := by
              rw [beq_eq_false_iff_ne, Lib.toList_data]
              exact fun e => h0 (by rw [← size_len, e]; rfl)
            have he3 : s.toList.isEmpty = false := by
              rw [Bool.eq_false_iff, Ne, List.isEmpty_iff, Lib.toList_data]
              exact fun e => h0 (by rw [← size_len, e]; rfl)
            have hd := drop_at s 0 h0'
            rw [List.drop_zero, Nat.zero_add] at hd
            by_cases c91 : s[0].toNat = 91
            · have c91' : ((s[0].toNat : Int) == 91) = true := by rw [beq_iff_eq]; omega
              have h1 := oneAt IH 1 (by omega) (by omega) h0'
              have h1i : (1 : Int) ≤ (s.size : Int) := by omega
              have HA : ∀ x, rOne (s.data.toList.drop 1) = some x → rOne s.data.toList = shutA x := fun x hx => by have := rOne_arr' c91 hx; rwa [← hd] at this
              have HA0 : rOne (s.data.toList.drop 1) = none → rOne s.data.toList = none := fun hx => by have := rOne_arr0 c91 hx; rwa [← hd] at this
              have HK : Hid (kindR s.data.toList = 2) := by rw [hid_iff, kindR, hd, isHead_cons, decide_eq_true c91]; rfl
              clear hN hB IH c91 hd
              cases hr : rOne (s.data.toList.drop 1) with
              | none =>
                have HR : Hid (rOne s.data.toList = none) := HA0 hr
                rw [oneN_none hr] at h1
                clear HA HA0 hr HK
                go_wp2_with fail
                refine (h1 _).mono ?_
                rintro e w1 ⟨k7, rfl, rfl⟩
                go_wp2
                go_ret2
                exact oneE_no HR.out rfl rfl rfl
              | some x =>
                obtain ⟨m1, m2, m3⟩ := oneN_some hr
                rw [List.length_drop, size_len] at m2
                rw [List.drop_drop] at m3
                generalize oneN (s.data.toList.drop 1) = m at *
                rw [Nat.add_comm] at m3
                have m1' : ((m : Int) == 0) = false := by rw [beq_eq_false_iff_ne]; omega
                have HX : Hid (rOne s.data.toList = shutA x) := HA x hr
                clear HA HA0 hr
                by_cases hqs : m + 1 < s.size
                · have hqi : (m : Int) + 1 < (s.size : Int) := by omega
                  have hqn : ¬ (s.size : Int) ≤ (m : Int) + 1 := by omega
                  have hdq := drop_at s (m + 1) hqs
                  by_cases c93 : s[m + 1].toNat = 93
                  · have c93' : ((s[m + 1].toNat : Int) != 93) = false := by rw [bne_eq_false_iff_eq]; omega
                    have HR : Hid (rOne s.data.toList = some (s.data.toList.drop (m + 1 + 1))) := by
                      rw [hid_iff, HX.out, m3, hdq]
                      exact if_pos c93
                    have hql : m + 1 + 1 ≤ s.data.toList.length := by rw [size_len]; omega
                    have HZ : Hid ((m : Int) + 2 = ((m + 1 + 1 : Nat) : Int)) := by rw [hid_iff]; omega
                    clear HX m3 hdq c93
                    go_wp2_with fail
                    refine (h1 _).mono ?_
                    rintro e w1 ⟨k7, rfl, rfl⟩
                    go_wp2
                    go_ret2
                    exact oneE_yes HR.out hql HZ.out HK.out rfl rfl
                  · have c93' : ((s[m + 1].toNat : Int) != 93) = true := by rw [bne_iff_ne]; omega
                    have HR : Hid (rOne s.data.toList = none) := by
                      rw [hid_iff, HX.out, m3, hdq]
                      exact if_neg c93
                    clear HX m3 hdq c93
                    go_wp2_with fail
                    refine (h1 _).mono ?_
                    rintro e w1 ⟨k7, rfl, rfl⟩
                    go_wp2
                    go_ret2
                    exact oneE_no HR.out rfl rfl rfl
                · have hqn : (s.size : Int) ≤ (m : Int) + 1 := by omega
                  have HR : Hid (rOne s.data.toList = none) := by
                    rw [hid_iff, HX.out, m3, List.drop_eq_nil_of_le (by rw [size_len]; omega)]
                    rfl
                  clear HX m3
                  go_wp2_with fail
                  refine (h1 _).mono ?_
                  rintro e w1 ⟨k7, rfl, rfl⟩
                  go_wp2
                  go_ret2
                  exact oneE_no HR.out rfl rfl rfl
            · have c91' : ((s[0].toNat : Int) == 91) = false := by rw [beq_eq_false_iff_ne]; omega
              by_cases c40 : s[0].toNat = 40
              · have c40' : ((s[0].toNat : Int) == 40) = true := by rw [beq_iff_eq]; omega
                have hf := fun u => refFun s u hs h0' IH
                have HF : Hid (oneN s.data.toList = funN s.data.toList) := by
                  have := rOne_fn (s.data.toList.drop 1) c40
                  rw [← hd] at this
                  rw [hid_iff, oneN, funN, this]
                have HK : Hid (kindR s.data.toList = 3) := by rw [hid_iff, kindR, hd, isHead_cons, isHead_cons, decide_eq_true c40, decide_eq_false c91]; rfl
                clear hN hB IH c40 c91 hd
                generalize funN s.data.toList = m at *
                go_wp2_with fail
                refine (hf _).mono ?_
                rintro e w1 ⟨rfl, rfl⟩
                go_wp2
                go_ret2
                exact ⟨3, by rw [HF.out]; rfl, fun _ => HK.out.symm, rfl⟩
              · have c40' : ((s[0].toNat : Int) == 40) = false := by rw [beq_eq_false_iff_ne]; omega
                obtain ⟨g1, g2⟩ := nm_head hd c91 c40 hN hB
                have HN := hidden g1
                have HK := hidden g2
                clear g1 g2 hN hB c91 c40 hd IH
                go_wp2
                go_loopg [7] s.size (fun g i wr => ∃ (k : Nat), g + k = s.size ∧ i = .int .i64 (k : Int) ∧ Hid ((s.data.toList.take k).all isLetter = true) ∧ wr = wc)
                case atStart => exact ⟨0, rfl, rfl, rfl, rfl⟩
                case round =>
                  obtain ⟨k, hg, rfl, hall, rfl⟩ := hrel
                  have hkl : k ≤ s.data.toList.length := by rw [size_len]; omega
                  have hks : (k : Int) ≤ (s.size : Int) := by omega
                  have hva := fun u => refValue (s.extract 0 k) u (by rw [str_take, str_size, List.length_take]; omega)
                  rw [ext_take] at hva
                  by_cases hk : k < s.size
                  · have hki : (k : Int) < (s.size : Int) := by omega
                    have hkn : ¬ (s.size : Int) ≤ (k : Int) := by omega
                    have hkd : decide (s.size ≤ k) = false := decide_eq_false (by omega)
                    have hdk := drop_at s k hk
                    have hl := letter5 s[k]
                    cases hb : isLetter s[k] with
                    | true =>
                      have HA : Hid ((s.data.toList.take (k + 1)).all isLetter = true) := take_all_next hall.out hdk hb
                      rw [hb] at hl
                      clear hall hdk hb hva
                      go_wp2_with (go_at_call 105; refine (hl _).mono ?_; rintro e w1 ⟨rfl, rfl⟩)
                      go_roundg (s.size - (k + 1))
                      case measure => omega
                      case rel => exact ⟨k + 1, by omega, by go_num, HA, rfl⟩
                    | false =>
                      have hlt := let_at hall.out (fun d y e => by rw [hdk] at e; cases e; exact hb)
                      rw [hb] at hl
                      cases hv : valueR (s.data.toList.take k) with
                      | false =>
                        have HR : Hid (rOne s.data.toList = none) := by rw [hid_iff, HN.out]; exact nmR_no1 hlt hv
                        rw [hv] at hva
                        clear hall hdk hb hlt HN HK hv
                        go_wp2_with (go_at_call 105; refine (hl _).mono ?_; rintro e w1 ⟨rfl, rfl⟩)
                        go_wp2_with fail
                        refine (hva _).mono ?_
                        rintro e w1 ⟨rfl, rfl⟩
                        go_wp2
                        go_ret2
                        exact oneE_no HR.out rfl rfl rfl
                      | true =>
                        rw [hv] at hva
                        by_cases c46 : s[k].toNat = 46
                        · have c46' : ((s[k].toNat : Int) != 46) = false := by rw [bne_eq_false_iff_eq]; omega
                          have h46 : Hid (isHead 46 (s.data.toList.drop k) = true) := by rw [hid_iff, hdk, isHead_cons]; exact decide_eq_true c46
                          have HL := hidden hlt
                          have HV := hidden hv
                          clear hall hdk hb hlt hv c46
                          go_wp2_with (go_at_call 105; refine (hl _).mono ?_; rintro e w1 ⟨rfl, rfl⟩)
                          go_wp2_with fail
                          refine (hva _).mono ?_
                          rintro e w1 ⟨rfl, rfl⟩
                          clear hva hl
                          go_wp2
                          go_loopg [8] (s.size - (k + 1)) (fun g i wr => ∃ (j : Nat), g + (k + 1 + j) = s.size ∧ i = .int .i64 ((k + 1 + j : Nat) : Int) ∧ Hid (((s.data.toList.drop (k + 1)).take j).all isLetter = true) ∧ wr = w1)
                          case atStart => exact ⟨0, by omega, by go_num, rfl, rfl⟩
                          case round =>
                            obtain ⟨j, hg2, rfl, hall, rfl⟩ := hrel
                            obtain ⟨t, ht⟩ : ∃ t, t = k + 1 + j := ⟨_, rfl⟩
                            rw [← ht] at hg2 ⊢
                            have hts : (t : Int) ≤ (s.size : Int) := by omega
                            have hkt : (k : Int) + 1 ≤ (t : Int) := by omega
                            have hbg := fun u => refBig (s.extract (k + 1) t) u (by rw [extract_str, str_size, List.length_take]; omega)
                            rw [ext_mid, show t - (k + 1) = j from by omega] at hbg
                            have hjl : k + 1 + j ≤ s.data.toList.length := by rw [size_len]; omega
                            have HT := hidden ht
                            clear ht
                            by_cases htk : t < s.size
                            · have hti : (t : Int) < (s.size : Int) := by omega
                              have hdt := drop_at s t htk
                              have hdj : (s.data.toList.drop (k + 1)).drop j = s[t] :: s.data.toList.drop (t + 1) := by rw [List.drop_drop, ← HT.out, hdt]
                              have hl := letter5 s[t]
                              cases hb2 : isLetter s[t] with
                              | true =>
                                have HA : Hid (((s.data.toList.drop (k + 1)).take (j + 1)).all isLetter = true) := take_all_next hall.out hdj hb2
                                rw [hb2] at hl
                                clear hall hdt hdj hb2 hbg
                                go_wp2_with (go_at_call 105; refine (hl _).mono ?_; rintro e w2 ⟨rfl, rfl⟩)
                                go_roundg (s.size - (t + 1))
                                case measure => omega
                                case rel => exact ⟨j + 1, by have := HT.out; omega, by have := HT.out; go_num, HA, rfl⟩
                              | false =>
                                have hlt2 := let_at hall.out (fun d y e => by rw [hdj] at e; cases e; exact hb2)
                                rw [hb2] at hl
                                clear hdt hdj hb2
                                cases hb : bigR ((s.data.toList.drop (k + 1)).take j) with
                                | false =>
                                  have HR : Hid (rOne s.data.toList = none) := by rw [hid_iff, HN.out]; exact nmR_no3 hkl HL.out hlt2 hb
                                  rw [hb] at hbg
                                  clear hall hlt2 HN HK HL HV h46 hb
                                  go_wp2_with (go_at_call 105; refine (hl _).mono ?_; rintro e w2 ⟨rfl, rfl⟩)
                                  go_wp2_with fail
                                  refine (hbg _).mono ?_
                                  rintro e w2 ⟨rfl, rfl⟩
                                  go_wp2
                                  go_ret2
                                  exact oneE_no HR.out rfl rfl rfl
                                | true =>
                                  have HR : Hid (rOne s.data.toList = some (s.data.toList.drop t)) := by
                                    rw [hid_iff, HN.out, HT.out]; exact nmR_yes hkl HL.out HV.out h46.out hjl hlt2 hb
                                  have htl : t ≤ s.data.toList.length := by rw [size_len]; omega
                                  rw [hb] at hbg
                                  clear hall hlt2 HN HL HV h46 hb
                                  go_wp2_with (go_at_call 105; refine (hl _).mono ?_; rintro e w2 ⟨rfl, rfl⟩)
                                  go_wp2_with fail
                                  refine (hbg _).mono ?_
                                  rintro e w2 ⟨rfl, rfl⟩
                                  go_wp2
                                  go_ret2
                                  exact oneE_yes HR.out htl rfl HK.out rfl rfl
                            · have hti : ¬ (t : Int) < (s.size : Int) := by omega
                              have hlt2 := let_at hall.out (fun d y e => by rw [List.drop_drop, List.drop_eq_nil_of_le (by rw [size_len, ← HT.out]; omega)] at e; cases e)
                              cases hb : bigR ((s.data.toList.drop (k + 1)).take j) with
                              | false =>
                                have HR : Hid (rOne s.data.toList = none) := by rw [hid_iff, HN.out]; exact nmR_no3 hkl HL.out hlt2 hb
                                rw [hb] at hbg
                                clear hall hlt2 HN HK HL HV h46 hb
                                skip
                                go_wp2_with fail
                                refine (hbg _).mono ?_
                                rintro e w2 ⟨rfl, rfl⟩
                                go_wp2
                                go_ret2
                                exact oneE_no HR.out rfl rfl rfl
                              | true =>
                                have HR : Hid (rOne s.data.toList = some (s.data.toList.drop t)) := by
                                  rw [hid_iff, HN.out, HT.out]; exact nmR_yes hkl HL.out HV.out h46.out hjl hlt2 hb
                                have htl : t ≤ s.data.toList.length := by rw [size_len]; omega
                                rw [hb] at hbg
                                clear hall hlt2 HN HL HV h46 hb
                                skip
                                go_wp2_with fail
                                refine (hbg _).mono ?_
                                rintro e w2 ⟨rfl, rfl⟩
                                go_wp2
                                go_ret2
                                exact oneE_yes HR.out htl rfl HK.out rfl rfl
                        · have c46' : ((s[k].toNat : Int) != 46) = true := by rw [bne_iff_ne]; omega
                          have HR : Hid (rOne s.data.toList = none) := by
                            rw [hid_iff, HN.out]
                            exact nmR_no2 hkl hlt (by rw [hdk, isHead_cons]; exact decide_eq_false c46)
                          clear hall hdk hb hlt HN HK hv c46
                          go_wp2_with (go_at_call 105; refine (hl _).mono ?_; rintro e w1 ⟨rfl, rfl⟩)
                          go_wp2_with fail
                          refine (hva _).mono ?_
                          rintro e w1 ⟨rfl, rfl⟩
                          go_wp2
                          go_ret2
                          exact oneE_no HR.out rfl rfl rfl
                  · have hki : ¬ (k : Int) < (s.size : Int) := by omega
                    have hkn : (s.size : Int) ≤ (k : Int) := by omega
                    have hlt := let_at hall.out (fun d y e => by rw [List.drop_eq_nil_of_le (by rw [size_len]; omega)] at e; cases e)
                    have HR : Hid (rOne s.data.toList = none) := by
                      rw [hid_iff, HN.out]
                      exact nmR_no2 hkl hlt (by rw [List.drop_eq_nil_of_le (by rw [size_len]; omega)]; rfl)
                    clear hall hlt HN HK
                    cases hv : valueR (s.data.toList.take k) with
                    | false =>
                      rw [hv] at hva
                      clear hv
                      go_wp2_with fail
                      refine (hva _).mono ?_
                      rintro e w1 ⟨rfl, rfl⟩
                      go_wp2
                      go_ret2
                      exact oneE_no HR.out rfl rfl rfl
                    | true =>
                      rw [hv] at hva
                      clear hv
                      go_wp2_with fail
                      refine (hva _).mono ?_
                      rintro e w1 ⟨rfl, rfl⟩
                      go_wp2
                      go_ret2
                      exact oneE_no HR.out rfl rfl rfl

theorem refOneAll : ∀ n, n ≤ 201 → OneAll n
  | 0, _ => fun s h => by omega
  | n + 1, hn => fun s h u => refOneStep s u (by omega) (fun s' h' => refOneAll n (by omega) s' (by omega))
theorem refOne (s : ByteArray) (w : World) (hs : s.size ≤ 200) : Calls Tryz.prog 74 #[.string s] w (OneE s.data.toList w) := refOneAll 201 (Nat.le_refl _) s (by omega) w
end Go.Proofs.YtalbjbahgbkifaaGreat

namespace Go.Proofs.YtalbjbahgbkifaaGreat
open Go.RowKit

set_option maxHeartbeats 1000000 in
set_option maxRecDepth 1000000 in
theorem refRight (s : ByteArray) (w : World) : Calls Tryz.prog 42 #[.string s] w (Pu (.bool (rightR s.data.toList)) w) := by
  by_cases hs : s.size ≤ 200
  · have h1 := fun u => refOne s u hs
    have hn : ¬ (200 : Int) < (s.size : Int) := by omega
    have HR := hidden (right_is s.data.toList)
    rw [decide_eq_true (by rw [size_len]; exact hs), Bool.true_and] at HR
    unfold OneE at h1
    cases hr : rOne s.data.toList with
    | none =>
      rw [oneN_none hr] at h1
      rw [hr] at HR
      clear hr
      go_enter Tryz.func42, Tryz.ntmps42
      go_wp2_with (go_at_call 74; refine (h1 _).mono ?_; rintro e w1 ⟨k, rfl, -, rfl⟩)
      go_ret
      exact ⟨by rw [HR.out]; rfl, rfl⟩
    | some x =>
      obtain ⟨m1, m2, m3⟩ := oneN_some hr
      rw [size_len] at m2
      rw [hr] at HR
      generalize oneN s.data.toList = m at *
      have m1' : (0 : Int) < (m : Int) := by omega
      have HV : Hid (decide (some x = some []) = ((m : Int) == (s.size : Int))) := by
        rw [hid_iff, m3, Bool.eq_iff_iff, decide_eq_true_iff, beq_iff_eq, Option.some.injEq, List.drop_eq_nil_iff, size_len]
        omega
      rw [HV.out] at HR
      clear hr m3 HV
      go_enter Tryz.func42, Tryz.ntmps42
      go_wp2_with (go_at_call 74; refine (h1 _).mono ?_; rintro e w1 ⟨k, rfl, -, rfl⟩)
      go_ret
      exact ⟨by rw [HR.out]; rfl, rfl⟩
  · have hn : (200 : Int) < (s.size : Int) := by omega
    have HR : Hid (rightR s.data.toList = false) := by rw [hid_iff, rightR, decide_eq_false (by rw [size_len]; exact hs)]; rfl
    clear hs
    go_enter Tryz.func42, Tryz.ntmps42
    go_wp2
    go_ret
    exact ⟨by rw [HR.out]; rfl, rfl⟩

/-- Of which kind a type is; 0: it is none. -/
def kindV (l : List UInt8) : Nat := if rightR l = true then kindR l else 0
set_option maxHeartbeats 1000000 in
set_option maxRecDepth 1000000 in
theorem refKind (s : ByteArray) (w : World) : Calls Tryz.prog 73 #[.string s] w (Pu (.int .i64 (kindV s.data.toList : Int)) w) := by
  have h1 := fun u => refRight s u
  cases hr : rightR s.data.toList with
  | false =>
    have HK : Hid (kindV s.data.toList = 0) := by rw [hid_iff, kindV, hr]; rfl
    rw [hr] at h1
    clear hr
    go_enter Tryz.func73, Tryz.ntmps73
    go_wp2_with (go_at_call 42; refine (h1 _).mono ?_; rintro e w1 ⟨rfl, rfl⟩)
    go_ret
    exact ⟨by rw [HK.out]; rfl, rfl⟩
  | true =>
    have HK : Hid (kindV s.data.toList = kindR s.data.toList) := by rw [hid_iff, kindV, hr]; rfl
    have hl := rightR_len hr
    rw [size_len] at hl
    have hne : rOne s.data.toList ≠ none := by rw [rOne_of (rightR_one hr)]; simp
    have h2 : ∀ u, Calls Tryz.prog 74 #[.string s] u fun e w' => e = .returned (.tuple #[.int .i64 (oneN s.data.toList : Int), .int .i64 (kindR s.data.toList : Int)]) ∧ w' = u := by
      intro u
      refine (refOne s u hl).mono ?_
      rintro e w' ⟨k, rfl, hk, rfl⟩
      exact ⟨by rw [hk hne], rfl⟩
    rw [hr] at h1
    clear hr hne
    generalize oneN s.data.toList = m at *
    generalize kindR s.data.toList = kk at *
    go_enter Tryz.func73, Tryz.ntmps73
    go_wp2_with (first
      | (go_at_call 42; refine (h1 _).mono ?_; rintro e w1 ⟨rfl, rfl⟩)
      | (go_at_call 74; refine (h2 _).mono ?_; rintro e w2 ⟨rfl, rfl⟩))
    go_ret
    exact ⟨by rw [HK.out]; rfl, rfl⟩
theorem kind_arr (l : List UInt8) : kindV l = 2 ↔ isArr l = true := by
  rw [kindV, isArr, Bool.and_eq_true]
  by_cases h : rightR l = true
  · rw [if_pos h, kindR]
    by_cases h2 : isHead 91 l = true
    · rw [if_pos h2]; exact ⟨fun _ => ⟨h, h2⟩, fun _ => rfl⟩
    · rw [if_neg h2]
      refine ⟨fun hh => ?_, fun hh => absurd hh.2 h2⟩
      split at hh
      · omega
      · split at hh <;> omega
  · rw [if_neg h]; exact ⟨fun hh => by omega, fun hh => absurd hh.1 h⟩
theorem kind_fn (l : List UInt8) : kindV l = 3 ↔ isFn l = true := by
  rw [kindV, isFn, Bool.and_eq_true]
  by_cases h : rightR l = true
  · rw [if_pos h, kindR]
    by_cases h2 : isHead 91 l = true
    · rw [if_pos h2]
      refine ⟨fun hh => by omega, fun hh => ?_⟩
      obtain ⟨d, y, rfl, hd⟩ := isHead_pos h2
      rw [isHead_cons] at hh
      have := of_decide_eq_true hh.2
      omega
    · rw [if_neg h2]
      by_cases h3 : isHead 40 l = true
      · rw [if_pos h3]; exact ⟨fun _ => ⟨h, h3⟩, fun _ => rfl⟩
      · rw [if_neg h3]
        refine ⟨fun hh => ?_, fun hh => absurd hh.2 h3⟩
        split at hh <;> omega
  · rw [if_neg h]; exact ⟨fun hh => by omega, fun hh => absurd hh.1 h⟩
theorem kind_nm (l : List UInt8) : kindV l = 4 ↔ namedR l = true := by
  rw [← kind_named, kindV]
  by_cases h : rightR l = true
  · rw [if_pos h]; exact ⟨fun hh => ⟨h, hh⟩, fun hh => hh.2⟩
  · rw [if_neg h]; exact ⟨fun hh => by omega, fun hh => absurd hh.1 h⟩

/-- The document's Elem. -/
def RElemE (l : List UInt8) (w : World) (e : Ending) (w' : World) : Prop :=
  e = .returned (if isArr l = true then .tuple #[.string (str (elemR l)), .bool true] else .tuple #[.string (str []), .bool false]) ∧ w' = w
/-- The document's Named. -/
def RNamedE (l : List UInt8) (w : World) (e : Ending) (w' : World) : Prop :=
  e = .returned (if namedR l = true then .tuple #[.string (str (aheadR l)), .string (str (behindR l)), .bool true] else .tuple #[.string (str []), .string (str []), .bool false]) ∧ ∃ n, w' = w.drewN n
theorem ahead_at {l : List UInt8} {k : Nat} {r : List UInt8} (h : (l.take k).all notDot = true) (hd : l.drop k = 46 :: r) : aheadR l = l.take k := by
  conv => lhs; rw [← List.take_append_drop k l]
  rw [aheadR, List.takeWhile_append_of_pos (List.all_eq_true.1 h), hd]
  simp [notDot]
theorem dots_next {l : List UInt8} {k : Nat} {c : UInt8} {r : List UInt8} (h : (l.take k).all notDot = true) (hd : l.drop k = c :: r) (hc : c.toNat ≠ 46) : (l.take (k + 1)).all notDot = true := by
  rw [List.take_add, hd, List.all_append, h]
  simp [notDot, hc]
/-- Parameters so far. -/
theorem join_next : ∀ (ps : List (List UInt8)) (x : List UInt8), joinR (ps ++ [x]) = (if 0 < ps.length then joinR ps ++ [44] else []) ++ x
  | [], x => by simp [joinR_one]
  | [p], x => by simp [joinR_one, joinR_two]
  | p :: q :: r, x => by
    have := join_next (q :: r) x
    rw [List.cons_append, List.cons_append, joinR_two, ← List.cons_append, this]
    simp [joinR_two]
/-- A text, if it is not too long. -/
def ShortE (x : List UInt8) (z : Int) (w : World) (e : Ending) (w' : World) : Prop :=
  e = .returned (if x.length ≤ 200 then .tuple #[.string (str x), .int .i64 0, .int .i64 0] else .tuple #[.string (str []), .int .i64 3, .int .i64 z]) ∧ w' = w
end Go.Proofs.YtalbjbahgbkifaaGreat

namespace Go.Proofs.YtalbjbahgbkifaaGreat
open Go.RowKit

theorem one_first {c : UInt8} {r x : List UInt8} (h : one (c :: r) = some x) : c.toNat ≠ 41 ∧ c.toNat ≠ 44 := by
  have key : isSign c = true → c.toNat ≠ 91 → c.toNat ≠ 40 → False := by
    intro hs h1 h2
    have hw : wordR (c :: r) = [] := by simp [wordR, notSign, hs]
    rw [one_word r h1 h2, hw, wordOk_nil] at h
    simp at h
  exact ⟨fun e => key (sign_of (by omega)) (by omega) (by omega), fun e => key (sign_of (by omega)) (by omega) (by omega)⟩
/-- Where the reading of parameters stands. -/
def PtA (L : List UInt8) (acc : List (List UInt8)) (p : Nat) : Prop := ∃ j, Goes j (L.drop p) ∧ partsR L = (acc ++ (psQ (L.drop p)).1, (psQ (L.drop p)).2)
def PtB (L : List UInt8) (acc : List (List UInt8)) (p : Nat) : Prop := ∃ c r, L.drop p = c :: r ∧ ((c.toNat = 44 ∧ PtA L acc (p + 1)) ∨ (c.toNat = 41 ∧ partsR L = (acc, r)))
theorem pt_start {l : List UInt8} (h : isFn l = true) : PtA l [] 1 ∨ PtB l [] 1 := by
  rw [isFn, Bool.and_eq_true] at h
  have h1 := rightR_one h.1
  obtain ⟨c, y, rfl, hc⟩ := isHead_pos h.2
  by_cases h41 : isHead 41 y = true
  · obtain ⟨d, r, rfl, hd⟩ := isHead_pos h41
    exact .inr ⟨d, r, rfl, .inr ⟨hd, by rw [partsR, List.tail_cons, if_pos h41]; rfl⟩⟩
  · exact .inl ⟨0, goes_first hc h1 (by simpa using h41), by rw [partsR, List.tail_cons, if_neg h41]; rfl⟩
/-- One parameter more is read. -/
theorem pt_param {L : List UInt8} {acc : List (List UInt8)} {p : Nat} (h : PtA L acc p) : ∃ c r m, one (L.drop p) = some (c :: r) ∧ rOne (L.drop p) = some (c :: r) ∧ m = oneN (L.drop p) ∧ 0 < m ∧ p + m < L.length ∧ L.drop (p + m) = c :: r ∧ PtB L (acc ++ [(L.drop p).take m]) (p + m) := by
  obtain ⟨j, hg, hp⟩ := h
  obtain ⟨c, r, h1, h2⟩ := goes_next hg
  have h3 := rOne_of h1
  obtain ⟨m1, m2, m3⟩ := oneN_some h3
  have hlen := congrArg List.length m3
  rw [List.length_drop, List.length_cons] at hlen
  rw [List.drop_drop] at m3
  have hl2 := m2
  rw [List.length_drop] at hl2 hlen
  refine ⟨c, r, _, h1, h3, rfl, m1, by omega, m3.symm, c, r, m3.symm, ?_⟩
  have hq := psQ_some h1
  have htk : (L.drop p).take ((L.drop p).length - (r.length + 1)) = (L.drop p).take (oneN (L.drop p)) := by
    congr 1
    rw [List.length_drop]
    omega
  have hr : L.drop (p + oneN (L.drop p) + 1) = r := by rw [← List.drop_drop, ← m3]; rfl
  rw [htk] at hq
  rcases h2 with ⟨hc, _⟩ | ⟨hc, _, hg2⟩
  · rw [if_neg (by omega)] at hq
    exact .inr ⟨hc, by rw [hp, hq]⟩
  · rw [if_pos hc] at hq
    refine .inl ⟨hc, j + 1, by rw [hr]; exact hg2, ?_⟩
    rw [hp, hq, hr]
    simp

set_option maxHeartbeats 2000000 in
set_option maxRecDepth 1000000 in
theorem refPartsOf (s : ByteArray) (w : World) : Calls Tryz.prog 41 #[.string s] w (PartsE s.data.toList w) := by
  have h1 := fun u => refKind s u
  cases hi : isFn s.data.toList with
  | false =>
    have HI := hidden hi
    have hk : ((kindV s.data.toList : Int) != 3) = true := by
      rw [bne_iff_ne]; intro h; rw [(kind_fn _).1 (by omega)] at hi; cases hi
    clear hi
    generalize kindV s.data.toList = k at *
    go_enter Tryz.func41, Tryz.ntmps41
    go_wp2_with (go_at_call 73; refine (h1 _).mono ?_; rintro e w1 ⟨rfl, rfl⟩)
    go_ret3
    exact ⟨.inr ⟨HI.out, rfl⟩, Below.refl _ _⟩
  | true =>
    have HI := hidden hi
    have hk : ((kindV s.data.toList : Int) != 3) = false := by
      rw [bne_eq_false_iff_eq, (kind_fn _).2 hi]; rfl
    have hst := hidden (pt_start hi)
    have hi' := hi
    rw [isFn, Bool.and_eq_true] at hi'
    have hl := rightR_len hi'.1
    rw [size_len] at hl
    have hall := refOneAll 201 (Nat.le_refl _)
    clear hi hi'
    generalize kindV s.data.toList = kk at *
    go_enter Tryz.func41, Tryz.ntmps41
    go_wp2_with (go_at_call 73; refine (h1 _).mono ?_; rintro e w1 ⟨rfl, rfl⟩)
    clear h1
    go_loopg [5, 6] (s.size + 1) (fun g v n wr => ∃ (p : Nat) (acc : List (List UInt8)), g + p = s.size + 2 ∧ n = .int .i64 (p : Int) ∧ acc.length < p ∧ p ≤ 202 ∧ Hid (PtA s.data.toList acc p ∨ PtB s.data.toList acc p) ∧ wr.ownsRow w1.heap.size 9 1 v acc.length (sc acc) ∧ Below w1.heap.size w1 wr)
    case atStart => exact ⟨1, [], by omega, rfl, by simp, by omega, hst, World.ownsRow_nil _ _ _ _, Below.refl _ _⟩
    case round =>
      obtain ⟨p, acc, hg, rfl, hap, hp2, HP, hown, hbl⟩ := hrel
      have hB := hbl.size
      rcases HP.out with hA | hB'
      · obtain ⟨c, r, m, h2, h3, hm, m1, m2, m3, m4⟩ := pt_param hA
        rw [size_len] at m2
        have hps : p < s.size := by omega
        have hpi : (p : Int) < (s.size : Int) := by omega
        have hpl : (p : Int) ≤ (s.size : Int) := by omega
        have hdp := drop_at s p hps
        have hne := one_first (c := s[p]) (r := s.data.toList.drop (p + 1)) (by rw [← hdp]; exact h2)
        have c41 : ((s[p].toNat : Int) != 41) = true := by rw [bne_iff_ne]; have := hne.1; omega
        have c44 : ((s[p].toNat : Int) == 44) = false := by rw [beq_eq_false_iff_ne]; have := hne.2; omega
        have ho := oneAt (s := s) (fun s' h' => hall s' (by omega)) p (by omega) (by omega) (by omega)
        rw [← hm] at ho
        have hx : s.extract p (p + m) = str ((s.data.toList.drop p).take m) := by rw [extract_str]; congr 2; omega
        have HN : Hid (PtA s.data.toList (acc ++ [(s.data.toList.drop p).take m]) (p + m) ∨ PtB s.data.toList (acc ++ [(s.data.toList.drop p).take m]) (p + m)) := .inr m4
        have k1 : (p : Int) ≤ (p : Int) + (m : Int) := by omega
        have k2 : (p : Int) + (m : Int) ≤ (s.size : Int) := by omega
        generalize (s.data.toList.drop p).take m = x at *
        have HX := hidden hx
        clear hm h2 h3 m3 m4 hdp hne hA HP hx hst
        go_wp2_with fail
        refine (ho _).mono ?_
        rintro e w2 ⟨k7, rfl, rfl⟩
        go_wp2_with (at_builtin; refine append_text rfl (.tmp 29) (.tmp 36) rfl w1.heap.size _ acc rfl (hown.alloc _) _ _ x rfl ?src ?len ?hB ?next)
        case src =>
          rw [show (sc [x]) = [.string (s.extract p (p + m))] from by rw [HX.out]; rfl]
          first | exact cells_new _ _ _ | exact fun j u h => h
        case len => first | omega | (simp; omega)
        case hB => first | omega | (simp; omega)
        case next =>
          intro ad c' w' q1 q2
          have b1 := below_grown (hown.alloc _) (by simp; omega) (hbl.alloc (by omega) _) q2
          clear q2 hown hbl
          go_wp2
          go_roundg (s.size + 2 - (p + m))
          case measure => omega
          case rel => exact ⟨p + m, acc ++ [x], by omega, by go_num, by simp; omega, by omega, HN, by simpa using q1, b1⟩
      · obtain ⟨c, r, hd, hcase⟩ := hB'
        have hps : p < s.size := by
          rcases Nat.lt_or_ge p s.size with h | h
          · exact h
          · rw [List.drop_eq_nil_of_le (by rw [size_len]; exact h)] at hd; cases hd
        have hpi : (p : Int) < (s.size : Int) := by omega
        have hdp := drop_at s p hps
        rw [hd] at hdp
        simp only [List.cons.injEq] at hdp
        rcases hcase with ⟨hc, hA⟩ | ⟨hc, hE⟩
        · have c41 : ((s[p].toNat : Int) != 41) = true := by rw [bne_iff_ne, ← hdp.1]; omega
          have c44 : ((s[p].toNat : Int) == 44) = true := by rw [beq_iff_eq, ← hdp.1]; omega
          have HN : Hid (PtA s.data.toList acc (p + 1) ∨ PtB s.data.toList acc (p + 1)) := .inl hA
          clear hd hdp hc hA HP hst
          go_wp2
          go_roundg (s.size + 2 - (p + 1))
          case measure => omega
          case rel => exact ⟨p + 1, acc, by omega, by go_num, by omega, by omega, HN, hown, hbl⟩
        · have c41 : ((s[p].toNat : Int) != 41) = false := by rw [bne_eq_false_iff_eq, ← hdp.1]; omega
          have HX : Hid (s.extract (p + 1) s.size = str (partsR s.data.toList).2) := by rw [hid_iff, hE, str_drop, hdp.2]
          have HY : Hid ((partsR s.data.toList).1 = acc) := by rw [hid_iff, hE]
          have q1 : (p : Int) + 1 ≤ (s.size : Int) := by omega
          have q3 : IntKind.i64.wrap ((p : Int) + 1) = (p : Int) + 1 := by rw [IntKind.wrap_i64]; omega
          have hsr := strRow_own hown
          clear hd hdp hc hE HP hst
          go_wp2
          go_region
          go_wp2
          go_ret3
          exact ⟨.inl ⟨HI.out, _, by rw [← HX.out]; rfl, by rw [HY.out]; exact hsr⟩, hbl.drew⟩
end Go.Proofs.YtalbjbahgbkifaaGreat
