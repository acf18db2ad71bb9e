/-
  What the document's own reader of types takes: the type with which a text begins, whatever comes behind it; how that hangs together with the chapter's. No program in it.
  And: What the chapter on modules says, as functions over trees: expressions, items, modules; the first refusal from the left. No program in it. Texts, and pairs of texts, in a row in memory. Expressions and modules in memory. An expression's own part, and what is left of it to be read: which form a tree has, as the package tells it. No program in it. The reader's stack of what is left to be read, and why it comes to what the chapter says: a machine over worlds, each step of which is one call. 'make' at this program: new rows of texts, parameters, cases, expressions, arms, as cells.
-/
import Derived.Test.YtcokihblicgbpaaTypAZ
import Derived.Test.YtcokihblicgbpaaTreAZ
import Derived.Laws.Rows
import Derived.Laws.MakeOwn
namespace Go.Proofs.Ytcokihblicgbpaa

def goesR (l : List UInt8) : Bool := l.head?.any (fun c => isLetter c || decide (c.toNat = 46))
def letR (l : List UInt8) : List UInt8 := l.takeWhile isLetter
/-- Behind a named type at the beginning. -/
def nmR (l : List UInt8) : Option (List UInt8) :=
  if valueR (letR l) = true then
    if isHead 46 (l.drop (letR l).length) = true then
      if bigR (letR (l.drop ((letR l).length + 1))) = true then some ((l.drop ((letR l).length + 1)).drop (letR (l.drop ((letR l).length + 1))).length) else none
    else none
  else none
def isNum (l : List UInt8) : Bool := decide (l.take 3 = numL) && !goesR (l.drop 3)
def isByt (l : List UInt8) : Bool := decide (l.take 5 = bytesL) && !goesR (l.drop 5)
def wpR (l : List UInt8) : Option (List UInt8) := if isNum l = true then some (l.drop 3) else if isByt l = true then some (l.drop 5) else nmR l
/-- As gF, whatever comes behind a word; parameters are counted at their end alone. -/
def rF : Nat → Nat → List UInt8 → Option (List UInt8)
  | 0, _, _ => none
  | _ + 1, 0, [] => none
  | f + 1, 0, c :: r =>
    if c.toNat = 91 then (rF f 0 r).bind (fun x => match x with | [] => none | d :: y => if d.toNat = 93 then some y else none)
    else if c.toNat = 40 then
      if isHead 41 r then rF f 0 r.tail else (rF f 0 r).bind (fun x => (rF f 1 x).bind (rF f 0))
    else wpR (c :: r)
  | _ + 1, _ + 1, [] => none
  | f + 1, k + 1, c :: r => if c.toNat = 44 then (rF f 0 r).bind (rF f (k + 2)) else if c.toNat = 41 ∧ k + 1 ≤ 6 then some r else none

theorem valueR_nil : valueR [] = false := by decide
theorem bigR_nil : bigR [] = false := by decide
theorem nmR_len {l r : List UInt8} (h : nmR l = some r) : r.length < l.length := by
  unfold nmR at h
  split at h
  · rename_i h1
    split at h
    · rename_i h2
      split at h
      · cases h
        obtain ⟨d, y, e, _⟩ := isHead_pos h2
        have := congrArg List.length e
        simp at this ⊢
        omega
      · cases h
    · cases h
  · cases h
theorem take_len {l y : List UInt8} {n : Nat} (h : l.take n = y) (hn : y.length = n) (_hp : 0 < n) : n ≤ l.length := by
  have := congrArg List.length h
  rw [List.length_take, hn] at this
  omega
theorem wpR_len {l r : List UInt8} (h : wpR l = some r) : r.length < l.length := by
  unfold wpR at h
  split at h
  · rename_i h1
    rw [isNum, Bool.and_eq_true, decide_eq_true_iff] at h1
    have := take_len h1.1 rfl (by decide)
    cases h
    simp; omega
  · split at h
    · rename_i h1
      rw [isByt, Bool.and_eq_true, decide_eq_true_iff] at h1
      have := take_len h1.1 rfl (by decide)
      cases h
      simp; omega
    · exact nmR_len h
theorem rF_len : ∀ (f k : Nat) (l r : List UInt8), rF f k l = some r → r.length < l.length
  | 0, _, _, _, h => by simp [rF] at h
  | f + 1, 0, [], _, h => by simp [rF] at h
  | f + 1, 0, c :: l, r, h => by
    rw [rF] at h
    split at h
    · obtain ⟨x, h1, h2⟩ := Option.bind_eq_some_iff.1 h
      have := rF_len f 0 l x h1
      split at h2
      · cases h2
      · rename_i d y
        split at h2
        · cases h2; simp at this ⊢; omega
        · cases h2
    · split at h
      · split at h
        · rename_i hh
          obtain ⟨d, y, rfl, _⟩ := isHead_pos hh
          have := rF_len f 0 y r h
          simp at this ⊢; omega
        · obtain ⟨x, h1, h2⟩ := Option.bind_eq_some_iff.1 h
          obtain ⟨z, h3, h4⟩ := Option.bind_eq_some_iff.1 h2
          have a1 := rF_len f 0 _ x h1
          have a2 := rF_len f 1 x z h3
          have a3 := rF_len f 0 z r h4
          simp; omega
      · exact wpR_len h
  | f + 1, k + 1, [], _, h => by simp [rF] at h
  | f + 1, k + 1, c :: l, r, h => by
    rw [rF] at h
    split at h
    · obtain ⟨x, h1, h2⟩ := Option.bind_eq_some_iff.1 h
      have a1 := rF_len f 0 l x h1
      have a2 := rF_len f (k + 2) x r h2
      simp; omega
    · split at h
      · cases h; simp
      · cases h
theorem rF_fuel : ∀ (f g k : Nat) (l : List UInt8), l.length < f → l.length < g → rF f k l = rF g k l
  | 0, _, _, _, h, _ => by omega
  | _ + 1, 0, _, _, _, h => by omega
  | f + 1, g + 1, 0, [], _, _ => by simp [rF]
  | f + 1, g + 1, k + 1, [], _, _ => by simp [rF]
  | f + 1, g + 1, 0, c :: l, hf, hg => by
    simp only [List.length_cons] at hf hg
    have e : rF f 0 l = rF g 0 l := rF_fuel f g 0 l (by omega) (by omega)
    rw [rF, rF, e]
    split
    · rfl
    · split
      · split
        · exact rF_fuel f g 0 _ (by simp; omega) (by simp; omega)
        · refine bind_same (fun x hx => ?_)
          have a1 := rF_len g 0 _ x hx
          rw [rF_fuel f g 1 x (by omega) (by omega)]
          refine bind_same (fun z hz => ?_)
          have a2 := rF_len g 1 x z hz
          exact rF_fuel f g 0 z (by omega) (by omega)
      · rfl
  | f + 1, g + 1, k + 1, c :: l, hf, hg => by
    simp only [List.length_cons] at hf hg
    rw [rF, rF]
    split
    · rw [rF_fuel f g 0 l (by omega) (by omega)]
      refine bind_same (fun x hx => ?_)
      have a1 := rF_len g 0 _ x hx
      exact rF_fuel f g (k + 2) x (by omega) (by omega)
    · rfl
def rOne (l : List UInt8) : Option (List UInt8) := rF (l.length + 1) 0 l
def rTl (k : Nat) (l : List UInt8) : Option (List UInt8) := rF (l.length + 1) (k + 1) l
theorem rOne_len {l r : List UInt8} (h : rOne l = some r) : r.length < l.length := rF_len _ _ _ _ h
theorem rTl_len {k : Nat} {l r : List UInt8} (h : rTl k l = some r) : r.length < l.length := rF_len _ _ _ _ h
theorem rOne_nil : rOne [] = none := by simp [rOne, rF]
theorem rOne_arr {c : UInt8} (r : List UInt8) (h : c.toNat = 91) : rOne (c :: r) = (rOne r).bind (fun x => match x with | [] => none | d :: y => if d.toNat = 93 then some y else none) := by
  simp only [rOne, List.length_cons]
  rw [rF, if_pos h]
/-- A function's type behind its bracket: k parameters are read, a comma behind them. -/
def fnHd (k : Nat) (l : List UInt8) : Option (List UInt8) := if k = 0 ∧ isHead 41 l = true then rOne l.tail else (rOne l).bind (fun x => (rTl k x).bind rOne)
theorem rOne_fn {c : UInt8} (r : List UInt8) (h : c.toNat = 40) : rOne (c :: r) = fnHd 0 r := by
  simp only [rOne, fnHd, List.length_cons, true_and]
  rw [rF, if_neg (by omega), if_pos h]
  split
  · exact rF_fuel _ _ _ _ (by simp; omega) (by simp)
  · refine bind_same (fun x hx => ?_)
    have a1 := rF_len _ 0 _ x hx
    rw [rTl, rF_fuel (r.length + 1) (x.length + 1) 1 x (by omega) (by omega)]
    refine bind_same (fun z hz => ?_)
    have a2 := rF_len _ 1 x z hz
    exact rF_fuel _ _ 0 z (by omega) (by omega)
theorem rOne_word {c : UInt8} (r : List UInt8) (h : c.toNat ≠ 91) (h2 : c.toNat ≠ 40) : rOne (c :: r) = wpR (c :: r) := by
  simp only [rOne, List.length_cons]
  rw [rF, if_neg h, if_neg h2]
theorem rTl_nil (k : Nat) : rTl k [] = none := by simp [rTl, rF]
theorem rTl_comma {c : UInt8} (k : Nat) (r : List UInt8) (h : c.toNat = 44) : rTl k (c :: r) = (rOne r).bind (rTl (k + 1)) := by
  simp only [rTl, rOne, List.length_cons]
  rw [rF, if_pos h]
  refine bind_same (fun x hx => ?_)
  have a1 := rF_len _ 0 _ x hx
  exact rF_fuel _ _ _ x (by omega) (by omega)
theorem rTl_close {c : UInt8} (k : Nat) (r : List UInt8) (h : c.toNat = 41) (hk : k + 1 ≤ 6) : rTl k (c :: r) = some r := by
  simp only [rTl, List.length_cons]
  rw [rF, if_neg (by omega), if_pos ⟨h, hk⟩]
theorem rTl_bad {c : UInt8} (k : Nat) (r : List UInt8) (h : c.toNat ≠ 44) (h2 : ¬ (c.toNat = 41 ∧ k + 1 ≤ 6)) : rTl k (c :: r) = none := by
  simp only [rTl, List.length_cons]
  rw [rF, if_neg h, if_neg h2]
theorem fnHd_next {k : Nat} {l y : List UInt8} {c : UInt8} (h0 : ¬ (k = 0 ∧ isHead 41 l = true)) (h : rOne l = some (c :: y)) (hc : c.toNat = 44) : fnHd k l = fnHd (k + 1) y := by
  rw [fnHd, if_neg h0, h, Option.bind_some, rTl_comma k y hc, fnHd, if_neg (by omega), Option.bind_assoc]

/-! Words. -/
theorem letter_sign {c : UInt8} (h : isLetter c = true) : notSign c = true := by
  simp only [isLetter, isSmall, isLarge, isDigit, notSign, isSign, Bool.or_eq_true, Bool.and_eq_true, decide_eq_true_eq, Bool.not_eq_true', Bool.or_eq_false_iff, decide_eq_false_iff_not] at h ⊢
  omega
theorem letter_dot {c : UInt8} (h : isLetter c = true) : notDot c = true := by
  simp only [isLetter, isSmall, isLarge, isDigit, notDot, Bool.or_eq_true, Bool.and_eq_true, decide_eq_true_eq, Bool.not_eq_true', decide_eq_false_iff_not] at h ⊢
  omega
theorem sign_letter {c : UInt8} (h : isSign c = true) : isLetter c = false := by
  rw [Bool.eq_false_iff]
  intro h2
  have := letter_sign h2
  rw [notSign, h] at this
  cases this
theorem sign_dot {c : UInt8} (h : isSign c = true) : c.toNat ≠ 46 := by
  simp only [isSign, Bool.or_eq_true, decide_eq_true_eq] at h
  omega
theorem value_all {l : List UInt8} (h : valueR l = true) : ∀ c ∈ l, isLetter c = true := by
  simp only [valueR, nameR, Bool.and_eq_true] at h
  exact List.all_eq_true.1 h.1.2
theorem big_all {l : List UInt8} (h : bigR l = true) : ∀ c ∈ l, isLetter c = true := by
  simp only [bigR, nameR, Bool.and_eq_true] at h
  exact List.all_eq_true.1 h.1.2
theorem value_len {l : List UInt8} (h : valueR l = true) : l.length ≤ 24 := by
  simp only [valueR, nameR, Bool.and_eq_true, decide_eq_true_eq] at h
  exact h.1.1.1.2
theorem big_len {l : List UInt8} (h : bigR l = true) : l.length ≤ 24 := by
  simp only [bigR, nameR, Bool.and_eq_true, decide_eq_true_eq] at h
  exact h.1.1.1.2
theorem goes_ok {t : List UInt8} (h : okB t) : goesR t = false := by
  rcases h with rfl | ⟨c, r, rfl, hc⟩
  · rfl
  · simp [goesR, sign_letter hc, sign_dot hc]
theorem word_rest (l : List UInt8) : okB (l.drop (wordR l).length) := by
  induction l with
  | nil => exact .inl rfl
  | cons c l ih =>
    by_cases h : notSign c = true
    · have e : wordR (c :: l) = c :: wordR l := by simp [wordR, h]
      rw [e]
      simpa using ih
    · have e : wordR (c :: l) = [] := by simp [wordR, h]
      rw [e]
      refine .inr ⟨c, l, rfl, ?_⟩
      simp only [notSign, Bool.not_eq_true, Bool.not_eq_false'] at h
      exact h
theorem word_split (l : List UInt8) : l = wordR l ++ l.drop (wordR l).length := by
  have h1 : wordR l <+: l := List.takeWhile_prefix _
  obtain ⟨t, e⟩ := h1
  have h2 := List.drop_left (l₁ := wordR l) (l₂ := t)
  rw [e] at h2
  rw [h2]
  exact e.symm
/-- A named type in its parts. -/
theorem named_split {x : List UInt8} (h : namedR x = true) : ∃ a b, x = a ++ 46 :: b ∧ valueR a = true ∧ bigR b = true ∧ aheadR x = a ∧ behindR x = b := by
  simp only [namedR, Bool.and_eq_true] at h
  refine ⟨aheadR x, behindR x, ?_, h.1, h.2, rfl, rfl⟩
  have hb : behindR x ≠ [] := by intro e; rw [e, bigR_nil] at h; cases h.2
  have hlen : (aheadR x).length + 1 < x.length := by
    rcases Nat.lt_or_ge ((aheadR x).length + 1) x.length with h2 | h2
    · exact h2
    · exact absurd (List.drop_eq_nil_of_le h2) hb
  have h1 : aheadR x <+: x := List.takeWhile_prefix _
  obtain ⟨t, e⟩ := h1
  have ht : x.drop (aheadR x).length = t := by
    have h2 := List.drop_left (l₁ := aheadR x) (l₂ := t)
    rwa [e] at h2
  have hd : behindR x = t.tail := by
    rw [behindR, ← List.drop_drop, ht, List.drop_one]
  cases t with
  | nil => rw [List.append_nil] at e; have := congrArg List.length e; omega
  | cons d t =>
    have : notDot d = false := by
      have := List.head?_dropWhile_not notDot x
      have e2 : x.dropWhile notDot = d :: t := by
        have h3 := List.takeWhile_append_dropWhile (p := notDot) (l := x)
        have h4 : aheadR x ++ x.dropWhile notDot = aheadR x ++ d :: t := by rw [e]; exact h3
        exact List.append_cancel_left h4
      rw [e2] at this
      simpa using this
    simp only [notDot, Bool.not_eq_false', decide_eq_true_eq] at this
    rw [hd, List.tail_cons]
    have hd46 : d = 46 := UInt8.toNat_inj.1 this
    rw [← hd46]
    exact e.symm
theorem named_of {a b : List UInt8} (ha : valueR a = true) (hb : bigR b = true) : namedR (a ++ 46 :: b) = true := by
  have e : aheadR (a ++ 46 :: b) = a := by
    rw [aheadR, List.takeWhile_append_of_pos (fun c hc => letter_dot (value_all ha c hc))]
    simp [notDot]
  rw [namedR, behindR, e, ha]
  simpa using hb
theorem let_stop {a t : List UInt8} (h : ∀ c ∈ a, isLetter c = true) (ht : ∀ d y, t = d :: y → isLetter d = false) : letR (a ++ t) = a := by
  rw [letR, List.takeWhile_append_of_pos h]
  cases t with
  | nil => simp
  | cons d y => simp [ht d y rfl]
theorem nmR_of {a b t : List UInt8} (ha : valueR a = true) (hb : bigR b = true) (ht : ∀ d y, t = d :: y → isLetter d = false) : nmR (a ++ 46 :: (b ++ t)) = some t := by
  have e1 : letR (a ++ 46 :: (b ++ t)) = a := let_stop (value_all ha) (fun d y e => by cases e; rfl)
  have e2 : (a ++ 46 :: (b ++ t)).drop (a.length + 1) = b ++ t := by simp
  have e3 : letR (b ++ t) = b := let_stop (big_all hb) ht
  rw [nmR, e1, if_pos ha, e2, e3, if_pos hb, if_pos (by simp; rfl)]
  simp
theorem nmR_split {l r : List UInt8} (h : nmR l = some r) : ∃ a b, l = a ++ 46 :: (b ++ r) ∧ valueR a = true ∧ bigR b = true := by
  unfold nmR at h
  split at h
  · rename_i h1
    split at h
    · rename_i h2
      split at h
      · rename_i h3
        refine ⟨letR l, letR (l.drop ((letR l).length + 1)), ?_, h1, h3⟩
        obtain ⟨d, y, e, hd⟩ := isHead_pos h2
        have hd46 : d = 46 := UInt8.toNat_inj.1 hd
        have ey : l.drop ((letR l).length + 1) = y := by rw [← List.drop_drop, e]; rfl
        rw [ey] at h ⊢
        simp only [Option.some.injEq] at h
        have e1 : letR y ++ r = y := by
          rw [← h, letR]
          conv => rhs; rw [← List.take_append_drop (y.takeWhile isLetter).length y]
          rw [take_tw]
        rw [e1, ← hd46, ← e]
        have := List.take_append_drop (letR l).length l
        rw [letR, take_tw] at this
        exact this.symm
      · cases h
    · cases h
  · cases h
/-- Letters, a point: no run of letters alone ends within. -/
theorem goes_in : ∀ (a y z : List UInt8), (∀ c ∈ a, isLetter c = true) → (∀ c ∈ y, isLetter c = true) → (a ++ 46 :: z).take y.length = y → goesR ((a ++ 46 :: z).drop y.length) = true
  | [], [], z, _, _, _ => rfl
  | [], d :: y, z, _, hy, h => by
    simp only [List.nil_append, List.length_cons, List.take_succ_cons, List.cons.injEq] at h
    have := hy d (by simp)
    rw [← h.1] at this
    cases this
  | c :: a, [], z, ha, _, _ => by
    simp [goesR, ha c (by simp)]
  | c :: a, d :: y, z, ha, hy, h => by
    simp only [List.cons_append, List.length_cons, List.take_succ_cons, List.cons.injEq] at h
    have := goes_in a y z (fun x hx => ha x (by simp [hx])) (fun x hx => hy x (by simp [hx])) h.2
    simpa using this
theorem not_num {a z : List UInt8} (ha : ∀ c ∈ a, isLetter c = true) : isNum (a ++ 46 :: z) = false := by
  rw [Bool.eq_false_iff]
  intro h
  rw [isNum, Bool.and_eq_true, decide_eq_true_iff] at h
  have := goes_in a numL z ha (by decide) h.1
  rw [show numL.length = 3 from rfl] at this
  rw [this] at h
  cases h.2
theorem not_byt {a z : List UInt8} (ha : ∀ c ∈ a, isLetter c = true) : isByt (a ++ 46 :: z) = false := by
  rw [Bool.eq_false_iff]
  intro h
  rw [isByt, Bool.and_eq_true, decide_eq_true_iff] at h
  have := goes_in a bytesL z ha (by decide) h.1
  rw [show bytesL.length = 5 from rfl] at this
  rw [this] at h
  cases h.2
theorem okB_letter {t : List UInt8} (h : okB t) : ∀ d y, t = d :: y → isLetter d = false := by
  intro d y e
  rcases h with rfl | ⟨c, r, rfl, hc⟩
  · cases e
  · cases e; exact sign_letter hc
theorem wp_named {a b t : List UInt8} (ha : valueR a = true) (hb : bigR b = true) (ht : ∀ d y, t = d :: y → isLetter d = false) : wpR (a ++ 46 :: (b ++ t)) = some t := by
  rw [wpR, not_num (value_all ha), not_byt (value_all ha)]
  exact nmR_of ha hb ht
theorem isNum_of {t : List UInt8} (h : okB t) : isNum (numL ++ t) = true := by
  rw [isNum, Bool.and_eq_true, decide_eq_true_iff]
  refine ⟨by simp [numL], ?_⟩
  rw [show (numL ++ t).drop 3 = t from rfl, goes_ok h]
  rfl
theorem isByt_of {t : List UInt8} (h : okB t) : isNum (bytesL ++ t) = false ∧ isByt (bytesL ++ t) = true := by
  refine ⟨by rw [isNum, Bool.and_eq_false_iff]; exact .inl (by simp [bytesL, numL]), ?_⟩
  rw [isByt, Bool.and_eq_true, decide_eq_true_iff]
  refine ⟨by simp [bytesL], ?_⟩
  rw [show (bytesL ++ t).drop 5 = t from rfl, goes_ok h]
  rfl
theorem wp_word {l : List UInt8} (h : wordOk (wordR l) = true) : wpR l = some (l.drop (wordR l).length) := by
  have hr := word_rest l
  have hs := word_split l
  generalize l.drop (wordR l).length = t at *
  generalize wordR l = x at *
  subst hs
  simp only [wordOk, Bool.or_eq_true, decide_eq_true_eq] at h
  rcases h with (h | rfl) | rfl
  · obtain ⟨a, b, rfl, ha, hb, _, _⟩ := named_split h
    rw [List.append_assoc, List.cons_append]
    exact wp_named ha hb (okB_letter hr)
  · rw [wpR, if_pos (isNum_of hr)]; rfl
  · obtain ⟨h1, h2⟩ := isByt_of hr
    rw [wpR, h1, if_neg (by decide), if_pos h2]; rfl
theorem wp_ok {l r : List UInt8} (h : wpR l = some r) (hr : okB r) : wordOk (wordR l) = true ∧ l.drop (wordR l).length = r := by
  unfold wpR at h
  split at h
  · rename_i h1
    rw [isNum, Bool.and_eq_true, decide_eq_true_iff] at h1
    have e := List.take_append_drop 3 l
    simp only [Option.some.injEq] at h
    rw [h1.1, h] at e
    have hw : wordR l = numL := by rw [← e]; exact word_stop (by decide) hr
    rw [hw]
    exact ⟨by decide, h⟩
  · split at h
    · rename_i h1
      rw [isByt, Bool.and_eq_true, decide_eq_true_iff] at h1
      have e := List.take_append_drop 5 l
      simp only [Option.some.injEq] at h
      rw [h1.1, h] at e
      have hw : wordR l = bytesL := by rw [← e]; exact word_stop (by decide) hr
      rw [hw]
      exact ⟨by decide, h⟩
    · obtain ⟨a, b, rfl, ha, hb⟩ := nmR_split h
      have hw : wordR (a ++ 46 :: (b ++ r)) = a ++ 46 :: b := by
        rw [show a ++ 46 :: (b ++ r) = (a ++ 46 :: b) ++ r from by simp]
        refine word_stop ?_ hr
        intro c hc
        simp only [List.mem_append, List.mem_cons] at hc
        rcases hc with hc | rfl | hc
        · exact letter_sign (value_all ha c hc)
        · rfl
        · exact letter_sign (big_all hb c hc)
      rw [hw]
      refine ⟨by simp [wordOk, named_of ha hb], by rw [show a ++ 46 :: (b ++ r) = (a ++ 46 :: b) ++ r from by simp]; simp⟩

theorem rF_many : ∀ (f k : Nat) (l : List UInt8), 6 < k + 1 → rF f (k + 1) l = none
  | 0, _, _, _ => by simp [rF]
  | f + 1, k, [], _ => by simp [rF]
  | f + 1, k, c :: l, h => by
    rw [rF, if_neg (fun hh : c.toNat = 41 ∧ k + 1 ≤ 6 => by omega)]
    split
    · cases rF f 0 l with
      | none => rfl
      | some x => exact rF_many f (k + 1) x (by omega)
    · rfl
theorem rF_sign {f k : Nat} {l r : List UInt8} (h : rF f (k + 1) l = some r) : okB l := by
  cases f with
  | zero => simp [rF] at h
  | succ f =>
    cases l with
    | nil => simp [rF] at h
    | cons c l =>
      refine .inr ⟨c, l, rfl, ?_⟩
      rw [rF] at h
      split at h
      · rename_i hc; exact sign_of (by omega)
      · split at h
        · rename_i hc; exact sign_of (by omega)
        · cases h
theorem g_r : ∀ f, (∀ l r, gF f 0 l = some r → rF f 0 l = some r) ∧ (∀ l r, rF f 0 l = some r → okB r → gF f 0 l = some r) ∧ (∀ k l r, k + 1 ≤ 6 → (gF f (k + 1) l = some r ↔ rF f (k + 1) l = some r))
  | 0 => by simp [gF, rF]
  | f + 1 => by
    obtain ⟨i1, i2, i3⟩ := g_r f
    refine ⟨?_, ?_, ?_⟩
    · intro l r h
      cases l with
      | nil => simp [gF] at h
      | cons c l =>
        rw [gF] at h
        rw [rF]
        split at h
        · rename_i hc
          rw [if_pos hc]
          obtain ⟨x, h1, h2⟩ := Option.bind_eq_some_iff.1 h
          rw [i1 _ _ h1]
          exact h2
        · rename_i hc
          rw [if_neg hc]
          split at h
          · rename_i hc2
            rw [if_pos hc2]
            split at h
            · rename_i hh
              rw [if_pos hh]
              exact i1 _ _ h
            · rename_i hh
              rw [if_neg hh]
              obtain ⟨x, h1, h2⟩ := Option.bind_eq_some_iff.1 h
              obtain ⟨z, h3, h4⟩ := Option.bind_eq_some_iff.1 h2
              rw [i1 _ _ h1, Option.bind_some, (i3 0 _ _ (by omega)).1 h3, Option.bind_some]
              exact i1 _ _ h4
          · rename_i hc2
            rw [if_neg hc2]
            split at h
            · rename_i hw
              rw [wp_word hw]
              exact h
            · cases h
    · intro l r h hr
      cases l with
      | nil => simp [rF] at h
      | cons c l =>
        rw [rF] at h
        rw [gF]
        split at h
        · rename_i hc
          rw [if_pos hc]
          obtain ⟨x, h1, h2⟩ := Option.bind_eq_some_iff.1 h
          split at h2
          · cases h2
          · rename_i d y
            split at h2
            · rename_i hd
              rw [i2 _ _ h1 (.inr ⟨d, y, rfl, sign_of (by omega)⟩)]
              simp only [Option.bind_some, if_pos hd]
              exact h2
            · cases h2
        · rename_i hc
          rw [if_neg hc]
          split at h
          · rename_i hc2
            rw [if_pos hc2]
            split at h
            · rename_i hh
              rw [if_pos hh]
              exact i2 _ _ h hr
            · rename_i hh
              rw [if_neg hh]
              obtain ⟨x, h1, h2⟩ := Option.bind_eq_some_iff.1 h
              obtain ⟨z, h3, h4⟩ := Option.bind_eq_some_iff.1 h2
              rw [i2 _ _ h1 (rF_sign h3), Option.bind_some, (i3 0 _ _ (by omega)).2 h3, Option.bind_some]
              exact i2 _ _ h4 hr
          · rename_i hc2
            rw [if_neg hc2]
            obtain ⟨hw, e⟩ := wp_ok h hr
            rw [if_pos hw, e]
    · intro k l r hk
      cases l with
      | nil => simp [gF, rF]
      | cons c l =>
        rw [gF, rF]
        by_cases h44 : c.toNat = 44
        · rw [if_neg (by omega), if_pos h44]
          constructor
          · intro h
            split at h
            · obtain ⟨x, h1, h2⟩ := Option.bind_eq_some_iff.1 h
              rw [i1 _ _ h1, Option.bind_some]
              exact (i3 _ _ _ (by omega)).1 h2
            · cases h
          · intro h
            obtain ⟨x, h1, h2⟩ := Option.bind_eq_some_iff.1 h
            rcases Nat.lt_or_ge (k + 1) 6 with h6 | h6
            · rw [if_pos ⟨h44, h6⟩, i2 _ _ h1 (rF_sign h2), Option.bind_some]
              exact (i3 _ _ _ (by omega)).2 h2
            · rw [rF_many f (k + 1) x (by omega)] at h2
              cases h2
        · rw [if_neg h44]
          by_cases h41 : c.toNat = 41
          · rw [if_pos h41, if_pos ⟨h41, hk⟩]
          · rw [if_neg h41, if_neg (fun h => h44 h.1), if_neg (fun h => h41 h.1)]
theorem rOne_of {l r : List UInt8} (h : one l = some r) : rOne l = some r := (g_r _).1 _ _ h
theorem one_of {l r : List UInt8} (h : rOne l = some r) (hr : okB r) : one l = some r := (g_r _).2.1 _ _ h hr
theorem right_is (l : List UInt8) : rightR l = (decide (l.length ≤ 200) && decide (rOne l = some [])) := by
  rw [rightR]
  congr 1
  rw [Bool.eq_iff_iff, decide_eq_true_iff, decide_eq_true_iff]
  exact ⟨rOne_of, fun h => one_of h (.inl rfl)⟩

/-- What kind of type a text begins with. -/
def kindR (l : List UInt8) : Nat := if isHead 91 l = true then 2 else if isHead 40 l = true then 3 else if isNum l = true ∨ isByt l = true then 1 else 4
theorem kind_named (l : List UInt8) : (rightR l = true ∧ kindR l = 4) ↔ namedR l = true := by
  constructor
  · rintro ⟨h1, h2⟩
    rw [rightR, Bool.and_eq_true, decide_eq_true_iff, decide_eq_true_iff] at h1
    cases l with
    | nil => rw [one_nil] at h1; cases h1.2
    | cons c l =>
      by_cases c1 : c.toNat = 91
      · simp [kindR, isHead_cons, c1] at h2
      · by_cases c2 : c.toNat = 40
        · simp [kindR, isHead_cons, c2] at h2
        · rw [one_word l c1 c2] at h1
          split at h1
          · rename_i hw
            have hn := h1.2
            simp only [Option.some.injEq] at hn
            have e := word_split (c :: l)
            rw [hn, List.append_nil] at e
            rw [← e] at hw
            simp only [wordOk, Bool.or_eq_true, decide_eq_true_eq] at hw
            have hnn : ¬ (isNum (c :: l) = true ∨ isByt (c :: l) = true) := by
              intro hh
              simp [kindR, isHead_cons, c1, c2, hh] at h2
            rcases hw with (h | h) | h
            · exact h
            · rw [h] at hnn; exact absurd (.inl (by have := isNum_of (t := []) (.inl rfl); rwa [List.append_nil] at this)) hnn
            · rw [h] at hnn; exact absurd (.inr (by have := (isByt_of (t := []) (.inl rfl)).2; rwa [List.append_nil] at this)) hnn
          · cases h1.2
  · intro h
    obtain ⟨a, b, rfl, ha, hb, _, _⟩ := named_split h
    have la := value_len ha
    have lb := big_len hb
    have hw : wpR (a ++ 46 :: b) = some [] := by
      have := wp_named (t := []) ha hb (fun d y e => by cases e)
      rwa [List.append_nil] at this
    cases a with
    | nil => rw [valueR_nil] at ha; cases ha
    | cons c a =>
      have hc := value_all ha c (by simp)
      have c1 : c.toNat ≠ 91 := by intro e; revert hc; rw [show c = 91 from UInt8.toNat_inj.1 e]; decide
      have c2 : c.toNat ≠ 40 := by intro e; revert hc; rw [show c = 40 from UInt8.toNat_inj.1 e]; decide
      refine ⟨?_, ?_⟩
      · rw [right_is, Bool.and_eq_true, decide_eq_true_iff, decide_eq_true_iff]
        refine ⟨by simp at la ⊢; omega, ?_⟩
        rw [List.cons_append] at hw ⊢
        rw [rOne_word _ c1 c2]
        exact hw
      · have n1 := not_num (z := b) (value_all ha)
        have n2 := not_byt (z := b) (value_all ha)
        rw [kindR, List.cons_append, isHead_cons, isHead_cons, decide_eq_false c1, decide_eq_false c2]
        rw [List.cons_append] at n1 n2
        rw [n1, n2]
        rfl
theorem wpR_suffix {l r : List UInt8} (h : wpR l = some r) : r <:+ l := by
  unfold wpR at h
  split at h
  · cases h; exact List.drop_suffix _ _
  · split at h
    · cases h; exact List.drop_suffix _ _
    · obtain ⟨a, b, rfl, _, _⟩ := nmR_split h
      exact ⟨a ++ 46 :: b, by simp⟩
theorem rF_suffix : ∀ (f k : Nat) (l r : List UInt8), rF f k l = some r → r <:+ l
  | 0, _, _, _, h => by simp [rF] at h
  | f + 1, 0, [], _, h => by simp [rF] at h
  | f + 1, 0, c :: l, r, h => by
    rw [rF] at h
    split at h
    · obtain ⟨x, h1, h2⟩ := Option.bind_eq_some_iff.1 h
      have := rF_suffix f 0 l x h1
      split at h2
      · cases h2
      · rename_i d y
        split at h2
        · cases h2
          exact ((List.suffix_cons d r).trans this).trans (List.suffix_cons c l)
        · cases h2
    · split at h
      · split at h
        · rename_i hh
          obtain ⟨d, y, rfl, _⟩ := isHead_pos hh
          have := rF_suffix f 0 y r h
          exact (this.trans (List.suffix_cons d y)).trans (List.suffix_cons c _)
        · obtain ⟨x, h1, h2⟩ := Option.bind_eq_some_iff.1 h
          obtain ⟨z, h3, h4⟩ := Option.bind_eq_some_iff.1 h2
          exact (((rF_suffix f 0 z r h4).trans (rF_suffix f 1 x z h3)).trans (rF_suffix f 0 _ x h1)).trans (List.suffix_cons c _)
      · exact wpR_suffix h
  | f + 1, k + 1, [], _, h => by simp [rF] at h
  | f + 1, k + 1, c :: l, r, h => by
    rw [rF] at h
    split at h
    · obtain ⟨x, h1, h2⟩ := Option.bind_eq_some_iff.1 h
      exact ((rF_suffix f (k + 2) x r h2).trans (rF_suffix f 0 l x h1)).trans (List.suffix_cons c _)
    · split at h
      · cases h; exact List.suffix_cons _ _
      · cases h
/-- How many bytes the type has; 0: there is none. -/
def oneN (l : List UInt8) : Nat := match rOne l with | none => 0 | some r => l.length - r.length
theorem oneN_none {l : List UInt8} (h : rOne l = none) : oneN l = 0 := by rw [oneN, h]
theorem oneN_some {l r : List UInt8} (h : rOne l = some r) : 0 < oneN l ∧ oneN l ≤ l.length ∧ r = l.drop (oneN l) := by
  have h1 := rOne_len h
  have h2 : r <:+ l := rF_suffix _ _ _ _ h
  rw [oneN, h]
  exact ⟨by simp only; omega, by simp only; omega, List.suffix_iff_eq_drop.1 h2⟩
theorem oneN_at {l : List UInt8} {n : Nat} (h : rOne l = some (l.drop n)) (hn : n ≤ l.length) : oneN l = n := by
  rw [oneN, h]
  simp
  omega
def funN (l : List UInt8) : Nat := match fnHd 0 (l.drop 1) with | none => 0 | some r => l.length - r.length
theorem funN_none {l : List UInt8} (h : fnHd 0 (l.drop 1) = none) : funN l = 0 := by rw [funN, h]
theorem funN_at {l : List UInt8} {n : Nat} (h : fnHd 0 (l.drop 1) = some (l.drop n)) (hn : n ≤ l.length) : funN l = n := by
  rw [funN, h]
  simp
  omega
theorem let_at {l : List UInt8} {k : Nat} (h : (l.take k).all isLetter = true) (hs : ∀ d y, l.drop k = d :: y → isLetter d = false) : letR l = l.take k := by
  conv => lhs; rw [← List.take_append_drop k l]
  exact let_stop (List.all_eq_true.1 h) hs
theorem num_head {l : List UInt8} (h : isNum l = true) : rOne l = some (l.drop 3) ∧ kindR l = 1 ∧ 3 ≤ l.length := by
  have h' := h
  rw [isNum, Bool.and_eq_true, decide_eq_true_iff] at h
  have e := List.take_append_drop 3 l
  rw [h.1] at e
  have hl : 3 ≤ l.length := take_len h.1 rfl (by decide)
  generalize l.drop 3 = r at *
  subst e
  refine ⟨?_, ?_, hl⟩
  · have := rOne_word (c := 110) (117 :: 109 :: r) (by decide) (by decide)
    rw [show numL ++ r = 110 :: 117 :: 109 :: r from rfl] at h' ⊢
    rw [this, wpR, if_pos h']; rfl
  · rw [kindR, if_neg (by simp [numL, isHead]), if_neg (by simp [numL, isHead]), if_pos (.inl h')]
theorem byt_head {l : List UInt8} (hn : isNum l = false) (h : isByt l = true) : rOne l = some (l.drop 5) ∧ kindR l = 1 ∧ 5 ≤ l.length := by
  have h' := h
  rw [isByt, Bool.and_eq_true, decide_eq_true_iff] at h
  have e := List.take_append_drop 5 l
  rw [h.1] at e
  have hl : 5 ≤ l.length := take_len h.1 rfl (by decide)
  generalize l.drop 5 = r at *
  subst e
  refine ⟨?_, ?_, hl⟩
  · have := rOne_word (c := 98) (121 :: 116 :: 101 :: 115 :: r) (by decide) (by decide)
    rw [show bytesL ++ r = 98 :: 121 :: 116 :: 101 :: 115 :: r from rfl] at h' hn ⊢
    rw [this, wpR, hn, if_neg (by decide), if_pos h']; rfl
  · rw [kindR, if_neg (by simp [bytesL, isHead]), if_neg (by simp [bytesL, isHead]), if_pos (.inr h')]
theorem nm_head {l : List UInt8} {c : UInt8} {r : List UInt8} (e : l = c :: r) (h1 : c.toNat ≠ 91) (h2 : c.toNat ≠ 40) (hn : isNum l = false) (hb : isByt l = false) : rOne l = nmR l ∧ kindR l = 4 := by
  subst e
  refine ⟨by rw [rOne_word r h1 h2, wpR, hn, hb]; rfl, ?_⟩
  rw [kindR, isHead_cons, isHead_cons, decide_eq_false h1, decide_eq_false h2, hn, hb]
  rfl
theorem nmR_no1 {l : List UInt8} {k : Nat} (e : letR l = l.take k) (h : valueR (l.take k) = false) : nmR l = none := by
  rw [nmR, e, if_neg (by rw [h]; decide)]
theorem nmR_no2 {l : List UInt8} {k : Nat} (hk : k ≤ l.length) (e : letR l = l.take k) (h : isHead 46 (l.drop k) = false) : nmR l = none := by
  rw [nmR, e, List.length_take, Nat.min_eq_left hk, h]
  simp
theorem nmR_no3 {l : List UInt8} {k j : Nat} (hk : k ≤ l.length) (e : letR l = l.take k) (e2 : letR (l.drop (k + 1)) = (l.drop (k + 1)).take j) (h : bigR ((l.drop (k + 1)).take j) = false) : nmR l = none := by
  rw [nmR, e, List.length_take, Nat.min_eq_left hk, e2, h]
  simp
theorem nmR_yes {l : List UInt8} {k j : Nat} (hk : k ≤ l.length) (e : letR l = l.take k) (h1 : valueR (l.take k) = true) (h2 : isHead 46 (l.drop k) = true) (hj : k + 1 + j ≤ l.length) (e2 : letR (l.drop (k + 1)) = (l.drop (k + 1)).take j) (h : bigR ((l.drop (k + 1)).take j) = true) : nmR l = some (l.drop (k + 1 + j)) := by
  rw [nmR, e, List.length_take, Nat.min_eq_left hk, e2, h, h1, h2, List.length_take, List.length_drop, Nat.min_eq_left (by omega), List.drop_drop]
  simp
end Go.Proofs.Ytcokihblicgbpaa

namespace Go.Proofs.Ytcokihblicgbpaa

abbrev PR (α : Type) : Type := Except (Nat × Nat) α
def opsL : List (List UInt8) := [[97, 100, 100], [115, 117, 98], [109, 117, 108], [110, 101, 103], [99, 111, 110, 106], [114, 101], [105, 109], [101, 113], [108, 116], [99, 97, 116], [108, 101, 110], [97, 116], [99, 117, 116]]
def wordsL : List (List UInt8) := opsL ++ [[108, 101, 116], [105, 102], [97, 114, 114, 97, 121], [109, 97, 116, 99, 104], [102, 110], [99, 97, 108, 108], [110, 117, 109], [98, 121, 116, 101, 115], [109, 111, 100, 117, 108, 101], [105, 109, 112, 111, 114, 116], [101, 120, 112, 111, 114, 116], [116, 121, 112, 101], [99, 111, 110, 115, 116], [102, 117, 110]]
def isOp (s : List UInt8) : Bool := opsL.contains s
def isKey (s : List UInt8) : Bool := wordsL.contains s
def letK : List UInt8 := [108, 101, 116]
def ifK : List UInt8 := [105, 102]
def matchK : List UInt8 := [109, 97, 116, 99, 104]
def callK : List UInt8 := [99, 97, 108, 108]
def moduleK : List UInt8 := [109, 111, 100, 117, 108, 101]
def importK : List UInt8 := [105, 109, 112, 111, 114, 116]
def exportK : List UInt8 := [101, 120, 112, 111, 114, 116]
def typeK : List UInt8 := [116, 121, 112, 101]
def constK : List UInt8 := [99, 111, 110, 115, 116]
def funK : List UInt8 := [102, 117, 110]
def hasDotP (l : List UInt8) : Bool := !(l.all notDot)
/-- Two names with a point between, the second one large or small. -/
def dotR (big : Bool) (s : List UInt8) : Bool := hasDotP s && valueR (aheadR s) && (if big then bigR (behindR s) else valueR (behindR s))
/-! Numbers as texts: as the texts of stage 2 have them (dig, pre, numB, cutS, right3, tailW, restW, parseW). -/
def nDig (c : UInt8) : Bool := decide (48 ≤ c.toNat) && decide (c.toNat ≤ 57)
def nAcc (n : Nat) (c : UInt8) : Nat := if n < 1099511627776 then 10 * n + (c.toNat - 48) else n
def nPre (s : ByteArray) : List UInt8 := s.data.toList.takeWhile nDig
def nNum (s : ByteArray) : Nat := (nPre s).foldl nAcc 0
def nMinus (s : ByteArray) : Bool := s.data.toList.head? == some 45
def nCut (s : ByteArray) : ByteArray := if nMinus s then s.extract 1 s.size else s
def nRight3 (p q : Int) : Int × Int × Bool := if p.natAbs ≤ 1048576 ∧ q.natAbs ≤ 1048576 then (p, q, true) else (0, 0, false)
def nSgn (b : Bool) (n : Nat) : Int := if b then -(n : Int) else (n : Int)
def nTail (N : ByteArray → Nat) (p : Int) (m : Bool) (s2 : ByteArray) : Int × Int × Bool :=
  if (nPre s2).length = 0 then (0, 0, false) else if ((s2.extract (nPre s2).length s2.size).toList == [105]) = true then nRight3 p (nSgn m (N s2)) else (0, 0, false)
def nRest (N : ByteArray → Nat) (p : Int) (r : ByteArray) : Int × Int × Bool :=
  if r.toList.isEmpty = true then nRight3 p 0 else if (r.toList == [105]) = true then nRight3 0 p
  else if r.data.toList.head? = some 43 then nTail N p false (r.extract 1 r.size) else if r.data.toList.head? = some 45 then nTail N p true (r.extract 1 r.size) else (0, 0, false)
def nParse (N : ByteArray → Nat) (s : ByteArray) : Int × Int × Bool :=
  if (nPre (nCut s)).length = 0 then (0, 0, false) else nRest N (nSgn (nMinus s) (N (nCut s))) ((nCut s).extract (nPre (nCut s)).length (nCut s).size)
/-- The number that a text tells. -/
def numP (s : List UInt8) : Option (Int × Int) := if (nParse nNum (str s)).2.2 = true then some ((nParse nNum (str s)).1, (nParse nNum (str s)).2.1) else none
/-- An expression. -/
structure Ex where
  kind : Nat
  place : Nat
  name : List UInt8
  re : Int
  im : Int
  text : List UInt8
  ty : List UInt8
  kids : List Ex
  params : List (List UInt8 × List UInt8)
  arms : List (List UInt8 × List (List UInt8))
  bods : List Ex
def seqP {α : Type} : List (PR α) → PR (List α)
  | [] => .ok []
  | .error e :: _ => .error e
  | .ok x :: r => match seqP r with | .error e => .error e | .ok l => .ok (x :: l)
/-- A name that is bound. -/
def nameP (t : Tr) : PR (List UInt8) := if valueR t.text = true ∧ isKey t.text = false then .ok t.text else .error (13, t.place)
def paramP (m : List UInt8) (p : Tr) : PR (List UInt8 × List UInt8) :=
  if p.kind = 1 ∧ p.kids.length = 2 ∧ (kid p 0).kind = 3 then (nameP (kid p 0)).bind (fun n => (readR m (kid p 1)).bind (fun y => .ok (n, y))) else .error (12, p.place)
def exK (k : Nat) (t : Tr) (name : List UInt8) (kids : List Ex) : Ex := ⟨k, t.place, name, 0, 0, [], [], kids, [], [], []⟩
/-- One arm of a match, its body being read as r. -/
def armP (a : Tr) (r : PR Ex) : PR ((List UInt8 × List (List UInt8)) × Ex) :=
  if a.kind ≠ 1 ∨ a.kids.length ≠ 2 ∨ (kid a 0).kind ≠ 1 then .error (12, a.place)
  else if 4 < (kid a 0).kids.length - 1 then .error (19, a.place)
  else if (kid a 0).kids.length = 0 ∨ (kid a 0).kids.all (fun k => decide (k.kind = 3)) = false then .error (12, (kid a 0).place)
  else if bigR (kid (kid a 0) 0).text = false ∧ dotR true (kid (kid a 0) 0).text = false then .error (13, (kid (kid a 0) 0).place)
  else (seqP (((kid a 0).kids.drop 1).map nameP)).bind (fun vs => r.bind (fun b => .ok (((kid (kid a 0) 0).text, vs), b)))
def armsP : List (Tr × PR Ex) → PR (List ((List UInt8 × List (List UInt8)) × Ex)) := fun l => seqP (l.map (fun x => armP x.1 x.2))
/-- A tree with a word at its beginning; rs: what its Kids are read as, rss: what their Kids are. -/
def headP (m : List UInt8) (t : Tr) (h : List UInt8) (rs : List (PR Ex)) (rss : List (List (PR Ex))) : PR Ex :=
  if h = letK then
    if t.kids.length ≠ 4 ∨ (kid t 1).kind ≠ 3 then .error (12, t.place)
    else (nameP (kid t 1)).bind (fun x => (seqP (rs.drop 2)).bind (fun ks => .ok (exK 4 t x ks)))
  else if h = ifK then
    if t.kids.length ≠ 4 then .error (12, t.place) else (seqP (rs.drop 1)).bind (fun ks => .ok (exK 5 t [] ks))
  else if h = arrayL then
    if t.kids.length < 2 then .error (12, t.place) else if 34 < t.kids.length then .error (19, t.place)
    else (readR m (kid t 1)).bind (fun y => (seqP (rs.drop 2)).bind (fun ks => .ok ⟨7, t.place, [], 0, 0, [], y, ks, [], [], []⟩))
  else if h = matchK then
    if t.kids.length < 3 then .error (12, t.place) else if 6 < t.kids.length - 2 then .error (19, t.place)
    else (rs.getD 1 (.error (0, 0))).bind (fun k => (armsP ((t.kids.drop 2).zip ((rss.drop 2).map (fun l => l.getD 1 (.error (0, 0)))))).bind (fun az => .ok ⟨9, t.place, [], 0, 0, [], [], [k], [], az.map (·.1), az.map (·.2)⟩))
  else if h = fnL then
    if t.kids.length ≠ 4 ∨ (kid t 1).kind ≠ 1 then .error (12, t.place) else if 6 < (kid t 1).kids.length then .error (19, t.place)
    else (seqP ((kid t 1).kids.map (paramP m))).bind (fun ps => (readR m (kid t 2)).bind (fun y => (seqP (rs.drop 3)).bind (fun ks => .ok ⟨10, t.place, [], 0, 0, [], y, ks, ps, [], []⟩)))
  else if h = callK then
    if t.kids.length < 2 then .error (12, t.place) else if 6 < t.kids.length - 2 then .error (19, t.place) else (seqP (rs.drop 1)).bind (fun ks => .ok (exK 11 t [] ks))
  else if isOp h = true then (seqP (rs.drop 1)).bind (fun ks => .ok (exK 6 t h ks))
  else if bigR h = true ∨ dotR true h = true then
    if 4 < t.kids.length - 1 then .error (19, t.place) else (seqP (rs.drop 1)).bind (fun ks => .ok (exK 8 t h ks))
  else if (valueR h = true ∧ isKey h = false) ∨ dotR false h = true then
    if 6 < t.kids.length - 1 then .error (19, t.place) else (seqP (rs.drop 1)).bind (fun ks => .ok (exK 12 t h ks))
  else .error (12, t.place)
def formP (m : List UInt8) (t : Tr) (rs : List (PR Ex)) (rss : List (List (PR Ex))) : PR Ex :=
  if t.kind = 4 then .ok ⟨2, t.place, [], 0, 0, t.text, [], [], [], [], []⟩
  else if t.kind = 3 then
    match numP t.text with
    | some (a, b) => .ok ⟨1, t.place, [], a, b, [], [], [], [], [], []⟩
    | none => if valueR t.text = true ∨ dotR false t.text = true then .ok (exK 3 t t.text []) else .error (12, t.place)
  else if t.kind ≠ 1 ∨ t.kids.length = 0 ∨ (kid t 0).kind ≠ 3 then .error (12, t.place)
  else headP m t (kid t 0).text rs rss
def ee (m : List UInt8) : Tr → PR Ex × List (PR Ex)
  | ⟨k, p, x, l, e⟩ => (formP m ⟨k, p, x, l, e⟩ ((l.map (ee m)).map (·.1)) ((l.map (ee m)).map (·.2)), (l.map (ee m)).map (·.1))
/-- Expr. -/
def exprP (m : List UInt8) (t : Tr) : PR Ex := (ee m t).1
theorem ee_snd (m : List UInt8) (t : Tr) : (ee m t).2 = t.kids.map (exprP m) := by
  obtain ⟨k, p, x, l, e⟩ := t
  rw [ee]
  simp [exprP]
theorem exprP_eq (m : List UInt8) (t : Tr) : exprP m t = formP m t (t.kids.map (exprP m)) (t.kids.map (fun k => k.kids.map (exprP m))) := by
  have h1 : (t.kids.map (ee m)).map (·.1) = t.kids.map (exprP m) := by simp [exprP]
  have h2 : (t.kids.map (ee m)).map (·.2) = t.kids.map (fun k => k.kids.map (exprP m)) := by
    rw [List.map_map]
    exact List.map_congr_left (fun k _ => ee_snd m k)
  rw [← h1, ← h2]
  obtain ⟨k, p, x, l, e⟩ := t
  rw [exprP, ee]
/-- A module, or what an item adds to one. -/
structure Md where
  name : List UInt8
  imports : List (List UInt8 × List UInt8)
  exports : List (List UInt8)
  types : List (List UInt8 × List (List UInt8 × List (List UInt8)))
  consts : List (List UInt8 × List UInt8 × Ex)
  funs : List (List UInt8 × List (List UInt8 × List UInt8) × List UInt8 × Ex)
def Md.add (a b : Md) : Md := ⟨a.name, a.imports ++ b.imports, a.exports ++ b.exports, a.types ++ b.types, a.consts ++ b.consts, a.funs ++ b.funs⟩
def Md.none (n : List UInt8) : Md := ⟨n, [], [], [], [], []⟩
/-- A name, large or small. -/
def anyP (t : Tr) : PR (List UInt8) := if nameR t.text = true then .ok t.text else .error (13, t.place)
def bigP (t : Tr) : PR (List UInt8) := if bigR t.text = true then .ok t.text else .error (13, t.place)
def valP (t : Tr) : PR (List UInt8) := if valueR t.text = true then .ok t.text else .error (13, t.place)
def caseP (m : List UInt8) (k : Tr) : PR (List UInt8 × List (List UInt8)) :=
  if k.kind ≠ 1 ∨ k.kids.length = 0 ∨ (kid k 0).kind ≠ 3 then .error (12, k.place)
  else (bigP (kid k 0)).bind (fun n => (seqP ((k.kids.drop 1).map (readR m))).bind (fun fs => .ok (n, fs)))
def allAtoms (t : Tr) : Bool := t.kids.all (fun k => decide (k.kind = 3))
def itemP (m : List UInt8) (t : Tr) : PR Md :=
  if t.kind ≠ 1 ∨ t.kids.length = 0 ∨ (kid t 0).kind ≠ 3 then .error (12, t.place)
  else if (kid t 0).text = importK then
    if t.kids.length < 2 ∨ allAtoms t = false then .error (12, t.place)
    else (valP (kid t 1)).bind (fun fr => (seqP ((t.kids.drop 2).map anyP)).bind (fun ns => .ok ⟨[], ns.map (fun n => (fr, n)), [], [], [], []⟩))
  else if (kid t 0).text = exportK then
    if allAtoms t = false then .error (12, t.place) else (seqP ((t.kids.drop 1).map anyP)).bind (fun ns => .ok ⟨[], [], ns, [], [], []⟩)
  else if (kid t 0).text = typeK then
    if t.kids.length < 3 ∨ (kid t 1).kind ≠ 3 then .error (12, t.place)
    else if 6 < t.kids.length - 2 ∨ (t.kids.drop 2).any (fun k => decide (4 < k.kids.length - 1)) = true then .error (19, t.place)
    else (bigP (kid t 1)).bind (fun n => (seqP ((t.kids.drop 2).map (caseP m))).bind (fun cs => .ok ⟨[], [], [], [(n, cs)], [], []⟩))
  else if (kid t 0).text = constK then
    if t.kids.length ≠ 4 ∨ (kid t 1).kind ≠ 3 then .error (12, t.place)
    else (nameP (kid t 1)).bind (fun n => (readR m (kid t 2)).bind (fun y => (exprP m (kid t 3)).bind (fun b => .ok ⟨[], [], [], [], [(n, y, b)], []⟩)))
  else if (kid t 0).text = funK then
    if t.kids.length ≠ 5 ∨ (kid t 1).kind ≠ 3 ∨ (kid t 2).kind ≠ 1 then .error (12, t.place)
    else if 6 < (kid t 2).kids.length then .error (19, t.place)
    else (nameP (kid t 1)).bind (fun n => (seqP ((kid t 2).kids.map (paramP m))).bind (fun ps => (readR m (kid t 3)).bind (fun y => (exprP m (kid t 4)).bind (fun b => .ok ⟨[], [], [], [], [], [(n, ps, y, b)]⟩))))
  else .error (12, t.place)
def Md.many (a : Md) : Bool := decide (32 < a.imports.length) || decide (32 < a.exports.length) || decide (32 < a.types.length) || decide (32 < a.consts.length) || decide (32 < a.funs.length)
/-- Items one behind the other. -/
def itemsP (m : List UInt8) : Md → List Tr → PR Md
  | a, [] => .ok a
  | a, t :: r => match itemP m t with | .error e => .error e | .ok b => itemsP m (a.add b) r
def treeP (t : Tr) : PR Md :=
  if t.kind ≠ 1 ∨ t.kids.length < 2 ∨ (kid t 0).kind ≠ 3 ∨ (kid t 0).text ≠ moduleK ∨ (kid t 1).kind ≠ 3 then .error (12, t.place)
  else if valueR (kid t 1).text = false then .error (13, (kid t 1).place)
  else (itemsP (kid t 1).text (Md.none (kid t 1).text) (t.kids.drop 2)).bind (fun a => if a.many = true then .error (4, 0) else .ok a)
/-- Module. -/
def moduleP (l : List UInt8) : PR Md := match parseR l with | .error e => .error e | .ok t => treeP t
end Go.Proofs.Ytcokihblicgbpaa

namespace Go.Proofs.Ytcokihblicgbpaa
open Go.RowKit

/-- Texts in a row, in a block of F. -/
def TxR (F : Nat → Prop) (w : World) (v : Value) (xs : List (List UInt8)) : Prop :=
  (∃ a c, v = .slice a 0 c ∧ xs = []) ∨ ∃ g o cap, v = .slice (some ⟨g, o, none⟩) xs.length cap ∧ F g ∧ ∀ (j : Nat) x, xs[j]? = some x → w.cell? ⟨g, o + j, none⟩ = some (.string (str x))
/-- Pairs of texts. -/
def TxR2 (F : Nat → Prop) (w : World) (v : Value) (xs : List (List UInt8 × List UInt8)) : Prop :=
  (∃ a c, v = .slice a 0 c ∧ xs = []) ∨ ∃ g o cap, v = .slice (some ⟨g, o, none⟩) xs.length cap ∧ F g ∧ ∀ (j : Nat) x, xs[j]? = some x → w.cell? ⟨g, o + j * 2, none⟩ = some (.string (str x.1)) ∧ w.cell? ⟨g, o + (j * 2 + 1), none⟩ = some (.string (str x.2))
theorem TxR.frame {F G : Nat → Prop} {w w' : World} (hF : ∀ g, F g → G g ∧ w'.heap[g]? = w.heap[g]?) {v : Value} {xs : List (List UInt8)} (h : TxR F w v xs) : TxR G w' v xs := by
  rcases h with h | ⟨g, o, cap, h1, h2, h3⟩
  · exact .inl h
  · refine .inr ⟨g, o, cap, h1, (hF g h2).1, fun j x hj => ?_⟩
    rw [World.cell?_of_block (w := w) (hF g h2).2]
    exact h3 j x hj
theorem TxR2.frame {F G : Nat → Prop} {w w' : World} (hF : ∀ g, F g → G g ∧ w'.heap[g]? = w.heap[g]?) {v : Value} {xs : List (List UInt8 × List UInt8)} (h : TxR2 F w v xs) : TxR2 G w' v xs := by
  rcases h with h | ⟨g, o, cap, h1, h2, h3⟩
  · exact .inl h
  · refine .inr ⟨g, o, cap, h1, (hF g h2).1, fun j x hj => ?_⟩
    obtain ⟨h4, h5⟩ := h3 j x hj
    exact ⟨by rw [World.cell?_of_block (w := w) (hF g h2).2]; exact h4, by rw [World.cell?_of_block (w := w) (hF g h2).2]; exact h5⟩
theorem TxR.shape {F : Nat → Prop} {w : World} {v : Value} {xs : List (List UInt8)} (h : TxR F w v xs) : ∃ a c, v = .slice a xs.length c := by
  rcases h with ⟨a, c, rfl, rfl⟩ | ⟨g, o, cap, rfl, _⟩
  · exact ⟨a, c, rfl⟩
  · exact ⟨_, _, rfl⟩
theorem TxR2.shape {F : Nat → Prop} {w : World} {v : Value} {xs : List (List UInt8 × List UInt8)} (h : TxR2 F w v xs) : ∃ a c, v = .slice a xs.length c := by
  rcases h with ⟨a, c, rfl, rfl⟩ | ⟨g, o, cap, rfl, _⟩
  · exact ⟨a, c, rfl⟩
  · exact ⟨_, _, rfl⟩
theorem TxR.row {F : Nat → Prop} {w : World} {v : Value} {xs : List (List UInt8)} (h : TxR F w v xs) (hF : ∀ g, F g → g < w.heap.size) (hc : ∀ a n c, v = .slice a n c → n ≤ c) : StrRow w v xs := by
  rcases h with ⟨a, c, rfl, rfl⟩ | ⟨g, o, cap, rfl, h2, h3⟩
  · exact .inl ⟨rfl, a, c, rfl⟩
  · exact .inr ⟨g, o, cap, rfl, hF g h2, hc _ _ _ rfl, h3⟩

theorem TxR.nil (F : Nat → Prop) (w : World) : TxR F w (.slice none 0 0) [] := .inl ⟨none, 0, rfl, rfl⟩
theorem TxR2.nil (F : Nat → Prop) (w : World) : TxR2 F w (.slice none 0 0) [] := .inl ⟨none, 0, rfl, rfl⟩
end Go.Proofs.Ytcokihblicgbpaa

namespace Go.Proofs.Ytcokihblicgbpaa
open Go.RowKit

theorem ex_kid_lt {t k : Ex} (h : k ∈ t.kids) : SizeOf.sizeOf k < SizeOf.sizeOf t := by
  obtain ⟨a, b, c, d, e, f, g, l, i, j, m⟩ := t
  have := List.sizeOf_lt_of_mem h
  simp at this ⊢
  omega
theorem ex_bod_lt {t k : Ex} (h : k ∈ t.bods) : SizeOf.sizeOf k < SizeOf.sizeOf t := by
  obtain ⟨a, b, c, d, e, f, g, l, i, j, m⟩ := t
  have := List.sizeOf_lt_of_mem h
  simp at this ⊢
  omega
theorem ex_ind {P : Ex → Prop} (h : ∀ e : Ex, (∀ k ∈ e.kids, P k) → (∀ k ∈ e.bods, P k) → P e) (e : Ex) : P e := by
  have key : ∀ (n : Nat) (e : Ex), SizeOf.sizeOf e ≤ n → P e := by
    intro n
    induction n with
    | zero =>
      intro e he
      obtain ⟨a, b, c, d, e, f, g, l, i, j, m⟩ := e
      simp at he
    | succ n ih => exact fun e he => h e (fun k hk => ih k (by have := ex_kid_lt hk; omega)) (fun k hk => ih k (by have := ex_bod_lt hk; omega))
  exact key _ e (Nat.le_refl _)

/-- An expression's cells; as a value. -/
def exc (e : Ex) (kv pv av : Value) : List Value := [.int .i64 (e.kind : Int), .int .i64 (e.place : Int), .string (str e.name), .complex .f64 (floatOfInt .f64 e.re) (floatOfInt .f64 e.im), .string (str e.text), .string (str e.ty), kv, pv, av]
def exv (e : Ex) (kv pv av : Value) : Value := .agg #[.int .i64 (e.kind : Int), .int .i64 (e.place : Int), .string (str e.name), .complex .f64 (floatOfInt .f64 e.re) (floatOfInt .f64 e.im), .string (str e.text), .string (str e.ty), kv, pv, av]
def armC (e : Ex) (i : Nat) : List UInt8 × List (List UInt8) := e.arms.getD i ([], [])
/-- What an expression holds can be read through kv, pv, av, in blocks of F. -/
def XI (F : Nat → Prop) (w : World) : Value → Value → Value → Ex → Prop
  | kv, pv, av, ⟨_, _, _, _, _, _, _, kids, params, arms, bods⟩ =>
    ((∃ a c, kv = .slice a 0 c ∧ kids = []) ∨ ∃ g o cap, kv = .slice (some ⟨g, o, none⟩) kids.length cap ∧ F g ∧
      ∀ i (h : i < kids.length), have _hm := List.getElem_mem h; ∃ k' p' a', XI F w k' p' a' kids[i] ∧ ∀ j u, (exc kids[i] k' p' a')[j]? = some u → w.cell? ⟨g, o + (i * 9 + j), none⟩ = some u) ∧
    TxR2 F w pv params ∧ arms.length = bods.length ∧
    ((∃ a c, av = .slice a 0 c ∧ bods = []) ∨ ∃ g o cap, av = .slice (some ⟨g, o, none⟩) bods.length cap ∧ F g ∧
      ∀ i (h : i < bods.length), have _hm := List.getElem_mem h; ∃ vv k' p' a', XI F w k' p' a' bods[i] ∧ TxR F w vv (arms.getD i ([], [])).2 ∧
        ∀ j u, (Value.string (str (arms.getD i ([], [])).1) :: vv :: exc bods[i] k' p' a')[j]? = some u → w.cell? ⟨g, o + (i * 11 + j), none⟩ = some u)
/-- A row of expressions. -/
def XK (F : Nat → Prop) (w : World) (kv : Value) (kids : List Ex) : Prop :=
  (∃ a c, kv = .slice a 0 c ∧ kids = []) ∨ ∃ g o cap, kv = .slice (some ⟨g, o, none⟩) kids.length cap ∧ F g ∧
      ∀ i (h : i < kids.length), ∃ k' p' a', XI F w k' p' a' kids[i] ∧ ∀ j u, (exc kids[i] k' p' a')[j]? = some u → w.cell? ⟨g, o + (i * 9 + j), none⟩ = some u
/-- A row of arms. -/
def XA (F : Nat → Prop) (w : World) (av : Value) (arms : List (List UInt8 × List (List UInt8))) (bods : List Ex) : Prop :=
  arms.length = bods.length ∧
    ((∃ a c, av = .slice a 0 c ∧ bods = []) ∨ ∃ g o cap, av = .slice (some ⟨g, o, none⟩) bods.length cap ∧ F g ∧
      ∀ i (h : i < bods.length), ∃ vv k' p' a', XI F w k' p' a' bods[i] ∧ TxR F w vv (arms.getD i ([], [])).2 ∧
        ∀ j u, (Value.string (str (arms.getD i ([], [])).1) :: vv :: exc bods[i] k' p' a')[j]? = some u → w.cell? ⟨g, o + (i * 11 + j), none⟩ = some u)
theorem XI_iff (F : Nat → Prop) (w : World) (kv pv av : Value) (e : Ex) : XI F w kv pv av e ↔ XK F w kv e.kids ∧ TxR2 F w pv e.params ∧ XA F w av e.arms e.bods := by
  obtain ⟨a, b, c, d, e, f, g, l, i, j, m⟩ := e
  rw [XI]
  rfl
theorem XI.frame {F G : Nat → Prop} {w w' : World} (hF : ∀ g, F g → G g ∧ w'.heap[g]? = w.heap[g]?) (e : Ex) : ∀ {kv pv av : Value}, XI F w kv pv av e → XI G w' kv pv av e := by
  induction e using ex_ind with
  | h e ih1 ih2 =>
    intro kv pv av h
    rw [XI_iff] at h ⊢
    obtain ⟨h1, h2, h3, h4⟩ := h
    refine ⟨?_, h2.frame hF, h3, ?_⟩
    · rcases h1 with h1 | ⟨g, o, cap, h5, h6, h7⟩
      · exact .inl h1
      · refine .inr ⟨g, o, cap, h5, (hF g h6).1, fun i hi => ?_⟩
        obtain ⟨k', p', a', h8, h9⟩ := h7 i hi
        refine ⟨k', p', a', ih1 _ (List.getElem_mem hi) h8, fun j u hj => ?_⟩
        rw [World.cell?_of_block (w := w) (hF g h6).2]
        exact h9 j u hj
    · rcases h4 with h4 | ⟨g, o, cap, h5, h6, h7⟩
      · exact .inl h4
      · refine .inr ⟨g, o, cap, h5, (hF g h6).1, fun i hi => ?_⟩
        obtain ⟨vv, k', p', a', h8, hs, h9⟩ := h7 i hi
        refine ⟨vv, k', p', a', ih2 _ (List.getElem_mem hi) h8, hs.frame hF, fun j u hj => ?_⟩
        rw [World.cell?_of_block (w := w) (hF g h6).2]
        exact h9 j u hj
theorem XK.frame {F G : Nat → Prop} {w w' : World} (hF : ∀ g, F g → G g ∧ w'.heap[g]? = w.heap[g]?) {kv : Value} {l : List Ex} (h : XK F w kv l) : XK G w' kv l := by
  rcases h with h1 | ⟨g, o, cap, h5, h6, h7⟩
  · exact .inl h1
  · refine .inr ⟨g, o, cap, h5, (hF g h6).1, fun i hi => ?_⟩
    obtain ⟨k', p', a', h8, h9⟩ := h7 i hi
    refine ⟨k', p', a', h8.frame hF, fun j u hj => ?_⟩
    rw [World.cell?_of_block (w := w) (hF g h6).2]
    exact h9 j u hj
theorem XA.frame {F G : Nat → Prop} {w w' : World} (hF : ∀ g, F g → G g ∧ w'.heap[g]? = w.heap[g]?) {av : Value} {ars : List (List UInt8 × List (List UInt8))} {l : List Ex} (h : XA F w av ars l) : XA G w' av ars l := by
  refine ⟨h.1, ?_⟩
  rcases h.2 with h4 | ⟨g, o, cap, h5, h6, h7⟩
  · exact .inl h4
  · refine .inr ⟨g, o, cap, h5, (hF g h6).1, fun i hi => ?_⟩
    obtain ⟨vv, k', p', a', h8, hs, h9⟩ := h7 i hi
    refine ⟨vv, k', p', a', h8.frame hF, hs.frame hF, fun j u hj => ?_⟩
    rw [World.cell?_of_block (w := w) (hF g h6).2]
    exact h9 j u hj
theorem XK.shape {F : Nat → Prop} {w : World} {v : Value} {l : List Ex} (h : XK F w v l) : ∃ a c, v = .slice a l.length c := by
  rcases h with ⟨a, c, rfl, rfl⟩ | ⟨g, o, cap, rfl, _⟩
  · exact ⟨a, c, rfl⟩
  · exact ⟨_, _, rfl⟩
theorem XA.shape {F : Nat → Prop} {w : World} {v : Value} {ars : List (List UInt8 × List (List UInt8))} {l : List Ex} (h : XA F w v ars l) : ∃ a c, v = .slice a l.length c := by
  rcases h.2 with ⟨a, c, rfl, rfl⟩ | ⟨g, o, cap, rfl, _⟩
  · exact ⟨a, c, rfl⟩
  · exact ⟨_, _, rfl⟩
/-- One of a row. -/
theorem XK.at {F : Nat → Prop} {w : World} {v : Value} {l : List Ex} (h : XK F w v l) (i : Nat) (hi : i < l.length) : ∃ g o cap k' p' a', v = .slice (some ⟨g, o, none⟩) l.length cap ∧ F g ∧ XI F w k' p' a' l[i] ∧
    w.cell? ⟨g, o + i * 9, none⟩ = some (.int .i64 (l[i].kind : Int)) ∧ w.cell? ⟨g, o + (i * 9 + 1), none⟩ = some (.int .i64 (l[i].place : Int)) ∧ w.cell? ⟨g, o + (i * 9 + 2), none⟩ = some (.string (str l[i].name)) ∧
    w.cell? ⟨g, o + (i * 9 + 3), none⟩ = some (.complex .f64 (floatOfInt .f64 l[i].re) (floatOfInt .f64 l[i].im)) ∧ w.cell? ⟨g, o + (i * 9 + 4), none⟩ = some (.string (str l[i].text)) ∧ w.cell? ⟨g, o + (i * 9 + 5), none⟩ = some (.string (str l[i].ty)) ∧
    w.cell? ⟨g, o + (i * 9 + 6), none⟩ = some k' ∧ w.cell? ⟨g, o + (i * 9 + 7), none⟩ = some p' ∧ w.cell? ⟨g, o + (i * 9 + 8), none⟩ = some a' := by
  rcases h with ⟨a, c, rfl, rfl⟩ | ⟨g, o, cap, rfl, hg, h⟩
  · simp at hi
  · obtain ⟨k', p', a', h1, h2⟩ := h i hi
    exact ⟨g, o, cap, k', p', a', rfl, hg, h1, h2 0 _ rfl, h2 1 _ rfl, h2 2 _ rfl, h2 3 _ rfl, h2 4 _ rfl, h2 5 _ rfl, h2 6 _ rfl, h2 7 _ rfl, h2 8 _ rfl⟩
theorem XK.nil (F : Nat → Prop) (w : World) : XK F w (.slice none 0 0) [] := .inl ⟨none, 0, rfl, rfl⟩
theorem XA.nil (F : Nat → Prop) (w : World) : XA F w (.slice none 0 0) [] [] := ⟨rfl, .inl ⟨none, 0, rfl, rfl⟩⟩
end Go.Proofs.Ytcokihblicgbpaa

namespace Go.Proofs.Ytcokihblicgbpaa

theorem bind_ok {α β : Type} (x : α) (f : α → PR β) : (Except.ok x : PR α).bind f = f x := rfl
theorem bind_error {α β : Type} (e : Nat × Nat) (f : α → PR β) : (Except.error e : PR α).bind f = .error e := rfl
theorem bind_bind {α β γ : Type} (r : PR α) (f : α → PR β) (g : β → PR γ) : (r.bind f).bind g = r.bind (fun x => (f x).bind g) := by
  cases r <;> rfl
def pathV (s : List UInt8) : Bool := valueR s || dotR false s
def pathB (s : List UInt8) : Bool := bigR s || dotR true s
/-- An arm, its body read. -/
def armX (m : List UInt8) (a : Tr) : PR ((List UInt8 × List (List UInt8)) × Ex) := armP a (exprP m (kid a 1))
def fillX (e : Ex) (ks : List Ex) (az : List ((List UInt8 × List (List UInt8)) × Ex)) : Ex := ⟨e.kind, e.place, e.name, e.re, e.im, e.text, e.ty, ks, e.params, az.map (·.1), az.map (·.2)⟩
def hasHeadX (t : Tr) : Bool := decide (t.kind = 1) && decide (0 < t.kids.length) && decide ((kid t 0).kind = 3)
def headX (t : Tr) : List UInt8 := if hasHeadX t = true then (kid t 0).text else []
/-- The Kind of what begins with h and has n Kids, the second of Kind k. -/
def kindH (h : List UInt8) (n k : Nat) : Nat :=
  if h = letK ∧ n = 4 ∧ k = 3 then 4 else if h = ifK ∧ n = 4 then 5 else if h = arrayL ∧ 2 ≤ n then 7 else if h = matchK ∧ 3 ≤ n then 9
  else if h = fnL ∧ n = 4 ∧ k = 1 then 10 else if h = callK ∧ 2 ≤ n then 11 else if isOp h = true then 6 else if isKey h = true then 0 else if pathB h = true then 8 else if pathV h = true then 12 else 0
def kindO (t : Tr) : Nat := kindH (headX t) t.kids.length (kid t 1).kind
def kindX (t : Tr) : Nat :=
  if t.kind = 4 then 2 else if t.kind = 1 then kindO t else if t.kind = 3 then (if (numP t.text).isSome = true then 1 else if pathV t.text = true then 3 else 0) else 0
/-- It has more of something than may be. -/
def crowdX (t : Tr) (k : Nat) : Bool :=
  if k = 7 then decide (34 < t.kids.length) else if k = 9 then decide (8 < t.kids.length) else if k = 8 then decide (5 < t.kids.length) else if k = 10 then decide (6 < (kid t 1).kids.length)
  else if k = 11 then decide (8 < t.kids.length) else if k = 12 then decide (7 < t.kids.length) else false
abbrev Shape : Type := Ex × List Tr × List Tr
/-- Of that Kind: the expression without Kids and Arms, and the trees that these are read of. -/
def shapeK (m : List UInt8) (t : Tr) (k : Nat) : PR Shape :=
  if k = 1 then .ok (⟨1, t.place, [], ((numP t.text).getD (0, 0)).1, ((numP t.text).getD (0, 0)).2, [], [], [], [], [], []⟩, [], [])
  else if k = 2 then .ok (⟨2, t.place, [], 0, 0, t.text, [], [], [], [], []⟩, [], [])
  else if k = 3 then .ok (exK 3 t t.text [], [], [])
  else if k = 4 then (nameP (kid t 1)).bind (fun x => .ok (exK 4 t x [], t.kids.drop 2, []))
  else if k = 5 then .ok (exK 5 t [] [], t.kids.drop 1, [])
  else if k = 7 then (readR m (kid t 1)).bind (fun y => .ok (⟨7, t.place, [], 0, 0, [], y, [], [], [], []⟩, t.kids.drop 2, []))
  else if k = 9 then .ok (exK 9 t [] [], [kid t 1], t.kids.drop 2)
  else if k = 10 then (seqP ((kid t 1).kids.map (paramP m))).bind (fun ps => (readR m (kid t 2)).bind (fun y => .ok (⟨10, t.place, [], 0, 0, [], y, [], ps, [], []⟩, t.kids.drop 3, [])))
  else if k = 11 then .ok (exK 11 t [] [], t.kids.drop 1, [])
  else .ok (exK k t (kid t 0).text [], t.kids.drop 1, [])
def shapeP (m : List UInt8) (t : Tr) : PR Shape :=
  if kindX t = 0 then .error (12, t.place) else if crowdX t (kindX t) = true then .error (19, t.place) else shapeK m t (kindX t)
def restP (m : List UInt8) (r : Shape) : PR Ex := (seqP (r.2.1.map (exprP m))).bind (fun ks => (seqP (r.2.2.map (armX m))).bind (fun az => .ok (fillX r.1 ks az)))
theorem fillX_nil (m : List UInt8) (e : Ex) (h1 : e.kids = []) (h2 : e.arms = []) (h3 : e.bods = []) : restP m (e, [], []) = .ok e := by
  obtain ⟨a, b, c, d, e, f, g, l, i, j, n⟩ := e
  simp only at h1 h2 h3
  subst h1 h2 h3
  rfl
theorem rest_kids (m : List UInt8) (e : Ex) (l : List Tr) (f : List Ex → Ex) (h : ∀ ks, fillX e ks [] = f ks) : restP m (e, l, []) = (seqP (l.map (exprP m))).bind (fun ks => .ok (f ks)) := by
  unfold restP
  congr 1
  funext ks
  rw [← h ks]
  rfl
theorem map_drop (m : List UInt8) (l : List Tr) (n : Nat) : (l.map (exprP m)).drop n = (l.drop n).map (exprP m) := (List.map_drop).symm
theorem kid_map {α : Type} (f : Tr → α) (t : Tr) (i : Nat) (d : α) (h : i < t.kids.length) : (t.kids.map f).getD i d = f (kid t i) := by
  simp [kid, List.getD_eq_getElem?_getD, h]
theorem arms_eq (m : List UInt8) (l : List Tr) : armsP (l.zip ((l.map (fun k => k.kids.map (exprP m))).map (fun l => l.getD 1 (.error (0, 0))))) = seqP (l.map (armX m)) := by
  unfold armsP
  congr 1
  induction l with
  | nil => rfl
  | cons a l ih =>
    simp only [List.map_cons, List.zip_cons_cons, List.cons.injEq]
    refine ⟨?_, ih⟩
    unfold armX armP
    by_cases h : a.kind ≠ 1 ∨ a.kids.length ≠ 2 ∨ (kid a 0).kind ≠ 1
    · rw [if_pos h, if_pos h]
    · rw [if_neg h, if_neg h, kid_map (exprP m) a 1 _ (by omega)]
theorem headP_rest (m : List UInt8) (t : Tr) (h : hasHeadX t = true) : headP m t (kid t 0).text (t.kids.map (exprP m)) (t.kids.map (fun k => k.kids.map (exprP m))) = (shapeP m t).bind (restP m) := by
  have hh := h
  simp only [hasHeadX, Bool.and_eq_true, decide_eq_true_eq] at hh
  obtain ⟨⟨h1, h2⟩, h3⟩ := hh
  have hX : headX t = (kid t 0).text := by rw [headX, if_pos h]
  have hk : kindX t = kindH (kid t 0).text t.kids.length (kid t 1).kind := by
    unfold kindX
    rw [if_neg (by omega), if_pos h1, kindO, hX]
  unfold shapeP
  rw [hk]
  generalize hw : (kid t 0).text = w at *
  have D : ∃ K, K = kindH w t.kids.length (kid t 1).kind := ⟨_, rfl⟩
  obtain ⟨K, D⟩ := D
  rw [← D]
  unfold kindH at D
  unfold headP
  by_cases c1 : w = letK
  · subst c1
    rw [if_pos rfl]
    by_cases c : t.kids.length ≠ 4 ∨ (kid t 1).kind ≠ 3
    · rw [if_neg (by rintro ⟨_, h⟩; omega), if_neg (by rintro ⟨h, _⟩; revert h; decide), if_neg (by rintro ⟨h, _⟩; revert h; decide), if_neg (by rintro ⟨h, _⟩; revert h; decide), if_neg (by rintro ⟨h, _⟩; revert h; decide), if_neg (by rintro ⟨h, _⟩; revert h; decide), if_neg (by decide), if_pos (by decide)] at D
      subst D
      rw [if_pos c, if_pos rfl]
      rfl
    · rw [if_pos ⟨rfl, by omega, by omega⟩] at D
      subst D
      rw [if_neg c, if_neg (by decide), if_neg (by simp [crowdX])]
      simp only [shapeK, if_neg (show ¬ (4 : Nat) = 1 by decide), if_neg (show ¬ (4 : Nat) = 2 by decide), if_neg (show ¬ (4 : Nat) = 3 by decide), if_true, bind_bind, bind_ok]
      congr 1
      funext x
      rw [rest_kids m _ _ (fun ks => exK 4 t x ks) (fun ks => rfl), map_drop]
  rw [if_neg c1]
  rw [if_neg (fun h => c1 h.1)] at D
  by_cases c2 : w = ifK
  · subst c2
    rw [if_pos rfl]
    by_cases c : t.kids.length ≠ 4
    · rw [if_neg (fun h => c h.2), if_neg (by rintro ⟨h, _⟩; revert h; decide), if_neg (by rintro ⟨h, _⟩; revert h; decide), if_neg (by rintro ⟨h, _⟩; revert h; decide), if_neg (by rintro ⟨h, _⟩; revert h; decide), if_neg (by decide), if_pos (by decide)] at D
      subst D
      rw [if_pos c, if_pos rfl]
      rfl
    · rw [if_pos ⟨rfl, by omega⟩] at D
      subst D
      rw [if_neg c, if_neg (by decide), if_neg (by simp [crowdX])]
      simp only [shapeK, if_neg (show ¬ (5 : Nat) = 1 by decide), if_neg (show ¬ (5 : Nat) = 2 by decide), if_neg (show ¬ (5 : Nat) = 3 by decide), if_neg (show ¬ (5 : Nat) = 4 by decide), if_true, bind_ok]
      rw [rest_kids m _ _ (fun ks => exK 5 t [] ks) (fun ks => rfl), map_drop]
  rw [if_neg c2]
  rw [if_neg (fun h => c2 h.1)] at D
  by_cases c3 : w = arrayL
  · subst c3
    rw [if_pos rfl]
    by_cases c : t.kids.length < 2
    · rw [if_neg (fun h => by omega), if_neg (by rintro ⟨h, _⟩; revert h; decide), if_neg (by rintro ⟨h, _⟩; revert h; decide), if_neg (by rintro ⟨h, _⟩; revert h; decide), if_neg (by decide), if_pos (by decide)] at D
      subst D
      rw [if_pos c, if_pos rfl]
      rfl
    · rw [if_pos ⟨rfl, by omega⟩] at D
      subst D
      rw [if_neg c, if_neg (show ¬ (7 : Nat) = 0 by decide)]
      by_cases c' : 34 < t.kids.length
      · rw [if_pos c', if_pos (by simp [crowdX]; omega)]
        rfl
      · rw [if_neg c', if_neg (by simp [crowdX]; omega)]
        simp only [shapeK, if_neg (show ¬ (7 : Nat) = 1 by decide), if_neg (show ¬ (7 : Nat) = 2 by decide), if_neg (show ¬ (7 : Nat) = 3 by decide), if_neg (show ¬ (7 : Nat) = 4 by decide), if_neg (show ¬ (7 : Nat) = 5 by decide), if_true, bind_bind, bind_ok]
        congr 1
        funext y
        rw [rest_kids m _ _ (fun ks => ⟨7, t.place, [], 0, 0, [], y, ks, [], [], []⟩) (fun ks => rfl), map_drop]
  rw [if_neg c3]
  rw [if_neg (fun h => c3 h.1)] at D
  by_cases c4 : w = matchK
  · subst c4
    rw [if_pos rfl]
    by_cases c : t.kids.length < 3
    · rw [if_neg (fun h => by omega), if_neg (by rintro ⟨h, _⟩; revert h; decide), if_neg (by rintro ⟨h, _⟩; revert h; decide), if_neg (by decide), if_pos (by decide)] at D
      subst D
      rw [if_pos c, if_pos rfl]
      rfl
    · rw [if_pos ⟨rfl, by omega⟩] at D
      subst D
      rw [if_neg c, if_neg (show ¬ (9 : Nat) = 0 by decide)]
      by_cases c' : 6 < t.kids.length - 2
      · rw [if_pos c', if_pos (by simp [crowdX]; omega)]
        rfl
      · rw [if_neg c', if_neg (by simp [crowdX]; omega)]
        simp only [shapeK, if_neg (show ¬ (9 : Nat) = 1 by decide), if_neg (show ¬ (9 : Nat) = 2 by decide), if_neg (show ¬ (9 : Nat) = 3 by decide), if_neg (show ¬ (9 : Nat) = 4 by decide), if_neg (show ¬ (9 : Nat) = 5 by decide), if_neg (show ¬ (9 : Nat) = 7 by decide), if_true, bind_ok]
        have e2 : (t.kids.map (fun k => k.kids.map (exprP m))).drop 2 = (t.kids.drop 2).map (fun k => k.kids.map (exprP m)) := (List.map_drop).symm
        rw [kid_map (exprP m) t 1 _ (by omega), e2, arms_eq]
        unfold restP
        simp only [List.map_cons, List.map_nil]
        cases exprP m (kid t 1) with
        | error e => rfl
        | ok k => rfl
  rw [if_neg c4]
  rw [if_neg (fun h => c4 h.1)] at D
  by_cases c5 : w = fnL
  · subst c5
    rw [if_pos rfl]
    by_cases c : t.kids.length ≠ 4 ∨ (kid t 1).kind ≠ 1
    · rw [if_neg (fun h => by omega), if_neg (by rintro ⟨h, _⟩; revert h; decide), if_neg (by decide), if_pos (by decide)] at D
      subst D
      rw [if_pos c, if_pos rfl]
      rfl
    · rw [if_pos ⟨rfl, by omega, by omega⟩] at D
      subst D
      rw [if_neg c, if_neg (show ¬ (10 : Nat) = 0 by decide)]
      by_cases c' : 6 < (kid t 1).kids.length
      · rw [if_pos c', if_pos (by simp [crowdX]; omega)]
        rfl
      · rw [if_neg c', if_neg (by simp [crowdX]; omega)]
        simp only [shapeK, if_neg (show ¬ (10 : Nat) = 1 by decide), if_neg (show ¬ (10 : Nat) = 2 by decide), if_neg (show ¬ (10 : Nat) = 3 by decide), if_neg (show ¬ (10 : Nat) = 4 by decide), if_neg (show ¬ (10 : Nat) = 5 by decide), if_neg (show ¬ (10 : Nat) = 7 by decide), if_neg (show ¬ (10 : Nat) = 9 by decide), if_true, bind_bind, bind_ok]
        congr 1
        funext ps
        congr 1
        funext y
        rw [rest_kids m _ _ (fun ks => ⟨10, t.place, [], 0, 0, [], y, ks, ps, [], []⟩) (fun ks => rfl), map_drop]
  rw [if_neg c5]
  rw [if_neg (fun h => c5 h.1)] at D
  by_cases c6 : w = callK
  · subst c6
    rw [if_pos rfl]
    by_cases c : t.kids.length < 2
    · rw [if_neg (fun h => by omega), if_neg (by decide), if_pos (by decide)] at D
      subst D
      rw [if_pos c, if_pos rfl]
      rfl
    · rw [if_pos ⟨rfl, by omega⟩] at D
      subst D
      rw [if_neg c, if_neg (show ¬ (11 : Nat) = 0 by decide)]
      by_cases c' : 6 < t.kids.length - 2
      · rw [if_pos c', if_pos (by simp [crowdX]; omega)]
        rfl
      · rw [if_neg c', if_neg (by simp [crowdX]; omega)]
        simp only [shapeK, if_neg (show ¬ (11 : Nat) = 1 by decide), if_neg (show ¬ (11 : Nat) = 2 by decide), if_neg (show ¬ (11 : Nat) = 3 by decide), if_neg (show ¬ (11 : Nat) = 4 by decide), if_neg (show ¬ (11 : Nat) = 5 by decide), if_neg (show ¬ (11 : Nat) = 7 by decide), if_neg (show ¬ (11 : Nat) = 9 by decide), if_neg (show ¬ (11 : Nat) = 10 by decide), if_true, bind_ok]
        rw [rest_kids m _ _ (fun ks => exK 11 t [] ks) (fun ks => rfl), map_drop]
  rw [if_neg c6]
  rw [if_neg (fun h => c6 h.1)] at D
  by_cases c7 : isOp w = true
  · rw [if_pos c7] at D
    subst D
    rw [if_pos c7, if_neg (show ¬ (6 : Nat) = 0 by decide), if_neg (by simp [crowdX])]
    simp only [shapeK, if_neg (show ¬ (6 : Nat) = 1 by decide), if_neg (show ¬ (6 : Nat) = 2 by decide), if_neg (show ¬ (6 : Nat) = 3 by decide), if_neg (show ¬ (6 : Nat) = 4 by decide), if_neg (show ¬ (6 : Nat) = 5 by decide), if_neg (show ¬ (6 : Nat) = 7 by decide), if_neg (show ¬ (6 : Nat) = 9 by decide), if_neg (show ¬ (6 : Nat) = 10 by decide), if_neg (show ¬ (6 : Nat) = 11 by decide), bind_ok]
    rw [rest_kids m _ _ (fun ks => exK 6 t (kid t 0).text ks) (fun ks => rfl), map_drop, hw]
  rw [if_neg c7]
  rw [if_neg c7] at D
  by_cases c8 : isKey w = true
  · have hb : ¬ (bigR w = true ∨ dotR true w = true) := by
      have : ∀ x ∈ wordsL, ¬ (bigR x = true ∨ dotR true x = true) := by decide
      exact this w (by simpa [isKey] using c8)
    have hv : ¬ ((valueR w = true ∧ isKey w = false) ∨ dotR false w = true) := by
      have : ∀ x ∈ wordsL, ¬ (dotR false x = true) := by decide
      rintro (⟨_, h⟩ | h)
      · rw [c8] at h; cases h
      · exact this w (by simpa [isKey] using c8) h
    rw [if_pos c8] at D
    subst D
    rw [if_neg hb, if_neg hv, if_pos rfl]
    rfl
  rw [if_neg c8] at D
  by_cases c9 : bigR w = true ∨ dotR true w = true
  · rw [if_pos (show pathB w = true by simpa [pathB] using c9)] at D
    subst D
    rw [if_pos c9, if_neg (show ¬ (8 : Nat) = 0 by decide)]
    by_cases c' : 4 < t.kids.length - 1
    · rw [if_pos c', if_pos (by simp [crowdX]; omega)]
      rfl
    · rw [if_neg c', if_neg (by simp [crowdX]; omega)]
      simp only [shapeK, if_neg (show ¬ (8 : Nat) = 1 by decide), if_neg (show ¬ (8 : Nat) = 2 by decide), if_neg (show ¬ (8 : Nat) = 3 by decide), if_neg (show ¬ (8 : Nat) = 4 by decide), if_neg (show ¬ (8 : Nat) = 5 by decide), if_neg (show ¬ (8 : Nat) = 7 by decide), if_neg (show ¬ (8 : Nat) = 9 by decide), if_neg (show ¬ (8 : Nat) = 10 by decide), if_neg (show ¬ (8 : Nat) = 11 by decide), bind_ok]
      rw [rest_kids m _ _ (fun ks => exK 8 t (kid t 0).text ks) (fun ks => rfl), map_drop, hw]
  rw [if_neg c9]
  rw [if_neg (show ¬ pathB w = true by simpa [pathB] using c9)] at D
  have hkf : isKey w = false := by simpa using c8
  by_cases c10 : (valueR w = true ∧ isKey w = false) ∨ dotR false w = true
  · have hp : pathV w = true := by
      rcases c10 with h | h
      · simp [pathV, h.1]
      · simp [pathV, h]
    rw [if_pos hp] at D
    subst D
    rw [if_pos c10, if_neg (show ¬ (12 : Nat) = 0 by decide)]
    by_cases c' : 6 < t.kids.length - 1
    · rw [if_pos c', if_pos (by simp [crowdX]; omega)]
      rfl
    · rw [if_neg c', if_neg (by simp [crowdX]; omega)]
      simp only [shapeK, if_neg (show ¬ (12 : Nat) = 1 by decide), if_neg (show ¬ (12 : Nat) = 2 by decide), if_neg (show ¬ (12 : Nat) = 3 by decide), if_neg (show ¬ (12 : Nat) = 4 by decide), if_neg (show ¬ (12 : Nat) = 5 by decide), if_neg (show ¬ (12 : Nat) = 7 by decide), if_neg (show ¬ (12 : Nat) = 9 by decide), if_neg (show ¬ (12 : Nat) = 10 by decide), if_neg (show ¬ (12 : Nat) = 11 by decide), bind_ok]
      rw [rest_kids m _ _ (fun ks => exK 12 t (kid t 0).text ks) (fun ks => rfl), map_drop, hw]
  · have hp : ¬ pathV w = true := by
      intro h
      simp only [pathV, Bool.or_eq_true] at h
      exact c10 (h.elim (fun h => .inl ⟨h, hkf⟩) .inr)
    rw [if_neg hp] at D
    subst D
    rw [if_neg c10, if_pos rfl]
    rfl
/-- An expression: its own part, then the rest. -/
theorem expr_shape (m : List UInt8) (t : Tr) : exprP m t = (shapeP m t).bind (restP m) := by
  rw [exprP_eq]
  unfold formP
  by_cases k4 : t.kind = 4
  · have : kindX t = 2 := by simp [kindX, k4]
    rw [if_pos k4, shapeP, this, if_neg (by decide), if_neg (by simp [crowdX])]
    rfl
  rw [if_neg k4]
  by_cases k3 : t.kind = 3
  · rw [if_pos k3]
    cases hn : numP t.text with
    | some p =>
      obtain ⟨a, b⟩ := p
      have : kindX t = 1 := by simp [kindX, k3, hn]
      simp only
      rw [shapeP, this, if_neg (by decide), if_neg (by simp [crowdX])]
      simp only [shapeK, if_true, hn, Option.getD_some]
      rfl
    | none =>
      simp only
      by_cases hv : valueR t.text = true ∨ dotR false t.text = true
      · have : kindX t = 3 := by simp [kindX, k3, hn, pathV, hv]
        rw [if_pos hv, shapeP, this, if_neg (by decide), if_neg (by simp [crowdX])]
        rfl
      · have : kindX t = 0 := by simp [kindX, k3, hn, pathV]; simpa using hv
        rw [if_neg hv, shapeP, this, if_pos rfl]
        rfl
  rw [if_neg k3]
  by_cases hh : hasHeadX t = true
  · have hh' := hh
    simp only [hasHeadX, Bool.and_eq_true, decide_eq_true_eq] at hh'
    rw [if_neg (by omega)]
    exact headP_rest m t hh
  · have hh' := hh
    simp only [hasHeadX, Bool.and_eq_true, decide_eq_true_eq] at hh'
    have : kindX t = 0 := by
      unfold kindX
      rw [if_neg k4]
      by_cases k1 : t.kind = 1
      · rw [if_pos k1, kindO, headX, if_neg hh]
        simp [kindH, letK, ifK, arrayL, matchK, fnL, callK]
        decide
      · rw [if_neg k1, if_neg k3]
    rw [if_pos (by omega), shapeP, this, if_pos rfl]
    rfl
end Go.Proofs.Ytcokihblicgbpaa

namespace Go.Proofs.Ytcokihblicgbpaa
open Go.RowKit

/-- What is left to be read: a tree, at an address, and where it goes: an expression or an arm. -/
structure Pt where
  tg : Nat
  tj : Nat
  tree : Tr
  arm : Bool
  dg : Nat
  dj : Nat
def pcell (p : Pt) : List Value := [.pointer (some ⟨p.tg, p.tj, none⟩), .pointer (if p.arm = true then none else some ⟨p.dg, p.dj, none⟩), .pointer (if p.arm = true then some ⟨p.dg, p.dj, none⟩ else none)]
def pcells (l : List Pt) : List Value := l.flatMap pcell
theorem pcells_append (a b : List Pt) : pcells (a ++ b) = pcells a ++ pcells b := by simp [pcells]
theorem pcells_one (p : Pt) : pcells [p] = pcell p := by simp [pcells]
theorem pcells_length : ∀ l : List Pt, (pcells l).length = l.length * 3
  | [] => rfl
  | p :: l => by
    have := pcells_length l
    simp only [pcells, List.flatMap_cons, List.length_append, List.length_cons] at this ⊢
    rw [this, show (pcell p).length = 3 from rfl]
    omega
def whyOf : Option (Nat × Nat) → Nat
  | none => 0
  | some e => e.1
def atOf : Option (Nat × Nat) → Nat
  | none => 0
  | some e => e.2
/-- Block d, xs in the middle of it. -/
def At (u : World) (d : Nat) (pre xs post : List Value) (T : Nat) : Prop := u.heap[d]? = some (.cells (pre ++ xs ++ post).toArray T (0, 0))
theorem At.lt {u : World} {d : Nat} {pre xs post : List Value} {T : Nat} (h : At u d pre xs post T) : d < u.heap.size := (Array.getElem?_eq_some_iff.1 h).1
theorem At.cell {d : Nat} {u : World} {pre xs post : List Value} {T : Nat} (h : At u d pre xs post T) {j : Nat} {v : Value} (hj : xs[j]? = some v) : u.cell? ⟨d, pre.length + j, none⟩ = some v := by
  rw [cell_of_row u d _ _ _ _ h]
  simp only [List.getElem?_toArray]
  rw [List.append_assoc, List.getElem?_append_right (by omega), Nat.add_sub_cancel_left, List.getElem?_append_left (List.getElem?_eq_some_iff.1 hj).1]
  exact hj
theorem At.frozen {d : Nat} {u : World} {pre xs post : List Value} {T : Nat} (h : At u d pre xs post T) (j : Nat) : u.frozen? ⟨d, j, none⟩ = false := frozen_of_row u d j _ _ h
theorem At.set {d : Nat} {u : World} {pre xs post : List Value} {T : Nat} (h : At u d pre xs post T) (j : Nat) (hj : j < xs.length) (v : Value) : At (u.setCell ⟨d, pre.length + j, none⟩ v) d pre (xs.set j v) post T := by
  unfold At at h ⊢
  rw [heap_setCell_same u d (pre.length + j) _ _ v h]
  congr 2
  rw [List.setIfInBounds_toArray, List.append_assoc, List.set_append_right _ _ (by omega), Nat.add_sub_cancel_left, List.set_append_left _ _ hj, ← List.append_assoc]
/-- Nothing yet. -/
def zeroX : Ex := ⟨0, 0, [], 0, 0, [], [], [], [], [], []⟩
def exz : List Value := exc zeroX (.slice none 0 0) (.slice none 0 0) (.slice none 0 0)
def arz : List Value := .string (str []) :: .slice none 0 0 :: exz
def zeros (z : List Value) (n : Nat) : List Value := (List.replicate n z).flatten
theorem zeros_succ (z : List Value) (n : Nat) : zeros z (n + 1) = z ++ zeros z n := by simp [zeros, List.replicate_succ]
end Go.Proofs.Ytcokihblicgbpaa

namespace Go.Proofs.Ytcokihblicgbpaa
open Go.RowKit

theorem zeros_length (z : List Value) : ∀ n, (zeros z n).length = n * z.length
  | 0 => by simp [zeros]
  | n + 1 => by
    rw [zeros_succ, List.length_append, zeros_length z n, Nat.add_mul, Nat.one_mul, Nat.add_comm]
theorem zeros_get (z : List Value) (hz : 0 < z.length) : ∀ (n j : Nat), j < n * z.length → (zeros z n)[j]? = z[j % z.length]?
  | 0, j, h => by simp at h
  | n + 1, j, h => by
    rw [zeros_succ]
    rcases Nat.lt_or_ge j z.length with hj | hj
    · rw [List.getElem?_append_left hj, Nat.mod_eq_of_lt hj]
    · rw [List.getElem?_append_right hj, zeros_get z hz n (j - z.length) (by rw [Nat.add_mul, Nat.one_mul] at h; omega), Nat.mod_eq_sub_mod hj]
theorem made_zeros (z : Array Value) (hz : 0 < z.size) (n : Nat) : madeCells z (n * z.size) = (zeros z.toList n).toArray := by
  have hl : (zeros z.toList n).length = n * z.size := by rw [zeros_length, Array.length_toList]
  apply Array.ext'
  apply List.ext_getElem?
  intro j
  simp only [madeCells]
  by_cases hj : j < n * z.size
  · rw [zeros_get z.toList (by simpa using hz) n j (by simpa using hj)]
    simp [hj, Array.length_toList]
    have : j % z.size < z.size := Nat.mod_lt _ hz
    simp [this]
  · rw [List.getElem?_eq_none (l := (zeros z.toList n).toArray.toList) (by simp only [hl]; omega)]
    exact List.getElem?_eq_none (by simp; omega)
/-- 'make' of n. -/
theorem mk_run {t e : TypeId} {z : List Value} {bytes : Nat} (hz : 0 < z.length) (ht : Try.prog.underlying t = some (.slice e)) (h : (Try.prog.info? e).map (fun i => (i.zero.map (fun v => v.cells), i.size, i.bytes)) = some (some z.toArray, z.length, bytes)) (w : World) (n : Nat) (hn : n ≤ 20000) (hb : bytes ≤ 10000) :
    (Instr.makeSlice t (.int .i64 (n : Int)) (.int .i64 (n : Int))).run Try.prog w = .ok (.slice (some ⟨w.heap.size, 0, none⟩) n n) (w.alloc (.cells (zeros z n).toArray e)) := by
  obtain ⟨i, hi, h2⟩ := Option.map_eq_some_iff.1 h
  simp only [Prod.mk.injEq] at h2
  obtain ⟨v, hv, hc⟩ := Option.map_eq_some_iff.1 h2.1
  have hm : i.bytes * n ≤ 10000 * 20000 := Nat.mul_le_mul (by omega) hn
  have hr := run_make (P := Try.prog) w t e i v ht hi hv .i64 .i64 n n (by omega) (Int.le_refl _) (by
    have : ((i.bytes * n : Nat) : Int) ≤ 281474976710656 := by omega
    rwa [Int.natCast_mul] at this) (by omega)
  simp only [Int.toNat_natCast] at hr
  rw [hr, hc, h2.2.1]
  have := made_zeros z.toArray (by simpa using hz) n
  simp only [List.size_toArray] at this
  rw [this]
def strz : List Value := [.string (str [])]
def parz : List Value := [.string (str []), .string (str [])]
def casz : List Value := [.string (str []), .slice none 0 0]
theorem zinfo_S : (Try.prog.info? 9).map (fun i => (i.zero.map (fun v => v.cells), i.size, i.bytes)) = some (some strz.toArray, strz.length, 16) := by kernel_rfl
theorem zinfo_P : (Try.prog.info? 40).map (fun i => (i.zero.map (fun v => v.cells), i.size, i.bytes)) = some (some parz.toArray, parz.length, 32) := by kernel_rfl
theorem zinfo_C : (Try.prog.info? 136).map (fun i => (i.zero.map (fun v => v.cells), i.size, i.bytes)) = some (some casz.toArray, casz.length, 40) := by kernel_rfl
theorem zinfo_X : (Try.prog.info? 27).map (fun i => (i.zero.map (fun v => v.cells), i.size, i.bytes)) = some (some exz.toArray, exz.length, 152) := by kernel_rfl
theorem zinfo_A : (Try.prog.info? 73).map (fun i => (i.zero.map (fun v => v.cells), i.size, i.bytes)) = some (some arz.toArray, arz.length, 192) := by kernel_rfl
theorem mk_S (w : World) (n : Nat) (hn : n ≤ 20000) : (Instr.makeSlice 30 (.int .i64 (n : Int)) (.int .i64 (n : Int))).run Try.prog w = .ok (.slice (some ⟨w.heap.size, 0, none⟩) n n) (w.alloc (.cells (zeros strz n).toArray 9)) := mk_run (by decide) Try.underlying30 zinfo_S w n hn (by decide)
theorem mk_P (w : World) (n : Nat) (hn : n ≤ 20000) : (Instr.makeSlice 24 (.int .i64 (n : Int)) (.int .i64 (n : Int))).run Try.prog w = .ok (.slice (some ⟨w.heap.size, 0, none⟩) n n) (w.alloc (.cells (zeros parz n).toArray 40)) := mk_run (by decide) Try.underlying24 zinfo_P w n hn (by decide)
theorem mk_C (w : World) (n : Nat) (hn : n ≤ 20000) : (Instr.makeSlice 132 (.int .i64 (n : Int)) (.int .i64 (n : Int))).run Try.prog w = .ok (.slice (some ⟨w.heap.size, 0, none⟩) n n) (w.alloc (.cells (zeros casz n).toArray 136)) := mk_run (by decide) Try.underlying132 zinfo_C w n hn (by decide)
theorem mk_X (w : World) (n : Nat) (hn : n ≤ 20000) : (Instr.makeSlice 23 (.int .i64 (n : Int)) (.int .i64 (n : Int))).run Try.prog w = .ok (.slice (some ⟨w.heap.size, 0, none⟩) n n) (w.alloc (.cells (zeros exz n).toArray 27)) := mk_run (by decide) Try.underlying23 zinfo_X w n hn (by decide)
theorem mk_A (w : World) (n : Nat) (hn : n ≤ 20000) : (Instr.makeSlice 25 (.int .i64 (n : Int)) (.int .i64 (n : Int))).run Try.prog w = .ok (.slice (some ⟨w.heap.size, 0, none⟩) n n) (w.alloc (.cells (zeros arz n).toArray 73)) := mk_run (by decide) Try.underlying25 zinfo_A w n hn (by decide)
theorem at_new (w : World) (xs : List Value) (T : Nat) : At (w.alloc (.cells xs.toArray T)) w.heap.size [] xs [] T := by
  unfold At
  rw [List.nil_append, List.append_nil]
  exact heap_alloc_new w _
end Go.Proofs.Ytcokihblicgbpaa
