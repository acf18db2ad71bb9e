/-
  What the chapter on types says, as functions over lists of bytes: the words, the type with which a text begins, what stands behind it; the named types in it. No program in it.
  And: What follows of the chapter on types: a type is read alike whatever comes behind it; its parts; what is made of types is one. No program in it.
-/
import Derived.Test.YtfjppbpicmniaaaGreatDoorG02
import Derived.Lib.Join
namespace Go.Proofs.YtfjppbpicmniaaaGreatDoor

def isSign (c : UInt8) : Bool := decide (c.toNat = 91) || decide (c.toNat = 93) || decide (c.toNat = 40) || decide (c.toNat = 41) || decide (c.toNat = 44)
def notSign (c : UInt8) : Bool := !isSign c
/-- What a text begins with, up to a sign. -/
def wordR (l : List UInt8) : List UInt8 := l.takeWhile notSign
def notDot (c : UInt8) : Bool := !decide (c.toNat = 46)
def aheadR (l : List UInt8) : List UInt8 := l.takeWhile notDot
def behindR (l : List UInt8) : List UInt8 := l.drop ((aheadR l).length + 1)
/-- A named type. -/
def namedR (l : List UInt8) : Bool := valueR (aheadR l) && bigR (behindR l)
def numL : List UInt8 := [110, 117, 109]
def bytesL : List UInt8 := [98, 121, 116, 101, 115]
def wordOk (l : List UInt8) : Bool := namedR l || decide (l = numL) || decide (l = bytesL)

def isHead (n : Nat) (l : List UInt8) : Bool := l.head?.any (fun d => decide (d.toNat = n))
theorem isHead_cons (n : Nat) (d : UInt8) (y : List UInt8) : isHead n (d :: y) = decide (d.toNat = n) := rfl
theorem isHead_pos {n : Nat} {l : List UInt8} (h : isHead n l = true) : ∃ d y, l = d :: y ∧ d.toNat = n := by
  cases l with
  | nil => cases h
  | cons d y => exact ⟨d, y, rfl, by rw [isHead_cons] at h; exact of_decide_eq_true h⟩
/-- What is left behind the type with which a text begins (0); behind the parameters of which k are read, up to their bracket (k). -/
def gF : Nat → Nat → List UInt8 → Option (List UInt8)
  | 0, _, _ => none
  | _ + 1, 0, [] => none
  | f + 1, 0, c :: r =>
    if c.toNat = 91 then (gF f 0 r).bind (fun x => match x with | [] => none | d :: y => if d.toNat = 93 then some y else none)
    else if c.toNat = 40 then
      if isHead 41 r then gF f 0 r.tail else (gF f 0 r).bind (fun x => (gF f 1 x).bind (gF f 0))
    else if wordOk (wordR (c :: r)) then some ((c :: r).drop (wordR (c :: r)).length) else none
  | _ + 1, _ + 1, [] => none
  | f + 1, k + 1, c :: r => if c.toNat = 41 then some r else if c.toNat = 44 ∧ k + 1 < 6 then (gF f 0 r).bind (gF f (k + 2)) else none

theorem wordOk_nil : wordOk [] = false := by decide
theorem wordOk_pos {l : List UInt8} (h : wordOk l = true) : 0 < l.length := by
  cases l with
  | nil => rw [wordOk_nil] at h; cases h
  | cons => simp

theorem gF_len : ∀ (f k : Nat) (l r : List UInt8), gF f k l = some r → r.length < l.length
  | 0, _, _, _, h => by simp [gF] at h
  | f + 1, 0, [], _, h => by simp [gF] at h
  | f + 1, 0, c :: l, r, h => by
    rw [gF] at h
    split at h
    · obtain ⟨x, h1, h2⟩ := Option.bind_eq_some_iff.1 h
      have := gF_len f 0 l x h1
      split at h2
      · cases h2
      · rename_i d y
        split at h2
        · cases h2; simp at this ⊢; omega
        · cases h2
    · split at h
      · split at h
        · rename_i hh
          obtain ⟨d, y, rfl, _⟩ := isHead_pos hh
          have := gF_len f 0 y r h
          simp at this ⊢; omega
        · obtain ⟨x, h1, h2⟩ := Option.bind_eq_some_iff.1 h
          obtain ⟨z, h3, h4⟩ := Option.bind_eq_some_iff.1 h2
          have a1 := gF_len f 0 _ x h1
          have a2 := gF_len f 1 x z h3
          have a3 := gF_len f 0 z r h4
          simp; omega
      · split at h
        · rename_i hw
          have := wordOk_pos hw
          cases h
          simp at this ⊢
          omega
        · cases h
  | f + 1, k + 1, [], _, h => by simp [gF] at h
  | f + 1, k + 1, c :: l, r, h => by
    rw [gF] at h
    split at h
    · cases h; simp
    · split at h
      · obtain ⟨x, h1, h2⟩ := Option.bind_eq_some_iff.1 h
        have a1 := gF_len f 0 l x h1
        have a2 := gF_len f (k + 2) x r h2
        simp; omega
      · cases h

theorem bind_same {α β : Type} {a : Option α} {f g : α → Option β} (h : ∀ x, a = some x → f x = g x) : a.bind f = a.bind g := by
  cases a with
  | none => rfl
  | some x => exact h x rfl

theorem gF_fuel : ∀ (f g k : Nat) (l : List UInt8), l.length < f → l.length < g → gF f k l = gF g k l
  | 0, _, _, _, h, _ => by omega
  | _ + 1, 0, _, _, _, h => by omega
  | f + 1, g + 1, 0, [], _, _ => by simp [gF]
  | f + 1, g + 1, k + 1, [], _, _ => by simp [gF]
  | f + 1, g + 1, 0, c :: l, hf, hg => by
    simp only [List.length_cons] at hf hg
    have e : gF f 0 l = gF g 0 l := gF_fuel f g 0 l (by omega) (by omega)
    rw [gF, gF, e]
    split
    · rfl
    · split
      · split
        · exact gF_fuel f g 0 _ (by simp; omega) (by simp; omega)
        · refine bind_same (fun x hx => ?_)
          have a1 := gF_len g 0 _ x hx
          rw [gF_fuel f g 1 x (by omega) (by omega)]
          refine bind_same (fun z hz => ?_)
          have a2 := gF_len g 1 x z hz
          exact gF_fuel f g 0 z (by omega) (by omega)
      · rfl
  | f + 1, g + 1, k + 1, c :: l, hf, hg => by
    simp only [List.length_cons] at hf hg
    rw [gF, gF]
    split
    · rfl
    · split
      · rw [gF_fuel f g 0 l (by omega) (by omega)]
        refine bind_same (fun x hx => ?_)
        have a1 := gF_len g 0 _ x hx
        exact gF_fuel f g (k + 2) x (by omega) (by omega)
      · rfl

/-- What is left behind the type with which a text begins. -/
def one (l : List UInt8) : Option (List UInt8) := gF (l.length + 1) 0 l
/-- What is left behind the parameters, k of which (and one) are read. -/
def tl (k : Nat) (l : List UInt8) : Option (List UInt8) := gF (l.length + 1) (k + 1) l

theorem one_len {l r : List UInt8} (h : one l = some r) : r.length < l.length := gF_len _ _ _ _ h
theorem tl_len {k : Nat} {l r : List UInt8} (h : tl k l = some r) : r.length < l.length := gF_len _ _ _ _ h
theorem one_nil : one [] = none := by simp [one, gF]
theorem one_arr {c : UInt8} (r : List UInt8) (h : c.toNat = 91) : one (c :: r) = (one r).bind (fun x => match x with | [] => none | d :: y => if d.toNat = 93 then some y else none) := by
  simp only [one, List.length_cons]
  rw [gF, if_pos h]
theorem one_fn0 {c d : UInt8} (r : List UInt8) (h : c.toNat = 40) (hd : d.toNat = 41) : one (c :: d :: r) = one r := by
  simp only [one, List.length_cons]
  rw [gF, if_neg (by omega), if_pos h, if_pos (by rw [isHead_cons]; exact decide_eq_true hd)]
  exact gF_fuel _ _ _ _ (by simp) (by simp)
theorem one_fn {c : UInt8} (r : List UInt8) (h : c.toNat = 40) (hd : ∀ d y, r = d :: y → d.toNat ≠ 41) : one (c :: r) = (one r).bind (fun x => (tl 0 x).bind one) := by
  simp only [one, List.length_cons]
  rw [gF, if_neg (by omega), if_pos h, if_neg (by
    intro hh
    obtain ⟨d, y, e, h1⟩ := isHead_pos hh
    exact hd d y e h1)]
  refine bind_same (fun x hx => ?_)
  have a1 := gF_len _ 0 _ x hx
  rw [tl, gF_fuel (r.length + 1) (x.length + 1) 1 x (by omega) (by omega)]
  refine bind_same (fun z hz => ?_)
  have a2 := gF_len _ 1 x z hz
  exact gF_fuel _ _ 0 z (by omega) (by omega)
theorem one_word {c : UInt8} (r : List UInt8) (h : c.toNat ≠ 91) (h2 : c.toNat ≠ 40) : one (c :: r) = if wordOk (wordR (c :: r)) then some ((c :: r).drop (wordR (c :: r)).length) else none := by
  simp only [one, List.length_cons]
  rw [gF, if_neg h, if_neg h2]
theorem tl_nil (k : Nat) : tl k [] = none := by simp [tl, gF]
theorem tl_close {c : UInt8} (k : Nat) (r : List UInt8) (h : c.toNat = 41) : tl k (c :: r) = some r := by
  simp only [tl, List.length_cons]
  rw [gF, if_pos h]
theorem tl_comma {c : UInt8} (k : Nat) (r : List UInt8) (h : c.toNat = 44) (hk : k + 1 < 6) : tl k (c :: r) = (one r).bind (tl (k + 1)) := by
  simp only [tl, one, List.length_cons]
  rw [gF, if_neg (by omega), if_pos ⟨h, hk⟩]
  refine bind_same (fun x hx => ?_)
  have a1 := gF_len _ 0 _ x hx
  exact gF_fuel _ _ _ x (by omega) (by omega)
theorem tl_bad {c : UInt8} (k : Nat) (r : List UInt8) (h : c.toNat ≠ 41) (h2 : ¬ (c.toNat = 44 ∧ k + 1 < 6)) : tl k (c :: r) = none := by
  simp only [tl, List.length_cons]
  rw [gF, if_neg h, if_neg h2]

/-! By a stack: of each open bracket its parameters so far, 0 if it is an array's; the top first. -/
def behS : List Nat → List UInt8 → Option (List UInt8)
  | [], l => some l
  | 0 :: st, l => (match l with | [] => none | d :: y => if d.toNat = 93 then some y else none).bind (behS st)
  | (k + 1) :: st, l => (tl k l).bind (fun r => (one r).bind (behS st))
def begS (st : List Nat) (l : List UInt8) : Option (List UInt8) := (one l).bind (behS st)

theorem begS_nil (st : List Nat) : begS st [] = none := by rw [begS, one_nil]; rfl
theorem begS_arr {c : UInt8} (st : List Nat) (r : List UInt8) (h : c.toNat = 91) : begS st (c :: r) = begS (0 :: st) r := by
  rw [begS, one_arr r h, Option.bind_assoc]; rfl
theorem begS_fn0 {c d : UInt8} (st : List Nat) (r : List UInt8) (h : c.toNat = 40) (hd : d.toNat = 41) : begS st (c :: d :: r) = begS st r := by
  rw [begS, one_fn0 r h hd]; rfl
theorem begS_fn {c : UInt8} (st : List Nat) (r : List UInt8) (h : c.toNat = 40) (hd : ∀ d y, r = d :: y → d.toNat ≠ 41) : begS st (c :: r) = begS (1 :: st) r := by
  rw [begS, one_fn r h hd, Option.bind_assoc, begS]
  refine bind_same (fun x _ => ?_)
  rw [Option.bind_assoc]; rfl
theorem begS_word {c : UInt8} (st : List Nat) (r : List UInt8) (h : c.toNat ≠ 91) (h2 : c.toNat ≠ 40) (hw : wordOk (wordR (c :: r)) = true) : begS st (c :: r) = behS st ((c :: r).drop (wordR (c :: r)).length) := by
  rw [begS, one_word r h h2, if_pos hw]; rfl
theorem begS_bad {c : UInt8} (st : List Nat) (r : List UInt8) (h : c.toNat ≠ 91) (h2 : c.toNat ≠ 40) (hw : wordOk (wordR (c :: r)) = false) : begS st (c :: r) = none := by
  rw [begS, one_word r h h2, if_neg (by rw [hw]; decide)]; rfl
theorem behS_end (l : List UInt8) : behS [] l = some l := rfl
theorem behS_nil (k : Nat) (st : List Nat) : behS (k :: st) [] = none := by
  cases k with
  | zero => rfl
  | succ k => rw [behS, tl_nil]; rfl
theorem behS_arr {d : UInt8} (st : List Nat) (y : List UInt8) (h : d.toNat = 93) : behS (0 :: st) (d :: y) = behS st y := by
  simp [behS, h]
theorem behS_arr_bad {d : UInt8} (st : List Nat) (y : List UInt8) (h : d.toNat ≠ 93) : behS (0 :: st) (d :: y) = none := by
  simp [behS, h]
theorem behS_close {d : UInt8} (k : Nat) (st : List Nat) (y : List UInt8) (h : d.toNat = 41) : behS ((k + 1) :: st) (d :: y) = begS st y := by
  rw [behS, tl_close k y h]; rfl
theorem behS_comma {d : UInt8} (k : Nat) (st : List Nat) (y : List UInt8) (h : d.toNat = 44) (hk : k + 1 < 6) : behS ((k + 1) :: st) (d :: y) = begS ((k + 2) :: st) y := by
  rw [behS, tl_comma k y h hk, Option.bind_assoc]; rfl
theorem behS_bad {d : UInt8} (k : Nat) (st : List Nat) (y : List UInt8) (h : d.toNat ≠ 41) (h2 : ¬ (d.toNat = 44 ∧ k + 1 < 6)) : behS ((k + 1) :: st) (d :: y) = none := by
  rw [behS, tl_bad k y h h2]; rfl

/-- Where the type ends that begins at a place. -/
def endI (L : List UInt8) (p : Nat) : Int :=
  match one (L.drop p) with
  | none => -1
  | some r => (L.length : Int) - (r.length : Int)
def rightR (l : List UInt8) : Bool := decide (l.length ≤ 200) && decide (one l = some [])

/-- The named types in a text, in its order. -/
def nwF : Nat → List UInt8 → List (List UInt8)
  | 0, _ => []
  | f + 1, l => (if namedR (wordR l) then [wordR l] else []) ++ (if l.length ≤ (wordR l).length + 1 then [] else nwF f (l.drop ((wordR l).length + 1)))
def nw (l : List UInt8) : List (List UInt8) := nwF (l.length + 1) l
theorem nwF_fuel : ∀ (f g : Nat) (l : List UInt8), l.length < f → l.length < g → nwF f l = nwF g l
  | 0, _, _, h, _ => by omega
  | _ + 1, 0, _, _, h => by omega
  | f + 1, g + 1, l, hf, hg => by
    rw [nwF, nwF]
    congr 1
    split
    · rfl
    · rename_i h
      exact nwF_fuel f g _ (by simp; omega) (by simp; omega)
theorem nw_eq (l : List UInt8) : nw l = (if namedR (wordR l) then [wordR l] else []) ++ (if l.length ≤ (wordR l).length + 1 then [] else nw (l.drop ((wordR l).length + 1))) := by
  rw [nw, nwF]
  congr 1
  split
  · rfl
  · rename_i h
    exact nwF_fuel _ _ _ (by simp; omega) (by omega)
theorem namedR_nil : namedR [] = false := by decide
theorem nw_nil : nw [] = [] := by rw [nw_eq]; simp [wordR, namedR_nil]
theorem nw_next (l : List UInt8) : nw l = (if namedR (wordR l) then [wordR l] else []) ++ nw (l.drop ((wordR l).length + 1)) := by
  rw [nw_eq]
  congr 1
  split
  · rename_i h
    rw [List.drop_eq_nil_of_le h, nw_nil]
  · rfl
/-- Behind a sign the named types go on by themselves. -/
theorem nw_append : ∀ (n : Nat) (a b : List UInt8) (c : UInt8), a.length ≤ n → isSign c = true → nw (a ++ c :: b) = nw a ++ nw b := by
  intro n
  induction n with
  | zero =>
    intro a b c h hc
    have : a = [] := List.eq_nil_of_length_eq_zero (by omega)
    subst this
    have hw : wordR (c :: b) = [] := by simp [wordR, notSign, hc]
    rw [List.nil_append, nw_next, hw, nw_nil]
    simp [namedR_nil]
  | succ n ih =>
    intro a b c h hc
    by_cases ha : wordR a = a
    · have hw : wordR (a ++ c :: b) = a := by
        have hall : ∀ x ∈ a, notSign x = true := by
          intro x hx
          rw [← ha] at hx
          exact List.all_eq_true.1 (List.all_takeWhile (l := a)) x hx
        rw [wordR, List.takeWhile_append_of_pos hall]
        simp [notSign, hc]
      rw [nw_next (a ++ c :: b), hw, nw_next a, ha]
      rw [List.drop_append, List.drop_eq_nil_of_le (by omega : a.length ≤ a.length + 1), nw_nil]
      simp
    · have hlt : (wordR a).length < a.length := by
        have h1 : (wordR a) <+: a := List.takeWhile_prefix _
        rcases Nat.lt_or_ge (wordR a).length a.length with h2 | h2
        · exact h2
        · exact absurd (h1.eq_of_length_le h2) ha
      have hw : wordR (a ++ c :: b) = wordR a := by
        rw [wordR, List.takeWhile_append, if_neg (by have : (List.takeWhile notSign a).length < a.length := hlt; omega)]
        rfl
      rw [nw_next (a ++ c :: b), hw, nw_next a, List.drop_append_of_le_length (by omega), ih _ b c (by simp; omega) hc, List.append_assoc]
end Go.Proofs.YtfjppbpicmniaaaGreatDoor

namespace Go.Proofs.YtfjppbpicmniaaaGreatDoor

/-- Behind a word: nothing, or a sign. -/
def okB (l : List UInt8) : Prop := l = [] ∨ ∃ c r, l = c :: r ∧ isSign c = true
theorem gF_suffix : ∀ (f k : Nat) (l r : List UInt8), gF f k l = some r → ∃ x, x ≠ [] ∧ l = x ++ r
  | 0, _, _, _, h => by simp [gF] at h
  | f + 1, 0, [], _, h => by simp [gF] at h
  | f + 1, 0, c :: l, r, h => by
    rw [gF] at h
    split at h
    · obtain ⟨x, h1, h2⟩ := Option.bind_eq_some_iff.1 h
      obtain ⟨z, _, e⟩ := gF_suffix f 0 l x h1
      split at h2
      · cases h2
      · rename_i d y
        split at h2
        · cases h2
          exact ⟨c :: (z ++ [d]), by simp, by simp [e]⟩
        · cases h2
    · split at h
      · split at h
        · rename_i hh
          obtain ⟨d, y, rfl, _⟩ := isHead_pos hh
          obtain ⟨z, _, e⟩ := gF_suffix f 0 y r h
          exact ⟨c :: d :: z, by simp, by simp [e]⟩
        · obtain ⟨x, h1, h2⟩ := Option.bind_eq_some_iff.1 h
          obtain ⟨y, h3, h4⟩ := Option.bind_eq_some_iff.1 h2
          obtain ⟨z1, _, e1⟩ := gF_suffix f 0 _ x h1
          obtain ⟨z2, _, e2⟩ := gF_suffix f 1 x y h3
          obtain ⟨z3, _, e3⟩ := gF_suffix f 0 y r h4
          exact ⟨c :: (z1 ++ z2 ++ z3), by simp, by simp [e1, e2, e3]⟩
      · split at h
        · rename_i hw
          have := wordOk_pos hw
          cases h
          exact ⟨wordR (c :: l), fun e => by rw [e] at this; simp at this, by
            conv => lhs; rw [← List.take_append_drop (wordR (c :: l)).length (c :: l)]
            rw [wordR, take_tw]⟩
        · cases h
  | f + 1, k + 1, [], _, h => by simp [gF] at h
  | f + 1, k + 1, c :: l, r, h => by
    rw [gF] at h
    split at h
    · cases h; exact ⟨[c], by simp, rfl⟩
    · split at h
      · obtain ⟨x, h1, h2⟩ := Option.bind_eq_some_iff.1 h
        obtain ⟨z1, _, e1⟩ := gF_suffix f 0 l x h1
        obtain ⟨z2, _, e2⟩ := gF_suffix f (k + 2) x r h2
        exact ⟨c :: (z1 ++ z2), by simp, by simp [e1, e2]⟩
      · cases h
theorem one_suffix {l r : List UInt8} (h : one l = some r) : ∃ x, x ≠ [] ∧ l = x ++ r := gF_suffix _ _ _ _ h

theorem word_all (l : List UInt8) : ∀ x ∈ wordR l, notSign x = true := fun x hx => List.all_eq_true.1 (List.all_takeWhile (l := l)) x hx
theorem word_stop {x r : List UInt8} (h : ∀ c ∈ x, notSign c = true) (hr : okB r) : wordR (x ++ r) = x := by
  rw [wordR, List.takeWhile_append_of_pos h]
  rcases hr with rfl | ⟨c, r, rfl, hc⟩
  · simp
  · simp [notSign, hc]
theorem sign_of {c : UInt8} (h : c.toNat = 91 ∨ c.toNat = 93 ∨ c.toNat = 40 ∨ c.toNat = 41 ∨ c.toNat = 44) : isSign c = true := by
  rcases h with h | h | h | h | h <;> simp [isSign, h]

/-- What is read of a text hangs on what is read alone. -/
theorem gF_loc : ∀ (f k : Nat) (x r : List UInt8), gF f k (x ++ r) = some r →
    (k = 0 → ∀ r', okB r' → one (x ++ r') = some r') ∧ (∀ j, k = j + 1 → ∀ r', tl j (x ++ r') = some r')
  | 0, _, _, _, h => by simp [gF] at h
  | f + 1, k, [], r, h => by
    have := gF_len _ _ _ _ h
    simp at this
  | f + 1, 0, c :: x, r, h => by
    refine ⟨fun _ r' hr' => ?_, fun j hj => by omega⟩
    rw [List.cons_append] at h ⊢
    rw [gF] at h
    split at h
    · rename_i hc
      obtain ⟨q, h1, h2⟩ := Option.bind_eq_some_iff.1 h
      split at h2
      · cases h2
      · rename_i d y
        split at h2
        · rename_i hd
          simp only [Option.some.injEq] at h2
          subst h2
          obtain ⟨z, _, e⟩ := gF_suffix f 0 _ _ h1
          have e' : x = z ++ [d] := by
            have : x ++ y = (z ++ [d]) ++ y := by rw [e]; simp
            exact List.append_cancel_right this
          subst e'
          rw [e] at h1
          have := (gF_loc f 0 z (d :: y) h1).1 rfl (d :: r') (.inr ⟨d, r', rfl, sign_of (by omega)⟩)
          rw [one_arr _ hc, List.append_assoc, List.singleton_append, this]
          simp [hd]
        · cases h2
    · rename_i h91
      split at h
      · rename_i hc
        split at h
        · rename_i hh
          obtain ⟨d, y, e, hd⟩ := isHead_pos hh
          rw [e, List.tail_cons] at h
          obtain ⟨z, _, e2⟩ := gF_suffix f 0 _ _ h
          have e' : x = d :: z := by
            have : x ++ r = (d :: z) ++ r := by rw [e, e2]; simp
            exact List.append_cancel_right this
          subst e'
          rw [e2] at h
          rw [List.cons_append, one_fn0 _ hc hd]
          exact (gF_loc f 0 z r h).1 rfl r' hr'
        · rename_i hh
          obtain ⟨a, h1, h2⟩ := Option.bind_eq_some_iff.1 h
          obtain ⟨b, h3, h4⟩ := Option.bind_eq_some_iff.1 h2
          obtain ⟨z1, n1, e1⟩ := gF_suffix f 0 _ a h1
          obtain ⟨z2, n2, e2⟩ := gF_suffix f 1 a b h3
          obtain ⟨z3, _, e3⟩ := gF_suffix f 0 b r h4
          have e' : x = z1 ++ z2 ++ z3 := by
            have : x ++ r = (z1 ++ z2 ++ z3) ++ r := by rw [e1, e2, e3]; simp
            exact List.append_cancel_right this
          have i1 := (gF_loc f 0 z1 a (by rw [← e1]; exact h1)).1 rfl
          have i2 := (gF_loc f 1 z2 b (by rw [← e2]; exact h3)).2 0 rfl
          have i3 := (gF_loc f 0 z3 r (by rw [← e3]; exact h4)).1 rfl r' hr'
          have ha : okB (z2 ++ (z3 ++ r')) := by
            cases z2 with
            | nil => exact absurd rfl n2
            | cons d z2 =>
              refine .inr ⟨d, _, rfl, ?_⟩
              rw [e2, List.cons_append] at h3
              cases f with
              | zero => simp [gF] at h3
              | succ f =>
                rw [gF] at h3
                split at h3
                · rename_i hd; exact sign_of (by omega)
                · split at h3
                  · rename_i hd; exact sign_of (by omega)
                  · cases h3
          have hnh : ∀ d y, x ++ r' = d :: y → d.toNat ≠ 41 := by
            intro d y he hd
            refine hh ?_
            cases z1 with
            | nil => exact absurd rfl n1
            | cons d' z1 =>
              rw [e', List.cons_append, List.cons_append, List.cons_append] at he
              simp only [List.cons.injEq] at he
              rw [e1, List.cons_append, isHead_cons]
              exact decide_eq_true (by rw [he.1]; exact hd)
          rw [one_fn _ hc hnh, e', show z1 ++ z2 ++ z3 ++ r' = z1 ++ (z2 ++ (z3 ++ r')) from by simp, i1 _ ha]
          simp only [Option.bind_some]
          rw [i2]
          simp only [Option.bind_some]
          exact i3
      · rename_i h40
        split at h
        · rename_i hw
          simp only [Option.some.injEq] at h
          have hx : wordR (c :: (x ++ r)) = c :: x := by
            have h1 := List.take_append_drop (wordR (c :: (x ++ r))).length (c :: (x ++ r))
            rw [h, wordR, take_tw] at h1
            have h2 : wordR (c :: (x ++ r)) ++ r = (c :: x) ++ r := h1
            exact List.append_cancel_right h2
          rw [hx] at hw
          have hall := word_all (c :: (x ++ r))
          rw [hx] at hall
          rw [one_word _ h91 h40, ← List.cons_append, word_stop hall hr', if_pos hw]
          simp
        · cases h
  | f + 1, k + 1, c :: x, r, h => by
    refine ⟨fun hk => by omega, fun j hj r' => ?_⟩
    obtain rfl : k = j := by omega
    rw [List.cons_append] at h ⊢
    rw [gF] at h
    split at h
    · rename_i hc
      simp only [Option.some.injEq] at h
      have e' : x = [] := by
        have : x ++ r = [] ++ r := h
        exact List.append_cancel_right this
      subst e'
      exact tl_close k r' hc
    · split at h
      · rename_i hc
        obtain ⟨a, h1, h2⟩ := Option.bind_eq_some_iff.1 h
        obtain ⟨z1, _, e1⟩ := gF_suffix f 0 _ a h1
        obtain ⟨z2, n2, e2⟩ := gF_suffix f (k + 2) a r h2
        have e' : x = z1 ++ z2 := by
          have : x ++ r = (z1 ++ z2) ++ r := by rw [e1, e2]; simp
          exact List.append_cancel_right this
        have i1 := (gF_loc f 0 z1 a (by rw [← e1]; exact h1)).1 rfl
        have i2 := (gF_loc f (k + 2) z2 r (by rw [← e2]; exact h2)).2 (k + 1) rfl r'
        have ha : okB (z2 ++ r') := by
          cases z2 with
          | nil => exact absurd rfl n2
          | cons d z2 =>
            refine .inr ⟨d, _, rfl, ?_⟩
            rw [e2, List.cons_append] at h2
            cases f with
            | zero => simp [gF] at h2
            | succ f =>
              rw [gF] at h2
              split at h2
              · rename_i hd; exact sign_of (by omega)
              · split at h2
                · rename_i hd; exact sign_of (by omega)
                · cases h2
        rw [tl_comma k _ hc.1 hc.2, e', List.append_assoc, i1 _ ha]
        simp only [Option.bind_some]
        exact i2
      · cases h
theorem one_loc {x r r' : List UInt8} (h : one (x ++ r) = some r) (hr : okB r') : one (x ++ r') = some r' := (gF_loc _ _ _ _ h).1 rfl r' hr
theorem one_ahead {x r : List UInt8} (h : one x = some []) (hr : okB r) : one (x ++ r) = some r := one_loc (r := []) (by rw [List.append_nil]; exact h) hr
theorem one_piece {x r : List UInt8} (h : one (x ++ r) = some r) : one x = some [] := by
  have := one_loc (r' := []) h (.inl rfl)
  rwa [List.append_nil] at this

/-- Parameters parted by commas. -/
def joinR (ps : List (List UInt8)) : List UInt8 := Lib.join ps [44]
def arrR (x : List UInt8) : List UInt8 := 91 :: (x ++ [93])
def funcR (ps : List (List UInt8)) (r : List UInt8) : List UInt8 := 40 :: (joinR ps ++ 41 :: r)
theorem joinR_nil : joinR [] = [] := rfl
theorem joinR_one (x : List UInt8) : joinR [x] = x := Lib.join_one x [44]
theorem joinR_two (x y : List UInt8) (r : List (List UInt8)) : joinR (x :: y :: r) = x ++ 44 :: joinR (y :: r) := by
  rw [joinR, joinR, Lib.join_cons, Lib.join_cons]
  simp [Lib.joinTail]
theorem one_arrR {x : List UInt8} (h : one x = some []) : one (arrR x) = some [] := by
  rw [arrR, one_arr _ (by rfl), one_ahead h (.inr ⟨93, [], rfl, rfl⟩)]
  simp
/-- From behind k commas on. -/
theorem one_params : ∀ (ps : List (List UInt8)) (p : List UInt8) (k : Nat) (r : List UInt8), (∀ x ∈ p :: ps, one x = some []) → ps.length + k < 6 →
    (one (joinR (p :: ps) ++ 41 :: r)).bind (tl k) = some r
  | [], p, k, r, h, _ => by
    rw [joinR_one, one_ahead (h p (by simp)) (.inr ⟨41, r, rfl, rfl⟩)]
    exact tl_close k r rfl
  | q :: ps, p, k, r, h, hk => by
    simp only [List.length_cons] at hk
    rw [joinR_two, List.append_assoc, List.cons_append, one_ahead (h p (by simp)) (.inr ⟨44, _, rfl, rfl⟩)]
    simp only [Option.bind_some]
    rw [tl_comma k _ rfl (by omega)]
    exact one_params ps q (k + 1) r (fun x hx => h x (List.mem_cons_of_mem _ hx)) (by omega)
theorem right_head {p : List UInt8} (h : one p = some []) : ∀ d y r, p ++ r = d :: y → d.toNat ≠ 41 := by
  intro d y r he hd
  cases p with
  | nil => rw [one_nil] at h; cases h
  | cons c p =>
    rw [List.cons_append] at he
    simp only [List.cons.injEq] at he
    obtain ⟨rfl, _⟩ := he
    have hw : wordR (c :: p) = [] := by simp [wordR, notSign, sign_of (c := c) (by omega)]
    rw [one_word p (by omega) (by omega), hw, wordOk_nil] at h
    simp at h
theorem one_funcR {ps : List (List UInt8)} {r : List UInt8} (h : ∀ x ∈ ps, one x = some []) (hr : one r = some []) (hn : ps.length ≤ 6) : one (funcR ps r) = some [] := by
  cases ps with
  | nil => rw [funcR, joinR_nil, List.nil_append, one_fn0 r rfl rfl, hr]
  | cons p ps =>
    have hh : ∀ d y, joinR (p :: ps) ++ 41 :: r = d :: y → d.toNat ≠ 41 := by
      intro d y he
      cases ps with
      | nil => rw [joinR_one] at he; exact right_head (h p (by simp)) d y _ he
      | cons q ps => rw [joinR_two, List.append_assoc] at he; exact right_head (h p (by simp)) d y _ he
    rw [funcR, one_fn _ rfl hh]
    have := one_params ps p 0 r h (by simp at hn; omega)
    rw [← Option.bind_assoc, this]
    exact hr

/-- The parameters from here on, and what stands behind their bracket. -/
def psF : Nat → List UInt8 → List (List UInt8) × List UInt8
  | 0, _ => ([], [])
  | f + 1, l =>
    match one l with
    | none => ([], [])
    | some [] => ([], [])
    | some (c :: r) => if c.toNat = 44 then (l.take (l.length - (r.length + 1)) :: (psF f r).1, (psF f r).2) else ([l.take (l.length - (r.length + 1))], r)
theorem psF_fuel : ∀ (f g : Nat) (l : List UInt8), l.length < f → l.length < g → psF f l = psF g l
  | 0, _, _, h, _ => by omega
  | _ + 1, 0, _, _, h => by omega
  | f + 1, g + 1, l, hf, hg => by
    rw [psF, psF]
    split
    · rfl
    · rfl
    · rename_i c r h
      have := one_len h
      simp only [List.length_cons] at this
      rw [psF_fuel f g r (by omega) (by omega)]
def psQ (l : List UInt8) : List (List UInt8) × List UInt8 := psF (l.length + 1) l
theorem psQ_some {l r : List UInt8} {c : UInt8} (h : one l = some (c :: r)) : psQ l = if c.toNat = 44 then (l.take (l.length - (r.length + 1)) :: (psQ r).1, (psQ r).2) else ([l.take (l.length - (r.length + 1))], r) := by
  have hl := one_len h
  simp only [List.length_cons] at hl
  rw [psQ, psF, h]
  simp only
  rw [psF_fuel l.length (r.length + 1) r (by omega) (by omega)]
  rfl
theorem psQ_piece {p r : List UInt8} {c : UInt8} (h : one p = some []) (hc : c.toNat = 44 ∨ c.toNat = 41) : psQ (p ++ c :: r) = if c.toNat = 44 then (p :: (psQ r).1, (psQ r).2) else ([p], r) := by
  rw [psQ_some (one_ahead h (.inr ⟨c, r, rfl, sign_of (by omega)⟩))]
  simp
def partsR (l : List UInt8) : List (List UInt8) × List UInt8 := if isHead 41 l.tail then ([], l.tail.tail) else psQ l.tail
theorem psQ_join : ∀ (ps : List (List UInt8)) (p r : List UInt8), (∀ x ∈ p :: ps, one x = some []) → psQ (joinR (p :: ps) ++ 41 :: r) = (p :: ps, r)
  | [], p, r, h => by
    rw [joinR_one, psQ_piece (h p (by simp)) (.inr rfl)]
    rfl
  | q :: ps, p, r, h => by
    rw [joinR_two, List.append_assoc, List.cons_append, psQ_piece (h p (by simp)) (.inl rfl), psQ_join ps q r (fun x hx => h x (List.mem_cons_of_mem _ hx))]
    rfl
theorem partsR_funcR {ps : List (List UInt8)} (r : List UInt8) (h : ∀ x ∈ ps, one x = some []) : partsR (funcR ps r) = (ps, r) := by
  cases ps with
  | nil => rfl
  | cons p ps =>
    have hh : isHead 41 (joinR (p :: ps) ++ 41 :: r) = false := by
      rw [Bool.eq_false_iff]
      intro he
      obtain ⟨d, y, e, hd⟩ := isHead_pos he
      cases ps with
      | nil => rw [joinR_one] at e; exact right_head (h p (by simp)) d y _ e hd
      | cons q ps => rw [joinR_two, List.append_assoc] at e; exact right_head (h p (by simp)) d y _ e hd
    rw [partsR, funcR, List.tail_cons, hh]
    exact psQ_join ps p r h
/-- The parameters go on from here, k of them (and one) being read. -/
def Goes (k : Nat) (l : List UInt8) : Prop := (one l).bind (fun x => (tl k x).bind one) = some []
theorem goes_next {k : Nat} {l : List UInt8} (h : Goes k l) : ∃ c r, one l = some (c :: r) ∧ ((c.toNat = 41 ∧ one r = some []) ∨ (c.toNat = 44 ∧ k + 1 < 6 ∧ Goes (k + 1) r)) := by
  obtain ⟨x, h1, h2⟩ := Option.bind_eq_some_iff.1 h
  obtain ⟨y, h3, h4⟩ := Option.bind_eq_some_iff.1 h2
  cases x with
  | nil => rw [tl_nil] at h3; cases h3
  | cons c r =>
    refine ⟨c, r, h1, ?_⟩
    by_cases c1 : c.toNat = 41
    · rw [tl_close k r c1] at h3
      simp only [Option.some.injEq] at h3
      subst h3
      exact .inl ⟨c1, h4⟩
    · by_cases c2 : c.toNat = 44 ∧ k + 1 < 6
      · rw [tl_comma k r c2.1 c2.2] at h3
        refine .inr ⟨c2.1, c2.2, ?_⟩
        obtain ⟨z, h5, h6⟩ := Option.bind_eq_some_iff.1 h3
        unfold Goes
        rw [h5]
        simp only [Option.bind_some]
        rw [h6]
        exact h4
      · rw [tl_bad k r c1 c2] at h3
        cases h3
theorem goes_first {c : UInt8} {l : List UInt8} (hc : c.toNat = 40) (h : one (c :: l) = some []) (hn : isHead 41 l = false) : Goes 0 l := by
  rw [one_fn l hc (by rintro d y rfl hd; rw [isHead_cons, decide_eq_true hd] at hn; cases hn)] at h
  exact h
theorem goes_text : ∀ (n k : Nat) (l : List UInt8), l.length ≤ n → k < 6 → Goes k l → ∃ p ps r, psQ l = (p :: ps, r) ∧ l = joinR (p :: ps) ++ 41 :: r ∧ (∀ x ∈ p :: ps, one x = some []) ∧ one r = some [] ∧ ps.length + k < 6
  | 0, k, l, hn, _, h => by
    obtain ⟨c, r, h1, _⟩ := goes_next h
    have := one_len h1
    omega
  | n + 1, k, l, hn, hk6, h => by
    obtain ⟨c, r, h1, h2⟩ := goes_next h
    have hl := one_len h1
    simp only [List.length_cons] at hl
    obtain ⟨x, _, e⟩ := one_suffix h1
    have hx : one x = some [] := one_piece (by rw [← e]; exact h1)
    have hp : l.take (l.length - (r.length + 1)) = x := by rw [e]; simp
    have hq := psQ_some h1
    rw [hp] at hq
    rcases h2 with ⟨hc, hr⟩ | ⟨hc, hk, hg⟩
    · rw [if_neg (by omega)] at hq
      have hc' : c = 41 := UInt8.toNat_inj.1 hc
      refine ⟨x, [], r, hq, by rw [joinR_one, e, hc'], by simpa using hx, hr, by simpa using hk6⟩
    · rw [if_pos hc] at hq
      have hc' : c = 44 := UInt8.toNat_inj.1 hc
      obtain ⟨p, ps, r', e1, e2, e3, e4, e5⟩ := goes_text n (k + 1) r (by omega) hk hg
      rw [e1] at hq
      refine ⟨x, p :: ps, r', hq, by rw [joinR_two, e, hc', List.append_assoc, List.cons_append, ← e2], ?_, e4, by simp; omega⟩
      intro y hy
      simp only [List.mem_cons] at hy
      rcases hy with rfl | hy
      · exact hx
      · exact e3 y (by simpa using hy)
end Go.Proofs.YtfjppbpicmniaaaGreatDoor
