/-
  What the chapter on types says, as functions over lists of bytes: the words, the type with which a text begins, what stands behind it; the named types in it. No program in it.
-/
import Derived.Test.YtcjddbponknnoaaGreatDoorTreeSpec
namespace Go.Proofs.YtcjddbponknnoaaGreatDoor

def isSign (c : UInt8) : Bool := decide (c.toNat = 91) || decide (c.toNat = 93) || decide (c.toNat = 40) || decide (c.toNat = 41) || decide (c.toNat = 44)
def notSign (c : UInt8) : Bool := !isSign c
/-- What a text begins with, up to a sign. -/
def wordR (l : List UInt8) : List UInt8 := l.takeWhile notSign
def notDot (c : UInt8) : Bool := !decide (c.toNat = 46)
def aheadR (l : List UInt8) : List UInt8 := l.takeWhile notDot
def behindR (l : List UInt8) : List UInt8 := l.drop ((aheadR l).length + 1)
/-- A named type. -/
def namedR (l : List UInt8) : Bool := valueR (aheadR l) && bigR (behindR l)
def numL : List UInt8 := [110, 117, 109]
def bytesL : List UInt8 := [98, 121, 116, 101, 115]
def wordOk (l : List UInt8) : Bool := namedR l || decide (l = numL) || decide (l = bytesL)

def isHead (n : Nat) (l : List UInt8) : Bool := l.head?.any (fun d => decide (d.toNat = n))
theorem isHead_cons (n : Nat) (d : UInt8) (y : List UInt8) : isHead n (d :: y) = decide (d.toNat = n) := rfl
theorem isHead_pos {n : Nat} {l : List UInt8} (h : isHead n l = true) : ∃ d y, l = d :: y ∧ d.toNat = n := by
  cases l with
  | nil => cases h
  | cons d y => exact ⟨d, y, rfl, by rw [isHead_cons] at h; exact of_decide_eq_true h⟩
/-- What is left behind the type with which a text begins (0); behind the parameters of which k are read, up to their bracket (k). -/
def gF : Nat → Nat → List UInt8 → Option (List UInt8)
  | 0, _, _ => none
  | _ + 1, 0, [] => none
  | f + 1, 0, c :: r =>
    if c.toNat = 91 then (gF f 0 r).bind (fun x => match x with | [] => none | d :: y => if d.toNat = 93 then some y else none)
    else if c.toNat = 40 then
      if isHead 41 r then gF f 0 r.tail else (gF f 0 r).bind (fun x => (gF f 1 x).bind (gF f 0))
    else if wordOk (wordR (c :: r)) then some ((c :: r).drop (wordR (c :: r)).length) else none
  | _ + 1, _ + 1, [] => none
  | f + 1, k + 1, c :: r => if c.toNat = 41 then some r else if c.toNat = 44 ∧ k + 1 < 6 then (gF f 0 r).bind (gF f (k + 2)) else none

theorem wordOk_nil : wordOk [] = false := by decide
theorem wordOk_pos {l : List UInt8} (h : wordOk l = true) : 0 < l.length := by
  cases l with
  | nil => rw [wordOk_nil] at h; cases h
  | cons => simp

theorem gF_len : ∀ (f k : Nat) (l r : List UInt8), gF f k l = some r → r.length < l.length
  | 0, _, _, _, h => by simp [gF] at h
  | f + 1, 0, [], _, h => by simp [gF] at h
  | f + 1, 0, c :: l, r, h => by
    rw [gF] at h
    split at h
    · obtain ⟨x, h1, h2⟩ := Option.bind_eq_some_iff.1 h
      have := gF_len f 0 l x h1
      split at h2
      · cases h2
      · rename_i d y
        split at h2
        · cases h2; simp at this ⊢; omega
        · cases h2
    · split at h
      · split at h
        · rename_i hh
          obtain ⟨d, y, rfl, _⟩ := isHead_pos hh
          have := gF_len f 0 y r h
          simp at this ⊢; omega
        · obtain ⟨x, h1, h2⟩ := Option.bind_eq_some_iff.1 h
          obtain ⟨z, h3, h4⟩ := Option.bind_eq_some_iff.1 h2
          have a1 := gF_len f 0 _ x h1
          have a2 := gF_len f 1 x z h3
          have a3 := gF_len f 0 z r h4
          simp; omega
      · split at h
        · rename_i hw
          have := wordOk_pos hw
          cases h
          simp at this ⊢
          omega
        · cases h
  | f + 1, k + 1, [], _, h => by simp [gF] at h
  | f + 1, k + 1, c :: l, r, h => by
    rw [gF] at h
    split at h
    · cases h; simp
    · split at h
      · obtain ⟨x, h1, h2⟩ := Option.bind_eq_some_iff.1 h
        have a1 := gF_len f 0 l x h1
        have a2 := gF_len f (k + 2) x r h2
        simp; omega
      · cases h

theorem bind_same {α β : Type} {a : Option α} {f g : α → Option β} (h : ∀ x, a = some x → f x = g x) : a.bind f = a.bind g := by
  cases a with
  | none => rfl
  | some x => exact h x rfl

theorem gF_fuel : ∀ (f g k : Nat) (l : List UInt8), l.length < f → l.length < g → gF f k l = gF g k l
  | 0, _, _, _, h, _ => by omega
  | _ + 1, 0, _, _, _, h => by omega
  | f + 1, g + 1, 0, [], _, _ => by simp [gF]
  | f + 1, g + 1, k + 1, [], _, _ => by simp [gF]
  | f + 1, g + 1, 0, c :: l, hf, hg => by
    simp only [List.length_cons] at hf hg
    have e : gF f 0 l = gF g 0 l := gF_fuel f g 0 l (by omega) (by omega)
    rw [gF, gF, e]
    split
    · rfl
    · split
      · split
        · exact gF_fuel f g 0 _ (by simp; omega) (by simp; omega)
        · refine bind_same (fun x hx => ?_)
          have a1 := gF_len g 0 _ x hx
          rw [gF_fuel f g 1 x (by omega) (by omega)]
          refine bind_same (fun z hz => ?_)
          have a2 := gF_len g 1 x z hz
          exact gF_fuel f g 0 z (by omega) (by omega)
      · rfl
  | f + 1, g + 1, k + 1, c :: l, hf, hg => by
    simp only [List.length_cons] at hf hg
    rw [gF, gF]
    split
    · rfl
    · split
      · rw [gF_fuel f g 0 l (by omega) (by omega)]
        refine bind_same (fun x hx => ?_)
        have a1 := gF_len g 0 _ x hx
        exact gF_fuel f g (k + 2) x (by omega) (by omega)
      · rfl

/-- What is left behind the type with which a text begins. -/
def one (l : List UInt8) : Option (List UInt8) := gF (l.length + 1) 0 l
/-- What is left behind the parameters, k of which (and one) are read. -/
def tl (k : Nat) (l : List UInt8) : Option (List UInt8) := gF (l.length + 1) (k + 1) l

theorem one_len {l r : List UInt8} (h : one l = some r) : r.length < l.length := gF_len _ _ _ _ h
theorem tl_len {k : Nat} {l r : List UInt8} (h : tl k l = some r) : r.length < l.length := gF_len _ _ _ _ h
theorem one_nil : one [] = none := by simp [one, gF]
theorem one_arr {c : UInt8} (r : List UInt8) (h : c.toNat = 91) : one (c :: r) = (one r).bind (fun x => match x with | [] => none | d :: y => if d.toNat = 93 then some y else none) := by
  simp only [one, List.length_cons]
  rw [gF, if_pos h]
theorem one_fn0 {c d : UInt8} (r : List UInt8) (h : c.toNat = 40) (hd : d.toNat = 41) : one (c :: d :: r) = one r := by
  simp only [one, List.length_cons]
  rw [gF, if_neg (by omega), if_pos h, if_pos (by rw [isHead_cons]; exact decide_eq_true hd)]
  exact gF_fuel _ _ _ _ (by simp) (by simp)
theorem one_fn {c : UInt8} (r : List UInt8) (h : c.toNat = 40) (hd : ∀ d y, r = d :: y → d.toNat ≠ 41) : one (c :: r) = (one r).bind (fun x => (tl 0 x).bind one) := by
  simp only [one, List.length_cons]
  rw [gF, if_neg (by omega), if_pos h, if_neg (by
    intro hh
    obtain ⟨d, y, e, h1⟩ := isHead_pos hh
    exact hd d y e h1)]
  refine bind_same (fun x hx => ?_)
  have a1 := gF_len _ 0 _ x hx
  rw [tl, gF_fuel (r.length + 1) (x.length + 1) 1 x (by omega) (by omega)]
  refine bind_same (fun z hz => ?_)
  have a2 := gF_len _ 1 x z hz
  exact gF_fuel _ _ 0 z (by omega) (by omega)
theorem one_word {c : UInt8} (r : List UInt8) (h : c.toNat ≠ 91) (h2 : c.toNat ≠ 40) : one (c :: r) = if wordOk (wordR (c :: r)) then some ((c :: r).drop (wordR (c :: r)).length) else none := by
  simp only [one, List.length_cons]
  rw [gF, if_neg h, if_neg h2]
theorem tl_nil (k : Nat) : tl k [] = none := by simp [tl, gF]
theorem tl_close {c : UInt8} (k : Nat) (r : List UInt8) (h : c.toNat = 41) : tl k (c :: r) = some r := by
  simp only [tl, List.length_cons]
  rw [gF, if_pos h]
theorem tl_comma {c : UInt8} (k : Nat) (r : List UInt8) (h : c.toNat = 44) (hk : k + 1 < 6) : tl k (c :: r) = (one r).bind (tl (k + 1)) := by
  simp only [tl, one, List.length_cons]
  rw [gF, if_neg (by omega), if_pos ⟨h, hk⟩]
  refine bind_same (fun x hx => ?_)
  have a1 := gF_len _ 0 _ x hx
  exact gF_fuel _ _ _ x (by omega) (by omega)
theorem tl_bad {c : UInt8} (k : Nat) (r : List UInt8) (h : c.toNat ≠ 41) (h2 : ¬ (c.toNat = 44 ∧ k + 1 < 6)) : tl k (c :: r) = none := by
  simp only [tl, List.length_cons]
  rw [gF, if_neg h, if_neg h2]

/-! By a stack: of each open bracket its parameters so far, 0 if it is an array's; the top first. -/
def behS : List Nat → List UInt8 → Option (List UInt8)
  | [], l => some l
  | 0 :: st, l => (match l with | [] => none | d :: y => if d.toNat = 93 then some y else none).bind (behS st)
  | (k + 1) :: st, l => (tl k l).bind (fun r => (one r).bind (behS st))
def begS (st : List Nat) (l : List UInt8) : Option (List UInt8) := (one l).bind (behS st)

theorem begS_nil (st : List Nat) : begS st [] = none := by rw [begS, one_nil]; rfl
theorem begS_arr {c : UInt8} (st : List Nat) (r : List UInt8) (h : c.toNat = 91) : begS st (c :: r) = begS (0 :: st) r := by
  rw [begS, one_arr r h, Option.bind_assoc]; rfl
theorem begS_fn0 {c d : UInt8} (st : List Nat) (r : List UInt8) (h : c.toNat = 40) (hd : d.toNat = 41) : begS st (c :: d :: r) = begS st r := by
  rw [begS, one_fn0 r h hd]; rfl
theorem begS_fn {c : UInt8} (st : List Nat) (r : List UInt8) (h : c.toNat = 40) (hd : ∀ d y, r = d :: y → d.toNat ≠ 41) : begS st (c :: r) = begS (1 :: st) r := by
  rw [begS, one_fn r h hd, Option.bind_assoc, begS]
  refine bind_same (fun x _ => ?_)
  rw [Option.bind_assoc]; rfl
theorem begS_word {c : UInt8} (st : List Nat) (r : List UInt8) (h : c.toNat ≠ 91) (h2 : c.toNat ≠ 40) (hw : wordOk (wordR (c :: r)) = true) : begS st (c :: r) = behS st ((c :: r).drop (wordR (c :: r)).length) := by
  rw [begS, one_word r h h2, if_pos hw]; rfl
theorem begS_bad {c : UInt8} (st : List Nat) (r : List UInt8) (h : c.toNat ≠ 91) (h2 : c.toNat ≠ 40) (hw : wordOk (wordR (c :: r)) = false) : begS st (c :: r) = none := by
  rw [begS, one_word r h h2, if_neg (by rw [hw]; decide)]; rfl
theorem behS_end (l : List UInt8) : behS [] l = some l := rfl
theorem behS_nil (k : Nat) (st : List Nat) : behS (k :: st) [] = none := by
  cases k with
  | zero => rfl
  | succ k => rw [behS, tl_nil]; rfl
theorem behS_arr {d : UInt8} (st : List Nat) (y : List UInt8) (h : d.toNat = 93) : behS (0 :: st) (d :: y) = behS st y := by
  simp [behS, h]
theorem behS_arr_bad {d : UInt8} (st : List Nat) (y : List UInt8) (h : d.toNat ≠ 93) : behS (0 :: st) (d :: y) = none := by
  simp [behS, h]
theorem behS_close {d : UInt8} (k : Nat) (st : List Nat) (y : List UInt8) (h : d.toNat = 41) : behS ((k + 1) :: st) (d :: y) = begS st y := by
  rw [behS, tl_close k y h]; rfl
theorem behS_comma {d : UInt8} (k : Nat) (st : List Nat) (y : List UInt8) (h : d.toNat = 44) (hk : k + 1 < 6) : behS ((k + 1) :: st) (d :: y) = begS ((k + 2) :: st) y := by
  rw [behS, tl_comma k y h hk, Option.bind_assoc]; rfl
theorem behS_bad {d : UInt8} (k : Nat) (st : List Nat) (y : List UInt8) (h : d.toNat ≠ 41) (h2 : ¬ (d.toNat = 44 ∧ k + 1 < 6)) : behS ((k + 1) :: st) (d :: y) = none := by
  rw [behS, tl_bad k y h h2]; rfl

/-- Where the type ends that begins at a place. -/
def endI (L : List UInt8) (p : Nat) : Int :=
  match one (L.drop p) with
  | none => -1
  | some r => (L.length : Int) - (r.length : Int)
def rightR (l : List UInt8) : Bool := decide (l.length ≤ 200) && decide (one l = some [])

/-- The named types in a text, in its order. -/
def nwF : Nat → List UInt8 → List (List UInt8)
  | 0, _ => []
  | f + 1, l => (if namedR (wordR l) then [wordR l] else []) ++ (if l.length ≤ (wordR l).length + 1 then [] else nwF f (l.drop ((wordR l).length + 1)))
def nw (l : List UInt8) : List (List UInt8) := nwF (l.length + 1) l
theorem nwF_fuel : ∀ (f g : Nat) (l : List UInt8), l.length < f → l.length < g → nwF f l = nwF g l
  | 0, _, _, h, _ => by omega
  | _ + 1, 0, _, _, h => by omega
  | f + 1, g + 1, l, hf, hg => by
    rw [nwF, nwF]
    congr 1
    split
    · rfl
    · rename_i h
      exact nwF_fuel f g _ (by simp; omega) (by simp; omega)
theorem nw_eq (l : List UInt8) : nw l = (if namedR (wordR l) then [wordR l] else []) ++ (if l.length ≤ (wordR l).length + 1 then [] else nw (l.drop ((wordR l).length + 1))) := by
  rw [nw, nwF]
  congr 1
  split
  · rfl
  · rename_i h
    exact nwF_fuel _ _ _ (by simp; omega) (by omega)
theorem namedR_nil : namedR [] = false := by decide
theorem nw_nil : nw [] = [] := by rw [nw_eq]; simp [wordR, namedR_nil]
theorem nw_next (l : List UInt8) : nw l = (if namedR (wordR l) then [wordR l] else []) ++ nw (l.drop ((wordR l).length + 1)) := by
  rw [nw_eq]
  congr 1
  split
  · rename_i h
    rw [List.drop_eq_nil_of_le h, nw_nil]
  · rfl
/-- Behind a sign the named types go on by themselves. -/
theorem nw_append : ∀ (n : Nat) (a b : List UInt8) (c : UInt8), a.length ≤ n → isSign c = true → nw (a ++ c :: b) = nw a ++ nw b := by
  intro n
  induction n with
  | zero =>
    intro a b c h hc
    have : a = [] := List.eq_nil_of_length_eq_zero (by omega)
    subst this
    have hw : wordR (c :: b) = [] := by simp [wordR, notSign, hc]
    rw [List.nil_append, nw_next, hw, nw_nil]
    simp [namedR_nil]
  | succ n ih =>
    intro a b c h hc
    by_cases ha : wordR a = a
    · have hw : wordR (a ++ c :: b) = a := by
        have hall : ∀ x ∈ a, notSign x = true := by
          intro x hx
          rw [← ha] at hx
          exact List.all_eq_true.1 (List.all_takeWhile (l := a)) x hx
        rw [wordR, List.takeWhile_append_of_pos hall]
        simp [notSign, hc]
      rw [nw_next (a ++ c :: b), hw, nw_next a, ha]
      rw [List.drop_append, List.drop_eq_nil_of_le (by omega : a.length ≤ a.length + 1), nw_nil]
      simp
    · have hlt : (wordR a).length < a.length := by
        have h1 : (wordR a) <+: a := List.takeWhile_prefix _
        rcases Nat.lt_or_ge (wordR a).length a.length with h2 | h2
        · exact h2
        · exact absurd (h1.eq_of_length_le h2) ha
      have hw : wordR (a ++ c :: b) = wordR a := by
        rw [wordR, List.takeWhile_append, if_neg (by have : (List.takeWhile notSign a).length < a.length := hlt; omega)]
        rfl
      rw [nw_next (a ++ c :: b), hw, nw_next a, List.drop_append_of_le_length (by omega), ih _ b c (by simp; omega) hc, List.append_assoc]
end Go.Proofs.YtcjddbponknnoaaGreatDoor
