/-
  What the chapter on types says, as functions over lists of bytes: the words, the type with which a text begins, what stands behind it; the named types in it. No program in it.
  And: What follows of the chapter on types: a type is read alike whatever comes behind it; its parts; what is made of types is one. No program in it. The type of a tree, by a stack of what is begun. No program in it. A scope with several labels, where the run may also come to a label from the rows ahead of it. Names: the package's Name, Value, Big, and the document's own. Runes that are no ASCII ones, in bytes: how far one goes; none is a sign. strings.IndexAny at the signs of a type, in any bytes. strings.IndexRune of a rune that is no ASCII one, in ASCII bytes. The words of a type's text: strings.IndexAny at any bytes, strings.Cut at a point; the package's word, cut, rightWord. The package's end: its walk, from label to label. The package's Right, Elem, Named, Array, Func. The package's Parts: its walk. Texts in order, each once: what sorting and compacting come to, and what putting one text among others does. No program in it. The package's Names: its walk. The package's isWord, formOf, within: what a tree in memory stands for, and what it is made of. The package's within, ofAtom, made. The package's made: the text of a tree whose parts are read. The stack of what is begun, in memory: trees by their addresses, the texts of their parts in rows of the call's own. The package's Read: its walk. The statements' Same at texts, and their 'known': some of chapter 5's runs.
-/
import Derived.Test.YtcokihblicgbpaaTreAZ
import Derived.Lib.Join
import Derived.Test.YtcokihblicgbpaaLexAZ
import Derived.Deep.Upon
import Derived.Deep.LoopGhost
import Derived.Laws.RangeAny
import Derived.Laws.Runes
import Derived.Lib.IndexAny
import Derived.BigQuiet
import Derived.Lib.OthersKept
import Derived.Test.YtcokihblicgbpaaShelf2
import Derived.Lib.SlicesCompact
import Derived.Deep.AppendLies
import Derived.Deep.CutRange
namespace Go.Proofs.Ytcokihblicgbpaa

def isSign (c : UInt8) : Bool := decide (c.toNat = 91) || decide (c.toNat = 93) || decide (c.toNat = 40) || decide (c.toNat = 41) || decide (c.toNat = 44)
def notSign (c : UInt8) : Bool := !isSign c
/-- What a text begins with, up to a sign. -/
def wordR (l : List UInt8) : List UInt8 := l.takeWhile notSign
def notDot (c : UInt8) : Bool := !decide (c.toNat = 46)
def aheadR (l : List UInt8) : List UInt8 := l.takeWhile notDot
def behindR (l : List UInt8) : List UInt8 := l.drop ((aheadR l).length + 1)
/-- A named type. -/
def namedR (l : List UInt8) : Bool := valueR (aheadR l) && bigR (behindR l)
def numL : List UInt8 := [110, 117, 109]
def bytesL : List UInt8 := [98, 121, 116, 101, 115]
def wordOk (l : List UInt8) : Bool := namedR l || decide (l = numL) || decide (l = bytesL)

def isHead (n : Nat) (l : List UInt8) : Bool := l.head?.any (fun d => decide (d.toNat = n))
theorem isHead_cons (n : Nat) (d : UInt8) (y : List UInt8) : isHead n (d :: y) = decide (d.toNat = n) := rfl
theorem isHead_pos {n : Nat} {l : List UInt8} (h : isHead n l = true) : ∃ d y, l = d :: y ∧ d.toNat = n := by
  cases l with
  | nil => cases h
  | cons d y => exact ⟨d, y, rfl, by rw [isHead_cons] at h; exact of_decide_eq_true h⟩
/-- What is left behind the type with which a text begins (0); behind the parameters of which k are read, up to their bracket (k). -/
def gF : Nat → Nat → List UInt8 → Option (List UInt8)
  | 0, _, _ => none
  | _ + 1, 0, [] => none
  | f + 1, 0, c :: r =>
    if c.toNat = 91 then (gF f 0 r).bind (fun x => match x with | [] => none | d :: y => if d.toNat = 93 then some y else none)
    else if c.toNat = 40 then
      if isHead 41 r then gF f 0 r.tail else (gF f 0 r).bind (fun x => (gF f 1 x).bind (gF f 0))
    else if wordOk (wordR (c :: r)) then some ((c :: r).drop (wordR (c :: r)).length) else none
  | _ + 1, _ + 1, [] => none
  | f + 1, k + 1, c :: r => if c.toNat = 41 then some r else if c.toNat = 44 ∧ k + 1 < 6 then (gF f 0 r).bind (gF f (k + 2)) else none

theorem wordOk_nil : wordOk [] = false := by decide
theorem wordOk_pos {l : List UInt8} (h : wordOk l = true) : 0 < l.length := by
  cases l with
  | nil => rw [wordOk_nil] at h; cases h
  | cons => simp

theorem gF_len : ∀ (f k : Nat) (l r : List UInt8), gF f k l = some r → r.length < l.length
  | 0, _, _, _, h => by simp [gF] at h
  | f + 1, 0, [], _, h => by simp [gF] at h
  | f + 1, 0, c :: l, r, h => by
    rw [gF] at h
    split at h
    · obtain ⟨x, h1, h2⟩ := Option.bind_eq_some_iff.1 h
      have := gF_len f 0 l x h1
      split at h2
      · cases h2
      · rename_i d y
        split at h2
        · cases h2; simp at this ⊢; omega
        · cases h2
    · split at h
      · split at h
        · rename_i hh
          obtain ⟨d, y, rfl, _⟩ := isHead_pos hh
          have := gF_len f 0 y r h
          simp at this ⊢; omega
        · obtain ⟨x, h1, h2⟩ := Option.bind_eq_some_iff.1 h
          obtain ⟨z, h3, h4⟩ := Option.bind_eq_some_iff.1 h2
          have a1 := gF_len f 0 _ x h1
          have a2 := gF_len f 1 x z h3
          have a3 := gF_len f 0 z r h4
          simp; omega
      · split at h
        · rename_i hw
          have := wordOk_pos hw
          cases h
          simp at this ⊢
          omega
        · cases h
  | f + 1, k + 1, [], _, h => by simp [gF] at h
  | f + 1, k + 1, c :: l, r, h => by
    rw [gF] at h
    split at h
    · cases h; simp
    · split at h
      · obtain ⟨x, h1, h2⟩ := Option.bind_eq_some_iff.1 h
        have a1 := gF_len f 0 l x h1
        have a2 := gF_len f (k + 2) x r h2
        simp; omega
      · cases h

theorem bind_same {α β : Type} {a : Option α} {f g : α → Option β} (h : ∀ x, a = some x → f x = g x) : a.bind f = a.bind g := by
  cases a with
  | none => rfl
  | some x => exact h x rfl

theorem gF_fuel : ∀ (f g k : Nat) (l : List UInt8), l.length < f → l.length < g → gF f k l = gF g k l
  | 0, _, _, _, h, _ => by omega
  | _ + 1, 0, _, _, _, h => by omega
  | f + 1, g + 1, 0, [], _, _ => by simp [gF]
  | f + 1, g + 1, k + 1, [], _, _ => by simp [gF]
  | f + 1, g + 1, 0, c :: l, hf, hg => by
    simp only [List.length_cons] at hf hg
    have e : gF f 0 l = gF g 0 l := gF_fuel f g 0 l (by omega) (by omega)
    rw [gF, gF, e]
    split
    · rfl
    · split
      · split
        · exact gF_fuel f g 0 _ (by simp; omega) (by simp; omega)
        · refine bind_same (fun x hx => ?_)
          have a1 := gF_len g 0 _ x hx
          rw [gF_fuel f g 1 x (by omega) (by omega)]
          refine bind_same (fun z hz => ?_)
          have a2 := gF_len g 1 x z hz
          exact gF_fuel f g 0 z (by omega) (by omega)
      · rfl
  | f + 1, g + 1, k + 1, c :: l, hf, hg => by
    simp only [List.length_cons] at hf hg
    rw [gF, gF]
    split
    · rfl
    · split
      · rw [gF_fuel f g 0 l (by omega) (by omega)]
        refine bind_same (fun x hx => ?_)
        have a1 := gF_len g 0 _ x hx
        exact gF_fuel f g (k + 2) x (by omega) (by omega)
      · rfl

/-- What is left behind the type with which a text begins. -/
def one (l : List UInt8) : Option (List UInt8) := gF (l.length + 1) 0 l
/-- What is left behind the parameters, k of which (and one) are read. -/
def tl (k : Nat) (l : List UInt8) : Option (List UInt8) := gF (l.length + 1) (k + 1) l

theorem one_len {l r : List UInt8} (h : one l = some r) : r.length < l.length := gF_len _ _ _ _ h
theorem tl_len {k : Nat} {l r : List UInt8} (h : tl k l = some r) : r.length < l.length := gF_len _ _ _ _ h
theorem one_nil : one [] = none := by simp [one, gF]
theorem one_arr {c : UInt8} (r : List UInt8) (h : c.toNat = 91) : one (c :: r) = (one r).bind (fun x => match x with | [] => none | d :: y => if d.toNat = 93 then some y else none) := by
  simp only [one, List.length_cons]
  rw [gF, if_pos h]
theorem one_fn0 {c d : UInt8} (r : List UInt8) (h : c.toNat = 40) (hd : d.toNat = 41) : one (c :: d :: r) = one r := by
  simp only [one, List.length_cons]
  rw [gF, if_neg (by omega), if_pos h, if_pos (by rw [isHead_cons]; exact decide_eq_true hd)]
  exact gF_fuel _ _ _ _ (by simp) (by simp)
theorem one_fn {c : UInt8} (r : List UInt8) (h : c.toNat = 40) (hd : ∀ d y, r = d :: y → d.toNat ≠ 41) : one (c :: r) = (one r).bind (fun x => (tl 0 x).bind one) := by
  simp only [one, List.length_cons]
  rw [gF, if_neg (by omega), if_pos h, if_neg (by
    intro hh
    obtain ⟨d, y, e, h1⟩ := isHead_pos hh
    exact hd d y e h1)]
  refine bind_same (fun x hx => ?_)
  have a1 := gF_len _ 0 _ x hx
  rw [tl, gF_fuel (r.length + 1) (x.length + 1) 1 x (by omega) (by omega)]
  refine bind_same (fun z hz => ?_)
  have a2 := gF_len _ 1 x z hz
  exact gF_fuel _ _ 0 z (by omega) (by omega)
theorem one_word {c : UInt8} (r : List UInt8) (h : c.toNat ≠ 91) (h2 : c.toNat ≠ 40) : one (c :: r) = if wordOk (wordR (c :: r)) then some ((c :: r).drop (wordR (c :: r)).length) else none := by
  simp only [one, List.length_cons]
  rw [gF, if_neg h, if_neg h2]
theorem tl_nil (k : Nat) : tl k [] = none := by simp [tl, gF]
theorem tl_close {c : UInt8} (k : Nat) (r : List UInt8) (h : c.toNat = 41) : tl k (c :: r) = some r := by
  simp only [tl, List.length_cons]
  rw [gF, if_pos h]
theorem tl_comma {c : UInt8} (k : Nat) (r : List UInt8) (h : c.toNat = 44) (hk : k + 1 < 6) : tl k (c :: r) = (one r).bind (tl (k + 1)) := by
  simp only [tl, one, List.length_cons]
  rw [gF, if_neg (by omega), if_pos ⟨h, hk⟩]
  refine bind_same (fun x hx => ?_)
  have a1 := gF_len _ 0 _ x hx
  exact gF_fuel _ _ _ x (by omega) (by omega)
theorem tl_bad {c : UInt8} (k : Nat) (r : List UInt8) (h : c.toNat ≠ 41) (h2 : ¬ (c.toNat = 44 ∧ k + 1 < 6)) : tl k (c :: r) = none := by
  simp only [tl, List.length_cons]
  rw [gF, if_neg h, if_neg h2]

/-! By a stack: of each open bracket its parameters so far, 0 if it is an array's; the top first. -/
def behS : List Nat → List UInt8 → Option (List UInt8)
  | [], l => some l
  | 0 :: st, l => (match l with | [] => none | d :: y => if d.toNat = 93 then some y else none).bind (behS st)
  | (k + 1) :: st, l => (tl k l).bind (fun r => (one r).bind (behS st))
def begS (st : List Nat) (l : List UInt8) : Option (List UInt8) := (one l).bind (behS st)

theorem begS_nil (st : List Nat) : begS st [] = none := by rw [begS, one_nil]; rfl
theorem begS_arr {c : UInt8} (st : List Nat) (r : List UInt8) (h : c.toNat = 91) : begS st (c :: r) = begS (0 :: st) r := by
  rw [begS, one_arr r h, Option.bind_assoc]; rfl
theorem begS_fn0 {c d : UInt8} (st : List Nat) (r : List UInt8) (h : c.toNat = 40) (hd : d.toNat = 41) : begS st (c :: d :: r) = begS st r := by
  rw [begS, one_fn0 r h hd]; rfl
theorem begS_fn {c : UInt8} (st : List Nat) (r : List UInt8) (h : c.toNat = 40) (hd : ∀ d y, r = d :: y → d.toNat ≠ 41) : begS st (c :: r) = begS (1 :: st) r := by
  rw [begS, one_fn r h hd, Option.bind_assoc, begS]
  refine bind_same (fun x _ => ?_)
  rw [Option.bind_assoc]; rfl
theorem begS_word {c : UInt8} (st : List Nat) (r : List UInt8) (h : c.toNat ≠ 91) (h2 : c.toNat ≠ 40) (hw : wordOk (wordR (c :: r)) = true) : begS st (c :: r) = behS st ((c :: r).drop (wordR (c :: r)).length) := by
  rw [begS, one_word r h h2, if_pos hw]; rfl
theorem begS_bad {c : UInt8} (st : List Nat) (r : List UInt8) (h : c.toNat ≠ 91) (h2 : c.toNat ≠ 40) (hw : wordOk (wordR (c :: r)) = false) : begS st (c :: r) = none := by
  rw [begS, one_word r h h2, if_neg (by rw [hw]; decide)]; rfl
theorem behS_end (l : List UInt8) : behS [] l = some l := rfl
theorem behS_nil (k : Nat) (st : List Nat) : behS (k :: st) [] = none := by
  cases k with
  | zero => rfl
  | succ k => rw [behS, tl_nil]; rfl
theorem behS_arr {d : UInt8} (st : List Nat) (y : List UInt8) (h : d.toNat = 93) : behS (0 :: st) (d :: y) = behS st y := by
  simp [behS, h]
theorem behS_arr_bad {d : UInt8} (st : List Nat) (y : List UInt8) (h : d.toNat ≠ 93) : behS (0 :: st) (d :: y) = none := by
  simp [behS, h]
theorem behS_close {d : UInt8} (k : Nat) (st : List Nat) (y : List UInt8) (h : d.toNat = 41) : behS ((k + 1) :: st) (d :: y) = begS st y := by
  rw [behS, tl_close k y h]; rfl
theorem behS_comma {d : UInt8} (k : Nat) (st : List Nat) (y : List UInt8) (h : d.toNat = 44) (hk : k + 1 < 6) : behS ((k + 1) :: st) (d :: y) = begS ((k + 2) :: st) y := by
  rw [behS, tl_comma k y h hk, Option.bind_assoc]; rfl
theorem behS_bad {d : UInt8} (k : Nat) (st : List Nat) (y : List UInt8) (h : d.toNat ≠ 41) (h2 : ¬ (d.toNat = 44 ∧ k + 1 < 6)) : behS ((k + 1) :: st) (d :: y) = none := by
  rw [behS, tl_bad k y h h2]; rfl

/-- Where the type ends that begins at a place. -/
def endI (L : List UInt8) (p : Nat) : Int :=
  match one (L.drop p) with
  | none => -1
  | some r => (L.length : Int) - (r.length : Int)
def rightR (l : List UInt8) : Bool := decide (l.length ≤ 200) && decide (one l = some [])

/-- The named types in a text, in its order. -/
def nwF : Nat → List UInt8 → List (List UInt8)
  | 0, _ => []
  | f + 1, l => (if namedR (wordR l) then [wordR l] else []) ++ (if l.length ≤ (wordR l).length + 1 then [] else nwF f (l.drop ((wordR l).length + 1)))
def nw (l : List UInt8) : List (List UInt8) := nwF (l.length + 1) l
theorem nwF_fuel : ∀ (f g : Nat) (l : List UInt8), l.length < f → l.length < g → nwF f l = nwF g l
  | 0, _, _, h, _ => by omega
  | _ + 1, 0, _, _, h => by omega
  | f + 1, g + 1, l, hf, hg => by
    rw [nwF, nwF]
    congr 1
    split
    · rfl
    · rename_i h
      exact nwF_fuel f g _ (by simp; omega) (by simp; omega)
theorem nw_eq (l : List UInt8) : nw l = (if namedR (wordR l) then [wordR l] else []) ++ (if l.length ≤ (wordR l).length + 1 then [] else nw (l.drop ((wordR l).length + 1))) := by
  rw [nw, nwF]
  congr 1
  split
  · rfl
  · rename_i h
    exact nwF_fuel _ _ _ (by simp; omega) (by omega)
theorem namedR_nil : namedR [] = false := by decide
theorem nw_nil : nw [] = [] := by rw [nw_eq]; simp [wordR, namedR_nil]
theorem nw_next (l : List UInt8) : nw l = (if namedR (wordR l) then [wordR l] else []) ++ nw (l.drop ((wordR l).length + 1)) := by
  rw [nw_eq]
  congr 1
  split
  · rename_i h
    rw [List.drop_eq_nil_of_le h, nw_nil]
  · rfl
/-- Behind a sign the named types go on by themselves. -/
theorem nw_append : ∀ (n : Nat) (a b : List UInt8) (c : UInt8), a.length ≤ n → isSign c = true → nw (a ++ c :: b) = nw a ++ nw b := by
  intro n
  induction n with
  | zero =>
    intro a b c h hc
    have : a = [] := List.eq_nil_of_length_eq_zero (by omega)
    subst this
    have hw : wordR (c :: b) = [] := by simp [wordR, notSign, hc]
    rw [List.nil_append, nw_next, hw, nw_nil]
    simp [namedR_nil]
  | succ n ih =>
    intro a b c h hc
    by_cases ha : wordR a = a
    · have hw : wordR (a ++ c :: b) = a := by
        have hall : ∀ x ∈ a, notSign x = true := by
          intro x hx
          rw [← ha] at hx
          exact List.all_eq_true.1 (List.all_takeWhile (l := a)) x hx
        rw [wordR, List.takeWhile_append_of_pos hall]
        simp [notSign, hc]
      rw [nw_next (a ++ c :: b), hw, nw_next a, ha]
      rw [List.drop_append, List.drop_eq_nil_of_le (by omega : a.length ≤ a.length + 1), nw_nil]
      simp
    · have hlt : (wordR a).length < a.length := by
        have h1 : (wordR a) <+: a := List.takeWhile_prefix _
        rcases Nat.lt_or_ge (wordR a).length a.length with h2 | h2
        · exact h2
        · exact absurd (h1.eq_of_length_le h2) ha
      have hw : wordR (a ++ c :: b) = wordR a := by
        rw [wordR, List.takeWhile_append, if_neg (by have : (List.takeWhile notSign a).length < a.length := hlt; omega)]
        rfl
      rw [nw_next (a ++ c :: b), hw, nw_next a, List.drop_append_of_le_length (by omega), ih _ b c (by simp; omega) hc, List.append_assoc]
end Go.Proofs.Ytcokihblicgbpaa

namespace Go.Proofs.Ytcokihblicgbpaa

/-- Behind a word: nothing, or a sign. -/
def okB (l : List UInt8) : Prop := l = [] ∨ ∃ c r, l = c :: r ∧ isSign c = true
theorem gF_suffix : ∀ (f k : Nat) (l r : List UInt8), gF f k l = some r → ∃ x, x ≠ [] ∧ l = x ++ r
  | 0, _, _, _, h => by simp [gF] at h
  | f + 1, 0, [], _, h => by simp [gF] at h
  | f + 1, 0, c :: l, r, h => by
    rw [gF] at h
    split at h
    · obtain ⟨x, h1, h2⟩ := Option.bind_eq_some_iff.1 h
      obtain ⟨z, _, e⟩ := gF_suffix f 0 l x h1
      split at h2
      · cases h2
      · rename_i d y
        split at h2
        · cases h2
          exact ⟨c :: (z ++ [d]), by simp, by simp [e]⟩
        · cases h2
    · split at h
      · split at h
        · rename_i hh
          obtain ⟨d, y, rfl, _⟩ := isHead_pos hh
          obtain ⟨z, _, e⟩ := gF_suffix f 0 y r h
          exact ⟨c :: d :: z, by simp, by simp [e]⟩
        · obtain ⟨x, h1, h2⟩ := Option.bind_eq_some_iff.1 h
          obtain ⟨y, h3, h4⟩ := Option.bind_eq_some_iff.1 h2
          obtain ⟨z1, _, e1⟩ := gF_suffix f 0 _ x h1
          obtain ⟨z2, _, e2⟩ := gF_suffix f 1 x y h3
          obtain ⟨z3, _, e3⟩ := gF_suffix f 0 y r h4
          exact ⟨c :: (z1 ++ z2 ++ z3), by simp, by simp [e1, e2, e3]⟩
      · split at h
        · rename_i hw
          have := wordOk_pos hw
          cases h
          exact ⟨wordR (c :: l), fun e => by rw [e] at this; simp at this, by
            conv => lhs; rw [← List.take_append_drop (wordR (c :: l)).length (c :: l)]
            rw [wordR, take_tw]⟩
        · cases h
  | f + 1, k + 1, [], _, h => by simp [gF] at h
  | f + 1, k + 1, c :: l, r, h => by
    rw [gF] at h
    split at h
    · cases h; exact ⟨[c], by simp, rfl⟩
    · split at h
      · obtain ⟨x, h1, h2⟩ := Option.bind_eq_some_iff.1 h
        obtain ⟨z1, _, e1⟩ := gF_suffix f 0 l x h1
        obtain ⟨z2, _, e2⟩ := gF_suffix f (k + 2) x r h2
        exact ⟨c :: (z1 ++ z2), by simp, by simp [e1, e2]⟩
      · cases h
theorem one_suffix {l r : List UInt8} (h : one l = some r) : ∃ x, x ≠ [] ∧ l = x ++ r := gF_suffix _ _ _ _ h

theorem word_all (l : List UInt8) : ∀ x ∈ wordR l, notSign x = true := fun x hx => List.all_eq_true.1 (List.all_takeWhile (l := l)) x hx
theorem word_stop {x r : List UInt8} (h : ∀ c ∈ x, notSign c = true) (hr : okB r) : wordR (x ++ r) = x := by
  rw [wordR, List.takeWhile_append_of_pos h]
  rcases hr with rfl | ⟨c, r, rfl, hc⟩
  · simp
  · simp [notSign, hc]
theorem sign_of {c : UInt8} (h : c.toNat = 91 ∨ c.toNat = 93 ∨ c.toNat = 40 ∨ c.toNat = 41 ∨ c.toNat = 44) : isSign c = true := by
  rcases h with h | h | h | h | h <;> simp [isSign, h]

/-- What is read of a text hangs on what is read alone. -/
theorem gF_loc : ∀ (f k : Nat) (x r : List UInt8), gF f k (x ++ r) = some r →
    (k = 0 → ∀ r', okB r' → one (x ++ r') = some r') ∧ (∀ j, k = j + 1 → ∀ r', tl j (x ++ r') = some r')
  | 0, _, _, _, h => by simp [gF] at h
  | f + 1, k, [], r, h => by
    have := gF_len _ _ _ _ h
    simp at this
  | f + 1, 0, c :: x, r, h => by
    refine ⟨fun _ r' hr' => ?_, fun j hj => by omega⟩
    rw [List.cons_append] at h ⊢
    rw [gF] at h
    split at h
    · rename_i hc
      obtain ⟨q, h1, h2⟩ := Option.bind_eq_some_iff.1 h
      split at h2
      · cases h2
      · rename_i d y
        split at h2
        · rename_i hd
          simp only [Option.some.injEq] at h2
          subst h2
          obtain ⟨z, _, e⟩ := gF_suffix f 0 _ _ h1
          have e' : x = z ++ [d] := by
            have : x ++ y = (z ++ [d]) ++ y := by rw [e]; simp
            exact List.append_cancel_right this
          subst e'
          rw [e] at h1
          have := (gF_loc f 0 z (d :: y) h1).1 rfl (d :: r') (.inr ⟨d, r', rfl, sign_of (by omega)⟩)
          rw [one_arr _ hc, List.append_assoc, List.singleton_append, this]
          simp [hd]
        · cases h2
    · rename_i h91
      split at h
      · rename_i hc
        split at h
        · rename_i hh
          obtain ⟨d, y, e, hd⟩ := isHead_pos hh
          rw [e, List.tail_cons] at h
          obtain ⟨z, _, e2⟩ := gF_suffix f 0 _ _ h
          have e' : x = d :: z := by
            have : x ++ r = (d :: z) ++ r := by rw [e, e2]; simp
            exact List.append_cancel_right this
          subst e'
          rw [e2] at h
          rw [List.cons_append, one_fn0 _ hc hd]
          exact (gF_loc f 0 z r h).1 rfl r' hr'
        · rename_i hh
          obtain ⟨a, h1, h2⟩ := Option.bind_eq_some_iff.1 h
          obtain ⟨b, h3, h4⟩ := Option.bind_eq_some_iff.1 h2
          obtain ⟨z1, n1, e1⟩ := gF_suffix f 0 _ a h1
          obtain ⟨z2, n2, e2⟩ := gF_suffix f 1 a b h3
          obtain ⟨z3, _, e3⟩ := gF_suffix f 0 b r h4
          have e' : x = z1 ++ z2 ++ z3 := by
            have : x ++ r = (z1 ++ z2 ++ z3) ++ r := by rw [e1, e2, e3]; simp
            exact List.append_cancel_right this
          have i1 := (gF_loc f 0 z1 a (by rw [← e1]; exact h1)).1 rfl
          have i2 := (gF_loc f 1 z2 b (by rw [← e2]; exact h3)).2 0 rfl
          have i3 := (gF_loc f 0 z3 r (by rw [← e3]; exact h4)).1 rfl r' hr'
          have ha : okB (z2 ++ (z3 ++ r')) := by
            cases z2 with
            | nil => exact absurd rfl n2
            | cons d z2 =>
              refine .inr ⟨d, _, rfl, ?_⟩
              rw [e2, List.cons_append] at h3
              cases f with
              | zero => simp [gF] at h3
              | succ f =>
                rw [gF] at h3
                split at h3
                · rename_i hd; exact sign_of (by omega)
                · split at h3
                  · rename_i hd; exact sign_of (by omega)
                  · cases h3
          have hnh : ∀ d y, x ++ r' = d :: y → d.toNat ≠ 41 := by
            intro d y he hd
            refine hh ?_
            cases z1 with
            | nil => exact absurd rfl n1
            | cons d' z1 =>
              rw [e', List.cons_append, List.cons_append, List.cons_append] at he
              simp only [List.cons.injEq] at he
              rw [e1, List.cons_append, isHead_cons]
              exact decide_eq_true (by rw [he.1]; exact hd)
          rw [one_fn _ hc hnh, e', show z1 ++ z2 ++ z3 ++ r' = z1 ++ (z2 ++ (z3 ++ r')) from by simp, i1 _ ha]
          simp only [Option.bind_some]
          rw [i2]
          simp only [Option.bind_some]
          exact i3
      · rename_i h40
        split at h
        · rename_i hw
          simp only [Option.some.injEq] at h
          have hx : wordR (c :: (x ++ r)) = c :: x := by
            have h1 := List.take_append_drop (wordR (c :: (x ++ r))).length (c :: (x ++ r))
            rw [h, wordR, take_tw] at h1
            have h2 : wordR (c :: (x ++ r)) ++ r = (c :: x) ++ r := h1
            exact List.append_cancel_right h2
          rw [hx] at hw
          have hall := word_all (c :: (x ++ r))
          rw [hx] at hall
          rw [one_word _ h91 h40, ← List.cons_append, word_stop hall hr', if_pos hw]
          simp
        · cases h
  | f + 1, k + 1, c :: x, r, h => by
    refine ⟨fun hk => by omega, fun j hj r' => ?_⟩
    obtain rfl : k = j := by omega
    rw [List.cons_append] at h ⊢
    rw [gF] at h
    split at h
    · rename_i hc
      simp only [Option.some.injEq] at h
      have e' : x = [] := by
        have : x ++ r = [] ++ r := h
        exact List.append_cancel_right this
      subst e'
      exact tl_close k r' hc
    · split at h
      · rename_i hc
        obtain ⟨a, h1, h2⟩ := Option.bind_eq_some_iff.1 h
        obtain ⟨z1, _, e1⟩ := gF_suffix f 0 _ a h1
        obtain ⟨z2, n2, e2⟩ := gF_suffix f (k + 2) a r h2
        have e' : x = z1 ++ z2 := by
          have : x ++ r = (z1 ++ z2) ++ r := by rw [e1, e2]; simp
          exact List.append_cancel_right this
        have i1 := (gF_loc f 0 z1 a (by rw [← e1]; exact h1)).1 rfl
        have i2 := (gF_loc f (k + 2) z2 r (by rw [← e2]; exact h2)).2 (k + 1) rfl r'
        have ha : okB (z2 ++ r') := by
          cases z2 with
          | nil => exact absurd rfl n2
          | cons d z2 =>
            refine .inr ⟨d, _, rfl, ?_⟩
            rw [e2, List.cons_append] at h2
            cases f with
            | zero => simp [gF] at h2
            | succ f =>
              rw [gF] at h2
              split at h2
              · rename_i hd; exact sign_of (by omega)
              · split at h2
                · rename_i hd; exact sign_of (by omega)
                · cases h2
        rw [tl_comma k _ hc.1 hc.2, e', List.append_assoc, i1 _ ha]
        simp only [Option.bind_some]
        exact i2
      · cases h
theorem one_loc {x r r' : List UInt8} (h : one (x ++ r) = some r) (hr : okB r') : one (x ++ r') = some r' := (gF_loc _ _ _ _ h).1 rfl r' hr
theorem one_ahead {x r : List UInt8} (h : one x = some []) (hr : okB r) : one (x ++ r) = some r := one_loc (r := []) (by rw [List.append_nil]; exact h) hr
theorem one_piece {x r : List UInt8} (h : one (x ++ r) = some r) : one x = some [] := by
  have := one_loc (r' := []) h (.inl rfl)
  rwa [List.append_nil] at this

/-- Parameters parted by commas. -/
def joinR (ps : List (List UInt8)) : List UInt8 := Lib.join ps [44]
def arrR (x : List UInt8) : List UInt8 := 91 :: (x ++ [93])
def funcR (ps : List (List UInt8)) (r : List UInt8) : List UInt8 := 40 :: (joinR ps ++ 41 :: r)
theorem joinR_nil : joinR [] = [] := rfl
theorem joinR_one (x : List UInt8) : joinR [x] = x := Lib.join_one x [44]
theorem joinR_two (x y : List UInt8) (r : List (List UInt8)) : joinR (x :: y :: r) = x ++ 44 :: joinR (y :: r) := by
  rw [joinR, joinR, Lib.join_cons, Lib.join_cons]
  simp [Lib.joinTail]
theorem one_arrR {x : List UInt8} (h : one x = some []) : one (arrR x) = some [] := by
  rw [arrR, one_arr _ (by rfl), one_ahead h (.inr ⟨93, [], rfl, rfl⟩)]
  simp
/-- From behind k commas on. -/
theorem one_params : ∀ (ps : List (List UInt8)) (p : List UInt8) (k : Nat) (r : List UInt8), (∀ x ∈ p :: ps, one x = some []) → ps.length + k < 6 →
    (one (joinR (p :: ps) ++ 41 :: r)).bind (tl k) = some r
  | [], p, k, r, h, _ => by
    rw [joinR_one, one_ahead (h p (by simp)) (.inr ⟨41, r, rfl, rfl⟩)]
    exact tl_close k r rfl
  | q :: ps, p, k, r, h, hk => by
    simp only [List.length_cons] at hk
    rw [joinR_two, List.append_assoc, List.cons_append, one_ahead (h p (by simp)) (.inr ⟨44, _, rfl, rfl⟩)]
    simp only [Option.bind_some]
    rw [tl_comma k _ rfl (by omega)]
    exact one_params ps q (k + 1) r (fun x hx => h x (List.mem_cons_of_mem _ hx)) (by omega)
theorem right_head {p : List UInt8} (h : one p = some []) : ∀ d y r, p ++ r = d :: y → d.toNat ≠ 41 := by
  intro d y r he hd
  cases p with
  | nil => rw [one_nil] at h; cases h
  | cons c p =>
    rw [List.cons_append] at he
    simp only [List.cons.injEq] at he
    obtain ⟨rfl, _⟩ := he
    have hw : wordR (c :: p) = [] := by simp [wordR, notSign, sign_of (c := c) (by omega)]
    rw [one_word p (by omega) (by omega), hw, wordOk_nil] at h
    simp at h
theorem one_funcR {ps : List (List UInt8)} {r : List UInt8} (h : ∀ x ∈ ps, one x = some []) (hr : one r = some []) (hn : ps.length ≤ 6) : one (funcR ps r) = some [] := by
  cases ps with
  | nil => rw [funcR, joinR_nil, List.nil_append, one_fn0 r rfl rfl, hr]
  | cons p ps =>
    have hh : ∀ d y, joinR (p :: ps) ++ 41 :: r = d :: y → d.toNat ≠ 41 := by
      intro d y he
      cases ps with
      | nil => rw [joinR_one] at he; exact right_head (h p (by simp)) d y _ he
      | cons q ps => rw [joinR_two, List.append_assoc] at he; exact right_head (h p (by simp)) d y _ he
    rw [funcR, one_fn _ rfl hh]
    have := one_params ps p 0 r h (by simp at hn; omega)
    rw [← Option.bind_assoc, this]
    exact hr

/-- The parameters from here on, and what stands behind their bracket. -/
def psF : Nat → List UInt8 → List (List UInt8) × List UInt8
  | 0, _ => ([], [])
  | f + 1, l =>
    match one l with
    | none => ([], [])
    | some [] => ([], [])
    | some (c :: r) => if c.toNat = 44 then (l.take (l.length - (r.length + 1)) :: (psF f r).1, (psF f r).2) else ([l.take (l.length - (r.length + 1))], r)
theorem psF_fuel : ∀ (f g : Nat) (l : List UInt8), l.length < f → l.length < g → psF f l = psF g l
  | 0, _, _, h, _ => by omega
  | _ + 1, 0, _, _, h => by omega
  | f + 1, g + 1, l, hf, hg => by
    rw [psF, psF]
    split
    · rfl
    · rfl
    · rename_i c r h
      have := one_len h
      simp only [List.length_cons] at this
      rw [psF_fuel f g r (by omega) (by omega)]
def psQ (l : List UInt8) : List (List UInt8) × List UInt8 := psF (l.length + 1) l
theorem psQ_some {l r : List UInt8} {c : UInt8} (h : one l = some (c :: r)) : psQ l = if c.toNat = 44 then (l.take (l.length - (r.length + 1)) :: (psQ r).1, (psQ r).2) else ([l.take (l.length - (r.length + 1))], r) := by
  have hl := one_len h
  simp only [List.length_cons] at hl
  rw [psQ, psF, h]
  simp only
  rw [psF_fuel l.length (r.length + 1) r (by omega) (by omega)]
  rfl
theorem psQ_piece {p r : List UInt8} {c : UInt8} (h : one p = some []) (hc : c.toNat = 44 ∨ c.toNat = 41) : psQ (p ++ c :: r) = if c.toNat = 44 then (p :: (psQ r).1, (psQ r).2) else ([p], r) := by
  rw [psQ_some (one_ahead h (.inr ⟨c, r, rfl, sign_of (by omega)⟩))]
  simp
def partsR (l : List UInt8) : List (List UInt8) × List UInt8 := if isHead 41 l.tail then ([], l.tail.tail) else psQ l.tail
theorem psQ_join : ∀ (ps : List (List UInt8)) (p r : List UInt8), (∀ x ∈ p :: ps, one x = some []) → psQ (joinR (p :: ps) ++ 41 :: r) = (p :: ps, r)
  | [], p, r, h => by
    rw [joinR_one, psQ_piece (h p (by simp)) (.inr rfl)]
    rfl
  | q :: ps, p, r, h => by
    rw [joinR_two, List.append_assoc, List.cons_append, psQ_piece (h p (by simp)) (.inl rfl), psQ_join ps q r (fun x hx => h x (List.mem_cons_of_mem _ hx))]
    rfl
theorem partsR_funcR {ps : List (List UInt8)} (r : List UInt8) (h : ∀ x ∈ ps, one x = some []) : partsR (funcR ps r) = (ps, r) := by
  cases ps with
  | nil => rfl
  | cons p ps =>
    have hh : isHead 41 (joinR (p :: ps) ++ 41 :: r) = false := by
      rw [Bool.eq_false_iff]
      intro he
      obtain ⟨d, y, e, hd⟩ := isHead_pos he
      cases ps with
      | nil => rw [joinR_one] at e; exact right_head (h p (by simp)) d y _ e hd
      | cons q ps => rw [joinR_two, List.append_assoc] at e; exact right_head (h p (by simp)) d y _ e hd
    rw [partsR, funcR, List.tail_cons, hh]
    exact psQ_join ps p r h
/-- The parameters go on from here, k of them (and one) being read. -/
def Goes (k : Nat) (l : List UInt8) : Prop := (one l).bind (fun x => (tl k x).bind one) = some []
theorem goes_next {k : Nat} {l : List UInt8} (h : Goes k l) : ∃ c r, one l = some (c :: r) ∧ ((c.toNat = 41 ∧ one r = some []) ∨ (c.toNat = 44 ∧ k + 1 < 6 ∧ Goes (k + 1) r)) := by
  obtain ⟨x, h1, h2⟩ := Option.bind_eq_some_iff.1 h
  obtain ⟨y, h3, h4⟩ := Option.bind_eq_some_iff.1 h2
  cases x with
  | nil => rw [tl_nil] at h3; cases h3
  | cons c r =>
    refine ⟨c, r, h1, ?_⟩
    by_cases c1 : c.toNat = 41
    · rw [tl_close k r c1] at h3
      simp only [Option.some.injEq] at h3
      subst h3
      exact .inl ⟨c1, h4⟩
    · by_cases c2 : c.toNat = 44 ∧ k + 1 < 6
      · rw [tl_comma k r c2.1 c2.2] at h3
        refine .inr ⟨c2.1, c2.2, ?_⟩
        obtain ⟨z, h5, h6⟩ := Option.bind_eq_some_iff.1 h3
        unfold Goes
        rw [h5]
        simp only [Option.bind_some]
        rw [h6]
        exact h4
      · rw [tl_bad k r c1 c2] at h3
        cases h3
theorem goes_first {c : UInt8} {l : List UInt8} (hc : c.toNat = 40) (h : one (c :: l) = some []) (hn : isHead 41 l = false) : Goes 0 l := by
  rw [one_fn l hc (by rintro d y rfl hd; rw [isHead_cons, decide_eq_true hd] at hn; cases hn)] at h
  exact h
theorem goes_text : ∀ (n k : Nat) (l : List UInt8), l.length ≤ n → k < 6 → Goes k l → ∃ p ps r, psQ l = (p :: ps, r) ∧ l = joinR (p :: ps) ++ 41 :: r ∧ (∀ x ∈ p :: ps, one x = some []) ∧ one r = some [] ∧ ps.length + k < 6
  | 0, k, l, hn, _, h => by
    obtain ⟨c, r, h1, _⟩ := goes_next h
    have := one_len h1
    omega
  | n + 1, k, l, hn, hk6, h => by
    obtain ⟨c, r, h1, h2⟩ := goes_next h
    have hl := one_len h1
    simp only [List.length_cons] at hl
    obtain ⟨x, _, e⟩ := one_suffix h1
    have hx : one x = some [] := one_piece (by rw [← e]; exact h1)
    have hp : l.take (l.length - (r.length + 1)) = x := by rw [e]; simp
    have hq := psQ_some h1
    rw [hp] at hq
    rcases h2 with ⟨hc, hr⟩ | ⟨hc, hk, hg⟩
    · rw [if_neg (by omega)] at hq
      have hc' : c = 41 := UInt8.toNat_inj.1 hc
      refine ⟨x, [], r, hq, by rw [joinR_one, e, hc'], by simpa using hx, hr, by simpa using hk6⟩
    · rw [if_pos hc] at hq
      have hc' : c = 44 := UInt8.toNat_inj.1 hc
      obtain ⟨p, ps, r', e1, e2, e3, e4, e5⟩ := goes_text n (k + 1) r (by omega) hk hg
      rw [e1] at hq
      refine ⟨x, p :: ps, r', hq, by rw [joinR_two, e, hc', List.append_assoc, List.cons_append, ← e2], ?_, e4, by simp; omega⟩
      intro y hy
      simp only [List.mem_cons] at hy
      rcases hy with rfl | hy
      · exact hx
      · exact e3 y (by simpa using hy)
end Go.Proofs.Ytcokihblicgbpaa

namespace Go.Proofs.Ytcokihblicgbpaa

def arrayL : List UInt8 := [97, 114, 114, 97, 121]
def fnL : List UInt8 := [102, 110]
def isWordR (t : Tr) (x : List UInt8) : Bool := decide (t.kind = 3) && decide (t.text = x)
def noTr : Tr := ⟨0, 0, [], [], ⟨0, 0, []⟩⟩
def kid (t : Tr) (i : Nat) : Tr := t.kids.getD i noTr
/-- What a tree stands for: 1 a word, 2 an array, 3 a function, 0 nothing. -/
def formR (t : Tr) : Nat :=
  if t.kind = 3 then 1 else if t.kind ≠ 1 then 0
  else if t.kids.length = 2 ∧ isWordR (kid t 0) arrayL = true then 2
  else if t.kids.length = 3 ∧ isWordR (kid t 0) fnL = true ∧ (kid t 1).kind = 1 then 3 else 0
/-- The trees that a type is made of. -/
def partsT (t : Tr) : List Tr := if formR t = 2 then [kid t 1] else if formR t = 3 then (kid t 1).kids ++ [kid t 2] else []
/-- The type that a word tells: nothing, if it tells none. -/
def atomR (x m : List UInt8) : List UInt8 := if wordOk x = true then x else if bigR x = true then m ++ 46 :: x else []
def lim (x : List UInt8) : Except Nat (List UInt8) := if x = [] then .error 12 else if 200 < x.length then .error 3 else .ok x
/-- The text of a tree whose parts are read. -/
def madeR (m : List UInt8) (t : Tr) (ys : List (List UInt8)) : Except Nat (List UInt8) :=
  if formR t = 1 then lim (atomR t.text m)
  else if formR t = 2 then lim (arrR (ys.getD 0 []))
  else if formR t = 3 then (if 6 < ys.length - 1 then .error 19 else lim (funcR (ys.take (ys.length - 1)) (ys.getD (ys.length - 1) [])))
  else .error 12
abbrev RR : Type := Except (Nat × Nat) (List UInt8)
def fin (m : List UInt8) (t : Tr) (ys : List (List UInt8)) : RR :=
  match madeR m t ys with
  | .error y => .error (y, t.place)
  | .ok x => .ok x
def seqE : List RR → Except (Nat × Nat) (List (List UInt8))
  | [] => .ok []
  | .error e :: _ => .error e
  | .ok x :: r => match seqE r with | .error e => .error e | .ok l => .ok (x :: l)
def pick (q : List (RR × List RR)) (f : Nat) : List RR :=
  if f = 2 then [(q.getD 1 (.ok [], [])).1] else if f = 3 then (q.getD 1 (.ok [], [])).2 ++ [(q.getD 2 (.ok [], [])).1] else []
def rr (m : List UInt8) : Tr → RR × List RR
  | ⟨k, p, x, l, e⟩ => (match seqE (pick (l.map (rr m)) (formR ⟨k, p, x, l, e⟩)) with | .error e => .error e | .ok ys => fin m ⟨k, p, x, l, e⟩ ys, (l.map (rr m)).map (·.1))
/-- Read. -/
def readR (m : List UInt8) (t : Tr) : RR := (rr m t).1
theorem rr_snd (m : List UInt8) (t : Tr) : (rr m t).2 = t.kids.map (readR m) := by
  obtain ⟨k, p, x, l, e⟩ := t
  rw [rr]
  simp [readR]
theorem form2 {t : Tr} (h : formR t = 2) : t.kids.length = 2 := by
  unfold formR at h
  repeat' split at h
  all_goals first | omega | (rename_i hh; exact hh.1)
theorem form3 {t : Tr} (h : formR t = 3) : t.kids.length = 3 := by
  unfold formR at h
  repeat' split at h
  all_goals first | omega | (rename_i hh; exact hh.1)
theorem readR_eq (m : List UInt8) (t : Tr) : readR m t = match seqE ((partsT t).map (readR m)) with | .error e => .error e | .ok ys => fin m t ys := by
  have key : pick (t.kids.map (rr m)) (formR t) = (partsT t).map (readR m) := by
    unfold pick partsT
    have hg : ∀ i, i < t.kids.length → (t.kids.map (rr m)).getD i (.ok [], []) = rr m (kid t i) := by
      intro i hi
      rw [kid, List.getD_eq_getElem?_getD, List.getD_eq_getElem?_getD, List.getElem?_map, List.getElem?_eq_getElem hi]
      rfl
    split
    · rename_i h
      rw [hg 1 (by have := form2 h; omega)]
      rfl
    · split
      · rename_i h
        rw [hg 1 (by have := form3 h; omega), hg 2 (by have := form3 h; omega), rr_snd]
        simp [readR]
      · rfl
  rw [← key]
  obtain ⟨k, p, x, l, e⟩ := t
  rw [readR, rr]
/-- Something that is begun: its tree, and the texts of its parts so far. -/
structure Fr where
  tree : Tr
  texts : List (List UInt8)
def goF (m : List UInt8) (f : Fr) : RR :=
  match seqE (((partsT f.tree).drop f.texts.length).map (readR m)) with
  | .error e => .error e
  | .ok zs => fin m f.tree (f.texts ++ zs)
def goS (m : List UInt8) : RR → List Fr → RR
  | x, [] => x
  | .error e, _ :: _ => .error e
  | .ok x, g :: r => goS m (goF m ⟨g.tree, g.texts ++ [x]⟩) r
theorem goS_error (m : List UInt8) (e : Nat × Nat) (r : List Fr) : goS m (.error e) r = .error e := by cases r <;> rfl
theorem goF_start (m : List UInt8) (t : Tr) : goF m ⟨t, []⟩ = readR m t := by
  rw [goF, readR_eq]
  rfl
/-- One thing more is begun. -/
theorem goS_push (m : List UInt8) (f : Fr) (r : List Fr) (h : f.texts.length < (partsT f.tree).length) : goS m (goF m ⟨(partsT f.tree)[f.texts.length], []⟩) (f :: r) = goS m (goF m f) r := by
  rw [goF_start]
  have hd : (partsT f.tree).drop f.texts.length = (partsT f.tree)[f.texts.length] :: (partsT f.tree).drop (f.texts.length + 1) := List.drop_eq_getElem_cons h
  cases hx : readR m (partsT f.tree)[f.texts.length] with
  | error e =>
    have : goF m f = .error e := by rw [goF, hd, List.map_cons, hx]; rfl
    rw [this, goS_error, goS_error]
  | ok x =>
    have : goF m f = goF m ⟨f.tree, f.texts ++ [x]⟩ := by
      rw [goF, goF, hd, List.map_cons, hx, seqE]
      simp only [List.length_append, List.length_singleton]
      cases seqE (((partsT f.tree).drop (f.texts.length + 1)).map (readR m)) <;> simp
    rw [this]
    rfl
/-- All its parts are read. -/
theorem goF_end (m : List UInt8) (f : Fr) (h : f.texts.length = (partsT f.tree).length) : goF m f = fin m f.tree f.texts := by
  rw [goF, h, List.drop_length]
  simp [seqE]
theorem goS_pop (m : List UInt8) (f g : Fr) (r : List Fr) (x : List UInt8) (h : f.texts.length = (partsT f.tree).length) (hx : madeR m f.tree f.texts = .ok x) : goS m (goF m f) (g :: r) = goS m (goF m ⟨g.tree, g.texts ++ [x]⟩) r := by
  rw [goF_end m f h, fin, hx]
  rfl
theorem goS_end (m : List UInt8) (f : Fr) (x : List UInt8) (h : f.texts.length = (partsT f.tree).length) (hx : madeR m f.tree f.texts = .ok x) : goS m (goF m f) [] = .ok x := by
  rw [goF_end m f h, fin, hx]
  rfl
theorem goS_bad (m : List UInt8) (f : Fr) (r : List Fr) (y : Nat) (h : f.texts.length = (partsT f.tree).length) (hx : madeR m f.tree f.texts = .error y) : goS m (goF m f) r = .error (y, f.tree.place) := by
  rw [goF_end m f h, fin, hx]
  exact goS_error _ _ _
theorem lim_len {x y : List UInt8} (h : lim x = .ok y) : y.length ≤ 200 ∧ y = x := by
  unfold lim at h
  split at h
  · cases h
  · split at h
    · cases h
    · cases h; exact ⟨by omega, rfl⟩
theorem madeR_len {m : List UInt8} {t : Tr} {ys : List (List UInt8)} {x : List UInt8} (h : madeR m t ys = .ok x) : x.length ≤ 200 := by
  unfold madeR at h
  repeat' split at h
  all_goals first | exact (lim_len h).1 | cases h

/-! How much is still to be done. -/
def nodes : Tr → Nat
  | ⟨_, _, _, l, _⟩ => 1 + (l.map nodes).sum
theorem nodes_eq (t : Tr) : nodes t = 1 + (t.kids.map nodes).sum := by
  obtain ⟨k, p, x, l, e⟩ := t
  rw [nodes]
theorem parts_nodes (t : Tr) : ((partsT t).map nodes).sum + 1 ≤ nodes t := by
  rw [nodes_eq]
  unfold partsT
  split
  · rename_i h
    have h2 := form2 h
    obtain ⟨k, p, x, l, e⟩ := t
    match l, h2 with
    | [a, b], _ => simp [kid]; omega
  · split
    · rename_i h
      have h2 := form3 h
      obtain ⟨k, p, x, l, e⟩ := t
      match l, h2 with
      | [a, b, c], _ =>
        have := nodes_eq b
        simp [kid]
        omega
    · simp
def left (f : Fr) (k : Nat) : Nat := 1 + 2 * (((partsT f.tree).drop (f.texts.length + k)).map nodes).sum
def todo : List Fr → Nat
  | [] => 0
  | f :: r => left f 0 + (r.map (fun g => left g 1)).sum
theorem todo_push (f : Fr) (r : List Fr) (h : f.texts.length < (partsT f.tree).length) : todo (⟨(partsT f.tree)[f.texts.length], []⟩ :: f :: r) < todo (f :: r) := by
  have hd : (partsT f.tree).drop f.texts.length = (partsT f.tree)[f.texts.length] :: (partsT f.tree).drop (f.texts.length + 1) := List.drop_eq_getElem_cons h
  have hn := parts_nodes (partsT f.tree)[f.texts.length]
  simp only [todo, left, List.map_cons, List.sum_cons, List.length_nil, Nat.add_zero, List.drop_zero, hd]
  omega
theorem todo_pop (f g : Fr) (r : List Fr) (x : List UInt8) : todo (⟨g.tree, g.texts ++ [x]⟩ :: r) < todo (f :: g :: r) := by
  simp only [todo, left, List.map_cons, List.sum_cons, List.length_append, List.length_singleton, Nat.add_zero]
  omega
end Go.Proofs.Ytcokihblicgbpaa

namespace Go.Proofs.Ytcokihblicgbpaa
open Go.RowKit

/-- The same, where the run may also come to a label from the rows ahead of it. -/
theorem wp_scope_fall {P : Program} {a : Act} {w : World} {Q : Exit → Act → World → Prop} {c : Code} (J : Nat → Act → World → Prop) (m : Nat → Act → World → Nat)
    (first : (∀ l rest a w, findLabel c l = some (Code.skip.seq rest) → J l a w → rest.wp P (jumps J Q) a w) → c.wp P (jumps J Q) a w)
    (pass : ∀ l a w, J l a w → (∀ l' rest' a' w', findLabel c l' = some (Code.skip.seq rest') → J l' a' w' → m l' a' w' < m l a w → rest'.wp P (jumps (fun l'' a'' w'' => J l'' a'' w'' ∧ m l'' a'' w'' < m l a w) Q) a' w') →
      ∃ rest, findLabel c l = some (Code.skip.seq rest) ∧ rest.wp P (jumps (fun l' a' w' => J l' a' w' ∧ m l' a' w' < m l a w) Q) a w) : (Code.scope c).wp P Q a w := by
  refine wp_scope_labels J m first ?_
  have key : ∀ n l a w, m l a w = n → J l a w → ∃ rest, findLabel c l = some (Code.skip.seq rest) ∧ rest.wp P (jumps (fun l' a' w' => J l' a' w' ∧ m l' a' w' < m l a w) Q) a w := by
    intro n
    induction n using Nat.strongRecOn with
    | _ n ih =>
      intro l a w hn hJ
      refine pass l a w hJ (fun l' rest' a' w' hf hJ' hlt => ?_)
      obtain ⟨r, hr, hp⟩ := ih _ (by omega) l' a' w' rfl hJ'
      rw [hr] at hf
      cases hf
      refine wp_mono hp ?_
      intro e a2 w2 hq
      cases e <;> first | exact hq | exact ⟨hq.1, Nat.lt_trans hq.2 hlt⟩
  exact fun l a w hJ => key _ l a w rfl hJ

end Go.Proofs.Ytcokihblicgbpaa

namespace Go.Proofs.Ytcokihblicgbpaa
open Go.RowKit

theorem take_all (s : ByteArray) (k : Nat) (hk : k < s.size) (h : (s.data.toList.take k).all isLetter = true) (hc : isLetter s[k] = true) : (s.data.toList.take (k + 1)).all isLetter = true := by
  have hk' : k < s.data.toList.length := by rw [size_len]; exact hk
  have e : s.data.toList.take (k + 1) = s.data.toList.take k ++ [s[k]] := by
    rw [List.take_succ_eq_append_getElem hk']
    rfl
  rw [e, List.all_append, h]
  simp [hc]
theorem not_all (s : ByteArray) (k : Nat) (hk : k < s.size) (hc : isLetter s[k] = false) : s.data.toList.all isLetter = false := by
  refine Bool.eq_false_iff.2 (fun h => ?_)
  rw [List.all_eq_true] at h
  have hk' : k < s.data.toList.length := by rw [size_len]; exact hk
  have := h s[k] (by
    have e : s[k] = s.data.toList[k] := rfl
    rw [e]
    exact List.getElem_mem hk')
  rw [hc] at this
  cases this
theorem all_all (s : ByteArray) (h : (s.data.toList.take s.size).all isLetter = true) : s.data.toList.all isLetter = true := by
  rwa [List.take_of_length_le (by rw [size_len]; exact Nat.le_refl _)] at h
theorem head_s (s : ByteArray) (h : 0 < s.size) : s.data.toList.head? = some s[0] := by
  have := drop_at s 0 h
  rw [List.drop_zero] at this
  rw [this]
  rfl
theorem not_nil (s : ByteArray) (h : 0 < s.size) : s.data.toList.isEmpty = false := by
  have := drop_at s 0 h
  rw [List.drop_zero] at this
  rw [this]
  rfl
theorem nameR_some (s : ByteArray) (h : 0 < s.size) (h2 : s.size ≤ 24) (h3 : isDigit s[0] = false) : nameR s.data.toList = s.data.toList.all isLetter := by
  unfold nameR
  rw [head_s s h, not_nil s h, size_len]
  simp [h2, h3]
theorem nameR_empty (s : ByteArray) (h : s.size = 0) : nameR s.data.toList = false := by
  have : s.data.toList = [] := List.eq_nil_of_length_eq_zero (by rw [size_len]; exact h)
  rw [this]
  rfl
theorem nameR_long (s : ByteArray) (h : 24 < s.size) : nameR s.data.toList = false := by
  unfold nameR
  rw [size_len]
  simp
  omega
theorem nameR_digit (s : ByteArray) (h : 0 < s.size) (h3 : isDigit s[0] = true) : nameR s.data.toList = false := by
  unfold nameR
  rw [head_s s h]
  simp [h3]
theorem nameR_pos (s : ByteArray) (h : nameR s.data.toList = true) : 0 < s.size := by
  rcases Nat.eq_zero_or_pos s.size with h0 | h0
  · rw [nameR_empty s h0] at h
    cases h
  · exact h0

theorem bigR_no (s : ByteArray) (h : nameR s.data.toList = false) : bigR s.data.toList = false := by simp [bigR, h]
theorem valueR_no (s : ByteArray) (h : nameR s.data.toList = false) : valueR s.data.toList = false := by simp [valueR, h]
theorem bigR_yes (s : ByteArray) (h : nameR s.data.toList = true) (hp : 0 < s.size) : bigR s.data.toList = isLarge s[0] := by simp [bigR, h, head_s s hp]
theorem valueR_yes (s : ByteArray) (h : nameR s.data.toList = true) (hp : 0 < s.size) : valueR s.data.toList = !isLarge s[0] := by simp [valueR, h, head_s s hp]

end Go.Proofs.Ytcokihblicgbpaa

namespace Go.Proofs.Ytcokihblicgbpaa
open Go.RowKit Go.Lib

theorem below_drewN {H : Nat} {w w1 : World} (h : Below H w w1) (n : Nat) : Below H w (w1.drewN n) := ⟨h.os, h.tape, h.output, h.size, h.block⟩

theorem get_nat (s : ByteArray) (p : Nat) (h : p < s.size) : s.get! p = s[p] := get_at s p h
/-- How far a rune that is no ASCII one goes: over no ASCII byte. -/
theorem decode_wide (s : ByteArray) (pos : Nat) (h : pos < s.size) (ha : 128 ≤ (s[pos]'h).toNat) : pos + (Utf8.decode s pos).2 ≤ s.size ∧ ∀ j (hj : j < s.size), pos ≤ j → j < pos + (Utf8.decode s pos).2 → 128 ≤ (s[j]'hj).toNat := by
  have hn : ¬ (s[pos]'h).toNat < 128 := by omega
  have one : pos + 1 ≤ s.size ∧ ∀ j (hj : j < s.size), pos ≤ j → j < pos + 1 → 128 ≤ (s[j]'hj).toNat := by
    refine ⟨by omega, fun j hj h1 h2 => ?_⟩
    obtain rfl : j = pos := by omega
    exact ha
  have c : ∀ k, (decide (pos + k < s.size) && (s.get! (pos + k)).toNat / 64 == 2) = true → ∀ hj : pos + k < s.size, 128 ≤ (s[pos + k]'hj).toNat := by
    intro k hk hj
    rw [Bool.and_eq_true, beq_iff_eq, get_nat s _ hj] at hk
    omega
  have c' : ∀ k, (decide (pos + k < s.size) && (s.get! (pos + k)).toNat / 64 == 2) = true → pos + k < s.size := by
    intro k hk
    rw [Bool.and_eq_true] at hk
    exact of_decide_eq_true hk.1
  simp only [Utf8.decode, get_at s pos h, hn, if_false]
  split
  · rename_i h2
    rw [Bool.and_eq_true] at h2
    split
    · refine ⟨by have := c' 1 h2.2; omega, fun j hj h3 h4 => ?_⟩
      rcases (by omega : j = pos ∨ j = pos + 1) with rfl | rfl
      · exact ha
      · exact c 1 h2.2 hj
    · exact one
  · split
    · rename_i h2
      simp only [Bool.and_eq_true] at h2
      have q1 := c 1 (by simp only [Bool.and_eq_true]; exact h2.1.2)
      have q2 := c 2 (by simp only [Bool.and_eq_true]; exact h2.2)
      have q3 := c' 2 (by simp only [Bool.and_eq_true]; exact h2.2)
      split
      · refine ⟨by omega, fun j hj h3 h4 => ?_⟩
        rcases (by omega : j = pos ∨ j = pos + 1 ∨ j = pos + 2) with rfl | rfl | rfl
        · exact ha
        · exact q1 hj
        · exact q2 hj
      · exact one
    · split
      · rename_i h2
        simp only [Bool.and_eq_true] at h2
        have q1 := c 1 (by simp only [Bool.and_eq_true]; exact h2.1.1.2)
        have q2 := c 2 (by simp only [Bool.and_eq_true]; exact h2.1.2)
        have q3 := c 3 (by simp only [Bool.and_eq_true]; exact h2.2)
        have q4 := c' 3 (by simp only [Bool.and_eq_true]; exact h2.2)
        split
        · refine ⟨by omega, fun j hj h3 h4 => ?_⟩
          rcases (by omega : j = pos ∨ j = pos + 1 ∨ j = pos + 2 ∨ j = pos + 3) with rfl | rfl | rfl | rfl
          · exact ha
          · exact q1 hj
          · exact q2 hj
          · exact q3 hj
        · exact one
      · exact one

def sgn : ByteArray := ⟨#[91, 93, 40, 41, 44]⟩
theorem sgn_low : ∀ i (h : i < sgn.size), (sgn[i]'h).toNat < 128 := by decide
theorem indexByte_high : ∀ (l : List UInt8) (c : UInt8), 128 ≤ c.toNat → (∀ b ∈ l, b.toNat < 128) → indexByte l c = -1
  | [], _, _, _ => rfl
  | b :: l, c, h, hl => by
    have h1 : b ≠ c := by rintro rfl; have := hl b (by simp); omega
    rw [indexByte, if_neg (by simpa using h1), indexByte_high l c h (fun x hx => hl x (by simp [hx]))]
    rfl
theorem low_mem (s : ByteArray) (hs : ∀ i (h : i < s.size), (s[i]'h).toNat < 128) : ∀ b ∈ s.data.toList, b.toNat < 128 := by
  intro b hb
  obtain ⟨i, hi, rfl⟩ := List.getElem_of_mem hb
  exact hs i (by rw [← size_len]; exact hi)

end Go.Proofs.Ytcokihblicgbpaa

namespace Go.Proofs.Ytcokihblicgbpaa
open Go.RowKit Go.Lib

end Go.Proofs.Ytcokihblicgbpaa

namespace Go.Proofs.Ytcokihblicgbpaa
open Go.RowKit Go.Lib

end Go.Proofs.Ytcokihblicgbpaa

namespace Go.Proofs.Ytcokihblicgbpaa
open Go.RowKit Go.Lib

theorem hid_iff (p : Prop) : Hid p = p := rfl
theorem noAny_far {s chars : List UInt8} {i n : Nat} (h : NoAny s chars i) (hw : ∀ j b, i ≤ j → j < n → s[j]? = some b → chars.contains b = false) : NoAny s chars n := by
  intro j b hj hb
  rcases Nat.lt_or_ge j i with h1 | h1
  · exact h j b h1 hb
  · exact hw j b h1 hj hb
theorem sgn_high (b : UInt8) (h : 128 ≤ b.toNat) : ([91, 93, 40, 41, 44] : List UInt8).contains b = false := by
  rw [Bool.eq_false_iff]
  intro hc
  rw [List.contains_iff_mem] at hc
  simp only [List.mem_cons, List.not_mem_nil, or_false] at hc
  rcases hc with rfl | rfl | rfl | rfl | rfl <;> simp at h

/-- Where the first byte stands for which f does not hold. -/
theorem find_tw (f : UInt8 → Bool) (g : List UInt8 → Int) (h0 : g [] = -1) (h1 : ∀ b l, g (b :: l) = if f b then (if g l == -1 then -1 else g l + 1) else 0) : ∀ l : List UInt8, (g l = -1 ∧ l.takeWhile f = l) ∨ (g l = ((l.takeWhile f).length : Int) ∧ (l.takeWhile f).length < l.length)
  | [] => .inl ⟨h0, rfl⟩
  | b :: l => by
    have ih := find_tw f g h0 h1 l
    rw [h1]
    by_cases hb : f b = true
    · rw [List.takeWhile_cons_of_pos hb, if_pos hb]
      rcases ih with ⟨e1, e2⟩ | ⟨e1, e2⟩
      · exact .inl ⟨by rw [e1]; rfl, by rw [e2]⟩
      · right
        rw [e1, if_neg (by rw [beq_iff_eq]; omega)]
        exact ⟨by simp, by simpa using e2⟩
    · rw [List.takeWhile_cons_of_neg hb, if_neg hb]
      exact .inr ⟨rfl, by simp⟩
set_option maxRecDepth 100000 in
theorem sgn_sign (b : UInt8) : ([91, 93, 40, 41, 44] : List UInt8).contains b = isSign b := by
  have key : ∀ n : Fin 256, ([91, 93, 40, 41, 44] : List UInt8).contains (UInt8.ofNat n.val) = isSign (UInt8.ofNat n.val) := by decide
  have := key ⟨b.toNat, b.toNat_lt⟩
  simpa using this
theorem idx_word (l : List UInt8) : (indexAny l [91, 93, 40, 41, 44] = -1 ∧ wordR l = l) ∨ (indexAny l [91, 93, 40, 41, 44] = ((wordR l).length : Int) ∧ (wordR l).length < l.length) := by
  refine find_tw notSign (fun l => indexAny l [91, 93, 40, 41, 44]) rfl (fun b l => ?_) l
  show indexAny (b :: l) _ = _
  rw [indexAny, sgn_sign, notSign]
  cases isSign b <;> simp
theorem idx_dot (l : List UInt8) : (indexByte l 46 = -1 ∧ aheadR l = l) ∨ (indexByte l 46 = ((aheadR l).length : Int) ∧ (aheadR l).length < l.length) := by
  refine find_tw notDot (fun l => indexByte l 46) rfl (fun b l => ?_) l
  show indexByte (b :: l) _ = _
  have hb : (b == 46) = decide (b.toNat = 46) := by
    rw [Bool.eq_iff_iff, beq_iff_eq, decide_eq_true_iff]
    exact ⟨fun h => by rw [h]; rfl, fun h => UInt8.toNat_inj.1 (by rw [h]; rfl)⟩
  rw [indexByte, hb, notDot]
  cases decide (b.toNat = 46) <;> simp
theorem str_take (s : ByteArray) (n : Nat) : s.extract 0 n = str (s.data.toList.take n) := by rw [extract_str]; simp
theorem str_drop (s : ByteArray) (n : Nat) : s.extract n s.size = str (s.data.toList.drop n) := by
  rw [extract_str, List.take_of_length_le (by rw [List.length_drop, size_len]; omega)]
theorem word_take (l : List UInt8) : l.take (wordR l).length = wordR l := take_tw _ _
theorem ahead_take (l : List UInt8) : l.take (aheadR l).length = aheadR l := take_tw _ _
theorem word_le (l : List UInt8) : (wordR l).length ≤ l.length := (List.takeWhile_prefix _).length_le

/-- A text; what was there stays. -/
def TextB (l : List UInt8) (w : World) (e : Ending) (w' : World) : Prop := e = .returned (.string (str l)) ∧ Below w.heap.size w w'

/-- strings.Cut at a point. -/
def CutS (l : List UInt8) (w : World) (e : Ending) (w' : World) : Prop := ∃ b n, e = .returned (.tuple #[.string (str (aheadR l)), .string (str (behindR l)), .bool b]) ∧ w' = w.drewN n

/-- The parts of a named type; nothing, if it is none. -/
def CutE (l : List UInt8) (w : World) (e : Ending) (w' : World) : Prop :=
  e = .returned (if namedR l = true then .tuple #[.string (str (aheadR l)), .string (str (behindR l)), .bool true] else .tuple #[.string (str []), .string (str []), .bool false]) ∧ ∃ n, w' = w.drewN n
theorem cutE_yes {l : List UInt8} {w : World} {x y : List UInt8} (h : namedR l = true) (hx : aheadR l = x) (hy : behindR l = y) (n : Nat) : CutE l w (.returned (.tuple #[.string (str x), .string (str y), .bool true])) (w.drewN n) := by
  subst hx hy
  exact ⟨by rw [if_pos h], n, rfl⟩
theorem cutE_no {l : List UInt8} {w : World} {x y : ByteArray} (h : namedR l = false) (hx : x = str []) (hy : y = str []) (n : Nat) : CutE l w (.returned (.tuple #[.string x, .string y, .bool false])) (w.drewN n) := by
  subst hx hy
  exact ⟨by rw [if_neg (by rw [h]; decide)], n, rfl⟩

/-- A bool; nothing is drawn but the order. -/
def BoolE (b : Bool) (w : World) (e : Ending) (w' : World) : Prop := e = .returned (.bool b) ∧ ∃ n, w' = w.drewN n
theorem wordOk_named {l : List UInt8} (h : namedR l = true) : wordOk l = true := by simp [wordOk, h]
theorem wordOk_other {l : List UInt8} (h : namedR l = false) : wordOk l = (decide (l = numL) || decide (l = bytesL)) := by simp [wordOk, h]
theorem str_eq_iff (s : ByteArray) (l : List UInt8) : s = str l ↔ s.data.toList = l := by
  constructor
  · rintro rfl; rfl
  · intro h; rw [← h, str_toList]

end Go.Proofs.Ytcokihblicgbpaa

namespace Go.Proofs.Ytcokihblicgbpaa
open Go.RowKit

/-- Whole numbers as cells. -/
def ic (l : List Nat) : List Value := l.map fun (n : Nat) => Value.int .i64 (n : Int)
theorem ic_length (l : List Nat) : (ic l).length = l.length := by simp [ic]
theorem ic_append (a b : List Nat) : ic (a ++ b) = ic a ++ ic b := by simp [ic]
theorem infoI : (Try.prog.info? 3).map (fun i => (i.zero.map (fun z => z.cells.size), i.size, i.bytes)) = some (some 1, 1, 8) := by kernel_rfl
/-- append of one whole number onto a row of the call's own. -/
theorem append_nat {w : World} {ops : Array Oper} {rest : List Oper} {o : Oper} {a : Act} {Q : Exit → Act → World → Prop} (hgd : o.guard = none) (s x : Operand)
    (ho : o.op = .call { callee := .builtin .append, args := #[s, x], argTypes := #[35, 35] })
    (B : Nat) (v : Value) (acc : List Nat) (hs : a.eval s = v) (hown : w.ownsRow B 3 1 v acc.length (ic acc))
    (ad : Addr) (c : Nat) (n : Nat) (hx : a.eval x = .slice (some ad) 1 c) (hnews : ∀ j u, (ic [n])[j]? = some u → w.cell? (ad.add j) = some u)
    (hlen : acc.length + 1 ≤ 8193) (hB : B ≤ w.heap.size)
    (h : ∀ ad' c' w', w'.ownsRow B 3 1 (.slice (some ad') (acc.length + 1) c') (acc ++ [n]).length (ic (acc ++ [n])) → w.grownBy w' v.ownBlock → wpList Try.prog ops Q rest (a.put o.dst (.slice (some ad') (acc.length + 1) c')) w') :
    wpList Try.prog ops Q (o :: rest) a w := by
  obtain ⟨i, z, hi, hz, h1, h2, h3⟩ := info_z infoI
  refine wpList_append_own w hgd s x 35 ho B 3 i z 1 8 Try.underlying35 hi hz h1 h2 h3 (by decide) v acc.length (ic acc) hs hown ad 1 c (ic [n]) hx rfl hnews (fun u hu => ?_) (by unfold maxLen; omega) (by omega) hB ?_
  · obtain ⟨_, _, rfl⟩ := List.mem_map.1 hu
    rfl
  intro v' w' k1 k2 k3
  rcases k1.2 with ⟨rfl, hz⟩ | ⟨g, cap, cur, rfl, _⟩
  · omega
  · rw [← ic_append] at k1
    exact h ⟨g, 0, none⟩ cap w' (by simpa using k1) k2

theorem frame127 (a : Act) (h : a.tmps.size = 127) (hd : a.defers = []) : ∃ f : Nat → Value, a = { tmps := #[f 0, f 1, f 2, f 3, f 4, f 5, f 6, f 7, f 8, f 9, f 10, f 11, f 12, f 13, f 14, f 15, f 16, f 17, f 18, f 19, f 20, f 21, f 22, f 23, f 24, f 25, f 26, f 27, f 28, f 29, f 30, f 31, f 32, f 33, f 34, f 35, f 36, f 37, f 38, f 39, f 40, f 41, f 42, f 43, f 44, f 45, f 46, f 47, f 48, f 49, f 50, f 51, f 52, f 53, f 54, f 55, f 56, f 57, f 58, f 59, f 60, f 61, f 62, f 63, f 64, f 65, f 66, f 67, f 68, f 69, f 70, f 71, f 72, f 73, f 74, f 75, f 76, f 77, f 78, f 79, f 80, f 81, f 82, f 83, f 84, f 85, f 86, f 87, f 88, f 89, f 90, f 91, f 92, f 93, f 94, f 95, f 96, f 97, f 98, f 99, f 100, f 101, f 102, f 103, f 104, f 105, f 106, f 107, f 108, f 109, f 110, f 111, f 112, f 113, f 114, f 115, f 116, f 117, f 118, f 119, f 120, f 121, f 122, f 123, f 124, f 125, f 126], defers := [] } := by
  refine ⟨fun k => a.tmps.getD k undef, ?_⟩
  obtain ⟨t, d⟩ := a
  simp only at h hd
  subst hd
  have e := arr_map t
  rw [h] at e
  simp only [Act.mk.injEq, and_true]
  exact e

/-- Where a type ends. -/
def EndE (r : Int) (w : World) (e : Ending) (w' : World) : Prop := e = .returned (.int .i64 r) ∧ Below w.heap.size w w'
theorem endE_no {L : List UInt8} {fr : Nat} {w w' : World} {z : Int} (h : one (L.drop fr) = none) (hz : z = -1) (hb : Below w.heap.size w w') : EndE (endI L fr) w (.returned (.int .i64 z)) w' := by
  subst hz
  exact ⟨by rw [endI, h], hb⟩
theorem endE_yes {L : List UInt8} {fr p : Nat} {w w' : World} {z : Int} (h : one (L.drop fr) = some (L.drop p)) (hz : z = (p : Int)) (hp : p ≤ L.length) (hb : Below w.heap.size w w') : EndE (endI L fr) w (.returned (.int .i64 z)) w' := by
  subst hz
  refine ⟨?_, hb⟩
  rw [endI, h]
  simp
  omega
/-- What holds at each label of end. -/
def edJ (s : ByteArray) (R : Option (List UInt8)) (w0 : World) (l : Nat) (a : Act) (w : World) : Prop :=
  ∃ (p : Nat) (st : List Nat) (v : Value), a.tmps.size = 127 ∧ a.defers = [] ∧ a.tmps.getD 0 undef = .string s ∧ a.tmps.getD 5 undef = v ∧ a.tmps.getD 7 undef = .int .i64 (p : Int) ∧
    p ≤ s.size ∧ st.length ≤ p ∧ (∀ k ∈ st, k ≤ 6) ∧ w.ownsRow w0.heap.size 3 1 v st.length (ic st.reverse) ∧ Below w0.heap.size w0 w ∧
    ((l = 0 ∧ Hid (begS st (s.data.toList.drop p) = R)) ∨ (l = 1 ∧ Hid (behS st (s.data.toList.drop p) = R)))
def edM (s : ByteArray) (l : Nat) (a : Act) (_ : World) : Nat :=
  match l with
  | 0 => 2 * (s.size - (intOf (a.tmps.getD 7 undef)).toNat) + 1
  | _ => 2 * (s.size - (intOf (a.tmps.getD 7 undef)).toNat) + 2
theorem pre2_yes (c d : UInt8) (r : List UInt8) (h1 : c.toNat = 40) (h2 : d.toNat = 41) : Lib.hasPrefix (c :: d :: r) [40, 41] = true := by
  have e1 : c = 40 := UInt8.toNat_inj.1 h1
  have e2 : d = 41 := UInt8.toNat_inj.1 h2
  subst e1 e2
  simp [Lib.hasPrefix]
theorem pre2_no (l : List UInt8) (h : ∀ c d r, l = c :: d :: r → c.toNat = 40 → d.toNat ≠ 41) : Lib.hasPrefix l [40, 41] = false := by
  match l with
  | [] => rfl
  | [c] => simp [Lib.hasPrefix, List.isPrefixOf]
  | c :: d :: r =>
    have := h c d r rfl
    rw [Bool.eq_false_iff]
    intro hp
    simp only [Lib.hasPrefix, List.isPrefixOf_cons_cons, Bool.and_eq_true, beq_iff_eq] at hp
    exact this (by rw [← hp.1]; rfl) (by rw [← hp.2.1]; rfl)
theorem ext_data (s : ByteArray) (p : Nat) : (s.extract p s.size).data.toList = s.data.toList.drop p := by rw [str_drop, str_data]
theorem ext_size (s : ByteArray) (p : Nat) : (s.extract p s.size).size ≤ s.size := by rw [str_drop, str_size, List.length_drop, size_len]; omega

end Go.Proofs.Ytcokihblicgbpaa

namespace Go.Proofs.Ytcokihblicgbpaa
open Go.RowKit

/-- A bool; what was there stays. -/
def BoolB (b : Bool) (w : World) (e : Ending) (w' : World) : Prop := e = .returned (.bool b) ∧ Below w.heap.size w w'
theorem end_len (L : List UInt8) : ((endI L 0 == (L.length : Int)) = true) ↔ one L = some [] := by
  rw [beq_iff_eq, endI, List.drop_zero]
  cases h : one L with
  | none => simp
  | some r =>
    simp only [Option.some.injEq]
    constructor
    · intro e
      exact List.eq_nil_of_length_eq_zero (by omega)
    · rintro rfl
      simp

theorem rightR_len {l : List UInt8} (h : rightR l = true) : l.length ≤ 200 := by
  rw [rightR, Bool.and_eq_true, decide_eq_true_iff] at h
  exact h.1
theorem rightR_one {l : List UInt8} (h : rightR l = true) : one l = some [] := by
  rw [rightR, Bool.and_eq_true, decide_eq_true_iff, decide_eq_true_iff] at h
  exact h.2
theorem rightR_pos {l : List UInt8} (h : rightR l = true) : 0 < l.length := by
  have := one_len (rightR_one h)
  simpa using this
/-- The element of an array. -/
def elemR (l : List UInt8) : List UInt8 := (l.drop 1).take (l.length - 2)
def isArr (l : List UInt8) : Bool := rightR l && isHead 91 l
def isFn (l : List UInt8) : Bool := rightR l && isHead 40 l
def ElemE (l : List UInt8) (w : World) (e : Ending) (w' : World) : Prop :=
  e = .returned (if isArr l = true then .tuple #[.string (str (elemR l)), .bool true] else .tuple #[.string (str []), .bool false]) ∧ Below w.heap.size w w'
theorem elemE_yes {l x : List UInt8} {w w' : World} (h : isArr l = true) (hx : elemR l = x) (hb : Below w.heap.size w w') : ElemE l w (.returned (.tuple #[.string (str x), .bool true])) w' := by
  subst hx
  exact ⟨by rw [if_pos h], hb⟩
theorem elemE_no {l : List UInt8} {x : ByteArray} {w w' : World} (h : isArr l = false) (hx : x = str []) (hb : Below w.heap.size w w') : ElemE l w (.returned (.tuple #[.string x, .bool false])) w' := by
  subst hx
  exact ⟨by rw [if_neg (by rw [h]; decide)], hb⟩
theorem isHead_at (s : ByteArray) (n : Nat) (h : 0 < s.size) : isHead n s.data.toList = decide (s[0].toNat = n) := by
  have := drop_at s 0 h
  rw [List.drop_zero] at this
  rw [this, isHead_cons]
theorem arr_two {c : UInt8} {r : List UInt8} (hc : c.toNat = 91) (h : one (c :: r) = some []) : 2 ≤ (c :: r).length := by
  cases r with
  | nil => rw [one_arr _ hc, one_nil] at h; cases h
  | cons => simp

theorem below_trans {w w1 w2 : World} (h1 : Below w.heap.size w w1) (h2 : Below w1.heap.size w1 w2) : Below w.heap.size w w2 :=
  h1.trans ⟨h2.os, h2.tape, h2.output, h2.size, fun k hk => h2.block k (Nat.lt_of_lt_of_le hk h1.size)⟩
theorem named_short {l : List UInt8} (h : namedR l = true) : (aheadR l).length ≤ 24 ∧ (behindR l).length ≤ 24 := by
  rw [namedR, Bool.and_eq_true, valueR, Bool.and_eq_true, bigR, Bool.and_eq_true] at h
  have h1 := h.1.1
  have h2 := h.2.1
  simp only [nameR, Bool.and_eq_true, decide_eq_true_eq] at h1 h2
  exact ⟨h1.1.1.2, h2.1.1.2⟩
/-- The parts of a named type; nothing, if it is none. -/
def NamedE (l : List UInt8) (w : World) (e : Ending) (w' : World) : Prop :=
  e = .returned (if namedR l = true then .tuple #[.string (str (aheadR l)), .string (str (behindR l)), .bool true] else .tuple #[.string (str []), .string (str []), .bool false]) ∧ Below w.heap.size w w'
/-- A row of texts that can be read. -/
def StrRow (w : World) (v : Value) (xs : List (List UInt8)) : Prop :=
  (xs = [] ∧ ∃ a c, v = .slice a 0 c) ∨ ∃ bk o c, v = .slice (some ⟨bk, o, none⟩) xs.length c ∧ bk < w.heap.size ∧ xs.length ≤ c ∧ ∀ (j : Nat) x, xs[j]? = some x → w.cell? ⟨bk, o + j, none⟩ = some (.string (str x))
theorem StrRow.below {w w' : World} {v : Value} {xs : List (List UInt8)} (h : StrRow w v xs) (hb : Below w.heap.size w w') : StrRow w' v xs := by
  rcases h with h | ⟨bk, o, c, rfl, h1, h2, h3⟩
  · exact .inl h
  · exact .inr ⟨bk, o, c, rfl, Nat.lt_of_lt_of_le h1 hb.size, h2, fun j x hj => by
      have := h3 j x hj
      unfold World.cell? at this ⊢
      rw [hb.block bk h1]
      exact this⟩
theorem StrRow.shape {w : World} {v : Value} {xs : List (List UInt8)} (h : StrRow w v xs) : ∃ a c, v = .slice a xs.length c := by
  rcases h with ⟨rfl, a, c, rfl⟩ | ⟨bk, o, c, rfl, _⟩
  · exact ⟨a, c, rfl⟩
  · exact ⟨_, c, rfl⟩
/-- Texts as cells. -/
def sc (l : List (List UInt8)) : List Value := l.map fun x => Value.string (str x)
theorem sc_length (l : List (List UInt8)) : (sc l).length = l.length := by simp [sc]
theorem sc_append (a b : List (List UInt8)) : sc (a ++ b) = sc a ++ sc b := by simp [sc]
theorem strRow_own {w : World} {B e : Nat} {v : Value} {xs : List (List UInt8)} (h : w.ownsRow B e 1 v xs.length (sc xs)) : StrRow w v xs := by
  rcases h.2 with ⟨rfl, hn⟩ | ⟨g, cap, cur, rfl, hb, hg, h1, _⟩
  · exact .inl ⟨List.eq_nil_of_length_eq_zero hn, none, 0, rfl⟩
  · refine .inr ⟨g, 0, cap, rfl, (Array.getElem?_eq_some_iff.1 hg).1, h1, fun j x hj => ?_⟩
    have hlt := (List.getElem?_eq_some_iff.1 hj).1
    rw [Nat.zero_add, h.cellAt j (by omega)]
    simp [sc, hj]
theorem map_data (xs : List (List UInt8)) : (xs.map str).map (·.data.toList) = xs := by
  rw [List.map_map]
  conv => rhs; rw [← List.map_id xs]
  rfl

end Go.Proofs.Ytcokihblicgbpaa

namespace Go.Proofs.Ytcokihblicgbpaa
open Go.RowKit

theorem infoS : (Try.prog.info? 9).map (fun i => (i.zero.map (fun z => z.cells.size), i.size, i.bytes)) = some (some 1, 1, 16) := by kernel_rfl
/-- append of one text onto a row of the call's own. -/
theorem append_text {w : World} {ops : Array Oper} {rest : List Oper} {o : Oper} {a : Act} {Q : Exit → Act → World → Prop} (hgd : o.guard = none) (s x : Operand)
    (ho : o.op = .call { callee := .builtin .append, args := #[s, x], argTypes := #[30, 30] })
    (B : Nat) (v : Value) (acc : List (List UInt8)) (hs : a.eval s = v) (hown : w.ownsRow B 9 1 v acc.length (sc acc))
    (ad : Addr) (c : Nat) (n : List UInt8) (hx : a.eval x = .slice (some ad) 1 c) (hnews : ∀ j u, (sc [n])[j]? = some u → w.cell? (ad.add j) = some u)
    (hlen : acc.length + 1 ≤ 8193) (hB : B ≤ w.heap.size)
    (h : ∀ ad' c' w', w'.ownsRow B 9 1 (.slice (some ad') (acc.length + 1) c') (acc ++ [n]).length (sc (acc ++ [n])) → w.grownBy w' v.ownBlock → wpList Try.prog ops Q rest (a.put o.dst (.slice (some ad') (acc.length + 1) c')) w') :
    wpList Try.prog ops Q (o :: rest) a w := by
  obtain ⟨i, z, hi, hz, h1, h2, h3⟩ := info_z infoS
  refine wpList_append_own w hgd s x 30 ho B 9 i z 1 16 Try.underlying30 hi hz h1 h2 h3 (by decide) v acc.length (sc acc) hs hown ad 1 c (sc [n]) hx rfl hnews (fun u hu => ?_) (by unfold maxLen; omega) (by omega) hB ?_
  · obtain ⟨_, _, rfl⟩ := List.mem_map.1 hu
    rfl
  intro v' w' k1 k2 k3
  rcases k1.2 with ⟨rfl, hz⟩ | ⟨g, cap, cur, rfl, _⟩
  · omega
  · rw [← sc_append] at k1
    exact h ⟨g, 0, none⟩ cap w' (by simpa using k1) k2
theorem frame44 (a : Act) (h : a.tmps.size = 44) (hd : a.defers = []) : ∃ f : Nat → Value, a = { tmps := #[f 0, f 1, f 2, f 3, f 4, f 5, f 6, f 7, f 8, f 9, f 10, f 11, f 12, f 13, f 14, f 15, f 16, f 17, f 18, f 19, f 20, f 21, f 22, f 23, f 24, f 25, f 26, f 27, f 28, f 29, f 30, f 31, f 32, f 33, f 34, f 35, f 36, f 37, f 38, f 39, f 40, f 41, f 42, f 43], defers := [] } := by
  refine ⟨fun k => a.tmps.getD k undef, ?_⟩
  obtain ⟨t, d⟩ := a
  simp only at h hd
  subst hd
  have e := arr_map t
  rw [h] at e
  simp only [Act.mk.injEq, and_true]
  exact e

/-- The parts of a function; nothing, if it is none. -/
def PartsE (l : List UInt8) (w : World) (e : Ending) (w' : World) : Prop :=
  ((isFn l = true ∧ ∃ v, e = .returned (.tuple #[v, .string (str (partsR l).2), .bool true]) ∧ StrRow w' v (partsR l).1) ∨ (isFn l = false ∧ e = .returned (.tuple #[.slice none 0 0, .string (str []), .bool false]))) ∧ Below w.heap.size w w'
/-- Where a parameter ends. -/
theorem param_at {L : List UInt8} {p : Nat} {c : UInt8} {r : List UInt8} (h : one (L.drop p) = some (c :: r)) : ∃ q, p < q ∧ q < L.length ∧ endI L p = (q : Int) ∧ L.drop q = c :: r ∧ (L.drop p).take ((L.drop p).length - (r.length + 1)) = (L.drop p).take (q - p) ∧ L.drop (q + 1) = r := by
  obtain ⟨x, hx, e⟩ := one_suffix h
  have hl := congrArg List.length e
  simp only [List.length_drop, List.length_append, List.length_cons] at hl
  have hx' : 0 < x.length := List.length_pos_iff.2 hx
  have hq : L.drop (p + x.length) = c :: r := by rw [← List.drop_drop, e]; simp
  refine ⟨p + x.length, by omega, by omega, ?_, hq, ?_, drop_cons hq⟩
  · rw [endI, h]
    simp
    omega
  · rw [List.length_drop]
    congr 1
    omega
def ptJ (s : ByteArray) (w0 : World) (lp lc l : Nat) (a : Act) (w : World) : Prop :=
  ∃ (p : Nat) (acc : List (List UInt8)) (v : Value), a.tmps.size = 44 ∧ a.defers = [] ∧ a.tmps.getD 0 undef = .string s ∧ a.tmps.getD 5 undef = v ∧ a.tmps.getD 7 undef = .int .i64 (p : Int) ∧
    p < s.size ∧ acc.length ≤ 6 ∧ w.ownsRow w0.heap.size 9 1 v acc.length (sc acc) ∧ Below w0.heap.size w0 w ∧
    ((l = lp ∧ acc.length < 6 ∧ Hid (Goes acc.length (s.data.toList.drop p)) ∧ Hid (partsR s.data.toList = (acc ++ (psQ (s.data.toList.drop p)).1, (psQ (s.data.toList.drop p)).2))) ∨
     (l = lc ∧ Hid (partsR s.data.toList = (acc, s.data.toList.drop (p + 1)))))
def ptM (s : ByteArray) (lp l : Nat) (a : Act) (_ : World) : Nat :=
  if l = lp then (s.size - (intOf (a.tmps.getD 7 undef)).toNat) + 1 else 0
end Go.Proofs.Ytcokihblicgbpaa

namespace Go.Proofs.Ytcokihblicgbpaa
open Go.Lib

abbrev Str : Type := List UInt8
theorem str_total (a b : Str) : a ≤ b ∨ b ≤ a := List.le_total a b
theorem str_le_trans {a b c : Str} (h : a ≤ b) (k : b ≤ c) : a ≤ c := List.le_trans h k
theorem str_le_anti {a b : Str} (h : a ≤ b) (k : b ≤ a) : a = b := List.le_antisymm h k
theorem str_lt_iff {a b : Str} : a < b ↔ a ≤ b ∧ a ≠ b := by
  constructor
  · intro h
    exact ⟨List.le_of_lt h, fun e => by subst e; exact List.lt_irrefl _ h⟩
  · rintro ⟨h, hn⟩
    exact Classical.byContradiction fun hl => hn (str_le_anti h (List.not_lt.1 hl))
theorem str_lt_trans {a b c : Str} (h : a < b) (k : b < c) : a < c := List.lt_trans h k
theorem str_lt_of_le {a b c : Str} (h : a ≤ b) (k : b < c) : a < c := by
  obtain ⟨k1, k2⟩ := str_lt_iff.1 k
  refine str_lt_iff.2 ⟨str_le_trans h k1, fun e => ?_⟩
  subst e
  exact k2 (str_le_anti k1 h)
/-- Strictly in order. -/
def Asc (l : List Str) : Prop := l.Pairwise (· < ·)
theorem asc_ext : ∀ {l m : List Str}, Asc l → Asc m → (∀ x, x ∈ l ↔ x ∈ m) → l = m
  | [], [], _, _, _ => rfl
  | [], b :: m, _, _, h => by have := (h b).2 (by simp); simp at this
  | a :: l, [], _, _, h => by have := (h a).1 (by simp); simp at this
  | a :: l, b :: m, h1, h2, h => by
    unfold Asc at h1 h2
    rw [List.pairwise_cons] at h1 h2
    have hab : a = b := by
      have ha := (h a).1 (by simp)
      have hb := (h b).2 (by simp)
      simp only [List.mem_cons] at ha hb
      rcases ha with e | ha
      · exact e
      · rcases hb with e | hb
        · exact e.symm
        · exact absurd (str_lt_trans (h1.1 b hb) (h2.1 a ha)) (List.lt_irrefl _)
    subst hab
    rw [asc_ext h1.2 h2.2 (fun x => ?_)]
    have hx := h x
    simp only [List.mem_cons] at hx
    constructor
    · intro hl
      rcases hx.1 (.inr hl) with e | hm
      · subst e
        exact absurd (h1.1 _ hl) (List.lt_irrefl _)
      · exact hm
    · intro hm
      rcases hx.2 (.inr hm) with e | hl
      · subst e
        exact absurd (h2.1 _ hm) (List.lt_irrefl _)
      · exact hl
theorem comp_mem (d : Array Str) : ∀ (n : Nat) (x : Str), x ∈ compactUpTo d n ↔ ∃ j, j < n ∧ d[j]! = x
  | 0, x => by simp [compactUpTo]
  | n + 1, x => by
    rw [compactUpTo_succ, List.mem_append, comp_mem d n x]
    by_cases hk : keeps d n = true
    · rw [if_pos hk]
      simp only [List.mem_singleton]
      constructor
      · rintro (⟨j, h1, h2⟩ | h)
        · exact ⟨j, by omega, h2⟩
        · exact ⟨n, by omega, h.symm⟩
      · rintro ⟨j, h1, h2⟩
        rcases (by omega : j < n ∨ j = n) with h | rfl
        · exact .inl ⟨j, h, h2⟩
        · exact .inr h2.symm
    · rw [if_neg hk]
      simp only [keeps, decide_eq_true_eq, not_or, ne_eq, Classical.not_not] at hk
      constructor
      · rintro (⟨j, h1, h2⟩ | h)
        · exact ⟨j, by omega, h2⟩
        · simp at h
      · rintro ⟨j, h1, h2⟩
        rcases (by omega : j < n ∨ j = n) with h | rfl
        · exact .inl ⟨j, h, h2⟩
        · exact .inl ⟨j - 1, by omega, by rw [← hk.2]; exact h2⟩
theorem comp_asc (d : Array Str) (hd : ∀ i j, i ≤ j → j < d.size → d[i]! ≤ d[j]!) : ∀ n, n ≤ d.size → Asc (compactUpTo d n)
  | 0, _ => by simp [compactUpTo, Asc]
  | n + 1, hn => by
    rw [compactUpTo_succ]
    unfold Asc
    rw [List.pairwise_append]
    refine ⟨comp_asc d hd n (by omega), ?_, fun x hx y hy => ?_⟩
    · split <;> simp
    · by_cases hk : keeps d n = true
      · rw [if_pos hk] at hy
        simp only [List.mem_singleton] at hy
        subst hy
        obtain ⟨j, hj, rfl⟩ := (comp_mem d n x).1 hx
        simp only [keeps, decide_eq_true_eq] at hk
        rcases hk with hk | hk
        · omega
        · exact str_lt_of_le (hd j (n - 1) (by omega) (by omega)) (str_lt_iff.2 ⟨hd (n - 1) n (by omega) (by omega), fun e => hk e.symm⟩)
      · rw [if_neg hk] at hy
        simp at hy
def sortR (l : List Str) : List Str := l.mergeSort fun x y => decide (x ≤ y)
theorem sortR_length (l : List Str) : (sortR l).length = l.length := List.length_mergeSort _
theorem sortR_mem (l : List Str) (x : Str) : x ∈ sortR l ↔ x ∈ l := (List.mergeSort_perm l _).mem_iff
theorem sortR_pair (l : List Str) : (sortR l).Pairwise (fun x y => x ≤ y) := by
  have := List.pairwise_mergeSort (le := fun x y : Str => decide (x ≤ y)) (fun a b c h k => by simp only [decide_eq_true_eq] at h k ⊢; exact str_le_trans h k) (fun a b => by simp only [Bool.or_eq_true, decide_eq_true_eq]; exact str_total a b) l
  exact this.imp (fun h => of_decide_eq_true h)
/-- The texts in order, each once. -/
def onceR (l : List Str) : List Str := compact (sortR l)
theorem getBang (l : List Str) (j : Nat) (h : j < l.length) : l.toArray[j]! = l[j] := by simp [h]
theorem onceR_asc (l : List Str) : Asc (onceR l) := by
  unfold onceR compact
  refine comp_asc _ (fun i j hij hj => ?_) _ (by simp)
  simp only [List.size_toArray] at hj
  rw [getBang _ i (by omega), getBang _ j hj]
  rcases Nat.lt_or_eq_of_le hij with h | rfl
  · exact List.pairwise_iff_getElem.1 (sortR_pair l) i j (by omega) hj h
  · exact List.le_refl _
theorem onceR_mem (l : List Str) (x : Str) : x ∈ onceR l ↔ x ∈ l := by
  unfold onceR compact
  rw [comp_mem, ← sortR_mem]
  constructor
  · rintro ⟨j, hj, h⟩
    rw [getBang _ j hj] at h
    subst h
    exact List.getElem_mem hj
  · intro h
    obtain ⟨j, hj, rfl⟩ := List.getElem_of_mem h
    exact ⟨j, hj, getBang _ j hj⟩
theorem onceR_eq {l m : List Str} (ha : Asc m) (h : ∀ x, x ∈ m ↔ x ∈ l) : onceR l = m := asc_ext (onceR_asc l) ha (fun x => by rw [onceR_mem, h])

/-- A text is put among others. -/
def putF (s : Str) : Bool → List Str → List Str
  | d, [] => if d then [] else [s]
  | d, x :: r => (if d = false ∧ s ≤ x then [s] else []) ++ ((if x ≠ s then [x] else []) ++ putF s (d || decide (s ≤ x)) r)
def putR (l : List Str) (s : Str) : List Str := putF s false l
theorem putF_done (s : Str) : ∀ l : List Str, putF s true l = l.filter (fun x => decide (x ≠ s))
  | [] => by simp [putF]
  | x :: r => by
    rw [putF, Bool.true_or, putF_done s r, List.filter_cons]
    by_cases h : x = s <;> simp [h]
theorem putR_mem (s : Str) : ∀ (l : List Str) (x : Str), x ∈ putR l s ↔ x ∈ l ∨ x = s
  | [], x => by simp [putR, putF]
  | y :: r, x => by
    have ih := putR_mem s r x
    unfold putR at ih ⊢
    rw [putF]
    by_cases h : s ≤ y
    · rw [if_pos ⟨rfl, h⟩, Bool.false_or, decide_eq_true h, putF_done]
      by_cases hy : y = s
      · subst hy
        simp only [ne_eq, not_true_eq_false, if_false, List.nil_append, List.mem_append, List.mem_filter, decide_eq_true_eq, List.mem_cons, List.not_mem_nil, or_false]
        constructor
        · rintro (h | h)
          · exact .inr h
          · exact .inl (.inr h.1)
        · rintro ((h | h) | h)
          · exact .inl h
          · by_cases e : x = y
            · exact .inl e
            · exact .inr ⟨h, e⟩
          · exact .inl h
      · simp only [ne_eq, hy, not_false_eq_true, if_true, List.mem_append, List.mem_filter, decide_eq_true_eq, List.mem_cons, List.not_mem_nil, or_false]
        constructor
        · rintro (h | h | h)
          · exact .inr h
          · exact .inl (.inl h)
          · exact .inl (.inr h.1)
        · rintro ((h | h) | h)
          · exact .inr (.inl h)
          · by_cases e : x = s
            · exact .inl e
            · exact .inr (.inr ⟨h, e⟩)
          · exact .inl h
    · have hy : y ≠ s := fun e => h (by rw [e]; exact List.le_refl _)
      rw [if_neg (fun hh => h hh.2), Bool.false_or, decide_eq_false h]
      simp only [ne_eq, hy, not_false_eq_true, if_true, List.nil_append, List.mem_append, List.mem_cons, List.not_mem_nil, or_false, ih]
      constructor
      · rintro (h | h | h)
        · exact .inl (.inl h)
        · exact .inl (.inr h)
        · exact .inr h
      · rintro ((h | h) | h)
        · exact .inl h
        · exact .inr (.inl h)
        · exact .inr (.inr h)
theorem putR_asc (s : Str) : ∀ (l : List Str), Asc l → Asc (putR l s)
  | [], _ => by simp [putR, putF, Asc]
  | y :: r, ha => by
    have ih := putR_asc s r
    have hmem := putR_mem s r
    unfold putR at ih hmem ⊢
    unfold Asc at ha ih ⊢
    rw [List.pairwise_cons] at ha
    rw [putF]
    by_cases h : s ≤ y
    · rw [if_pos ⟨rfl, h⟩, Bool.false_or, decide_eq_true h, putF_done, List.singleton_append, List.pairwise_cons]
      refine ⟨fun x hx => ?_, ?_⟩
      · simp only [List.mem_append, List.mem_filter, decide_eq_true_eq] at hx
        rcases hx with hx | hx
        · split at hx
          · rename_i hy
            simp only [List.mem_singleton] at hx
            subst hx
            exact str_lt_iff.2 ⟨h, fun e => hy e.symm⟩
          · simp at hx
        · exact str_lt_of_le h (ha.1 x hx.1)
      · rw [List.pairwise_append]
        refine ⟨by split <;> simp, ha.2.sublist List.filter_sublist, fun a h1 b h2 => ?_⟩
        split at h1
        · simp only [List.mem_singleton] at h1
          subst h1
          exact ha.1 b (List.mem_filter.1 h2).1
        · simp at h1
    · have hy : y ≠ s := fun e => h (by rw [e]; exact List.le_refl _)
      rw [if_neg (fun hh => h hh.2), Bool.false_or, decide_eq_false h, if_pos hy, List.nil_append, List.singleton_append, List.pairwise_cons]
      refine ⟨fun x hx => ?_, ih ha.2⟩
      rcases (hmem x).1 hx with hx | rfl
      · exact ha.1 x hx
      · rcases str_total y x with k | k
        · exact str_lt_iff.2 ⟨k, hy⟩
        · exact absurd k h
/-- Several texts are put. -/
def putsR (l : List Str) (m : List Str) : List Str := m.foldl putR l
theorem putsR_mem : ∀ (m l : List Str) (x : Str), x ∈ putsR l m ↔ x ∈ l ∨ x ∈ m
  | [], l, x => by simp [putsR]
  | s :: m, l, x => by
    have := putsR_mem m (putR l s) x
    unfold putsR at this ⊢
    rw [List.foldl_cons, this, putR_mem]
    simp only [List.mem_cons]
    constructor
    · rintro ((h | h) | h)
      · exact .inl h
      · exact .inr (.inl h)
      · exact .inr (.inr h)
    · rintro (h | h | h)
      · exact .inl (.inl h)
      · exact .inl (.inr h)
      · exact .inr h
theorem putsR_asc : ∀ (m l : List Str), Asc l → Asc (putsR l m)
  | [], _, h => h
  | s :: m, l, h => by
    have := putsR_asc m (putR l s) (putR_asc s l h)
    unfold putsR at this ⊢
    rw [List.foldl_cons]
    exact this
end Go.Proofs.Ytcokihblicgbpaa

namespace Go.Proofs.Ytcokihblicgbpaa
open Go.RowKit Go.Sort

/-- The named types in a type, each once, in order. -/
def namesR (l : List UInt8) : List (List UInt8) := if rightR l = true then onceR (nw l) else []
def NamesE (l : List UInt8) (w : World) (e : Ending) (w' : World) : Prop := ∃ v, e = .returned v ∧ StrRow w' v (namesR l) ∧ Below w.heap.size w w'
theorem frame41 (a : Act) (h : a.tmps.size = 41) (hd : a.defers = []) : ∃ f : Nat → Value, a = { tmps := #[f 0, f 1, f 2, f 3, f 4, f 5, f 6, f 7, f 8, f 9, f 10, f 11, f 12, f 13, f 14, f 15, f 16, f 17, f 18, f 19, f 20, f 21, f 22, f 23, f 24, f 25, f 26, f 27, f 28, f 29, f 30, f 31, f 32, f 33, f 34, f 35, f 36, f 37, f 38, f 39, f 40], defers := [] } := by
  refine ⟨fun k => a.tmps.getD k undef, ?_⟩
  obtain ⟨t, d⟩ := a
  simp only at h hd
  subst hd
  have e := arr_map t
  rw [h] at e
  simp only [Act.mk.injEq, and_true]
  exact e

def nmJ (s : ByteArray) (w0 : World) (l : Nat) (a : Act) (w : World) : Prop :=
  ∃ (p : Nat) (acc : List (List UInt8)) (v : Value), a.tmps.size = 41 ∧ a.defers = [] ∧ a.tmps.getD 0 undef = .string s ∧ a.tmps.getD 3 undef = v ∧ a.tmps.getD 5 undef = .int .i64 (p : Int) ∧
    p < s.size ∧ acc.length ≤ p ∧ w.ownsRow w0.heap.size 9 1 v acc.length (sc acc) ∧ Below w0.heap.size w0 w ∧ l = 0 ∧ Hid (acc ++ nw (s.data.toList.drop p) = nw s.data.toList)
def nmM (s : ByteArray) (_ : Nat) (a : Act) (_ : World) : Nat := s.size - (intOf (a.tmps.getD 5 undef)).toNat
end Go.Proofs.Ytcokihblicgbpaa

namespace Go.Proofs.Ytcokihblicgbpaa
open Go.RowKit

theorem below_cell {H : Nat} {w w1 : World} {g o : Nat} {v : Value} (hb : Below H w w1) (h : w.cell? ⟨g, o, none⟩ = some v) (hg : g < H) : w1.cell? ⟨g, o, none⟩ = some v := by
  rw [World.cell?_of_block (w := w) (hb.block g hg)]
  exact h
theorem TL.below {F : Nat → Prop} {H : Nat} {w w1 : World} {kv : Value} {l : List Tr} (h : TL F w kv l) (hb : Below H w w1) (hF : ∀ g, F g → g < H) : TL F w1 kv l := h.frame fun g hg => ⟨hg, hb.block g (hF g hg)⟩
/-- A tree in memory, at an address. -/
def PT (F : Nat → Prop) (w : World) (g o : Nat) (t : Tr) : Prop :=
  F g ∧ ∃ kv, TL F w kv t.kids ∧ w.cell? ⟨g, o, none⟩ = some (.int .i64 (t.kind : Int)) ∧ w.cell? ⟨g, o + 1, none⟩ = some (.int .i64 (t.place : Int)) ∧ w.cell? ⟨g, o + 2, none⟩ = some (.string (str t.text)) ∧ w.cell? ⟨g, o + 3, none⟩ = some kv
theorem PT.below {F : Nat → Prop} {H : Nat} {w w1 : World} {g o : Nat} {t : Tr} (h : PT F w g o t) (hb : Below H w w1) (hF : ∀ g, F g → g < H) : PT F w1 g o t := by
  obtain ⟨h1, kv, h2, h3, h4, h5, h6⟩ := h
  have hg := hF g h1
  exact ⟨h1, kv, h2.below hb hF, below_cell hb h3 hg, below_cell hb h4 hg, below_cell hb h5 hg, below_cell hb h6 hg⟩

theorem formR_one {t : Tr} (h : t.kind = 3) : formR t = 1 := by simp [formR, h]
theorem formR_bad {t : Tr} (h : t.kind ≠ 3) (h1 : t.kind ≠ 1) : formR t = 0 := by simp [formR, h, h1]
theorem formR_arr {t : Tr} (h1 : t.kind = 1) (h2 : t.kids.length = 2) (hw : isWordR (kid t 0) arrayL = true) : formR t = 2 := by simp [formR, h1, h2, hw]
theorem formR_arr_no {t : Tr} (h1 : t.kind = 1) (h2 : t.kids.length = 2) (hw : isWordR (kid t 0) arrayL = false) : formR t = 0 := by simp [formR, h1, h2, hw]
theorem formR_fn {t : Tr} (h1 : t.kind = 1) (h2 : t.kids.length = 3) (hw : isWordR (kid t 0) fnL = true) : formR t = if (kid t 1).kind = 1 then 3 else 0 := by simp [formR, h1, h2, hw]
theorem formR_fn_no {t : Tr} (h1 : t.kind = 1) (h2 : t.kids.length = 3) (hw : isWordR (kid t 0) fnL = false) : formR t = 0 := by simp [formR, h1, h2, hw]
theorem formR_len {t : Tr} (h1 : t.kind = 1) (h2 : t.kids.length ≠ 2) (h3 : t.kids.length ≠ 3) : formR t = 0 := by simp [formR, h1, h2, h3]
theorem kid_get {t : Tr} {i : Nat} (h : i < t.kids.length) : t.kids[i] = kid t i := by simp [kid, h]
/-- A Kid in memory. -/
theorem TL.kid {F : Nat → Prop} {w : World} {kv : Value} {t : Tr} (h : TL F w kv t.kids) (i : Nat) (hi : i < t.kids.length) : ∃ g cap, kv = .slice (some ⟨g, 0, none⟩) t.kids.length cap ∧ PT F w g (i * 4) (kid t i) := by
  obtain ⟨g, cap, kv', h1, h2, h3, h4, h5, h6, h7⟩ := h.at i hi
  rw [kid_get hi] at h3 h4 h5 h6
  exact ⟨g, cap, h1, h2, kv', h3, h4, h5, h6, h7⟩
def NumB (n : Nat) (w : World) (e : Ending) (w' : World) : Prop := e = .returned (.int .i64 (n : Int)) ∧ Below w.heap.size w w'

end Go.Proofs.Ytcokihblicgbpaa

namespace Go.Proofs.Ytcokihblicgbpaa
open Go.RowKit

/-- The part at an index, or none. -/
def WithinE (F : Nat → Prop) (t : Tr) (i : Nat) (w : World) (e : Ending) (w' : World) : Prop :=
  ((∃ (h : i < (partsT t).length) (g o : Nat), e = .returned (.pointer (some ⟨g, o, none⟩)) ∧ PT F w' g o (partsT t)[i]) ∨ (¬ i < (partsT t).length ∧ e = .returned (.pointer none))) ∧ Below w.heap.size w w'
theorem withinE_yes {F : Nat → Prop} {t u : Tr} {i : Nat} {w w' : World} {g o : Nat} (h : (partsT t)[i]? = some u) (hp : PT F w' g o u) (hb : Below w.heap.size w w') : WithinE F t i w (.returned (.pointer (some ⟨g, o, none⟩))) w' := by
  obtain ⟨h1, rfl⟩ := List.getElem?_eq_some_iff.1 h
  exact ⟨.inl ⟨h1, g, o, rfl, hp⟩, hb⟩
theorem withinE_no {F : Nat → Prop} {t : Tr} {i : Nat} {w w' : World} (h : (partsT t).length ≤ i) (hb : Below w.heap.size w w') : WithinE F t i w (.returned (.pointer none)) w' := ⟨.inr ⟨by omega, rfl⟩, hb⟩
theorem partsT_arr {t : Tr} (h : formR t = 2) : partsT t = [kid t 1] := by simp [partsT, h]
theorem partsT_fn {t : Tr} (h : formR t = 3) : partsT t = (kid t 1).kids ++ [kid t 2] := by simp [partsT, h]
theorem partsT_no {t : Tr} (h2 : formR t ≠ 2) (h3 : formR t ≠ 3) : partsT t = [] := by simp [partsT, h2, h3]
theorem form_cases (t : Tr) : formR t = 0 ∨ formR t = 1 ∨ formR t = 2 ∨ formR t = 3 := by
  unfold formR
  repeat' split
  all_goals simp

end Go.Proofs.Ytcokihblicgbpaa

namespace Go.Proofs.Ytcokihblicgbpaa
open Go.RowKit

def MadeE (r : Except Nat (List UInt8)) (w : World) (e : Ending) (w' : World) : Prop :=
  (match r with
  | .ok x => e = .returned (.tuple #[.string (str x), .int .i64 0])
  | .error y => e = .returned (.tuple #[.string (str []), .int .i64 (y : Int)])) ∧ Below w.heap.size w w'
theorem madeE_ok {r : Except Nat (List UInt8)} {x : List UInt8} {w w' : World} (h : r = .ok x) (hb : Below w.heap.size w w') : MadeE r w (.returned (.tuple #[.string (str x), .int .i64 0])) w' := by
  subst h
  exact ⟨rfl, hb⟩
theorem madeE_no {r : Except Nat (List UInt8)} {y : Nat} {z : Int} {x : ByteArray} {w w' : World} (h : r = .error y) (hz : z = (y : Int)) (hx : x = str []) (hb : Below w.heap.size w w') : MadeE r w (.returned (.tuple #[.string x, .int .i64 z])) w' := by
  subst h hz hx
  exact ⟨rfl, hb⟩
/-- The three ends of it. -/
theorem lim_cases (x : List UInt8) : (x = [] ∧ lim x = .error 12) ∨ (x ≠ [] ∧ 200 < x.length ∧ lim x = .error 3) ∨ (x ≠ [] ∧ x.length ≤ 200 ∧ lim x = .ok x) := by
  unfold lim
  by_cases h : x = []
  · exact .inl ⟨h, if_pos h⟩
  · rw [if_neg h]
    by_cases h2 : 200 < x.length
    · exact .inr (.inl ⟨h, h2, if_pos h2⟩)
    · exact .inr (.inr ⟨h, by omega, if_neg h2⟩)
theorem join_len : ∀ (ps : List (List UInt8)), (∀ y ∈ ps, y.length ≤ 200) → (joinR ps).length ≤ 201 * ps.length
  | [], _ => by simp [joinR_nil]
  | [x], h => by have := h x (by simp); rw [joinR_one]; simp; omega
  | x :: y :: r, h => by
    have h1 := h x (by simp)
    have h2 := join_len (y :: r) (fun z hz => h z (List.mem_cons_of_mem _ hz))
    rw [joinR_two]
    simp only [List.length_append, List.length_cons] at h2 ⊢
    omega
theorem empty_str (x : List UInt8) (h : x ≠ []) : (str x).toList.isEmpty = false := by
  rw [Lib.toList_data, str_data]
  simpa using h
theorem empty_nil : (str []).toList.isEmpty = true := by rw [Lib.toList_data]; rfl

end Go.Proofs.Ytcokihblicgbpaa

namespace Go.Proofs.Ytcokihblicgbpaa
open Go.RowKit

theorem append_texts {w : World} {ops : Array Oper} {rest : List Oper} {o : Oper} {a : Act} {Q : Exit → Act → World → Prop} (hgd : o.guard = none) (s x : Operand)
    (ho : o.op = .call { callee := .builtin .append, args := #[s, x], argTypes := #[30, 30] })
    (B : Nat) (v : Value) (n : Nat) (xs : List Value) (hs : a.eval s = v) (hown : w.ownsRow B 9 1 v n xs)
    (ad : Addr) (c : Nat) (news : List Value) (hx : a.eval x = .slice (some ad) 1 c) (hl : news.length = 1) (hnews : ∀ j u, news[j]? = some u → w.cell? (ad.add j) = some u) (h1 : ∀ u ∈ news, u.oneCell' = true)
    (hlen : n ≤ 100000) (hB : B ≤ w.heap.size) (H : Nat) (hH : w.heap.size = H)
    (h : ∀ g cap w', w'.ownsRow B 9 1 (.slice (some ⟨g, 0, none⟩) (n + 1) cap) (n + 1) (xs ++ news) → w.grownBy w' v.ownBlock → (v.ownBlock = some g ∨ g = H) → g < w'.heap.size → wpList Try.prog ops Q rest (a.put o.dst (.slice (some ⟨g, 0, none⟩) (n + 1) cap)) w') :
    wpList Try.prog ops Q (o :: rest) a w := by
  obtain ⟨i, z, hi, hz, k1, k2, k3⟩ := info_z infoS
  exact wpList_append_lies w hgd s x 30 ho B 9 i z 1 16 Try.underlying30 hi hz k1 k2 k3 (by decide) v n xs hs hown ad 1 c news hx hl hnews h1 (by decide) (by unfold maxLen; omega) (by omega) hB H hH h

/-- The cells of the stack. -/
def rdc : List (Nat × Nat) → List Value → List Value
  | p :: ps, v :: vs => .pointer (some ⟨p.1, p.2, none⟩) :: v :: rdc ps vs
  | _, _ => []
theorem rdc_length : ∀ {ps : List (Nat × Nat)} {vs : List Value}, vs.length = ps.length → (rdc ps vs).length = ps.length * 2
  | [], [], _ => rfl
  | _ :: _, [], h => by simp at h
  | [], _ :: _, h => by simp at h
  | p :: ps, v :: vs, h => by
    simp only [List.length_cons, Nat.add_right_cancel_iff] at h
    simp only [rdc, List.length_cons, rdc_length h]
    omega
theorem rdc_append : ∀ {ps : List (Nat × Nat)} {vs : List Value} (p : Nat × Nat) (v : Value), vs.length = ps.length → rdc (ps ++ [p]) (vs ++ [v]) = rdc ps vs ++ [.pointer (some ⟨p.1, p.2, none⟩), v]
  | [], [], _, _, _ => rfl
  | _ :: _, [], _, _, h => by simp at h
  | [], _ :: _, _, _, h => by simp at h
  | q :: ps, u :: vs, p, v, h => by
    simp only [List.length_cons, Nat.add_right_cancel_iff] at h
    simp only [List.cons_append, rdc, rdc_append p v h]
/-- Rows of different types lie apart. -/
theorem row_apart {w : World} {B B' e e' s s' n n' g : Nat} {v v' : Value} {xs xs' : List Value} (he : e ≠ e') (h : w.ownsRow B e s v n xs) (h' : w.ownsRow B' e' s' v' n' xs') (hg : v.ownBlock = some g) : v'.ownBlock ≠ some g := by
  intro hg'
  rcases h.2 with ⟨rfl, _⟩ | ⟨k, cap, cur, rfl, _, hk, _⟩
  · simp [Value.ownBlock] at hg
  · rcases h'.2 with ⟨rfl, _⟩ | ⟨k', cap', cur', rfl, _, hk', _⟩
    · simp [Value.ownBlock] at hg'
    · simp only [Value.ownBlock, Option.some.injEq] at hg hg'
      subst hg hg'
      rw [hk] at hk'
      simp only [Option.some.injEq, Obj.cells.injEq] at hk'
      exact he hk'.2.1

theorem PT.kept {F S : Nat → Prop} {w w' : World} {g o : Nat} {t : Tr} (h : PT F w g o t) (k : Kept S w w') (hF : ∀ g, F g → g < w.heap.size ∧ ¬ S g) : PT F w' g o t := by
  obtain ⟨h1, kv, h2, h3, h4, h5, h6⟩ := h
  have hn := (hF g h1).2
  exact ⟨h1, kv, h2.kept k hF, k.cell h3 hn, k.cell h4 hn, k.cell h5 hn, k.cell h6 hn⟩
theorem get_last {α : Type} {l : List α} {x y : α} {i : Nat} (h : (l ++ [x])[i]? = some y) : l[i]? = some y ∨ (i = l.length ∧ y = x) := by
  rw [List.getElem?_append] at h
  split at h
  · exact .inl h
  · right
    obtain ⟨h1, h2⟩ := List.getElem?_eq_some_iff.1 h
    simp at h1 h2
    exact ⟨by omega, h2.symm⟩
end Go.Proofs.Ytcokihblicgbpaa

namespace Go.Proofs.Ytcokihblicgbpaa
open Go.RowKit

def ReadE (r : RR) (w : World) (e : Ending) (w' : World) : Prop :=
  (match r with
  | .ok x => e = .returned (.tuple #[.string (str x), .int .i64 0, .int .i64 0])
  | .error (y, b) => e = .returned (.tuple #[.string (str []), .int .i64 (y : Int), .int .i64 (b : Int)])) ∧ Below w.heap.size w w'
theorem readE_ok {r : RR} {x : List UInt8} {w w' : World} (h : r = .ok x) (hb : Below w.heap.size w w') : ReadE r w (.returned (.tuple #[.string (str x), .int .i64 0, .int .i64 0])) w' := by
  subst h
  exact ⟨rfl, hb⟩
theorem readE_no {r : RR} {y b : Nat} {z c : Int} {x : ByteArray} {w w' : World} (h : r = .error (y, b)) (hz : z = (y : Int)) (hc : c = (b : Int)) (hx : x = str []) (hb : Below w.heap.size w w') : ReadE r w (.returned (.tuple #[.string x, .int .i64 z, .int .i64 c])) w' := by
  subst h hz hc hx
  exact ⟨rfl, hb⟩
/-- No text in the tree is long. -/
def TxOk : Tr → Prop
  | ⟨_, _, x, l, _⟩ => x.length ≤ 8192 ∧ ∀ k ∈ l, TxOk k
theorem TxOk_iff (t : Tr) : TxOk t ↔ t.text.length ≤ 8192 ∧ ∀ k ∈ t.kids, TxOk k := by
  obtain ⟨k, p, x, l, e⟩ := t
  rw [TxOk]
theorem kid_mem {t : Tr} {i : Nat} (h : i < t.kids.length) : kid t i ∈ t.kids := by
  rw [← kid_get h]
  exact List.getElem_mem h
theorem parts_txOk {t : Tr} (h : TxOk t) : ∀ p ∈ partsT t, TxOk p := by
  have hk := ((TxOk_iff t).1 h).2
  intro p hp
  unfold partsT at hp
  split at hp
  · rename_i h2
    simp only [List.mem_singleton] at hp
    subst hp
    exact hk _ (kid_mem (by have := form2 h2; omega))
  · split at hp
    · rename_i h3
      have hl := form3 h3
      simp only [List.mem_append, List.mem_singleton] at hp
      rcases hp with hp | rfl
      · exact ((TxOk_iff _).1 (hk _ (kid_mem (t := t) (i := 1) (by omega)))).2 p hp
      · exact hk _ (kid_mem (by omega))
    · simp at hp
/-- What holds of each thing that is begun. -/
def FrOk (f : Fr) : Prop := TxOk f.tree ∧ nodes f.tree ≤ 20000 ∧ ∀ y ∈ f.texts, y.length ≤ 200
theorem sum_nodes : ∀ l : List Tr, l.length ≤ (l.map nodes).sum := by
  intro l
  induction l with
  | nil => simp
  | cons g r ih =>
    simp only [List.length_cons, List.map_cons, List.sum_cons]
    have := nodes_eq g
    omega
theorem parts_len (t : Tr) : (partsT t).length ≤ nodes t := by
  have h1 := sum_nodes (partsT t)
  have h2 := parts_nodes t
  omega
theorem mem_nodes : ∀ {l : List Tr} {p : Tr}, p ∈ l → nodes p ≤ (l.map nodes).sum
  | a :: l, p, h => by
    simp only [List.map_cons, List.sum_cons]
    simp only [List.mem_cons] at h
    rcases h with rfl | h
    · omega
    · have := mem_nodes h
      omega
theorem frOk_part {f : Fr} (h : FrOk f) {p : Tr} (hp : p ∈ partsT f.tree) : FrOk ⟨p, []⟩ := by
  refine ⟨parts_txOk h.1 p hp, ?_, by simp⟩
  have h1 := mem_nodes hp
  have h2 := parts_nodes f.tree
  have h3 := h.2.1
  show nodes p ≤ 20000
  omega
theorem todo_len : ∀ (f : Fr) (r : List Fr), r.length + 1 ≤ todo (f :: r) ∧ (partsT f.tree).length ≤ todo (f :: r) + f.texts.length := by
  intro f r
  have h1 : r.length ≤ (r.map (fun g => left g 1)).sum := by
    induction r with
    | nil => simp
    | cons g r ih =>
      simp only [List.length_cons, List.map_cons, List.sum_cons]
      have : 1 ≤ left g 1 := by unfold left; omega
      omega
  have h2 : ∀ l : List Tr, l.length ≤ (l.map nodes).sum := by
    intro l
    induction l with
    | nil => simp
    | cons g r ih =>
      simp only [List.length_cons, List.map_cons, List.sum_cons]
      have := nodes_eq g
      omega
  have h3 := h2 ((partsT f.tree).drop f.texts.length)
  rw [List.length_drop] at h3
  have h4 : left f 0 = 1 + 2 * (((partsT f.tree).drop f.texts.length).map nodes).sum := rfl
  simp only [todo]
  omega
theorem madeR_err {m : List UInt8} {t : Tr} {ys : List (List UInt8)} {y : Nat} (h : madeR m t ys = .error y) : y = 12 ∨ y = 3 ∨ y = 19 := by
  have hl : ∀ x, lim x = .error y → y = 12 ∨ y = 3 ∨ y = 19 := by
    intro x h
    unfold lim at h
    split at h
    · cases h; simp
    · split at h
      · cases h; simp
      · cases h
  unfold madeR at h
  repeat' split at h
  all_goals first | exact hl _ h | (cases h; simp)
theorem rd_one (g o : Nat) : ∀ u ∈ ([.pointer (some ⟨g, o, none⟩), .slice none 0 0] : List Value), u.oneCell' = true := by
  intro u hu
  simp only [List.mem_cons, List.not_mem_nil, or_false] at hu
  rcases hu with rfl | rfl <;> rfl
theorem str_one (x : List UInt8) : ∀ u ∈ ([.string (str x)] : List Value), u.oneCell' = true := by
  intro u hu
  simp only [List.mem_cons, List.not_mem_nil, or_false] at hu
  subst hu
  rfl
end Go.Proofs.Ytcokihblicgbpaa

namespace Go.Proofs.Ytcokihblicgbpaa
open Go.RowKit

theorem take_next {xs ys : List (List UInt8)} {k : Nat} (hx : k < xs.length) (hy : k < ys.length) (h : xs.take k = ys.take k) (he : xs[k] = ys[k]) : xs.take (k + 1) = ys.take (k + 1) := by
  rw [List.take_succ_eq_append_getElem hx, List.take_succ_eq_append_getElem hy, h, he]
theorem StrRow.at {w : World} {v : Value} {xs : List (List UInt8)} (h : StrRow w v xs) (i : Nat) (hi : i < xs.length) : ∃ bk o c, v = .slice (some ⟨bk, o, none⟩) xs.length c ∧ w.cell? ⟨bk, o + i, none⟩ = some (.string (str xs[i])) := by
  rcases h with ⟨rfl, _⟩ | ⟨bk, o, c, rfl, _, _, h3⟩
  · simp at hi
  · exact ⟨bk, o, c, rfl, h3 i _ (List.getElem?_eq_getElem hi)⟩

set_option maxHeartbeats 2000000 in
set_option maxRecDepth 1000000 in
theorem sameS (v v' : Value) (xs ys : List (List UInt8)) (w : World) (h : StrRow w v xs) (h' : StrRow w v' ys) (_hl : xs.length ≤ 1000000) (_hl' : ys.length ≤ 1000000) : Calls Try.prog 8 #[v, v'] w (BoolE (decide (xs = ys)) w) := by
  obtain ⟨va, vc, hv⟩ := h.shape
  obtain ⟨ua, uc, hu⟩ := h'.shape
  by_cases hn : xs.length = ys.length
  · have hn' : ((xs.length : Int) != (ys.length : Int)) = false := by simp; omega
    have h1 := hidden h
    have h2 := hidden h'
    have H1 : Hid (∃ va vc, v = .slice va xs.length vc) := ⟨va, vc, hv⟩
    clear h h'
    subst hv hu
    go_enter Try.func8, Try.ntmps8
    go_wp2
    go_loopg [5] xs.length (fun g i wr => ∃ (k n : Nat), g + k = xs.length ∧ i = .int .i64 (k : Int) ∧ Hid (xs.take k = ys.take k) ∧ wr = w.drewN n)
    case atStart => exact ⟨0, 0, rfl, rfl, rfl, rfl⟩
    case round =>
      obtain ⟨k, n, hg, rfl, ht, rfl⟩ := hrel
      by_cases hk : k < xs.length
      · have hky : k < ys.length := by omega
        obtain ⟨b1, o1, c1, e1, q1⟩ := h1.out.at k hk
        obtain ⟨b2, o2, c2, e2, q2⟩ := h2.out.at k hky
        simp only [Value.slice.injEq, true_and] at e1 e2
        obtain ⟨rfl, rfl⟩ := e1
        obtain ⟨rfl, rfl⟩ := e2
        have hki : (k : Int) < (xs.length : Int) := by omega
        have hkj : (k : Int) < (ys.length : Int) := by omega
        by_cases he : xs[k] = ys[k]
        · have HT : Hid (xs.take (k + 1) = ys.take (k + 1)) := take_next hk hky ht.out he
          rw [← he] at q2
          generalize xs[k] = x at *
          clear he ht hn
          go_wp2
          go_region
          go_wp2
          go_roundg (xs.length - (k + 1))
          case measure => omega
          case rel => exact ⟨k + 1, n + 1, by omega, by go_num, HT, rfl⟩
        · have HE : Hid (decide (xs = ys) = false) := decide_eq_false (fun e => he (by subst e; rfl))
          have hne : ((str xs[k]).toList == (str ys[k]).toList) = false := by
            rw [beq_eq_false_iff_ne, Lib.toList_data, Lib.toList_data, str_data, str_data]
            exact he
          have hne' : ((str xs[k]).toList != (str ys[k]).toList) = true := by simp only [bne, hne]; rfl
          clear he ht hn
          generalize xs[k] = x at *
          generalize ys[k] = y at *
          go_wp2
          go_region
          go_wp2
          go_ret
          exact ⟨by rw [HE.out]; rfl, n + 1, rfl⟩
      · have HE : Hid (decide (xs = ys) = true) := by
          refine decide_eq_true ?_
          have := ht.out
          rwa [List.take_of_length_le (by omega), List.take_of_length_le (by omega)] at this
        have hki : ¬ (k : Int) < (xs.length : Int) := by omega
        clear ht hn
        go_wp2
        go_ret
        exact ⟨by rw [HE.out]; rfl, n, rfl⟩
  · have hn' : ((xs.length : Int) != (ys.length : Int)) = true := by simp; omega
    have HE : Hid (decide (xs = ys) = false) := decide_eq_false (fun e => hn (by rw [e]))
    clear hn h h'
    subst hv hu
    go_enter Try.func8, Try.ntmps8
    go_wp2
    go_ret
    exact ⟨by rw [HE.out]; rfl, 0, rfl⟩

def KnownE (w : World) (e : Ending) (w' : World) : Prop := e = .returned (.bool true) ∧ Below w.heap.size w w'
def leafT (p : Nat) (x : List UInt8) : Tr := ⟨3, p, x, [], ⟨3, p, x⟩⟩
/-- The tree of (fn (num T) (array o.U)). -/
def knownT : Tr := ⟨1, 0, [], [leafT 1 [102, 110], ⟨1, 4, [], [leafT 5 [110, 117, 109], leafT 9 [84]], ⟨2, 10, []⟩⟩, ⟨1, 12, [], [leafT 13 [97, 114, 114, 97, 121], leafT 19 [111, 46, 85]], ⟨2, 22, []⟩⟩], ⟨2, 23, []⟩⟩
theorem known_ok : parseR [40, 102, 110, 32, 40, 110, 117, 109, 32, 84, 41, 32, 40, 97, 114, 114, 97, 121, 32, 111, 46, 85, 41, 41] = .ok knownT := by kernel_rfl
def knownA : Tr := ⟨1, 12, [], [leafT 13 [97, 114, 114, 97, 121], leafT 19 [111, 46, 85]], ⟨2, 22, []⟩⟩
theorem read_leaf (m : List UInt8) (p : Nat) (x : List UInt8) : readR m (leafT p x) = fin m (leafT p x) [] := by
  rw [readR_eq, show partsT (leafT p x) = [] from rfl]
  rfl
theorem known_a : readR [109] knownA = .ok [91, 111, 46, 85, 93] := by
  rw [readR_eq, show partsT knownA = [leafT 19 [111, 46, 85]] from rfl, List.map_cons, List.map_nil, read_leaf, show fin [109] (leafT 19 [111, 46, 85]) [] = .ok [111, 46, 85] from by kernel_rfl]
  kernel_rfl
theorem known_read : readR [109] knownT = .ok [40, 110, 117, 109, 44, 109, 46, 84, 41, 91, 111, 46, 85, 93] := by
  rw [readR_eq, show partsT knownT = [leafT 5 [110, 117, 109], leafT 9 [84], knownA] from rfl, List.map_cons, List.map_cons, List.map_cons, List.map_nil, read_leaf, read_leaf, known_a, show fin [109] (leafT 5 [110, 117, 109]) [] = .ok [110, 117, 109] from by kernel_rfl, show fin [109] (leafT 9 [84]) [] = .ok [109, 46, 84] from by kernel_rfl]
  kernel_rfl
theorem known_parts : partsR [40, 110, 117, 109, 41, 40, 110, 117, 109, 41, 110, 117, 109] = ([[110, 117, 109]], [40, 110, 117, 109, 41, 110, 117, 109]) := by kernel_rfl
theorem known_fn : isFn [40, 110, 117, 109, 41, 40, 110, 117, 109, 41, 110, 117, 109] = true := by kernel_rfl
theorem known_right : rightR [91, 110, 117, 109] = false := by kernel_rfl
theorem known_nodes : nodes knownT ≤ 20000 := by
  simp [knownT, leafT, nodes]
theorem known_tx : TxOk knownT := by
  simp [knownT, leafT, TxOk]

end Go.Proofs.Ytcokihblicgbpaa
