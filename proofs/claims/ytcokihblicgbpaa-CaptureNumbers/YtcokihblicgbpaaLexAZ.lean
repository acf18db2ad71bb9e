/-
  What the chapter on signs of a text says, as functions over lists of bytes: the reading of a Quoted, the parting of a text, the quoting, the names. No program in it.
  And: The package's small functions: tests of bytes, escapes. A scope in which the run jumps to several labels; tokens and bytes in memory. Appends of bytes and of tokens to a row of the call's own; a row of bytes as a string. The package's readQuoted: its walk, from label to label. The package's Split: its walk, from label to label. The statements' 'same': two rows of the same tokens are the same. What follows from the chapter's functions: where tokens stand; what a remark behind and blanks ahead change; what is quoted is read as itself. No program in it. What is quoted is read as itself; a remark behind, and blanks ahead, change no token but its place. No program in it.
-/
import Derived.Lib.IndexBytes
import Derived.WalkKit
import Derived.WalkSpells
import Derived.WalkLawsBesides
import Derived.WalkMore
import Derived.BigQuiet
import Derived.Test.YtcokihblicgbpaaChecked
import Derived.Test.YtcokihblicgbpaaShelf
import Derived.ScopeJumps
import Derived.Laws.AppendOwn
import Derived.OwnWalk
import Derived.Laws.OwnMore
import Derived.Laws.BytesString
import Derived.WalkSmall
import Derived.Deep.Upon
import Derived.Deep.LoopGhost
namespace Go.Proofs.Ytcokihblicgbpaa

def isPlain (c : UInt8) : Bool := decide (32 ≤ c.toNat) && decide (c.toNat ≤ 126)
def isParts (c : UInt8) : Bool := decide (c.toNat = 9) || decide (c.toNat = 10) || decide (c.toNat = 13) || decide (c.toNat = 32)
def isAtom (c : UInt8) : Bool := isPlain c && !decide (c.toNat = 32) && !decide (c.toNat = 59) && !decide (c.toNat = 40) && !decide (c.toNat = 41) && !decide (c.toNat = 34)
def notNl (c : UInt8) : Bool := !decide (c.toNat = 10)
def hexOf (c : UInt8) : Option Nat :=
  if 48 ≤ c.toNat ∧ c.toNat ≤ 57 then some (c.toNat - 48) else if 97 ≤ c.toNat ∧ c.toNat ≤ 102 then some (c.toNat - 87) else none

/-- What stands behind a backslash: the byte that is meant, and how many bytes it takes, the backslash among them. -/
def esc : List UInt8 → Option (UInt8 × Nat)
  | [] => none
  | c :: r =>
    if c.toNat = 34 ∨ c.toNat = 92 then some (c, 2)
    else if c.toNat = 110 then some (10, 2)
    else if c.toNat = 120 then
      match r with
      | a :: b :: _ =>
        match hexOf a, hexOf b with
        | some x, some y => some (UInt8.ofNat (16 * x + y), 4)
        | _, _ => none
      | _ => none
    else none

theorem esc_size {r : List UInt8} {b : UInt8} {k : Nat} (h : esc r = some (b, k)) : 2 ≤ k ∧ k ≤ r.length + 1 ∧ k ≤ 4 := by
  unfold esc at h
  split at h
  · cases h
  · rename_i c r
    split at h
    · cases h; simp
    · split at h
      · cases h; simp
      · split at h
        · split at h
          · split at h
            · cases h; simp
            · cases h
          · cases h
        · cases h

/-- What reading a Quoted comes to: its bytes and the place behind it, or why and where it is refused. -/
abbrev QR : Type := Except (Nat × Nat) (List UInt8 × Nat)

def qF : Nat → List UInt8 → Nat → Nat → List UInt8 → QR
  | 0, _, _, fr, _ => .error (10, fr)
  | _ + 1, [], _, fr, _ => .error (10, fr)
  | f + 1, c :: r, p, fr, acc =>
    if c.toNat = 34 then (if 200 < acc.length then .error (3, fr) else .ok (acc, p + 1))
    else if c.toNat = 92 then
      match esc r with
      | none => .error (12, p)
      | some (b, k) => qF f (r.drop (k - 1)) (p + k) fr (acc ++ [b])
    else if isPlain c then qF f r (p + 1) fr (acc ++ [c])
    else .error (12, p)
/-- The reading of a Quoted from behind its sign on. -/
def q (l : List UInt8) (p fr : Nat) (acc : List UInt8) : QR := qF l.length l p fr acc

theorem qF_fuel : ∀ (f g : Nat) (l : List UInt8) (p fr : Nat) (acc : List UInt8), l.length ≤ f → l.length ≤ g → qF f l p fr acc = qF g l p fr acc
  | 0, 0, _, _, _, _, _, _ => rfl
  | 0, g + 1, [], _, _, _, _, _ => rfl
  | 0, _ + 1, _ :: _, _, _, _, h, _ => by simp at h
  | f + 1, 0, [], _, _, _, _, _ => rfl
  | _ + 1, 0, _ :: _, _, _, _, _, h => by simp at h
  | f + 1, g + 1, [], _, _, _, _, _ => rfl
  | f + 1, g + 1, c :: r, p, fr, acc, hf, hg => by
    simp only [List.length_cons] at hf hg
    simp only [qF]
    split
    · rfl
    · split
      · split
        · rfl
        · exact qF_fuel f g _ _ _ _ (by simp; omega) (by simp; omega)
      · split
        · exact qF_fuel f g _ _ _ _ (by omega) (by omega)
        · rfl
theorem q_nil (p fr : Nat) (acc : List UInt8) : q [] p fr acc = .error (10, fr) := rfl
theorem q_end {c : UInt8} (r : List UInt8) (p fr : Nat) (acc : List UInt8) (h : c.toNat = 34) : q (c :: r) p fr acc = if 200 < acc.length then .error (3, fr) else .ok (acc, p + 1) := by
  simp only [q, List.length_cons, qF, h, if_true]
theorem q_esc {c : UInt8} (r : List UInt8) (p fr : Nat) (acc : List UInt8) (h : c.toNat = 92) : q (c :: r) p fr acc = match esc r with | none => .error (12, p) | some (b, k) => q (r.drop (k - 1)) (p + k) fr (acc ++ [b]) := by
  simp only [q, List.length_cons, qF, h, if_true]
  rw [if_neg (by decide)]
  split
  · rfl
  · exact qF_fuel _ _ _ _ _ _ (by simp) (by simp)
theorem q_plain {c : UInt8} (r : List UInt8) (p fr : Nat) (acc : List UInt8) (h1 : c.toNat ≠ 34) (h2 : c.toNat ≠ 92) (h3 : isPlain c = true) : q (c :: r) p fr acc = q r (p + 1) fr (acc ++ [c]) := by
  simp only [q, List.length_cons, qF, h1, h2, h3, if_true, if_false]
theorem q_bad {c : UInt8} (r : List UInt8) (p fr : Nat) (acc : List UInt8) (h1 : c.toNat ≠ 34) (h2 : c.toNat ≠ 92) (h3 : isPlain c = false) : q (c :: r) p fr acc = .error (12, p) := by
  simp only [q, List.length_cons, qF, h1, h2, h3, if_false, Bool.false_eq_true]
/-- Where a Quoted ends: within the text, behind where the reading began; no more bytes than stand there. -/
theorem q_next : ∀ (n : Nat) (l : List UInt8) (p fr : Nat) (acc t : List UInt8) (nx : Nat), l.length ≤ n → q l p fr acc = .ok (t, nx) → p + 1 ≤ nx ∧ nx ≤ p + l.length ∧ t.length + p + 1 ≤ acc.length + nx ∧ t.length ≤ 200
  | _, [], _, _, _, _, _, _, h => by rw [q_nil] at h; cases h
  | 0, _ :: _, _, _, _, _, _, hn, _ => by simp at hn
  | n + 1, c :: r, p, fr, acc, t, nx, hn, h => by
    simp only [List.length_cons] at hn ⊢
    by_cases h1 : c.toNat = 34
    · rw [q_end r p fr acc h1] at h
      split at h
      · cases h
      · cases h; omega
    · by_cases h2 : c.toNat = 92
      · rw [q_esc r p fr acc h2] at h
        split at h
        · cases h
        · rename_i b k he
          have hs := esc_size he
          have := q_next n _ _ _ _ _ _ (by simp; omega) h
          simp at this
          omega
      · by_cases h3 : isPlain c = true
        · rw [q_plain r p fr acc h1 h2 h3] at h
          have := q_next n _ _ _ _ _ _ (by omega) h
          simp at this
          omega
        · rw [q_bad r p fr acc h1 h2 (Bool.eq_false_iff.2 h3)] at h
          cases h

/-- Why a Quoted is refused. -/
theorem q_why : ∀ (n : Nat) (l : List UInt8) (p fr : Nat) (acc : List UInt8) (y b : Nat), l.length ≤ n → q l p fr acc = .error (y, b) → y = 3 ∨ y = 10 ∨ y = 12
  | _, [], _, _, _, _, _, _, h => by rw [q_nil] at h; cases h; simp
  | 0, _ :: _, _, _, _, _, _, hn, _ => by simp at hn
  | n + 1, c :: r, p, fr, acc, y, b, hn, h => by
    simp only [List.length_cons] at hn
    by_cases h1 : c.toNat = 34
    · rw [q_end r p fr acc h1] at h
      split at h
      · cases h; simp
      · cases h
    · by_cases h2 : c.toNat = 92
      · rw [q_esc r p fr acc h2] at h
        split at h
        · cases h; simp
        · exact q_why n _ _ _ _ _ _ (by simp; omega) h
      · by_cases h3 : isPlain c = true
        · rw [q_plain r p fr acc h1 h2 h3] at h
          exact q_why n _ _ _ _ _ _ (by omega) h
        · rw [q_bad r p fr acc h1 h2 (Bool.eq_false_iff.2 h3)] at h
          cases h; simp

structure Tok where
  kind : Nat
  place : Nat
  text : List UInt8

/-- What parting a text comes to: its tokens, or why and where it is refused. -/
abbrev SR : Type := Except (Nat × Nat) (List Tok)

def sF : Nat → List UInt8 → Nat → List Tok → SR
  | 0, _, _, acc => .ok acc
  | _ + 1, [], _, acc => .ok acc
  | f + 1, c :: r, p, acc =>
    if isAtom c then sF f (r.drop (r.takeWhile isAtom).length) (p + 1 + (r.takeWhile isAtom).length) (acc ++ [⟨3, p, c :: r.takeWhile isAtom⟩])
    else if c.toNat = 34 then
      match q r (p + 1) p [] with
      | .error (w, b) => .error (w, b)
      | .ok (t, nx) => sF f (r.drop (nx - (p + 1))) nx (acc ++ [⟨4, p, t⟩])
    else if c.toNat = 59 then sF f (r.drop (r.takeWhile notNl).length) (p + 1 + (r.takeWhile notNl).length) acc
    else if c.toNat = 40 then sF f r (p + 1) (acc ++ [⟨1, p, []⟩])
    else if c.toNat = 41 then sF f r (p + 1) (acc ++ [⟨2, p, []⟩])
    else if isParts c then sF f r (p + 1) acc
    else .error (12, p)
/-- The parting of what is left of a text, from place p on, behind these tokens. -/
def sp (l : List UInt8) (p : Nat) (acc : List Tok) : SR := sF l.length l p acc
/-- The parting of a text. -/
def splitR (l : List UInt8) : SR := if 8192 < l.length then .error (3, 0) else sp l 0 []

theorem sF_fuel : ∀ (f g : Nat) (l : List UInt8) (p : Nat) (acc : List Tok), l.length ≤ f → l.length ≤ g → sF f l p acc = sF g l p acc
  | 0, 0, _, _, _, _, _ => rfl
  | 0, g + 1, [], _, _, _, _ => rfl
  | 0, _ + 1, _ :: _, _, _, h, _ => by simp at h
  | f + 1, 0, [], _, _, _, _ => rfl
  | _ + 1, 0, _ :: _, _, _, _, h => by simp at h
  | f + 1, g + 1, [], _, _, _, _ => rfl
  | f + 1, g + 1, c :: r, p, acc, hf, hg => by
    simp only [List.length_cons] at hf hg
    simp only [sF]
    repeat' split
    all_goals first | rfl | exact sF_fuel f g _ _ _ (by simp; omega) (by simp; omega) | exact sF_fuel f g _ _ _ (by omega) (by omega)

theorem sp_nil (p : Nat) (acc : List Tok) : sp [] p acc = .ok acc := rfl
theorem sp_atom {c : UInt8} (r : List UInt8) (p : Nat) (acc : List Tok) (h : isAtom c = true) :
    sp (c :: r) p acc = sp (r.drop (r.takeWhile isAtom).length) (p + 1 + (r.takeWhile isAtom).length) (acc ++ [⟨3, p, c :: r.takeWhile isAtom⟩]) := by
  simp only [sp, List.length_cons, sF, h, if_true]
  exact sF_fuel _ _ _ _ _ (by simp) (by simp)
theorem sp_quoted {c : UInt8} (r : List UInt8) (p : Nat) (acc : List Tok) (h : c.toNat = 34) :
    sp (c :: r) p acc = match q r (p + 1) p [] with | .error (w, b) => .error (w, b) | .ok (t, nx) => sp (r.drop (nx - (p + 1))) nx (acc ++ [⟨4, p, t⟩]) := by
  have ha : isAtom c = false := by simp [isAtom, h]
  simp only [sp, List.length_cons, sF, ha, h, if_true, if_false, Bool.false_eq_true]
  split
  · rfl
  · exact sF_fuel _ _ _ _ _ (by simp) (by simp)
theorem sp_remark {c : UInt8} (r : List UInt8) (p : Nat) (acc : List Tok) (h : c.toNat = 59) :
    sp (c :: r) p acc = sp (r.drop (r.takeWhile notNl).length) (p + 1 + (r.takeWhile notNl).length) acc := by
  have ha : isAtom c = false := by simp [isAtom, h]
  simp only [sp, List.length_cons, sF, ha, h, if_true, if_false, Bool.false_eq_true]
  rw [if_neg (by decide)]
  exact sF_fuel _ _ _ _ _ (by simp) (by simp)
theorem sp_open {c : UInt8} (r : List UInt8) (p : Nat) (acc : List Tok) (h : c.toNat = 40) : sp (c :: r) p acc = sp r (p + 1) (acc ++ [⟨1, p, []⟩]) := by
  have ha : isAtom c = false := by simp [isAtom, h]
  simp only [sp, List.length_cons, sF, ha, h, if_true, if_false, Bool.false_eq_true]
  rw [if_neg (by decide), if_neg (by decide)]
theorem sp_close {c : UInt8} (r : List UInt8) (p : Nat) (acc : List Tok) (h : c.toNat = 41) : sp (c :: r) p acc = sp r (p + 1) (acc ++ [⟨2, p, []⟩]) := by
  have ha : isAtom c = false := by simp [isAtom, h]
  simp only [sp, List.length_cons, sF, ha, h, if_true, if_false, Bool.false_eq_true]
  rw [if_neg (by decide), if_neg (by decide), if_neg (by decide)]
theorem sp_parts {c : UInt8} (r : List UInt8) (p : Nat) (acc : List Tok) (h : isParts c = true) : sp (c :: r) p acc = sp r (p + 1) acc := by
  have h' := h
  simp only [isParts, Bool.or_eq_true, decide_eq_true_eq] at h'
  have ha : isAtom c = false := by
    rcases h' with ((h' | h') | h') | h' <;> simp [isAtom, isPlain, h']
  simp only [sp, List.length_cons, sF, ha, h, if_true, if_false, Bool.false_eq_true]
  rw [if_neg (by omega), if_neg (by omega), if_neg (by omega), if_neg (by omega)]
theorem sp_bad {c : UInt8} (r : List UInt8) (p : Nat) (acc : List Tok) (h1 : isAtom c = false) (h2 : c.toNat ≠ 34) (h3 : c.toNat ≠ 59) (h4 : c.toNat ≠ 40) (h5 : c.toNat ≠ 41) (h6 : isParts c = false) : sp (c :: r) p acc = .error (12, p) := by
  simp only [sp, List.length_cons, sF, h1, h2, h3, h4, h5, h6, if_false, Bool.false_eq_true]

/-- At the label of an Atom that began at fr. -/
def aS (L : List UInt8) (fr p : Nat) (acc : List Tok) : SR :=
  sp (L.drop (p + ((L.drop p).takeWhile isAtom).length)) (p + ((L.drop p).takeWhile isAtom).length) (acc ++ [⟨3, fr, (L.drop fr).take (p + ((L.drop p).takeWhile isAtom).length - fr)⟩])
/-- At the label of a remark. -/
def rS (L : List UInt8) (p : Nat) (acc : List Tok) : SR :=
  sp (L.drop (p + ((L.drop p).takeWhile notNl).length)) (p + ((L.drop p).takeWhile notNl).length) acc

theorem take_tw {α : Type} (f : α → Bool) : ∀ (l : List α), l.take (l.takeWhile f).length = l.takeWhile f
  | [] => rfl
  | x :: r => by
    by_cases h : f x = true
    · rw [List.takeWhile_cons_of_pos h, List.length_cons, List.take_succ_cons, take_tw f r]
    · rw [List.takeWhile_cons_of_neg h]; rfl
theorem drop_cons {L : List UInt8} {p : Nat} {c : UInt8} {r : List UInt8} (h : L.drop p = c :: r) : L.drop (p + 1) = r := by
  rw [← List.drop_drop, h]; rfl
theorem aS_start {L : List UInt8} {p : Nat} {c : UInt8} {r : List UInt8} (h : L.drop p = c :: r) (hc : isAtom c = true) (acc : List Tok) : sp (L.drop p) p acc = aS L p p acc := by
  unfold aS
  rw [h, sp_atom r p acc hc, List.takeWhile_cons_of_pos hc, List.length_cons, ← List.drop_drop, h, List.drop_succ_cons, show p + ((r.takeWhile isAtom).length + 1) - p = (r.takeWhile isAtom).length + 1 from by omega, List.take_succ_cons, take_tw, show p + ((r.takeWhile isAtom).length + 1) = p + 1 + (r.takeWhile isAtom).length from by omega]
theorem aS_step {L : List UInt8} {p fr : Nat} {c : UInt8} {r : List UInt8} (h : L.drop p = c :: r) (hc : isAtom c = true) (acc : List Tok) : aS L fr p acc = aS L fr (p + 1) acc := by
  unfold aS
  rw [h, drop_cons h, List.takeWhile_cons_of_pos hc, List.length_cons, show p + ((r.takeWhile isAtom).length + 1) = p + 1 + (r.takeWhile isAtom).length from by omega]
theorem aS_stop {L : List UInt8} {p fr : Nat} (h : ∀ c r, L.drop p = c :: r → isAtom c = false) (acc : List Tok) : aS L fr p acc = sp (L.drop p) p (acc ++ [⟨3, fr, (L.drop fr).take (p - fr)⟩]) := by
  have : (L.drop p).takeWhile isAtom = [] := by
    cases hd : L.drop p with
    | nil => rfl
    | cons c r => rw [List.takeWhile_cons_of_neg (by rw [h c r hd]; decide)]
  unfold aS
  rw [this]
  rfl
theorem rS_start {L : List UInt8} {p : Nat} {c : UInt8} {r : List UInt8} (h : L.drop p = c :: r) (hc : c.toNat = 59) (acc : List Tok) : sp (L.drop p) p acc = rS L p acc := by
  have hn : notNl c = true := by simp [notNl, hc]
  unfold rS
  rw [h, sp_remark r p acc hc, List.takeWhile_cons_of_pos hn, List.length_cons, ← List.drop_drop, h, List.drop_succ_cons, show p + ((r.takeWhile notNl).length + 1) = p + 1 + (r.takeWhile notNl).length from by omega]
theorem rS_step {L : List UInt8} {p : Nat} {c : UInt8} {r : List UInt8} (h : L.drop p = c :: r) (hc : notNl c = true) (acc : List Tok) : rS L p acc = rS L (p + 1) acc := by
  unfold rS
  rw [h, drop_cons h, List.takeWhile_cons_of_pos hc, List.length_cons, show p + ((r.takeWhile notNl).length + 1) = p + 1 + (r.takeWhile notNl).length from by omega]
theorem rS_stop {L : List UInt8} {p : Nat} (h : ∀ c r, L.drop p = c :: r → notNl c = false) (acc : List Tok) : rS L p acc = sp (L.drop p) p acc := by
  have : (L.drop p).takeWhile notNl = [] := by
    cases hd : L.drop p with
    | nil => rfl
    | cons c r => rw [List.takeWhile_cons_of_neg (by rw [h c r hd]; decide)]
  unfold rS
  rw [this]
  rfl

/-- A list of bytes as a string. -/
def str (l : List UInt8) : ByteArray := ⟨l.toArray⟩
theorem str_toList (s : ByteArray) : str s.data.toList = s := by
  obtain ⟨⟨l⟩⟩ := s
  rfl
theorem str_data (l : List UInt8) : (str l).data.toList = l := rfl
theorem str_size (l : List UInt8) : (str l).size = l.length := rfl
theorem str_inj {a b : List UInt8} (h : str a = str b) : a = b := by
  have := congrArg (fun s : ByteArray => s.data.toList) h
  simpa [str] using this
theorem str_append (a b : List UInt8) : str a ++ str b = str (a ++ b) := by
  apply ByteArray.ext
  simp [str]
theorem extract_str (s : ByteArray) (a b : Nat) : s.extract a b = str ((s.data.toList.drop a).take (b - a)) := by
  rw [← str_toList (s.extract a b), Lib.extract_data]
theorem size_len (s : ByteArray) : s.data.toList.length = s.size := by rw [Array.length_toList]; rfl
theorem drop_at (s : ByteArray) (k : Nat) (hk : k < s.size) : s.data.toList.drop k = s[k] :: s.data.toList.drop (k + 1) := by
  have hk' : k < s.data.toList.length := by rw [size_len]; exact hk
  rw [List.drop_eq_getElem_cons hk']
  rfl
theorem drop_end (s : ByteArray) (k : Nat) (hk : s.size ≤ k) : s.data.toList.drop k = [] := List.drop_eq_nil_of_le (by rw [size_len]; exact hk)

def hexSet : List UInt8 := [48, 49, 50, 51, 52, 53, 54, 55, 56, 57, 97, 98, 99, 100, 101, 102]
/-- The quoting of one byte. -/
def qByte (c : UInt8) : List UInt8 :=
  if c.toNat = 34 ∨ c.toNat = 92 then [92, c]
  else if c.toNat = 10 then [92, 110]
  else if isPlain c then [c]
  else [92, 120, (hexSet.getD (c.toNat / 16) 0), (hexSet.getD (c.toNat % 16) 0)]
def quoteR (l : List UInt8) : List UInt8 := 34 :: (l.flatMap qByte ++ [34])

def isSmall (c : UInt8) : Bool := decide (97 ≤ c.toNat) && decide (c.toNat ≤ 122)
def isLarge (c : UInt8) : Bool := decide (65 ≤ c.toNat) && decide (c.toNat ≤ 90)
def isDigit (c : UInt8) : Bool := decide (48 ≤ c.toNat) && decide (c.toNat ≤ 57)
def isLetter (c : UInt8) : Bool := isSmall c || isLarge c || isDigit c || decide (c.toNat = 95)
def nameR (l : List UInt8) : Bool := !l.isEmpty && decide (l.length ≤ 24) && !(l.head?.any isDigit) && l.all isLetter
def bigR (l : List UInt8) : Bool := nameR l && l.head?.any isLarge
def valueR (l : List UInt8) : Bool := nameR l && !l.head?.any isLarge
end Go.Proofs.Ytcokihblicgbpaa

namespace Go.Proofs.Ytcokihblicgbpaa
open Go.RowKit

/-- What a call answers that leaves the world as it was. -/
def Pu (v : Value) (w : World) (e : Ending) (w' : World) : Prop := e = .returned v ∧ w' = w

set_option maxRecDepth 1000000 in
theorem refParts (c : UInt8) (w : World) : Calls Try.prog 49 #[.int .u8 c.toNat] w (Pu (.bool (isParts c)) w) := by
  by_cases h0 : c.toNat = 9
  · rw [show isParts c = true from by unfold isParts; simp only [Bool.or_eq_true, decide_eq_true_eq]; omega]
    have h0' : ((c.toNat : Int) == 9) = true := by rw [beq_iff_eq]; omega
    go_enter Try.func49, Try.ntmps49
    go_wp2
    go_ret
    exact ⟨rfl, rfl⟩
  have h0' : ((c.toNat : Int) == 9) = false := by rw [beq_eq_false_iff_ne]; omega
  by_cases h1 : c.toNat = 10
  · rw [show isParts c = true from by unfold isParts; simp only [Bool.or_eq_true, decide_eq_true_eq]; omega]
    have h1' : ((c.toNat : Int) == 10) = true := by rw [beq_iff_eq]; omega
    go_enter Try.func49, Try.ntmps49
    go_wp2
    go_ret
    exact ⟨rfl, rfl⟩
  have h1' : ((c.toNat : Int) == 10) = false := by rw [beq_eq_false_iff_ne]; omega
  by_cases h2 : c.toNat = 13
  · rw [show isParts c = true from by unfold isParts; simp only [Bool.or_eq_true, decide_eq_true_eq]; omega]
    have h2' : ((c.toNat : Int) == 13) = true := by rw [beq_iff_eq]; omega
    go_enter Try.func49, Try.ntmps49
    go_wp2
    go_ret
    exact ⟨rfl, rfl⟩
  have h2' : ((c.toNat : Int) == 13) = false := by rw [beq_eq_false_iff_ne]; omega
  by_cases h3 : c.toNat = 32
  · rw [show isParts c = true from by unfold isParts; simp only [Bool.or_eq_true, decide_eq_true_eq]; omega]
    have h3' : ((c.toNat : Int) == 32) = true := by rw [beq_iff_eq]; omega
    go_enter Try.func49, Try.ntmps49
    go_wp2
    go_ret
    exact ⟨rfl, rfl⟩
  have h3' : ((c.toNat : Int) == 32) = false := by rw [beq_eq_false_iff_ne]; omega
  rw [show isParts c = false from Bool.eq_false_iff.2 (by unfold isParts; simp only [ne_eq, Bool.or_eq_true, decide_eq_true_eq]; omega)]
  go_enter Try.func49, Try.ntmps49
  go_wp2
  go_ret
  exact ⟨rfl, rfl⟩

/-- What reading two digits, and an escape, answers. -/
def EscE (r : Option (UInt8 × Nat)) (w : World) (e : Ending) (w' : World) : Prop :=
  (match r with
  | none => e = .returned (.tuple #[.int .u8 0, .int .i64 0])
  | some (b, k) => e = .returned (.tuple #[.int .u8 b.toNat, .int .i64 k])) ∧ ∃ n, w' = w.drewN n

theorem escE_mk {b : UInt8} {k : Nat} {z m : Int} (w : World) (n : Nat) (hz : z = (b.toNat : Int)) (hm : m = (k : Int)) : EscE (some (b, k)) w (.returned (.tuple #[.int .u8 z, .int .i64 m])) (w.drewN n) := by
  subst hz hm
  exact ⟨rfl, n, rfl⟩
theorem hex_byte (x y : Nat) (hx : x < 16) (hy : y < 16) : bits .or .i64 ((x : Int) * 16) (y : Int) % 256 = ((UInt8.ofNat (16 * x + y)).toNat : Int) := by
  have h : ∀ a b : Fin 16, bits .or .i64 ((a.val : Int) * 16) (b.val : Int) % 256 = ((UInt8.ofNat (16 * a.val + b.val)).toNat : Int) := by decide +kernel
  exact h ⟨x, hx⟩ ⟨y, hy⟩
theorem hex_index (c : UInt8) : Lib.indexByte [48, 49, 50, 51, 52, 53, 54, 55, 56, 57, 97, 98, 99, 100, 101, 102] c = match hexOf c with | none => -1 | some x => (x : Int) := by
  have h : ∀ n : Fin 256, Lib.indexByte [48, 49, 50, 51, 52, 53, 54, 55, 56, 57, 97, 98, 99, 100, 101, 102] (UInt8.ofNat n.val) = match hexOf (UInt8.ofNat n.val) with | none => -1 | some x => (x : Int) := by decide +kernel
  have := h ⟨c.toNat, c.toNat_lt⟩
  simpa using this
theorem hexOf_lt {c : UInt8} {x : Nat} (h : hexOf c = some x) : x < 16 := by
  unfold hexOf at h
  split at h
  · cases h; omega
  · split at h
    · cases h; omega
    · cases h

def escX : List UInt8 → Option (UInt8 × Nat)
  | a :: b :: _ =>
    match hexOf a, hexOf b with
    | some x, some y => some (UInt8.ofNat (16 * x + y), 4)
    | _, _ => none
  | _ => none
theorem esc_x (c : UInt8) (r : List UInt8) (h : c.toNat = 120) : esc (c :: r) = escX r := by
  simp only [esc, escX, h]
  rfl
theorem quiet_pure {P : Program} {f : FuncId} {args : Array Value} {w : World} {n x : Nat} {v : Value} (h : Calls P f args (w.drewN (n + x)) fun e w' => e = .returned v ∧ w' = w.drewN (n + x)) :
    Calls P f args (w.drewN (n + x)) fun e w'' => e = .returned v ∧ ∃ m, w'' = w.drewN (n + m) :=
  h.mono fun _ _ ⟨he, hm⟩ => ⟨he, x, hm⟩
theorem quiet_pure0 {P : Program} {f : FuncId} {args : Array Value} {w : World} {x : Nat} {v : Value} (h : Calls P f args (w.drewN x) fun e w' => e = .returned v ∧ w' = w.drewN x) :
    Calls P f args (w.drewN x) fun e w'' => e = .returned v ∧ ∃ m, w'' = w.drewN m :=
  h.mono fun _ _ ⟨he, hm⟩ => ⟨he, x, hm⟩
end Go.Proofs.Ytcokihblicgbpaa

namespace Go.Proofs.Ytcokihblicgbpaa
open Go.RowKit

/-- As Q; by a goto: what holds at that label. -/
def jumps (J : Nat → Act → World → Prop) (Q : Exit → Act → World → Prop) : Exit → Act → World → Prop
  | .goto l, a, w => J l a w
  | e, a, w => Q e a w

/-- A scope with several labels: what holds at each, and a number that each way from a label to a label lowers. -/
theorem wp_scope_labels {P : Program} {a : Act} {w : World} {Q : Exit → Act → World → Prop} {c : Code} (J : Nat → Act → World → Prop) (m : Nat → Act → World → Nat)
    (first : (∀ l rest a w, findLabel c l = some (Code.skip.seq rest) → J l a w → rest.wp P (jumps J Q) a w) → c.wp P (jumps J Q) a w)
    (pass : ∀ l a w, J l a w → ∃ rest, findLabel c l = some (Code.skip.seq rest) ∧ rest.wp P (jumps (fun l' a' w' => J l' a' w' ∧ m l' a' w' < m l a w) Q) a w) : (Code.scope c).wp P Q a w := by
  intro b k cs
  have key : ∀ n l a w rest, m l a w = n → J l a w → findLabel c l = some rest → ∃ e a' w', Q e a' w' ∧ Arrives P (lone (b.at a (.code rest :: .inScope c :: k)) cs w) b k cs e a' w' := by
    intro n
    induction n using Nat.strongRecOn with
    | _ n ih =>
      intro l a w rest hn hJ hf
      obtain ⟨r, hr, hp⟩ := pass l a w hJ
      rw [hr] at hf
      cases hf
      obtain ⟨e, a1, w1, hq, harr⟩ := wp_seq (wp_skip hp) b (.inScope c :: k) cs
      cases e with
      | normal => exact ⟨.normal, a1, w1, hq, Steps.trans harr (.one step_inScope)⟩
      | exit id => exact ⟨.exit id, a1, w1, hq, fun k' hk => harr k' (by simp [exitTo, hk])⟩
      | goto l' =>
        obtain ⟨hJ', hlt⟩ := hq
        obtain ⟨r', hr', _⟩ := pass l' a1 w1 hJ'
        have hg : gotoIn l' (.inScope c :: k) = some (.code (Code.skip.seq r') :: .inScope c :: k) := by simp [gotoIn, hr']
        obtain ⟨e2, a2, w2, hq2, harr2⟩ := ih _ (by omega) l' a1 w1 _ rfl hJ' hr'
        exact ⟨e2, a2, w2, hq2, .of_steps (harr _ hg) harr2⟩
      | ret => exact ⟨_, a1, w1, hq, harr⟩
      | panic ch => exact ⟨_, a1, w1, hq, harr⟩
      | outgrown => exact ⟨_, a1, w1, hq, harr⟩
  have hfirst : c.wp P (jumps J Q) a w := by
    refine first (fun l rest a w hf hJ => ?_)
    obtain ⟨r, hr, hp⟩ := pass l a w hJ
    rw [hr] at hf
    cases hf
    refine wp_mono hp ?_
    intro e a' w' hq
    cases e <;> first | exact hq | exact hq.1
  obtain ⟨e, a1, w1, hq, harr⟩ := hfirst b (.inScope c :: k) cs
  cases e with
  | normal => exact ⟨.normal, a1, w1, hq, .head step_scope (Steps.trans harr (.one step_inScope))⟩
  | exit id => exact ⟨.exit id, a1, w1, hq, fun k' hk => .head step_scope (harr k' (by simp [exitTo, hk]))⟩
  | goto l' =>
    obtain ⟨r', hr', _⟩ := pass l' a1 w1 hq
    have hg : gotoIn l' (.inScope c :: k) = some (.code (Code.skip.seq r') :: .inScope c :: k) := by simp [gotoIn, hr']
    obtain ⟨e2, a2, w2, hq2, harr2⟩ := key _ l' a1 w1 _ rfl hq hr'
    exact ⟨e2, a2, w2, hq2, .of_steps (.head step_scope (harr _ hg)) harr2⟩
  | ret => exact ⟨_, a1, w1, hq, .of_steps (.one step_scope) harr⟩
  | panic ch => exact ⟨_, a1, w1, hq, .of_steps (.one step_scope) harr⟩
  | outgrown => exact ⟨_, a1, w1, hq, .of_steps (.one step_scope) harr⟩

/-- Bytes as cells. -/
def bc (l : List UInt8) : List Value := l.map fun c => Value.int .u8 (c.toNat : Int)
theorem bc_length (l : List UInt8) : (bc l).length = l.length := by simp [bc]
theorem bc_append (a b : List UInt8) : bc (a ++ b) = bc a ++ bc b := by simp [bc]
theorem bc_one (l : List UInt8) : ∀ u ∈ bc l, u.oneCell' = true := by
  intro u hu
  obtain ⟨_, _, rfl⟩ := List.mem_map.1 hu
  rfl
/-- A token's cells, and those of several. -/
def tc (t : Tok) : List Value := [.int .i64 (t.kind : Int), .int .i64 (t.place : Int), .string (str t.text)]
def tcs (l : List Tok) : List Value := l.flatMap tc
theorem tcs_append (a b : List Tok) : tcs (a ++ b) = tcs a ++ tcs b := by simp [tcs]
theorem tcs_one (t : Tok) : tcs [t] = tc t := by simp [tcs]

/-- What stands in a row of the call's own, from block B on. -/
theorem owns_below {w w' : World} {B e size n : Nat} {v : Value} {xs : List Value} (h : w.ownsRow B e size v n xs) (k : Below w.heap.size w w') : w'.ownsRow B e size v n xs := by
  refine ⟨h.1, ?_⟩
  rcases h.2 with hn | ⟨g, cap, cur, rfl, hb, hg, rest⟩
  · exact .inl hn
  · exact .inr ⟨g, cap, cur, rfl, hb, (k.block g (Array.getElem?_eq_some_iff.1 hg).1).trans hg, rest⟩
/-- An append of the call's own leaves what was there below B. -/
theorem below_grown {w0 w w' : World} {B e size n : Nat} {v : Value} {xs : List Value} (h : w.ownsRow B e size v n xs) (hB : B ≤ w.heap.size) (hw : Below B w0 w) (hg : w.grownBy w' v.ownBlock) : Below B w0 w' := by
  refine hw.grown hg hB (fun k hk => ?_)
  rcases h.2 with ⟨rfl, _⟩ | ⟨g, cap, cur, rfl, hb, _⟩
  · simp [Value.ownBlock] at hk
  · simp [Value.ownBlock] at hk; omega
end Go.Proofs.Ytcokihblicgbpaa

namespace Go.Proofs.Ytcokihblicgbpaa
open Go.RowKit

theorem infoB : (Try.prog.info? 5).map (fun i => (i.zero.map (fun z => z.cells.size), i.size, i.bytes)) = some (some 1, 1, 1) := by kernel_rfl
theorem infoR : (Try.prog.info? 78).map (fun i => (i.zero.map (fun z => z.cells.size), i.size, i.bytes)) = some (some 3, 3, 32) := by kernel_rfl

theorem info_z {P : Program} {e : TypeId} {n size bytes : Nat} (h : (P.info? e).map (fun i => (i.zero.map (fun z => z.cells.size), i.size, i.bytes)) = some (some n, size, bytes)) :
    ∃ i z, P.info? e = some i ∧ i.zero = some z ∧ i.size = size ∧ i.bytes = bytes ∧ z.cells.size = n := by
  obtain ⟨i, hi, hzz⟩ := Option.map_eq_some_iff.1 h
  simp only [Prod.mk.injEq] at hzz
  obtain ⟨z, hz, hn⟩ := Option.map_eq_some_iff.1 hzz.1
  exact ⟨i, z, hi, hz, hzz.2.1, hzz.2.2, hn⟩

theorem add_at (g j : Nat) : (⟨g, 0, none⟩ : Addr).add j = ⟨g, j, none⟩ := by
  unfold Addr.add
  split
  · rename_i h
    subst h
    rfl
  · simp
theorem cells_new (w : World) (xs : List Value) (t : TypeId) : ∀ j u, xs[j]? = some u → (w.alloc (.cells xs.toArray t)).cell? ((⟨w.heap.size, 0, none⟩ : Addr).add j) = some u := by
  intro j u hj
  rw [add_at]
  simpa using hj

theorem tc_one (t : Tok) : ∀ u ∈ tc t, u.oneCell' = true := by
  intro u hu
  simp only [tc, List.mem_cons, List.not_mem_nil, or_false] at hu
  rcases hu with rfl | rfl | rfl <;> rfl

/-- append of bytes onto a row of the call's own. -/
theorem append_bytes {w : World} {ops : Array Oper} {rest : List Oper} {o : Oper} {a : Act} {Q : Exit → Act → World → Prop} (hgd : o.guard = none) (s x : Operand)
    (ho : o.op = .call { callee := .builtin .append, args := #[s, x], argTypes := #[105, 105] })
    (B : Nat) (v : Value) (acc : List UInt8) (hs : a.eval s = v) (hown : w.ownsRow B 5 1 v acc.length (bc acc))
    (ad : Addr) (c : Nat) (news : List UInt8) (hne : news ≠ []) (hx : a.eval x = .slice (some ad) news.length c) (hnews : ∀ j u, (bc news)[j]? = some u → w.cell? (ad.add j) = some u)
    (hlen : acc.length + news.length ≤ 140737488355328) (hB : B ≤ w.heap.size)
    (h : ∀ ad' c' w', w'.ownsRow B 5 1 (.slice (some ad') (acc ++ news).length c') (acc ++ news).length (bc (acc ++ news)) → w.grownBy w' v.ownBlock → wpList Try.prog ops Q rest (a.put o.dst (.slice (some ad') (acc ++ news).length c')) w') :
    wpList Try.prog ops Q (o :: rest) a w := by
  obtain ⟨i, z, hi, hz, h1, h2, h3⟩ := info_z infoB
  refine wpList_append_own w hgd s x 105 ho B 5 i z 1 1 Try.underlying105 hi hz h1 h2 h3 (by decide) v acc.length (bc acc) hs hown ad news.length c (bc news) hx (by rw [bc_length, Nat.mul_one]) hnews (bc_one _) (by unfold maxLen; omega) (by omega) hB ?_
  intro v' w' k1 k2 k3
  rcases k1.2 with ⟨rfl, hz⟩ | ⟨g, cap, cur, rfl, _⟩
  · exact absurd (by omega : news.length = 0) (fun e => hne (List.eq_nil_of_length_eq_zero e))
  · rw [← bc_append] at k1
    rw [← List.length_append] at k1
    have := h ⟨g, 0, none⟩ cap w' k1 k2
    rw [List.length_append] at this
    exact this
/-- The same of the document's own tokens. -/
theorem append_ref {w : World} {ops : Array Oper} {rest : List Oper} {o : Oper} {a : Act} {Q : Exit → Act → World → Prop} (hgd : o.guard = none) (s x : Operand)
    (ho : o.op = .call { callee := .builtin .append, args := #[s, x], argTypes := #[74, 74] })
    (B : Nat) (v : Value) (acc : List Tok) (hs : a.eval s = v) (hown : w.ownsRow B 78 3 v acc.length (tcs acc))
    (ad : Addr) (c : Nat) (t : Tok) (hx : a.eval x = .slice (some ad) 1 c) (hnews : ∀ j u, (tc t)[j]? = some u → w.cell? (ad.add j) = some u)
    (hlen : acc.length + 1 ≤ 8193) (hB : B ≤ w.heap.size)
    (h : ∀ ad' c' w', w'.ownsRow B 78 3 (.slice (some ad') (acc ++ [t]).length c') (acc ++ [t]).length (tcs (acc ++ [t])) → w.grownBy w' v.ownBlock → wpList Try.prog ops Q rest (a.put o.dst (.slice (some ad') (acc.length + 1) c')) w') :
    wpList Try.prog ops Q (o :: rest) a w := by
  obtain ⟨i, z, hi, hz, h1, h2, h3⟩ := info_z infoR
  refine wpList_append_own w hgd s x 74 ho B 78 i z 3 32 Try.underlying74 hi hz h1 h2 h3 (by decide) v acc.length (tcs acc) hs hown ad 1 c (tc t) hx rfl hnews (tc_one _) (by unfold maxLen; omega) (by omega) hB ?_
  intro v' w' k1 k2 k3
  rcases k1.2 with ⟨rfl, hz⟩ | ⟨g, cap, cur, rfl, _⟩
  · omega
  · rw [← tcs_one t, ← tcs_append] at k1
    exact h ⟨g, 0, none⟩ cap w' (by simpa using k1) k2

theorem str_push (l : List UInt8) : ∀ (s : ByteArray), (l.map fun c => (c.toNat : Int)).foldl (fun r n => r.push (UInt8.ofNat n.toNat)) s = ⟨s.data ++ l.toArray⟩ := by
  induction l with
  | nil => intro s; simp
  | cons a r ih =>
    intro s
    rw [List.map_cons, List.foldl_cons, ih]
    congr 1
    apply Array.ext'
    simp [ByteArray.push]
theorem bc_map (l : List UInt8) : bc l = (l.map fun c => (c.toNat : Int)).map (Value.int .u8) := by simp [bc]
/-- A row of bytes as a string. -/
theorem bytes_string {w : World} {a : Addr} {n cap : Nat} {l : List UInt8} (hn : n = l.length) (h : ∀ j u, (bc l)[j]? = some u → w.cell? (a.add j) = some u) : (convert 105 9 (.slice (some a) n cap)).run Try.prog w = .ok (.string (str l)) w := by
  subst hn
  rw [run_convert_bytes_string w 105 9 5 _ _ _ Try.underlying105 Try.underlying5 Try.underlying9]
  have e : str l = (l.map fun c => (c.toNat : Int)).foldl (fun r n => r.push (UInt8.ofNat n.toNat)) ByteArray.empty := by
    rw [str_push]; simp [str]
  rw [e]
  refine run_bytesToString w a l.length cap (l.map fun c => (c.toNat : Int)) ?_
  have := run_loadCells_list (P := Try.prog) w a (bc l) h
  rw [bc_length] at this
  rw [this, bc_map]
theorem nil_string (w : World) : (convert 105 9 (.slice none 0 0)).run Try.prog w = .ok (.string (str [])) w := by
  rw [run_convert_bytes_string w 105 9 5 _ _ _ Try.underlying105 Try.underlying5 Try.underlying9]
  simp [Conv.bytesToString, str]
  rfl
/-- The slice of a row of the call's own. -/
theorem owns_shape {w : World} {B e size n : Nat} {v : Value} {xs : List Value} (h : w.ownsRow B e size v n xs) : (v = .slice none 0 0 ∧ n = 0) ∨ ∃ g cap, v = .slice (some ⟨g, 0, none⟩) n cap ∧ B ≤ g ∧ g < w.heap.size ∧ ∀ j u, xs[j]? = some u → w.cell? ((⟨g, 0, none⟩ : Addr).add j) = some u := by
  rcases h.2 with ⟨rfl, hn⟩ | ⟨g, cap, cur, rfl, hb, hg, _⟩
  · exact .inl ⟨rfl, hn⟩
  · refine .inr ⟨g, cap, rfl, hb, (Array.getElem?_eq_some_iff.1 hg).1, fun j u hj => ?_⟩
    have hlt : j < n * size := by rw [← h.1]; exact (List.getElem?_eq_some_iff.1 hj).1
    have := h.cellAt j hlt
    rw [hj] at this
    rw [add_at]
    exact this
theorem owns_string {w : World} {B : Nat} {v : Value} {l : List UInt8} (h : w.ownsRow B 5 1 v l.length (bc l)) : (convert 105 9 v).run Try.prog w = .ok (.string (str l)) w := by
  rcases owns_shape h with ⟨rfl, hn⟩ | ⟨g, cap, rfl, _, _, hc⟩
  · rw [List.eq_nil_of_length_eq_zero hn]
    exact nil_string w
  · exact bytes_string rfl hc
end Go.Proofs.Ytcokihblicgbpaa

namespace Go.Proofs.Ytcokihblicgbpaa
open Go.RowKit

/-- What reading a Quoted answers. -/
def QE (r : QR) (w : World) (e : Ending) (w' : World) : Prop :=
  (match r with
  | .ok (t, nx) => e = .returned (.tuple #[.string (str t), .int .i64 0, .int .i64 (nx : Int)])
  | .error (y, b) => e = .returned (.tuple #[.string (str []), .int .i64 (y : Int), .int .i64 (b : Int)])) ∧ Below w.heap.size w w'

/-- What holds at each label of readQuoted. -/
def rqJ (s : ByteArray) (fr : Nat) (w0 : World) (l : Nat) (a : Act) (w : World) : Prop :=
  ∃ (p : Nat) (acc : List UInt8) (v : Value) (u2 u3 u4 u5 u6 u8 u9 u11 u12 u13 u14 u15 u16 u17 u18 u19 u20 u21 u22 u23 u24 u25 u26 u27 u28 u29 u30 u31 u32 u33 u34 u35 u36 u37 u38 u39 u40 u41 u42 u43 u44 u45 u46 u47 u48 u49 u50 u51 u52 u53 u54 u55 u56 u57 u58 u59 u60 u61 u62 u63 u64 u65 u66 u67 u68 : Value), a = { tmps := #[.string s, .int .i64 (fr : Int), u2, u3, u4, u5, u6, v, u8, u9, .int .i64 (p : Int), u11, u12, u13, u14, u15, u16, u17, u18, u19, u20, u21, u22, u23, u24, u25, u26, u27, u28, u29, u30, u31, u32, u33, u34, u35, u36, u37, u38, u39, u40, u41, u42, u43, u44, u45, u46, u47, u48, u49, u50, u51, u52, u53, u54, u55, u56, u57, u58, u59, u60, u61, u62, u63, u64, u65, u66, u67, u68], defers := [] } ∧
    fr < p ∧ p ≤ s.size ∧ acc.length ≤ p ∧ Hid (q (s.data.toList.drop p) p fr acc = q (s.data.toList.drop (fr + 1)) (fr + 1) fr []) ∧ w.ownsRow w0.heap.size 5 1 v acc.length (bc acc) ∧ Below w0.heap.size w0 w ∧
    (l = 2 ∨ (l = 1 ∧ ∃ h : p < s.size, s[p].toNat = 92) ∨ (l = 0 ∧ ∃ h : p < s.size, s[p].toNat = 34))
def rqM (s : ByteArray) (l : Nat) (a : Act) (_ : World) : Nat :=
  match l with
  | 2 => 2 * (s.size - (intOf (a.tmps.getD 10 undef)).toNat) + 1
  | 1 => 2 * (s.size - (intOf (a.tmps.getD 10 undef)).toNat)
  | _ => 0

theorem hidden {p : Prop} (h : p) : Hid p := h
theorem qe_no {r : QR} {w w' : World} {y b : Nat} {z x : Int} {t : ByteArray} (h : r = .error (y, b)) (hz : z = (y : Int)) (hx : x = (b : Int)) (ht : t = str []) (hb : Below w.heap.size w w') : QE r w (.returned (.tuple #[.string t, .int .i64 z, .int .i64 x])) w' := by
  subst h hz hx ht
  exact ⟨rfl, hb⟩
theorem qe_ok {r : QR} {w w' : World} {l : List UInt8} {nx : Nat} {x : Int} {t : ByteArray} (h : r = .ok (l, nx)) (hx : x = (nx : Int)) (ht : t = str l) (hb : Below w.heap.size w w') : QE r w (.returned (.tuple #[.string t, .int .i64 0, .int .i64 x])) w' := by
  subst h hx ht
  exact ⟨rfl, hb⟩

end Go.Proofs.Ytcokihblicgbpaa

namespace Go.Proofs.Ytcokihblicgbpaa
open Go.RowKit

set_option maxRecDepth 1000000 in
theorem sClone (s : ByteArray) (w : World) (h : s.size ≤ 8192) : Calls Try.prog 25 #[.string s] w fun e w' => e = .returned (.string s) ∧ Below w.heap.size w w' := by
  go_enter Try.func25, Try.ntmps25
  go_wp2_with fail
  refine (Try.stringslite_Clone s _ (by omega)).mono ?_
  rintro e w1 ⟨rfl, hb⟩
  go_wp2
  go_ret
  exact ⟨rfl, hb⟩

theorem arr_map (t : Array Value) : t = ((List.range t.size).map fun k => t.getD k undef).toArray := by
  apply Array.ext
  · simp
  · intro i h1 h2
    simp [Array.getD, h1]
theorem frame115 (a : Act) (h : a.tmps.size = 115) (hd : a.defers = []) : ∃ f : Nat → Value, a = { tmps := #[f 0, f 1, f 2, f 3, f 4, f 5, f 6, f 7, f 8, f 9, f 10, f 11, f 12, f 13, f 14, f 15, f 16, f 17, f 18, f 19, f 20, f 21, f 22, f 23, f 24, f 25, f 26, f 27, f 28, f 29, f 30, f 31, f 32, f 33, f 34, f 35, f 36, f 37, f 38, f 39, f 40, f 41, f 42, f 43, f 44, f 45, f 46, f 47, f 48, f 49, f 50, f 51, f 52, f 53, f 54, f 55, f 56, f 57, f 58, f 59, f 60, f 61, f 62, f 63, f 64, f 65, f 66, f 67, f 68, f 69, f 70, f 71, f 72, f 73, f 74, f 75, f 76, f 77, f 78, f 79, f 80, f 81, f 82, f 83, f 84, f 85, f 86, f 87, f 88, f 89, f 90, f 91, f 92, f 93, f 94, f 95, f 96, f 97, f 98, f 99, f 100, f 101, f 102, f 103, f 104, f 105, f 106, f 107, f 108, f 109, f 110, f 111, f 112, f 113, f 114], defers := [] } := by
  refine ⟨fun k => a.tmps.getD k undef, ?_⟩
  obtain ⟨t, d⟩ := a
  simp only at h hd
  subst hd
  have e := arr_map t
  rw [h] at e
  simp only [Act.mk.injEq, and_true]
  exact e
def spM (s : ByteArray) (l : Nat) (a : Act) (_ : World) : Nat :=
  match l with
  | 0 => 3 * (s.size - (intOf (a.tmps.getD 7 undef)).toNat)
  | 2 => 3 * (s.size - (intOf (a.tmps.getD 7 undef)).toNat) - 1
  | _ => if (intOf (a.tmps.getD 7 undef)).toNat = (intOf (a.tmps.getD 8 undef)).toNat then 3 * (s.size - (intOf (a.tmps.getD 7 undef)).toNat) - 1 else 3 * (s.size - (intOf (a.tmps.getD 7 undef)).toNat) + 1

end Go.Proofs.Ytcokihblicgbpaa

namespace Go.Proofs.Ytcokihblicgbpaa
open Go.RowKit

/-- A row of tokens that can be read. -/
def RdT (w : World) (v : Value) (l : List Tok) : Prop := (v = .slice none 0 0 ∧ l = []) ∨ ∃ g cap, v = .slice (some ⟨g, 0, none⟩) l.length cap ∧ ∀ j u, (tcs l)[j]? = some u → w.cell? ⟨g, j, none⟩ = some u
theorem RdT.own {w : World} {B e : Nat} {v : Value} {l : List Tok} (h : w.ownsRow B e 3 v l.length (tcs l)) : RdT w v l := by
  rcases owns_shape h with ⟨rfl, hn⟩ | ⟨g, cap, rfl, _, _, hc⟩
  · exact .inl ⟨rfl, List.eq_nil_of_length_eq_zero hn⟩
  · exact .inr ⟨g, cap, rfl, fun j u hj => by have := hc j u hj; rwa [add_at] at this⟩
theorem RdT.new (w : World) (e : TypeId) (l : List Tok) : RdT (w.alloc (.cells (tcs l).toArray e)) (.slice (some ⟨w.heap.size, 0, none⟩) l.length l.length) l :=
  .inr ⟨_, _, rfl, fun j u hj => by have := cells_new w (tcs l) e j u hj; rwa [add_at] at this⟩
theorem RdT.below {w w' : World} {v : Value} {l : List Tok} (h : RdT w v l) (k : Below w.heap.size w w') : RdT w' v l := by
  rcases h with h | ⟨g, cap, rfl, hc⟩
  · exact .inl h
  · refine .inr ⟨g, cap, rfl, fun j u hj => ?_⟩
    have := hc j u hj
    rw [k.cell (World.block_lt_of_cell? w _ this)]
    exact this
theorem RdT.shape {w : World} {v : Value} {l : List Tok} (h : RdT w v l) : ∃ a c, v = .slice a l.length c := by
  rcases h with ⟨rfl, rfl⟩ | ⟨g, cap, rfl, _⟩
  · exact ⟨_, _, rfl⟩
  · exact ⟨_, _, rfl⟩
theorem tcs_get : ∀ (l : List Tok) (k : Nat) (hk : k < l.length), (tcs l)[k * 3]? = some (.int .i64 (l[k].kind : Int)) ∧ (tcs l)[k * 3 + 1]? = some (.int .i64 (l[k].place : Int)) ∧ (tcs l)[k * 3 + 2]? = some (.string (str l[k].text))
  | [], k, hk => by simp at hk
  | t :: r, 0, _ => by simp [tcs, tc]
  | t :: r, k + 1, hk => by
    have := tcs_get r k (by simpa using hk)
    have e : tcs (t :: r) = tc t ++ tcs r := by simp [tcs]
    rw [e]
    have h3 : (tc t).length = 3 := rfl
    rw [List.getElem?_append_right (by omega), List.getElem?_append_right (by omega), List.getElem?_append_right (by omega), h3, show (k + 1) * 3 - 3 = k * 3 from by omega, show (k + 1) * 3 + 1 - 3 = k * 3 + 1 from by omega, show (k + 1) * 3 + 2 - 3 = k * 3 + 2 from by omega]
    exact this

end Go.Proofs.Ytcokihblicgbpaa

namespace Go.Proofs.Ytcokihblicgbpaa

/-- Tokens one behind the other, from place a on. -/
def places (L : List UInt8) : List Tok → Nat → Prop
  | [], a => a ≤ L.length
  | t :: r, a => a ≤ t.place ∧ t.place < L.length ∧
    ((t.kind = 1 ∧ (∃ c, L[t.place]? = some c ∧ c.toNat = 40) ∧ places L r (t.place + 1)) ∨
     (t.kind = 2 ∧ (∃ c, L[t.place]? = some c ∧ c.toNat = 41) ∧ places L r (t.place + 1)) ∨
     (t.kind = 3 ∧ t.text ≠ [] ∧ (L.drop t.place).take t.text.length = t.text ∧ t.place + t.text.length ≤ L.length ∧ places L r (t.place + t.text.length)) ∨
     (t.kind = 4 ∧ (∃ c, L[t.place]? = some c ∧ c.toNat = 34) ∧ places L r (t.place + t.text.length + 2)))

theorem at_drop {L : List UInt8} {p : Nat} {c : UInt8} {r : List UInt8} (h : L.drop p = c :: r) : L[p]? = some c ∧ p < L.length ∧ L.length = p + 1 + r.length := by
  have h1 : (L.drop p)[0]? = some c := by rw [h]; rfl
  rw [List.getElem?_drop] at h1
  have h2 := congrArg List.length h
  rw [List.length_drop, List.length_cons] at h2
  have h3 : p < L.length := by omega
  exact ⟨by simpa using h1, h3, by omega⟩
theorem tw_len (f : UInt8 → Bool) (r : List UInt8) : (r.takeWhile f).length ≤ r.length := by
  have := List.takeWhile_sublist (l := r) f
  exact this.length_le

theorem sp_places (L : List UInt8) : ∀ (n p : Nat) (acc l : List Tok), L.length ≤ p + n → p ≤ L.length → sp (L.drop p) p acc = .ok l → ∃ new, l = acc ++ new ∧ ∀ a, a ≤ p → places L new a := by
  intro n
  induction n with
  | zero =>
    intro p acc l hn hp h
    rw [List.drop_eq_nil_of_le (by omega), sp_nil] at h
    cases h
    exact ⟨[], by simp, fun a ha => Nat.le_trans ha hp⟩
  | succ n ih =>
    intro p acc l hn hp h
    cases hd : L.drop p with
    | nil =>
      rw [hd, sp_nil] at h
      cases h
      exact ⟨[], by simp, fun a ha => Nat.le_trans ha hp⟩
    | cons c r =>
      obtain ⟨hc, hlt, hlen⟩ := at_drop hd
      have hr := drop_cons hd
      have h0 := hd
      rw [hd] at h
      by_cases c0 : isAtom c = true
      · have e2 : L.drop (p + 1 + (r.takeWhile isAtom).length) = r.drop (r.takeWhile isAtom).length := by rw [← List.drop_drop, hr]
        have htl := tw_len isAtom r
        rw [sp_atom r p acc c0, ← e2] at h
        obtain ⟨new, h1, h2⟩ := ih _ _ _ (by omega) (by omega) h
        refine ⟨⟨3, p, c :: r.takeWhile isAtom⟩ :: new, by simp [h1], fun a ha => ⟨ha, hlt, .inr (.inr (.inl ⟨rfl, by simp, ?_, ?_, h2 _ ?_⟩))⟩⟩
        · show (L.drop p).take (c :: r.takeWhile isAtom).length = _
          rw [hd, List.length_cons, List.take_succ_cons, take_tw]
        · simp; omega
        · simp; omega
      have c0' := Bool.eq_false_iff.2 c0
      by_cases c1 : c.toNat = 34
      · rw [sp_quoted r p acc c1] at h
        split at h
        · cases h
        · rename_i t nx hq
          obtain ⟨n1, n2, n3, _⟩ := q_next _ _ _ _ _ _ _ (Nat.le_refl _) hq
          simp only [List.length_nil] at n3
          have e2 : L.drop nx = r.drop (nx - (p + 1)) := by rw [← hr, List.drop_drop]; congr 1; omega
          rw [← e2] at h
          obtain ⟨new, h1, h2⟩ := ih _ _ _ (by omega) (by omega) h
          exact ⟨⟨4, p, t⟩ :: new, by simp [h1], fun a ha => ⟨ha, hlt, .inr (.inr (.inr ⟨rfl, ⟨c, hc, c1⟩, h2 _ (by show p + t.length + 2 ≤ nx; omega)⟩))⟩⟩
      by_cases c2 : c.toNat = 59
      · have e2 : L.drop (p + 1 + (r.takeWhile notNl).length) = r.drop (r.takeWhile notNl).length := by rw [← List.drop_drop, hr]
        have htl := tw_len notNl r
        rw [sp_remark r p acc c2, ← e2] at h
        obtain ⟨new, h1, h2⟩ := ih _ _ _ (by omega) (by omega) h
        exact ⟨new, h1, fun a ha => h2 a (by omega)⟩
      by_cases c3 : c.toNat = 40
      · rw [sp_open r p acc c3, ← hr] at h
        obtain ⟨new, h1, h2⟩ := ih _ _ _ (by omega) (by omega) h
        exact ⟨⟨1, p, []⟩ :: new, by simp [h1], fun a ha => ⟨ha, hlt, .inl ⟨rfl, ⟨c, hc, c3⟩, h2 _ (Nat.le_refl _)⟩⟩⟩
      by_cases c4 : c.toNat = 41
      · rw [sp_close r p acc c4, ← hr] at h
        obtain ⟨new, h1, h2⟩ := ih _ _ _ (by omega) (by omega) h
        exact ⟨⟨2, p, []⟩ :: new, by simp [h1], fun a ha => ⟨ha, hlt, .inr (.inl ⟨rfl, ⟨c, hc, c4⟩, h2 _ (Nat.le_refl _)⟩)⟩⟩
      by_cases c5 : isParts c = true
      · rw [sp_parts r p acc c5, ← hr] at h
        obtain ⟨new, h1, h2⟩ := ih _ _ _ (by omega) (by omega) h
        exact ⟨new, h1, fun a ha => h2 a (by omega)⟩
      rw [sp_bad r p acc c0' c1 c2 c3 c4 (Bool.eq_false_iff.2 c5)] at h
      cases h
theorem split_places (L : List UInt8) (l : List Tok) (h : splitR L = .ok l) : places L l 0 ∧ L.length ≤ 8192 := by
  unfold splitR at h
  split at h
  · cases h
  · obtain ⟨new, h1, h2⟩ := sp_places L L.length 0 [] l (by omega) (Nat.zero_le _) (by simpa using h)
    rw [List.nil_append] at h1
    subst h1
    exact ⟨h2 0 (Nat.le_refl _), by omega⟩
/-- No more tokens than bytes. -/
theorem places_length (L : List UInt8) : ∀ (l : List Tok) (a : Nat), places L l a → l.length + a ≤ L.length
  | [], a, h => by simpa [places] using h
  | t :: r, a, h => by
    obtain ⟨h1, h2, h3⟩ := h
    rcases h3 with ⟨_, _, h⟩ | ⟨_, _, h⟩ | ⟨_, hne, _, _, h⟩ | ⟨_, _, h⟩
    · have := places_length L r _ h; simp; omega
    · have := places_length L r _ h; simp; omega
    · have := places_length L r _ h
      have := List.length_pos_iff.2 hne
      simp; omega
    · have := places_length L r _ h; simp; omega

/-- A refusal's number. -/
theorem sp_why : ∀ (n : Nat) (l : List UInt8) (p : Nat) (acc : List Tok) (y b : Nat), l.length ≤ n → sp l p acc = .error (y, b) → y = 3 ∨ y = 10 ∨ y = 12
  | _, [], _, _, _, _, _, h => by rw [sp_nil] at h; cases h
  | 0, _ :: _, _, _, _, _, hn, _ => by simp at hn
  | n + 1, c :: r, p, acc, y, b, hn, h => by
    simp only [List.length_cons] at hn
    by_cases c0 : isAtom c = true
    · rw [sp_atom r p acc c0] at h
      exact sp_why n _ _ _ _ _ (by simp; omega) h
    by_cases c1 : c.toNat = 34
    · rw [sp_quoted r p acc c1] at h
      split at h
      · rename_i hq
        cases h
        exact q_why _ _ _ _ _ _ _ (Nat.le_refl _) hq
      · exact sp_why n _ _ _ _ _ (by simp; omega) h
    by_cases c2 : c.toNat = 59
    · rw [sp_remark r p acc c2] at h
      exact sp_why n _ _ _ _ _ (by simp; omega) h
    by_cases c3 : c.toNat = 40
    · rw [sp_open r p acc c3] at h
      exact sp_why n _ _ _ _ _ (by omega) h
    by_cases c4 : c.toNat = 41
    · rw [sp_close r p acc c4] at h
      exact sp_why n _ _ _ _ _ (by omega) h
    by_cases c5 : isParts c = true
    · rw [sp_parts r p acc c5] at h
      exact sp_why n _ _ _ _ _ (by omega) h
    rw [sp_bad r p acc (Bool.eq_false_iff.2 c0) c1 c2 c3 c4 (Bool.eq_false_iff.2 c5)] at h
    cases h
    simp
theorem split_why (L : List UInt8) (y b : Nat) (h : splitR L = .error (y, b)) : y = 3 ∨ y = 10 ∨ y = 12 := by
  unfold splitR at h
  split at h
  · cases h; simp
  · exact sp_why _ _ _ _ _ _ (Nat.le_refl _) h
end Go.Proofs.Ytcokihblicgbpaa

namespace Go.Proofs.Ytcokihblicgbpaa

theorem hex_digit (n : Nat) (h : n < 16) : hexOf (hexSet.getD n 0) = some n := by
  have : ∀ a : Fin 16, hexOf (hexSet.getD a.val 0) = some a.val := by decide
  exact this ⟨n, h⟩
theorem byte_of (c : UInt8) : UInt8.ofNat (16 * (c.toNat / 16) + c.toNat % 16) = c := by
  rw [show 16 * (c.toNat / 16) + c.toNat % 16 = c.toNat from by omega]
  simp
theorem q_byte (c : UInt8) (Y : List UInt8) (p fr : Nat) (acc : List UInt8) : q (qByte c ++ Y) p fr acc = q Y (p + (qByte c).length) fr (acc ++ [c]) := by
  by_cases h1 : c.toNat = 34 ∨ c.toNat = 92
  · rw [show qByte c = [92, c] from by simp [qByte, h1]]
    simp only [List.cons_append, List.nil_append]
    rw [q_esc _ _ _ _ (show (92 : UInt8).toNat = 92 from rfl), show esc (c :: Y) = some (c, 2) from by simp [esc, h1]]
    rfl
  by_cases h2 : c.toNat = 10
  · rw [show qByte c = [92, 110] from by simp [qByte, h2]]
    simp only [List.cons_append, List.nil_append]
    have e : c = 10 := UInt8.toNat_inj.1 h2
    rw [q_esc _ _ _ _ (show (92 : UInt8).toNat = 92 from rfl), show esc (110 :: Y) = some (10, 2) from rfl, e]
    rfl
  by_cases h3 : isPlain c = true
  · rw [show qByte c = [c] from by simp [qByte, h1, h2, h3]]
    simp only [List.cons_append, List.nil_append]
    rw [q_plain _ _ _ _ (fun h => h1 (.inl h)) (fun h => h1 (.inr h)) h3]
    rfl
  · have h3' := Bool.eq_false_iff.2 h3
    have hc : c.toNat < 256 := c.toNat_lt
    have he : esc (120 :: hexSet.getD (c.toNat / 16) 0 :: hexSet.getD (c.toNat % 16) 0 :: Y) = some (c, 4) := by
      show (match hexOf (hexSet.getD (c.toNat / 16) 0), hexOf (hexSet.getD (c.toNat % 16) 0) with
        | some x, some y => some (UInt8.ofNat (16 * x + y), 4)
        | _, _ => none) = some (c, 4)
      rw [hex_digit _ (by omega), hex_digit _ (by omega)]
      simp only [byte_of]
    rw [show qByte c = [92, 120, hexSet.getD (c.toNat / 16) 0, hexSet.getD (c.toNat % 16) 0] from by simp [qByte, h1, h2, h3']]
    simp only [List.cons_append, List.nil_append]
    rw [q_esc _ _ _ _ (show (92 : UInt8).toNat = 92 from rfl), he]
    rfl
theorem q_quote (Y : List UInt8) (fr : Nat) : ∀ (b : List UInt8) (p : Nat) (acc : List UInt8), q (b.flatMap qByte ++ 34 :: Y) p fr acc = if 200 < (acc ++ b).length then .error (3, fr) else .ok (acc ++ b, p + (b.flatMap qByte).length + 1)
  | [], p, acc => by
    simp only [List.flatMap_nil, List.nil_append, List.append_nil, List.length_nil, Nat.add_zero]
    exact q_end Y p fr acc rfl
  | c :: r, p, acc => by
    rw [List.flatMap_cons, List.append_assoc, q_byte, q_quote Y fr r, List.append_assoc, List.singleton_append, Nat.add_assoc p, List.length_append («as» := qByte c)]
theorem quote_length (b : List UInt8) : (b.flatMap qByte).length ≤ 4 * b.length := by
  induction b with
  | nil => simp
  | cons c r ih =>
    have : (qByte c).length ≤ 4 := by
      unfold qByte
      split
      · simp
      · split
        · simp
        · split <;> simp
    rw [List.flatMap_cons, List.length_append, List.length_cons]
    omega
theorem sp_quote (b Y : List UInt8) (p : Nat) (acc : List Tok) (hb : b.length ≤ 200) : sp (quoteR b ++ Y) p acc = sp Y (p + (quoteR b).length) (acc ++ [⟨4, p, b⟩]) := by
  have e : quoteR b ++ Y = 34 :: (b.flatMap qByte ++ 34 :: Y) := by simp [quoteR]
  have e2 : (quoteR b).length = (b.flatMap qByte).length + 2 := by simp [quoteR]
  rw [e, sp_quoted _ _ _ rfl, q_quote, List.nil_append, if_neg (by omega)]
  simp only
  rw [show p + 1 + (b.flatMap qByte).length + 1 - (p + 1) = (b.flatMap qByte).length + 1 from by omega, e2, show p + 1 + (b.flatMap qByte).length + 1 = p + ((b.flatMap qByte).length + 2) from by omega]
  congr 1
  rw [show b.flatMap qByte ++ 34 :: Y = (b.flatMap qByte ++ [34]) ++ Y from by simp, show (b.flatMap qByte).length + 1 = (b.flatMap qByte ++ [34]).length from by simp]
  exact List.drop_left
theorem split_quote (b : List UInt8) (hb : b.length ≤ 200) : splitR (quoteR b) = .ok [⟨4, 0, b⟩] := by
  have h := quote_length b
  have e2 : (quoteR b).length = (b.flatMap qByte).length + 2 := by simp [quoteR]
  unfold splitR
  rw [if_neg (by omega)]
  have := sp_quote b [] 0 [] hb
  rw [List.append_nil] at this
  rw [this]
  rfl
theorem split_long_quote (b : List UInt8) (hb : 200 < b.length) (hb2 : b.length ≤ 2000) : splitR (quoteR b) = .error (3, 0) := by
  have h := quote_length b
  have e2 : (quoteR b).length = (b.flatMap qByte).length + 2 := by simp [quoteR]
  have e : quoteR b = 34 :: (b.flatMap qByte ++ 34 :: []) := by simp [quoteR]
  unfold splitR
  rw [if_neg (by omega), e, sp_quoted _ _ _ rfl, q_quote, List.nil_append, if_pos hb]
theorem split_around (b : List UInt8) (hb : b.length ≤ 200) : splitR ([32, 40] ++ quoteR b ++ [59, 32, 40, 10, 32, 41]) = .ok [⟨1, 1, []⟩, ⟨4, 2, b⟩, ⟨2, 2 + (quoteR b).length + 5, []⟩] := by
  have h := quote_length b
  have e2 : (quoteR b).length = (b.flatMap qByte).length + 2 := by simp [quoteR]
  unfold splitR
  rw [if_neg (by simp; omega), List.append_assoc]
  show sp (32 :: 40 :: (quoteR b ++ [59, 32, 40, 10, 32, 41])) 0 [] = _
  rw [sp_parts _ _ _ (by decide), sp_open _ _ _ (by decide), sp_quote b _ _ _ hb]
  generalize 0 + 1 + 1 + (quoteR b).length = x
  rfl

/-- What comes behind an end that neither an Atom nor a remark crosses. -/
theorem tw_tail (f : UInt8 → Bool) (d : UInt8) (T : List UInt8) (hd : f d = false) : ∀ (r : List UInt8), (r ++ d :: T).takeWhile f = r.takeWhile f
  | [] => by simp [hd]
  | c :: r => by
    by_cases h : f c = true
    · rw [List.cons_append, List.takeWhile_cons_of_pos h, List.takeWhile_cons_of_pos h, tw_tail f d T hd r]
    · rw [List.cons_append, List.takeWhile_cons_of_neg h, List.takeWhile_cons_of_neg h]
theorem drop_tail {r : List UInt8} {n : Nat} (T : List UInt8) (h : n ≤ r.length) : (r ++ T).drop n = r.drop n ++ T := by
  rw [List.drop_append_of_le_length h]
theorem esc_tail {r : List UInt8} {b : UInt8} {k : Nat} (T : List UInt8) (h : esc r = some (b, k)) : esc (r ++ T) = some (b, k) := by
  cases r with
  | nil => cases h
  | cons c r =>
    simp only [List.cons_append]
    unfold esc at h ⊢
    simp only at h ⊢
    split
    · rename_i h1
      rw [if_pos h1] at h
      exact h
    · rename_i h1
      rw [if_neg h1] at h
      split
      · rename_i h2
        rw [if_pos h2] at h
        exact h
      · rename_i h2
        rw [if_neg h2] at h
        split
        · rename_i h3
          rw [if_pos h3] at h
          match r, h with
          | a :: b' :: r', h => exact h
          | [], h => cases h
          | [_], h => cases h
        · rename_i h3
          rw [if_neg h3] at h
          cases h
theorem q_tail (T : List UInt8) (s : Nat) : ∀ (n : Nat) (l : List UInt8) (p fr : Nat) (acc t : List UInt8) (nx : Nat), l.length ≤ n → q l p fr acc = .ok (t, nx) → q (l ++ T) (p + s) (fr + s) acc = .ok (t, nx + s)
  | _, [], _, _, _, _, _, _, h => by rw [q_nil] at h; cases h
  | 0, _ :: _, _, _, _, _, _, hn, _ => by simp at hn
  | n + 1, c :: r, p, fr, acc, t, nx, hn, h => by
    simp only [List.length_cons] at hn
    rw [List.cons_append]
    by_cases h1 : c.toNat = 34
    · rw [q_end r p fr acc h1] at h
      rw [q_end _ _ _ _ h1]
      split at h
      · cases h
      · rename_i h200
        cases h
        rw [if_neg h200, Nat.add_right_comm]
    · by_cases h2 : c.toNat = 92
      · rw [q_esc r p fr acc h2] at h
        rw [q_esc _ _ _ _ h2]
        split at h
        · cases h
        · rename_i b k he
          have hs := esc_size he
          rw [esc_tail T he]
          simp only
          rw [drop_tail T (by omega), Nat.add_right_comm]
          exact q_tail T s n _ _ _ _ _ _ (by simp; omega) h
      · by_cases h3 : isPlain c = true
        · rw [q_plain r p fr acc h1 h2 h3] at h
          rw [q_plain _ _ _ _ h1 h2 h3, Nat.add_right_comm]
          exact q_tail T s n _ _ _ _ _ _ (by omega) h
        · rw [q_bad r p fr acc h1 h2 (Bool.eq_false_iff.2 h3)] at h
          cases h
/-- Tokens further to the right. -/
def shift (s : Nat) (l : List Tok) : List Tok := l.map fun t => ⟨t.kind, t.place + s, t.text⟩
theorem shift_cons (s : Nat) (t : Tok) (l : List Tok) : shift s (t :: l) = ⟨t.kind, t.place + s, t.text⟩ :: shift s l := rfl
theorem tw_all (f : UInt8 → Bool) : ∀ (l : List UInt8), (∀ c ∈ l, f c = true) → l.takeWhile f = l
  | [], _ => rfl
  | c :: r, h => by rw [List.takeWhile_cons_of_pos (h c (by simp)), tw_all f r (fun x hx => h x (by simp [hx]))]
theorem sp_clean (clean : List UInt8) (hc : ∀ c ∈ clean, notNl c = true) (p : Nat) (acc : List Tok) : sp (10 :: 59 :: clean) p acc = .ok acc := by
  rw [sp_parts _ _ _ (by decide), sp_remark _ _ _ (by decide)]
  have e : clean.takeWhile notNl = clean := tw_all notNl clean hc
  rw [e, List.drop_length]
  rfl
theorem sp_tail (clean : List UInt8) (hc : ∀ c ∈ clean, notNl c = true) (s : Nat) : ∀ (n : Nat) (l : List UInt8) (p : Nat) (acc acc' out : List Tok), l.length ≤ n → sp l p acc = .ok out → ∃ new, out = acc ++ new ∧ sp (l ++ 10 :: 59 :: clean) (p + s) acc' = .ok (acc' ++ shift s new) := by
  intro n
  induction n with
  | zero =>
    intro l p acc acc' out hn h
    have : l = [] := List.eq_nil_of_length_eq_zero (by omega)
    subst this
    rw [sp_nil] at h
    cases h
    exact ⟨[], by simp, by rw [List.nil_append, sp_clean clean hc]; simp [shift]⟩
  | succ n ih =>
    intro l p acc acc' out hn h
    cases l with
    | nil =>
      rw [sp_nil] at h
      cases h
      exact ⟨[], by simp, by rw [List.nil_append, sp_clean clean hc]; simp [shift]⟩
    | cons c r =>
      simp only [List.length_cons] at hn
      rw [List.cons_append]
      by_cases c0 : isAtom c = true
      · have htl := tw_len isAtom r
        rw [sp_atom r p acc c0] at h
        rw [sp_atom _ _ _ c0, tw_tail isAtom 10 (59 :: clean) (by decide), drop_tail _ htl, show p + s + 1 + (r.takeWhile isAtom).length = p + 1 + (r.takeWhile isAtom).length + s from by omega]
        obtain ⟨new, h1, h2⟩ := ih _ _ _ (acc' ++ [⟨3, p + s, c :: r.takeWhile isAtom⟩]) _ (by simp; omega) h
        exact ⟨⟨3, p, c :: r.takeWhile isAtom⟩ :: new, by simp [h1], by rw [h2, shift_cons]; simp⟩
      have c0' := Bool.eq_false_iff.2 c0
      by_cases c1 : c.toNat = 34
      · rw [sp_quoted r p acc c1] at h
        split at h
        · cases h
        · rename_i t nx hq
          obtain ⟨n1, n2, n3, _⟩ := q_next _ _ _ _ _ _ _ (Nat.le_refl _) hq
          have hq2 := q_tail (10 :: 59 :: clean) s _ _ _ _ _ _ _ (Nat.le_refl _) hq
          rw [sp_quoted _ _ _ c1, show p + s + 1 = p + 1 + s from by omega, hq2]
          simp only
          rw [show nx + s - (p + 1 + s) = nx - (p + 1) from by omega, drop_tail _ (by omega)]
          obtain ⟨new, h1, h2⟩ := ih _ _ _ (acc' ++ [⟨4, p + s, t⟩]) _ (by simp; omega) h
          exact ⟨⟨4, p, t⟩ :: new, by simp [h1], by rw [h2, shift_cons]; simp⟩
      by_cases c2 : c.toNat = 59
      · have htl := tw_len notNl r
        rw [sp_remark r p acc c2] at h
        rw [sp_remark _ _ _ c2, tw_tail notNl 10 (59 :: clean) (by decide), drop_tail _ htl, show p + s + 1 + (r.takeWhile notNl).length = p + 1 + (r.takeWhile notNl).length + s from by omega]
        exact ih _ _ _ acc' _ (by simp; omega) h
      by_cases c3 : c.toNat = 40
      · rw [sp_open r p acc c3] at h
        rw [sp_open _ _ _ c3, Nat.add_right_comm]
        obtain ⟨new, h1, h2⟩ := ih _ _ _ (acc' ++ [⟨1, p + s, []⟩]) _ (by omega) h
        exact ⟨⟨1, p, []⟩ :: new, by simp [h1], by rw [h2, shift_cons]; simp⟩
      by_cases c4 : c.toNat = 41
      · rw [sp_close r p acc c4] at h
        rw [sp_close _ _ _ c4, Nat.add_right_comm]
        obtain ⟨new, h1, h2⟩ := ih _ _ _ (acc' ++ [⟨2, p + s, []⟩]) _ (by omega) h
        exact ⟨⟨2, p, []⟩ :: new, by simp [h1], by rw [h2, shift_cons]; simp⟩
      by_cases c5 : isParts c = true
      · rw [sp_parts r p acc c5] at h
        rw [sp_parts _ _ _ c5, Nat.add_right_comm]
        exact ih _ _ _ acc' _ (by omega) h
      rw [sp_bad r p acc c0' c1 c2 c3 c4 (Bool.eq_false_iff.2 c5)] at h
      cases h
theorem sp_blanks : ∀ (B X : List UInt8) (p : Nat) (acc : List Tok), (∀ c ∈ B, isParts c = true) → sp (B ++ X) p acc = sp X (p + B.length) acc
  | [], X, p, acc, _ => rfl
  | c :: B, X, p, acc, h => by
    rw [List.cons_append, sp_parts _ _ _ (h c (by simp)), sp_blanks B X (p + 1) acc (fun c hc => h c (by simp [hc])), List.length_cons, Nat.add_assoc, Nat.add_comm 1]
/-- A remark at the end, and blanks ahead. -/
theorem split_remarks (L clean B : List UInt8) (l : List Tok) (hc : ∀ c ∈ clean, notNl c = true) (hB : ∀ c ∈ B, isParts c = true) (hlen : B.length + L.length + 2 + clean.length ≤ 8192) (h : splitR L = .ok l) :
    splitR (B ++ L ++ [10, 59] ++ clean) = .ok (shift B.length l) := by
  unfold splitR at h ⊢
  rw [if_neg (by simp; omega)]
  rw [if_neg (by omega)] at h
  obtain ⟨new, h1, h2⟩ := sp_tail clean hc B.length L.length L 0 [] [] l (Nat.le_refl _) h
  rw [List.nil_append] at h1 h2
  subst h1
  rw [show B ++ L ++ [10, 59] ++ clean = B ++ (L ++ 10 :: 59 :: clean) from by simp, sp_blanks B _ 0 [] hB]
  exact h2
end Go.Proofs.Ytcokihblicgbpaa
