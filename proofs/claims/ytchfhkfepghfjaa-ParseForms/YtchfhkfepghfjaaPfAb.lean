/-
  What the chapter on signs of a text says, as functions over lists of bytes: the reading of a Quoted, the parting of a text, the quoting, the names. No program in it.
  And: The package's small functions: tests of bytes, escapes. A scope in which the run jumps to several labels; tokens and bytes in memory. A scope with several labels, where the run may also come to a label from the rows ahead of it.
-/
import Derived.Lib.IndexBytes
import Derived.WalkKit
import Derived.WalkSpells
import Derived.WalkLawsBesides
import Derived.WalkMore
import Derived.BigQuiet
import Derived.Test.YtchfhkfepghfjaaChecked
import Derived.Test.YtchfhkfepghfjaaPfAa
import Derived.ScopeJumps
import Derived.Laws.AppendOwn
namespace Go.Proofs.Ytchfhkfepghfjaa

def isPlain (c : UInt8) : Bool := decide (32 ≤ c.toNat) && decide (c.toNat ≤ 126)
def isParts (c : UInt8) : Bool := decide (c.toNat = 9) || decide (c.toNat = 10) || decide (c.toNat = 13) || decide (c.toNat = 32)
def isAtom (c : UInt8) : Bool := isPlain c && !decide (c.toNat = 32) && !decide (c.toNat = 59) && !decide (c.toNat = 40) && !decide (c.toNat = 41) && !decide (c.toNat = 34)
def notNl (c : UInt8) : Bool := !decide (c.toNat = 10)
def hexOf (c : UInt8) : Option Nat :=
  if 48 ≤ c.toNat ∧ c.toNat ≤ 57 then some (c.toNat - 48) else if 97 ≤ c.toNat ∧ c.toNat ≤ 102 then some (c.toNat - 87) else none

/-- What stands behind a backslash: the byte that is meant, and how many bytes it takes, the backslash among them. -/
def esc : List UInt8 → Option (UInt8 × Nat)
  | [] => none
  | c :: r =>
    if c.toNat = 34 ∨ c.toNat = 92 then some (c, 2)
    else if c.toNat = 110 then some (10, 2)
    else if c.toNat = 120 then
      match r with
      | a :: b :: _ =>
        match hexOf a, hexOf b with
        | some x, some y => some (UInt8.ofNat (16 * x + y), 4)
        | _, _ => none
      | _ => none
    else none

theorem esc_size {r : List UInt8} {b : UInt8} {k : Nat} (h : esc r = some (b, k)) : 2 ≤ k ∧ k ≤ r.length + 1 ∧ k ≤ 4 := by
  unfold esc at h
  split at h
  · cases h
  · rename_i c r
    split at h
    · cases h; simp
    · split at h
      · cases h; simp
      · split at h
        · split at h
          · split at h
            · cases h; simp
            · cases h
          · cases h
        · cases h

/-- What reading a Quoted comes to: its bytes and the place behind it, or why and where it is refused. -/
abbrev QR : Type := Except (Nat × Nat) (List UInt8 × Nat)

def qF : Nat → List UInt8 → Nat → Nat → List UInt8 → QR
  | 0, _, _, fr, _ => .error (10, fr)
  | _ + 1, [], _, fr, _ => .error (10, fr)
  | f + 1, c :: r, p, fr, acc =>
    if c.toNat = 34 then (if 200 < acc.length then .error (3, fr) else .ok (acc, p + 1))
    else if c.toNat = 92 then
      match esc r with
      | none => .error (12, p)
      | some (b, k) => qF f (r.drop (k - 1)) (p + k) fr (acc ++ [b])
    else if isPlain c then qF f r (p + 1) fr (acc ++ [c])
    else .error (12, p)
/-- The reading of a Quoted from behind its sign on. -/
def q (l : List UInt8) (p fr : Nat) (acc : List UInt8) : QR := qF l.length l p fr acc

theorem qF_fuel : ∀ (f g : Nat) (l : List UInt8) (p fr : Nat) (acc : List UInt8), l.length ≤ f → l.length ≤ g → qF f l p fr acc = qF g l p fr acc
  | 0, 0, _, _, _, _, _, _ => rfl
  | 0, g + 1, [], _, _, _, _, _ => rfl
  | 0, _ + 1, _ :: _, _, _, _, h, _ => by simp at h
  | f + 1, 0, [], _, _, _, _, _ => rfl
  | _ + 1, 0, _ :: _, _, _, _, _, h => by simp at h
  | f + 1, g + 1, [], _, _, _, _, _ => rfl
  | f + 1, g + 1, c :: r, p, fr, acc, hf, hg => by
    simp only [List.length_cons] at hf hg
    simp only [qF]
    split
    · rfl
    · split
      · split
        · rfl
        · exact qF_fuel f g _ _ _ _ (by simp; omega) (by simp; omega)
      · split
        · exact qF_fuel f g _ _ _ _ (by omega) (by omega)
        · rfl
theorem q_nil (p fr : Nat) (acc : List UInt8) : q [] p fr acc = .error (10, fr) := rfl
theorem q_end {c : UInt8} (r : List UInt8) (p fr : Nat) (acc : List UInt8) (h : c.toNat = 34) : q (c :: r) p fr acc = if 200 < acc.length then .error (3, fr) else .ok (acc, p + 1) := by
  simp only [q, List.length_cons, qF, h, if_true]
theorem q_esc {c : UInt8} (r : List UInt8) (p fr : Nat) (acc : List UInt8) (h : c.toNat = 92) : q (c :: r) p fr acc = match esc r with | none => .error (12, p) | some (b, k) => q (r.drop (k - 1)) (p + k) fr (acc ++ [b]) := by
  simp only [q, List.length_cons, qF, h, if_true]
  rw [if_neg (by decide)]
  split
  · rfl
  · exact qF_fuel _ _ _ _ _ _ (by simp) (by simp)
theorem q_plain {c : UInt8} (r : List UInt8) (p fr : Nat) (acc : List UInt8) (h1 : c.toNat ≠ 34) (h2 : c.toNat ≠ 92) (h3 : isPlain c = true) : q (c :: r) p fr acc = q r (p + 1) fr (acc ++ [c]) := by
  simp only [q, List.length_cons, qF, h1, h2, h3, if_true, if_false]
theorem q_bad {c : UInt8} (r : List UInt8) (p fr : Nat) (acc : List UInt8) (h1 : c.toNat ≠ 34) (h2 : c.toNat ≠ 92) (h3 : isPlain c = false) : q (c :: r) p fr acc = .error (12, p) := by
  simp only [q, List.length_cons, qF, h1, h2, h3, if_false, Bool.false_eq_true]
/-- Where a Quoted ends: within the text, behind where the reading began; no more bytes than stand there. -/
theorem q_next : ∀ (n : Nat) (l : List UInt8) (p fr : Nat) (acc t : List UInt8) (nx : Nat), l.length ≤ n → q l p fr acc = .ok (t, nx) → p + 1 ≤ nx ∧ nx ≤ p + l.length ∧ t.length + p + 1 ≤ acc.length + nx ∧ t.length ≤ 200
  | _, [], _, _, _, _, _, _, h => by rw [q_nil] at h; cases h
  | 0, _ :: _, _, _, _, _, _, hn, _ => by simp at hn
  | n + 1, c :: r, p, fr, acc, t, nx, hn, h => by
    simp only [List.length_cons] at hn ⊢
    by_cases h1 : c.toNat = 34
    · rw [q_end r p fr acc h1] at h
      split at h
      · cases h
      · cases h; omega
    · by_cases h2 : c.toNat = 92
      · rw [q_esc r p fr acc h2] at h
        split at h
        · cases h
        · rename_i b k he
          have hs := esc_size he
          have := q_next n _ _ _ _ _ _ (by simp; omega) h
          simp at this
          omega
      · by_cases h3 : isPlain c = true
        · rw [q_plain r p fr acc h1 h2 h3] at h
          have := q_next n _ _ _ _ _ _ (by omega) h
          simp at this
          omega
        · rw [q_bad r p fr acc h1 h2 (Bool.eq_false_iff.2 h3)] at h
          cases h

/-- Why a Quoted is refused. -/
theorem q_why : ∀ (n : Nat) (l : List UInt8) (p fr : Nat) (acc : List UInt8) (y b : Nat), l.length ≤ n → q l p fr acc = .error (y, b) → y = 3 ∨ y = 10 ∨ y = 12
  | _, [], _, _, _, _, _, _, h => by rw [q_nil] at h; cases h; simp
  | 0, _ :: _, _, _, _, _, _, hn, _ => by simp at hn
  | n + 1, c :: r, p, fr, acc, y, b, hn, h => by
    simp only [List.length_cons] at hn
    by_cases h1 : c.toNat = 34
    · rw [q_end r p fr acc h1] at h
      split at h
      · cases h; simp
      · cases h
    · by_cases h2 : c.toNat = 92
      · rw [q_esc r p fr acc h2] at h
        split at h
        · cases h; simp
        · exact q_why n _ _ _ _ _ _ (by simp; omega) h
      · by_cases h3 : isPlain c = true
        · rw [q_plain r p fr acc h1 h2 h3] at h
          exact q_why n _ _ _ _ _ _ (by omega) h
        · rw [q_bad r p fr acc h1 h2 (Bool.eq_false_iff.2 h3)] at h
          cases h; simp

structure Tok where
  kind : Nat
  place : Nat
  text : List UInt8

/-- What parting a text comes to: its tokens, or why and where it is refused. -/
abbrev SR : Type := Except (Nat × Nat) (List Tok)

def sF : Nat → List UInt8 → Nat → List Tok → SR
  | 0, _, _, acc => .ok acc
  | _ + 1, [], _, acc => .ok acc
  | f + 1, c :: r, p, acc =>
    if isAtom c then sF f (r.drop (r.takeWhile isAtom).length) (p + 1 + (r.takeWhile isAtom).length) (acc ++ [⟨3, p, c :: r.takeWhile isAtom⟩])
    else if c.toNat = 34 then
      match q r (p + 1) p [] with
      | .error (w, b) => .error (w, b)
      | .ok (t, nx) => sF f (r.drop (nx - (p + 1))) nx (acc ++ [⟨4, p, t⟩])
    else if c.toNat = 59 then sF f (r.drop (r.takeWhile notNl).length) (p + 1 + (r.takeWhile notNl).length) acc
    else if c.toNat = 40 then sF f r (p + 1) (acc ++ [⟨1, p, []⟩])
    else if c.toNat = 41 then sF f r (p + 1) (acc ++ [⟨2, p, []⟩])
    else if isParts c then sF f r (p + 1) acc
    else .error (12, p)
/-- The parting of what is left of a text, from place p on, behind these tokens. -/
def sp (l : List UInt8) (p : Nat) (acc : List Tok) : SR := sF l.length l p acc
/-- The parting of a text. -/
def splitR (l : List UInt8) : SR := if 8192 < l.length then .error (3, 0) else sp l 0 []

theorem sF_fuel : ∀ (f g : Nat) (l : List UInt8) (p : Nat) (acc : List Tok), l.length ≤ f → l.length ≤ g → sF f l p acc = sF g l p acc
  | 0, 0, _, _, _, _, _ => rfl
  | 0, g + 1, [], _, _, _, _ => rfl
  | 0, _ + 1, _ :: _, _, _, h, _ => by simp at h
  | f + 1, 0, [], _, _, _, _ => rfl
  | _ + 1, 0, _ :: _, _, _, _, h => by simp at h
  | f + 1, g + 1, [], _, _, _, _ => rfl
  | f + 1, g + 1, c :: r, p, acc, hf, hg => by
    simp only [List.length_cons] at hf hg
    simp only [sF]
    repeat' split
    all_goals first | rfl | exact sF_fuel f g _ _ _ (by simp; omega) (by simp; omega) | exact sF_fuel f g _ _ _ (by omega) (by omega)

theorem sp_nil (p : Nat) (acc : List Tok) : sp [] p acc = .ok acc := rfl
theorem sp_atom {c : UInt8} (r : List UInt8) (p : Nat) (acc : List Tok) (h : isAtom c = true) :
    sp (c :: r) p acc = sp (r.drop (r.takeWhile isAtom).length) (p + 1 + (r.takeWhile isAtom).length) (acc ++ [⟨3, p, c :: r.takeWhile isAtom⟩]) := by
  simp only [sp, List.length_cons, sF, h, if_true]
  exact sF_fuel _ _ _ _ _ (by simp) (by simp)
theorem sp_quoted {c : UInt8} (r : List UInt8) (p : Nat) (acc : List Tok) (h : c.toNat = 34) :
    sp (c :: r) p acc = match q r (p + 1) p [] with | .error (w, b) => .error (w, b) | .ok (t, nx) => sp (r.drop (nx - (p + 1))) nx (acc ++ [⟨4, p, t⟩]) := by
  have ha : isAtom c = false := by simp [isAtom, h]
  simp only [sp, List.length_cons, sF, ha, h, if_true, if_false, Bool.false_eq_true]
  split
  · rfl
  · exact sF_fuel _ _ _ _ _ (by simp) (by simp)
theorem sp_remark {c : UInt8} (r : List UInt8) (p : Nat) (acc : List Tok) (h : c.toNat = 59) :
    sp (c :: r) p acc = sp (r.drop (r.takeWhile notNl).length) (p + 1 + (r.takeWhile notNl).length) acc := by
  have ha : isAtom c = false := by simp [isAtom, h]
  simp only [sp, List.length_cons, sF, ha, h, if_true, if_false, Bool.false_eq_true]
  rw [if_neg (by decide)]
  exact sF_fuel _ _ _ _ _ (by simp) (by simp)
theorem sp_open {c : UInt8} (r : List UInt8) (p : Nat) (acc : List Tok) (h : c.toNat = 40) : sp (c :: r) p acc = sp r (p + 1) (acc ++ [⟨1, p, []⟩]) := by
  have ha : isAtom c = false := by simp [isAtom, h]
  simp only [sp, List.length_cons, sF, ha, h, if_true, if_false, Bool.false_eq_true]
  rw [if_neg (by decide), if_neg (by decide)]
theorem sp_close {c : UInt8} (r : List UInt8) (p : Nat) (acc : List Tok) (h : c.toNat = 41) : sp (c :: r) p acc = sp r (p + 1) (acc ++ [⟨2, p, []⟩]) := by
  have ha : isAtom c = false := by simp [isAtom, h]
  simp only [sp, List.length_cons, sF, ha, h, if_true, if_false, Bool.false_eq_true]
  rw [if_neg (by decide), if_neg (by decide), if_neg (by decide)]
theorem sp_parts {c : UInt8} (r : List UInt8) (p : Nat) (acc : List Tok) (h : isParts c = true) : sp (c :: r) p acc = sp r (p + 1) acc := by
  have h' := h
  simp only [isParts, Bool.or_eq_true, decide_eq_true_eq] at h'
  have ha : isAtom c = false := by
    rcases h' with ((h' | h') | h') | h' <;> simp [isAtom, isPlain, h']
  simp only [sp, List.length_cons, sF, ha, h, if_true, if_false, Bool.false_eq_true]
  rw [if_neg (by omega), if_neg (by omega), if_neg (by omega), if_neg (by omega)]
theorem sp_bad {c : UInt8} (r : List UInt8) (p : Nat) (acc : List Tok) (h1 : isAtom c = false) (h2 : c.toNat ≠ 34) (h3 : c.toNat ≠ 59) (h4 : c.toNat ≠ 40) (h5 : c.toNat ≠ 41) (h6 : isParts c = false) : sp (c :: r) p acc = .error (12, p) := by
  simp only [sp, List.length_cons, sF, h1, h2, h3, h4, h5, h6, if_false, Bool.false_eq_true]

/-- At the label of an Atom that began at fr. -/
def aS (L : List UInt8) (fr p : Nat) (acc : List Tok) : SR :=
  sp (L.drop (p + ((L.drop p).takeWhile isAtom).length)) (p + ((L.drop p).takeWhile isAtom).length) (acc ++ [⟨3, fr, (L.drop fr).take (p + ((L.drop p).takeWhile isAtom).length - fr)⟩])
/-- At the label of a remark. -/
def rS (L : List UInt8) (p : Nat) (acc : List Tok) : SR :=
  sp (L.drop (p + ((L.drop p).takeWhile notNl).length)) (p + ((L.drop p).takeWhile notNl).length) acc

theorem take_tw {α : Type} (f : α → Bool) : ∀ (l : List α), l.take (l.takeWhile f).length = l.takeWhile f
  | [] => rfl
  | x :: r => by
    by_cases h : f x = true
    · rw [List.takeWhile_cons_of_pos h, List.length_cons, List.take_succ_cons, take_tw f r]
    · rw [List.takeWhile_cons_of_neg h]; rfl
theorem drop_cons {L : List UInt8} {p : Nat} {c : UInt8} {r : List UInt8} (h : L.drop p = c :: r) : L.drop (p + 1) = r := by
  rw [← List.drop_drop, h]; rfl
theorem aS_start {L : List UInt8} {p : Nat} {c : UInt8} {r : List UInt8} (h : L.drop p = c :: r) (hc : isAtom c = true) (acc : List Tok) : sp (L.drop p) p acc = aS L p p acc := by
  unfold aS
  rw [h, sp_atom r p acc hc, List.takeWhile_cons_of_pos hc, List.length_cons, ← List.drop_drop, h, List.drop_succ_cons, show p + ((r.takeWhile isAtom).length + 1) - p = (r.takeWhile isAtom).length + 1 from by omega, List.take_succ_cons, take_tw, show p + ((r.takeWhile isAtom).length + 1) = p + 1 + (r.takeWhile isAtom).length from by omega]
theorem aS_step {L : List UInt8} {p fr : Nat} {c : UInt8} {r : List UInt8} (h : L.drop p = c :: r) (hc : isAtom c = true) (acc : List Tok) : aS L fr p acc = aS L fr (p + 1) acc := by
  unfold aS
  rw [h, drop_cons h, List.takeWhile_cons_of_pos hc, List.length_cons, show p + ((r.takeWhile isAtom).length + 1) = p + 1 + (r.takeWhile isAtom).length from by omega]
theorem aS_stop {L : List UInt8} {p fr : Nat} (h : ∀ c r, L.drop p = c :: r → isAtom c = false) (acc : List Tok) : aS L fr p acc = sp (L.drop p) p (acc ++ [⟨3, fr, (L.drop fr).take (p - fr)⟩]) := by
  have : (L.drop p).takeWhile isAtom = [] := by
    cases hd : L.drop p with
    | nil => rfl
    | cons c r => rw [List.takeWhile_cons_of_neg (by rw [h c r hd]; decide)]
  unfold aS
  rw [this]
  rfl
theorem rS_start {L : List UInt8} {p : Nat} {c : UInt8} {r : List UInt8} (h : L.drop p = c :: r) (hc : c.toNat = 59) (acc : List Tok) : sp (L.drop p) p acc = rS L p acc := by
  have hn : notNl c = true := by simp [notNl, hc]
  unfold rS
  rw [h, sp_remark r p acc hc, List.takeWhile_cons_of_pos hn, List.length_cons, ← List.drop_drop, h, List.drop_succ_cons, show p + ((r.takeWhile notNl).length + 1) = p + 1 + (r.takeWhile notNl).length from by omega]
theorem rS_step {L : List UInt8} {p : Nat} {c : UInt8} {r : List UInt8} (h : L.drop p = c :: r) (hc : notNl c = true) (acc : List Tok) : rS L p acc = rS L (p + 1) acc := by
  unfold rS
  rw [h, drop_cons h, List.takeWhile_cons_of_pos hc, List.length_cons, show p + ((r.takeWhile notNl).length + 1) = p + 1 + (r.takeWhile notNl).length from by omega]
theorem rS_stop {L : List UInt8} {p : Nat} (h : ∀ c r, L.drop p = c :: r → notNl c = false) (acc : List Tok) : rS L p acc = sp (L.drop p) p acc := by
  have : (L.drop p).takeWhile notNl = [] := by
    cases hd : L.drop p with
    | nil => rfl
    | cons c r => rw [List.takeWhile_cons_of_neg (by rw [h c r hd]; decide)]
  unfold rS
  rw [this]
  rfl

/-- A list of bytes as a string. -/
def str (l : List UInt8) : ByteArray := ⟨l.toArray⟩
theorem str_toList (s : ByteArray) : str s.data.toList = s := by
  obtain ⟨⟨l⟩⟩ := s
  rfl
theorem str_data (l : List UInt8) : (str l).data.toList = l := rfl
theorem str_size (l : List UInt8) : (str l).size = l.length := rfl
theorem str_inj {a b : List UInt8} (h : str a = str b) : a = b := by
  have := congrArg (fun s : ByteArray => s.data.toList) h
  simpa [str] using this
theorem str_append (a b : List UInt8) : str a ++ str b = str (a ++ b) := by
  apply ByteArray.ext
  simp [str]
theorem extract_str (s : ByteArray) (a b : Nat) : s.extract a b = str ((s.data.toList.drop a).take (b - a)) := by
  rw [← str_toList (s.extract a b), Lib.extract_data]
theorem size_len (s : ByteArray) : s.data.toList.length = s.size := by rw [Array.length_toList]; rfl
theorem drop_at (s : ByteArray) (k : Nat) (hk : k < s.size) : s.data.toList.drop k = s[k] :: s.data.toList.drop (k + 1) := by
  have hk' : k < s.data.toList.length := by rw [size_len]; exact hk
  rw [List.drop_eq_getElem_cons hk']
  rfl
theorem drop_end (s : ByteArray) (k : Nat) (hk : s.size ≤ k) : s.data.toList.drop k = [] := List.drop_eq_nil_of_le (by rw [size_len]; exact hk)

def hexSet : List UInt8 := [48, 49, 50, 51, 52, 53, 54, 55, 56, 57, 97, 98, 99, 100, 101, 102]
/-- The quoting of one byte. -/
def qByte (c : UInt8) : List UInt8 :=
  if c.toNat = 34 ∨ c.toNat = 92 then [92, c]
  else if c.toNat = 10 then [92, 110]
  else if isPlain c then [c]
  else [92, 120, (hexSet.getD (c.toNat / 16) 0), (hexSet.getD (c.toNat % 16) 0)]
def quoteR (l : List UInt8) : List UInt8 := 34 :: (l.flatMap qByte ++ [34])

def isSmall (c : UInt8) : Bool := decide (97 ≤ c.toNat) && decide (c.toNat ≤ 122)
def isLarge (c : UInt8) : Bool := decide (65 ≤ c.toNat) && decide (c.toNat ≤ 90)
def isDigit (c : UInt8) : Bool := decide (48 ≤ c.toNat) && decide (c.toNat ≤ 57)
def isLetter (c : UInt8) : Bool := isSmall c || isLarge c || isDigit c || decide (c.toNat = 95)
def nameR (l : List UInt8) : Bool := !l.isEmpty && decide (l.length ≤ 24) && !(l.head?.any isDigit) && l.all isLetter
def bigR (l : List UInt8) : Bool := nameR l && l.head?.any isLarge
def valueR (l : List UInt8) : Bool := nameR l && !l.head?.any isLarge
end Go.Proofs.Ytchfhkfepghfjaa

namespace Go.Proofs.Ytchfhkfepghfjaa
open Go.RowKit

/-- What a call answers that leaves the world as it was. -/
def Pu (v : Value) (w : World) (e : Ending) (w' : World) : Prop := e = .returned v ∧ w' = w

set_option maxRecDepth 1000000 in
theorem plain (c : UInt8) (w : World) : Calls Try.prog 21 #[.int .u8 c.toNat] w (Pu (.bool (isPlain c)) w) := by
  by_cases h1 : 32 ≤ c.toNat
  · have h1' : (32 : Int) ≤ (c.toNat : Int) := by omega
    by_cases h2 : c.toNat ≤ 126
    · have h2' : (c.toNat : Int) ≤ 126 := by omega
      go_enter Try.func21, Try.ntmps21
      go_wp2
      go_ret
      exact ⟨by simp [isPlain, h1, h2], rfl⟩
    · have h2' : ¬ (c.toNat : Int) ≤ 126 := by omega
      go_enter Try.func21, Try.ntmps21
      go_wp2
      go_ret
      exact ⟨by simp [isPlain, h1, h2], rfl⟩
  · have h1' : ¬ (32 : Int) ≤ (c.toNat : Int) := by omega
    go_enter Try.func21, Try.ntmps21
    go_wp2
    go_ret
    exact ⟨by simp [isPlain, h1], rfl⟩

set_option maxRecDepth 1000000 in
theorem small (c : UInt8) (w : World) : Calls Try.prog 66 #[.int .u8 c.toNat] w (Pu (.bool (isSmall c)) w) := by
  by_cases h1 : 97 ≤ c.toNat
  · have h1' : (97 : Int) ≤ (c.toNat : Int) := by omega
    by_cases h2 : c.toNat ≤ 122
    · have h2' : (c.toNat : Int) ≤ 122 := by omega
      go_enter Try.func66, Try.ntmps66
      go_wp2
      go_ret
      exact ⟨by simp [isSmall, h1, h2], rfl⟩
    · have h2' : ¬ (c.toNat : Int) ≤ 122 := by omega
      go_enter Try.func66, Try.ntmps66
      go_wp2
      go_ret
      exact ⟨by simp [isSmall, h1, h2], rfl⟩
  · have h1' : ¬ (97 : Int) ≤ (c.toNat : Int) := by omega
    go_enter Try.func66, Try.ntmps66
    go_wp2
    go_ret
    exact ⟨by simp [isSmall, h1], rfl⟩

set_option maxRecDepth 1000000 in
theorem large (c : UInt8) (w : World) : Calls Try.prog 53 #[.int .u8 c.toNat] w (Pu (.bool (isLarge c)) w) := by
  by_cases h1 : 65 ≤ c.toNat
  · have h1' : (65 : Int) ≤ (c.toNat : Int) := by omega
    by_cases h2 : c.toNat ≤ 90
    · have h2' : (c.toNat : Int) ≤ 90 := by omega
      go_enter Try.func53, Try.ntmps53
      go_wp2
      go_ret
      exact ⟨by simp [isLarge, h1, h2], rfl⟩
    · have h2' : ¬ (c.toNat : Int) ≤ 90 := by omega
      go_enter Try.func53, Try.ntmps53
      go_wp2
      go_ret
      exact ⟨by simp [isLarge, h1, h2], rfl⟩
  · have h1' : ¬ (65 : Int) ≤ (c.toNat : Int) := by omega
    go_enter Try.func53, Try.ntmps53
    go_wp2
    go_ret
    exact ⟨by simp [isLarge, h1], rfl⟩

set_option maxRecDepth 1000000 in
theorem digit (c : UInt8) (w : World) : Calls Try.prog 65 #[.int .u8 c.toNat] w (Pu (.bool (isDigit c)) w) := by
  by_cases h1 : 48 ≤ c.toNat
  · have h1' : (48 : Int) ≤ (c.toNat : Int) := by omega
    by_cases h2 : c.toNat ≤ 57
    · have h2' : (c.toNat : Int) ≤ 57 := by omega
      go_enter Try.func65, Try.ntmps65
      go_wp2
      go_ret
      exact ⟨by simp [isDigit, h1, h2], rfl⟩
    · have h2' : ¬ (c.toNat : Int) ≤ 57 := by omega
      go_enter Try.func65, Try.ntmps65
      go_wp2
      go_ret
      exact ⟨by simp [isDigit, h1, h2], rfl⟩
  · have h1' : ¬ (48 : Int) ≤ (c.toNat : Int) := by omega
    go_enter Try.func65, Try.ntmps65
    go_wp2
    go_ret
    exact ⟨by simp [isDigit, h1], rfl⟩

set_option maxRecDepth 1000000 in
theorem parts (c : UInt8) (w : World) : Calls Try.prog 15 #[.int .u8 c.toNat] w (Pu (.bool (isParts c)) w) := by
  by_cases h0 : c.toNat = 9
  · rw [show isParts c = true from by unfold isParts; simp only [Bool.or_eq_true, decide_eq_true_eq]; omega]
    have h0' : ((c.toNat : Int) == 9) = true := by rw [beq_iff_eq]; omega
    go_enter Try.func15, Try.ntmps15
    go_wp2
    go_ret
    exact ⟨rfl, rfl⟩
  have h0' : ((c.toNat : Int) == 9) = false := by rw [beq_eq_false_iff_ne]; omega
  by_cases h1 : c.toNat = 10
  · rw [show isParts c = true from by unfold isParts; simp only [Bool.or_eq_true, decide_eq_true_eq]; omega]
    have h1' : ((c.toNat : Int) == 10) = true := by rw [beq_iff_eq]; omega
    go_enter Try.func15, Try.ntmps15
    go_wp2
    go_ret
    exact ⟨rfl, rfl⟩
  have h1' : ((c.toNat : Int) == 10) = false := by rw [beq_eq_false_iff_ne]; omega
  by_cases h2 : c.toNat = 13
  · rw [show isParts c = true from by unfold isParts; simp only [Bool.or_eq_true, decide_eq_true_eq]; omega]
    have h2' : ((c.toNat : Int) == 13) = true := by rw [beq_iff_eq]; omega
    go_enter Try.func15, Try.ntmps15
    go_wp2
    go_ret
    exact ⟨rfl, rfl⟩
  have h2' : ((c.toNat : Int) == 13) = false := by rw [beq_eq_false_iff_ne]; omega
  by_cases h3 : c.toNat = 32
  · rw [show isParts c = true from by unfold isParts; simp only [Bool.or_eq_true, decide_eq_true_eq]; omega]
    have h3' : ((c.toNat : Int) == 32) = true := by rw [beq_iff_eq]; omega
    go_enter Try.func15, Try.ntmps15
    go_wp2
    go_ret
    exact ⟨rfl, rfl⟩
  have h3' : ((c.toNat : Int) == 32) = false := by rw [beq_eq_false_iff_ne]; omega
  rw [show isParts c = false from Bool.eq_false_iff.2 (by unfold isParts; simp only [ne_eq, Bool.or_eq_true, decide_eq_true_eq]; omega)]
  go_enter Try.func15, Try.ntmps15
  go_wp2
  go_ret
  exact ⟨rfl, rfl⟩

set_option maxHeartbeats 800000 in
set_option maxRecDepth 1000000 in
theorem inAtom (c : UInt8) (w : World) : Calls Try.prog 14 #[.int .u8 c.toNat] w (Pu (.bool (isAtom c)) w) := by
  have hp := plain c
  rcases (by cases isPlain c <;> simp : isPlain c = false ∨ isPlain c = true) with hb | hb
  · rw [hb] at hp
    rw [show isAtom c = false from by simp [isAtom, hb]]
    clear hb
    generalize (c.toNat : Int) = x at *
    go_enter Try.func14, Try.ntmps14
    go_wp2_with fail
    refine (hp _).mono ?_
    rintro e w1 ⟨rfl, rfl⟩
    go_wp2
    go_ret
    exact ⟨rfl, rfl⟩
  rw [hb] at hp
  by_cases h0 : c.toNat = 32
  · rw [show isAtom c = false from by simp [isAtom, h0]]
    have h0' : ((c.toNat : Int) != 32) = false := by rw [bne_eq_false_iff_eq]; omega
    clear h0 hb
    generalize (c.toNat : Int) = x at *
    go_enter Try.func14, Try.ntmps14
    go_wp2_with fail
    refine (hp _).mono ?_
    rintro e w1 ⟨rfl, rfl⟩
    go_wp2
    go_ret
    exact ⟨rfl, rfl⟩
  have h0' : ((c.toNat : Int) != 32) = true := by rw [bne_iff_ne]; omega
  by_cases h1 : c.toNat = 59
  · rw [show isAtom c = false from by simp [isAtom, h1]]
    have h1' : ((c.toNat : Int) != 59) = false := by rw [bne_eq_false_iff_eq]; omega
    clear h0 h1 hb
    generalize (c.toNat : Int) = x at *
    go_enter Try.func14, Try.ntmps14
    go_wp2_with fail
    refine (hp _).mono ?_
    rintro e w1 ⟨rfl, rfl⟩
    go_wp2
    go_ret
    exact ⟨rfl, rfl⟩
  have h1' : ((c.toNat : Int) != 59) = true := by rw [bne_iff_ne]; omega
  by_cases h2 : c.toNat = 40
  · rw [show isAtom c = false from by simp [isAtom, h2]]
    have h2' : ((c.toNat : Int) != 40) = false := by rw [bne_eq_false_iff_eq]; omega
    clear h0 h1 h2 hb
    generalize (c.toNat : Int) = x at *
    go_enter Try.func14, Try.ntmps14
    go_wp2_with fail
    refine (hp _).mono ?_
    rintro e w1 ⟨rfl, rfl⟩
    go_wp2
    go_ret
    exact ⟨rfl, rfl⟩
  have h2' : ((c.toNat : Int) != 40) = true := by rw [bne_iff_ne]; omega
  by_cases h3 : c.toNat = 41
  · rw [show isAtom c = false from by simp [isAtom, h3]]
    have h3' : ((c.toNat : Int) != 41) = false := by rw [bne_eq_false_iff_eq]; omega
    clear h0 h1 h2 h3 hb
    generalize (c.toNat : Int) = x at *
    go_enter Try.func14, Try.ntmps14
    go_wp2_with fail
    refine (hp _).mono ?_
    rintro e w1 ⟨rfl, rfl⟩
    go_wp2
    go_ret
    exact ⟨rfl, rfl⟩
  have h3' : ((c.toNat : Int) != 41) = true := by rw [bne_iff_ne]; omega
  by_cases h4 : c.toNat = 34
  · rw [show isAtom c = false from by simp [isAtom, h4]]
    have h4' : ((c.toNat : Int) != 34) = false := by rw [bne_eq_false_iff_eq]; omega
    clear h0 h1 h2 h3 h4 hb
    generalize (c.toNat : Int) = x at *
    go_enter Try.func14, Try.ntmps14
    go_wp2_with fail
    refine (hp _).mono ?_
    rintro e w1 ⟨rfl, rfl⟩
    go_wp2
    go_ret
    exact ⟨rfl, rfl⟩
  have h4' : ((c.toNat : Int) != 34) = true := by rw [bne_iff_ne]; omega
  rw [show isAtom c = true from by simp [isAtom, hb, h0, h1, h2, h3, h4]]
  clear h0 h1 h2 h3 h4 hb
  generalize (c.toNat : Int) = x at *
  go_enter Try.func14, Try.ntmps14
  go_wp2_with fail
  refine (hp _).mono ?_
  rintro e w1 ⟨rfl, rfl⟩
  go_wp2
  go_ret
  exact ⟨rfl, rfl⟩

/-- What reading two digits, and an escape, answers. -/
def EscE (r : Option (UInt8 × Nat)) (w : World) (e : Ending) (w' : World) : Prop :=
  (match r with
  | none => e = .returned (.tuple #[.int .u8 0, .int .i64 0])
  | some (b, k) => e = .returned (.tuple #[.int .u8 b.toNat, .int .i64 k])) ∧ ∃ n, w' = w.drewN n

theorem escE_mk {b : UInt8} {k : Nat} {z m : Int} (w : World) (n : Nat) (hz : z = (b.toNat : Int)) (hm : m = (k : Int)) : EscE (some (b, k)) w (.returned (.tuple #[.int .u8 z, .int .i64 m])) (w.drewN n) := by
  subst hz hm
  exact ⟨rfl, n, rfl⟩
theorem hex_byte (x y : Nat) (hx : x < 16) (hy : y < 16) : bits .or .i64 ((x : Int) * 16) (y : Int) % 256 = ((UInt8.ofNat (16 * x + y)).toNat : Int) := by
  have h : ∀ a b : Fin 16, bits .or .i64 ((a.val : Int) * 16) (b.val : Int) % 256 = ((UInt8.ofNat (16 * a.val + b.val)).toNat : Int) := by decide +kernel
  exact h ⟨x, hx⟩ ⟨y, hy⟩
theorem hex_index (c : UInt8) : Lib.indexByte [48, 49, 50, 51, 52, 53, 54, 55, 56, 57, 97, 98, 99, 100, 101, 102] c = match hexOf c with | none => -1 | some x => (x : Int) := by
  have h : ∀ n : Fin 256, Lib.indexByte [48, 49, 50, 51, 52, 53, 54, 55, 56, 57, 97, 98, 99, 100, 101, 102] (UInt8.ofNat n.val) = match hexOf (UInt8.ofNat n.val) with | none => -1 | some x => (x : Int) := by decide +kernel
  have := h ⟨c.toNat, c.toNat_lt⟩
  simpa using this
theorem hexOf_lt {c : UInt8} {x : Nat} (h : hexOf c = some x) : x < 16 := by
  unfold hexOf at h
  split at h
  · cases h; omega
  · split at h
    · cases h; omega
    · cases h

def escX : List UInt8 → Option (UInt8 × Nat)
  | a :: b :: _ =>
    match hexOf a, hexOf b with
    | some x, some y => some (UInt8.ofNat (16 * x + y), 4)
    | _, _ => none
  | _ => none
theorem esc_x (c : UInt8) (r : List UInt8) (h : c.toNat = 120) : esc (c :: r) = escX r := by
  simp only [esc, escX, h]
  rfl
theorem quiet_pure {P : Program} {f : FuncId} {args : Array Value} {w : World} {n x : Nat} {v : Value} (h : Calls P f args (w.drewN (n + x)) fun e w' => e = .returned v ∧ w' = w.drewN (n + x)) :
    Calls P f args (w.drewN (n + x)) fun e w'' => e = .returned v ∧ ∃ m, w'' = w.drewN (n + m) :=
  h.mono fun _ _ ⟨he, hm⟩ => ⟨he, x, hm⟩
theorem quiet_pure0 {P : Program} {f : FuncId} {args : Array Value} {w : World} {x : Nat} {v : Value} (h : Calls P f args (w.drewN x) fun e w' => e = .returned v ∧ w' = w.drewN x) :
    Calls P f args (w.drewN x) fun e w'' => e = .returned v ∧ ∃ m, w'' = w.drewN m :=
  h.mono fun _ _ ⟨he, hm⟩ => ⟨he, x, hm⟩
theorem idx (c : UInt8) (w : World) : Calls Try.prog 58 #[.string ⟨#[48, 49, 50, 51, 52, 53, 54, 55, 56, 57, 97, 98, 99, 100, 101, 102]⟩, .int .u8 c.toNat] w fun e w' => e = .returned (.int .i64 (match hexOf c with | none => -1 | some x => (x : Int))) ∧ w' = w := by
  have h := Try.strings_IndexByte ⟨#[48, 49, 50, 51, 52, 53, 54, 55, 56, 57, 97, 98, 99, 100, 101, 102]⟩ c.toNat w
  rw [← hex_index c]
  simpa using h

set_option maxHeartbeats 1600000 in
set_option maxRecDepth 1000000 in
theorem readDigits (s : ByteArray) (w : World) : Calls Try.prog 41 #[.string s] w (EscE (escX (s.data.toList.drop 2)) w) := by
  by_cases hl : s.size < 4
  · have hl' : (s.size : Int) < 4 := by omega
    rw [show escX (s.data.toList.drop 2) = none from by
      have h3 : (s.data.toList.drop 2).length < 2 := by rw [List.length_drop, size_len]; omega
      match s.data.toList.drop 2, h3 with
      | [], _ => rfl
      | [_], _ => rfl]
    go_enter Try.func41, Try.ntmps41
    go_wp2
    go_ret2
    exact ⟨rfl, 0, rfl⟩
  · have hl' : ¬ (s.size : Int) < 4 := by omega
    have h2 : 2 < s.size := by omega
    have h3 : 3 < s.size := by omega
    have h2' : (2 : Int) < (s.size : Int) := by omega
    have h3' : (3 : Int) < (s.size : Int) := by omega
    have i2 := idx s[2]
    have i3 := idx s[3]
    rw [drop_at s 2 h2, drop_at s 3 h3]
    simp only [escX]
    generalize hx : hexOf s[2] = x at i2
    generalize hy : hexOf s[3] = y at i3
    cases x with
    | none =>
      simp only at i2
      clear hy
      generalize (match y with | none => -1 | some x => (x : Int)) = z at i3
      go_enter Try.func41, Try.ntmps41
      go_wp2
      go_quiet ((first | (go_at_call 58; refine quiet_pure0 (i2 _)) | (go_at_call 58; refine quiet_pure0 (i3 _))))
      go_wp2
      go_ret2
      exact ⟨rfl, _, rfl⟩
    | some x =>
      cases y with
      | none =>
        go_enter Try.func41, Try.ntmps41
        go_wp2
        go_quiet ((first | (go_at_call 58; refine quiet_pure0 (i2 _)) | (go_at_call 58; refine quiet_pure0 (i3 _))))
        go_wp2
        go_ret2
        exact ⟨rfl, _, rfl⟩
      | some y =>
        have hx' := hexOf_lt hx
        have hy' := hexOf_lt hy
        go_enter Try.func41, Try.ntmps41
        go_wp2
        go_quiet ((first | (go_at_call 58; refine quiet_pure0 (i2 _)) | (go_at_call 58; refine quiet_pure0 (i3 _))))
        go_wp2
        go_ret2
        exact escE_mk _ _ (hex_byte x y hx' hy') rfl

set_option maxHeartbeats 800000 in
set_option maxRecDepth 1000000 in
theorem readEscape (s : ByteArray) (w : World) : Calls Try.prog 23 #[.string s] w (EscE (esc (s.data.toList.drop 1)) w) := by
  by_cases hl : s.size < 2
  · have hl' : (s.size : Int) < 2 := by omega
    rw [show s.data.toList.drop 1 = [] from List.drop_eq_nil_of_le (by rw [size_len]; omega)]
    go_enter Try.func23, Try.ntmps23
    go_wp2
    go_ret2
    exact ⟨rfl, 0, rfl⟩
  · have hl' : ¬ (s.size : Int) < 2 := by omega
    have h1 : 1 < s.size := by omega
    have h1' : (1 : Int) < (s.size : Int) := by omega
    have hd := readDigits s
    rw [drop_at s 1 h1]
    by_cases c1 : s[1].toNat = 34
    · rw [show esc (s[1] :: s.data.toList.drop (1 + 1)) = some (s[1], 2) from by simp [esc, c1]]
      have c1' : ((s[1].toNat : Int) == 34) = true := by rw [beq_iff_eq]; omega
      clear c1 hd
      go_enter Try.func23, Try.ntmps23
      go_wp2
      go_ret2
      exact escE_mk _ 0 rfl rfl
    have c1' : ((s[1].toNat : Int) == 34) = false := by rw [beq_eq_false_iff_ne]; omega
    by_cases c2 : s[1].toNat = 92
    · rw [show esc (s[1] :: s.data.toList.drop (1 + 1)) = some (s[1], 2) from by simp [esc, c2]]
      have c2' : ((s[1].toNat : Int) == 92) = true := by rw [beq_iff_eq]; omega
      clear c1 c2 hd
      go_enter Try.func23, Try.ntmps23
      go_wp2
      go_ret2
      exact escE_mk _ 0 rfl rfl
    have c2' : ((s[1].toNat : Int) == 92) = false := by rw [beq_eq_false_iff_ne]; omega
    by_cases c3 : s[1].toNat = 110
    · rw [show esc (s[1] :: s.data.toList.drop (1 + 1)) = some (10, 2) from by simp [esc, c3]]
      have c3' : ((s[1].toNat : Int) == 110) = true := by rw [beq_iff_eq]; omega
      clear c1 c2 c3 hd
      go_enter Try.func23, Try.ntmps23
      go_wp2
      go_ret2
      exact escE_mk _ 0 rfl rfl
    have c3' : ((s[1].toNat : Int) == 110) = false := by rw [beq_eq_false_iff_ne]; omega
    by_cases c4 : s[1].toNat = 120
    · rw [esc_x _ _ c4]
      have c4' : ((s[1].toNat : Int) == 120) = true := by rw [beq_iff_eq]; omega
      clear c1 c2 c3 c4
      generalize escX (s.data.toList.drop (1 + 1)) = r at *
      cases r with
      | none =>
        go_enter Try.func23, Try.ntmps23
        go_wp2_with fail
        refine (hd _).mono ?_
        rintro e w1 ⟨he, n, rfl⟩
        simp only at he
        subst he
        go_wp2
        go_ret2
        exact ⟨rfl, _, rfl⟩
      | some p =>
        obtain ⟨b, k⟩ := p
        go_enter Try.func23, Try.ntmps23
        go_wp2_with fail
        refine (hd _).mono ?_
        rintro e w1 ⟨he, n, rfl⟩
        simp only at he
        subst he
        go_wp2
        go_ret2
        exact ⟨rfl, _, rfl⟩
    have c4' : ((s[1].toNat : Int) == 120) = false := by rw [beq_eq_false_iff_ne]; omega
    rw [show esc (s[1] :: s.data.toList.drop (1 + 1)) = none from by simp [esc, c1, c2, c3, c4]]
    clear c1 c2 c3 c4 hd
    go_enter Try.func23, Try.ntmps23
    go_wp2
    go_ret2
    exact ⟨rfl, 0, rfl⟩

end Go.Proofs.Ytchfhkfepghfjaa

namespace Go.Proofs.Ytchfhkfepghfjaa
open Go.RowKit

/-- As Q; by a goto: what holds at that label. -/
def jumps (J : Nat → Act → World → Prop) (Q : Exit → Act → World → Prop) : Exit → Act → World → Prop
  | .goto l, a, w => J l a w
  | e, a, w => Q e a w

/-- A scope with several labels: what holds at each, and a number that each way from a label to a label lowers. -/
theorem wp_scope_labels {P : Program} {a : Act} {w : World} {Q : Exit → Act → World → Prop} {c : Code} (J : Nat → Act → World → Prop) (m : Nat → Act → World → Nat)
    (first : (∀ l rest a w, findLabel c l = some (Code.skip.seq rest) → J l a w → rest.wp P (jumps J Q) a w) → c.wp P (jumps J Q) a w)
    (pass : ∀ l a w, J l a w → ∃ rest, findLabel c l = some (Code.skip.seq rest) ∧ rest.wp P (jumps (fun l' a' w' => J l' a' w' ∧ m l' a' w' < m l a w) Q) a w) : (Code.scope c).wp P Q a w := by
  intro b k cs
  have key : ∀ n l a w rest, m l a w = n → J l a w → findLabel c l = some rest → ∃ e a' w', Q e a' w' ∧ Arrives P (lone (b.at a (.code rest :: .inScope c :: k)) cs w) b k cs e a' w' := by
    intro n
    induction n using Nat.strongRecOn with
    | _ n ih =>
      intro l a w rest hn hJ hf
      obtain ⟨r, hr, hp⟩ := pass l a w hJ
      rw [hr] at hf
      cases hf
      obtain ⟨e, a1, w1, hq, harr⟩ := wp_seq (wp_skip hp) b (.inScope c :: k) cs
      cases e with
      | normal => exact ⟨.normal, a1, w1, hq, Steps.trans harr (.one step_inScope)⟩
      | exit id => exact ⟨.exit id, a1, w1, hq, fun k' hk => harr k' (by simp [exitTo, hk])⟩
      | goto l' =>
        obtain ⟨hJ', hlt⟩ := hq
        obtain ⟨r', hr', _⟩ := pass l' a1 w1 hJ'
        have hg : gotoIn l' (.inScope c :: k) = some (.code (Code.skip.seq r') :: .inScope c :: k) := by simp [gotoIn, hr']
        obtain ⟨e2, a2, w2, hq2, harr2⟩ := ih _ (by omega) l' a1 w1 _ rfl hJ' hr'
        exact ⟨e2, a2, w2, hq2, .of_steps (harr _ hg) harr2⟩
      | ret => exact ⟨_, a1, w1, hq, harr⟩
      | panic ch => exact ⟨_, a1, w1, hq, harr⟩
      | outgrown => exact ⟨_, a1, w1, hq, harr⟩
  have hfirst : c.wp P (jumps J Q) a w := by
    refine first (fun l rest a w hf hJ => ?_)
    obtain ⟨r, hr, hp⟩ := pass l a w hJ
    rw [hr] at hf
    cases hf
    refine wp_mono hp ?_
    intro e a' w' hq
    cases e <;> first | exact hq | exact hq.1
  obtain ⟨e, a1, w1, hq, harr⟩ := hfirst b (.inScope c :: k) cs
  cases e with
  | normal => exact ⟨.normal, a1, w1, hq, .head step_scope (Steps.trans harr (.one step_inScope))⟩
  | exit id => exact ⟨.exit id, a1, w1, hq, fun k' hk => .head step_scope (harr k' (by simp [exitTo, hk]))⟩
  | goto l' =>
    obtain ⟨r', hr', _⟩ := pass l' a1 w1 hq
    have hg : gotoIn l' (.inScope c :: k) = some (.code (Code.skip.seq r') :: .inScope c :: k) := by simp [gotoIn, hr']
    obtain ⟨e2, a2, w2, hq2, harr2⟩ := key _ l' a1 w1 _ rfl hq hr'
    exact ⟨e2, a2, w2, hq2, .of_steps (.head step_scope (harr _ hg)) harr2⟩
  | ret => exact ⟨_, a1, w1, hq, .of_steps (.one step_scope) harr⟩
  | panic ch => exact ⟨_, a1, w1, hq, .of_steps (.one step_scope) harr⟩
  | outgrown => exact ⟨_, a1, w1, hq, .of_steps (.one step_scope) harr⟩

/-- Bytes as cells. -/
def bc (l : List UInt8) : List Value := l.map fun c => Value.int .u8 (c.toNat : Int)
theorem bc_length (l : List UInt8) : (bc l).length = l.length := by simp [bc]
theorem bc_append (a b : List UInt8) : bc (a ++ b) = bc a ++ bc b := by simp [bc]
theorem bc_one (l : List UInt8) : ∀ u ∈ bc l, u.oneCell' = true := by
  intro u hu
  obtain ⟨_, _, rfl⟩ := List.mem_map.1 hu
  rfl
/-- A token's cells, and those of several. -/
def tc (t : Tok) : List Value := [.int .i64 (t.kind : Int), .int .i64 (t.place : Int), .string (str t.text)]
def tcs (l : List Tok) : List Value := l.flatMap tc
theorem tcs_append (a b : List Tok) : tcs (a ++ b) = tcs a ++ tcs b := by simp [tcs]
theorem tcs_one (t : Tok) : tcs [t] = tc t := by simp [tcs]

/-- What stands in a row of the call's own, from block B on. -/
theorem owns_below {w w' : World} {B e size n : Nat} {v : Value} {xs : List Value} (h : w.ownsRow B e size v n xs) (k : Below w.heap.size w w') : w'.ownsRow B e size v n xs := by
  refine ⟨h.1, ?_⟩
  rcases h.2 with hn | ⟨g, cap, cur, rfl, hb, hg, rest⟩
  · exact .inl hn
  · exact .inr ⟨g, cap, cur, rfl, hb, (k.block g (Array.getElem?_eq_some_iff.1 hg).1).trans hg, rest⟩
/-- An append of the call's own leaves what was there below B. -/
theorem below_grown {w0 w w' : World} {B e size n : Nat} {v : Value} {xs : List Value} (h : w.ownsRow B e size v n xs) (hB : B ≤ w.heap.size) (hw : Below B w0 w) (hg : w.grownBy w' v.ownBlock) : Below B w0 w' := by
  refine hw.grown hg hB (fun k hk => ?_)
  rcases h.2 with ⟨rfl, _⟩ | ⟨g, cap, cur, rfl, hb, _⟩
  · simp [Value.ownBlock] at hk
  · simp [Value.ownBlock] at hk; omega
end Go.Proofs.Ytchfhkfepghfjaa

namespace Go.Proofs.Ytchfhkfepghfjaa
open Go.RowKit

/-- The same, where the run may also come to a label from the rows ahead of it. -/
theorem wp_scope_fall {P : Program} {a : Act} {w : World} {Q : Exit → Act → World → Prop} {c : Code} (J : Nat → Act → World → Prop) (m : Nat → Act → World → Nat)
    (first : (∀ l rest a w, findLabel c l = some (Code.skip.seq rest) → J l a w → rest.wp P (jumps J Q) a w) → c.wp P (jumps J Q) a w)
    (pass : ∀ l a w, J l a w → (∀ l' rest' a' w', findLabel c l' = some (Code.skip.seq rest') → J l' a' w' → m l' a' w' < m l a w → rest'.wp P (jumps (fun l'' a'' w'' => J l'' a'' w'' ∧ m l'' a'' w'' < m l a w) Q) a' w') →
      ∃ rest, findLabel c l = some (Code.skip.seq rest) ∧ rest.wp P (jumps (fun l' a' w' => J l' a' w' ∧ m l' a' w' < m l a w) Q) a w) : (Code.scope c).wp P Q a w := by
  refine wp_scope_labels J m first ?_
  have key : ∀ n l a w, m l a w = n → J l a w → ∃ rest, findLabel c l = some (Code.skip.seq rest) ∧ rest.wp P (jumps (fun l' a' w' => J l' a' w' ∧ m l' a' w' < m l a w) Q) a w := by
    intro n
    induction n using Nat.strongRecOn with
    | _ n ih =>
      intro l a w hn hJ
      refine pass l a w hJ (fun l' rest' a' w' hf hJ' hlt => ?_)
      obtain ⟨r, hr, hp⟩ := ih _ (by omega) l' a' w' rfl hJ'
      rw [hr] at hf
      cases hf
      refine wp_mono hp ?_
      intro e a2 w2 hq
      cases e <;> first | exact hq | exact ⟨hq.1, Nat.lt_trans hq.2 hlt⟩
  exact fun l a w hJ => key _ l a w rfl hJ

end Go.Proofs.Ytchfhkfepghfjaa
