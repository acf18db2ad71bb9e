/-
  What the chapter on signs of a text says, as functions over lists of bytes: the reading of a Quoted, the parting of a text, the quoting, the names. No program in it.
  And: What follows from the chapter's functions: where tokens stand; what a remark behind and blanks ahead change; what is quoted is read as itself. No program in it.
-/
import Derived.Lib.IndexBytes
namespace Go.Proofs.YtfjppbpicmniaaaGreatDoor

def isPlain (c : UInt8) : Bool := decide (32 ≤ c.toNat) && decide (c.toNat ≤ 126)
def isParts (c : UInt8) : Bool := decide (c.toNat = 9) || decide (c.toNat = 10) || decide (c.toNat = 13) || decide (c.toNat = 32)
def isAtom (c : UInt8) : Bool := isPlain c && !decide (c.toNat = 32) && !decide (c.toNat = 59) && !decide (c.toNat = 40) && !decide (c.toNat = 41) && !decide (c.toNat = 34)
def notNl (c : UInt8) : Bool := !decide (c.toNat = 10)
def hexOf (c : UInt8) : Option Nat :=
  if 48 ≤ c.toNat ∧ c.toNat ≤ 57 then some (c.toNat - 48) else if 97 ≤ c.toNat ∧ c.toNat ≤ 102 then some (c.toNat - 87) else none

/-- What stands behind a backslash: the byte that is meant, and how many bytes it takes, the backslash among them. -/
def esc : List UInt8 → Option (UInt8 × Nat)
  | [] => none
  | c :: r =>
    if c.toNat = 34 ∨ c.toNat = 92 then some (c, 2)
    else if c.toNat = 110 then some (10, 2)
    else if c.toNat = 120 then
      match r with
      | a :: b :: _ =>
        match hexOf a, hexOf b with
        | some x, some y => some (UInt8.ofNat (16 * x + y), 4)
        | _, _ => none
      | _ => none
    else none

theorem esc_size {r : List UInt8} {b : UInt8} {k : Nat} (h : esc r = some (b, k)) : 2 ≤ k ∧ k ≤ r.length + 1 ∧ k ≤ 4 := by
  unfold esc at h
  split at h
  · cases h
  · rename_i c r
    split at h
    · cases h; simp
    · split at h
      · cases h; simp
      · split at h
        · split at h
          · split at h
            · cases h; simp
            · cases h
          · cases h
        · cases h

/-- What reading a Quoted comes to: its bytes and the place behind it, or why and where it is refused. -/
abbrev QR : Type := Except (Nat × Nat) (List UInt8 × Nat)

def qF : Nat → List UInt8 → Nat → Nat → List UInt8 → QR
  | 0, _, _, fr, _ => .error (10, fr)
  | _ + 1, [], _, fr, _ => .error (10, fr)
  | f + 1, c :: r, p, fr, acc =>
    if c.toNat = 34 then (if 200 < acc.length then .error (3, fr) else .ok (acc, p + 1))
    else if c.toNat = 92 then
      match esc r with
      | none => .error (12, p)
      | some (b, k) => qF f (r.drop (k - 1)) (p + k) fr (acc ++ [b])
    else if isPlain c then qF f r (p + 1) fr (acc ++ [c])
    else .error (12, p)
/-- The reading of a Quoted from behind its sign on. -/
def q (l : List UInt8) (p fr : Nat) (acc : List UInt8) : QR := qF l.length l p fr acc

theorem qF_fuel : ∀ (f g : Nat) (l : List UInt8) (p fr : Nat) (acc : List UInt8), l.length ≤ f → l.length ≤ g → qF f l p fr acc = qF g l p fr acc
  | 0, 0, _, _, _, _, _, _ => rfl
  | 0, g + 1, [], _, _, _, _, _ => rfl
  | 0, _ + 1, _ :: _, _, _, _, h, _ => by simp at h
  | f + 1, 0, [], _, _, _, _, _ => rfl
  | _ + 1, 0, _ :: _, _, _, _, _, h => by simp at h
  | f + 1, g + 1, [], _, _, _, _, _ => rfl
  | f + 1, g + 1, c :: r, p, fr, acc, hf, hg => by
    simp only [List.length_cons] at hf hg
    simp only [qF]
    split
    · rfl
    · split
      · split
        · rfl
        · exact qF_fuel f g _ _ _ _ (by simp; omega) (by simp; omega)
      · split
        · exact qF_fuel f g _ _ _ _ (by omega) (by omega)
        · rfl
theorem q_nil (p fr : Nat) (acc : List UInt8) : q [] p fr acc = .error (10, fr) := rfl
theorem q_end {c : UInt8} (r : List UInt8) (p fr : Nat) (acc : List UInt8) (h : c.toNat = 34) : q (c :: r) p fr acc = if 200 < acc.length then .error (3, fr) else .ok (acc, p + 1) := by
  simp only [q, List.length_cons, qF, h, if_true]
theorem q_esc {c : UInt8} (r : List UInt8) (p fr : Nat) (acc : List UInt8) (h : c.toNat = 92) : q (c :: r) p fr acc = match esc r with | none => .error (12, p) | some (b, k) => q (r.drop (k - 1)) (p + k) fr (acc ++ [b]) := by
  simp only [q, List.length_cons, qF, h, if_true]
  rw [if_neg (by decide)]
  split
  · rfl
  · exact qF_fuel _ _ _ _ _ _ (by simp) (by simp)
theorem q_plain {c : UInt8} (r : List UInt8) (p fr : Nat) (acc : List UInt8) (h1 : c.toNat ≠ 34) (h2 : c.toNat ≠ 92) (h3 : isPlain c = true) : q (c :: r) p fr acc = q r (p + 1) fr (acc ++ [c]) := by
  simp only [q, List.length_cons, qF, h1, h2, h3, if_true, if_false]
theorem q_bad {c : UInt8} (r : List UInt8) (p fr : Nat) (acc : List UInt8) (h1 : c.toNat ≠ 34) (h2 : c.toNat ≠ 92) (h3 : isPlain c = false) : q (c :: r) p fr acc = .error (12, p) := by
  simp only [q, List.length_cons, qF, h1, h2, h3, if_false, Bool.false_eq_true]
/-- Where a Quoted ends: within the text, behind where the reading began; no more bytes than stand there. -/
theorem q_next : ∀ (n : Nat) (l : List UInt8) (p fr : Nat) (acc t : List UInt8) (nx : Nat), l.length ≤ n → q l p fr acc = .ok (t, nx) → p + 1 ≤ nx ∧ nx ≤ p + l.length ∧ t.length + p + 1 ≤ acc.length + nx ∧ t.length ≤ 200
  | _, [], _, _, _, _, _, _, h => by rw [q_nil] at h; cases h
  | 0, _ :: _, _, _, _, _, _, hn, _ => by simp at hn
  | n + 1, c :: r, p, fr, acc, t, nx, hn, h => by
    simp only [List.length_cons] at hn ⊢
    by_cases h1 : c.toNat = 34
    · rw [q_end r p fr acc h1] at h
      split at h
      · cases h
      · cases h; omega
    · by_cases h2 : c.toNat = 92
      · rw [q_esc r p fr acc h2] at h
        split at h
        · cases h
        · rename_i b k he
          have hs := esc_size he
          have := q_next n _ _ _ _ _ _ (by simp; omega) h
          simp at this
          omega
      · by_cases h3 : isPlain c = true
        · rw [q_plain r p fr acc h1 h2 h3] at h
          have := q_next n _ _ _ _ _ _ (by omega) h
          simp at this
          omega
        · rw [q_bad r p fr acc h1 h2 (Bool.eq_false_iff.2 h3)] at h
          cases h

/-- Why a Quoted is refused. -/
theorem q_why : ∀ (n : Nat) (l : List UInt8) (p fr : Nat) (acc : List UInt8) (y b : Nat), l.length ≤ n → q l p fr acc = .error (y, b) → y = 3 ∨ y = 10 ∨ y = 12
  | _, [], _, _, _, _, _, _, h => by rw [q_nil] at h; cases h; simp
  | 0, _ :: _, _, _, _, _, _, hn, _ => by simp at hn
  | n + 1, c :: r, p, fr, acc, y, b, hn, h => by
    simp only [List.length_cons] at hn
    by_cases h1 : c.toNat = 34
    · rw [q_end r p fr acc h1] at h
      split at h
      · cases h; simp
      · cases h
    · by_cases h2 : c.toNat = 92
      · rw [q_esc r p fr acc h2] at h
        split at h
        · cases h; simp
        · exact q_why n _ _ _ _ _ _ (by simp; omega) h
      · by_cases h3 : isPlain c = true
        · rw [q_plain r p fr acc h1 h2 h3] at h
          exact q_why n _ _ _ _ _ _ (by omega) h
        · rw [q_bad r p fr acc h1 h2 (Bool.eq_false_iff.2 h3)] at h
          cases h; simp

structure Tok where
  kind : Nat
  place : Nat
  text : List UInt8

/-- What parting a text comes to: its tokens, or why and where it is refused. -/
abbrev SR : Type := Except (Nat × Nat) (List Tok)

def sF : Nat → List UInt8 → Nat → List Tok → SR
  | 0, _, _, acc => .ok acc
  | _ + 1, [], _, acc => .ok acc
  | f + 1, c :: r, p, acc =>
    if isAtom c then sF f (r.drop (r.takeWhile isAtom).length) (p + 1 + (r.takeWhile isAtom).length) (acc ++ [⟨3, p, c :: r.takeWhile isAtom⟩])
    else if c.toNat = 34 then
      match q r (p + 1) p [] with
      | .error (w, b) => .error (w, b)
      | .ok (t, nx) => sF f (r.drop (nx - (p + 1))) nx (acc ++ [⟨4, p, t⟩])
    else if c.toNat = 59 then sF f (r.drop (r.takeWhile notNl).length) (p + 1 + (r.takeWhile notNl).length) acc
    else if c.toNat = 40 then sF f r (p + 1) (acc ++ [⟨1, p, []⟩])
    else if c.toNat = 41 then sF f r (p + 1) (acc ++ [⟨2, p, []⟩])
    else if isParts c then sF f r (p + 1) acc
    else .error (12, p)
/-- The parting of what is left of a text, from place p on, behind these tokens. -/
def sp (l : List UInt8) (p : Nat) (acc : List Tok) : SR := sF l.length l p acc
/-- The parting of a text. -/
def splitR (l : List UInt8) : SR := if 8192 < l.length then .error (3, 0) else sp l 0 []

theorem sF_fuel : ∀ (f g : Nat) (l : List UInt8) (p : Nat) (acc : List Tok), l.length ≤ f → l.length ≤ g → sF f l p acc = sF g l p acc
  | 0, 0, _, _, _, _, _ => rfl
  | 0, g + 1, [], _, _, _, _ => rfl
  | 0, _ + 1, _ :: _, _, _, h, _ => by simp at h
  | f + 1, 0, [], _, _, _, _ => rfl
  | _ + 1, 0, _ :: _, _, _, _, h => by simp at h
  | f + 1, g + 1, [], _, _, _, _ => rfl
  | f + 1, g + 1, c :: r, p, acc, hf, hg => by
    simp only [List.length_cons] at hf hg
    simp only [sF]
    repeat' split
    all_goals first | rfl | exact sF_fuel f g _ _ _ (by simp; omega) (by simp; omega) | exact sF_fuel f g _ _ _ (by omega) (by omega)

theorem sp_nil (p : Nat) (acc : List Tok) : sp [] p acc = .ok acc := rfl
theorem sp_atom {c : UInt8} (r : List UInt8) (p : Nat) (acc : List Tok) (h : isAtom c = true) :
    sp (c :: r) p acc = sp (r.drop (r.takeWhile isAtom).length) (p + 1 + (r.takeWhile isAtom).length) (acc ++ [⟨3, p, c :: r.takeWhile isAtom⟩]) := by
  simp only [sp, List.length_cons, sF, h, if_true]
  exact sF_fuel _ _ _ _ _ (by simp) (by simp)
theorem sp_quoted {c : UInt8} (r : List UInt8) (p : Nat) (acc : List Tok) (h : c.toNat = 34) :
    sp (c :: r) p acc = match q r (p + 1) p [] with | .error (w, b) => .error (w, b) | .ok (t, nx) => sp (r.drop (nx - (p + 1))) nx (acc ++ [⟨4, p, t⟩]) := by
  have ha : isAtom c = false := by simp [isAtom, h]
  simp only [sp, List.length_cons, sF, ha, h, if_true, if_false, Bool.false_eq_true]
  split
  · rfl
  · exact sF_fuel _ _ _ _ _ (by simp) (by simp)
theorem sp_remark {c : UInt8} (r : List UInt8) (p : Nat) (acc : List Tok) (h : c.toNat = 59) :
    sp (c :: r) p acc = sp (r.drop (r.takeWhile notNl).length) (p + 1 + (r.takeWhile notNl).length) acc := by
  have ha : isAtom c = false := by simp [isAtom, h]
  simp only [sp, List.length_cons, sF, ha, h, if_true, if_false, Bool.false_eq_true]
  rw [if_neg (by decide)]
  exact sF_fuel _ _ _ _ _ (by simp) (by simp)
theorem sp_open {c : UInt8} (r : List UInt8) (p : Nat) (acc : List Tok) (h : c.toNat = 40) : sp (c :: r) p acc = sp r (p + 1) (acc ++ [⟨1, p, []⟩]) := by
  have ha : isAtom c = false := by simp [isAtom, h]
  simp only [sp, List.length_cons, sF, ha, h, if_true, if_false, Bool.false_eq_true]
  rw [if_neg (by decide), if_neg (by decide)]
theorem sp_close {c : UInt8} (r : List UInt8) (p : Nat) (acc : List Tok) (h : c.toNat = 41) : sp (c :: r) p acc = sp r (p + 1) (acc ++ [⟨2, p, []⟩]) := by
  have ha : isAtom c = false := by simp [isAtom, h]
  simp only [sp, List.length_cons, sF, ha, h, if_true, if_false, Bool.false_eq_true]
  rw [if_neg (by decide), if_neg (by decide), if_neg (by decide)]
theorem sp_parts {c : UInt8} (r : List UInt8) (p : Nat) (acc : List Tok) (h : isParts c = true) : sp (c :: r) p acc = sp r (p + 1) acc := by
  have h' := h
  simp only [isParts, Bool.or_eq_true, decide_eq_true_eq] at h'
  have ha : isAtom c = false := by
    rcases h' with ((h' | h') | h') | h' <;> simp [isAtom, isPlain, h']
  simp only [sp, List.length_cons, sF, ha, h, if_true, if_false, Bool.false_eq_true]
  rw [if_neg (by omega), if_neg (by omega), if_neg (by omega), if_neg (by omega)]
theorem sp_bad {c : UInt8} (r : List UInt8) (p : Nat) (acc : List Tok) (h1 : isAtom c = false) (h2 : c.toNat ≠ 34) (h3 : c.toNat ≠ 59) (h4 : c.toNat ≠ 40) (h5 : c.toNat ≠ 41) (h6 : isParts c = false) : sp (c :: r) p acc = .error (12, p) := by
  simp only [sp, List.length_cons, sF, h1, h2, h3, h4, h5, h6, if_false, Bool.false_eq_true]

/-- At the label of an Atom that began at fr. -/
def aS (L : List UInt8) (fr p : Nat) (acc : List Tok) : SR :=
  sp (L.drop (p + ((L.drop p).takeWhile isAtom).length)) (p + ((L.drop p).takeWhile isAtom).length) (acc ++ [⟨3, fr, (L.drop fr).take (p + ((L.drop p).takeWhile isAtom).length - fr)⟩])
/-- At the label of a remark. -/
def rS (L : List UInt8) (p : Nat) (acc : List Tok) : SR :=
  sp (L.drop (p + ((L.drop p).takeWhile notNl).length)) (p + ((L.drop p).takeWhile notNl).length) acc

theorem take_tw {α : Type} (f : α → Bool) : ∀ (l : List α), l.take (l.takeWhile f).length = l.takeWhile f
  | [] => rfl
  | x :: r => by
    by_cases h : f x = true
    · rw [List.takeWhile_cons_of_pos h, List.length_cons, List.take_succ_cons, take_tw f r]
    · rw [List.takeWhile_cons_of_neg h]; rfl
theorem drop_cons {L : List UInt8} {p : Nat} {c : UInt8} {r : List UInt8} (h : L.drop p = c :: r) : L.drop (p + 1) = r := by
  rw [← List.drop_drop, h]; rfl
theorem aS_start {L : List UInt8} {p : Nat} {c : UInt8} {r : List UInt8} (h : L.drop p = c :: r) (hc : isAtom c = true) (acc : List Tok) : sp (L.drop p) p acc = aS L p p acc := by
  unfold aS
  rw [h, sp_atom r p acc hc, List.takeWhile_cons_of_pos hc, List.length_cons, ← List.drop_drop, h, List.drop_succ_cons, show p + ((r.takeWhile isAtom).length + 1) - p = (r.takeWhile isAtom).length + 1 from by omega, List.take_succ_cons, take_tw, show p + ((r.takeWhile isAtom).length + 1) = p + 1 + (r.takeWhile isAtom).length from by omega]
theorem aS_step {L : List UInt8} {p fr : Nat} {c : UInt8} {r : List UInt8} (h : L.drop p = c :: r) (hc : isAtom c = true) (acc : List Tok) : aS L fr p acc = aS L fr (p + 1) acc := by
  unfold aS
  rw [h, drop_cons h, List.takeWhile_cons_of_pos hc, List.length_cons, show p + ((r.takeWhile isAtom).length + 1) = p + 1 + (r.takeWhile isAtom).length from by omega]
theorem aS_stop {L : List UInt8} {p fr : Nat} (h : ∀ c r, L.drop p = c :: r → isAtom c = false) (acc : List Tok) : aS L fr p acc = sp (L.drop p) p (acc ++ [⟨3, fr, (L.drop fr).take (p - fr)⟩]) := by
  have : (L.drop p).takeWhile isAtom = [] := by
    cases hd : L.drop p with
    | nil => rfl
    | cons c r => rw [List.takeWhile_cons_of_neg (by rw [h c r hd]; decide)]
  unfold aS
  rw [this]
  rfl
theorem rS_start {L : List UInt8} {p : Nat} {c : UInt8} {r : List UInt8} (h : L.drop p = c :: r) (hc : c.toNat = 59) (acc : List Tok) : sp (L.drop p) p acc = rS L p acc := by
  have hn : notNl c = true := by simp [notNl, hc]
  unfold rS
  rw [h, sp_remark r p acc hc, List.takeWhile_cons_of_pos hn, List.length_cons, ← List.drop_drop, h, List.drop_succ_cons, show p + ((r.takeWhile notNl).length + 1) = p + 1 + (r.takeWhile notNl).length from by omega]
theorem rS_step {L : List UInt8} {p : Nat} {c : UInt8} {r : List UInt8} (h : L.drop p = c :: r) (hc : notNl c = true) (acc : List Tok) : rS L p acc = rS L (p + 1) acc := by
  unfold rS
  rw [h, drop_cons h, List.takeWhile_cons_of_pos hc, List.length_cons, show p + ((r.takeWhile notNl).length + 1) = p + 1 + (r.takeWhile notNl).length from by omega]
theorem rS_stop {L : List UInt8} {p : Nat} (h : ∀ c r, L.drop p = c :: r → notNl c = false) (acc : List Tok) : rS L p acc = sp (L.drop p) p acc := by
  have : (L.drop p).takeWhile notNl = [] := by
    cases hd : L.drop p with
    | nil => rfl
    | cons c r => rw [List.takeWhile_cons_of_neg (by rw [h c r hd]; decide)]
  unfold rS
  rw [this]
  rfl

/-- A list of bytes as a string. -/
def str (l : List UInt8) : ByteArray := ⟨l.toArray⟩
theorem str_toList (s : ByteArray) : str s.data.toList = s := by
  obtain ⟨⟨l⟩⟩ := s
  rfl
theorem str_data (l : List UInt8) : (str l).data.toList = l := rfl
theorem str_size (l : List UInt8) : (str l).size = l.length := rfl
theorem str_inj {a b : List UInt8} (h : str a = str b) : a = b := by
  have := congrArg (fun s : ByteArray => s.data.toList) h
  simpa [str] using this
theorem str_append (a b : List UInt8) : str a ++ str b = str (a ++ b) := by
  apply ByteArray.ext
  simp [str]
theorem extract_str (s : ByteArray) (a b : Nat) : s.extract a b = str ((s.data.toList.drop a).take (b - a)) := by
  rw [← str_toList (s.extract a b), Lib.extract_data]
theorem size_len (s : ByteArray) : s.data.toList.length = s.size := by rw [Array.length_toList]; rfl
theorem drop_at (s : ByteArray) (k : Nat) (hk : k < s.size) : s.data.toList.drop k = s[k] :: s.data.toList.drop (k + 1) := by
  have hk' : k < s.data.toList.length := by rw [size_len]; exact hk
  rw [List.drop_eq_getElem_cons hk']
  rfl
theorem drop_end (s : ByteArray) (k : Nat) (hk : s.size ≤ k) : s.data.toList.drop k = [] := List.drop_eq_nil_of_le (by rw [size_len]; exact hk)

def hexSet : List UInt8 := [48, 49, 50, 51, 52, 53, 54, 55, 56, 57, 97, 98, 99, 100, 101, 102]
/-- The quoting of one byte. -/
def qByte (c : UInt8) : List UInt8 :=
  if c.toNat = 34 ∨ c.toNat = 92 then [92, c]
  else if c.toNat = 10 then [92, 110]
  else if isPlain c then [c]
  else [92, 120, (hexSet.getD (c.toNat / 16) 0), (hexSet.getD (c.toNat % 16) 0)]
def quoteR (l : List UInt8) : List UInt8 := 34 :: (l.flatMap qByte ++ [34])

def isSmall (c : UInt8) : Bool := decide (97 ≤ c.toNat) && decide (c.toNat ≤ 122)
def isLarge (c : UInt8) : Bool := decide (65 ≤ c.toNat) && decide (c.toNat ≤ 90)
def isDigit (c : UInt8) : Bool := decide (48 ≤ c.toNat) && decide (c.toNat ≤ 57)
def isLetter (c : UInt8) : Bool := isSmall c || isLarge c || isDigit c || decide (c.toNat = 95)
def nameR (l : List UInt8) : Bool := !l.isEmpty && decide (l.length ≤ 24) && !(l.head?.any isDigit) && l.all isLetter
def bigR (l : List UInt8) : Bool := nameR l && l.head?.any isLarge
def valueR (l : List UInt8) : Bool := nameR l && !l.head?.any isLarge
end Go.Proofs.YtfjppbpicmniaaaGreatDoor

namespace Go.Proofs.YtfjppbpicmniaaaGreatDoor

/-- Tokens one behind the other, from place a on. -/
def places (L : List UInt8) : List Tok → Nat → Prop
  | [], a => a ≤ L.length
  | t :: r, a => a ≤ t.place ∧ t.place < L.length ∧
    ((t.kind = 1 ∧ (∃ c, L[t.place]? = some c ∧ c.toNat = 40) ∧ places L r (t.place + 1)) ∨
     (t.kind = 2 ∧ (∃ c, L[t.place]? = some c ∧ c.toNat = 41) ∧ places L r (t.place + 1)) ∨
     (t.kind = 3 ∧ t.text ≠ [] ∧ (L.drop t.place).take t.text.length = t.text ∧ t.place + t.text.length ≤ L.length ∧ places L r (t.place + t.text.length)) ∨
     (t.kind = 4 ∧ (∃ c, L[t.place]? = some c ∧ c.toNat = 34) ∧ places L r (t.place + t.text.length + 2)))

theorem at_drop {L : List UInt8} {p : Nat} {c : UInt8} {r : List UInt8} (h : L.drop p = c :: r) : L[p]? = some c ∧ p < L.length ∧ L.length = p + 1 + r.length := by
  have h1 : (L.drop p)[0]? = some c := by rw [h]; rfl
  rw [List.getElem?_drop] at h1
  have h2 := congrArg List.length h
  rw [List.length_drop, List.length_cons] at h2
  have h3 : p < L.length := by omega
  exact ⟨by simpa using h1, h3, by omega⟩
theorem tw_len (f : UInt8 → Bool) (r : List UInt8) : (r.takeWhile f).length ≤ r.length := by
  have := List.takeWhile_sublist (l := r) f
  exact this.length_le

theorem sp_places (L : List UInt8) : ∀ (n p : Nat) (acc l : List Tok), L.length ≤ p + n → p ≤ L.length → sp (L.drop p) p acc = .ok l → ∃ new, l = acc ++ new ∧ ∀ a, a ≤ p → places L new a := by
  intro n
  induction n with
  | zero =>
    intro p acc l hn hp h
    rw [List.drop_eq_nil_of_le (by omega), sp_nil] at h
    cases h
    exact ⟨[], by simp, fun a ha => Nat.le_trans ha hp⟩
  | succ n ih =>
    intro p acc l hn hp h
    cases hd : L.drop p with
    | nil =>
      rw [hd, sp_nil] at h
      cases h
      exact ⟨[], by simp, fun a ha => Nat.le_trans ha hp⟩
    | cons c r =>
      obtain ⟨hc, hlt, hlen⟩ := at_drop hd
      have hr := drop_cons hd
      have h0 := hd
      rw [hd] at h
      by_cases c0 : isAtom c = true
      · have e2 : L.drop (p + 1 + (r.takeWhile isAtom).length) = r.drop (r.takeWhile isAtom).length := by rw [← List.drop_drop, hr]
        have htl := tw_len isAtom r
        rw [sp_atom r p acc c0, ← e2] at h
        obtain ⟨new, h1, h2⟩ := ih _ _ _ (by omega) (by omega) h
        refine ⟨⟨3, p, c :: r.takeWhile isAtom⟩ :: new, by simp [h1], fun a ha => ⟨ha, hlt, .inr (.inr (.inl ⟨rfl, by simp, ?_, ?_, h2 _ ?_⟩))⟩⟩
        · show (L.drop p).take (c :: r.takeWhile isAtom).length = _
          rw [hd, List.length_cons, List.take_succ_cons, take_tw]
        · simp; omega
        · simp; omega
      have c0' := Bool.eq_false_iff.2 c0
      by_cases c1 : c.toNat = 34
      · rw [sp_quoted r p acc c1] at h
        split at h
        · cases h
        · rename_i t nx hq
          obtain ⟨n1, n2, n3, _⟩ := q_next _ _ _ _ _ _ _ (Nat.le_refl _) hq
          simp only [List.length_nil] at n3
          have e2 : L.drop nx = r.drop (nx - (p + 1)) := by rw [← hr, List.drop_drop]; congr 1; omega
          rw [← e2] at h
          obtain ⟨new, h1, h2⟩ := ih _ _ _ (by omega) (by omega) h
          exact ⟨⟨4, p, t⟩ :: new, by simp [h1], fun a ha => ⟨ha, hlt, .inr (.inr (.inr ⟨rfl, ⟨c, hc, c1⟩, h2 _ (by show p + t.length + 2 ≤ nx; omega)⟩))⟩⟩
      by_cases c2 : c.toNat = 59
      · have e2 : L.drop (p + 1 + (r.takeWhile notNl).length) = r.drop (r.takeWhile notNl).length := by rw [← List.drop_drop, hr]
        have htl := tw_len notNl r
        rw [sp_remark r p acc c2, ← e2] at h
        obtain ⟨new, h1, h2⟩ := ih _ _ _ (by omega) (by omega) h
        exact ⟨new, h1, fun a ha => h2 a (by omega)⟩
      by_cases c3 : c.toNat = 40
      · rw [sp_open r p acc c3, ← hr] at h
        obtain ⟨new, h1, h2⟩ := ih _ _ _ (by omega) (by omega) h
        exact ⟨⟨1, p, []⟩ :: new, by simp [h1], fun a ha => ⟨ha, hlt, .inl ⟨rfl, ⟨c, hc, c3⟩, h2 _ (Nat.le_refl _)⟩⟩⟩
      by_cases c4 : c.toNat = 41
      · rw [sp_close r p acc c4, ← hr] at h
        obtain ⟨new, h1, h2⟩ := ih _ _ _ (by omega) (by omega) h
        exact ⟨⟨2, p, []⟩ :: new, by simp [h1], fun a ha => ⟨ha, hlt, .inr (.inl ⟨rfl, ⟨c, hc, c4⟩, h2 _ (Nat.le_refl _)⟩)⟩⟩
      by_cases c5 : isParts c = true
      · rw [sp_parts r p acc c5, ← hr] at h
        obtain ⟨new, h1, h2⟩ := ih _ _ _ (by omega) (by omega) h
        exact ⟨new, h1, fun a ha => h2 a (by omega)⟩
      rw [sp_bad r p acc c0' c1 c2 c3 c4 (Bool.eq_false_iff.2 c5)] at h
      cases h
theorem split_places (L : List UInt8) (l : List Tok) (h : splitR L = .ok l) : places L l 0 ∧ L.length ≤ 8192 := by
  unfold splitR at h
  split at h
  · cases h
  · obtain ⟨new, h1, h2⟩ := sp_places L L.length 0 [] l (by omega) (Nat.zero_le _) (by simpa using h)
    rw [List.nil_append] at h1
    subst h1
    exact ⟨h2 0 (Nat.le_refl _), by omega⟩
/-- No more tokens than bytes. -/
theorem places_length (L : List UInt8) : ∀ (l : List Tok) (a : Nat), places L l a → l.length + a ≤ L.length
  | [], a, h => by simpa [places] using h
  | t :: r, a, h => by
    obtain ⟨h1, h2, h3⟩ := h
    rcases h3 with ⟨_, _, h⟩ | ⟨_, _, h⟩ | ⟨_, hne, _, _, h⟩ | ⟨_, _, h⟩
    · have := places_length L r _ h; simp; omega
    · have := places_length L r _ h; simp; omega
    · have := places_length L r _ h
      have := List.length_pos_iff.2 hne
      simp; omega
    · have := places_length L r _ h; simp; omega

/-- A refusal's number. -/
theorem sp_why : ∀ (n : Nat) (l : List UInt8) (p : Nat) (acc : List Tok) (y b : Nat), l.length ≤ n → sp l p acc = .error (y, b) → y = 3 ∨ y = 10 ∨ y = 12
  | _, [], _, _, _, _, _, h => by rw [sp_nil] at h; cases h
  | 0, _ :: _, _, _, _, _, hn, _ => by simp at hn
  | n + 1, c :: r, p, acc, y, b, hn, h => by
    simp only [List.length_cons] at hn
    by_cases c0 : isAtom c = true
    · rw [sp_atom r p acc c0] at h
      exact sp_why n _ _ _ _ _ (by simp; omega) h
    by_cases c1 : c.toNat = 34
    · rw [sp_quoted r p acc c1] at h
      split at h
      · rename_i hq
        cases h
        exact q_why _ _ _ _ _ _ _ (Nat.le_refl _) hq
      · exact sp_why n _ _ _ _ _ (by simp; omega) h
    by_cases c2 : c.toNat = 59
    · rw [sp_remark r p acc c2] at h
      exact sp_why n _ _ _ _ _ (by simp; omega) h
    by_cases c3 : c.toNat = 40
    · rw [sp_open r p acc c3] at h
      exact sp_why n _ _ _ _ _ (by omega) h
    by_cases c4 : c.toNat = 41
    · rw [sp_close r p acc c4] at h
      exact sp_why n _ _ _ _ _ (by omega) h
    by_cases c5 : isParts c = true
    · rw [sp_parts r p acc c5] at h
      exact sp_why n _ _ _ _ _ (by omega) h
    rw [sp_bad r p acc (Bool.eq_false_iff.2 c0) c1 c2 c3 c4 (Bool.eq_false_iff.2 c5)] at h
    cases h
    simp
theorem split_why (L : List UInt8) (y b : Nat) (h : splitR L = .error (y, b)) : y = 3 ∨ y = 10 ∨ y = 12 := by
  unfold splitR at h
  split at h
  · cases h; simp
  · exact sp_why _ _ _ _ _ _ (Nat.le_refl _) h
end Go.Proofs.YtfjppbpicmniaaaGreatDoor
