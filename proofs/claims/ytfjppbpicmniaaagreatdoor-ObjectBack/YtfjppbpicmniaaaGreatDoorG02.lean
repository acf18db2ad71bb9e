/-
  What is quoted is read as itself; a remark behind, and blanks ahead, change no token but its place. No program in it.
  And: What the chapter on brackets says, as functions over tokens: trees, their print, the stack that reads them. No program in it.
-/
import Derived.Test.YtfjppbpicmniaaaGreatDoorG01
namespace Go.Proofs.YtfjppbpicmniaaaGreatDoor

theorem hex_digit (n : Nat) (h : n < 16) : hexOf (hexSet.getD n 0) = some n := by
  have : ∀ a : Fin 16, hexOf (hexSet.getD a.val 0) = some a.val := by decide
  exact this ⟨n, h⟩
theorem byte_of (c : UInt8) : UInt8.ofNat (16 * (c.toNat / 16) + c.toNat % 16) = c := by
  rw [show 16 * (c.toNat / 16) + c.toNat % 16 = c.toNat from by omega]
  simp
theorem q_byte (c : UInt8) (Y : List UInt8) (p fr : Nat) (acc : List UInt8) : q (qByte c ++ Y) p fr acc = q Y (p + (qByte c).length) fr (acc ++ [c]) := by
  by_cases h1 : c.toNat = 34 ∨ c.toNat = 92
  · rw [show qByte c = [92, c] from by simp [qByte, h1]]
    simp only [List.cons_append, List.nil_append]
    rw [q_esc _ _ _ _ (show (92 : UInt8).toNat = 92 from rfl), show esc (c :: Y) = some (c, 2) from by simp [esc, h1]]
    rfl
  by_cases h2 : c.toNat = 10
  · rw [show qByte c = [92, 110] from by simp [qByte, h2]]
    simp only [List.cons_append, List.nil_append]
    have e : c = 10 := UInt8.toNat_inj.1 h2
    rw [q_esc _ _ _ _ (show (92 : UInt8).toNat = 92 from rfl), show esc (110 :: Y) = some (10, 2) from rfl, e]
    rfl
  by_cases h3 : isPlain c = true
  · rw [show qByte c = [c] from by simp [qByte, h1, h2, h3]]
    simp only [List.cons_append, List.nil_append]
    rw [q_plain _ _ _ _ (fun h => h1 (.inl h)) (fun h => h1 (.inr h)) h3]
    rfl
  · have h3' := Bool.eq_false_iff.2 h3
    have hc : c.toNat < 256 := c.toNat_lt
    have he : esc (120 :: hexSet.getD (c.toNat / 16) 0 :: hexSet.getD (c.toNat % 16) 0 :: Y) = some (c, 4) := by
      show (match hexOf (hexSet.getD (c.toNat / 16) 0), hexOf (hexSet.getD (c.toNat % 16) 0) with
        | some x, some y => some (UInt8.ofNat (16 * x + y), 4)
        | _, _ => none) = some (c, 4)
      rw [hex_digit _ (by omega), hex_digit _ (by omega)]
      simp only [byte_of]
    rw [show qByte c = [92, 120, hexSet.getD (c.toNat / 16) 0, hexSet.getD (c.toNat % 16) 0] from by simp [qByte, h1, h2, h3']]
    simp only [List.cons_append, List.nil_append]
    rw [q_esc _ _ _ _ (show (92 : UInt8).toNat = 92 from rfl), he]
    rfl
theorem q_quote (Y : List UInt8) (fr : Nat) : ∀ (b : List UInt8) (p : Nat) (acc : List UInt8), q (b.flatMap qByte ++ 34 :: Y) p fr acc = if 200 < (acc ++ b).length then .error (3, fr) else .ok (acc ++ b, p + (b.flatMap qByte).length + 1)
  | [], p, acc => by
    simp only [List.flatMap_nil, List.nil_append, List.append_nil, List.length_nil, Nat.add_zero]
    exact q_end Y p fr acc rfl
  | c :: r, p, acc => by
    rw [List.flatMap_cons, List.append_assoc, q_byte, q_quote Y fr r, List.append_assoc, List.singleton_append, Nat.add_assoc p, @List.length_append _ (qByte c)]
theorem quote_length (b : List UInt8) : (b.flatMap qByte).length ≤ 4 * b.length := by
  induction b with
  | nil => simp
  | cons c r ih =>
    have : (qByte c).length ≤ 4 := by
      unfold qByte
      split
      · simp
      · split
        · simp
        · split <;> simp
    rw [List.flatMap_cons, List.length_append, List.length_cons]
    omega
theorem sp_quote (b Y : List UInt8) (p : Nat) (acc : List Tok) (hb : b.length ≤ 200) : sp (quoteR b ++ Y) p acc = sp Y (p + (quoteR b).length) (acc ++ [⟨4, p, b⟩]) := by
  have e : quoteR b ++ Y = 34 :: (b.flatMap qByte ++ 34 :: Y) := by simp [quoteR]
  have e2 : (quoteR b).length = (b.flatMap qByte).length + 2 := by simp [quoteR]
  rw [e, sp_quoted _ _ _ rfl, q_quote, List.nil_append, if_neg (by omega)]
  simp only
  rw [show p + 1 + (b.flatMap qByte).length + 1 - (p + 1) = (b.flatMap qByte).length + 1 from by omega, e2, show p + 1 + (b.flatMap qByte).length + 1 = p + ((b.flatMap qByte).length + 2) from by omega]
  congr 1
  rw [show b.flatMap qByte ++ 34 :: Y = (b.flatMap qByte ++ [34]) ++ Y from by simp, show (b.flatMap qByte).length + 1 = (b.flatMap qByte ++ [34]).length from by simp]
  exact List.drop_left
theorem split_quote (b : List UInt8) (hb : b.length ≤ 200) : splitR (quoteR b) = .ok [⟨4, 0, b⟩] := by
  have h := quote_length b
  have e2 : (quoteR b).length = (b.flatMap qByte).length + 2 := by simp [quoteR]
  unfold splitR
  rw [if_neg (by omega)]
  have := sp_quote b [] 0 [] hb
  rw [List.append_nil] at this
  rw [this]
  rfl
theorem split_long_quote (b : List UInt8) (hb : 200 < b.length) (hb2 : b.length ≤ 2000) : splitR (quoteR b) = .error (3, 0) := by
  have h := quote_length b
  have e2 : (quoteR b).length = (b.flatMap qByte).length + 2 := by simp [quoteR]
  have e : quoteR b = 34 :: (b.flatMap qByte ++ 34 :: []) := by simp [quoteR]
  unfold splitR
  rw [if_neg (by omega), e, sp_quoted _ _ _ rfl, q_quote, List.nil_append, if_pos hb]
theorem split_around (b : List UInt8) (hb : b.length ≤ 200) : splitR ([32, 40] ++ quoteR b ++ [59, 32, 40, 10, 32, 41]) = .ok [⟨1, 1, []⟩, ⟨4, 2, b⟩, ⟨2, 2 + (quoteR b).length + 5, []⟩] := by
  have h := quote_length b
  have e2 : (quoteR b).length = (b.flatMap qByte).length + 2 := by simp [quoteR]
  unfold splitR
  rw [if_neg (by simp; omega), List.append_assoc]
  show sp (32 :: 40 :: (quoteR b ++ [59, 32, 40, 10, 32, 41])) 0 [] = _
  rw [sp_parts _ _ _ (by decide), sp_open _ _ _ (by decide), sp_quote b _ _ _ hb]
  generalize 0 + 1 + 1 + (quoteR b).length = x
  rfl

/-- What comes behind an end that neither an Atom nor a remark crosses. -/
theorem tw_tail (f : UInt8 → Bool) (d : UInt8) (T : List UInt8) (hd : f d = false) : ∀ (r : List UInt8), (r ++ d :: T).takeWhile f = r.takeWhile f
  | [] => by simp [hd]
  | c :: r => by
    by_cases h : f c = true
    · rw [List.cons_append, List.takeWhile_cons_of_pos h, List.takeWhile_cons_of_pos h, tw_tail f d T hd r]
    · rw [List.cons_append, List.takeWhile_cons_of_neg h, List.takeWhile_cons_of_neg h]
theorem drop_tail {r : List UInt8} {n : Nat} (T : List UInt8) (h : n ≤ r.length) : (r ++ T).drop n = r.drop n ++ T := by
  rw [List.drop_append_of_le_length h]
theorem esc_tail {r : List UInt8} {b : UInt8} {k : Nat} (T : List UInt8) (h : esc r = some (b, k)) : esc (r ++ T) = some (b, k) := by
  cases r with
  | nil => cases h
  | cons c r =>
    simp only [List.cons_append]
    unfold esc at h ⊢
    simp only at h ⊢
    split
    · rename_i h1
      rw [if_pos h1] at h
      exact h
    · rename_i h1
      rw [if_neg h1] at h
      split
      · rename_i h2
        rw [if_pos h2] at h
        exact h
      · rename_i h2
        rw [if_neg h2] at h
        split
        · rename_i h3
          rw [if_pos h3] at h
          match r, h with
          | a :: b' :: r', h => exact h
          | [], h => cases h
          | [_], h => cases h
        · rename_i h3
          rw [if_neg h3] at h
          cases h
theorem q_tail (T : List UInt8) (s : Nat) : ∀ (n : Nat) (l : List UInt8) (p fr : Nat) (acc t : List UInt8) (nx : Nat), l.length ≤ n → q l p fr acc = .ok (t, nx) → q (l ++ T) (p + s) (fr + s) acc = .ok (t, nx + s)
  | _, [], _, _, _, _, _, _, h => by rw [q_nil] at h; cases h
  | 0, _ :: _, _, _, _, _, _, hn, _ => by simp at hn
  | n + 1, c :: r, p, fr, acc, t, nx, hn, h => by
    simp only [List.length_cons] at hn
    rw [List.cons_append]
    by_cases h1 : c.toNat = 34
    · rw [q_end r p fr acc h1] at h
      rw [q_end _ _ _ _ h1]
      split at h
      · cases h
      · rename_i h200
        cases h
        rw [if_neg h200, Nat.add_right_comm]
    · by_cases h2 : c.toNat = 92
      · rw [q_esc r p fr acc h2] at h
        rw [q_esc _ _ _ _ h2]
        split at h
        · cases h
        · rename_i b k he
          have hs := esc_size he
          rw [esc_tail T he]
          simp only
          rw [drop_tail T (by omega), Nat.add_right_comm]
          exact q_tail T s n _ _ _ _ _ _ (by simp; omega) h
      · by_cases h3 : isPlain c = true
        · rw [q_plain r p fr acc h1 h2 h3] at h
          rw [q_plain _ _ _ _ h1 h2 h3, Nat.add_right_comm]
          exact q_tail T s n _ _ _ _ _ _ (by omega) h
        · rw [q_bad r p fr acc h1 h2 (Bool.eq_false_iff.2 h3)] at h
          cases h
/-- Tokens further to the right. -/
def shift (s : Nat) (l : List Tok) : List Tok := l.map fun t => ⟨t.kind, t.place + s, t.text⟩
theorem shift_cons (s : Nat) (t : Tok) (l : List Tok) : shift s (t :: l) = ⟨t.kind, t.place + s, t.text⟩ :: shift s l := rfl
theorem tw_all (f : UInt8 → Bool) : ∀ (l : List UInt8), (∀ c ∈ l, f c = true) → l.takeWhile f = l
  | [], _ => rfl
  | c :: r, h => by rw [List.takeWhile_cons_of_pos (h c (by simp)), tw_all f r (fun x hx => h x (by simp [hx]))]
theorem sp_clean (clean : List UInt8) (hc : ∀ c ∈ clean, notNl c = true) (p : Nat) (acc : List Tok) : sp (10 :: 59 :: clean) p acc = .ok acc := by
  rw [sp_parts _ _ _ (by decide), sp_remark _ _ _ (by decide)]
  have e : clean.takeWhile notNl = clean := tw_all notNl clean hc
  rw [e, List.drop_length]
  rfl
theorem sp_tail (clean : List UInt8) (hc : ∀ c ∈ clean, notNl c = true) (s : Nat) : ∀ (n : Nat) (l : List UInt8) (p : Nat) (acc acc' out : List Tok), l.length ≤ n → sp l p acc = .ok out → ∃ new, out = acc ++ new ∧ sp (l ++ 10 :: 59 :: clean) (p + s) acc' = .ok (acc' ++ shift s new) := by
  intro n
  induction n with
  | zero =>
    intro l p acc acc' out hn h
    have : l = [] := List.eq_nil_of_length_eq_zero (by omega)
    subst this
    rw [sp_nil] at h
    cases h
    exact ⟨[], by simp, by rw [List.nil_append, sp_clean clean hc]; simp [shift]⟩
  | succ n ih =>
    intro l p acc acc' out hn h
    cases l with
    | nil =>
      rw [sp_nil] at h
      cases h
      exact ⟨[], by simp, by rw [List.nil_append, sp_clean clean hc]; simp [shift]⟩
    | cons c r =>
      simp only [List.length_cons] at hn
      rw [List.cons_append]
      by_cases c0 : isAtom c = true
      · have htl := tw_len isAtom r
        rw [sp_atom r p acc c0] at h
        rw [sp_atom _ _ _ c0, tw_tail isAtom 10 (59 :: clean) (by decide), drop_tail _ htl, show p + s + 1 + (r.takeWhile isAtom).length = p + 1 + (r.takeWhile isAtom).length + s from by omega]
        obtain ⟨new, h1, h2⟩ := ih _ _ _ (acc' ++ [⟨3, p + s, c :: r.takeWhile isAtom⟩]) _ (by simp; omega) h
        exact ⟨⟨3, p, c :: r.takeWhile isAtom⟩ :: new, by simp [h1], by rw [h2, shift_cons]; simp⟩
      have c0' := Bool.eq_false_iff.2 c0
      by_cases c1 : c.toNat = 34
      · rw [sp_quoted r p acc c1] at h
        split at h
        · cases h
        · rename_i t nx hq
          obtain ⟨n1, n2, n3, _⟩ := q_next _ _ _ _ _ _ _ (Nat.le_refl _) hq
          have hq2 := q_tail (10 :: 59 :: clean) s _ _ _ _ _ _ _ (Nat.le_refl _) hq
          rw [sp_quoted _ _ _ c1, show p + s + 1 = p + 1 + s from by omega, hq2]
          simp only
          rw [show nx + s - (p + 1 + s) = nx - (p + 1) from by omega, drop_tail _ (by omega)]
          obtain ⟨new, h1, h2⟩ := ih _ _ _ (acc' ++ [⟨4, p + s, t⟩]) _ (by simp; omega) h
          exact ⟨⟨4, p, t⟩ :: new, by simp [h1], by rw [h2, shift_cons]; simp⟩
      by_cases c2 : c.toNat = 59
      · have htl := tw_len notNl r
        rw [sp_remark r p acc c2] at h
        rw [sp_remark _ _ _ c2, tw_tail notNl 10 (59 :: clean) (by decide), drop_tail _ htl, show p + s + 1 + (r.takeWhile notNl).length = p + 1 + (r.takeWhile notNl).length + s from by omega]
        exact ih _ _ _ acc' _ (by simp; omega) h
      by_cases c3 : c.toNat = 40
      · rw [sp_open r p acc c3] at h
        rw [sp_open _ _ _ c3, Nat.add_right_comm]
        obtain ⟨new, h1, h2⟩ := ih _ _ _ (acc' ++ [⟨1, p + s, []⟩]) _ (by omega) h
        exact ⟨⟨1, p, []⟩ :: new, by simp [h1], by rw [h2, shift_cons]; simp⟩
      by_cases c4 : c.toNat = 41
      · rw [sp_close r p acc c4] at h
        rw [sp_close _ _ _ c4, Nat.add_right_comm]
        obtain ⟨new, h1, h2⟩ := ih _ _ _ (acc' ++ [⟨2, p + s, []⟩]) _ (by omega) h
        exact ⟨⟨2, p, []⟩ :: new, by simp [h1], by rw [h2, shift_cons]; simp⟩
      by_cases c5 : isParts c = true
      · rw [sp_parts r p acc c5] at h
        rw [sp_parts _ _ _ c5, Nat.add_right_comm]
        exact ih _ _ _ acc' _ (by omega) h
      rw [sp_bad r p acc c0' c1 c2 c3 c4 (Bool.eq_false_iff.2 c5)] at h
      cases h
theorem sp_blanks : ∀ (B X : List UInt8) (p : Nat) (acc : List Tok), (∀ c ∈ B, isParts c = true) → sp (B ++ X) p acc = sp X (p + B.length) acc
  | [], X, p, acc, _ => rfl
  | c :: B, X, p, acc, h => by
    rw [List.cons_append, sp_parts _ _ _ (h c (by simp)), sp_blanks B X (p + 1) acc (fun c hc => h c (by simp [hc])), List.length_cons, Nat.add_assoc, Nat.add_comm 1]
/-- A remark at the end, and blanks ahead. -/
theorem split_remarks (L clean B : List UInt8) (l : List Tok) (hc : ∀ c ∈ clean, notNl c = true) (hB : ∀ c ∈ B, isParts c = true) (hlen : B.length + L.length + 2 + clean.length ≤ 8192) (h : splitR L = .ok l) :
    splitR (B ++ L ++ [10, 59] ++ clean) = .ok (shift B.length l) := by
  unfold splitR at h ⊢
  rw [if_neg (by simp; omega)]
  rw [if_neg (by omega)] at h
  obtain ⟨new, h1, h2⟩ := sp_tail clean hc B.length L.length L 0 [] [] l (Nat.le_refl _) h
  rw [List.nil_append] at h1 h2
  subst h1
  rw [show B ++ L ++ [10, 59] ++ clean = B ++ (L ++ 10 :: 59 :: clean) from by simp, sp_blanks B _ 0 [] hB]
  exact h2
end Go.Proofs.YtfjppbpicmniaaaGreatDoor

namespace Go.Proofs.YtfjppbpicmniaaaGreatDoor

/-- A tree; the token that shut it is kept beside it (no program sees it). -/
structure Tr where
  kind : Nat
  place : Nat
  text : List UInt8
  kids : List Tr
  shut : Tok

theorem tr_ind {P : Tr → Prop} (h : ∀ t : Tr, (∀ k ∈ t.kids, P k) → P t) (t : Tr) : P t := by
  have key : ∀ (n : Nat) (t : Tr), SizeOf.sizeOf t ≤ n → P t := by
    intro n
    induction n with
    | zero =>
      rintro ⟨_, _, _, _, _⟩ hs
      simp at hs
    | succ n ih =>
      rintro ⟨k, p, x, l, e⟩ hs
      refine h _ (fun t ht => ih t ?_)
      have := List.sizeOf_lt_of_mem ht
      simp at hs this
      omega
  exact key _ t (Nat.le_refl _)
theorem tr_kid_lt {t k : Tr} (h : k ∈ t.kids) : SizeOf.sizeOf k < SizeOf.sizeOf t := by
  obtain ⟨_, _, _, l, _⟩ := t
  have := List.sizeOf_lt_of_mem h
  simp at this ⊢
  omega

/-- Texts parted by one blank; the first one too, if something came ahead. -/
def seps : Bool → List (List UInt8) → List UInt8
  | _, [] => []
  | b, x :: r => (if b then [32] else []) ++ x ++ seps true r
/-- Print. -/
def pr : Tr → List UInt8
  | ⟨k, _, x, l, _⟩ => if k = 3 then x else if k = 4 then quoteR x else if k = 1 then 40 :: (seps false (l.map pr) ++ [41]) else []
theorem pr_eq (t : Tr) : pr t = if t.kind = 3 then t.text else if t.kind = 4 then quoteR t.text else if t.kind = 1 then 40 :: (seps false (t.kids.map pr) ++ [41]) else [] := by
  obtain ⟨k, p, x, l, e⟩ := t
  rw [pr]
/-- The tokens of a tree. -/
def toks : Tr → List Tok
  | ⟨k, p, x, l, e⟩ => if k = 1 then ⟨1, p, x⟩ :: ((l.map toks).flatten ++ [e]) else [⟨k, p, x⟩]
theorem toks_eq (t : Tr) : toks t = if t.kind = 1 then ⟨1, t.place, t.text⟩ :: ((t.kids.map toks).flatten ++ [t.shut]) else [⟨t.kind, t.place, t.text⟩] := by
  obtain ⟨k, p, x, l, e⟩ := t
  rw [toks]
/-- Brackets that are shut by a Close; other trees without Kids. -/
def Right : Tr → Prop
  | ⟨k, p, x, l, e⟩ => (k = 1 ∧ e.kind = 2 ∧ ∀ t ∈ l, Right t) ∨ (k ≠ 1 ∧ k ≠ 2 ∧ l = [] ∧ e = ⟨k, p, x⟩)
theorem Right_eq (t : Tr) : Right t = ((t.kind = 1 ∧ t.shut.kind = 2 ∧ ∀ k ∈ t.kids, Right k) ∨ (t.kind ≠ 1 ∧ t.kind ≠ 2 ∧ t.kids = [] ∧ t.shut = ⟨t.kind, t.place, t.text⟩)) := by
  obtain ⟨k, p, x, l, e⟩ := t
  rw [Right]
/-- At most d brackets open within each other. -/
def Fit : Nat → Tr → Prop
  | 0, t => t.kind ≠ 1
  | d + 1, t => t.kind = 1 → ∀ k ∈ t.kids, Fit d k
/-- The tree without its places. -/
def strip : Tr → Tr
  | ⟨k, _, x, l, _⟩ => ⟨k, 0, x, l.map strip, ⟨0, 0, []⟩⟩
theorem strip_eq (t : Tr) : strip t = ⟨t.kind, 0, t.text, t.kids.map strip, ⟨0, 0, []⟩⟩ := by
  obtain ⟨k, p, x, l, e⟩ := t
  rw [strip]
theorem strip_parts {t u : Tr} (h : strip t = strip u) : t.kind = u.kind ∧ t.text = u.text ∧ t.kids.map strip = u.kids.map strip := by
  rw [strip_eq, strip_eq] at h
  simp only [Tr.mk.injEq] at h
  exact ⟨h.1, h.2.2.1, h.2.2.2.1⟩
theorem map_strip_get : ∀ {l m : List Tr}, l.map strip = m.map strip → l.length = m.length ∧ ∀ i (h : i < l.length) (h' : i < m.length), strip l[i] = strip m[i]
  | [], [], _ => ⟨rfl, fun i h => by simp at h⟩
  | [], _ :: _, h => by simp at h
  | _ :: _, [], h => by simp at h
  | a :: l, b :: m, h => by
    simp only [List.map_cons, List.cons.injEq] at h
    obtain ⟨h1, h2⟩ := map_strip_get h.2
    refine ⟨by simp [h1], fun i hi hi' => ?_⟩
    cases i with
    | zero => exact h.1
    | succ i => exact h2 i (by simpa using hi) (by simpa using hi')
theorem pr_strip (t : Tr) : ∀ u, strip t = strip u → pr t = pr u := by
  induction t using tr_ind with
  | h t ih =>
    intro u h
    obtain ⟨h1, h2, h3⟩ := strip_parts h
    have key : ∀ (l m : List Tr), (∀ k ∈ l, ∀ u, strip k = strip u → pr k = pr u) → l.map strip = m.map strip → l.map pr = m.map pr := by
      intro l
      induction l with
      | nil => intro m _ h; cases m with | nil => rfl | cons => simp at h
      | cons a l ihl =>
        intro m hk h
        cases m with
        | nil => simp at h
        | cons b m =>
          simp only [List.map_cons, List.cons.injEq] at h
          rw [List.map_cons, List.map_cons, hk a (by simp) b h.1, ihl m (fun k hk' => hk k (by simp [hk'])) h.2]
    rw [pr_eq t, pr_eq u, h1, h2, key _ _ ih h3]

/-! The reading, by a stack: the top first. -/
def addKid (t k : Tr) : Tr := ⟨t.kind, t.place, t.text, t.kids ++ [k], t.shut⟩
def shutBy (t : Tr) (e : Tok) : Tr := ⟨t.kind, t.place, t.text, t.kids, e⟩
def leaf (t : Tok) : Tr := ⟨t.kind, t.place, t.text, [], t⟩
def root : Tr := ⟨0, 0, [], [], ⟨0, 0, []⟩⟩
/-- Why a token may not come next (0: it may). -/
def refu (ts : List Tr) (t : Tok) : Nat :=
  if t.kind = 1 ∧ ts.length = 41 then 14 else if t.kind = 2 ∧ ts.length = 1 then 12 else if ts.length = 1 ∧ (ts.getLast?.map (fun x => x.kids.length)).getD 0 ≠ 0 then 11 else 0
/-- The stack with a token put to it. -/
def put : List Tr → Tok → List Tr
  | [], _ => []
  | x :: r, t => if t.kind = 1 then leaf t :: x :: r else if t.kind = 2 then (match r with | [] => [] | y :: r' => addKid y (shutBy x t) :: r') else addKid x (leaf t) :: r
def run (n : Nat) : List Tr → List Tok → Except (Nat × Nat) Tr
  | ts, [] => if 1 < ts.length then .error (10, n) else match ts with | [] => .error (0, 0) | b :: _ => match b.kids with | [] => .error (0, 0) | k :: _ => .ok k
  | ts, t :: r => if refu ts t = 0 then run n (put ts t) r else .error (refu ts t, t.place)
/-- Parse. -/
def parseR (l : List UInt8) : Except (Nat × Nat) Tr :=
  match splitR l with
  | .error (y, b) => .error (y, b)
  | .ok ts => if ts = [] then .error (12, l.length) else run l.length [root] ts

theorem refu_open {ts : List Tr} {t : Tok} (h : refu ts t = 0) (h1 : ts.length = 1) : ∃ x, ts = [x] ∧ x.kids = [] ∧ t.kind ≠ 2 := by
  obtain ⟨x, rfl⟩ := List.length_eq_one_iff.1 h1
  unfold refu at h
  split at h
  · cases h
  · split at h
    · cases h
    · split at h
      · cases h
      · rename_i a b c
        refine ⟨x, rfl, ?_, fun e => b ⟨e, rfl⟩⟩
        simp at c
        exact c

/-- What a stack has taken in. -/
def took : List Tr → List Tok
  | [] => []
  | [b] => (b.kids.map toks).flatten
  | x :: r => took r ++ ⟨1, x.place, x.text⟩ :: (x.kids.map toks).flatten
theorem took_cons (x y : Tr) (r : List Tr) : took (x :: y :: r) = took (y :: r) ++ ⟨1, x.place, x.text⟩ :: (x.kids.map toks).flatten := rfl
theorem took_add (x : Tr) (r : List Tr) (k : Tr) : took (addKid x k :: r) = took (x :: r) ++ toks k := by
  cases r with
  | nil => simp [took, addKid]
  | cons y r => simp [took, addKid]
/-- What holds of a stack: all but the lowest are open brackets. -/
def Stk : List Tr → Prop
  | [] => False
  | [b] => b.kids.length ≤ 1 ∧ ∀ k ∈ b.kids, Right k
  | [x, b] => x.kind = 1 ∧ (∀ k ∈ x.kids, Right k) ∧ b.kids = []
  | x :: r => x.kind = 1 ∧ (∀ k ∈ x.kids, Right k) ∧ Stk r
theorem stk_kids {x : Tr} {r : List Tr} (h : Stk (x :: r)) : ∀ k ∈ x.kids, Right k := by
  match r, h with
  | [], h => exact h.2
  | [_], h => exact h.2.1
  | _ :: _ :: _, h => exact h.2.1
theorem stk_put {ts : List Tr} {t : Tok} (h : Stk ts) (hr : refu ts t = 0) (hk : t.kind ≠ 0) : Stk (put ts t) ∧ took (put ts t) = took ts ++ [t] ∧ (put ts t).length ≤ ts.length + 1 ∧ ts.length ≤ (put ts t).length + 1 := by
  match ts, h with
  | [], h => exact h.elim
  | x :: r, h =>
    unfold put
    by_cases k1 : t.kind = 1
    · simp only [k1, if_true]
      refine ⟨?_, ?_, by simp, by simp⟩
      · cases r with
        | nil =>
          obtain ⟨x', hx, hx2, _⟩ := refu_open hr rfl
          cases hx
          exact ⟨k1, by simp [leaf], hx2⟩
        | cons y r => exact ⟨k1, by simp [leaf], h⟩
      · rw [took_cons]
        obtain ⟨a, b, c⟩ := t
        simp at k1
        simp [leaf, k1]
    · simp only [k1, if_false]
      by_cases k2 : t.kind = 2
      · simp only [k2, if_true]
        cases r with
        | nil =>
          obtain ⟨_, _, _, h3⟩ := refu_open hr rfl
          exact absurd k2 h3
        | cons y r =>
          simp only
          have hx : x.kind = 1 ∧ (∀ k ∈ x.kids, Right k) := by
            cases r with
            | nil => exact ⟨h.1, h.2.1⟩
            | cons z r => exact ⟨h.1, h.2.1⟩
          have hR : Right (shutBy x t) := by
            rw [Right_eq]
            exact .inl ⟨hx.1, k2, hx.2⟩
          refine ⟨?_, ?_, by simp, by simp⟩
          · cases r with
            | nil =>
              have hb : y.kids = [] := h.2.2
              refine ⟨by simp [addKid, hb], ?_⟩
              intro k hk
              simp [addKid, hb] at hk
              subst hk
              exact hR
            | cons z r =>
              have hy : Stk (y :: z :: r) := h.2.2
              have key : ∀ k ∈ (addKid y (shutBy x t)).kids, Right k := by
                intro k hk
                simp [addKid] at hk
                rcases hk with hk | hk
                · exact stk_kids hy k hk
                · subst hk; exact hR
              cases r with
              | nil => exact ⟨hy.1, key, hy.2.2⟩
              | cons z' r => exact ⟨hy.1, key, hy.2.2⟩
          · rw [took_add, took_cons, toks_eq]
            simp [shutBy, hx.1]
      · simp only [k2, if_false]
        have hR : Right (leaf t) := by
          rw [Right_eq]
          exact .inr ⟨k1, k2, rfl, rfl⟩
        have key : ∀ k ∈ (addKid x (leaf t)).kids, Right k := by
          intro k hk
          simp [addKid] at hk
          rcases hk with hk | hk
          · exact stk_kids h k hk
          · subst hk; exact hR
        refine ⟨?_, ?_, by simp, by simp⟩
        · cases r with
          | nil =>
            obtain ⟨x', hx, hx2, _⟩ := refu_open hr rfl
            cases hx
            exact ⟨by simp [addKid, hx2], key⟩
          | cons y r =>
            cases r with
            | nil => exact ⟨h.1, key, h.2.2⟩
            | cons z r => exact ⟨h.1, key, h.2.2⟩
        · rw [took_add, toks_eq]
          simp [leaf, k1]
/-- What is read is spelled by its tokens. -/
theorem run_toks (n : Nat) : ∀ (l : List Tok) (ts : List Tr) (t : Tr), Stk ts → (∀ k ∈ l, k.kind ≠ 0) → run n ts l = .ok t → Right t ∧ toks t = took ts ++ l
  | [], ts, t, hs, _, h => by
    cases ts with
    | nil => exact hs.elim
    | cons b r =>
      unfold run at h
      split at h
      · cases h
      · rename_i h1
        have hr : r = [] := List.eq_nil_of_length_eq_zero (by simp only [List.length_cons] at h1; omega)
        subst hr
        simp only at h
        cases hk : b.kids with
        | nil => rw [hk] at h; cases h
        | cons k r =>
          rw [hk] at h
          cases h
          have : r = [] := List.eq_nil_of_length_eq_zero (by have := hs.1; rw [hk] at this; simp only [List.length_cons] at this; omega)
          subst this
          exact ⟨hs.2 t (by simp [hk]), by simp [took, hk]⟩
  | a :: l, ts, t, hs, hk, h => by
    unfold run at h
    split at h
    · rename_i hr
      obtain ⟨h1, h2, _⟩ := stk_put hs hr (hk a (by simp))
      obtain ⟨h3, h4⟩ := run_toks n l _ t h1 (fun k hk' => hk k (by simp [hk'])) h
      exact ⟨h3, by rw [h4, h2]; simp⟩
    · cases h
theorem stk_root : Stk [root] := ⟨by simp [root], by simp [root]⟩
theorem took_root : took [root] = [] := rfl

theorem refu_mid {x : Tr} {ts : List Tr} {t : Tok} (h1 : t.kind = 1 → ts.length < 40) (h2 : ts = [] → x.kids = []) (h3 : ts = [] → t.kind ≠ 2) (h4 : ts.length ≤ 40) : refu (x :: ts) t = 0 := by
  unfold refu
  rw [if_neg (fun h => by have := h1 h.1; simp at h; omega), if_neg (fun h => by
    have : ts = [] := List.eq_nil_of_length_eq_zero (by simpa using h.2)
    exact h3 this h.1), if_neg (fun h => by
    have e : ts = [] := List.eq_nil_of_length_eq_zero (by simpa using h.1)
    subst e
    simp [h2 rfl] at h)]
/-- A tree's tokens are taken in as the tree. -/
theorem run_fit (n : Nat) (t : Tr) : ∀ (d : Nat) (x : Tr) (ts : List Tr) (rest : List Tok), Right t → Fit d t → ts.length + d ≤ 40 → (ts = [] → x.kids = []) → run n (x :: ts) (toks t ++ rest) = run n (addKid x t :: ts) rest := by
  induction t using tr_ind with
  | h t ih =>
    intro d x ts rest hR hF hd hx
    have hR' := hR
    rw [Right_eq] at hR
    rcases hR with ⟨k1, ks, kk⟩ | ⟨k1, k2, kk, ke⟩
    · cases d with
      | zero => exact absurd k1 hF
      | succ d =>
        have hF2 := hF k1
        have key : ∀ (ks : List Tr) (y : Tr), (∀ k ∈ ks, k ∈ t.kids) → run n (y :: x :: ts) ((ks.map toks).flatten ++ ([t.shut] ++ rest)) = run n (⟨y.kind, y.place, y.text, y.kids ++ ks, y.shut⟩ :: x :: ts) ([t.shut] ++ rest) := by
          intro ks
          induction ks with
          | nil => intro y _; rw [List.map_nil, List.flatten_nil, List.nil_append, List.append_nil]; cases y; rfl
          | cons k ks ihk =>
            intro y hks
            rw [List.map_cons, List.flatten_cons, List.append_assoc, ih k (hks k (by simp)) d y (x :: ts) _ (kk k (hks k (by simp))) (hF2 k (hks k (by simp))) (by simp; omega) (by simp), ihk _ (fun k' hk' => hks k' (by simp [hk']))]
            simp [addKid]
        rw [toks_eq, if_pos k1, List.cons_append]
        rw [run, if_pos (refu_mid (fun _ => by omega) hx (fun _ => by simp) (by omega)), List.append_assoc]
        have e : put (x :: ts) ⟨1, t.place, t.text⟩ = leaf ⟨1, t.place, t.text⟩ :: x :: ts := rfl
        rw [e, key t.kids _ (fun _ h => h)]
        simp only [List.singleton_append]
        rw [run, if_pos (refu_mid (fun h => by rw [ks] at h; cases h) (by simp) (by simp) (by simp; omega))]
        congr 1
        simp only [put, ks]
        obtain ⟨a, b, c, d', e'⟩ := t
        simp at k1
        simp [shutBy, leaf, k1]
    · rw [toks_eq, if_neg k1]
      simp only [List.singleton_append]
      rw [run, if_pos (refu_mid (fun h => absurd h k1) hx (fun _ => k2) (by omega))]
      congr 1
      simp only [put, k1, k2, if_false]
      obtain ⟨a, b, c, d', e'⟩ := t
      simp only at kk ke
      subst kk
      subst ke
      rfl
end Go.Proofs.YtfjppbpicmniaaaGreatDoor
