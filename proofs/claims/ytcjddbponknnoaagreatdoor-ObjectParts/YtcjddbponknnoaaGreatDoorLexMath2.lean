/-
  What is quoted is read as itself; a remark behind, and blanks ahead, change no token but its place. No program in it.
-/
import Derived.Test.YtcjddbponknnoaaGreatDoorLexMath
namespace Go.Proofs.YtcjddbponknnoaaGreatDoor

theorem hex_digit (n : Nat) (h : n < 16) : hexOf (hexSet.getD n 0) = some n := by
  have : ∀ a : Fin 16, hexOf (hexSet.getD a.val 0) = some a.val := by decide
  exact this ⟨n, h⟩
theorem byte_of (c : UInt8) : UInt8.ofNat (16 * (c.toNat / 16) + c.toNat % 16) = c := by
  rw [show 16 * (c.toNat / 16) + c.toNat % 16 = c.toNat from by omega]
  simp
theorem q_byte (c : UInt8) (Y : List UInt8) (p fr : Nat) (acc : List UInt8) : q (qByte c ++ Y) p fr acc = q Y (p + (qByte c).length) fr (acc ++ [c]) := by
  by_cases h1 : c.toNat = 34 ∨ c.toNat = 92
  · rw [show qByte c = [92, c] from by simp [qByte, h1]]
    simp only [List.cons_append, List.nil_append]
    rw [q_esc _ _ _ _ (show (92 : UInt8).toNat = 92 from rfl), show esc (c :: Y) = some (c, 2) from by simp [esc, h1]]
    rfl
  by_cases h2 : c.toNat = 10
  · rw [show qByte c = [92, 110] from by simp [qByte, h2]]
    simp only [List.cons_append, List.nil_append]
    have e : c = 10 := UInt8.toNat_inj.1 h2
    rw [q_esc _ _ _ _ (show (92 : UInt8).toNat = 92 from rfl), show esc (110 :: Y) = some (10, 2) from rfl, e]
    rfl
  by_cases h3 : isPlain c = true
  · rw [show qByte c = [c] from by simp [qByte, h1, h2, h3]]
    simp only [List.cons_append, List.nil_append]
    rw [q_plain _ _ _ _ (fun h => h1 (.inl h)) (fun h => h1 (.inr h)) h3]
    rfl
  · have h3' := Bool.eq_false_iff.2 h3
    have hc : c.toNat < 256 := c.toNat_lt
    have he : esc (120 :: hexSet.getD (c.toNat / 16) 0 :: hexSet.getD (c.toNat % 16) 0 :: Y) = some (c, 4) := by
      show (match hexOf (hexSet.getD (c.toNat / 16) 0), hexOf (hexSet.getD (c.toNat % 16) 0) with
        | some x, some y => some (UInt8.ofNat (16 * x + y), 4)
        | _, _ => none) = some (c, 4)
      rw [hex_digit _ (by omega), hex_digit _ (by omega)]
      simp only [byte_of]
    rw [show qByte c = [92, 120, hexSet.getD (c.toNat / 16) 0, hexSet.getD (c.toNat % 16) 0] from by simp [qByte, h1, h2, h3']]
    simp only [List.cons_append, List.nil_append]
    rw [q_esc _ _ _ _ (show (92 : UInt8).toNat = 92 from rfl), he]
    rfl
theorem q_quote (Y : List UInt8) (fr : Nat) : ∀ (b : List UInt8) (p : Nat) (acc : List UInt8), q (b.flatMap qByte ++ 34 :: Y) p fr acc = if 200 < (acc ++ b).length then .error (3, fr) else .ok (acc ++ b, p + (b.flatMap qByte).length + 1)
  | [], p, acc => by
    simp only [List.flatMap_nil, List.nil_append, List.append_nil, List.length_nil, Nat.add_zero]
    exact q_end Y p fr acc rfl
  | c :: r, p, acc => by
    rw [List.flatMap_cons, List.append_assoc, q_byte, q_quote Y fr r, List.append_assoc, List.singleton_append, Nat.add_assoc p, @List.length_append _ (qByte c)]
theorem quote_length (b : List UInt8) : (b.flatMap qByte).length ≤ 4 * b.length := by
  induction b with
  | nil => simp
  | cons c r ih =>
    have : (qByte c).length ≤ 4 := by
      unfold qByte
      split
      · simp
      · split
        · simp
        · split <;> simp
    rw [List.flatMap_cons, List.length_append, List.length_cons]
    omega
theorem sp_quote (b Y : List UInt8) (p : Nat) (acc : List Tok) (hb : b.length ≤ 200) : sp (quoteR b ++ Y) p acc = sp Y (p + (quoteR b).length) (acc ++ [⟨4, p, b⟩]) := by
  have e : quoteR b ++ Y = 34 :: (b.flatMap qByte ++ 34 :: Y) := by simp [quoteR]
  have e2 : (quoteR b).length = (b.flatMap qByte).length + 2 := by simp [quoteR]
  rw [e, sp_quoted _ _ _ rfl, q_quote, List.nil_append, if_neg (by omega)]
  simp only
  rw [show p + 1 + (b.flatMap qByte).length + 1 - (p + 1) = (b.flatMap qByte).length + 1 from by omega, e2, show p + 1 + (b.flatMap qByte).length + 1 = p + ((b.flatMap qByte).length + 2) from by omega]
  congr 1
  rw [show b.flatMap qByte ++ 34 :: Y = (b.flatMap qByte ++ [34]) ++ Y from by simp, show (b.flatMap qByte).length + 1 = (b.flatMap qByte ++ [34]).length from by simp]
  exact List.drop_left
theorem split_quote (b : List UInt8) (hb : b.length ≤ 200) : splitR (quoteR b) = .ok [⟨4, 0, b⟩] := by
  have h := quote_length b
  have e2 : (quoteR b).length = (b.flatMap qByte).length + 2 := by simp [quoteR]
  unfold splitR
  rw [if_neg (by omega)]
  have := sp_quote b [] 0 [] hb
  rw [List.append_nil] at this
  rw [this]
  rfl
theorem split_long_quote (b : List UInt8) (hb : 200 < b.length) (hb2 : b.length ≤ 2000) : splitR (quoteR b) = .error (3, 0) := by
  have h := quote_length b
  have e2 : (quoteR b).length = (b.flatMap qByte).length + 2 := by simp [quoteR]
  have e : quoteR b = 34 :: (b.flatMap qByte ++ 34 :: []) := by simp [quoteR]
  unfold splitR
  rw [if_neg (by omega), e, sp_quoted _ _ _ rfl, q_quote, List.nil_append, if_pos hb]
theorem split_around (b : List UInt8) (hb : b.length ≤ 200) : splitR ([32, 40] ++ quoteR b ++ [59, 32, 40, 10, 32, 41]) = .ok [⟨1, 1, []⟩, ⟨4, 2, b⟩, ⟨2, 2 + (quoteR b).length + 5, []⟩] := by
  have h := quote_length b
  have e2 : (quoteR b).length = (b.flatMap qByte).length + 2 := by simp [quoteR]
  unfold splitR
  rw [if_neg (by simp; omega), List.append_assoc]
  show sp (32 :: 40 :: (quoteR b ++ [59, 32, 40, 10, 32, 41])) 0 [] = _
  rw [sp_parts _ _ _ (by decide), sp_open _ _ _ (by decide), sp_quote b _ _ _ hb]
  generalize 0 + 1 + 1 + (quoteR b).length = x
  rfl

/-- What comes behind an end that neither an Atom nor a remark crosses. -/
theorem tw_tail (f : UInt8 → Bool) (d : UInt8) (T : List UInt8) (hd : f d = false) : ∀ (r : List UInt8), (r ++ d :: T).takeWhile f = r.takeWhile f
  | [] => by simp [hd]
  | c :: r => by
    by_cases h : f c = true
    · rw [List.cons_append, List.takeWhile_cons_of_pos h, List.takeWhile_cons_of_pos h, tw_tail f d T hd r]
    · rw [List.cons_append, List.takeWhile_cons_of_neg h, List.takeWhile_cons_of_neg h]
theorem drop_tail {r : List UInt8} {n : Nat} (T : List UInt8) (h : n ≤ r.length) : (r ++ T).drop n = r.drop n ++ T := by
  rw [List.drop_append_of_le_length h]
theorem esc_tail {r : List UInt8} {b : UInt8} {k : Nat} (T : List UInt8) (h : esc r = some (b, k)) : esc (r ++ T) = some (b, k) := by
  cases r with
  | nil => cases h
  | cons c r =>
    simp only [List.cons_append]
    unfold esc at h ⊢
    simp only at h ⊢
    split
    · rename_i h1
      rw [if_pos h1] at h
      exact h
    · rename_i h1
      rw [if_neg h1] at h
      split
      · rename_i h2
        rw [if_pos h2] at h
        exact h
      · rename_i h2
        rw [if_neg h2] at h
        split
        · rename_i h3
          rw [if_pos h3] at h
          match r, h with
          | a :: b' :: r', h => exact h
          | [], h => cases h
          | [_], h => cases h
        · rename_i h3
          rw [if_neg h3] at h
          cases h
theorem q_tail (T : List UInt8) (s : Nat) : ∀ (n : Nat) (l : List UInt8) (p fr : Nat) (acc t : List UInt8) (nx : Nat), l.length ≤ n → q l p fr acc = .ok (t, nx) → q (l ++ T) (p + s) (fr + s) acc = .ok (t, nx + s)
  | _, [], _, _, _, _, _, _, h => by rw [q_nil] at h; cases h
  | 0, _ :: _, _, _, _, _, _, hn, _ => by simp at hn
  | n + 1, c :: r, p, fr, acc, t, nx, hn, h => by
    simp only [List.length_cons] at hn
    rw [List.cons_append]
    by_cases h1 : c.toNat = 34
    · rw [q_end r p fr acc h1] at h
      rw [q_end _ _ _ _ h1]
      split at h
      · cases h
      · rename_i h200
        cases h
        rw [if_neg h200, Nat.add_right_comm]
    · by_cases h2 : c.toNat = 92
      · rw [q_esc r p fr acc h2] at h
        rw [q_esc _ _ _ _ h2]
        split at h
        · cases h
        · rename_i b k he
          have hs := esc_size he
          rw [esc_tail T he]
          simp only
          rw [drop_tail T (by omega), Nat.add_right_comm]
          exact q_tail T s n _ _ _ _ _ _ (by simp; omega) h
      · by_cases h3 : isPlain c = true
        · rw [q_plain r p fr acc h1 h2 h3] at h
          rw [q_plain _ _ _ _ h1 h2 h3, Nat.add_right_comm]
          exact q_tail T s n _ _ _ _ _ _ (by omega) h
        · rw [q_bad r p fr acc h1 h2 (Bool.eq_false_iff.2 h3)] at h
          cases h
/-- Tokens further to the right. -/
def shift (s : Nat) (l : List Tok) : List Tok := l.map fun t => ⟨t.kind, t.place + s, t.text⟩
theorem shift_cons (s : Nat) (t : Tok) (l : List Tok) : shift s (t :: l) = ⟨t.kind, t.place + s, t.text⟩ :: shift s l := rfl
theorem tw_all (f : UInt8 → Bool) : ∀ (l : List UInt8), (∀ c ∈ l, f c = true) → l.takeWhile f = l
  | [], _ => rfl
  | c :: r, h => by rw [List.takeWhile_cons_of_pos (h c (by simp)), tw_all f r (fun x hx => h x (by simp [hx]))]
theorem sp_clean (clean : List UInt8) (hc : ∀ c ∈ clean, notNl c = true) (p : Nat) (acc : List Tok) : sp (10 :: 59 :: clean) p acc = .ok acc := by
  rw [sp_parts _ _ _ (by decide), sp_remark _ _ _ (by decide)]
  have e : clean.takeWhile notNl = clean := tw_all notNl clean hc
  rw [e, List.drop_length]
  rfl
theorem sp_tail (clean : List UInt8) (hc : ∀ c ∈ clean, notNl c = true) (s : Nat) : ∀ (n : Nat) (l : List UInt8) (p : Nat) (acc acc' out : List Tok), l.length ≤ n → sp l p acc = .ok out → ∃ new, out = acc ++ new ∧ sp (l ++ 10 :: 59 :: clean) (p + s) acc' = .ok (acc' ++ shift s new) := by
  intro n
  induction n with
  | zero =>
    intro l p acc acc' out hn h
    have : l = [] := List.eq_nil_of_length_eq_zero (by omega)
    subst this
    rw [sp_nil] at h
    cases h
    exact ⟨[], by simp, by rw [List.nil_append, sp_clean clean hc]; simp [shift]⟩
  | succ n ih =>
    intro l p acc acc' out hn h
    cases l with
    | nil =>
      rw [sp_nil] at h
      cases h
      exact ⟨[], by simp, by rw [List.nil_append, sp_clean clean hc]; simp [shift]⟩
    | cons c r =>
      simp only [List.length_cons] at hn
      rw [List.cons_append]
      by_cases c0 : isAtom c = true
      · have htl := tw_len isAtom r
        rw [sp_atom r p acc c0] at h
        rw [sp_atom _ _ _ c0, tw_tail isAtom 10 (59 :: clean) (by decide), drop_tail _ htl, show p + s + 1 + (r.takeWhile isAtom).length = p + 1 + (r.takeWhile isAtom).length + s from by omega]
        obtain ⟨new, h1, h2⟩ := ih _ _ _ (acc' ++ [⟨3, p + s, c :: r.takeWhile isAtom⟩]) _ (by simp; omega) h
        exact ⟨⟨3, p, c :: r.takeWhile isAtom⟩ :: new, by simp [h1], by rw [h2, shift_cons]; simp⟩
      have c0' := Bool.eq_false_iff.2 c0
      by_cases c1 : c.toNat = 34
      · rw [sp_quoted r p acc c1] at h
        split at h
        · cases h
        · rename_i t nx hq
          obtain ⟨n1, n2, n3, _⟩ := q_next _ _ _ _ _ _ _ (Nat.le_refl _) hq
          have hq2 := q_tail (10 :: 59 :: clean) s _ _ _ _ _ _ _ (Nat.le_refl _) hq
          rw [sp_quoted _ _ _ c1, show p + s + 1 = p + 1 + s from by omega, hq2]
          simp only
          rw [show nx + s - (p + 1 + s) = nx - (p + 1) from by omega, drop_tail _ (by omega)]
          obtain ⟨new, h1, h2⟩ := ih _ _ _ (acc' ++ [⟨4, p + s, t⟩]) _ (by simp; omega) h
          exact ⟨⟨4, p, t⟩ :: new, by simp [h1], by rw [h2, shift_cons]; simp⟩
      by_cases c2 : c.toNat = 59
      · have htl := tw_len notNl r
        rw [sp_remark r p acc c2] at h
        rw [sp_remark _ _ _ c2, tw_tail notNl 10 (59 :: clean) (by decide), drop_tail _ htl, show p + s + 1 + (r.takeWhile notNl).length = p + 1 + (r.takeWhile notNl).length + s from by omega]
        exact ih _ _ _ acc' _ (by simp; omega) h
      by_cases c3 : c.toNat = 40
      · rw [sp_open r p acc c3] at h
        rw [sp_open _ _ _ c3, Nat.add_right_comm]
        obtain ⟨new, h1, h2⟩ := ih _ _ _ (acc' ++ [⟨1, p + s, []⟩]) _ (by omega) h
        exact ⟨⟨1, p, []⟩ :: new, by simp [h1], by rw [h2, shift_cons]; simp⟩
      by_cases c4 : c.toNat = 41
      · rw [sp_close r p acc c4] at h
        rw [sp_close _ _ _ c4, Nat.add_right_comm]
        obtain ⟨new, h1, h2⟩ := ih _ _ _ (acc' ++ [⟨2, p + s, []⟩]) _ (by omega) h
        exact ⟨⟨2, p, []⟩ :: new, by simp [h1], by rw [h2, shift_cons]; simp⟩
      by_cases c5 : isParts c = true
      · rw [sp_parts r p acc c5] at h
        rw [sp_parts _ _ _ c5, Nat.add_right_comm]
        exact ih _ _ _ acc' _ (by omega) h
      rw [sp_bad r p acc c0' c1 c2 c3 c4 (Bool.eq_false_iff.2 c5)] at h
      cases h
theorem sp_blanks : ∀ (B X : List UInt8) (p : Nat) (acc : List Tok), (∀ c ∈ B, isParts c = true) → sp (B ++ X) p acc = sp X (p + B.length) acc
  | [], X, p, acc, _ => rfl
  | c :: B, X, p, acc, h => by
    rw [List.cons_append, sp_parts _ _ _ (h c (by simp)), sp_blanks B X (p + 1) acc (fun c hc => h c (by simp [hc])), List.length_cons, Nat.add_assoc, Nat.add_comm 1]
/-- A remark at the end, and blanks ahead. -/
theorem split_remarks (L clean B : List UInt8) (l : List Tok) (hc : ∀ c ∈ clean, notNl c = true) (hB : ∀ c ∈ B, isParts c = true) (hlen : B.length + L.length + 2 + clean.length ≤ 8192) (h : splitR L = .ok l) :
    splitR (B ++ L ++ [10, 59] ++ clean) = .ok (shift B.length l) := by
  unfold splitR at h ⊢
  rw [if_neg (by simp; omega)]
  rw [if_neg (by omega)] at h
  obtain ⟨new, h1, h2⟩ := sp_tail clean hc B.length L.length L 0 [] [] l (Nat.le_refl _) h
  rw [List.nil_append] at h1 h2
  subst h1
  rw [show B ++ L ++ [10, 59] ++ clean = B ++ (L ++ 10 :: 59 :: clean) from by simp, sp_blanks B _ 0 [] hB]
  exact h2
end Go.Proofs.YtcjddbponknnoaaGreatDoor
