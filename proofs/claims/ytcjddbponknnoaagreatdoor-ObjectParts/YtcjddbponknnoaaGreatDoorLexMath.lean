/-
  What follows from the chapter's functions: where tokens stand; what a remark behind and blanks ahead change; what is quoted is read as itself. No program in it.
-/
import Derived.Test.YtcjddbponknnoaaGreatDoorLexSpec
namespace Go.Proofs.YtcjddbponknnoaaGreatDoor

/-- Tokens one behind the other, from place a on. -/
def places (L : List UInt8) : List Tok → Nat → Prop
  | [], a => a ≤ L.length
  | t :: r, a => a ≤ t.place ∧ t.place < L.length ∧
    ((t.kind = 1 ∧ (∃ c, L[t.place]? = some c ∧ c.toNat = 40) ∧ places L r (t.place + 1)) ∨
     (t.kind = 2 ∧ (∃ c, L[t.place]? = some c ∧ c.toNat = 41) ∧ places L r (t.place + 1)) ∨
     (t.kind = 3 ∧ t.text ≠ [] ∧ (L.drop t.place).take t.text.length = t.text ∧ t.place + t.text.length ≤ L.length ∧ places L r (t.place + t.text.length)) ∨
     (t.kind = 4 ∧ (∃ c, L[t.place]? = some c ∧ c.toNat = 34) ∧ places L r (t.place + t.text.length + 2)))

theorem at_drop {L : List UInt8} {p : Nat} {c : UInt8} {r : List UInt8} (h : L.drop p = c :: r) : L[p]? = some c ∧ p < L.length ∧ L.length = p + 1 + r.length := by
  have h1 : (L.drop p)[0]? = some c := by rw [h]; rfl
  rw [List.getElem?_drop] at h1
  have h2 := congrArg List.length h
  rw [List.length_drop, List.length_cons] at h2
  have h3 : p < L.length := by omega
  exact ⟨by simpa using h1, h3, by omega⟩
theorem tw_len (f : UInt8 → Bool) (r : List UInt8) : (r.takeWhile f).length ≤ r.length := by
  have := List.takeWhile_sublist (l := r) f
  exact this.length_le

theorem sp_places (L : List UInt8) : ∀ (n p : Nat) (acc l : List Tok), L.length ≤ p + n → p ≤ L.length → sp (L.drop p) p acc = .ok l → ∃ new, l = acc ++ new ∧ ∀ a, a ≤ p → places L new a := by
  intro n
  induction n with
  | zero =>
    intro p acc l hn hp h
    rw [List.drop_eq_nil_of_le (by omega), sp_nil] at h
    cases h
    exact ⟨[], by simp, fun a ha => Nat.le_trans ha hp⟩
  | succ n ih =>
    intro p acc l hn hp h
    cases hd : L.drop p with
    | nil =>
      rw [hd, sp_nil] at h
      cases h
      exact ⟨[], by simp, fun a ha => Nat.le_trans ha hp⟩
    | cons c r =>
      obtain ⟨hc, hlt, hlen⟩ := at_drop hd
      have hr := drop_cons hd
      have h0 := hd
      rw [hd] at h
      by_cases c0 : isAtom c = true
      · have e2 : L.drop (p + 1 + (r.takeWhile isAtom).length) = r.drop (r.takeWhile isAtom).length := by rw [← List.drop_drop, hr]
        have htl := tw_len isAtom r
        rw [sp_atom r p acc c0, ← e2] at h
        obtain ⟨new, h1, h2⟩ := ih _ _ _ (by omega) (by omega) h
        refine ⟨⟨3, p, c :: r.takeWhile isAtom⟩ :: new, by simp [h1], fun a ha => ⟨ha, hlt, .inr (.inr (.inl ⟨rfl, by simp, ?_, ?_, h2 _ ?_⟩))⟩⟩
        · show (L.drop p).take (c :: r.takeWhile isAtom).length = _
          rw [hd, List.length_cons, List.take_succ_cons, take_tw]
        · simp; omega
        · simp; omega
      have c0' := Bool.eq_false_iff.2 c0
      by_cases c1 : c.toNat = 34
      · rw [sp_quoted r p acc c1] at h
        split at h
        · cases h
        · rename_i t nx hq
          obtain ⟨n1, n2, n3, _⟩ := q_next _ _ _ _ _ _ _ (Nat.le_refl _) hq
          simp only [List.length_nil] at n3
          have e2 : L.drop nx = r.drop (nx - (p + 1)) := by rw [← hr, List.drop_drop]; congr 1; omega
          rw [← e2] at h
          obtain ⟨new, h1, h2⟩ := ih _ _ _ (by omega) (by omega) h
          exact ⟨⟨4, p, t⟩ :: new, by simp [h1], fun a ha => ⟨ha, hlt, .inr (.inr (.inr ⟨rfl, ⟨c, hc, c1⟩, h2 _ (by show p + t.length + 2 ≤ nx; omega)⟩))⟩⟩
      by_cases c2 : c.toNat = 59
      · have e2 : L.drop (p + 1 + (r.takeWhile notNl).length) = r.drop (r.takeWhile notNl).length := by rw [← List.drop_drop, hr]
        have htl := tw_len notNl r
        rw [sp_remark r p acc c2, ← e2] at h
        obtain ⟨new, h1, h2⟩ := ih _ _ _ (by omega) (by omega) h
        exact ⟨new, h1, fun a ha => h2 a (by omega)⟩
      by_cases c3 : c.toNat = 40
      · rw [sp_open r p acc c3, ← hr] at h
        obtain ⟨new, h1, h2⟩ := ih _ _ _ (by omega) (by omega) h
        exact ⟨⟨1, p, []⟩ :: new, by simp [h1], fun a ha => ⟨ha, hlt, .inl ⟨rfl, ⟨c, hc, c3⟩, h2 _ (Nat.le_refl _)⟩⟩⟩
      by_cases c4 : c.toNat = 41
      · rw [sp_close r p acc c4, ← hr] at h
        obtain ⟨new, h1, h2⟩ := ih _ _ _ (by omega) (by omega) h
        exact ⟨⟨2, p, []⟩ :: new, by simp [h1], fun a ha => ⟨ha, hlt, .inr (.inl ⟨rfl, ⟨c, hc, c4⟩, h2 _ (Nat.le_refl _)⟩)⟩⟩
      by_cases c5 : isParts c = true
      · rw [sp_parts r p acc c5, ← hr] at h
        obtain ⟨new, h1, h2⟩ := ih _ _ _ (by omega) (by omega) h
        exact ⟨new, h1, fun a ha => h2 a (by omega)⟩
      rw [sp_bad r p acc c0' c1 c2 c3 c4 (Bool.eq_false_iff.2 c5)] at h
      cases h
theorem split_places (L : List UInt8) (l : List Tok) (h : splitR L = .ok l) : places L l 0 ∧ L.length ≤ 8192 := by
  unfold splitR at h
  split at h
  · cases h
  · obtain ⟨new, h1, h2⟩ := sp_places L L.length 0 [] l (by omega) (Nat.zero_le _) (by simpa using h)
    rw [List.nil_append] at h1
    subst h1
    exact ⟨h2 0 (Nat.le_refl _), by omega⟩
/-- No more tokens than bytes. -/
theorem places_length (L : List UInt8) : ∀ (l : List Tok) (a : Nat), places L l a → l.length + a ≤ L.length
  | [], a, h => by simpa [places] using h
  | t :: r, a, h => by
    obtain ⟨h1, h2, h3⟩ := h
    rcases h3 with ⟨_, _, h⟩ | ⟨_, _, h⟩ | ⟨_, hne, _, _, h⟩ | ⟨_, _, h⟩
    · have := places_length L r _ h; simp; omega
    · have := places_length L r _ h; simp; omega
    · have := places_length L r _ h
      have := List.length_pos_iff.2 hne
      simp; omega
    · have := places_length L r _ h; simp; omega

/-- A refusal's number. -/
theorem sp_why : ∀ (n : Nat) (l : List UInt8) (p : Nat) (acc : List Tok) (y b : Nat), l.length ≤ n → sp l p acc = .error (y, b) → y = 3 ∨ y = 10 ∨ y = 12
  | _, [], _, _, _, _, _, h => by rw [sp_nil] at h; cases h
  | 0, _ :: _, _, _, _, _, hn, _ => by simp at hn
  | n + 1, c :: r, p, acc, y, b, hn, h => by
    simp only [List.length_cons] at hn
    by_cases c0 : isAtom c = true
    · rw [sp_atom r p acc c0] at h
      exact sp_why n _ _ _ _ _ (by simp; omega) h
    by_cases c1 : c.toNat = 34
    · rw [sp_quoted r p acc c1] at h
      split at h
      · rename_i hq
        cases h
        exact q_why _ _ _ _ _ _ _ (Nat.le_refl _) hq
      · exact sp_why n _ _ _ _ _ (by simp; omega) h
    by_cases c2 : c.toNat = 59
    · rw [sp_remark r p acc c2] at h
      exact sp_why n _ _ _ _ _ (by simp; omega) h
    by_cases c3 : c.toNat = 40
    · rw [sp_open r p acc c3] at h
      exact sp_why n _ _ _ _ _ (by omega) h
    by_cases c4 : c.toNat = 41
    · rw [sp_close r p acc c4] at h
      exact sp_why n _ _ _ _ _ (by omega) h
    by_cases c5 : isParts c = true
    · rw [sp_parts r p acc c5] at h
      exact sp_why n _ _ _ _ _ (by omega) h
    rw [sp_bad r p acc (Bool.eq_false_iff.2 c0) c1 c2 c3 c4 (Bool.eq_false_iff.2 c5)] at h
    cases h
    simp
theorem split_why (L : List UInt8) (y b : Nat) (h : splitR L = .error (y, b)) : y = 3 ∨ y = 10 ∨ y = 12 := by
  unfold splitR at h
  split at h
  · cases h; simp
  · exact sp_why _ _ _ _ _ _ (Nat.le_refl _) h
end Go.Proofs.YtcjddbponknnoaaGreatDoor
