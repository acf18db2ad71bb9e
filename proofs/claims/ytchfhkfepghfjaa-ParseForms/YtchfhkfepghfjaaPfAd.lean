/-
  Names: the package's Name, Value, Big, and the document's own.
  And: What follows from the chapter's functions: where tokens stand; what a remark behind and blanks ahead change; what is quoted is read as itself. No program in it. What is quoted is read as itself; a remark behind, and blanks ahead, change no token but its place. No program in it.
-/
import Derived.Deep.Upon
import Derived.Deep.LoopGhost
import Derived.Test.YtchfhkfepghfjaaPfAb
namespace Go.Proofs.Ytchfhkfepghfjaa
open Go.RowKit

theorem take_all (s : ByteArray) (k : Nat) (hk : k < s.size) (h : (s.data.toList.take k).all isLetter = true) (hc : isLetter s[k] = true) : (s.data.toList.take (k + 1)).all isLetter = true := by
  have hk' : k < s.data.toList.length := by rw [size_len]; exact hk
  have e : s.data.toList.take (k + 1) = s.data.toList.take k ++ [s[k]] := by
    rw [List.take_succ_eq_append_getElem hk']
    rfl
  rw [e, List.all_append, h]
  simp [hc]
theorem not_all (s : ByteArray) (k : Nat) (hk : k < s.size) (hc : isLetter s[k] = false) : s.data.toList.all isLetter = false := by
  refine Bool.eq_false_iff.2 (fun h => ?_)
  rw [List.all_eq_true] at h
  have hk' : k < s.data.toList.length := by rw [size_len]; exact hk
  have := h s[k] (by
    have e : s[k] = s.data.toList[k] := rfl
    rw [e]
    exact List.getElem_mem hk')
  rw [hc] at this
  cases this
theorem all_all (s : ByteArray) (h : (s.data.toList.take s.size).all isLetter = true) : s.data.toList.all isLetter = true := by
  rwa [List.take_of_length_le (by rw [size_len]; exact Nat.le_refl _)] at h
theorem head_s (s : ByteArray) (h : 0 < s.size) : s.data.toList.head? = some s[0] := by
  have := drop_at s 0 h
  rw [List.drop_zero] at this
  rw [this]
  rfl
theorem not_nil (s : ByteArray) (h : 0 < s.size) : s.data.toList.isEmpty = false := by
  have := drop_at s 0 h
  rw [List.drop_zero] at this
  rw [this]
  rfl
theorem nameR_some (s : ByteArray) (h : 0 < s.size) (h2 : s.size ≤ 24) (h3 : isDigit s[0] = false) : nameR s.data.toList = s.data.toList.all isLetter := by
  unfold nameR
  rw [head_s s h, not_nil s h, size_len]
  simp [h2, h3]
theorem nameR_empty (s : ByteArray) (h : s.size = 0) : nameR s.data.toList = false := by
  have : s.data.toList = [] := List.eq_nil_of_length_eq_zero (by rw [size_len]; exact h)
  rw [this]
  rfl
theorem nameR_long (s : ByteArray) (h : 24 < s.size) : nameR s.data.toList = false := by
  unfold nameR
  rw [size_len]
  simp
  omega
theorem nameR_digit (s : ByteArray) (h : 0 < s.size) (h3 : isDigit s[0] = true) : nameR s.data.toList = false := by
  unfold nameR
  rw [head_s s h]
  simp [h3]
theorem nameR_pos (s : ByteArray) (h : nameR s.data.toList = true) : 0 < s.size := by
  rcases Nat.eq_zero_or_pos s.size with h0 | h0
  · rw [nameR_empty s h0] at h
    cases h
  · exact h0

set_option maxHeartbeats 1600000 in
set_option maxRecDepth 1000000 in
theorem name (s : ByteArray) (w : World) (hs : s.size ≤ 9223372036854775806) : Calls Try.prog 52 #[.string s] w (Pu (.bool (nameR s.data.toList)) w) := by
  by_cases h0 : s.size = 0
  · rw [nameR_empty s h0]
    have h0' : ((s.size : Int) == 0) = true := by rw [beq_iff_eq]; omega
    clear h0
    go_enter Try.func52, Try.ntmps52
    go_wp2
    go_ret
    exact ⟨rfl, rfl⟩
  have h0' : ((s.size : Int) == 0) = false := by rw [beq_eq_false_iff_ne]; omega
  have hp : 0 < s.size := by omega
  have hp' : (0 : Int) < (s.size : Int) := by omega
  clear h0
  by_cases h1 : 24 < s.size
  · rw [nameR_long s h1]
    have h1' : (24 : Int) < (s.size : Int) := by omega
    clear h1
    go_enter Try.func52, Try.ntmps52
    go_wp2
    go_ret
    exact ⟨rfl, rfl⟩
  have h1' : ¬ (24 : Int) < (s.size : Int) := by omega
  have hd0 := digit s[0]
  rcases (by cases isDigit s[0] <;> simp : isDigit s[0] = true ∨ isDigit s[0] = false) with h2 | h2
  · rw [nameR_digit s hp h2]
    rw [h2] at hd0
    clear h1 h2
    go_enter Try.func52, Try.ntmps52
    go_wp2_with fail
    refine (hd0 _).mono ?_
    rintro e w1 ⟨rfl, rfl⟩
    go_wp2
    go_ret
    exact ⟨rfl, rfl⟩
  rw [nameR_some s hp (by omega) h2]
  rw [h2] at hd0
  clear h1 h2
  go_enter Try.func52, Try.ntmps52
  go_wp2_with fail
  refine (hd0 _).mono ?_
  rintro e w1 ⟨rfl, rfl⟩
  go_wp2
  go_loopg [19] s.size (fun g i wr => ∃ (k : Nat), g + k = s.size ∧ i = .int .i64 k ∧ Hid ((s.data.toList.take k).all isLetter = true) ∧ wr = w1)
  case atStart => exact ⟨0, rfl, rfl, rfl, rfl⟩
  case round =>
    obtain ⟨k, hg, rfl, hall, rfl⟩ := hrel
    by_cases hk : k < s.size
    · have hS := small s[k]
      have hL := large s[k]
      have hD := digit s[k]
      clear hd0
      rcases (by cases isSmall s[k] <;> simp : isSmall s[k] = true ∨ isSmall s[k] = false) with d0 | d0
      · have HA : Hid ((s.data.toList.take (k + 1)).all isLetter = true) := take_all s k hk hall.out (by simp [isLetter, d0])
        rw [d0] at hS
        clear d0 hall
        go_wp2_with fail
        refine (hS _).mono ?_
        rintro e w2 ⟨rfl, rfl⟩
        go_wp2
        go_roundg (s.size - (k + 1))
        case measure => omega
        case rel => exact ⟨k + 1, by omega, by go_num, HA, rfl⟩
      rw [d0] at hS
      rcases (by cases isLarge s[k] <;> simp : isLarge s[k] = true ∨ isLarge s[k] = false) with d1 | d1
      · have HA : Hid ((s.data.toList.take (k + 1)).all isLetter = true) := take_all s k hk hall.out (by simp [isLetter, d1])
        rw [d1] at hL
        clear d0 d1 hall
        go_wp2_with fail
        refine (hS _).mono ?_
        rintro e w2 ⟨rfl, rfl⟩
        go_wp2_with fail
        refine (hL _).mono ?_
        rintro e w2 ⟨rfl, rfl⟩
        go_wp2
        go_roundg (s.size - (k + 1))
        case measure => omega
        case rel => exact ⟨k + 1, by omega, by go_num, HA, rfl⟩
      rw [d1] at hL
      rcases (by cases isDigit s[k] <;> simp : isDigit s[k] = true ∨ isDigit s[k] = false) with d2 | d2
      · have HA : Hid ((s.data.toList.take (k + 1)).all isLetter = true) := take_all s k hk hall.out (by simp [isLetter, d2])
        rw [d2] at hD
        clear d0 d1 d2 hall
        go_wp2_with fail
        refine (hS _).mono ?_
        rintro e w2 ⟨rfl, rfl⟩
        go_wp2_with fail
        refine (hL _).mono ?_
        rintro e w2 ⟨rfl, rfl⟩
        go_wp2_with fail
        refine (hD _).mono ?_
        rintro e w2 ⟨rfl, rfl⟩
        go_wp2
        go_roundg (s.size - (k + 1))
        case measure => omega
        case rel => exact ⟨k + 1, by omega, by go_num, HA, rfl⟩
      rw [d2] at hD
      by_cases d3 : s[k].toNat = 95
      · have HA : Hid ((s.data.toList.take (k + 1)).all isLetter = true) := take_all s k hk hall.out (by simp [isLetter, d3])
        have d3' : ((s[k].toNat : Int) != 95) = false := by rw [bne_eq_false_iff_eq]; omega
        clear d0 d1 d2 d3 hall
        go_wp2_with fail
        refine (hS _).mono ?_
        rintro e w2 ⟨rfl, rfl⟩
        go_wp2_with fail
        refine (hL _).mono ?_
        rintro e w2 ⟨rfl, rfl⟩
        go_wp2_with fail
        refine (hD _).mono ?_
        rintro e w2 ⟨rfl, rfl⟩
        go_wp2
        go_roundg (s.size - (k + 1))
        case measure => omega
        case rel => exact ⟨k + 1, by omega, by go_num, HA, rfl⟩
      have d3' : ((s[k].toNat : Int) != 95) = true := by rw [bne_iff_ne]; omega
      rw [not_all s k hk (by simp [isLetter, d0, d1, d2, d3])]
      clear d0 d1 d2 d3 hall
      go_wp2_with fail
      refine (hS _).mono ?_
      rintro e w2 ⟨rfl, rfl⟩
      go_wp2_with fail
      refine (hL _).mono ?_
      rintro e w2 ⟨rfl, rfl⟩
      go_wp2_with fail
      refine (hD _).mono ?_
      rintro e w2 ⟨rfl, rfl⟩
      go_wp2
      go_ret
      exact ⟨rfl, rfl⟩
    · have hk' : k = s.size := by omega
      subst hk'
      have HA : Hid (s.data.toList.all isLetter = true) := all_all s hall.out
      clear hall hd0
      go_wp2
      go_ret
      exact ⟨by rw [HA.out]; rfl, rfl⟩

theorem bigR_no (s : ByteArray) (h : nameR s.data.toList = false) : bigR s.data.toList = false := by simp [bigR, h]
theorem valueR_no (s : ByteArray) (h : nameR s.data.toList = false) : valueR s.data.toList = false := by simp [valueR, h]
theorem bigR_yes (s : ByteArray) (h : nameR s.data.toList = true) (hp : 0 < s.size) : bigR s.data.toList = isLarge s[0] := by simp [bigR, h, head_s s hp]
theorem valueR_yes (s : ByteArray) (h : nameR s.data.toList = true) (hp : 0 < s.size) : valueR s.data.toList = !isLarge s[0] := by simp [valueR, h, head_s s hp]

set_option maxHeartbeats 400000 in
set_option maxRecDepth 1000000 in
theorem big (s : ByteArray) (w : World) (hs : s.size ≤ 9223372036854775806) : Calls Try.prog 43 #[.string s] w (Pu (.bool (bigR s.data.toList)) w) := by
  have hn := fun w => name s w hs
  rcases (by cases nameR s.data.toList <;> simp : nameR s.data.toList = true ∨ nameR s.data.toList = false) with h | h
  · have hp := nameR_pos s h
    have hp' : (0 : Int) < (s.size : Int) := by omega
    rw [bigR_yes s h hp]
    rw [h] at hn
    have hl := large s[0]
    generalize isLarge s[0] = b at *
    clear h
    go_enter Try.func43, Try.ntmps43
    go_wp2_with fail
    refine (hn _).mono ?_
    rintro e w1 ⟨rfl, rfl⟩
    go_wp2_with fail
    refine (hl _).mono ?_
    rintro e w1 ⟨rfl, rfl⟩
    go_wp2
    go_ret
    exact ⟨rfl, rfl⟩
  · rw [bigR_no s h]
    rw [h] at hn
    clear h
    go_enter Try.func43, Try.ntmps43
    go_wp2_with fail
    refine (hn _).mono ?_
    rintro e w1 ⟨rfl, rfl⟩
    go_wp2
    go_ret
    exact ⟨rfl, rfl⟩
set_option maxHeartbeats 400000 in
set_option maxRecDepth 1000000 in
theorem value (s : ByteArray) (w : World) (hs : s.size ≤ 9223372036854775806) : Calls Try.prog 38 #[.string s] w (Pu (.bool (valueR s.data.toList)) w) := by
  have hn := fun w => name s w hs
  rcases (by cases nameR s.data.toList <;> simp : nameR s.data.toList = true ∨ nameR s.data.toList = false) with h | h
  · have hp := nameR_pos s h
    have hp' : (0 : Int) < (s.size : Int) := by omega
    rw [valueR_yes s h hp]
    rw [h] at hn
    have hl := large s[0]
    generalize isLarge s[0] = b at *
    clear h
    go_enter Try.func38, Try.ntmps38
    go_wp2_with fail
    refine (hn _).mono ?_
    rintro e w1 ⟨rfl, rfl⟩
    go_wp2_with fail
    refine (hl _).mono ?_
    rintro e w1 ⟨rfl, rfl⟩
    go_wp2
    go_ret
    exact ⟨rfl, rfl⟩
  · rw [valueR_no s h]
    rw [h] at hn
    clear h
    go_enter Try.func38, Try.ntmps38
    go_wp2_with fail
    refine (hn _).mono ?_
    rintro e w1 ⟨rfl, rfl⟩
    go_wp2
    go_ret
    exact ⟨rfl, rfl⟩

end Go.Proofs.Ytchfhkfepghfjaa

namespace Go.Proofs.Ytchfhkfepghfjaa

/-- Tokens one behind the other, from place a on. -/
def places (L : List UInt8) : List Tok → Nat → Prop
  | [], a => a ≤ L.length
  | t :: r, a => a ≤ t.place ∧ t.place < L.length ∧
    ((t.kind = 1 ∧ (∃ c, L[t.place]? = some c ∧ c.toNat = 40) ∧ places L r (t.place + 1)) ∨
     (t.kind = 2 ∧ (∃ c, L[t.place]? = some c ∧ c.toNat = 41) ∧ places L r (t.place + 1)) ∨
     (t.kind = 3 ∧ t.text ≠ [] ∧ (L.drop t.place).take t.text.length = t.text ∧ t.place + t.text.length ≤ L.length ∧ places L r (t.place + t.text.length)) ∨
     (t.kind = 4 ∧ (∃ c, L[t.place]? = some c ∧ c.toNat = 34) ∧ places L r (t.place + t.text.length + 2)))

theorem at_drop {L : List UInt8} {p : Nat} {c : UInt8} {r : List UInt8} (h : L.drop p = c :: r) : L[p]? = some c ∧ p < L.length ∧ L.length = p + 1 + r.length := by
  have h1 : (L.drop p)[0]? = some c := by rw [h]; rfl
  rw [List.getElem?_drop] at h1
  have h2 := congrArg List.length h
  rw [List.length_drop, List.length_cons] at h2
  have h3 : p < L.length := by omega
  exact ⟨by simpa using h1, h3, by omega⟩
theorem tw_len (f : UInt8 → Bool) (r : List UInt8) : (r.takeWhile f).length ≤ r.length := by
  have := List.takeWhile_sublist (l := r) f
  exact this.length_le

theorem sp_places (L : List UInt8) : ∀ (n p : Nat) (acc l : List Tok), L.length ≤ p + n → p ≤ L.length → sp (L.drop p) p acc = .ok l → ∃ new, l = acc ++ new ∧ ∀ a, a ≤ p → places L new a := by
  intro n
  induction n with
  | zero =>
    intro p acc l hn hp h
    rw [List.drop_eq_nil_of_le (by omega), sp_nil] at h
    cases h
    exact ⟨[], by simp, fun a ha => Nat.le_trans ha hp⟩
  | succ n ih =>
    intro p acc l hn hp h
    cases hd : L.drop p with
    | nil =>
      rw [hd, sp_nil] at h
      cases h
      exact ⟨[], by simp, fun a ha => Nat.le_trans ha hp⟩
    | cons c r =>
      obtain ⟨hc, hlt, hlen⟩ := at_drop hd
      have hr := drop_cons hd
      have h0 := hd
      rw [hd] at h
      by_cases c0 : isAtom c = true
      · have e2 : L.drop (p + 1 + (r.takeWhile isAtom).length) = r.drop (r.takeWhile isAtom).length := by rw [← List.drop_drop, hr]
        have htl := tw_len isAtom r
        rw [sp_atom r p acc c0, ← e2] at h
        obtain ⟨new, h1, h2⟩ := ih _ _ _ (by omega) (by omega) h
        refine ⟨⟨3, p, c :: r.takeWhile isAtom⟩ :: new, by simp [h1], fun a ha => ⟨ha, hlt, .inr (.inr (.inl ⟨rfl, by simp, ?_, ?_, h2 _ ?_⟩))⟩⟩
        · show (L.drop p).take (c :: r.takeWhile isAtom).length = _
          rw [hd, List.length_cons, List.take_succ_cons, take_tw]
        · simp; omega
        · simp; omega
      have c0' := Bool.eq_false_iff.2 c0
      by_cases c1 : c.toNat = 34
      · rw [sp_quoted r p acc c1] at h
        split at h
        · cases h
        · rename_i t nx hq
          obtain ⟨n1, n2, n3, _⟩ := q_next _ _ _ _ _ _ _ (Nat.le_refl _) hq
          simp only [List.length_nil] at n3
          have e2 : L.drop nx = r.drop (nx - (p + 1)) := by rw [← hr, List.drop_drop]; congr 1; omega
          rw [← e2] at h
          obtain ⟨new, h1, h2⟩ := ih _ _ _ (by omega) (by omega) h
          exact ⟨⟨4, p, t⟩ :: new, by simp [h1], fun a ha => ⟨ha, hlt, .inr (.inr (.inr ⟨rfl, ⟨c, hc, c1⟩, h2 _ (by show p + t.length + 2 ≤ nx; omega)⟩))⟩⟩
      by_cases c2 : c.toNat = 59
      · have e2 : L.drop (p + 1 + (r.takeWhile notNl).length) = r.drop (r.takeWhile notNl).length := by rw [← List.drop_drop, hr]
        have htl := tw_len notNl r
        rw [sp_remark r p acc c2, ← e2] at h
        obtain ⟨new, h1, h2⟩ := ih _ _ _ (by omega) (by omega) h
        exact ⟨new, h1, fun a ha => h2 a (by omega)⟩
      by_cases c3 : c.toNat = 40
      · rw [sp_open r p acc c3, ← hr] at h
        obtain ⟨new, h1, h2⟩ := ih _ _ _ (by omega) (by omega) h
        exact ⟨⟨1, p, []⟩ :: new, by simp [h1], fun a ha => ⟨ha, hlt, .inl ⟨rfl, ⟨c, hc, c3⟩, h2 _ (Nat.le_refl _)⟩⟩⟩
      by_cases c4 : c.toNat = 41
      · rw [sp_close r p acc c4, ← hr] at h
        obtain ⟨new, h1, h2⟩ := ih _ _ _ (by omega) (by omega) h
        exact ⟨⟨2, p, []⟩ :: new, by simp [h1], fun a ha => ⟨ha, hlt, .inr (.inl ⟨rfl, ⟨c, hc, c4⟩, h2 _ (Nat.le_refl _)⟩)⟩⟩
      by_cases c5 : isParts c = true
      · rw [sp_parts r p acc c5, ← hr] at h
        obtain ⟨new, h1, h2⟩ := ih _ _ _ (by omega) (by omega) h
        exact ⟨new, h1, fun a ha => h2 a (by omega)⟩
      rw [sp_bad r p acc c0' c1 c2 c3 c4 (Bool.eq_false_iff.2 c5)] at h
      cases h
theorem split_places (L : List UInt8) (l : List Tok) (h : splitR L = .ok l) : places L l 0 ∧ L.length ≤ 8192 := by
  unfold splitR at h
  split at h
  · cases h
  · obtain ⟨new, h1, h2⟩ := sp_places L L.length 0 [] l (by omega) (Nat.zero_le _) (by simpa using h)
    rw [List.nil_append] at h1
    subst h1
    exact ⟨h2 0 (Nat.le_refl _), by omega⟩
/-- No more tokens than bytes. -/
theorem places_length (L : List UInt8) : ∀ (l : List Tok) (a : Nat), places L l a → l.length + a ≤ L.length
  | [], a, h => by simpa [places] using h
  | t :: r, a, h => by
    obtain ⟨h1, h2, h3⟩ := h
    rcases h3 with ⟨_, _, h⟩ | ⟨_, _, h⟩ | ⟨_, hne, _, _, h⟩ | ⟨_, _, h⟩
    · have := places_length L r _ h; simp; omega
    · have := places_length L r _ h; simp; omega
    · have := places_length L r _ h
      have := List.length_pos_iff.2 hne
      simp; omega
    · have := places_length L r _ h; simp; omega

/-- A refusal's number. -/
theorem sp_why : ∀ (n : Nat) (l : List UInt8) (p : Nat) (acc : List Tok) (y b : Nat), l.length ≤ n → sp l p acc = .error (y, b) → y = 3 ∨ y = 10 ∨ y = 12
  | _, [], _, _, _, _, _, h => by rw [sp_nil] at h; cases h
  | 0, _ :: _, _, _, _, _, hn, _ => by simp at hn
  | n + 1, c :: r, p, acc, y, b, hn, h => by
    simp only [List.length_cons] at hn
    by_cases c0 : isAtom c = true
    · rw [sp_atom r p acc c0] at h
      exact sp_why n _ _ _ _ _ (by simp; omega) h
    by_cases c1 : c.toNat = 34
    · rw [sp_quoted r p acc c1] at h
      split at h
      · rename_i hq
        cases h
        exact q_why _ _ _ _ _ _ _ (Nat.le_refl _) hq
      · exact sp_why n _ _ _ _ _ (by simp; omega) h
    by_cases c2 : c.toNat = 59
    · rw [sp_remark r p acc c2] at h
      exact sp_why n _ _ _ _ _ (by simp; omega) h
    by_cases c3 : c.toNat = 40
    · rw [sp_open r p acc c3] at h
      exact sp_why n _ _ _ _ _ (by omega) h
    by_cases c4 : c.toNat = 41
    · rw [sp_close r p acc c4] at h
      exact sp_why n _ _ _ _ _ (by omega) h
    by_cases c5 : isParts c = true
    · rw [sp_parts r p acc c5] at h
      exact sp_why n _ _ _ _ _ (by omega) h
    rw [sp_bad r p acc (Bool.eq_false_iff.2 c0) c1 c2 c3 c4 (Bool.eq_false_iff.2 c5)] at h
    cases h
    simp
theorem split_why (L : List UInt8) (y b : Nat) (h : splitR L = .error (y, b)) : y = 3 ∨ y = 10 ∨ y = 12 := by
  unfold splitR at h
  split at h
  · cases h; simp
  · exact sp_why _ _ _ _ _ _ (Nat.le_refl _) h
end Go.Proofs.Ytchfhkfepghfjaa

namespace Go.Proofs.Ytchfhkfepghfjaa

theorem hex_digit (n : Nat) (h : n < 16) : hexOf (hexSet.getD n 0) = some n := by
  have : ∀ a : Fin 16, hexOf (hexSet.getD a.val 0) = some a.val := by decide
  exact this ⟨n, h⟩
theorem byte_of (c : UInt8) : UInt8.ofNat (16 * (c.toNat / 16) + c.toNat % 16) = c := by
  rw [show 16 * (c.toNat / 16) + c.toNat % 16 = c.toNat from by omega]
  simp
theorem q_byte (c : UInt8) (Y : List UInt8) (p fr : Nat) (acc : List UInt8) : q (qByte c ++ Y) p fr acc = q Y (p + (qByte c).length) fr (acc ++ [c]) := by
  by_cases h1 : c.toNat = 34 ∨ c.toNat = 92
  · rw [show qByte c = [92, c] from by simp [qByte, h1]]
    simp only [List.cons_append, List.nil_append]
    rw [q_esc _ _ _ _ (show (92 : UInt8).toNat = 92 from rfl), show esc (c :: Y) = some (c, 2) from by simp [esc, h1]]
    rfl
  by_cases h2 : c.toNat = 10
  · rw [show qByte c = [92, 110] from by simp [qByte, h2]]
    simp only [List.cons_append, List.nil_append]
    have e : c = 10 := UInt8.toNat_inj.1 h2
    rw [q_esc _ _ _ _ (show (92 : UInt8).toNat = 92 from rfl), show esc (110 :: Y) = some (10, 2) from rfl, e]
    rfl
  by_cases h3 : isPlain c = true
  · rw [show qByte c = [c] from by simp [qByte, h1, h2, h3]]
    simp only [List.cons_append, List.nil_append]
    rw [q_plain _ _ _ _ (fun h => h1 (.inl h)) (fun h => h1 (.inr h)) h3]
    rfl
  · have h3' := Bool.eq_false_iff.2 h3
    have hc : c.toNat < 256 := c.toNat_lt
    have he : esc (120 :: hexSet.getD (c.toNat / 16) 0 :: hexSet.getD (c.toNat % 16) 0 :: Y) = some (c, 4) := by
      show (match hexOf (hexSet.getD (c.toNat / 16) 0), hexOf (hexSet.getD (c.toNat % 16) 0) with
        | some x, some y => some (UInt8.ofNat (16 * x + y), 4)
        | _, _ => none) = some (c, 4)
      rw [hex_digit _ (by omega), hex_digit _ (by omega)]
      simp only [byte_of]
    rw [show qByte c = [92, 120, hexSet.getD (c.toNat / 16) 0, hexSet.getD (c.toNat % 16) 0] from by simp [qByte, h1, h2, h3']]
    simp only [List.cons_append, List.nil_append]
    rw [q_esc _ _ _ _ (show (92 : UInt8).toNat = 92 from rfl), he]
    rfl
theorem q_quote (Y : List UInt8) (fr : Nat) : ∀ (b : List UInt8) (p : Nat) (acc : List UInt8), q (b.flatMap qByte ++ 34 :: Y) p fr acc = if 200 < (acc ++ b).length then .error (3, fr) else .ok (acc ++ b, p + (b.flatMap qByte).length + 1)
  | [], p, acc => by
    simp only [List.flatMap_nil, List.nil_append, List.append_nil, List.length_nil, Nat.add_zero]
    exact q_end Y p fr acc rfl
  | c :: r, p, acc => by
    rw [List.flatMap_cons, List.append_assoc, q_byte, q_quote Y fr r, List.append_assoc, List.singleton_append, Nat.add_assoc p, List.length_append («as» := qByte c)]
theorem quote_length (b : List UInt8) : (b.flatMap qByte).length ≤ 4 * b.length := by
  induction b with
  | nil => simp
  | cons c r ih =>
    have : (qByte c).length ≤ 4 := by
      unfold qByte
      split
      · simp
      · split
        · simp
        · split <;> simp
    rw [List.flatMap_cons, List.length_append, List.length_cons]
    omega
theorem sp_quote (b Y : List UInt8) (p : Nat) (acc : List Tok) (hb : b.length ≤ 200) : sp (quoteR b ++ Y) p acc = sp Y (p + (quoteR b).length) (acc ++ [⟨4, p, b⟩]) := by
  have e : quoteR b ++ Y = 34 :: (b.flatMap qByte ++ 34 :: Y) := by simp [quoteR]
  have e2 : (quoteR b).length = (b.flatMap qByte).length + 2 := by simp [quoteR]
  rw [e, sp_quoted _ _ _ rfl, q_quote, List.nil_append, if_neg (by omega)]
  simp only
  rw [show p + 1 + (b.flatMap qByte).length + 1 - (p + 1) = (b.flatMap qByte).length + 1 from by omega, e2, show p + 1 + (b.flatMap qByte).length + 1 = p + ((b.flatMap qByte).length + 2) from by omega]
  congr 1
  rw [show b.flatMap qByte ++ 34 :: Y = (b.flatMap qByte ++ [34]) ++ Y from by simp, show (b.flatMap qByte).length + 1 = (b.flatMap qByte ++ [34]).length from by simp]
  exact List.drop_left
theorem split_quote (b : List UInt8) (hb : b.length ≤ 200) : splitR (quoteR b) = .ok [⟨4, 0, b⟩] := by
  have h := quote_length b
  have e2 : (quoteR b).length = (b.flatMap qByte).length + 2 := by simp [quoteR]
  unfold splitR
  rw [if_neg (by omega)]
  have := sp_quote b [] 0 [] hb
  rw [List.append_nil] at this
  rw [this]
  rfl
theorem split_long_quote (b : List UInt8) (hb : 200 < b.length) (hb2 : b.length ≤ 2000) : splitR (quoteR b) = .error (3, 0) := by
  have h := quote_length b
  have e2 : (quoteR b).length = (b.flatMap qByte).length + 2 := by simp [quoteR]
  have e : quoteR b = 34 :: (b.flatMap qByte ++ 34 :: []) := by simp [quoteR]
  unfold splitR
  rw [if_neg (by omega), e, sp_quoted _ _ _ rfl, q_quote, List.nil_append, if_pos hb]
theorem split_around (b : List UInt8) (hb : b.length ≤ 200) : splitR ([32, 40] ++ quoteR b ++ [59, 32, 40, 10, 32, 41]) = .ok [⟨1, 1, []⟩, ⟨4, 2, b⟩, ⟨2, 2 + (quoteR b).length + 5, []⟩] := by
  have h := quote_length b
  have e2 : (quoteR b).length = (b.flatMap qByte).length + 2 := by simp [quoteR]
  unfold splitR
  rw [if_neg (by simp; omega), List.append_assoc]
  show sp (32 :: 40 :: (quoteR b ++ [59, 32, 40, 10, 32, 41])) 0 [] = _
  rw [sp_parts _ _ _ (by decide), sp_open _ _ _ (by decide), sp_quote b _ _ _ hb]
  generalize 0 + 1 + 1 + (quoteR b).length = x
  rfl

/-- What comes behind an end that neither an Atom nor a remark crosses. -/
theorem tw_tail (f : UInt8 → Bool) (d : UInt8) (T : List UInt8) (hd : f d = false) : ∀ (r : List UInt8), (r ++ d :: T).takeWhile f = r.takeWhile f
  | [] => by simp [hd]
  | c :: r => by
    by_cases h : f c = true
    · rw [List.cons_append, List.takeWhile_cons_of_pos h, List.takeWhile_cons_of_pos h, tw_tail f d T hd r]
    · rw [List.cons_append, List.takeWhile_cons_of_neg h, List.takeWhile_cons_of_neg h]
theorem drop_tail {r : List UInt8} {n : Nat} (T : List UInt8) (h : n ≤ r.length) : (r ++ T).drop n = r.drop n ++ T := by
  rw [List.drop_append_of_le_length h]
theorem esc_tail {r : List UInt8} {b : UInt8} {k : Nat} (T : List UInt8) (h : esc r = some (b, k)) : esc (r ++ T) = some (b, k) := by
  cases r with
  | nil => cases h
  | cons c r =>
    simp only [List.cons_append]
    unfold esc at h ⊢
    simp only at h ⊢
    split
    · rename_i h1
      rw [if_pos h1] at h
      exact h
    · rename_i h1
      rw [if_neg h1] at h
      split
      · rename_i h2
        rw [if_pos h2] at h
        exact h
      · rename_i h2
        rw [if_neg h2] at h
        split
        · rename_i h3
          rw [if_pos h3] at h
          match r, h with
          | a :: b' :: r', h => exact h
          | [], h => cases h
          | [_], h => cases h
        · rename_i h3
          rw [if_neg h3] at h
          cases h
theorem q_tail (T : List UInt8) (s : Nat) : ∀ (n : Nat) (l : List UInt8) (p fr : Nat) (acc t : List UInt8) (nx : Nat), l.length ≤ n → q l p fr acc = .ok (t, nx) → q (l ++ T) (p + s) (fr + s) acc = .ok (t, nx + s)
  | _, [], _, _, _, _, _, _, h => by rw [q_nil] at h; cases h
  | 0, _ :: _, _, _, _, _, _, hn, _ => by simp at hn
  | n + 1, c :: r, p, fr, acc, t, nx, hn, h => by
    simp only [List.length_cons] at hn
    rw [List.cons_append]
    by_cases h1 : c.toNat = 34
    · rw [q_end r p fr acc h1] at h
      rw [q_end _ _ _ _ h1]
      split at h
      · cases h
      · rename_i h200
        cases h
        rw [if_neg h200, Nat.add_right_comm]
    · by_cases h2 : c.toNat = 92
      · rw [q_esc r p fr acc h2] at h
        rw [q_esc _ _ _ _ h2]
        split at h
        · cases h
        · rename_i b k he
          have hs := esc_size he
          rw [esc_tail T he]
          simp only
          rw [drop_tail T (by omega), Nat.add_right_comm]
          exact q_tail T s n _ _ _ _ _ _ (by simp; omega) h
      · by_cases h3 : isPlain c = true
        · rw [q_plain r p fr acc h1 h2 h3] at h
          rw [q_plain _ _ _ _ h1 h2 h3, Nat.add_right_comm]
          exact q_tail T s n _ _ _ _ _ _ (by omega) h
        · rw [q_bad r p fr acc h1 h2 (Bool.eq_false_iff.2 h3)] at h
          cases h
/-- Tokens further to the right. -/
def shift (s : Nat) (l : List Tok) : List Tok := l.map fun t => ⟨t.kind, t.place + s, t.text⟩
theorem shift_cons (s : Nat) (t : Tok) (l : List Tok) : shift s (t :: l) = ⟨t.kind, t.place + s, t.text⟩ :: shift s l := rfl
theorem tw_all (f : UInt8 → Bool) : ∀ (l : List UInt8), (∀ c ∈ l, f c = true) → l.takeWhile f = l
  | [], _ => rfl
  | c :: r, h => by rw [List.takeWhile_cons_of_pos (h c (by simp)), tw_all f r (fun x hx => h x (by simp [hx]))]
theorem sp_clean (clean : List UInt8) (hc : ∀ c ∈ clean, notNl c = true) (p : Nat) (acc : List Tok) : sp (10 :: 59 :: clean) p acc = .ok acc := by
  rw [sp_parts _ _ _ (by decide), sp_remark _ _ _ (by decide)]
  have e : clean.takeWhile notNl = clean := tw_all notNl clean hc
  rw [e, List.drop_length]
  rfl
theorem sp_tail (clean : List UInt8) (hc : ∀ c ∈ clean, notNl c = true) (s : Nat) : ∀ (n : Nat) (l : List UInt8) (p : Nat) (acc acc' out : List Tok), l.length ≤ n → sp l p acc = .ok out → ∃ new, out = acc ++ new ∧ sp (l ++ 10 :: 59 :: clean) (p + s) acc' = .ok (acc' ++ shift s new) := by
  intro n
  induction n with
  | zero =>
    intro l p acc acc' out hn h
    have : l = [] := List.eq_nil_of_length_eq_zero (by omega)
    subst this
    rw [sp_nil] at h
    cases h
    exact ⟨[], by simp, by rw [List.nil_append, sp_clean clean hc]; simp [shift]⟩
  | succ n ih =>
    intro l p acc acc' out hn h
    cases l with
    | nil =>
      rw [sp_nil] at h
      cases h
      exact ⟨[], by simp, by rw [List.nil_append, sp_clean clean hc]; simp [shift]⟩
    | cons c r =>
      simp only [List.length_cons] at hn
      rw [List.cons_append]
      by_cases c0 : isAtom c = true
      · have htl := tw_len isAtom r
        rw [sp_atom r p acc c0] at h
        rw [sp_atom _ _ _ c0, tw_tail isAtom 10 (59 :: clean) (by decide), drop_tail _ htl, show p + s + 1 + (r.takeWhile isAtom).length = p + 1 + (r.takeWhile isAtom).length + s from by omega]
        obtain ⟨new, h1, h2⟩ := ih _ _ _ (acc' ++ [⟨3, p + s, c :: r.takeWhile isAtom⟩]) _ (by simp; omega) h
        exact ⟨⟨3, p, c :: r.takeWhile isAtom⟩ :: new, by simp [h1], by rw [h2, shift_cons]; simp⟩
      have c0' := Bool.eq_false_iff.2 c0
      by_cases c1 : c.toNat = 34
      · rw [sp_quoted r p acc c1] at h
        split at h
        · cases h
        · rename_i t nx hq
          obtain ⟨n1, n2, n3, _⟩ := q_next _ _ _ _ _ _ _ (Nat.le_refl _) hq
          have hq2 := q_tail (10 :: 59 :: clean) s _ _ _ _ _ _ _ (Nat.le_refl _) hq
          rw [sp_quoted _ _ _ c1, show p + s + 1 = p + 1 + s from by omega, hq2]
          simp only
          rw [show nx + s - (p + 1 + s) = nx - (p + 1) from by omega, drop_tail _ (by omega)]
          obtain ⟨new, h1, h2⟩ := ih _ _ _ (acc' ++ [⟨4, p + s, t⟩]) _ (by simp; omega) h
          exact ⟨⟨4, p, t⟩ :: new, by simp [h1], by rw [h2, shift_cons]; simp⟩
      by_cases c2 : c.toNat = 59
      · have htl := tw_len notNl r
        rw [sp_remark r p acc c2] at h
        rw [sp_remark _ _ _ c2, tw_tail notNl 10 (59 :: clean) (by decide), drop_tail _ htl, show p + s + 1 + (r.takeWhile notNl).length = p + 1 + (r.takeWhile notNl).length + s from by omega]
        exact ih _ _ _ acc' _ (by simp; omega) h
      by_cases c3 : c.toNat = 40
      · rw [sp_open r p acc c3] at h
        rw [sp_open _ _ _ c3, Nat.add_right_comm]
        obtain ⟨new, h1, h2⟩ := ih _ _ _ (acc' ++ [⟨1, p + s, []⟩]) _ (by omega) h
        exact ⟨⟨1, p, []⟩ :: new, by simp [h1], by rw [h2, shift_cons]; simp⟩
      by_cases c4 : c.toNat = 41
      · rw [sp_close r p acc c4] at h
        rw [sp_close _ _ _ c4, Nat.add_right_comm]
        obtain ⟨new, h1, h2⟩ := ih _ _ _ (acc' ++ [⟨2, p + s, []⟩]) _ (by omega) h
        exact ⟨⟨2, p, []⟩ :: new, by simp [h1], by rw [h2, shift_cons]; simp⟩
      by_cases c5 : isParts c = true
      · rw [sp_parts r p acc c5] at h
        rw [sp_parts _ _ _ c5, Nat.add_right_comm]
        exact ih _ _ _ acc' _ (by omega) h
      rw [sp_bad r p acc c0' c1 c2 c3 c4 (Bool.eq_false_iff.2 c5)] at h
      cases h
theorem sp_blanks : ∀ (B X : List UInt8) (p : Nat) (acc : List Tok), (∀ c ∈ B, isParts c = true) → sp (B ++ X) p acc = sp X (p + B.length) acc
  | [], X, p, acc, _ => rfl
  | c :: B, X, p, acc, h => by
    rw [List.cons_append, sp_parts _ _ _ (h c (by simp)), sp_blanks B X (p + 1) acc (fun c hc => h c (by simp [hc])), List.length_cons, Nat.add_assoc, Nat.add_comm 1]
/-- A remark at the end, and blanks ahead. -/
theorem split_remarks (L clean B : List UInt8) (l : List Tok) (hc : ∀ c ∈ clean, notNl c = true) (hB : ∀ c ∈ B, isParts c = true) (hlen : B.length + L.length + 2 + clean.length ≤ 8192) (h : splitR L = .ok l) :
    splitR (B ++ L ++ [10, 59] ++ clean) = .ok (shift B.length l) := by
  unfold splitR at h ⊢
  rw [if_neg (by simp; omega)]
  rw [if_neg (by omega)] at h
  obtain ⟨new, h1, h2⟩ := sp_tail clean hc B.length L.length L 0 [] [] l (Nat.le_refl _) h
  rw [List.nil_append] at h1 h2
  subst h1
  rw [show B ++ L ++ [10, 59] ++ clean = B ++ (L ++ 10 :: 59 :: clean) from by simp, sp_blanks B _ 0 [] hB]
  exact h2
end Go.Proofs.Ytchfhkfepghfjaa
