/-
  What the statement on Same asks, without a program: either way, with one thing turned, and of Breaks.
-/
import Derived.Test.YtibgmflamnonoabGreatIfaceBytes
import Derived.Test.YtibgmflamnonoabGreatIfaceFind2
namespace Go.Proofs.YtibgmflamnonoabGreat

theorem sameI_comm (a b : It) : sameI a b = sameI b a := by
  cases h : sameI a b
  · cases h' : sameI b a
    · rfl
    · rw [(sameI_iff b a).1 h'] at h
      rw [(sameI_iff a a).2 rfl] at h
      cases h
  · rw [(sameI_iff a b).1 h]
    exact ((sameI_iff b b).2 rfl).symm
theorem same_name (k : Int) (n t : List UInt8) (c : List Cs) : sameI ⟨k, n, t, c⟩ ⟨k, n ++ [95], t, c⟩ = false := by
  have : ¬ n = n ++ [95] := fun e => by have := congrArg List.length e; simp at this
  simp [sameI, this]
theorem kind_turn {k : Int} (h : kindE k = true) : k % 3 + 1 ≠ k ∧ 1 ≤ k % 3 + 1 ∧ k % 3 + 1 ≤ 3 := by
  simp only [kindE, Bool.or_eq_true, decide_eq_true_eq] at h
  rcases h with rfl | rfl | rfl <;> decide
theorem same_kind {k : Int} (h : kindE k = true) (n t : List UInt8) (c : List Cs) : sameI ⟨k, n, t, c⟩ ⟨k % 3 + 1, n, t, c⟩ = false := by
  have := (kind_turn h).1
  simp [sameI, Ne.symm this]
theorem items_right : ∀ {p : Option (List UInt8)} {l : List It}, itemsE p l = 0 → ∀ x ∈ l, kindE x.kind = true ∧ x.name.length ≤ 24
  | p, y :: r, h, x, hx => by
    rw [itemsE] at h
    by_cases h0 : itemE p y = 0
    · rw [if_pos h0] at h
      rcases List.mem_cons.1 hx with rfl | hx
      · rw [itemE] at h0
        by_cases hk : kindE x.kind = false
        · rw [if_pos hk] at h0
          cases h0
        · rw [if_neg hk] at h0
          by_cases hn : namedE x = false
          · rw [if_pos hn] at h0
            cases h0
          · refine ⟨by simpa using hk, ?_⟩
            have hn' : namedE x = true := by simpa using hn
            unfold namedE at hn'
            split at hn'
            · exact big_len hn'
            · exact value_len hn'
      · exact items_right h x hx
    · rw [if_neg h0] at h
      exact absurd h h0
theorem right_items {m : List UInt8} {l : List It} (h : rightI m l = 0) : ∀ x ∈ l, kindE x.kind = true ∧ x.name.length ≤ 24 := by
  unfold rightI at h
  by_cases h1 : valueR m = false
  · rw [if_pos h1] at h
    cases h
  · rw [if_neg h1] at h
    by_cases h2 : 32 < l.length
    · rw [if_pos h2] at h
      cases h
    · rw [if_neg h2] at h
      exact items_right h
theorem want_is (l l2 : List It) (q : List UInt8) : ((findI l q).isSome && !((findI l2 q).isSome && sameI ((findI l q).getD it0) ((findI l2 q).getD it0))) = brokenI l l2 q := by
  unfold brokenI
  cases findI l q with
  | none => rfl
  | some a =>
    cases findI l2 q with
    | none => rfl
    | some b => simp
theorem found_is (l l2 : List It) (xs : List (List UInt8)) (q : List UInt8) (h : q ∈ xs) : (breaksI l l2 xs).any (fun y => decide (y = q)) = brokenI l l2 q := by
  rw [Bool.eq_iff_iff, List.any_eq_true]
  unfold breaksI
  constructor
  · rintro ⟨y, hy, he⟩
    rw [decide_eq_true_eq] at he
    subst he
    exact (List.mem_filter.1 hy).2
  · intro hb
    exact ⟨q, List.mem_filter.2 ⟨(onceR_mem xs q).2 h, hb⟩, by simp⟩
theorem find_ok {l : List It} (h : ∀ x ∈ l, ItOk x) (q : List UInt8) : ItOk ((findI l q).getD it0) := by
  cases e : findI l q with
  | none => exact ⟨by decide, by decide, by simp [it0, Tk], by simp [it0, Tk], by simp [it0], by simp [it0]⟩
  | some x => exact h x (List.mem_of_find?_eq_some e)
end Go.Proofs.YtibgmflamnonoabGreat
