/-
  What is read has no more nodes than signs, and no text that is too long. No program in it.
-/
import Derived.Test.YtcokihblicgbpaaTreAZ
import Derived.Test.YtcokihblicgbpaaTypAZ
namespace Go.Proofs.Ytcokihblicgbpaa

theorem nodes_toks (t : Tr) : Right t → nodes t ≤ (toks t).length := by
  induction t using tr_ind with
  | h t ih =>
    intro hR
    rw [Right_eq] at hR
    rw [nodes_eq, toks_eq]
    rcases hR with ⟨h1, _, h3⟩ | ⟨h1, _, h3, _⟩
    · rw [if_pos h1]
      have key : ∀ l : List Tr, (∀ k ∈ l, k ∈ t.kids) → (l.map nodes).sum ≤ ((l.map toks).flatten).length := by
        intro l
        induction l with
        | nil => intro _; simp
        | cons a l ihl =>
          intro hl
          have h5 := ih a (hl a (by simp)) (h3 a (hl a (by simp)))
          have h6 := ihl (fun k hk => hl k (by simp [hk]))
          simp only [List.map_cons, List.sum_cons, List.flatten_cons, List.length_append]
          omega
      have := key t.kids (fun k hk => hk)
      simp only [List.length_cons, List.length_append, List.length_nil]
      omega
    · rw [h3]
      simp [h1]
theorem tx_toks (t : Tr) : Right t → (∀ k ∈ toks t, k.text.length ≤ 8192) → TxOk t := by
  induction t using tr_ind with
  | h t ih =>
    intro hR hk
    rw [TxOk_iff]
    rw [toks_eq] at hk
    rw [Right_eq] at hR
    rcases hR with ⟨h1, _, h3⟩ | ⟨h1, _, h3, _⟩
    · rw [if_pos h1] at hk
      refine ⟨hk ⟨1, t.place, t.text⟩ (by simp), fun k hkk => ih k hkk (h3 k hkk) (fun j hj => hk j ?_)⟩
      simp only [List.mem_cons, List.mem_append, List.mem_flatten, List.mem_map]
      exact .inr (.inl ⟨toks k, ⟨k, hkk, rfl⟩, hj⟩)
    · rw [if_neg h1] at hk
      refine ⟨hk ⟨t.kind, t.place, t.text⟩ (by simp), fun k hkk => ?_⟩
      rw [h3] at hkk
      cases hkk
theorem parse_fit {L : List UInt8} {t : Tr} (h : parseR L = .ok t) : TxOk t ∧ nodes t ≤ 8192 := by
  obtain ⟨h1, h2, _, _⟩ := parse_ok h
  obtain ⟨h3, h4⟩ := split_size h2
  have h5 := nodes_toks t h1
  exact ⟨tx_toks t h1 h4, by omega⟩
end Go.Proofs.Ytcokihblicgbpaa
