/-
  Texts in order, each once: what sorting and compacting come to, and what putting one text among others does. No program in it.
-/
import Derived.Lib.SlicesCompact
import Derived.Test.YtcjddbponknnoaaGreatDoorTypesMath
namespace Go.Proofs.YtcjddbponknnoaaGreatDoor
open Go.Lib

abbrev Str : Type := List UInt8
theorem str_total (a b : Str) : a ≤ b ∨ b ≤ a := List.le_total a b
theorem str_le_trans {a b c : Str} (h : a ≤ b) (k : b ≤ c) : a ≤ c := List.le_trans h k
theorem str_le_anti {a b : Str} (h : a ≤ b) (k : b ≤ a) : a = b := List.le_antisymm h k
theorem str_lt_iff {a b : Str} : a < b ↔ a ≤ b ∧ a ≠ b := by
  constructor
  · intro h
    exact ⟨List.le_of_lt h, fun e => by subst e; exact List.lt_irrefl _ h⟩
  · rintro ⟨h, hn⟩
    exact Classical.byContradiction fun hl => hn (str_le_anti h (List.not_lt.1 hl))
theorem str_lt_trans {a b c : Str} (h : a < b) (k : b < c) : a < c := List.lt_trans h k
theorem str_lt_of_le {a b c : Str} (h : a ≤ b) (k : b < c) : a < c := by
  obtain ⟨k1, k2⟩ := str_lt_iff.1 k
  refine str_lt_iff.2 ⟨str_le_trans h k1, fun e => ?_⟩
  subst e
  exact k2 (str_le_anti k1 h)
/-- Strictly in order. -/
def Asc (l : List Str) : Prop := l.Pairwise (· < ·)
theorem asc_ext : ∀ {l m : List Str}, Asc l → Asc m → (∀ x, x ∈ l ↔ x ∈ m) → l = m
  | [], [], _, _, _ => rfl
  | [], b :: m, _, _, h => by have := (h b).2 (by simp); simp at this
  | a :: l, [], _, _, h => by have := (h a).1 (by simp); simp at this
  | a :: l, b :: m, h1, h2, h => by
    unfold Asc at h1 h2
    rw [List.pairwise_cons] at h1 h2
    have hab : a = b := by
      have ha := (h a).1 (by simp)
      have hb := (h b).2 (by simp)
      simp only [List.mem_cons] at ha hb
      rcases ha with e | ha
      · exact e
      · rcases hb with e | hb
        · exact e.symm
        · exact absurd (str_lt_trans (h1.1 b hb) (h2.1 a ha)) (List.lt_irrefl _)
    subst hab
    rw [asc_ext h1.2 h2.2 (fun x => ?_)]
    have hx := h x
    simp only [List.mem_cons] at hx
    constructor
    · intro hl
      rcases hx.1 (.inr hl) with e | hm
      · subst e
        exact absurd (h1.1 _ hl) (List.lt_irrefl _)
      · exact hm
    · intro hm
      rcases hx.2 (.inr hm) with e | hl
      · subst e
        exact absurd (h2.1 _ hm) (List.lt_irrefl _)
      · exact hl
theorem comp_mem (d : Array Str) : ∀ (n : Nat) (x : Str), x ∈ compactUpTo d n ↔ ∃ j, j < n ∧ d[j]! = x
  | 0, x => by simp [compactUpTo]
  | n + 1, x => by
    rw [compactUpTo_succ, List.mem_append, comp_mem d n x]
    by_cases hk : keeps d n = true
    · rw [if_pos hk]
      simp only [List.mem_singleton]
      constructor
      · rintro (⟨j, h1, h2⟩ | h)
        · exact ⟨j, by omega, h2⟩
        · exact ⟨n, by omega, h.symm⟩
      · rintro ⟨j, h1, h2⟩
        rcases (by omega : j < n ∨ j = n) with h | rfl
        · exact .inl ⟨j, h, h2⟩
        · exact .inr h2.symm
    · rw [if_neg hk]
      simp only [keeps, decide_eq_true_eq, not_or, ne_eq, Classical.not_not] at hk
      constructor
      · rintro (⟨j, h1, h2⟩ | h)
        · exact ⟨j, by omega, h2⟩
        · simp at h
      · rintro ⟨j, h1, h2⟩
        rcases (by omega : j < n ∨ j = n) with h | rfl
        · exact .inl ⟨j, h, h2⟩
        · exact .inl ⟨j - 1, by omega, by rw [← hk.2]; exact h2⟩
theorem comp_asc (d : Array Str) (hd : ∀ i j, i ≤ j → j < d.size → d[i]! ≤ d[j]!) : ∀ n, n ≤ d.size → Asc (compactUpTo d n)
  | 0, _ => by simp [compactUpTo, Asc]
  | n + 1, hn => by
    rw [compactUpTo_succ]
    unfold Asc
    rw [List.pairwise_append]
    refine ⟨comp_asc d hd n (by omega), ?_, fun x hx y hy => ?_⟩
    · split <;> simp
    · by_cases hk : keeps d n = true
      · rw [if_pos hk] at hy
        simp only [List.mem_singleton] at hy
        subst hy
        obtain ⟨j, hj, rfl⟩ := (comp_mem d n x).1 hx
        simp only [keeps, decide_eq_true_eq] at hk
        rcases hk with hk | hk
        · omega
        · exact str_lt_of_le (hd j (n - 1) (by omega) (by omega)) (str_lt_iff.2 ⟨hd (n - 1) n (by omega) (by omega), fun e => hk e.symm⟩)
      · rw [if_neg hk] at hy
        simp at hy
def sortR (l : List Str) : List Str := l.mergeSort fun x y => decide (x ≤ y)
theorem sortR_length (l : List Str) : (sortR l).length = l.length := List.length_mergeSort _
theorem sortR_mem (l : List Str) (x : Str) : x ∈ sortR l ↔ x ∈ l := (List.mergeSort_perm l _).mem_iff
theorem sortR_pair (l : List Str) : (sortR l).Pairwise (fun x y => x ≤ y) := by
  have := List.pairwise_mergeSort (le := fun x y : Str => decide (x ≤ y)) (fun a b c h k => by simp only [decide_eq_true_eq] at h k ⊢; exact str_le_trans h k) (fun a b => by simp only [Bool.or_eq_true, decide_eq_true_eq]; exact str_total a b) l
  exact this.imp (fun h => of_decide_eq_true h)
/-- The texts in order, each once. -/
def onceR (l : List Str) : List Str := compact (sortR l)
theorem getBang (l : List Str) (j : Nat) (h : j < l.length) : l.toArray[j]! = l[j] := by simp [h]
theorem onceR_asc (l : List Str) : Asc (onceR l) := by
  unfold onceR compact
  refine comp_asc _ (fun i j hij hj => ?_) _ (by simp)
  simp only [List.size_toArray] at hj
  rw [getBang _ i (by omega), getBang _ j hj]
  rcases Nat.lt_or_eq_of_le hij with h | rfl
  · exact List.pairwise_iff_getElem.1 (sortR_pair l) i j (by omega) hj h
  · exact List.le_refl _
theorem onceR_mem (l : List Str) (x : Str) : x ∈ onceR l ↔ x ∈ l := by
  unfold onceR compact
  rw [comp_mem, ← sortR_mem]
  constructor
  · rintro ⟨j, hj, h⟩
    rw [getBang _ j hj] at h
    subst h
    exact List.getElem_mem hj
  · intro h
    obtain ⟨j, hj, rfl⟩ := List.getElem_of_mem h
    exact ⟨j, hj, getBang _ j hj⟩
theorem onceR_eq {l m : List Str} (ha : Asc m) (h : ∀ x, x ∈ m ↔ x ∈ l) : onceR l = m := asc_ext (onceR_asc l) ha (fun x => by rw [onceR_mem, h])

/-- A text is put among others. -/
def putF (s : Str) : Bool → List Str → List Str
  | d, [] => if d then [] else [s]
  | d, x :: r => (if d = false ∧ s ≤ x then [s] else []) ++ ((if x ≠ s then [x] else []) ++ putF s (d || decide (s ≤ x)) r)
def putR (l : List Str) (s : Str) : List Str := putF s false l
theorem putF_done (s : Str) : ∀ l : List Str, putF s true l = l.filter (fun x => decide (x ≠ s))
  | [] => by simp [putF]
  | x :: r => by
    rw [putF, Bool.true_or, putF_done s r, List.filter_cons]
    by_cases h : x = s <;> simp [h]
theorem putR_mem (s : Str) : ∀ (l : List Str) (x : Str), x ∈ putR l s ↔ x ∈ l ∨ x = s
  | [], x => by simp [putR, putF]
  | y :: r, x => by
    have ih := putR_mem s r x
    unfold putR at ih ⊢
    rw [putF]
    by_cases h : s ≤ y
    · rw [if_pos ⟨rfl, h⟩, Bool.false_or, decide_eq_true h, putF_done]
      by_cases hy : y = s
      · subst hy
        simp only [ne_eq, not_true_eq_false, if_false, List.nil_append, List.mem_append, List.mem_filter, decide_eq_true_eq, List.mem_cons, List.not_mem_nil, or_false]
        constructor
        · rintro (h | h)
          · exact .inr h
          · exact .inl (.inr h.1)
        · rintro ((h | h) | h)
          · exact .inl h
          · by_cases e : x = y
            · exact .inl e
            · exact .inr ⟨h, e⟩
          · exact .inl h
      · simp only [ne_eq, hy, not_false_eq_true, if_true, List.mem_append, List.mem_filter, decide_eq_true_eq, List.mem_cons, List.not_mem_nil, or_false]
        constructor
        · rintro (h | h | h)
          · exact .inr h
          · exact .inl (.inl h)
          · exact .inl (.inr h.1)
        · rintro ((h | h) | h)
          · exact .inr (.inl h)
          · by_cases e : x = s
            · exact .inl e
            · exact .inr (.inr ⟨h, e⟩)
          · exact .inl h
    · have hy : y ≠ s := fun e => h (by rw [e]; exact List.le_refl _)
      rw [if_neg (fun hh => h hh.2), Bool.false_or, decide_eq_false h]
      simp only [ne_eq, hy, not_false_eq_true, if_true, List.nil_append, List.mem_append, List.mem_cons, List.not_mem_nil, or_false, ih]
      constructor
      · rintro (h | h | h)
        · exact .inl (.inl h)
        · exact .inl (.inr h)
        · exact .inr h
      · rintro ((h | h) | h)
        · exact .inl h
        · exact .inr (.inl h)
        · exact .inr (.inr h)
theorem putR_asc (s : Str) : ∀ (l : List Str), Asc l → Asc (putR l s)
  | [], _ => by simp [putR, putF, Asc]
  | y :: r, ha => by
    have ih := putR_asc s r
    have hmem := putR_mem s r
    unfold putR at ih hmem ⊢
    unfold Asc at ha ih ⊢
    rw [List.pairwise_cons] at ha
    rw [putF]
    by_cases h : s ≤ y
    · rw [if_pos ⟨rfl, h⟩, Bool.false_or, decide_eq_true h, putF_done, List.singleton_append, List.pairwise_cons]
      refine ⟨fun x hx => ?_, ?_⟩
      · simp only [List.mem_append, List.mem_filter, decide_eq_true_eq] at hx
        rcases hx with hx | hx
        · split at hx
          · rename_i hy
            simp only [List.mem_singleton] at hx
            subst hx
            exact str_lt_iff.2 ⟨h, fun e => hy e.symm⟩
          · simp at hx
        · exact str_lt_of_le h (ha.1 x hx.1)
      · rw [List.pairwise_append]
        refine ⟨by split <;> simp, ha.2.sublist List.filter_sublist, fun a h1 b h2 => ?_⟩
        split at h1
        · simp only [List.mem_singleton] at h1
          subst h1
          exact ha.1 b (List.mem_filter.1 h2).1
        · simp at h1
    · have hy : y ≠ s := fun e => h (by rw [e]; exact List.le_refl _)
      rw [if_neg (fun hh => h hh.2), Bool.false_or, decide_eq_false h, if_pos hy, List.nil_append, List.singleton_append, List.pairwise_cons]
      refine ⟨fun x hx => ?_, ih ha.2⟩
      rcases (hmem x).1 hx with hx | rfl
      · exact ha.1 x hx
      · rcases str_total y x with k | k
        · exact str_lt_iff.2 ⟨k, hy⟩
        · exact absurd k h
/-- Several texts are put. -/
def putsR (l : List Str) (m : List Str) : List Str := m.foldl putR l
theorem putsR_mem : ∀ (m l : List Str) (x : Str), x ∈ putsR l m ↔ x ∈ l ∨ x ∈ m
  | [], l, x => by simp [putsR]
  | s :: m, l, x => by
    have := putsR_mem m (putR l s) x
    unfold putsR at this ⊢
    rw [List.foldl_cons, this, putR_mem]
    simp only [List.mem_cons]
    constructor
    · rintro ((h | h) | h)
      · exact .inl h
      · exact .inr (.inl h)
      · exact .inr (.inr h)
    · rintro (h | h | h)
      · exact .inl (.inl h)
      · exact .inl (.inr h)
      · exact .inr h
theorem putsR_asc : ∀ (m l : List Str), Asc l → Asc (putsR l m)
  | [], _, h => h
  | s :: m, l, h => by
    have := putsR_asc m (putR l s) (putR_asc s l h)
    unfold putsR at this ⊢
    rw [List.foldl_cons]
    exact this
end Go.Proofs.YtcjddbponknnoaaGreatDoor
