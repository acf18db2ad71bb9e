/-
  What lacks, is too much, or is there twice does not hang on the order of the names; no program.
-/
import Derived.Test.YtmomapnafhppcaaCovSpec
namespace Go.Proofs.Ytmomapnafhppcaa

def tlF : List (List UInt8) → List (List UInt8) → Nat
  | _, [] => 0
  | s, y :: r => (if y ∈ s then 1 else 0) + tlF (s ++ [y]) r
theorem tlF_congr : ∀ (l s s' : List (List UInt8)), (∀ y, y ∈ s ↔ y ∈ s') → tlF s l = tlF s' l
  | [], _, _, _ => rfl
  | y :: r, s, s', h => by
    rw [tlF, tlF, tlF_congr r (s ++ [y]) (s' ++ [y]) (fun z => by simp [h z])]
    simp [h y]
theorem tlF_perm {l l' : List (List UInt8)} (h : l.Perm l') : ∀ s, tlF s l = tlF s l' := by
  induction h with
  | nil => intro s; rfl
  | cons x _ ih => intro s; rw [tlF, tlF, ih]
  | swap x y l =>
    intro s
    simp only [tlF]
    rw [tlF_congr l (s ++ [y] ++ [x]) (s ++ [x] ++ [y]) (fun z => by simp [or_comm, or_assoc])]
    by_cases hxy : x = y
    · subst hxy; rfl
    · have hyx : ¬ y = x := fun e => hxy e.symm
      by_cases hx : x ∈ s <;> by_cases hy : y ∈ s <;> simp [hx, hy, hxy, hyx]
  | trans _ _ ih1 ih2 => intro s; rw [ih1, ih2]
theorem twF_len : ∀ (xs s : List (List UInt8)), (twF s xs).length = tlF s (xs.map endR)
  | [], _ => rfl
  | x :: r, s => by
    rw [twF, List.length_append, twF_len r, List.map_cons, tlF]
    split <;> rfl
theorem twice_perm {xs ys : List (List UInt8)} (h : xs.Perm ys) : (twiceR xs).length = (twiceR ys).length := by
  rw [twiceR, twiceR, twF_len, twF_len, tlF_perm (h.map endR)]
theorem extra_perm (cs : List (List UInt8)) {xs ys : List (List UInt8)} (h : xs.Perm ys) : (extraR cs xs).length = (extraR cs ys).length := (h.filter _).length_eq
theorem miss_perm (cs : List (List UInt8)) {xs ys : List (List UInt8)} (h : xs.Perm ys) : missR cs xs = missR cs ys := by
  unfold missR
  congr 1
  funext c
  have := (h.map endR).mem_iff (a := c)
  rw [Bool.eq_iff_iff, decide_eq_true_iff, decide_eq_true_iff]
  exact not_congr this
theorem turn_perm (xs : List (List UInt8)) (k : Nat) : (xs.drop k ++ xs.take k).Perm xs := by
  have := List.perm_append_comm (l₁ := xs.drop k) (l₂ := xs.take k)
  rwa [List.take_append_drop] at this
theorem twF_lenle : ∀ (xs s : List (List UInt8)), (twF s xs).length ≤ xs.length
  | [], _ => Nat.le_refl _
  | x :: r, s => by
    rw [twF, List.length_append, List.length_cons]
    have := twF_lenle r (s ++ [endR x])
    split <;> simp <;> omega
end Go.Proofs.Ytmomapnafhppcaa
