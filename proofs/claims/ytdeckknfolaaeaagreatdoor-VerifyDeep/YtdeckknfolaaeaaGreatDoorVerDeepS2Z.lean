/-
  The codes of VerifyDeep, reckoned.
-/
import Derived.Test.YtdeckknfolaaeaaGreatDoorVerDeepDZ
namespace Go.Proofs.YtdeckknfolaaeaaGreatDoor

theorem deep_0 : ((List.range 8).all fun i => decide (61 ≤ 0 + i) || deepOk (0 + i)) = true := by kernel_rfl
theorem deep_1 : ((List.range 8).all fun i => decide (61 ≤ 8 + i) || deepOk (8 + i)) = true := by kernel_rfl
theorem deep_2 : ((List.range 8).all fun i => decide (61 ≤ 16 + i) || deepOk (16 + i)) = true := by kernel_rfl
theorem deep_3 : ((List.range 8).all fun i => decide (61 ≤ 24 + i) || deepOk (24 + i)) = true := by kernel_rfl
theorem deep_4 : ((List.range 8).all fun i => decide (61 ≤ 32 + i) || deepOk (32 + i)) = true := by kernel_rfl
theorem deep_5 : ((List.range 8).all fun i => decide (61 ≤ 40 + i) || deepOk (40 + i)) = true := by kernel_rfl
theorem deep_6 : ((List.range 8).all fun i => decide (61 ≤ 48 + i) || deepOk (48 + i)) = true := by kernel_rfl
theorem deep_7 : ((List.range 8).all fun i => decide (61 ≤ 56 + i) || deepOk (56 + i)) = true := by kernel_rfl
theorem deep_at {n : Nat} (h : n < 61) : deepOk n = true := by
  have key : ∀ (b : Nat), ((List.range 8).all fun i => decide (61 ≤ b + i) || deepOk (b + i)) = true → ∀ i, i < 8 → b + i < 61 → deepOk (b + i) = true := fun b hb i hi hlt => by
    have := List.all_eq_true.1 hb i (List.mem_range.2 hi)
    rw [decide_eq_false (by omega), Bool.false_or] at this
    exact this
  have hn : n = 8 * (n / 8) + n % 8 := by omega
  have hm : n % 8 < 8 := by omega
  have hd : n / 8 = 0 ∨ n / 8 = 1 ∨ n / 8 = 2 ∨ n / 8 = 3 ∨ n / 8 = 4 ∨ n / 8 = 5 ∨ n / 8 = 6 ∨ n / 8 = 7 := by omega
  rw [hn] at h ⊢
  generalize n % 8 = i at *
  rcases hd with e | e | e | e | e | e | e | e <;> rw [e] at h ⊢
  · exact key 0 deep_0 i hm (by omega)
  · exact key 8 deep_1 i hm (by omega)
  · exact key 16 deep_2 i hm (by omega)
  · exact key 24 deep_3 i hm (by omega)
  · exact key 32 deep_4 i hm (by omega)
  · exact key 40 deep_5 i hm (by omega)
  · exact key 48 deep_6 i hm (by omega)
  · exact key 56 deep_7 i hm (by omega)
end Go.Proofs.YtdeckknfolaaeaaGreatDoor
