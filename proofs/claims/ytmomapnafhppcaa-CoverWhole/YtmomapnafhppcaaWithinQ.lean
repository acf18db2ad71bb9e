/-
  hawserbook.Within from 0 on.
-/
import Derived.Test.YtmomapnafhppcaaLexSmall
import Derived.Test.YtmomapnafhppcaaLexMem
namespace Go.Proofs.Ytmomapnafhppcaa
open Go.RowKit

theorem tmodQ (n m : Int) (hm : 0 < m) : (0 ≤ n.tmod m ∧ n.tmod m = n % m) ∨ (n.tmod m < 0 ∧ n.tmod m + m = n % m) := by
  have h := Int.tmod_eq_emod (a := n) (b := m)
  have h1 := Int.emod_nonneg n (show m ≠ 0 by omega)
  have h2 := Int.emod_lt_of_pos n hm
  by_cases hc : 0 ≤ n ∨ m ∣ n
  · rw [if_pos hc] at h
    left
    omega
  · rw [if_neg hc] at h
    right
    omega
set_option maxRecDepth 1000000 in
theorem withinQ (n : Int) (hi : Nat) (_h0 : -9223372036854775808 ≤ n) (_h1 : n ≤ 9223372036854775807) (hh : hi ≤ 1000000000) (w : World) : Calls Try.prog 15 #[.int .i64 n, .int .i64 0, .int .i64 hi] w (Pu (.int .i64 (n % ((hi : Int) + 1))) w) := by
  have hb := Int.emod_lt_of_pos n (show 0 < (hi : Int) + 1 by omega)
  have hb0 := Int.emod_nonneg n (show (hi : Int) + 1 ≠ 0 by omega)
  have hne : ¬ ((hi : Int) + 1 = 0) := by omega
  have hpos : (0 : Int) < (hi : Int) + 1 := by omega
  rcases tmodQ n (hi + 1) (by omega) with ⟨h2, h3⟩ | ⟨h2, h3⟩
  · rw [← h3] at hb hb0 ⊢
    generalize hz : n.tmod ((hi : Int) + 1) = z at *
    clear h3
    go_enter Try.func15, Try.ntmps15
    go_wp2
    go_ret
    exact ⟨rfl, rfl⟩
  · rw [← h3] at hb hb0 ⊢
    generalize hz : n.tmod ((hi : Int) + 1) = z at *
    clear h3
    rw [← Int.add_assoc]
    go_enter Try.func15, Try.ntmps15
    go_wp2
    go_ret
    exact ⟨rfl, rfl⟩

end Go.Proofs.Ytmomapnafhppcaa
