/-
  Cases that are made of numbers, and their names; no walk.
-/
import Derived.Test.YtmomapnafhppcaaCovTurnM
import Derived.Test.YtmomapnafhppcaaCovCases
namespace Go.Proofs.Ytmomapnafhppcaa
open Go.RowKit

def cN (k : Nat) : List UInt8 := [67, UInt8.ofNat (97 + k)]
def lN (n : Nat) : List (List UInt8) := (List.range n).map cN
def sN (d : Bool) (x : List UInt8) : List UInt8 := if d then 109 :: 46 :: x else x
def nN (n t : Nat) (d : Bool) (m : Nat) : List (List UInt8) := (List.range m).map fun i => sN d (cN ((i + t) % n))
def wholeN (n t : Nat) (d : Bool) : Bool :=
  decide (missR (lN n) (nN n t d n) = []) && decide (extraR (lN n) (nN n t d n) = []) && decide (twiceR (nN n t d n) = []) && decide (casesR (lN n) = lN n)
def lessN (n t : Nat) (d : Bool) (k : Nat) : List (List UInt8) := (nN n t d n).take k ++ (nN n t d n).drop (k + 1)
def goneN (n t : Nat) (d : Bool) (k : Nat) : Bool :=
  decide (missR (lN n) (lessN n t d k) = [endR (sN d (cN ((k + t) % n)))]) && decide (extraR (lN n) (lessN n t d k) = [])
theorem whole_all : ((List.range 6).all fun n => (List.range 21).all fun t => wholeN (n + 1) t false && wholeN (n + 1) t true) = true := by decide +kernel
theorem gone_all : ((List.range 6).all fun n => (List.range 21).all fun t => (List.range (n + 1)).all fun k => goneN (n + 1) t false k && goneN (n + 1) t true k) = true := by decide +kernel
theorem wholeN_is (n t : Nat) (d : Bool) (h0 : 1 ≤ n) (h1 : n ≤ 6) (ht : t ≤ 20) : missR (lN n) (nN n t d n) = [] ∧ extraR (lN n) (nN n t d n) = [] ∧ twiceR (nN n t d n) = [] ∧ casesR (lN n) = lN n := by
  have h := List.all_eq_true.1 (List.all_eq_true.1 whole_all (n - 1) (List.mem_range.2 (by omega))) t (List.mem_range.2 (by omega))
  rw [show n - 1 + 1 = n by omega, Bool.and_eq_true] at h
  have h2 : wholeN n t d = true := by
    cases d
    · exact h.1
    · exact h.2
  simp only [wholeN, Bool.and_eq_true, decide_eq_true_eq] at h2
  exact ⟨h2.1.1.1, h2.1.1.2, h2.1.2, h2.2⟩
theorem goneN_is (n t : Nat) (d : Bool) (k : Nat) (h0 : 1 ≤ n) (h1 : n ≤ 6) (ht : t ≤ 20) (hk : k < n) : missR (lN n) (lessN n t d k) = [endR (sN d (cN ((k + t) % n)))] ∧ extraR (lN n) (lessN n t d k) = [] := by
  have h := List.all_eq_true.1 (List.all_eq_true.1 (List.all_eq_true.1 gone_all (n - 1) (List.mem_range.2 (by omega))) t (List.mem_range.2 (by omega))) k (List.mem_range.2 (by omega))
  rw [show n - 1 + 1 = n by omega, Bool.and_eq_true] at h
  have h2 : goneN n t d k = true := by
    cases d
    · exact h.1
    · exact h.2
  simp only [goneN, Bool.and_eq_true, decide_eq_true_eq] at h2
  exact h2
theorem lN_len (n : Nat) : (lN n).length = n := by simp [lN]
theorem nN_len (n t : Nat) (d : Bool) (m : Nat) : (nN n t d m).length = m := by simp [nN]
theorem lN_succ (n : Nat) : lN (n + 1) = lN n ++ [cN n] := by simp [lN, List.range_succ]
theorem nN_succ (n t : Nat) (d : Bool) (m : Nat) : nN n t d (m + 1) = nN n t d m ++ [sN d (cN ((m + t) % n))] := by simp [nN, List.range_succ]
theorem lN_at (n k : Nat) (h : k < n) : (lN n)[k]? = some (cN k) := by simp [lN, h]
theorem nN_at (n t : Nat) (d : Bool) (m k : Nat) (h : k < m) : (nN n t d m)[k]? = some (sN d (cN ((k + t) % n))) := by simp [nN, h]
theorem lN_small (n : Nat) : ∀ x ∈ lN n, x.length ≤ 4 := by
  intro x hx
  obtain ⟨k, _, rfl⟩ := List.mem_map.1 hx
  simp [cN]
theorem nN_small (n t : Nat) (d : Bool) (m : Nat) : ∀ x ∈ nN n t d m, x.length ≤ 4 := by
  intro x hx
  obtain ⟨k, _, rfl⟩ := List.mem_map.1 hx
  cases d <;> simp [sN, cN]
theorem conv97 (k : Nat) (hk : k < 6) (u : World) : (convert 21 9 (.int .i32 (97 + (k : Int)))).run Try.prog u = .ok (.string (str [UInt8.ofNat (97 + k)])) u := by
  have h : k = 0 ∨ k = 1 ∨ k = 2 ∨ k = 3 ∨ k = 4 ∨ k = 5 := by omega
  rcases h with rfl | rfl | rfl | rfl | rfl | rfl <;> (simp [convert, run_underlying Try.underlying21, run_underlying Try.underlying9, Conv.intToString]; rfl)
end Go.Proofs.Ytmomapnafhppcaa
