/-
  The codes of VerifyDeep: as many numbers on the stack, and their sums; what must be reckoned of them.
-/
import Derived.Test.YtdeckknfolaaeaaGreatDoorG46
namespace Go.Proofs.YtdeckknfolaaeaaGreatDoor

def deepP (n : Nat) : List UInt8 := (List.replicate n [1, 2, 0]).flatten
def deepQ (n : Nat) : List UInt8 := (List.replicate n [7, 0]).flatten
def deepB (n : Nat) : List UInt8 := deepP n ++ deepQ (n - 1) ++ [15]
def deepT (n : Nat) : List UInt8 := deepP n ++ deepQ (n - 1) ++ [7, 0, 15]
def deepOk (n : Nat) : Bool := okL numT 1 (deepB (n + 1)) && (decide (objV oth0 (fS numT 1 (deepB (n + 1))) = (if n < 48 then (0, 0) else (20, 144))) && (decide (48 ≤ n) || (okL numT 1 (deepT (n + 1)) && decide ((objV oth0 (fS numT 1 (deepT (n + 1)))).1 = 20))))
theorem deepP_next (n : Nat) : deepP (n + 1) = deepP n ++ [1, 2, 0] := by
  unfold deepP
  rw [List.replicate_succ']
  simp
theorem deepQ_next (n : Nat) : deepQ (n + 1) = deepQ n ++ [7, 0] := by
  unfold deepQ
  rw [List.replicate_succ']
  simp
theorem deepP_len (n : Nat) : (deepP n).length = 3 * n := by
  induction n with
  | zero => rfl
  | succ n ih => rw [deepP_next, List.length_append, ih]; simp; omega
theorem deepQ_len (n : Nat) : (deepQ n).length = 2 * n := by
  induction n with
  | zero => rfl
  | succ n ih => rw [deepQ_next, List.length_append, ih]; simp; omega
end Go.Proofs.YtdeckknfolaaeaaGreatDoor
