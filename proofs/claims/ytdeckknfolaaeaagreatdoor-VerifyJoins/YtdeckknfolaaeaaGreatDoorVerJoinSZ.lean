/-
  The codes of VerifyJoins, reckoned.
-/
import Derived.Test.YtdeckknfolaaeaaGreatDoorG46
namespace Go.Proofs.YtdeckknfolaaeaaGreatDoor

def joinP (x : UInt8) : List UInt8 := [1, 2, 0, 6, 0, 8, 1, 2, 0, 4, x, 5, 0, 5]
def joinQ (o : Bool) : List UInt8 := if o then [2, 1, 120] else [1, 2, 0]
def joinB (x y : UInt8) (o : Bool) : List UInt8 := joinP x ++ joinQ o ++ [4, y, 3, x, 15]
def joinOk (x y : UInt8) (o : Bool) : Bool := okL numT 4 (joinB x y o) && decide ((objV oth0 (fS numT 4 (joinB x y o))).1 = (if x = y ∧ o = false then 0 else 21))
theorem joins_all : (([0, 1, 2, 3] : List UInt8).all fun x => ([0, 1, 2, 3] : List UInt8).all fun y => joinOk x y true && joinOk x y false) = true := by kernel_rfl
theorem joinsAt {x y : UInt8} (hx : x.toNat < 4) (hy : y.toNat < 4) (o : Bool) : joinOk x y o = true := by
  have mem : ∀ z : UInt8, z.toNat < 4 → z ∈ ([0, 1, 2, 3] : List UInt8) := fun z hz => by
    have h : z = 0 ∨ z = 1 ∨ z = 2 ∨ z = 3 := by
      have e : ∀ n : Nat, z.toNat = n → n < 4 → z = UInt8.ofNat n := fun n h _ => by
        rw [← h]
        exact (UInt8.ofNat_toNat).symm
      rcases (show z.toNat = 0 ∨ z.toNat = 1 ∨ z.toNat = 2 ∨ z.toNat = 3 by omega) with h | h | h | h
      · exact .inl (e 0 h (by omega))
      · exact .inr (.inl (e 1 h (by omega)))
      · exact .inr (.inr (.inl (e 2 h (by omega))))
      · exact .inr (.inr (.inr (e 3 h (by omega))))
    simpa using h
  have h1 := List.all_eq_true.1 (List.all_eq_true.1 joins_all x (mem x hx)) y (mem y hy)
  rw [Bool.and_eq_true] at h1
  cases o
  · exact h1.2
  · exact h1.1
end Go.Proofs.YtdeckknfolaaeaaGreatDoor
