/-
  The package's Encode.
-/
import Derived.Test.YtcjddbponknnoaaGreatDoorIfaceWrite
import Derived.Test.YtcjddbponknnoaaGreatDoorIfaceRight
namespace Go.Proofs.YtcjddbponknnoaaGreatDoor
open Go.RowKit

/-- What Encode answers. -/
def EncE (m : List UInt8) (l : List It) (w : World) (e : Ending) (w' : World) : Prop :=
  ((rightI m l = 0 ∧ ∃ v g, e = .returned (.tuple #[v, .int .i64 0]) ∧ Wire.Row w' g v (ifaceB m l) ∧ w.heap.size ≤ g) ∨ (rightI m l ≠ 0 ∧ e = .returned (.tuple #[.slice none 0 0, .int .i64 (rightI m l : Int)]))) ∧ Below w.heap.size w w'
end Go.Proofs.YtcjddbponknnoaaGreatDoor
