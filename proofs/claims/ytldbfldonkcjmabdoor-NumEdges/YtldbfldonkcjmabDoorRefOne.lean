/-
  The document's own answers, on: One, Less, Index.
-/
import Derived.Test.YtldbfldonkcjmabDoorRef
namespace Go.Proofs.YtldbfldonkcjmabDoor
open Go.RowKit Ieee

theorem fit_one (p q : Int) (h1 : p.natAbs ≤ 1048576) (h2 : q.natAbs ≤ 1048576) : fit p q = (p, q, 0) := if_pos ⟨h1, h2⟩

end Go.Proofs.YtldbfldonkcjmabDoor
