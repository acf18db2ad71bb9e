/-
  The package's Same, and what it calls.
-/
import Derived.Deep.LoopGhost
import Derived.Test.YtcjddbponknnoaaGreatDoorIfaceMem
namespace Go.Proofs.YtcjddbponknnoaaGreatDoor
open Go.RowKit

theorem take_both {α : Type} {xs ys : List α} {k : Nat} (hx : k < xs.length) (hy : k < ys.length) (h : xs.take k = ys.take k) (he : xs[k] = ys[k]) : xs.take (k + 1) = ys.take (k + 1) := by
  rw [List.take_succ_eq_append_getElem hx, List.take_succ_eq_append_getElem hy, h, he]
end Go.Proofs.YtcjddbponknnoaaGreatDoor
