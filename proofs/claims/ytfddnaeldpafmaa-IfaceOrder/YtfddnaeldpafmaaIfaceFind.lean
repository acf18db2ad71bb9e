/-
  The package's Find, and the copy that it answers.
-/
import Derived.Deep.RegionHeld3
import Derived.Deep.LoopGhost
import Derived.Laws.Rows
import Derived.Test.YtfddnaeldpafmaaIfaceCopy
import Derived.Test.YtfddnaeldpafmaaIfaceKnown
namespace Go.Proofs.Ytfddnaeldpafmaa
open Go.RowKit

theorem four4 {w : World} {b : Nat} {z0 z1 z2 z3 : Value} {e : TypeId} (h : w.heap[b]? = some (.cells #[z0, z1, z2, z3] e (0, 0))) : w.cell? ⟨b, 0, none⟩ = some z0 ∧ w.cell? ⟨b, 1, none⟩ = some z1 ∧ w.cell? ⟨b, 2, none⟩ = some z2 ∧ w.cell? ⟨b, 3, none⟩ = some z3 ∧ w.frozen? ⟨b, 0, none⟩ = false ∧ w.frozen? ⟨b, 1, none⟩ = false ∧ w.frozen? ⟨b, 2, none⟩ = false ∧ w.frozen? ⟨b, 3, none⟩ = false := by
  refine ⟨?_, ?_, ?_, ?_, frozen_of_row w b 0 _ e h, frozen_of_row w b 1 _ e h, frozen_of_row w b 2 _ e h, frozen_of_row w b 3 _ e h⟩ <;> rw [cell_of_row w b _ _ e (0, 0) h] <;> rfl
theorem box4_set {w : World} {b : Nat} {z0 z1 z2 z3 : Value} {e : TypeId} (h : w.heap[b]? = some (.cells #[z0, z1, z2, z3] e (0, 0))) (a0 a1 a2 a3 : Value) : ((((w.setCell ⟨b, 0, none⟩ a0).setCell ⟨b, 1, none⟩ a1).setCell ⟨b, 2, none⟩ a2).setCell ⟨b, 3, none⟩ a3).heap[b]? = some (.cells #[a0, a1, a2, a3] e (0, 0)) :=
  heap_setCell_same _ _ 3 _ e a3 (heap_setCell_same _ _ 2 _ e a2 (heap_setCell_same _ _ 1 _ e a1 (heap_setCell_same _ _ 0 _ e a0 h)))
theorem box4_below {B : Nat} {w w' : World} (h : Below B w w') {b : Nat} (hb : B ≤ b) (a0 a1 a2 a3 : Value) : Below B w ((((w'.setCell ⟨b, 0, none⟩ a0).setCell ⟨b, 1, none⟩ a1).setCell ⟨b, 2, none⟩ a2).setCell ⟨b, 3, none⟩ a3) :=
  (((h.setCell (p := ⟨b, 0, none⟩) hb _).setCell (p := ⟨b, 1, none⟩) hb _).setCell (p := ⟨b, 2, none⟩) hb _).setCell (p := ⟨b, 3, none⟩) hb _
theorem box4_block (w : World) (b k : Nat) (hk : k ≠ b) (a0 a1 a2 a3 : Value) : ((((w.setCell ⟨b, 0, none⟩ a0).setCell ⟨b, 1, none⟩ a1).setCell ⟨b, 2, none⟩ a2).setCell ⟨b, 3, none⟩ a3).heap[k]? = w.heap[k]? :=
  (Below.heap_setCell _ ⟨b, 3, none⟩ _ k hk).trans ((Below.heap_setCell _ ⟨b, 2, none⟩ _ k hk).trans ((Below.heap_setCell _ ⟨b, 1, none⟩ _ k hk).trans (Below.heap_setCell _ ⟨b, 0, none⟩ _ k hk)))
theorem cs_more {n : Nat} {u u' : World} {v : Value} {xs : List Cs} (h : CsR (fun g => n ≤ g ∧ g < u.heap.size) u v xs) (hb : Below u.heap.size u u') : CsR (fun g => n ≤ g ∧ g < u'.heap.size) u' v xs :=
  h.frame fun g hg => ⟨⟨hg.1, Nat.lt_of_lt_of_le hg.2 hb.size⟩, hb.block g hg.2⟩
end Go.Proofs.Ytfddnaeldpafmaa
