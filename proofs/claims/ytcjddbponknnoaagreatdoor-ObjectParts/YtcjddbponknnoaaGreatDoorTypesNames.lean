/-
  The package's Names: its walk.
-/
import Derived.Test.YtcjddbponknnoaaGreatDoorTreeMem
import Derived.Test.YtcjddbponknnoaaGreatDoorTypesParts
import Derived.Test.YtcjddbponknnoaaGreatDoorTypesSort
namespace Go.Proofs.YtcjddbponknnoaaGreatDoor
open Go.RowKit Go.Sort

/-- The named types in a type, each once, in order. -/
def namesR (l : List UInt8) : List (List UInt8) := if rightR l = true then onceR (nw l) else []
def NamesE (l : List UInt8) (w : World) (e : Ending) (w' : World) : Prop := ∃ v, e = .returned v ∧ StrRow w' v (namesR l) ∧ Below w.heap.size w w'
theorem frame41 (a : Act) (h : a.tmps.size = 41) (hd : a.defers = []) : ∃ f : Nat → Value, a = { tmps := #[f 0, f 1, f 2, f 3, f 4, f 5, f 6, f 7, f 8, f 9, f 10, f 11, f 12, f 13, f 14, f 15, f 16, f 17, f 18, f 19, f 20, f 21, f 22, f 23, f 24, f 25, f 26, f 27, f 28, f 29, f 30, f 31, f 32, f 33, f 34, f 35, f 36, f 37, f 38, f 39, f 40], defers := [] } := by
  refine ⟨fun k => a.tmps.getD k undef, ?_⟩
  obtain ⟨t, d⟩ := a
  simp only at h hd
  subst hd
  have e := arr_map t
  rw [h] at e
  simp only [Act.mk.injEq, and_true]
  exact e

def nmJ (s : ByteArray) (w0 : World) (l : Nat) (a : Act) (w : World) : Prop :=
  ∃ (p : Nat) (acc : List (List UInt8)) (v : Value), a.tmps.size = 41 ∧ a.defers = [] ∧ a.tmps.getD 0 undef = .string s ∧ a.tmps.getD 3 undef = v ∧ a.tmps.getD 5 undef = .int .i64 (p : Int) ∧
    p < s.size ∧ acc.length ≤ p ∧ w.ownsRow w0.heap.size 9 1 v acc.length (sc acc) ∧ Below w0.heap.size w0 w ∧ l = 0 ∧ Hid (acc ++ nw (s.data.toList.drop p) = nw s.data.toList)
def nmM (s : ByteArray) (_ : Nat) (a : Act) (_ : World) : Nat := s.size - (intOf (a.tmps.getD 5 undef)).toNat
end Go.Proofs.YtcjddbponknnoaaGreatDoor
