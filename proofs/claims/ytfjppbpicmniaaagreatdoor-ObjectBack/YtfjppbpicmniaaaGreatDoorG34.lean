/-
  named: what an object has by a name, as others see it.
-/
import Derived.Test.YtfjppbpicmniaaaGreatDoorG32
namespace Go.Proofs.YtfjppbpicmniaaaGreatDoor
open Go.RowKit

def it00 : It := ⟨0, [], [], []⟩
/-- What named answers. -/
def NamedO (o : Ob) (q : List UInt8) (w : World) (e : Ending) (w' : World) : Prop := ∃ x cv, e = .returned (.tuple #[itv x cv, .bool (ownO o q).isSome]) ∧ x = (ownO o q).getD it00 ∧ CsR (Fr w w') w' cv x.cases ∧ Below w.heap.size w w'
theorem find_at {α : Type} (p : α → Bool) (l : List α) (k : Nat) (h : k < l.length) : (l.drop k).find? p = if p l[k] = true then some l[k] else (l.drop (k + 1)).find? p := by
  rw [List.drop_eq_getElem_cons h, List.find?_cons]
  cases p l[k] <;> rfl
/-- What is left to look for, from global k on. -/
def ownG (o : Ob) (q : List UInt8) (k : Nat) : Option It :=
  match (o.globals.drop k).find? (fun g => decide (g.name = q)) with
  | some g => some ⟨2, q, g.ty, []⟩
  | none => match o.funs.find? (fun f => decide (f.name = q)) with
    | some f => some ⟨3, q, signO f, []⟩
    | none => findI o.types q
def ownF (o : Ob) (q : List UInt8) (k : Nat) : Option It :=
  match (o.funs.drop k).find? (fun f => decide (f.name = q)) with
  | some f => some ⟨3, q, signO f, []⟩
  | none => findI o.types q
theorem ownG_zero (o : Ob) (q : List UInt8) (hq : q ≠ []) : ownO o q = ownG o q 0 := by rw [ownO, if_neg hq]; rfl
theorem ownG_yes (o : Ob) (q : List UInt8) (k : Nat) (h : k < o.globals.length) (hn : o.globals[k].name = q) : ownG o q k = some ⟨2, q, o.globals[k].ty, []⟩ := by
  rw [ownG, find_at _ _ k h, if_pos (decide_eq_true hn)]
theorem ownG_no (o : Ob) (q : List UInt8) (k : Nat) (h : k < o.globals.length) (hn : o.globals[k].name ≠ q) : ownG o q k = ownG o q (k + 1) := by
  rw [ownG, find_at _ _ k h, if_neg (by simpa using hn)]
  rfl
theorem ownG_end (o : Ob) (q : List UInt8) (k : Nat) (h : ¬ k < o.globals.length) : ownG o q k = ownF o q 0 := by
  rw [ownG, List.drop_of_length_le (by omega)]
  rfl
theorem ownF_yes (o : Ob) (q : List UInt8) (k : Nat) (h : k < o.funs.length) (hn : o.funs[k].name = q) : ownF o q k = some ⟨3, q, signO o.funs[k], []⟩ := by
  rw [ownF, find_at _ _ k h, if_pos (decide_eq_true hn)]
theorem ownF_no (o : Ob) (q : List UInt8) (k : Nat) (h : k < o.funs.length) (hn : o.funs[k].name ≠ q) : ownF o q k = ownF o q (k + 1) := by
  rw [ownF, find_at _ _ k h, if_neg (by simpa using hn)]
  rfl
theorem ownF_end (o : Ob) (q : List UInt8) (k : Nat) (h : ¬ k < o.funs.length) : ownF o q k = findI o.types q := by
  rw [ownF, List.drop_of_length_le (by omega)]
  rfl
end Go.Proofs.YtfjppbpicmniaaaGreatDoor
