/-
  Chapter 7 as functions. No program in it.
-/
import Derived.Test.YtcjddbponknnoaaGreatDoorTypesMath
import Derived.Test.YtcjddbponknnoaaGreatDoorTypesSort
namespace Go.Proofs.YtcjddbponknnoaaGreatDoor

/-- A case: its name, its fields' types. -/
abbrev Cs : Type := List UInt8 × List (List UInt8)
/-- What a module offers. -/
structure It where
  kind : Int
  name : List UInt8
  ty : List UInt8
  cases : List Cs
def sameI (a b : It) : Bool := decide (a.kind = b.kind) && (decide (a.name = b.name) && (decide (a.ty = b.ty) && decide (a.cases = b.cases)))
theorem sameI_iff (a b : It) : sameI a b = true ↔ a = b := by
  obtain ⟨k, n, t, c⟩ := a
  obtain ⟨k', n', t', c'⟩ := b
  simp [sameI]
/-- A case behind some others: which refusal. -/
def caseE (ah : List Cs) (c : Cs) : Nat :=
  if bigR c.1 = false then 13 else if ah.any (fun d => decide (d.1 = c.1)) = true then 13 else if 4 < c.2.length then 19 else if c.2.all rightR = true then 0 else 17
def casesE : List Cs → List Cs → Nat
  | _, [] => 0
  | ah, c :: r => if caseE ah c = 0 then casesE (ah ++ [c]) r else caseE ah c
def isFnT (t : List UInt8) : Bool := rightR t && isHead 40 t
def valueE (x : It) : Nat := if 0 < x.cases.length then 12 else if rightR x.ty = false then 17 else if x.kind = 3 ∧ isFnT x.ty = false then 17 else 0
def namedE (x : It) : Bool := if x.kind = 1 then bigR x.name else valueR x.name
def kindE (k : Int) : Bool := decide (k = 1) || (decide (k = 2) || decide (k = 3))
def typeE (x : It) : Nat := if x.ty ≠ [] then 12 else if x.cases.length = 0 then 12 else if 6 < x.cases.length then 12 else casesE [] x.cases
def itemE (prev : Option (List UInt8)) (x : It) : Nat :=
  if kindE x.kind = false then 12
  else if namedE x = false then 13
  else if prev.any (fun p => decide (x.name ≤ p)) = true then 13
  else if x.kind ≠ 1 then valueE x
  else typeE x
def itemsE : Option (List UInt8) → List It → Nat
  | _, [] => 0
  | p, x :: r => if itemE p x = 0 then itemsE (some x.name) r else itemE p x
/-- Right: which refusal, 0: none. -/
def rightI (m : List UInt8) (l : List It) : Nat := if valueR m = false then 13 else if 32 < l.length then 4 else itemsE none l
/-- Find. -/
def findI (l : List It) (n : List UInt8) : Option It := l.find? (fun x => decide (x.name = n))
/-- Breaks. -/
def brokenI (old next : List It) (n : List UInt8) : Bool :=
  match findI old n with
  | none => false
  | some a => match findI next n with
    | none => true
    | some b => !sameI a b
def breaksI (old next : List It) (used : List (List UInt8)) : List (List UInt8) := (onceR used).filter (brokenI old next)

theorem casesE_at (cs : List Cs) (k : Nat) (h : k < cs.length) : casesE (cs.take k) (cs.drop k) = if caseE (cs.take k) cs[k] = 0 then casesE (cs.take (k + 1)) (cs.drop (k + 1)) else caseE (cs.take k) cs[k] := by
  rw [List.drop_eq_getElem_cons h, casesE, List.take_succ_eq_append_getElem h]
def prevI (l : List It) (k : Nat) : Option (List UInt8) := if k = 0 then none else (l[k - 1]?).map (·.name)
theorem itemsE_at (l : List It) (k : Nat) (h : k < l.length) : itemsE (prevI l k) (l.drop k) = if itemE (prevI l k) l[k] = 0 then itemsE (prevI l (k + 1)) (l.drop (k + 1)) else itemE (prevI l k) l[k] := by
  rw [List.drop_eq_getElem_cons h, itemsE]
  have : prevI l (k + 1) = some l[k].name := by simp [prevI, h]
  rw [this]
end Go.Proofs.YtcjddbponknnoaaGreatDoor
