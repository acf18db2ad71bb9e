/-
  slices.Backward over items; the package's places: where each name is found first.
-/
import Derived.RangeFuncNested
import Derived.RangeFuncBound
import Derived.RangeFuncCalls
import Derived.RangeFuncLeaves
import Derived.RangeFuncBox
import Derived.Shelf.Abstract
import Derived.Shelf.RegionOpen
import Derived.WalkKit
import Derived.WalkArith
import Derived.OwnWalkIn
import Derived.TacticsInMore
import Derived.LoopNIn
import Derived.LoopIn
import Derived.Maps.OwnIn
import Derived.Maps.OwnSet
import Derived.Deep.Slices
import Derived.StringKeys
import Derived.Test.YtcjddbponknnoaaGreatDoorIfaceMem
namespace Go.Proofs.YtcjddbponknnoaaGreatDoor
open Go.RowKit Go.Shelf
attribute [local go_sem] Oper.semAt_some

/-- What a round is handed: where the item stands, the item, its cases' slice. -/
abbrev Rn : Type := { x : Nat × It × Option Addr × Nat // x.2.1.name.length ≤ 140737488355328 ∧ x.1 ≤ 2199023255552 }
def rnv (x : Rn) : Array Value := #[.int .i64 (x.1.1 : Int), .agg #[.int .i64 x.1.2.1.kind, .string (str x.1.2.1.name), .string (str x.1.2.1.ty), .slice x.1.2.2.1 x.1.2.1.cases.length x.1.2.2.2]]
def rn0 : Rn := ⟨(0, ⟨0, [], [], []⟩, none, 0), by simp⟩
def uptoR (f : Nat → Rn) (k : Nat) : List Rn := (List.range k).map f
theorem uptoR_succ (f : Nat → Rn) (k : Nat) : uptoR f (k + 1) = uptoR f k ++ [f k] := by simp [uptoR, List.range_succ]
theorem uptoR_length (f : Nat → Rn) (k : Nat) : (uptoR f k).length = k := by simp [uptoR]
/-- What a round that goes on keeps: what lay below n₀, and the box of the slice. -/
def KpB (n₀ Bs : Nat) (W W' : World) : Prop := Below n₀ W W' ∧ ∀ v, W.cell? ⟨Bs, 0, none⟩ = some v → W'.cell? ⟨Bs, 0, none⟩ = some v
theorem KpB.t {n₀ Bs : Nat} {A B C : World} (h : KpB n₀ Bs A B) (k : KpB n₀ Bs B C) : KpB n₀ Bs A C := ⟨h.1.trans k.1, fun v hv => k.2 v (h.2 v hv)⟩
theorem KpB.b {n₀ Bs : Nat} {w : World} (hn : n₀ ≤ w.heap.size) (W : World) (l : Nat) (o o' : Obj) (hl : w.heap.size ≤ l) (h : W.heap[l]? = some o) (hc : o.isCells = false) (hw : o.isWalk = false) : KpB n₀ Bs W (W.putObj l o') :=
  ⟨belowK_b hn W l o o' hl h hc hw, fun v hv => cell_kept hv (grownBy_putObj' W l o') (fun r e => by cases e; exact ⟨o, h, hc⟩)⟩
/-- Where each name is found first, as a map. -/
def plL {H : Type} : Nat → List It → DataW H
  | _, [] => .map []
  | i, x :: r => (plL (i + 1) r).put (.string x.name) (.lit (.int .i64 (i : Int)))
def plR {H : Type} (pre : List Rn) : DataW H := pre.foldl (fun D x => D.put (.string x.1.2.1.name) (.lit (.int .i64 (x.1.1 : Int)))) (.map [])
theorem plR_snoc {H : Type} (pre : List Rn) (x : Rn) : plR (H := H) (pre ++ [x]) = (plR pre).put (.string x.1.2.1.name) (.lit (.int .i64 (x.1.1 : Int))) := by simp [plR]
theorem plL_map {H : Type} : ∀ (i : Nat) (l : List It), Maps.IsMap (plL (H := H) i l)
  | _, [] => ⟨[], rfl⟩
  | i, x :: r => by
    obtain ⟨es, he⟩ := plL_map (H := H) (i + 1) r
    rw [plL, he]
    exact ⟨_, rfl⟩
theorem plL_has {H : Type} (q : List UInt8) : ∀ (i : Nat) (l : List It), Maps.has (plL (H := H) i l) (.string q) = (findI l q).isSome
  | _, [] => rfl
  | i, x :: r => by
    by_cases h : x.name = q
    · subst h
      rw [plL, Maps.has_put_same (plL_map _ _) (show WideAt.IsKeyLit (.string x.name) from trivial)]
      simp [findI]
    · rw [plL, Maps.has_put_other (by simp; exact fun e => h e.symm), plL_has q (i + 1) r]
      simp [findI, h]
theorem plL_at {H : Type} (q : List UInt8) (z : DataW H) : ∀ (i : Nat) (l : List It) (x : It), findI l q = some x → ∃ j, ∃ h : j < l.length, l[j] = x ∧ (plL (H := H) i l).atKey (.string q) z = .lit (.int .i64 ((i + j : Nat) : Int))
  | _, [], x, h => by simp [findI] at h
  | i, y :: r, x, h => by
    by_cases hy : y.name = q
    · subst hy
      simp only [findI, List.find?_cons, decide_true, Option.some.injEq] at h
      subst h
      exact ⟨0, by simp, rfl, by rw [plL, Maps.atKey_put_same (plL_map _ _) (show WideAt.IsKeyLit (.string y.name) from trivial)]; rfl⟩
    · have h' : findI r q = some x := by simpa [findI, hy] using h
      obtain ⟨j, hj, e1, e2⟩ := plL_at q z (i + 1) r x h'
      refine ⟨j + 1, by simp; omega, by simpa using e1, ?_⟩
      rw [plL, Maps.atKey_put_other (by simp; exact fun e => hy e.symm), e2]
      congr 3
      omega
theorem plR_all {H : Type} (l : List It) (f : Nat → Rn) (hf : ∀ k, k < l.length → (f k).1.1 = l.length - 1 - k ∧ l[l.length - 1 - k]? = some (f k).1.2.1) : ∀ k, k ≤ l.length → plR (H := H) (uptoR f k) = plL (l.length - k) (l.drop (l.length - k))
  | 0, _ => by
    rw [Nat.sub_zero, List.drop_of_length_le (Nat.le_refl _)]
    rfl
  | k + 1, h => by
    obtain ⟨h1, h2⟩ := hf k (by omega)
    obtain ⟨hj, h3⟩ := List.getElem?_eq_some_iff.1 h2
    rw [uptoR_succ, plR_snoc, plR_all l f hf k (by omega), h1]
    have e : l.length - (k + 1) = l.length - 1 - k := by omega
    rw [e, List.drop_eq_getElem_cons hj, plL, h3, show l.length - 1 - k + 1 = l.length - k by omega]
theorem rn_choose {F : Nat → Prop} {w : World} {g o cap : Nat} {l : List It} (h : ItR F w (.slice (some ⟨g, o, none⟩) l.length cap) l) (hok : ∀ x ∈ l, ItOk x) (hl : l.length ≤ 2199023255552) : ∃ f : Nat → Rn, ∀ k, k < l.length → (f k).1.1 = l.length - 1 - k ∧ l[l.length - 1 - k]? = some (f k).1.2.1 ∧ w.cell? ⟨g, o + (l.length - 1 - k) * 4, none⟩ = some (.int .i64 (f k).1.2.1.kind) ∧ w.cell? ⟨g, o + (l.length - 1 - k) * 4 + 1, none⟩ = some (.string (str (f k).1.2.1.name)) ∧ w.cell? ⟨g, o + (l.length - 1 - k) * 4 + 2, none⟩ = some (.string (str (f k).1.2.1.ty)) ∧ w.cell? ⟨g, o + (l.length - 1 - k) * 4 + 3, none⟩ = some (.slice (f k).1.2.2.1 (f k).1.2.1.cases.length (f k).1.2.2.2) := by
  have key : ∀ k, ∃ x : Rn, k < l.length → x.1.1 = l.length - 1 - k ∧ l[l.length - 1 - k]? = some x.1.2.1 ∧ w.cell? ⟨g, o + (l.length - 1 - k) * 4, none⟩ = some (.int .i64 x.1.2.1.kind) ∧ w.cell? ⟨g, o + (l.length - 1 - k) * 4 + 1, none⟩ = some (.string (str x.1.2.1.name)) ∧ w.cell? ⟨g, o + (l.length - 1 - k) * 4 + 2, none⟩ = some (.string (str x.1.2.1.ty)) ∧ w.cell? ⟨g, o + (l.length - 1 - k) * 4 + 3, none⟩ = some (.slice x.1.2.2.1 x.1.2.1.cases.length x.1.2.2.2) := by
    intro k
    by_cases hk : k < l.length
    · have hj : l.length - 1 - k < l.length := by omega
      obtain ⟨g', o', cap', cv, e1, _, hC, q0, q1, q2, q3⟩ := h.at _ hj
      simp only [Value.slice.injEq, Option.some.injEq, Addr.mk.injEq, and_true, true_and] at e1
      obtain ⟨⟨rfl, rfl⟩, _⟩ := e1
      obtain ⟨ca, cc, rfl⟩ := hC.shape
      exact ⟨⟨(l.length - 1 - k, l[l.length - 1 - k], ca, cc), (hok _ (List.getElem_mem hj)).2.2.1, by show l.length - 1 - k ≤ _; omega⟩, fun _ => ⟨rfl, List.getElem?_eq_getElem hj, q0, q1, q2, q3⟩⟩
    · exact ⟨rn0, fun h => absurd h hk⟩
  exact ⟨fun k => Classical.choose (key k), fun k hk => Classical.choose_spec (key k) hk⟩
end Go.Proofs.YtcjddbponknnoaaGreatDoor
