/-
  Objects in memory: globals, functions, symbols, relocations in rows; what they are as values.
  And: A walk in memory: the state, and those that wait in a map; whose a block is, told by tags. Nothing of its own. Texts in order, each once, in a list of its own. slices.Backward over items; the package's places: where each name is found first.
-/
import Derived.Test.YtdeckknfolaaeaaGreatDoorG10
import Derived.Test.YtdeckknfolaaeaaGreatDoorG14
import Derived.Test.YtdeckknfolaaeaaGreatDoorG11
import Derived.Test.YtdeckknfolaaeaaGreatDoorShelf
import Derived.RangeFuncNested
import Derived.RangeFuncBound
import Derived.RangeFuncCalls
import Derived.RangeFuncLeaves
import Derived.RangeFuncBox
import Derived.Shelf.Abstract
import Derived.Shelf.RegionOpen
import Derived.WalkKit
import Derived.WalkArith
import Derived.OwnWalkIn
import Derived.TacticsInMore
import Derived.LoopNIn
import Derived.LoopIn
import Derived.Maps.OwnIn
import Derived.Maps.OwnSet
import Derived.Deep.Slices
import Derived.StringKeys
namespace Go.Proofs.YtdeckknfolaaeaaGreatDoor
open Go.RowKit

/-- A row of structs of sz cells that can be read, in a block of F; C: what one is by its cells. -/
def RwR {α : Type} (sz : Nat) (C : (Nat → Prop) → World → α → List Value → Prop) (F : Nat → Prop) (w : World) (v : Value) (l : List α) : Prop :=
  (∃ a c, v = .slice a 0 c ∧ l = []) ∨ ∃ g o cap, v = .slice (some ⟨g, o, none⟩) l.length cap ∧ l.length ≤ cap ∧ F g ∧ ∀ (j : Nat) x, l[j]? = some x → ∃ cs, C F w x cs ∧ ∀ (i : Nat) y, cs[i]? = some y → w.cell? ⟨g, o + j * sz + i, none⟩ = some y
/-- What a struct is stays where its blocks stay. -/
def Stay {α : Type} (C : (Nat → Prop) → World → α → List Value → Prop) : Prop := ∀ (F G : Nat → Prop) (w w' : World) (x : α) (cs : List Value), (∀ g, F g → G g ∧ w'.heap[g]? = w.heap[g]?) → C F w x cs → C G w' x cs
theorem RwR.frame {α : Type} {sz : Nat} {C : (Nat → Prop) → World → α → List Value → Prop} (hC : Stay C) {F G : Nat → Prop} {w w' : World} (hF : ∀ g, F g → G g ∧ w'.heap[g]? = w.heap[g]?) {v : Value} {l : List α} (h : RwR sz C F w v l) : RwR sz C G w' v l := by
  rcases h with h | ⟨g, o, cap, h1, h1', h2, h3⟩
  · exact .inl h
  · refine .inr ⟨g, o, cap, h1, h1', (hF g h2).1, fun j x hj => ?_⟩
    obtain ⟨cs, h4, h5⟩ := h3 j x hj
    exact ⟨cs, hC _ _ _ _ _ _ hF h4, fun i y hy => by rw [World.cell?_of_block (w := w) (hF g h2).2]; exact h5 i y hy⟩
theorem RwR.shape {α : Type} {sz : Nat} {C : (Nat → Prop) → World → α → List Value → Prop} {F : Nat → Prop} {w : World} {v : Value} {l : List α} (h : RwR sz C F w v l) : ∃ a c, v = .slice a l.length c := by
  rcases h with ⟨a, c, rfl, rfl⟩ | ⟨g, o, cap, rfl, _⟩
  · exact ⟨a, c, rfl⟩
  · exact ⟨_, _, rfl⟩
theorem RwR.nil {α : Type} (sz : Nat) (C : (Nat → Prop) → World → α → List Value → Prop) (F : Nat → Prop) (w : World) : RwR sz C F w (.slice none 0 0) [] := .inl ⟨none, 0, rfl, rfl⟩
theorem RwR.at {α : Type} {sz : Nat} {C : (Nat → Prop) → World → α → List Value → Prop} {F : Nat → Prop} {w : World} {v : Value} {l : List α} (h : RwR sz C F w v l) (k : Nat) (hk : k < l.length) : ∃ g o cap cs, v = .slice (some ⟨g, o, none⟩) l.length cap ∧ l.length ≤ cap ∧ F g ∧ C F w l[k] cs ∧ ∀ (i : Nat) y, cs[i]? = some y → w.cell? ⟨g, o + k * sz + i, none⟩ = some y := by
  rcases h with ⟨a, c, rfl, rfl⟩ | ⟨g, o, cap, rfl, hc, hg, h⟩
  · simp at hk
  · obtain ⟨cs, h1, h2⟩ := h k _ (List.getElem?_eq_getElem hk)
    exact ⟨g, o, cap, cs, rfl, hc, hg, h1, h2⟩
theorem RwR.below {α : Type} {sz : Nat} {C : (Nat → Prop) → World → α → List Value → Prop} (hC : Stay C) {F : Nat → Prop} {H : Nat} {w w' : World} {v : Value} {l : List α} (h : RwR sz C F w v l) (hb : Below H w w') (hF : ∀ g, F g → g < H) : RwR sz C F w' v l := h.frame hC fun g hg => ⟨hg, hb.block g (hF g hg)⟩
theorem RwR.take {α : Type} {sz : Nat} {C : (Nat → Prop) → World → α → List Value → Prop} {F : Nat → Prop} {w : World} {a : Option Addr} {cap : Nat} {l : List α} (h : RwR sz C F w (.slice a l.length cap) l) (n : Nat) (hn : n ≤ l.length) : RwR sz C F w (.slice a n cap) (l.take n) := by
  rcases h with ⟨a', c, h1, rfl⟩ | ⟨g', o', cap', h1, h1', h2, h3⟩
  · simp at hn
    subst hn
    exact .inl ⟨_, cap, rfl, rfl⟩
  · simp only [Value.slice.injEq, true_and] at h1
    obtain ⟨rfl, rfl⟩ := h1
    refine .inr ⟨g', o', cap, by rw [List.length_take, Nat.min_eq_left hn], by rw [List.length_take, Nat.min_eq_left hn]; omega, h2, fun j x hj => h3 j x ?_⟩
    rw [List.getElem?_take] at hj
    split at hj
    · exact hj
    · cases hj

/-- Texts in a row, with its room. -/
def TxC (F : Nat → Prop) (w : World) (v : Value) (xs : List (List UInt8)) : Prop := TxR F w v xs ∧ ∀ a n c, v = .slice a n c → n ≤ c
/-- Bytes in a row. -/
def ByR (F : Nat → Prop) (w : World) (v : Value) (l : List UInt8) : Prop :=
  (∃ a c, v = .slice a 0 c ∧ l = []) ∨ ∃ g o cap, v = .slice (some ⟨g, o, none⟩) l.length cap ∧ l.length ≤ cap ∧ F g ∧ ∀ (j : Nat) x, l[j]? = some x → w.cell? ⟨g, o + j, none⟩ = some (.int .u8 (x.toNat : Int))
theorem ByR.frame {F G : Nat → Prop} {w w' : World} (hF : ∀ g, F g → G g ∧ w'.heap[g]? = w.heap[g]?) {v : Value} {l : List UInt8} (h : ByR F w v l) : ByR G w' v l := by
  rcases h with h | ⟨g, o, cap, h1, h1', h2, h3⟩
  · exact .inl h
  · exact .inr ⟨g, o, cap, h1, h1', (hF g h2).1, fun j x hj => by rw [World.cell?_of_block (w := w) (hF g h2).2]; exact h3 j x hj⟩
theorem ByR.shape {F : Nat → Prop} {w : World} {v : Value} {l : List UInt8} (h : ByR F w v l) : ∃ a c, v = .slice a l.length c := by
  rcases h with ⟨a, c, rfl, rfl⟩ | ⟨g, o, cap, rfl, _⟩
  · exact ⟨a, c, rfl⟩
  · exact ⟨_, _, rfl⟩
theorem TxC.frame {F G : Nat → Prop} {w w' : World} (hF : ∀ g, F g → G g ∧ w'.heap[g]? = w.heap[g]?) {v : Value} {xs : List (List UInt8)} (h : TxC F w v xs) : TxC G w' v xs := ⟨h.1.frame hF, h.2⟩

def cGl (_ : Nat → Prop) (_ : World) (x : Gl) (cs : List Value) : Prop := cs = [.string (str x.name), .string (str x.ty), .int .i64 x.fn]
def cFn (F : Nat → Prop) (w : World) (x : Fn) (cs : List Value) : Prop := ∃ pv kv, cs = [.string (str x.name), pv, .int .i64 x.caps, .string (str x.res), .int .i64 x.locals, kv] ∧ TxC F w pv x.params ∧ ByR F w kv x.code
def cSy (F : Nat → Prop) (w : World) (x : Sy) (cs : List Value) : Prop := ∃ cv, cs = [.string (str x.mod), .int .i64 x.item.kind, .string (str x.item.name), .string (str x.item.ty), cv] ∧ CsR F w cv x.item.cases
def cRl (_ : Nat → Prop) (_ : World) (x : Rl) (cs : List Value) : Prop := cs = [.int .i64 x.fn, .int .i64 x.place, .int .i64 x.sym]
theorem cGl_stay : Stay cGl := fun _ _ _ _ _ _ _ h => h
theorem cRl_stay : Stay cRl := fun _ _ _ _ _ _ _ h => h
theorem cFn_stay : Stay cFn := fun _ _ _ _ _ _ hF ⟨pv, kv, h1, h2, h3⟩ => ⟨pv, kv, h1, h2.frame hF, h3.frame hF⟩
theorem cSy_stay : Stay cSy := fun _ _ _ _ _ _ hF ⟨cv, h1, h2⟩ => ⟨cv, h1, h2.frame hF⟩
abbrev GlR := RwR 3 cGl
abbrev FnR := RwR 6 cFn
abbrev SyR := RwR 5 cSy
abbrev RlR := RwR 3 cRl

def i64 (n : Int) : Prop := -9223372036854775808 ≤ n ∧ n ≤ 9223372036854775807
def GlOk (x : Gl) : Prop := Tk x.name ∧ Tk x.ty ∧ i64 x.fn
def FnOk (x : Fn) : Prop := Tk x.name ∧ x.params.length ≤ 8796093022208 ∧ (∀ p ∈ x.params, Tk p) ∧ i64 x.caps ∧ Tk x.res ∧ i64 x.locals ∧ x.code.length ≤ 140737488355328
def SyOk (x : Sy) : Prop := Tk x.mod ∧ ItOk x.item
def RlOk (x : Rl) : Prop := i64 x.fn ∧ i64 x.place ∧ i64 x.sym
/-- What an object's parts may be, as large as memory lets them. -/
structure ObOk (o : Ob) : Prop where
  mod : Tk o.mod
  nt : o.types.length ≤ 3518437208883
  types : ∀ x ∈ o.types, ItOk x
  nx : o.texts.length ≤ 8796093022208
  texts : ∀ x ∈ o.texts, Tk x
  ng : o.globals.length ≤ 3518437208883
  globals : ∀ x ∈ o.globals, GlOk x
  nf : o.funs.length ≤ 3518437208883
  funs : ∀ x ∈ o.funs, FnOk x
  ne : o.exports.length ≤ 8796093022208
  exports : ∀ x ∈ o.exports, Tk x
  ns : o.symbols.length ≤ 3518437208883
  symbols : ∀ x ∈ o.symbols, SyOk x
  nr : o.relocs.length ≤ 8796093022208
  relocs : ∀ x ∈ o.relocs, RlOk x
/-- The eight cells of an object. -/
structure ObV where
  t : Value
  x : Value
  g : Value
  f : Value
  e : Value
  s : Value
  r : Value
def ObV.cells (v : ObV) (m : List UInt8) : List Value := [.string (str m), v.t, v.x, v.g, v.f, v.e, v.s, v.r]
/-- An object in memory. -/
structure ObR (F : Nat → Prop) (w : World) (v : ObV) (o : Ob) : Prop where
  types : ItR F w v.t o.types
  texts : TxC F w v.x o.texts
  globals : GlR F w v.g o.globals
  funs : FnR F w v.f o.funs
  exports : TxC F w v.e o.exports
  symbols : SyR F w v.s o.symbols
  relocs : RlR F w v.r o.relocs
theorem ObR.frame {F G : Nat → Prop} {w w' : World} (hF : ∀ g, F g → G g ∧ w'.heap[g]? = w.heap[g]?) {v : ObV} {o : Ob} (h : ObR F w v o) : ObR G w' v o :=
  ⟨h.types.frame hF, h.texts.frame hF, h.globals.frame cGl_stay hF, h.funs.frame cFn_stay hF, h.exports.frame hF, h.symbols.frame cSy_stay hF, h.relocs.frame cRl_stay hF⟩
theorem ObR.below {F : Nat → Prop} {H : Nat} {w w' : World} {v : ObV} {o : Ob} (h : ObR F w v o) (hb : Below H w w') (hF : ∀ g, F g → g < H) : ObR F w' v o := h.frame fun g hg => ⟨hg, hb.block g (hF g hg)⟩
end Go.Proofs.YtdeckknfolaaeaaGreatDoor

namespace Go.Proofs.YtdeckknfolaaeaaGreatDoor
open Go.RowKit Go.Maps

/-- Whose a block is: 1: the row of those that wait for a place, 2: a stack, 3: locals (of a place, of the state of that number), 6: the map, 7: the walk itself, 0: another's. -/
abbrev Tag := Nat × Int × Nat
/-- Nothing turned but blocks that are the walk's. -/
def Kc (col : Nat → Tag) (S : Tag → Prop) (w w' : World) : Prop := Wire.Kept (fun g => S (col g)) w w'
def Agr (n : Nat) (col col' : Nat → Tag) : Prop := ∀ g, g < n → col' g = col g
theorem Agr.refl (n : Nat) (col : Nat → Tag) : Agr n col col := fun _ _ => rfl
theorem Agr.trans {n m : Nat} {a b c : Nat → Tag} (h : Agr n a b) (k : Agr m b c) (hn : n ≤ m) : Agr n a c := fun g hg => (k g (by omega)).trans (h g hg)
theorem Kc.refl (col : Nat → Tag) (S : Tag → Prop) (w : World) : Kc col S w w := Wire.Kept.refl _ _
theorem Kc.mono {col : Nat → Tag} {S T : Tag → Prop} {w w' : World} (h : Kc col S w w') (hs : ∀ t, S t → T t) : Kc col T w w' := ⟨h.os, h.tape, h.output, h.size, fun b hb hn => h.block b hb fun e => hn (hs _ e)⟩
theorem Kc.trans {col col' : Nat → Tag} {S : Tag → Prop} {w w1 w2 : World} (h : Kc col S w w1) (hA : Agr w.heap.size col col') (k : Kc col' S w1 w2) : Kc col S w w2 :=
  ⟨k.os.trans h.os, k.tape.trans h.tape, k.output.trans h.output, Nat.le_trans h.size k.size, fun b hb hn => (k.block b (Nat.lt_of_lt_of_le hb h.size) (by rw [hA b hb]; exact hn)).trans (h.block b hb hn)⟩
theorem Kc.below {col : Nat → Tag} {S : Tag → Prop} {w w' : World} (h : Below w.heap.size w w') : Kc col S w w' := ⟨h.os, h.tape, h.output, h.size, fun k hk _ => h.block k hk⟩
theorem Kc.agr {col col' : Nat → Tag} {S : Tag → Prop} {w w' : World} (h : Kc col S w w') (hA : Agr w.heap.size col col') : Kc col' S w w' :=
  ⟨h.os, h.tape, h.output, h.size, fun b hb hn => h.block b hb (by rw [← hA b hb]; exact hn)⟩
theorem Kc.grown {col : Nat → Tag} {S : Tag → Prop} {w w' : World} {row : Option Nat} (h : w.grownBy w' row) (hr : ∀ g, row = some g → g < w.heap.size → S (col g)) : Kc col S w w' :=
  ⟨h.os, h.tape, h.output, h.size, fun b hb hn => h.block b hb (fun e => hn (hr b e.symm hb))⟩

/-- Texts of the walk's own, in a block of that tag. -/
def SkR (col : Nat → Tag) (t : Tag) (w : World) (v : Value) (xs : List (List UInt8)) : Prop :=
  w.ownsRow 0 9 1 v xs.length (sc xs) ∧ ∀ g, v.ownBlock = some g → col g = t
theorem SkR.lt {col : Nat → Tag} {t : Tag} {w : World} {v : Value} {xs : List (List UInt8)} (h : SkR col t w v xs) {g : Nat} (hg : v.ownBlock = some g) : g < w.heap.size := (h.1.lt g hg).2
theorem owns_same {w w' : World} {B e sz n : Nat} {v : Value} {xs : List Value} (h : w.ownsRow B e sz v n xs) (hb : ∀ g, v.ownBlock = some g → w'.heap[g]? = w.heap[g]?) : w'.ownsRow B e sz v n xs := by
  refine ⟨h.1, ?_⟩
  rcases h.2 with hn | ⟨g, cap, cur, rfl, h2, h3, h4⟩
  · exact .inl hn
  · exact .inr ⟨g, cap, cur, rfl, h2, (hb g rfl).trans h3, h4⟩
theorem SkR.kept {col col' : Nat → Tag} {t : Tag} {S : Tag → Prop} {w w' : World} {v : Value} {xs : List (List UInt8)} (h : SkR col t w v xs) (k : Kc col S w w') (hA : Agr w.heap.size col col') (hS : ¬ S t) : SkR col' t w' v xs :=
  ⟨owns_same h.1 fun g hg => k.block g (h.lt hg) (by show ¬ S (col g); rw [h.2 g hg]; exact hS), fun g hg => (hA g (h.lt hg)).trans (h.2 g hg)⟩
theorem SkR.row {col : Nat → Tag} {t : Tag} {w : World} {v : Value} {xs : List (List UInt8)} (h : SkR col t w v xs) : StrRow w v xs := strRow_own h.1
/-- A part from its start on. -/
theorem owns_take {w : World} {B e : Nat} {a : Option Addr} {n cap : Nat} {xs : List Value} (h : w.ownsRow B e 1 (.slice a n cap) n xs) (m : Nat) (hm : m ≤ n) (ha : a ≠ none) : w.ownsRow B e 1 (.slice a m cap) m (xs.take m) := by
  refine ⟨by rw [List.length_take, h.1]; omega, ?_⟩
  rcases h.2 with ⟨hn, _⟩ | ⟨g, c, cur, hv, h2, h3, h4, h5, h6, h7⟩
  · cases hn
    exact absurd rfl ha
  · simp only [Value.slice.injEq, true_and] at hv
    obtain ⟨rfl, rfl⟩ := hv
    refine .inr ⟨g, cap, cur, rfl, h2, h3, by omega, h5, h6, ?_⟩
    rw [← h7, List.take_take]
    congr 1
    omega
/-- Locals: none at all, or texts of the walk's own. -/
def LcR (col : Nat → Tag) (t : Tag) (w : World) (v : Value) (xs : List (List UInt8)) : Prop := (xs = [] ∧ ∃ a c, v = .slice a 0 c) ∨ SkR col t w v xs
theorem LcR.kept {col col' : Nat → Tag} {t : Tag} {S : Tag → Prop} {w w' : World} {v : Value} {xs : List (List UInt8)} (h : LcR col t w v xs) (k : Kc col S w w') (hA : Agr w.heap.size col col') (hS : ¬ S t) : LcR col' t w' v xs := h.imp id fun h => h.kept k hA hS
theorem LcR.row {col : Nat → Tag} {t : Tag} {w : World} {v : Value} {xs : List (List UInt8)} (h : LcR col t w v xs) : StrRow w v xs := by
  rcases h with h | h
  · exact .inl h
  · exact h.row
/-- Those that wait for a place, in a row. -/
def RowV (col : Nat → Tag) (w : World) (p : Int) (v : Value) (ss : List St) : Prop :=
  ∃ ps : List (St × Value × Value), ps.map (·.1) = ss ∧ w.ownsRow 0 95 2 v ss.length (ps.flatMap fun q => [q.2.1, q.2.2]) ∧ (∀ g, v.ownBlock = some g → col g = (1, p, 0)) ∧
    ∀ (i : Nat) q, ps[i]? = some q → SkR col (2, p, i) w q.2.1 q.1.stack ∧ LcR col (3, p, i) w q.2.2 q.1.locals
theorem RowV.nil (col : Nat → Tag) (w : World) (p : Int) : RowV col w p (.slice none 0 0) [] := ⟨[], rfl, World.ownsRow_nil _ _ _ _, fun g h => by (cases h), fun i q h => by simp at h⟩
theorem RowV.kept {col col' : Nat → Tag} {S : Tag → Prop} {w w' : World} {p : Int} {v : Value} {ss : List St} (h : RowV col w p v ss) (k : Kc col S w w') (hA : Agr w.heap.size col col') (hS : ∀ t, S t → t.2.1 ≠ p ∨ 3 < t.1 ∨ t.1 = 0) : RowV col' w' p v ss := by
  obtain ⟨ps, h1, h2, h3, h4⟩ := h
  have no : ∀ a i, 1 ≤ a → a ≤ 3 → ¬ S (a, p, i) := fun a i ha hb hs => by
    rcases hS _ hs with h | h | h
    · exact h rfl
    · have h' : 3 < a := h
      omega
    · have h' : a = 0 := h
      omega
  refine ⟨ps, h1, owns_same h2 fun g hg => k.block g (h2.lt g hg).2 (by show ¬ S (col g); rw [h3 g hg]; exact no 1 0 (by omega) (by omega)), fun g hg => (hA g (h2.lt g hg).2).trans (h3 g hg), fun i q hq => ?_⟩
  obtain ⟨a, b⟩ := h4 i q hq
  exact ⟨a.kept k hA (no 2 i (by omega) (by omega)), b.kept k hA (no 3 i (by omega) (by omega))⟩
/-- The map of those that wait, for the places behind cur. -/
def WaitR (col : Nat → Tag) (w : World) (mb n : Nat) (ps : List Int) (wt : List (Int × St)) (cur : Int) : Prop :=
  ∃ f, MapI w mb n f ∧ col mb = (6, 0, 0) ∧ (∀ p, (f p).isSome = decide (p ∈ ps)) ∧ ∀ p ∈ ps, cur < p → ∃ v, f p = some v ∧ RowV col w p v (waitS wt p)
theorem WaitR.kept {col col' : Nat → Tag} {S : Tag → Prop} {w w' : World} {mb n : Nat} {ps : List Int} {wt : List (Int × St)} {cur : Int} (h : WaitR col w mb n ps wt cur) (k : Kc col S w w') (hA : Agr w.heap.size col col') (hS : ∀ t, S t → t.1 ≠ 6 ∧ (t.2.1 ≤ cur ∨ 3 < t.1 ∨ t.1 = 0)) : WaitR col' w' mb n ps wt cur := by
  obtain ⟨f, h1, h2, h3, h4⟩ := h
  refine ⟨f, h1.frame (k.block mb h1.lt (by show ¬ S (col mb); rw [h2]; exact fun hs => (hS _ hs).1 rfl)), (hA mb h1.lt).trans h2, h3, fun p hp hc => ?_⟩
  obtain ⟨v, h5, h6⟩ := h4 p hp hc
  refine ⟨v, h5, h6.kept k hA fun t ht => ?_⟩
  rcases (hS t ht).2 with h | h
  · exact .inl (by omega)
  · exact .inr h
/-- The cells of a walk. -/
def wkC (u : ObV) (m res : List UInt8) (sy wv sv lv : Value) : Array Value := #[.string (str m), u.t, u.x, u.g, u.f, u.e, u.s, u.r, .string (str res), sy, wv, sv, lv]
/-- A walk's box and map. -/
structure VbR (col : Nat → Tag) (w : World) (wb : Nat) (u : ObV) (m res : List UInt8) (sy : Value) (mb n : Nat) (ps : List Int) (cur : Int) (wt : List (Int × St)) (sv lv : Value) : Prop where
  box : w.heap[wb]? = some (.cells (wkC u m res sy (.map (some mb)) sv lv) 97 (0, 0))
  tag : col wb = (7, 0, 0)
  wait : WaitR col w mb n ps wt cur
theorem VbR.lt {col : Nat → Tag} {w : World} {wb : Nat} {u : ObV} {m res : List UInt8} {sy : Value} {mb n : Nat} {ps : List Int} {cur : Int} {wt : List (Int × St)} {sv lv : Value} (h : VbR col w wb u m res sy mb n ps cur wt sv lv) : wb < w.heap.size := (Array.getElem?_eq_some_iff.1 h.box).1
theorem VbR.kept {col col' : Nat → Tag} {S : Tag → Prop} {w w' : World} {wb : Nat} {u : ObV} {m res : List UInt8} {sy : Value} {mb n : Nat} {ps : List Int} {cur : Int} {wt : List (Int × St)} {sv lv : Value} (h : VbR col w wb u m res sy mb n ps cur wt sv lv) (k : Kc col S w w') (hA : Agr w.heap.size col col') (hS : ∀ t, S t → (t.1 ≠ 6 ∧ t.1 ≠ 7) ∧ (t.2.1 ≤ cur ∨ 3 < t.1 ∨ t.1 = 0)) : VbR col' w' wb u m res sy mb n ps cur wt sv lv where
  box := (k.block wb h.lt (by show ¬ S (col wb); rw [h.tag]; exact fun hs => (hS _ hs).1.2 rfl)).trans h.box
  tag := (hA wb h.lt).trans h.tag
  wait := h.wait.kept k hA fun t ht => ⟨(hS t ht).1.1, (hS t ht).2⟩
theorem kc_box {col : Nat → Tag} {w : World} {wb : Nat} (h : col wb = (7, 0, 0)) (i : Nat) (v : Value) : Kc col (fun t => t = (7, 0, 0)) w (w.setCell ⟨wb, i, none⟩ v) := (Wire.Kept.refl _ w).setCell (p := ⟨wb, i, none⟩) (fun _ => h) v
theorem VbR.setS {col : Nat → Tag} {w : World} {wb : Nat} {u : ObV} {m res : List UInt8} {sy : Value} {mb n : Nat} {ps : List Int} {cur : Int} {wt : List (Int × St)} {sv lv : Value} (h : VbR col w wb u m res sy mb n ps cur wt sv lv) (v : Value) : VbR col (w.setCell ⟨wb, 11, none⟩ v) wb u m res sy mb n ps cur wt v lv where
  box := heap_setCell_same w wb 11 _ _ v h.box
  tag := h.tag
  wait := h.wait.kept (kc_box h.tag 11 v) (Agr.refl _ _) fun t ht => by rw [ht]; exact ⟨by decide, .inr (.inl (by decide))⟩
theorem VbR.setL {col : Nat → Tag} {w : World} {wb : Nat} {u : ObV} {m res : List UInt8} {sy : Value} {mb n : Nat} {ps : List Int} {cur : Int} {wt : List (Int × St)} {sv lv : Value} (h : VbR col w wb u m res sy mb n ps cur wt sv lv) (v : Value) : VbR col (w.setCell ⟨wb, 12, none⟩ v) wb u m res sy mb n ps cur wt sv v where
  box := heap_setCell_same w wb 12 _ _ v h.box
  tag := h.tag
  wait := h.wait.kept (kc_box h.tag 12 v) (Agr.refl _ _) fun t ht => by rw [ht]; exact ⟨by decide, .inr (.inl (by decide))⟩
/-- A walk in memory, at the instruction at cur. -/
structure VwR (col : Nat → Tag) (w : World) (wb : Nat) (u : ObV) (m res : List UInt8) (sy : Value) (mb n : Nat) (ps : List Int) (cur : Int) (k : Wk) (sv lv : Value) : Prop where
  base : VbR col w wb u m res sy mb n ps cur k.wt sv lv
  stack : SkR col (2, cur, 0) w sv k.st.stack
  locs : LcR col (3, cur, 0) w lv k.st.locals
theorem VwR.kept {col col' : Nat → Tag} {S : Tag → Prop} {w w' : World} {wb : Nat} {u : ObV} {m res : List UInt8} {sy : Value} {mb n : Nat} {ps : List Int} {cur : Int} {k : Wk} {sv lv : Value} (h : VwR col w wb u m res sy mb n ps cur k sv lv) (K : Kc col S w w') (hA : Agr w.heap.size col col') (hS : ∀ t, S t → t.1 = 9 ∨ t.1 = 0) : VwR col' w' wb u m res sy mb n ps cur k sv lv where
  base := h.base.kept K hA fun t ht => by
    rcases hS t ht with e | e
    · exact ⟨⟨by omega, by omega⟩, .inr (.inl (by omega))⟩
    · exact ⟨⟨by omega, by omega⟩, .inr (.inr e)⟩
  stack := h.stack.kept K hA fun hs => by
    have := hS _ hs
    simp at this
  locs := h.locs.kept K hA fun hs => by
    have := hS _ hs
    simp at this
/-- Whatever is new is nobody's. -/
def colF (col : Nat → Tag) (n : Nat) : Nat → Tag := fun g => if g < n then col g else (9, 0, 0)
theorem colF_agr (col : Nat → Tag) (n : Nat) : Agr n col (colF col n) := fun g hg => by simp [colF, hg]
theorem colF_new (col : Nat → Tag) {n g : Nat} (h : n ≤ g) : colF col n g = (9, 0, 0) := by simp [colF, Nat.not_lt.2 h]
theorem VwR.fresh {col : Nat → Tag} {w : World} {wb : Nat} {u : ObV} {m res : List UInt8} {sy : Value} {mb n : Nat} {ps : List Int} {cur : Int} {k : Wk} {sv lv : Value} (h : VwR col w wb u m res sy mb n ps cur k sv lv) : VwR (colF col w.heap.size) w wb u m res sy mb n ps cur k sv lv := h.kept (S := fun _ => False) (Kc.refl _ _ _) (colF_agr _ _) (fun _ h => h.elim)
/-- What is the walk's own may have turned. -/
def ownT (t : Tag) : Prop := t.1 ≠ 0
/-- What a method leaves, where it refuses nothing. -/
def VwQ (col : Nat → Tag) (w : World) (wb : Nat) (u : ObV) (m res : List UInt8) (sy : Value) (mb n : Nat) (ps : List Int) (cur : Int) (k : Wk) (w' : World) : Prop :=
  ∃ col' sv lv, Agr w.heap.size col col' ∧ VwR col' w' wb u m res sy mb n ps cur k sv lv
/-- The box's cells. -/
theorem VbR.cells {col : Nat → Tag} {w : World} {wb : Nat} {u : ObV} {m res : List UInt8} {sy : Value} {mb n : Nat} {ps : List Int} {cur : Int} {wt : List (Int × St)} {sv lv : Value} (h : VbR col w wb u m res sy mb n ps cur wt sv lv) :
    (w.cell? ⟨wb, 9, none⟩ = some sy ∧ w.cell? ⟨wb, 10, none⟩ = some (.map (some mb)) ∧ w.cell? ⟨wb, 11, none⟩ = some sv ∧ w.cell? ⟨wb, 12, none⟩ = some lv) ∧ w.frozen? ⟨wb, 11, none⟩ = false ∧ w.frozen? ⟨wb, 12, none⟩ = false :=
  ⟨⟨by rw [cell_of_row _ _ 9 _ _ _ h.box]; rfl, by rw [cell_of_row _ _ 10 _ _ _ h.box]; rfl, by rw [cell_of_row _ _ 11 _ _ _ h.box]; rfl, by rw [cell_of_row _ _ 12 _ _ _ h.box]; rfl⟩, frozen_of_row w wb 11 _ _ h.box, frozen_of_row w wb 12 _ _ h.box⟩
end Go.Proofs.YtdeckknfolaaeaaGreatDoor



namespace Go.Proofs.YtdeckknfolaaeaaGreatDoor
open Go.RowKit Go.Sort

theorem sCloneT (x : List UInt8) (w : World) (h : Tk x) : Calls Tryz.prog 162 #[.string (str x)] w fun e w' => e = .returned (.string (str x)) ∧ Below w.heap.size w w' := by
  unfold Tk at h
  go_enter Tryz.func162, Tryz.ntmps162
  go_wp2_with fail
  refine (Tryz.stringslite_Clone (str x) _ (by rw [str_size]; omega)).mono ?_
  rintro e w1 ⟨rfl, hb⟩
  go_wp2
  go_ret
  exact ⟨rfl, hb⟩
/-- Texts in a row of the call's own, as sorting wants them. -/
def RowO (B : Nat) (w : World) (v : Value) (acc : List (List UInt8)) : Prop :=
  (acc = [] ∧ v = .slice none 0 0) ∨ ∃ g cap, v = .slice (some ⟨g, 0, none⟩) acc.length cap ∧ B ≤ g ∧ g < w.heap.size ∧ acc.length ≤ cap ∧ Holds encStr w g 0 acc.toArray
theorem rowO_own {w : World} {B e : Nat} {v : Value} {xs : List (List UInt8)} (h : w.ownsRow B e 1 v xs.length (sc xs)) : RowO B w v xs := by
  rcases h.2 with ⟨rfl, hn⟩ | ⟨g, cap, cur, rfl, hb, hg, h1, _⟩
  · exact .inl ⟨List.eq_nil_of_length_eq_zero hn, rfl⟩
  · refine .inr ⟨g, cap, rfl, hb, (Array.getElem?_eq_some_iff.1 hg).1, h1, fun j hj => ⟨?_, ?_⟩⟩
    · simp only [List.size_toArray] at hj
      rw [Nat.zero_add, h.cellAt j (by omega)]
      simp [sc, encStr, str, hj]
    · rw [Nat.zero_add]
      exact h.frozenAt j
theorem keptO_put (w : World) (n g : Nat) (d : Array (List UInt8)) : Kept (fun k => k = g) w (putRow encStr (Sort.ahead w n) g 0 d) := by
  refine ⟨rfl, rfl, rfl, by simp, fun k hk hn => ?_⟩
  simp only [putRow, mapBlock, heap_ahead, Array.getElem?_modify]
  rw [if_neg (fun e => hn e.symm)]
theorem keptO_grow {S : Nat → Prop} {w w1 : World} (h : Kept S w w1) (os : Array Obj) : Kept S w (grow w1 os) := by
  refine ⟨h.os, h.tape, h.output, by have := h.size; simp; omega, fun k hk hn => ?_⟩
  rw [heap_grow_old _ _ (Nat.lt_of_lt_of_le hk h.size)]
  exact h.block k hk hn
theorem sortO (B : Nat) (w : World) (v : Value) (acc : List (List UInt8)) (h : RowO B w v acc) (hn : acc.length ≤ 4611686018427387903) :
    Calls Tryz.prog 171 #[v] w fun e w' => e = .returned (.tuple #[]) ∧ RowO B w' v (sortR acc) ∧ Below B w w' := by
  rcases h with ⟨rfl, rfl⟩ | ⟨g, cap, rfl, hB, hg, hc, hH⟩
  · refine (Tryz.slices_Sort_string_none none 0 w).mono ?_
    rintro e w1 ⟨rfl, rfl⟩
    exact ⟨rfl, .inl ⟨by simp [sortR], rfl⟩, Below.refl _ _⟩
  · refine (Tryz.slices_Sort_string g 0 cap acc w hH hg (by omega)).mono ?_
    rintro e w1 ⟨rfl, n, os, rfl⟩
    have hk := keptO_grow (keptO_put w n g (sortR acc).toArray) os
    refine ⟨rfl, .inr ⟨g, cap, by rw [sortR_length], hB, Nat.lt_of_lt_of_le hg hk.size, by rw [sortR_length]; exact hc, ?_⟩, hk.below (by omega) (fun k hk' e => by omega)⟩
    refine holds_grow _ _ _ _ _ _ (by simpa using hg) (holds_putRow _ _ _ _ acc.toArray _ (holds_ahead _ _ _ _ _ _ hH) (by simp))
theorem compactO_len (zs : List (List UInt8)) : (Lib.compact zs).length ≤ zs.length := by
  rw [Lib.compact, Lib.compactUpTo, List.length_map]
  have := List.length_filter_le (Lib.keeps zs.toArray) (List.range zs.length)
  rwa [List.length_range] at this
theorem compactO (B : Nat) (w : World) (v : Value) (acc : List (List UInt8)) (h : RowO B w v acc) (hn : acc.length ≤ 4611686018427387903) :
    Calls Tryz.prog 172 #[v] w fun e w' => ∃ v', e = .returned v' ∧ StrRow w' v' (Lib.compact acc) ∧ Below B w w' := by
  rcases h with ⟨rfl, rfl⟩ | ⟨g, cap, rfl, hB, hg, hc, hH⟩
  · refine (Tryz.slices_Compact_string_empty none 0 w).mono ?_
    rintro e w1 ⟨rfl, rfl⟩
    exact ⟨_, rfl, .inl ⟨by simp [Lib.compact, Lib.compactUpTo], none, 0, rfl⟩, Below.refl _ _⟩
  · refine (Tryz.slices_Compact_string g 0 cap acc w hH (by omega) hc).mono ?_
    rintro e w1 ⟨rfl, q, rfl⟩
    have hl := compactO_len acc
    have hk := keptO_put w q g (Lib.compact acc ++ List.replicate (acc.length - (Lib.compact acc).length) []).toArray
    have hz : (Lib.compact acc ++ List.replicate (acc.length - (Lib.compact acc).length) ([] : List UInt8)).toArray.size = acc.toArray.size := by simp; omega
    have hh := holds_putRow encStr (Sort.ahead w q) g 0 acc.toArray (Lib.compact acc ++ List.replicate (acc.length - (Lib.compact acc).length) []).toArray (holds_ahead _ _ _ _ _ _ hH) hz
    refine ⟨_, rfl, .inr ⟨g, 0, cap, rfl, Nat.lt_of_lt_of_le hg hk.size, Nat.le_trans hl hc, fun j x hj => ?_⟩, hk.below (by omega) (fun k hk' e => by omega)⟩
    have hlt := (List.getElem?_eq_some_iff.1 hj).1
    have := (hh j (by simp; omega)).1
    rw [this]
    have e : (Lib.compact acc ++ List.replicate (acc.length - (Lib.compact acc).length) ([] : List UInt8)).toArray[j]! = x := by
      rw [getElem!_def, List.getElem?_toArray, List.getElem?_append_left hlt, hj]
    rw [e]
    rfl
theorem cloneO (F : Nat → Prop) (v : Value) (xs : List (List UInt8)) (w : World) (h : TxR F w v xs) (hl : xs.length ≤ 8796093022208) :
    Calls Tryz.prog 152 #[v] w fun e w' => ∃ v', e = .returned v' ∧ RowO w.heap.size w' v' xs ∧ Below w.heap.size w w' := by
  rcases h with ⟨a, c, rfl, rfl⟩ | ⟨g, o, cap, rfl, hg, hc⟩
  · cases a with
    | none =>
      refine (Tryz.slices_Clone_string_nil 0 c w).mono ?_
      rintro e w1 ⟨rfl, rfl⟩
      exact ⟨_, rfl, .inl ⟨rfl, rfl⟩, Below.refl _ _⟩
    | some a =>
      refine (Tryz.slices_Clone_string_zero a c w).mono ?_
      rintro e w1 ⟨v', rfl, h1, _, hb⟩
      exact ⟨v', rfl, rowO_own (xs := []) h1, hb⟩
  · refine (Tryz.slices_Clone_string g o xs.length cap (xs.map str) w (by simp) (by omega) (fun j hj => ?_)).mono ?_
    · simp only [List.length_map] at hj
      rw [hc j _ (List.getElem?_eq_getElem hj)]
      simp [List.getD_eq_getElem?_getD, hj]
    · rintro e w1 ⟨v', rfl, h1, _, hb⟩
      refine ⟨v', rfl, rowO_own (xs := xs) (e := 9) ?_, hb⟩
      rw [List.take_of_length_le (by simp), List.map_map] at h1
      exact h1
theorem onceR_is (xs : List (List UInt8)) : onceR xs = Lib.compact (sortR xs) := rfl
end Go.Proofs.YtdeckknfolaaeaaGreatDoor

namespace Go.Proofs.YtdeckknfolaaeaaGreatDoor
open Go.RowKit Go.Shelf
attribute [local go_sem] Oper.semAt_some

/-- What a round is handed: where the item stands, the item, its cases' slice. -/
abbrev Rn : Type := { x : Nat × It × Option Addr × Nat // x.2.1.name.length ≤ 140737488355328 ∧ x.1 ≤ 2199023255552 }
def rnv (x : Rn) : Array Value := #[.int .i64 (x.1.1 : Int), .agg #[.int .i64 x.1.2.1.kind, .string (str x.1.2.1.name), .string (str x.1.2.1.ty), .slice x.1.2.2.1 x.1.2.1.cases.length x.1.2.2.2]]
def rn0 : Rn := ⟨(0, ⟨0, [], [], []⟩, none, 0), by simp⟩
def uptoR (f : Nat → Rn) (k : Nat) : List Rn := (List.range k).map f
theorem uptoR_succ (f : Nat → Rn) (k : Nat) : uptoR f (k + 1) = uptoR f k ++ [f k] := by simp [uptoR, List.range_succ]
theorem uptoR_length (f : Nat → Rn) (k : Nat) : (uptoR f k).length = k := by simp [uptoR]
/-- What a round that goes on keeps: what lay below n₀, and the box of the slice. -/
def KpB (n₀ Bs : Nat) (W W' : World) : Prop := Below n₀ W W' ∧ ∀ v, W.cell? ⟨Bs, 0, none⟩ = some v → W'.cell? ⟨Bs, 0, none⟩ = some v
theorem KpB.t {n₀ Bs : Nat} {A B C : World} (h : KpB n₀ Bs A B) (k : KpB n₀ Bs B C) : KpB n₀ Bs A C := ⟨h.1.trans k.1, fun v hv => k.2 v (h.2 v hv)⟩
theorem KpB.b {n₀ Bs : Nat} {w : World} (hn : n₀ ≤ w.heap.size) (W : World) (l : Nat) (o o' : Obj) (hl : w.heap.size ≤ l) (h : W.heap[l]? = some o) (hc : o.isCells = false) (hw : o.isWalk = false) : KpB n₀ Bs W (W.putObj l o') :=
  ⟨belowK_b hn W l o o' hl h hc hw, fun v hv => cell_kept hv (grownBy_putObj' W l o') (fun r e => by cases e; exact ⟨o, h, hc⟩)⟩
/-- Where each name is found first, as a map. -/
def plL {H : Type} : Nat → List It → DataW H
  | _, [] => .map []
  | i, x :: r => (plL (i + 1) r).put (.string x.name) (.lit (.int .i64 (i : Int)))
def plR {H : Type} (pre : List Rn) : DataW H := pre.foldl (fun D x => D.put (.string x.1.2.1.name) (.lit (.int .i64 (x.1.1 : Int)))) (.map [])
theorem plR_snoc {H : Type} (pre : List Rn) (x : Rn) : plR (H := H) (pre ++ [x]) = (plR pre).put (.string x.1.2.1.name) (.lit (.int .i64 (x.1.1 : Int))) := by simp [plR]
theorem plL_map {H : Type} : ∀ (i : Nat) (l : List It), Maps.IsMap (plL (H := H) i l)
  | _, [] => ⟨[], rfl⟩
  | i, x :: r => by
    obtain ⟨es, he⟩ := plL_map (H := H) (i + 1) r
    rw [plL, he]
    exact ⟨_, rfl⟩
theorem plL_has {H : Type} (q : List UInt8) : ∀ (i : Nat) (l : List It), Maps.has (plL (H := H) i l) (.string q) = (findI l q).isSome
  | _, [] => rfl
  | i, x :: r => by
    by_cases h : x.name = q
    · subst h
      rw [plL, Maps.has_put_same (plL_map _ _) (show WideAt.IsKeyLit (.string x.name) from trivial)]
      simp [findI]
    · rw [plL, Maps.has_put_other (by simp; exact fun e => h e.symm), plL_has q (i + 1) r]
      simp [findI, h]
theorem plL_at {H : Type} (q : List UInt8) (z : DataW H) : ∀ (i : Nat) (l : List It) (x : It), findI l q = some x → ∃ j, ∃ h : j < l.length, l[j] = x ∧ (plL (H := H) i l).atKey (.string q) z = .lit (.int .i64 ((i + j : Nat) : Int))
  | _, [], x, h => by simp [findI] at h
  | i, y :: r, x, h => by
    by_cases hy : y.name = q
    · subst hy
      simp only [findI, List.find?_cons, decide_true, Option.some.injEq] at h
      subst h
      exact ⟨0, by simp, rfl, by rw [plL, Maps.atKey_put_same (plL_map _ _) (show WideAt.IsKeyLit (.string y.name) from trivial)]; rfl⟩
    · have h' : findI r q = some x := by simpa [findI, hy] using h
      obtain ⟨j, hj, e1, e2⟩ := plL_at q z (i + 1) r x h'
      refine ⟨j + 1, by simp; omega, by simpa using e1, ?_⟩
      rw [plL, Maps.atKey_put_other (by simp; exact fun e => hy e.symm), e2]
      congr 3
      omega
theorem plR_all {H : Type} (l : List It) (f : Nat → Rn) (hf : ∀ k, k < l.length → (f k).1.1 = l.length - 1 - k ∧ l[l.length - 1 - k]? = some (f k).1.2.1) : ∀ k, k ≤ l.length → plR (H := H) (uptoR f k) = plL (l.length - k) (l.drop (l.length - k))
  | 0, _ => by
    rw [Nat.sub_zero, List.drop_of_length_le (Nat.le_refl _)]
    rfl
  | k + 1, h => by
    obtain ⟨h1, h2⟩ := hf k (by omega)
    obtain ⟨hj, h3⟩ := List.getElem?_eq_some_iff.1 h2
    rw [uptoR_succ, plR_snoc, plR_all l f hf k (by omega), h1]
    have e : l.length - (k + 1) = l.length - 1 - k := by omega
    rw [e, List.drop_eq_getElem_cons hj, plL, h3, show l.length - 1 - k + 1 = l.length - k by omega]
theorem rn_choose {F : Nat → Prop} {w : World} {g o cap : Nat} {l : List It} (h : ItR F w (.slice (some ⟨g, o, none⟩) l.length cap) l) (hok : ∀ x ∈ l, ItOk x) (hl : l.length ≤ 2199023255552) : ∃ f : Nat → Rn, ∀ k, k < l.length → (f k).1.1 = l.length - 1 - k ∧ l[l.length - 1 - k]? = some (f k).1.2.1 ∧ w.cell? ⟨g, o + (l.length - 1 - k) * 4, none⟩ = some (.int .i64 (f k).1.2.1.kind) ∧ w.cell? ⟨g, o + (l.length - 1 - k) * 4 + 1, none⟩ = some (.string (str (f k).1.2.1.name)) ∧ w.cell? ⟨g, o + (l.length - 1 - k) * 4 + 2, none⟩ = some (.string (str (f k).1.2.1.ty)) ∧ w.cell? ⟨g, o + (l.length - 1 - k) * 4 + 3, none⟩ = some (.slice (f k).1.2.2.1 (f k).1.2.1.cases.length (f k).1.2.2.2) := by
  have key : ∀ k, ∃ x : Rn, k < l.length → x.1.1 = l.length - 1 - k ∧ l[l.length - 1 - k]? = some x.1.2.1 ∧ w.cell? ⟨g, o + (l.length - 1 - k) * 4, none⟩ = some (.int .i64 x.1.2.1.kind) ∧ w.cell? ⟨g, o + (l.length - 1 - k) * 4 + 1, none⟩ = some (.string (str x.1.2.1.name)) ∧ w.cell? ⟨g, o + (l.length - 1 - k) * 4 + 2, none⟩ = some (.string (str x.1.2.1.ty)) ∧ w.cell? ⟨g, o + (l.length - 1 - k) * 4 + 3, none⟩ = some (.slice x.1.2.2.1 x.1.2.1.cases.length x.1.2.2.2) := by
    intro k
    by_cases hk : k < l.length
    · have hj : l.length - 1 - k < l.length := by omega
      obtain ⟨g', o', cap', cv, e1, _, hC, q0, q1, q2, q3⟩ := h.at _ hj
      simp only [Value.slice.injEq, Option.some.injEq, Addr.mk.injEq, and_true, true_and] at e1
      obtain ⟨⟨rfl, rfl⟩, _⟩ := e1
      obtain ⟨ca, cc, rfl⟩ := hC.shape
      exact ⟨⟨(l.length - 1 - k, l[l.length - 1 - k], ca, cc), (hok _ (List.getElem_mem hj)).2.2.1, by show l.length - 1 - k ≤ _; omega⟩, fun _ => ⟨rfl, List.getElem?_eq_getElem hj, q0, q1, q2, q3⟩⟩
    · exact ⟨rn0, fun h => absurd h hk⟩
  exact ⟨fun k => Classical.choose (key k), fun k hk => Classical.choose_spec (key k) hk⟩
end Go.Proofs.YtdeckknfolaaeaaGreatDoor
