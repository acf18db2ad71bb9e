/-
  Chapter 14 as functions: objects, what is refused of them first, and its number. No program in it.
  And: Objects in memory: globals, functions, symbols, relocations in rows; what they are as values. slices.IndexFunc and slices.ContainsFunc at the lists of an object; isGlobal, isFun. Sign, and other small functions of the package object. rightAlone, tooMany, rightCounts, allTypes, isSame, isAhead of the package object. What is refused of one type, text, global of an object.
-/
import Derived.Test.YtcjddbponknnoaaGreatDoorIfaceSpec
import Derived.Lib.ItoaNum
import Derived.Test.YtcjddbponknnoaaGreatDoorIfaceMem
import Derived.Test.YtcjddbponknnoaaGreatDoorIfaceSmall
import Derived.Deep.RegionHeld3
import Derived.Test.YtcjddbponknnoaaGreatDoorIfaceCase
import Derived.Test.YtcjddbponknnoaaGreatDoorTypesSmall
import Derived.Deep.LoopGhost
import Derived.Test.YtcjddbponknnoaaGreatDoorIfaceRight
namespace Go.Proofs.YtcjddbponknnoaaGreatDoor

structure Gl where
  name : List UInt8
  ty : List UInt8
  fn : Int
structure Fn where
  name : List UInt8
  params : List (List UInt8)
  caps : Int
  res : List UInt8
  locals : Int
  code : List UInt8
structure Sy where
  mod : List UInt8
  item : It
structure Rl where
  fn : Int
  place : Int
  sym : Int
structure Ob where
  mod : List UInt8
  types : List It
  texts : List (List UInt8)
  globals : List Gl
  funs : List Fn
  exports : List (List UInt8)
  symbols : List Sy
  relocs : List Rl

/-- How many parameters a sign leaves out. -/
def cutO (f : Fn) : Nat := min (max f.caps 0).toNat f.params.length
def signO (f : Fn) : List UInt8 := funcR (f.params.drop (cutO f)) f.res
def inO (n : Int) (c : Int) : Bool := decide (0 ≤ n) && decide (n < c)
def typeO (m : List UInt8) (ah : List It) (x : It) : Nat :=
  if rightI m [x] ≠ 0 then rightI m [x] else if x.kind ≠ 1 then 12 else if ah.any (fun d => decide (d.name = x.name)) = true then 15 else 0
def textO (t : List UInt8) : Nat := if rightR t = true then 0 else 17
def globalO (nf : Int) (ah : List Gl) (g : Gl) : Nat :=
  if valueR g.name = false then 13 else if ah.any (fun d => decide (d.name = g.name)) = true then 15 else if rightR g.ty = false then 17 else if inO g.fn nf = false then 21 else 0
def countsO (f : Fn) : Bool :=
  decide (0 ≤ f.caps) && (decide (f.caps ≤ f.params.length) && (decide (f.params.length - f.caps ≤ 6) && (decide (f.params.length ≤ f.locals) && (decide (f.locals ≤ 24) && (decide (f.name = []) || decide (f.caps = 0))))))
def funO (gs : List Gl) (ah : List Fn) (f : Fn) : Nat :=
  if f.name ≠ [] ∧ valueR f.name = false then 13
  else if f.name ≠ [] ∧ (ah.any (fun d => decide (d.name = f.name)) = true ∨ gs.any (fun d => decide (d.name = f.name)) = true) then 15
  else if countsO f = false then 19
  else if rightR f.res = false ∨ f.params.all rightR = false ∨ rightR (signO f) = false then 17
  else if 2048 < f.code.length then 3 else 0
/-- What an object has by a name, as others see it. -/
def ownO (o : Ob) (n : List UInt8) : Option It :=
  if n = [] then none else
  match o.globals.find? (fun g => decide (g.name = n)) with
  | some g => some ⟨2, n, g.ty, []⟩
  | none => match o.funs.find? (fun f => decide (f.name = n)) with
    | some f => some ⟨3, n, signO f, []⟩
    | none => findI o.types n
def exportO (o : Ob) (prev : Option (List UInt8)) (n : List UInt8) : Nat :=
  if (ownO o n).isSome = false then 16 else if prev.any (fun p => decide (n ≤ p)) = true then 15 else 0
/-- A number's digits. -/
def numO (n : Nat) : List UInt8 := Lib.decDigits n
def unnamedO (fs : List Fn) (t : List UInt8) : Bool :=
  match (List.range fs.length).find? (fun n => decide (numO n = t)) with
  | some n => match fs[n]? with
    | some f => decide (f.name = [])
    | none => false
  | none => false
def itemO (m : List UInt8) (fs : List Fn) (s : Sy) : Nat :=
  if s.mod ≠ m ∨ s.item.kind ≠ 3 ∨ s.item.name ≠ [] then rightI s.mod [s.item]
  else if 0 < s.item.cases.length then 12 else if unnamedO fs s.item.ty = false then 21 else 0
def sameSy (s t : Sy) : Bool :=
  decide (s.mod = t.mod) && (decide (s.item.kind = t.item.kind) && (decide (s.item.name = t.item.name) && (decide (s.item.name ≠ []) || decide (s.item.ty = t.item.ty))))
def symbolO (m : List UInt8) (fs : List Fn) (ah : List Sy) (s : Sy) : Nat :=
  if valueR s.mod = false then 13 else if itemO m fs s ≠ 0 then itemO m fs s else if ah.any (fun t => sameSy s t) = true then 15 else 0
def codeAt (fs : List Fn) (n : Int) : Int := match fs[n.toNat]? with | some f => f.code.length | none => 0
def aheadO (a b : Rl) : Bool := decide (a.fn < b.fn) || (decide (a.fn = b.fn) && decide (a.place < b.place))
def relocO (fs : List Fn) (ns : Int) (prev : Option Rl) (r : Rl) : Nat :=
  if inO r.fn fs.length = false ∨ inO r.place (codeAt fs r.fn - 1) = false ∨ inO r.sym ns = false then 21
  else if prev.any (fun p => !aheadO p r) = true then 12 else 0
/-- The element k of list n: which refusal. -/
def elemO (o : Ob) (n k : Nat) : Nat :=
  match n with
  | 0 => match o.types[k]? with | some x => typeO o.mod (o.types.take k) x | none => 0
  | 1 => match o.texts[k]? with | some x => textO x | none => 0
  | 2 => match o.globals[k]? with | some x => globalO o.funs.length (o.globals.take k) x | none => 0
  | 3 => match o.funs[k]? with | some x => funO o.globals (o.funs.take k) x | none => 0
  | 4 => match o.exports[k]? with | some x => exportO o (if k = 0 then none else o.exports[k - 1]?) x | none => 0
  | 5 => match o.symbols[k]? with | some x => symbolO o.mod o.funs (o.symbols.take k) x | none => 0
  | 6 => match o.relocs[k]? with | some x => relocO o.funs o.symbols.length (if k = 0 then none else o.relocs[k - 1]?) x | none => 0
  | _ => 0
def lenO (o : Ob) (n : Nat) : Nat :=
  match n with
  | 0 => o.types.length
  | 1 => o.texts.length
  | 2 => o.globals.length
  | 3 => o.funs.length
  | 4 => o.exports.length
  | 5 => o.symbols.length
  | 6 => o.relocs.length
  | _ => 0
/-- From element k on, n of them: the first that is refused. -/
def scanO (f : Nat → Nat) : Nat → Nat → Nat × Nat
  | _, 0 => (0, 0)
  | k, n + 1 => if f k = 0 then scanO f (k + 1) n else (f k, k)
/-- From list j on, n of them. -/
def listsO (o : Ob) : Nat → Nat → Nat × Nat
  | _, 0 => (0, 0)
  | j, n + 1 => if (scanO (elemO o j) 0 (lenO o j)).1 = 0 then listsO o (j + 1) n else scanO (elemO o j) 0 (lenO o j)
def manyO (o : Ob) : Bool :=
  decide (32 < o.types.length) || (decide (32 < o.texts.length) || (decide (32 < o.globals.length) || (decide (32 < o.exports.length) || (decide (48 < o.funs.length) || (decide (96 < o.symbols.length) || decide (384 < o.relocs.length))))))
/-- Right: the refusal and its number. -/
def rightO (o : Ob) : Nat × Nat :=
  if valueR o.mod = false then (13, 0) else if manyO o = true then (4, 0) else listsO o 0 7
/-- Iface's items, of what Right lets by. -/
def ifaceO (o : Ob) : List It := o.exports.map fun n => (ownO o n).getD ⟨0, [], [], []⟩
/-- Imports. -/
def importsO (o : Ob) : List (List UInt8) := onceR ((o.symbols.map (·.mod)).filter fun m => decide (m ≠ o.mod))

theorem scanO_zero {f : Nat → Nat} : ∀ (n k : Nat), (scanO f k n).1 = 0 → scanO f k n = (0, 0)
  | 0, _, _ => rfl
  | n + 1, k, h => by
    rw [scanO] at h ⊢
    by_cases hf : f k = 0
    · rw [if_pos hf] at h ⊢
      exact scanO_zero n (k + 1) h
    · rw [if_neg hf] at h
      exact absurd h hf
theorem scanO_all {f : Nat → Nat} : ∀ (n k : Nat), (scanO f k n).1 = 0 → ∀ i, k ≤ i → i < k + n → f i = 0
  | 0, _, _, i, h1, h2 => by omega
  | n + 1, k, h, i, h1, h2 => by
    rw [scanO] at h
    by_cases hf : f k = 0
    · rw [if_pos hf] at h
      by_cases hi : i = k
      · rw [hi]; exact hf
      · exact scanO_all n (k + 1) h i (by omega) (by omega)
    · rw [if_neg hf] at h
      exact absurd h hf
theorem listsO_all (o : Ob) : ∀ (n j : Nat), (listsO o j n).1 = 0 → ∀ i, j ≤ i → i < j + n → (scanO (elemO o i) 0 (lenO o i)).1 = 0
  | 0, _, _, i, h1, h2 => by omega
  | n + 1, j, h, i, h1, h2 => by
    rw [listsO] at h
    by_cases hf : (scanO (elemO o j) 0 (lenO o j)).1 = 0
    · rw [if_pos hf] at h
      by_cases hi : i = j
      · rw [hi]; exact hf
      · exact listsO_all o n (j + 1) h i (by omega) (by omega)
    · rw [if_neg hf] at h
      exact absurd h hf
end Go.Proofs.YtcjddbponknnoaaGreatDoor

namespace Go.Proofs.YtcjddbponknnoaaGreatDoor
open Go.RowKit

/-- A row of structs of sz cells that can be read, in a block of F; C: what one is by its cells. -/
def RwR {α : Type} (sz : Nat) (C : (Nat → Prop) → World → α → List Value → Prop) (F : Nat → Prop) (w : World) (v : Value) (l : List α) : Prop :=
  (∃ a c, v = .slice a 0 c ∧ l = []) ∨ ∃ g o cap, v = .slice (some ⟨g, o, none⟩) l.length cap ∧ l.length ≤ cap ∧ F g ∧ ∀ (j : Nat) x, l[j]? = some x → ∃ cs, C F w x cs ∧ ∀ (i : Nat) y, cs[i]? = some y → w.cell? ⟨g, o + j * sz + i, none⟩ = some y
/-- What a struct is stays where its blocks stay. -/
def Stay {α : Type} (C : (Nat → Prop) → World → α → List Value → Prop) : Prop := ∀ (F G : Nat → Prop) (w w' : World) (x : α) (cs : List Value), (∀ g, F g → G g ∧ w'.heap[g]? = w.heap[g]?) → C F w x cs → C G w' x cs
theorem RwR.frame {α : Type} {sz : Nat} {C : (Nat → Prop) → World → α → List Value → Prop} (hC : Stay C) {F G : Nat → Prop} {w w' : World} (hF : ∀ g, F g → G g ∧ w'.heap[g]? = w.heap[g]?) {v : Value} {l : List α} (h : RwR sz C F w v l) : RwR sz C G w' v l := by
  rcases h with h | ⟨g, o, cap, h1, h1', h2, h3⟩
  · exact .inl h
  · refine .inr ⟨g, o, cap, h1, h1', (hF g h2).1, fun j x hj => ?_⟩
    obtain ⟨cs, h4, h5⟩ := h3 j x hj
    exact ⟨cs, hC _ _ _ _ _ _ hF h4, fun i y hy => by rw [World.cell?_of_block (w := w) (hF g h2).2]; exact h5 i y hy⟩
theorem RwR.shape {α : Type} {sz : Nat} {C : (Nat → Prop) → World → α → List Value → Prop} {F : Nat → Prop} {w : World} {v : Value} {l : List α} (h : RwR sz C F w v l) : ∃ a c, v = .slice a l.length c := by
  rcases h with ⟨a, c, rfl, rfl⟩ | ⟨g, o, cap, rfl, _⟩
  · exact ⟨a, c, rfl⟩
  · exact ⟨_, _, rfl⟩
theorem RwR.nil {α : Type} (sz : Nat) (C : (Nat → Prop) → World → α → List Value → Prop) (F : Nat → Prop) (w : World) : RwR sz C F w (.slice none 0 0) [] := .inl ⟨none, 0, rfl, rfl⟩
theorem RwR.at {α : Type} {sz : Nat} {C : (Nat → Prop) → World → α → List Value → Prop} {F : Nat → Prop} {w : World} {v : Value} {l : List α} (h : RwR sz C F w v l) (k : Nat) (hk : k < l.length) : ∃ g o cap cs, v = .slice (some ⟨g, o, none⟩) l.length cap ∧ l.length ≤ cap ∧ F g ∧ C F w l[k] cs ∧ ∀ (i : Nat) y, cs[i]? = some y → w.cell? ⟨g, o + k * sz + i, none⟩ = some y := by
  rcases h with ⟨a, c, rfl, rfl⟩ | ⟨g, o, cap, rfl, hc, hg, h⟩
  · simp at hk
  · obtain ⟨cs, h1, h2⟩ := h k _ (List.getElem?_eq_getElem hk)
    exact ⟨g, o, cap, cs, rfl, hc, hg, h1, h2⟩
theorem RwR.below {α : Type} {sz : Nat} {C : (Nat → Prop) → World → α → List Value → Prop} (hC : Stay C) {F : Nat → Prop} {H : Nat} {w w' : World} {v : Value} {l : List α} (h : RwR sz C F w v l) (hb : Below H w w') (hF : ∀ g, F g → g < H) : RwR sz C F w' v l := h.frame hC fun g hg => ⟨hg, hb.block g (hF g hg)⟩
theorem RwR.take {α : Type} {sz : Nat} {C : (Nat → Prop) → World → α → List Value → Prop} {F : Nat → Prop} {w : World} {a : Option Addr} {cap : Nat} {l : List α} (h : RwR sz C F w (.slice a l.length cap) l) (n : Nat) (hn : n ≤ l.length) : RwR sz C F w (.slice a n cap) (l.take n) := by
  rcases h with ⟨a', c, h1, rfl⟩ | ⟨g', o', cap', h1, h1', h2, h3⟩
  · simp at hn
    subst hn
    exact .inl ⟨_, cap, rfl, rfl⟩
  · simp only [Value.slice.injEq, true_and] at h1
    obtain ⟨rfl, rfl⟩ := h1
    refine .inr ⟨g', o', cap, by rw [List.length_take, Nat.min_eq_left hn], by rw [List.length_take, Nat.min_eq_left hn]; omega, h2, fun j x hj => h3 j x ?_⟩
    rw [List.getElem?_take] at hj
    split at hj
    · exact hj
    · cases hj

/-- Texts in a row, with its room. -/
def TxC (F : Nat → Prop) (w : World) (v : Value) (xs : List (List UInt8)) : Prop := TxR F w v xs ∧ ∀ a n c, v = .slice a n c → n ≤ c
/-- Bytes in a row. -/
def ByR (F : Nat → Prop) (w : World) (v : Value) (l : List UInt8) : Prop :=
  (∃ a c, v = .slice a 0 c ∧ l = []) ∨ ∃ g o cap, v = .slice (some ⟨g, o, none⟩) l.length cap ∧ l.length ≤ cap ∧ F g ∧ ∀ (j : Nat) x, l[j]? = some x → w.cell? ⟨g, o + j, none⟩ = some (.int .u8 (x.toNat : Int))
theorem ByR.frame {F G : Nat → Prop} {w w' : World} (hF : ∀ g, F g → G g ∧ w'.heap[g]? = w.heap[g]?) {v : Value} {l : List UInt8} (h : ByR F w v l) : ByR G w' v l := by
  rcases h with h | ⟨g, o, cap, h1, h1', h2, h3⟩
  · exact .inl h
  · exact .inr ⟨g, o, cap, h1, h1', (hF g h2).1, fun j x hj => by rw [World.cell?_of_block (w := w) (hF g h2).2]; exact h3 j x hj⟩
theorem ByR.shape {F : Nat → Prop} {w : World} {v : Value} {l : List UInt8} (h : ByR F w v l) : ∃ a c, v = .slice a l.length c := by
  rcases h with ⟨a, c, rfl, rfl⟩ | ⟨g, o, cap, rfl, _⟩
  · exact ⟨a, c, rfl⟩
  · exact ⟨_, _, rfl⟩
theorem TxC.frame {F G : Nat → Prop} {w w' : World} (hF : ∀ g, F g → G g ∧ w'.heap[g]? = w.heap[g]?) {v : Value} {xs : List (List UInt8)} (h : TxC F w v xs) : TxC G w' v xs := ⟨h.1.frame hF, h.2⟩

def cGl (_ : Nat → Prop) (_ : World) (x : Gl) (cs : List Value) : Prop := cs = [.string (str x.name), .string (str x.ty), .int .i64 x.fn]
def cFn (F : Nat → Prop) (w : World) (x : Fn) (cs : List Value) : Prop := ∃ pv kv, cs = [.string (str x.name), pv, .int .i64 x.caps, .string (str x.res), .int .i64 x.locals, kv] ∧ TxC F w pv x.params ∧ ByR F w kv x.code
def cSy (F : Nat → Prop) (w : World) (x : Sy) (cs : List Value) : Prop := ∃ cv, cs = [.string (str x.mod), .int .i64 x.item.kind, .string (str x.item.name), .string (str x.item.ty), cv] ∧ CsR F w cv x.item.cases
def cRl (_ : Nat → Prop) (_ : World) (x : Rl) (cs : List Value) : Prop := cs = [.int .i64 x.fn, .int .i64 x.place, .int .i64 x.sym]
theorem cGl_stay : Stay cGl := fun _ _ _ _ _ _ _ h => h
theorem cRl_stay : Stay cRl := fun _ _ _ _ _ _ _ h => h
theorem cFn_stay : Stay cFn := fun _ _ _ _ _ _ hF ⟨pv, kv, h1, h2, h3⟩ => ⟨pv, kv, h1, h2.frame hF, h3.frame hF⟩
theorem cSy_stay : Stay cSy := fun _ _ _ _ _ _ hF ⟨cv, h1, h2⟩ => ⟨cv, h1, h2.frame hF⟩
abbrev GlR := RwR 3 cGl
abbrev FnR := RwR 6 cFn
abbrev SyR := RwR 5 cSy
abbrev RlR := RwR 3 cRl

def i64 (n : Int) : Prop := -9223372036854775808 ≤ n ∧ n ≤ 9223372036854775807
def GlOk (x : Gl) : Prop := Tk x.name ∧ Tk x.ty ∧ i64 x.fn
def FnOk (x : Fn) : Prop := Tk x.name ∧ x.params.length ≤ 8796093022208 ∧ (∀ p ∈ x.params, Tk p) ∧ i64 x.caps ∧ Tk x.res ∧ i64 x.locals ∧ x.code.length ≤ 140737488355328
def SyOk (x : Sy) : Prop := Tk x.mod ∧ ItOk x.item
def RlOk (x : Rl) : Prop := i64 x.fn ∧ i64 x.place ∧ i64 x.sym
/-- What an object's parts may be, as large as memory lets them. -/
structure ObOk (o : Ob) : Prop where
  mod : Tk o.mod
  nt : o.types.length ≤ 3518437208883
  types : ∀ x ∈ o.types, ItOk x
  nx : o.texts.length ≤ 8796093022208
  texts : ∀ x ∈ o.texts, Tk x
  ng : o.globals.length ≤ 3518437208883
  globals : ∀ x ∈ o.globals, GlOk x
  nf : o.funs.length ≤ 3518437208883
  funs : ∀ x ∈ o.funs, FnOk x
  ne : o.exports.length ≤ 8796093022208
  exports : ∀ x ∈ o.exports, Tk x
  ns : o.symbols.length ≤ 3518437208883
  symbols : ∀ x ∈ o.symbols, SyOk x
  nr : o.relocs.length ≤ 8796093022208
  relocs : ∀ x ∈ o.relocs, RlOk x
/-- The eight cells of an object. -/
structure ObV where
  t : Value
  x : Value
  g : Value
  f : Value
  e : Value
  s : Value
  r : Value
def ObV.cells (v : ObV) (m : List UInt8) : List Value := [.string (str m), v.t, v.x, v.g, v.f, v.e, v.s, v.r]
/-- An object in memory. -/
structure ObR (F : Nat → Prop) (w : World) (v : ObV) (o : Ob) : Prop where
  types : ItR F w v.t o.types
  texts : TxC F w v.x o.texts
  globals : GlR F w v.g o.globals
  funs : FnR F w v.f o.funs
  exports : TxC F w v.e o.exports
  symbols : SyR F w v.s o.symbols
  relocs : RlR F w v.r o.relocs
theorem ObR.frame {F G : Nat → Prop} {w w' : World} (hF : ∀ g, F g → G g ∧ w'.heap[g]? = w.heap[g]?) {v : ObV} {o : Ob} (h : ObR F w v o) : ObR G w' v o :=
  ⟨h.types.frame hF, h.texts.frame hF, h.globals.frame cGl_stay hF, h.funs.frame cFn_stay hF, h.exports.frame hF, h.symbols.frame cSy_stay hF, h.relocs.frame cRl_stay hF⟩
theorem ObR.below {F : Nat → Prop} {H : Nat} {w w' : World} {v : ObV} {o : Ob} (h : ObR F w v o) (hb : Below H w w') (hF : ∀ g, F g → g < H) : ObR F w' v o := h.frame fun g hg => ⟨hg, hb.block g (hF g hg)⟩
end Go.Proofs.YtcjddbponknnoaaGreatDoor

namespace Go.Proofs.YtcjddbponknnoaaGreatDoor
open Go.RowKit

set_option maxHeartbeats 2000000 in
set_option maxRecDepth 1000000 in
theorem idxI (F : Nat → Prop) (v : Value) (l : List It) (b : Nat) (p : It → Bool) (w : World) (h : ItR F w v l) (hF : ∀ g, F g → g < w.heap.size) (hl : l.length ≤ 3518437208883) 
    (hp : ∀ (k : Nat) (hk : k < l.length) (cv : Value) (wr : World), Below w.heap.size w wr → CsR F wr cv l[k].cases → Calls Tryz.prog 75 #[itv l[k] cv, .pointer (some ⟨b, 0, none⟩)] wr (BoolB (p l[k]) wr)) :
    Calls Tryz.prog 133 #[v, .func (.func 75) #[] #[.pointer (some ⟨b, 0, none⟩)]] w (IdxB (l.any p) w) := by
  obtain ⟨va, vc, rfl⟩ := h.shape
  have H := hidden h
  have HP := hidden hp
  clear h hp
  go_enter Tryz.func133, Tryz.ntmps133
  go_wp2
  go_loopg [8] l.length (fun g i wr => ∃ (k : Nat), g + k = l.length ∧ i = .int .i64 (k : Int) ∧ Hid ((l.take k).any p = false) ∧ Below w.heap.size w wr)
  case atStart => exact ⟨0, by omega, rfl, by rw [hid_iff]; rfl, Below.refl _ _⟩
  case round =>
    obtain ⟨k, hg, rfl, hq, hbw⟩ := hrel
    by_cases hk : k < l.length
    · obtain ⟨g, o, cap, cv, e1, hFg, hC, q0, q1, q2, q3⟩ := (H.out.below hbw hF).at k hk
      simp only [Value.slice.injEq, true_and] at e1
      obtain ⟨rfl, rfl⟩ := e1
      have hc := HP.out k hk cv wr hbw hC
      unfold itv at hc
      generalize l[k].name = xn at *
      generalize l[k].kind = xk at *
      generalize l[k].ty = xt at *
      have hki : (k : Int) < (l.length : Int) := by omega
      cases hx : p l[k]
      · rw [hx] at hc
        have HQ : Hid ((l.take (k + 1)).any p = false) := by
          rw [hid_iff, List.take_succ_eq_append_getElem hk, List.any_append, hq.out, List.any_cons, hx]
          rfl
        clear hq hx
        go_wp2_with fail
        refine hc.mono ?_
        rintro e w1 ⟨rfl, hb1⟩
        have hb2 := below_trans hbw hb1
        go_wp2
        go_roundg (l.length - (k + 1))
        case measure => omega
        case rel => exact ⟨k + 1, by omega, by go_num, HQ, hb2⟩
      · rw [hx] at hc
        have HA : Hid (l.any p = true) := by
          rw [hid_iff, List.any_eq_true]
          exact ⟨_, List.getElem_mem hk, hx⟩
        clear hq hx
        go_wp2_with fail
        refine hc.mono ?_
        rintro e w1 ⟨rfl, hb1⟩
        have hb2 := below_trans hbw hb1
        go_wp2
        go_ret
        exact ⟨(k : Int), rfl, by rw [HA.out]; exact decide_eq_true (by omega), by omega, by omega, hb2⟩
    · have hki : ¬ (k : Int) < (l.length : Int) := by omega
      have HA : Hid (l.any p = false) := by
        have := hq.out
        rwa [List.take_of_length_le (by omega)] at this
      clear hq
      go_wp2
      go_ret
      exact ⟨-1, rfl, (by rw [HA.out]; first | done | rfl), by omega, by omega, hbw⟩
set_option maxHeartbeats 1000000 in
set_option maxRecDepth 1000000 in
theorem conI (F : Nat → Prop) (v : Value) (l : List It) (b : Nat) (p : It → Bool) (w : World) (h : ItR F w v l) (hF : ∀ g, F g → g < w.heap.size) (hl : l.length ≤ 3518437208883) 
    (hp : ∀ (k : Nat) (hk : k < l.length) (cv : Value) (wr : World), Below w.heap.size w wr → CsR F wr cv l[k].cases → Calls Tryz.prog 75 #[itv l[k] cv, .pointer (some ⟨b, 0, none⟩)] wr (BoolB (p l[k]) wr)) :
    Calls Tryz.prog 74 #[v, .func (.func 75) #[] #[.pointer (some ⟨b, 0, none⟩)]] w (BoolB (l.any p) w) := by
  have hi := idxI F v l b p w h hF hl  hp
  obtain ⟨va, vc, rfl⟩ := h.shape
  generalize l.any p = r at *
  clear h hF hp
  go_enter Tryz.func74, Tryz.ntmps74
  go_wp2_with fail
  refine hi.mono ?_
  rintro e w1 ⟨i, rfl, hr, hi1, hi2, hb1⟩
  go_wp2
  go_ret
  exact ⟨(by rw [← hr]; first | done | rfl), hb1⟩
def glv (x : Gl) : Value := .agg #[.string (str x.name), .string (str x.ty), .int .i64 x.fn]
def fnv (x : Fn) (pv kv : Value) : Value := .agg #[.string (str x.name), pv, .int .i64 x.caps, .string (str x.res), .int .i64 x.locals, kv]
def syv (x : Sy) (cv : Value) : Value := .agg #[.string (str x.mod), .int .i64 x.item.kind, .string (str x.item.name), .string (str x.item.ty), cv]
def rlv (x : Rl) : Value := .agg #[.int .i64 x.fn, .int .i64 x.place, .int .i64 x.sym]

set_option maxHeartbeats 2000000 in
set_option maxRecDepth 1000000 in
theorem idxG (F : Nat → Prop) (v : Value) (l : List Gl) (b : Nat) (p : Gl → Bool) (w : World) (h : GlR F w v l) (hF : ∀ g, F g → g < w.heap.size) (hl : l.length ≤ 3518437208883) 
    (hp : ∀ (k : Nat) (hk : k < l.length) (wr : World), Below w.heap.size w wr → Calls Tryz.prog 136 #[glv l[k], .pointer (some ⟨b, 0, none⟩)] wr (BoolB (p l[k]) wr)) :
    Calls Tryz.prog 178 #[v, .func (.func 136) #[] #[.pointer (some ⟨b, 0, none⟩)]] w (IdxB (l.any p) w) := by
  obtain ⟨va, vc, rfl⟩ := h.shape
  have H := hidden h
  have HP := hidden hp
  clear h hp
  go_enter Tryz.func178, Tryz.ntmps178
  go_wp2
  go_loopg [8] l.length (fun g i wr => ∃ (k : Nat), g + k = l.length ∧ i = .int .i64 (k : Int) ∧ Hid ((l.take k).any p = false) ∧ Below w.heap.size w wr)
  case atStart => exact ⟨0, by omega, rfl, by rw [hid_iff]; rfl, Below.refl _ _⟩
  case round =>
    obtain ⟨k, hg, rfl, hq, hbw⟩ := hrel
    by_cases hk : k < l.length
    · obtain ⟨g, o, cap, cs, e1, hcap, hFg, hC, hcell⟩ := (H.out.below cGl_stay hbw hF).at k hk
      simp only [Value.slice.injEq, true_and] at e1
      obtain ⟨rfl, rfl⟩ := e1
      have hc := HP.out k hk wr hbw
      unfold cGl at hC
      subst hC
      have q0 := hcell 0 _ rfl
      have q1 := hcell 1 _ rfl
      have q2 := hcell 2 _ rfl
      simp only [Nat.add_zero] at q0
      clear hcell
      unfold glv at hc
      generalize l[k].name = xn at *
      generalize l[k].ty = xt at *
      generalize l[k].fn = xf at *
      have hki : (k : Int) < (l.length : Int) := by omega
      cases hx : p l[k]
      · rw [hx] at hc
        have HQ : Hid ((l.take (k + 1)).any p = false) := by
          rw [hid_iff, List.take_succ_eq_append_getElem hk, List.any_append, hq.out, List.any_cons, hx]
          rfl
        clear hq hx
        go_wp2_with fail
        refine hc.mono ?_
        rintro e w1 ⟨rfl, hb1⟩
        have hb2 := below_trans hbw hb1
        go_wp2
        go_roundg (l.length - (k + 1))
        case measure => omega
        case rel => exact ⟨k + 1, by omega, by go_num, HQ, hb2⟩
      · rw [hx] at hc
        have HA : Hid (l.any p = true) := by
          rw [hid_iff, List.any_eq_true]
          exact ⟨_, List.getElem_mem hk, hx⟩
        clear hq hx
        go_wp2_with fail
        refine hc.mono ?_
        rintro e w1 ⟨rfl, hb1⟩
        have hb2 := below_trans hbw hb1
        go_wp2
        go_ret
        exact ⟨(k : Int), rfl, by rw [HA.out]; exact decide_eq_true (by omega), by omega, by omega, hb2⟩
    · have hki : ¬ (k : Int) < (l.length : Int) := by omega
      have HA : Hid (l.any p = false) := by
        have := hq.out
        rwa [List.take_of_length_le (by omega)] at this
      clear hq
      go_wp2
      go_ret
      exact ⟨-1, rfl, (by rw [HA.out]; first | done | rfl), by omega, by omega, hbw⟩
set_option maxHeartbeats 1000000 in
set_option maxRecDepth 1000000 in
theorem conG (F : Nat → Prop) (v : Value) (l : List Gl) (b : Nat) (p : Gl → Bool) (w : World) (h : GlR F w v l) (hF : ∀ g, F g → g < w.heap.size) (hl : l.length ≤ 3518437208883) 
    (hp : ∀ (k : Nat) (hk : k < l.length) (wr : World), Below w.heap.size w wr → Calls Tryz.prog 136 #[glv l[k], .pointer (some ⟨b, 0, none⟩)] wr (BoolB (p l[k]) wr)) :
    Calls Tryz.prog 135 #[v, .func (.func 136) #[] #[.pointer (some ⟨b, 0, none⟩)]] w (BoolB (l.any p) w) := by
  have hi := idxG F v l b p w h hF hl  hp
  obtain ⟨va, vc, rfl⟩ := h.shape
  generalize l.any p = r at *
  clear h hF hp
  go_enter Tryz.func135, Tryz.ntmps135
  go_wp2_with fail
  refine hi.mono ?_
  rintro e w1 ⟨i, rfl, hr, hi1, hi2, hb1⟩
  go_wp2
  go_ret
  exact ⟨(by rw [← hr]; first | done | rfl), hb1⟩

set_option maxHeartbeats 2000000 in
set_option maxRecDepth 1000000 in
theorem idxF (F : Nat → Prop) (v : Value) (l : List Fn) (b : Nat) (p : Fn → Bool) (w : World) (h : FnR F w v l) (hF : ∀ g, F g → g < w.heap.size) (hl : l.length ≤ 3518437208883) 
    (hp : ∀ (k : Nat) (hk : k < l.length) (pv kv : Value) (wr : World), Below w.heap.size w wr → Calls Tryz.prog 138 #[fnv l[k] pv kv, .pointer (some ⟨b, 0, none⟩)] wr (BoolB (p l[k]) wr)) :
    Calls Tryz.prog 179 #[v, .func (.func 138) #[] #[.pointer (some ⟨b, 0, none⟩)]] w (IdxB (l.any p) w) := by
  obtain ⟨va, vc, rfl⟩ := h.shape
  have H := hidden h
  have HP := hidden hp
  clear h hp
  go_enter Tryz.func179, Tryz.ntmps179
  go_wp2
  go_loopg [8] l.length (fun g i wr => ∃ (k : Nat), g + k = l.length ∧ i = .int .i64 (k : Int) ∧ Hid ((l.take k).any p = false) ∧ Below w.heap.size w wr)
  case atStart => exact ⟨0, by omega, rfl, by rw [hid_iff]; rfl, Below.refl _ _⟩
  case round =>
    obtain ⟨k, hg, rfl, hq, hbw⟩ := hrel
    by_cases hk : k < l.length
    · obtain ⟨g, o, cap, cs, e1, hcap, hFg, hC, hcell⟩ := (H.out.below cFn_stay hbw hF).at k hk
      simp only [Value.slice.injEq, true_and] at e1
      obtain ⟨rfl, rfl⟩ := e1
      obtain ⟨pv, kv, rfl, hpv, hkv⟩ := hC
      have hc := HP.out k hk pv kv wr hbw
      have q0 := hcell 0 _ rfl
      have q1 := hcell 1 _ rfl
      have q2 := hcell 2 _ rfl
      have q3 := hcell 3 _ rfl
      have q4 := hcell 4 _ rfl
      have q5 := hcell 5 _ rfl
      simp only [Nat.add_zero] at q0
      clear hcell hpv hkv
      unfold fnv at hc
      generalize l[k].name = xn at *
      generalize l[k].res = xt at *
      generalize l[k].caps = xf at *
      generalize l[k].locals = xl at *
      have hki : (k : Int) < (l.length : Int) := by omega
      cases hx : p l[k]
      · rw [hx] at hc
        have HQ : Hid ((l.take (k + 1)).any p = false) := by
          rw [hid_iff, List.take_succ_eq_append_getElem hk, List.any_append, hq.out, List.any_cons, hx]
          rfl
        clear hq hx
        go_wp2_with fail
        refine hc.mono ?_
        rintro e w1 ⟨rfl, hb1⟩
        have hb2 := below_trans hbw hb1
        go_wp2
        go_roundg (l.length - (k + 1))
        case measure => omega
        case rel => exact ⟨k + 1, by omega, by go_num, HQ, hb2⟩
      · rw [hx] at hc
        have HA : Hid (l.any p = true) := by
          rw [hid_iff, List.any_eq_true]
          exact ⟨_, List.getElem_mem hk, hx⟩
        clear hq hx
        go_wp2_with fail
        refine hc.mono ?_
        rintro e w1 ⟨rfl, hb1⟩
        have hb2 := below_trans hbw hb1
        go_wp2
        go_ret
        exact ⟨(k : Int), rfl, by rw [HA.out]; exact decide_eq_true (by omega), by omega, by omega, hb2⟩
    · have hki : ¬ (k : Int) < (l.length : Int) := by omega
      have HA : Hid (l.any p = false) := by
        have := hq.out
        rwa [List.take_of_length_le (by omega)] at this
      clear hq
      go_wp2
      go_ret
      exact ⟨-1, rfl, (by rw [HA.out]; first | done | rfl), by omega, by omega, hbw⟩
set_option maxHeartbeats 1000000 in
set_option maxRecDepth 1000000 in
theorem conF (F : Nat → Prop) (v : Value) (l : List Fn) (b : Nat) (p : Fn → Bool) (w : World) (h : FnR F w v l) (hF : ∀ g, F g → g < w.heap.size) (hl : l.length ≤ 3518437208883) 
    (hp : ∀ (k : Nat) (hk : k < l.length) (pv kv : Value) (wr : World), Below w.heap.size w wr → Calls Tryz.prog 138 #[fnv l[k] pv kv, .pointer (some ⟨b, 0, none⟩)] wr (BoolB (p l[k]) wr)) :
    Calls Tryz.prog 137 #[v, .func (.func 138) #[] #[.pointer (some ⟨b, 0, none⟩)]] w (BoolB (l.any p) w) := by
  have hi := idxF F v l b p w h hF hl  hp
  obtain ⟨va, vc, rfl⟩ := h.shape
  generalize l.any p = r at *
  clear h hF hp
  go_enter Tryz.func137, Tryz.ntmps137
  go_wp2_with fail
  refine hi.mono ?_
  rintro e w1 ⟨i, rfl, hr, hi1, hi2, hb1⟩
  go_wp2
  go_ret
  exact ⟨(by rw [← hr]; first | done | rfl), hb1⟩

set_option maxHeartbeats 2000000 in
set_option maxRecDepth 1000000 in
theorem idxS (F : Nat → Prop) (v : Value) (l : List Sy) (sv : Value) (p : Sy → Bool) (w : World) (h : SyR F w v l) (hF : ∀ g, F g → g < w.heap.size) (hl : l.length ≤ 3518437208883) 
    (hp : ∀ (k : Nat) (hk : k < l.length) (cv : Value) (wr : World), Below w.heap.size w wr → Calls Tryz.prog 84 #[sv, syv l[k] cv] wr (BoolB (p l[k]) wr)) :
    Calls Tryz.prog 140 #[v, .func (.func 84) #[sv] #[]] w (IdxB (l.any p) w) := by
  obtain ⟨va, vc, rfl⟩ := h.shape
  have H := hidden h
  have HP := hidden hp
  clear h hp
  go_enter Tryz.func140, Tryz.ntmps140
  go_wp2
  go_loopg [8] l.length (fun g i wr => ∃ (k : Nat), g + k = l.length ∧ i = .int .i64 (k : Int) ∧ Hid ((l.take k).any p = false) ∧ Below w.heap.size w wr)
  case atStart => exact ⟨0, by omega, rfl, by rw [hid_iff]; rfl, Below.refl _ _⟩
  case round =>
    obtain ⟨k, hg, rfl, hq, hbw⟩ := hrel
    by_cases hk : k < l.length
    · obtain ⟨g, o, cap, cs, e1, hcap, hFg, hC, hcell⟩ := (H.out.below cSy_stay hbw hF).at k hk
      simp only [Value.slice.injEq, true_and] at e1
      obtain ⟨rfl, rfl⟩ := e1
      obtain ⟨cv, rfl, hcv⟩ := hC
      have hc := HP.out k hk cv wr hbw
      have q0 := hcell 0 _ rfl
      have q1 := hcell 1 _ rfl
      have q2 := hcell 2 _ rfl
      have q3 := hcell 3 _ rfl
      have q4 := hcell 4 _ rfl
      simp only [Nat.add_zero] at q0
      clear hcell hcv
      unfold syv at hc
      generalize l[k].mod = xn at *
      generalize l[k].item.name = xm at *
      generalize l[k].item.ty = xt at *
      generalize l[k].item.kind = xk at *
      have hki : (k : Int) < (l.length : Int) := by omega
      cases hx : p l[k]
      · rw [hx] at hc
        have HQ : Hid ((l.take (k + 1)).any p = false) := by
          rw [hid_iff, List.take_succ_eq_append_getElem hk, List.any_append, hq.out, List.any_cons, hx]
          rfl
        clear hq hx
        go_wp2_with fail
        refine hc.mono ?_
        rintro e w1 ⟨rfl, hb1⟩
        have hb2 := below_trans hbw hb1
        go_wp2
        go_roundg (l.length - (k + 1))
        case measure => omega
        case rel => exact ⟨k + 1, by omega, by go_num, HQ, hb2⟩
      · rw [hx] at hc
        have HA : Hid (l.any p = true) := by
          rw [hid_iff, List.any_eq_true]
          exact ⟨_, List.getElem_mem hk, hx⟩
        clear hq hx
        go_wp2_with fail
        refine hc.mono ?_
        rintro e w1 ⟨rfl, hb1⟩
        have hb2 := below_trans hbw hb1
        go_wp2
        go_ret
        exact ⟨(k : Int), rfl, by rw [HA.out]; exact decide_eq_true (by omega), by omega, by omega, hb2⟩
    · have hki : ¬ (k : Int) < (l.length : Int) := by omega
      have HA : Hid (l.any p = false) := by
        have := hq.out
        rwa [List.take_of_length_le (by omega)] at this
      clear hq
      go_wp2
      go_ret
      exact ⟨-1, rfl, (by rw [HA.out]; first | done | rfl), by omega, by omega, hbw⟩
set_option maxHeartbeats 1000000 in
set_option maxRecDepth 1000000 in
theorem conS (F : Nat → Prop) (v : Value) (l : List Sy) (sv : Value) (p : Sy → Bool) (w : World) (h : SyR F w v l) (hF : ∀ g, F g → g < w.heap.size) (hl : l.length ≤ 3518437208883) 
    (hp : ∀ (k : Nat) (hk : k < l.length) (cv : Value) (wr : World), Below w.heap.size w wr → Calls Tryz.prog 84 #[sv, syv l[k] cv] wr (BoolB (p l[k]) wr)) :
    Calls Tryz.prog 83 #[v, .func (.func 84) #[sv] #[]] w (BoolB (l.any p) w) := by
  have hi := idxS F v l sv p w h hF hl  hp
  obtain ⟨va, vc, rfl⟩ := h.shape
  generalize l.any p = r at *
  clear h hF hp
  go_enter Tryz.func83, Tryz.ntmps83
  go_wp2_with fail
  refine hi.mono ?_
  rintro e w1 ⟨i, rfl, hr, hi1, hi2, hb1⟩
  go_wp2
  go_ret
  exact ⟨(by rw [← hr]; first | done | rfl), hb1⟩

set_option maxHeartbeats 1000000 in
set_option maxRecDepth 1000000 in
theorem predI (x : It) (cv : Value) (b : Nat) (n : List UInt8) (w : World) (hb : w.cell? ⟨b, 1, none⟩ = some (.string (str n))) : Calls Tryz.prog 75 #[itv x cv, .pointer (some ⟨b, 0, none⟩)] w (BoolB (decide (x.name = n)) w) := by
  obtain ⟨xk, xn, xt, xc⟩ := x
  unfold itv
  simp only
  have hbl : b < w.heap.size := World.block_lt_of_cell? w _ hb
  have hb0 : Below w.heap.size w (w.alloc (.cells #[.int .i64 xk, .string (str xn), .string (str xt), cv] 75)) := (Below.refl _ _).alloc (Nat.le_refl _) _
  have he := eq_is xn n
  generalize decide (xn = n) = r at *
  go_enter Tryz.func75, Tryz.ntmps75
  go_wp2
  go_ret
  exact ⟨rfl, hb0⟩
set_option maxHeartbeats 1000000 in
set_option maxRecDepth 1000000 in
theorem predG (x : Gl) (b : Nat) (n : List UInt8) (w : World) (hb : w.cell? ⟨b, 0, none⟩ = some (.string (str n))) : Calls Tryz.prog 136 #[glv x, .pointer (some ⟨b, 0, none⟩)] w (BoolB (decide (x.name = n)) w) := by
  obtain ⟨xn, xt, xf⟩ := x
  unfold glv
  simp only
  have hbl : b < w.heap.size := World.block_lt_of_cell? w _ hb
  have hb0 : Below w.heap.size w (w.alloc (.cells #[.string (str xn), .string (str xt), .int .i64 xf] 79)) := (Below.refl _ _).alloc (Nat.le_refl _) _
  have he := eq_is xn n
  generalize decide (xn = n) = r at *
  go_enter Tryz.func136, Tryz.ntmps136
  go_wp2
  go_ret
  exact ⟨rfl, hb0⟩
set_option maxHeartbeats 1000000 in
set_option maxRecDepth 1000000 in
theorem predF (x : Fn) (pv kv : Value) (b : Nat) (n : List UInt8) (w : World) (hb : w.cell? ⟨b, 0, none⟩ = some (.string (str n))) : Calls Tryz.prog 138 #[fnv x pv kv, .pointer (some ⟨b, 0, none⟩)] w (BoolB (decide (x.name = n)) w) := by
  obtain ⟨xn, xp, xc, xr, xl, xk⟩ := x
  unfold fnv
  simp only
  have hbl : b < w.heap.size := World.block_lt_of_cell? w _ hb
  have hb0 : Below w.heap.size w (w.alloc (.cells #[.string (str xn), pv, .int .i64 xc, .string (str xr), .int .i64 xl, kv] 52)) := (Below.refl _ _).alloc (Nat.le_refl _) _
  have he := eq_is xn n
  generalize decide (xn = n) = r at *
  go_enter Tryz.func138, Tryz.ntmps138
  go_wp2
  go_ret
  exact ⟨rfl, hb0⟩

set_option maxHeartbeats 1000000 in
set_option maxRecDepth 1000000 in
theorem isGlobal (F : Nat → Prop) (v : Value) (l : List Gl) (n : List UInt8) (w : World) (h : GlR F w v l) (hF : ∀ g, F g → g < w.heap.size) (hl : l.length ≤ 3518437208883) :
    Calls Tryz.prog 77 #[v, .string (str n)] w (BoolB (l.any (fun d => decide (d.name = n))) w) := by
  have hb0 : Below w.heap.size w (w.alloc (.cells #[.string (str n)] 9)) := (Below.refl _ _).alloc (Nat.le_refl _) _
  have hc := cells_new w [.string (str n)] 9 0 _ rfl
  rw [add_at] at hc
  have hi := conG F v l w.heap.size (fun d => decide (d.name = n)) _ (h.below cGl_stay hb0 hF) (fun g hg => by have := hF g hg; simp; omega) hl (fun k hk wr hbw => predG l[k] w.heap.size n wr ((World.cell?_of_block (a := ⟨w.heap.size, 0, none⟩) (hbw.block w.heap.size (by simp))).trans hc))
  obtain ⟨va, vc, rfl⟩ := h.shape
  generalize l.any (fun d => decide (d.name = n)) = r at *
  clear h hF hc
  go_enter Tryz.func77, Tryz.ntmps77
  go_wp2_with fail
  refine hi.mono ?_
  rintro e w1 ⟨rfl, hb1⟩
  have hb2 := below_trans hb0 hb1
  go_wp2
  go_ret
  exact ⟨rfl, hb2⟩

set_option maxHeartbeats 1000000 in
set_option maxRecDepth 1000000 in
theorem isFun (F : Nat → Prop) (v : Value) (l : List Fn) (n : List UInt8) (w : World) (h : FnR F w v l) (hF : ∀ g, F g → g < w.heap.size) (hl : l.length ≤ 3518437208883) :
    Calls Tryz.prog 79 #[v, .string (str n)] w (BoolB (l.any (fun d => decide (d.name = n))) w) := by
  have hb0 : Below w.heap.size w (w.alloc (.cells #[.string (str n)] 9)) := (Below.refl _ _).alloc (Nat.le_refl _) _
  have hc := cells_new w [.string (str n)] 9 0 _ rfl
  rw [add_at] at hc
  have hi := conF F v l w.heap.size (fun d => decide (d.name = n)) _ (h.below cFn_stay hb0 hF) (fun g hg => by have := hF g hg; simp; omega) hl (fun k hk pv kv wr hbw => predF l[k] pv kv w.heap.size n wr ((World.cell?_of_block (a := ⟨w.heap.size, 0, none⟩) (hbw.block w.heap.size (by simp))).trans hc))
  obtain ⟨va, vc, rfl⟩ := h.shape
  generalize l.any (fun d => decide (d.name = n)) = r at *
  clear h hF hc
  go_enter Tryz.func79, Tryz.ntmps79
  go_wp2_with fail
  refine hi.mono ?_
  rintro e w1 ⟨rfl, hb1⟩
  have hb2 := below_trans hb0 hb1
  go_wp2
  go_ret
  exact ⟨rfl, hb2⟩
end Go.Proofs.YtcjddbponknnoaaGreatDoor

namespace Go.Proofs.YtcjddbponknnoaaGreatDoor
open Go.RowKit

set_option maxRecDepth 1000000 in
theorem isIndex (n c : Int) (w : World) : Calls Tryz.prog 78 #[.int .i64 n, .int .i64 c] w (Pu (.bool (inO n c)) w) := by
  by_cases h0 : 0 ≤ n
  · by_cases h1 : n < c
    · have HV : Hid (inO n c = true) := by rw [hid_iff]; simp [inO, h0, h1]
      go_enter Tryz.func78, Tryz.ntmps78
      go_wp2
      go_ret
      exact ⟨by rw [HV.out]; rfl, rfl⟩
    · have HV : Hid (inO n c = false) := by rw [hid_iff]; simp [inO, h1]
      go_enter Tryz.func78, Tryz.ntmps78
      go_wp2
      go_ret
      exact ⟨by rw [HV.out]; rfl, rfl⟩
  · have HV : Hid (inO n c = false) := by rw [hid_iff]; simp [inO, h0]
    go_enter Tryz.func78, Tryz.ntmps78
    go_wp2
    go_ret
    exact ⟨by rw [HV.out]; rfl, rfl⟩
theorem addk (b o k : Nat) : (⟨b, o, none⟩ : Addr).add k = ⟨b, o + k, none⟩ := by
  by_cases h0 : k = 0
  · subst h0; simp [Addr.add]
  · simp [Addr.add, h0]
set_option maxHeartbeats 1000000 in
set_option maxRecDepth 1000000 in
theorem osign (F : Nat → Prop) (f : Fn) (pv kv : Value) (w : World) (hp : TxC F w pv f.params) (hF : ∀ g, F g → g < w.heap.size) (hok : FnOk f) (hl : f.params.length ≤ 1000000) (hj : (joinR (f.params.drop (cutO f))).length ≤ 1000000000) (hr : f.res.length ≤ 1000000000) :
    Calls Tryz.prog 15 #[fnv f pv kv] w (TextB (signO f) w) := by
  obtain ⟨nm, ps, cp, rs, lc, cd⟩ := f
  obtain ⟨va, vc, rfl⟩ := hp.1.shape
  have hvc : ps.length ≤ vc := hp.2 _ _ _ rfl
  unfold fnv
  simp only at *
  have hcut : cutO ⟨nm, ps, cp, rs, lc, cd⟩ = min (max cp 0).toNat ps.length := rfl
  have HS : Hid (signO ⟨nm, ps, cp, rs, lc, cd⟩ = funcR (ps.drop (cutO ⟨nm, ps, cp, rs, lc, cd⟩)) rs) := rfl
  obtain ⟨k, hk⟩ : ∃ k : Nat, min (max cp 0) (ps.length : Int) = (k : Int) := ⟨(min (max cp 0) (ps.length : Int)).toNat, by omega⟩
  have hkc : cutO ⟨nm, ps, cp, rs, lc, cd⟩ = k := by rw [hcut]; omega
  rw [hkc] at HS hj
  clear hcut hkc hok
  have hkl : k ≤ ps.length := by omega
  have hb0 : Below w.heap.size w (w.alloc (.cells #[.string (str nm), .slice va ps.length vc, .int .i64 cp, .string (str rs), .int .i64 lc, kv] 52)) := (Below.refl _ _).alloc (Nat.le_refl _) _
  have hS : ∀ a' n' c', n' = ps.length - k → (ps.length - k = 0 ∨ a' = va.map (·.add k) ∧ c' = vc - k) → StrRow w (.slice a' n' c') (ps.drop k) := by
    rintro a' n' c' rfl ha
    by_cases h0 : ps.length - k = 0
    · exact .inl ⟨List.drop_of_length_le (by omega), a', c', by rw [h0]⟩
    · rcases ha with h1 | ⟨rfl, rfl⟩
      · exact absurd h1 h0
      · rcases hp.1 with ⟨a, c0, e, rfl⟩ | ⟨g, o, cap, e, hg, hcell⟩
        · exact absurd (by simp) h0
        · simp only [Value.slice.injEq, true_and] at e
          obtain ⟨rfl, rfl⟩ := e
          refine .inr ⟨g, o + k, vc - k, by simp [addk], hF g hg, by simp; omega, fun j x hx => ?_⟩
          rw [List.getElem?_drop] at hx
          rw [Nat.add_assoc]
          exact hcell _ x hx
  have hT : ∀ u a' n' c', Below w.heap.size w u → n' = ps.length - k → (ps.length - k = 0 ∨ a' = va.map (·.add k) ∧ c' = vc - k) → Calls Tryz.prog 52 #[.slice a' n' c', .string (str rs)] u (TextB (funcR (ps.drop k) rs) u) := by
    intro u a' n' c' hu h1 h2
    exact func _ _ rs u ((hS a' n' c' h1 h2).below hu) (by simp; omega) hj hr
  generalize funcR (ps.drop k) rs = res at *
  clear hS hj hr
  have k0 : (0 : Int) ≤ (k : Int) := by omega
  have k1 : (k : Int) ≤ (ps.length : Int) := by omega
  have k2 : (k : Int) ≤ (vc : Int) := by omega
  have k3 : (ps.length : Int) ≤ (vc : Int) := by omega
  have hva : va = none ∧ ps.length = 0 ∨ ∃ b o sp, va = some ⟨b, o, sp⟩ := by
    rcases va with _ | ⟨b, o, sp⟩
    · left
      rcases hp.1 with ⟨a, c0, e, h⟩ | ⟨g, o, cap, e, hg, hcell⟩
      · exact ⟨rfl, by rw [h]; rfl⟩
      · simp at e
    · exact .inr ⟨b, o, sp, rfl⟩
  clear hp
  generalize ps.length = n at *
  rcases hva with ⟨rfl, h0⟩ | ⟨b, o, sp, rfl⟩
  · subst h0
    by_cases hv : vc = k
    · subst hv
      go_enter Tryz.func15, Tryz.ntmps15
      go_wp2_with fail
      go_region_with (go_at_call 52; refine (hT _ _ _ _ (by first | exact below_drew hb0 | exact hb0) (by omega) (by first | exact .inl (by omega) | exact .inr ⟨rfl, rfl⟩)).mono ?_; rintro e w2 ⟨rfl, hb2⟩)
      all_goals (
        go_wp2
        go_ret
        exact ⟨(by rw [HS.out]; first | done | rfl), by first | exact below_trans hb0 (below_undrew hb2) | exact below_trans hb0 hb2⟩)
    · have hvi : ¬ (vc : Int) = (k : Int) := by omega
      go_enter Tryz.func15, Tryz.ntmps15
      go_wp2_with fail
      go_region_with (go_at_call 52; refine (hT _ _ _ _ (by first | exact below_drew hb0 | exact hb0) (by omega) (by first | exact .inl (by omega) | exact .inr ⟨rfl, rfl⟩)).mono ?_; rintro e w2 ⟨rfl, hb2⟩)
      all_goals (
        go_wp2
        go_ret
        exact ⟨(by rw [HS.out]; first | done | rfl), by first | exact below_trans hb0 (below_undrew hb2) | exact below_trans hb0 hb2⟩)
  · by_cases hv : vc = k
    · subst hv
      go_enter Tryz.func15, Tryz.ntmps15
      go_wp2_with fail
      go_region_with (go_at_call 52; refine (hT _ _ _ _ (by first | exact below_drew hb0 | exact hb0) (by omega) (by first | exact .inl (by omega) | exact .inr ⟨rfl, rfl⟩)).mono ?_; rintro e w2 ⟨rfl, hb2⟩)
      all_goals (
        go_wp2
        go_ret
        exact ⟨(by rw [HS.out]; first | done | rfl), by first | exact below_trans hb0 (below_undrew hb2) | exact below_trans hb0 hb2⟩)
    · have hvi : ¬ (vc : Int) = (k : Int) := by omega
      go_enter Tryz.func15, Tryz.ntmps15
      go_wp2_with fail
      go_region_with (go_at_call 52; refine (hT _ _ _ _ (by first | exact below_drew hb0 | exact hb0) (by omega) (by first | exact .inl (by omega) | exact .inr ⟨rfl, rfl⟩)).mono ?_; rintro e w2 ⟨rfl, hb2⟩)
      all_goals (
        go_wp2
        go_ret
        exact ⟨(by rw [HS.out]; first | done | rfl), by first | exact below_trans hb0 (below_undrew hb2) | exact below_trans hb0 hb2⟩)
end Go.Proofs.YtcjddbponknnoaaGreatDoor

namespace Go.Proofs.YtcjddbponknnoaaGreatDoor
open Go.RowKit

set_option maxHeartbeats 2000000 in
set_option maxRecDepth 1000000 in
theorem oallTypes (F : Nat → Prop) (v : Value) (xs : List (List UInt8)) (w : World) (h : TxR F w v xs) (hF : ∀ g, F g → g < w.heap.size) (hl : xs.length ≤ 8796093022208) : Calls Tryz.prog 81 #[v] w (BoolB (xs.all rightR) w) := by
  obtain ⟨va, vc, rfl⟩ := h.shape
  have H := hidden h
  clear h
  go_enter Tryz.func81, Tryz.ntmps81
  go_wp2
  go_loopg [7] xs.length (fun g i wr => ∃ (k : Nat), g + k = xs.length ∧ i = .int .i64 (k : Int) ∧ Hid ((xs.take k).all rightR = true) ∧ Below w.heap.size w wr)
  case atStart => exact ⟨0, by omega, rfl, by rw [hid_iff]; rfl, Below.refl _ _⟩
  case round =>
    obtain ⟨k, hg, rfl, hq, hbl⟩ := hrel
    by_cases hk : k < xs.length
    · obtain ⟨g, o, cap, e1, hFg, q⟩ := (H.out.below hbl hF).at k hk
      simp only [Value.slice.injEq, true_and] at e1
      obtain ⟨rfl, rfl⟩ := e1
      have hki : (k : Int) < (xs.length : Int) := by omega
      have hr := fun u => right (str xs[k]) u
      rw [str_data] at hr
      cases hb : rightR xs[k]
      · rw [hb] at hr
        have HF : Hid (xs.all rightR = false) := all_not hk hb
        generalize xs[k] = x at *
        clear hq hb
        go_wp2_with fail
        refine (hr _).mono ?_
        rintro e w1 ⟨rfl, hb1⟩
        go_wp2
        go_ret
        exact ⟨(by rw [HF.out]; first | done | rfl), below_trans hbl hb1⟩
      · rw [hb] at hr
        have HQ : Hid ((xs.take (k + 1)).all rightR = true) := all_next hk hq.out hb
        generalize xs[k] = x at *
        clear hq hb
        go_wp2_with fail
        refine (hr _).mono ?_
        rintro e w1 ⟨rfl, hb1⟩
        have hb2 := below_trans hbl hb1
        go_wp2
        go_roundg (xs.length - (k + 1))
        case measure => omega
        case rel => exact ⟨k + 1, by omega, by go_num, HQ, hb2⟩
    · have hki : ¬ (k : Int) < (xs.length : Int) := by omega
      have HA : Hid (xs.all rightR = true) := by
        have := hq.out
        rwa [List.take_of_length_le (by omega)] at this
      clear hq
      go_wp2
      go_ret
      exact ⟨(by rw [HA.out]; first | done | rfl), hbl⟩

def obv (u : ObV) (m : List UInt8) : Value := .agg #[.string (str m), u.t, u.x, u.g, u.f, u.e, u.s, u.r]
set_option maxHeartbeats 1000000 in
set_option maxRecDepth 1000000 in
theorem rightAlone (F : Nat → Prop) (m : List UInt8) (x : It) (cv : Value) (w : World) (h : CsR F w cv x.cases) (hF : ∀ g, F g → g < w.heap.size) (hm : Tk m) (hx : ItOk x) : Calls Tryz.prog 73 #[.string (str m), itv x cv] w (NumB (rightI m [x]) w) := by
  obtain ⟨kd, nm, ty, cs⟩ := x
  unfold itv
  simp only at *
  obtain ⟨ca, cc, rfl⟩ := h.shape
  have hb0 : Below w.heap.size w ((w.alloc (.cells #[.int .i64 kd, .string (str nm), .string (str ty), .slice ca cs.length cc] 75)).alloc (.cells #[.int .i64 kd, .string (str nm), .string (str ty), .slice ca cs.length cc] 75)) := ((Below.refl _ _).alloc (Nat.le_refl _) _).alloc (by simp) _
  have hN := heap_alloc_new (w.alloc (.cells #[.int .i64 kd, .string (str nm), .string (str ty), .slice ca cs.length cc] 75)) (.cells #[.int .i64 kd, .string (str nm), .string (str ty), .slice ca cs.length cc] 75)
  have hsz : ((w.alloc (.cells #[.int .i64 kd, .string (str nm), .string (str ty), .slice ca cs.length cc] 75)).alloc (.cells #[.int .i64 kd, .string (str nm), .string (str ty), .slice ca cs.length cc] 75)).heap.size = w.heap.size + 2 := by simp
  have hR : ∀ W, W = (w.alloc (.cells #[.int .i64 kd, .string (str nm), .string (str ty), .slice ca cs.length cc] 75)).alloc (.cells #[.int .i64 kd, .string (str nm), .string (str ty), .slice ca cs.length cc] 75) → Calls Tryz.prog 132 #[.agg #[.string (str m), .slice (some ⟨w.heap.size + 1, 0, none⟩) 1 1]] W (NumB (rightI m [⟨kd, nm, ty, cs⟩]) W) := by
    rintro W rfl
    have he : (w.alloc (.cells #[.int .i64 kd, .string (str nm), .string (str ty), .slice ca cs.length cc] 75)).heap.size = w.heap.size + 1 := by simp
    rw [he] at hN
    refine right7 (fun g => F g ∨ g = w.heap.size + 1) m _ [⟨kd, nm, ty, cs⟩] _ (.inr ⟨w.heap.size + 1, 0, 1, rfl, by simp, .inr rfl, fun j x hj => ?_⟩) (fun g hg => ?_) hm (by simpa using hx)
    · obtain ⟨hj1, rfl⟩ := List.getElem?_eq_some_iff.1 hj
      obtain rfl : j = 0 := by simpa using hj1
      simp only [Nat.zero_mul, Nat.add_zero, Nat.zero_add, List.getElem_cons_zero]
      refine ⟨.slice ca cs.length cc, h.frame fun g hg => ⟨.inl hg, hb0.block g (hF g hg)⟩, ?_, ?_, ?_, ?_⟩
      · rw [cell_of_row _ _ 0 _ _ _ hN]; rfl
      · rw [cell_of_row _ _ 1 _ _ _ hN]; rfl
      · rw [cell_of_row _ _ 2 _ _ _ hN]; rfl
      · rw [cell_of_row _ _ 3 _ _ _ hN]; rfl
    · rw [hsz]
      rcases hg with hg | rfl
      · have := hF g hg; omega
      · omega
  generalize rightI m [⟨kd, nm, ty, cs⟩] = r at *
  clear h hN hx
  go_enter Tryz.func73, Tryz.ntmps73
  go_wp2_with (go_at_call 132; refine (hR _ rfl).mono ?_; rintro e w2 ⟨rfl, hb2⟩)
  go_ret
  exact ⟨rfl, below_trans hb0 hb2⟩
set_option maxHeartbeats 1000000 in
set_option maxRecDepth 1000000 in
theorem otooMany (F : Nat → Prop) (u : ObV) (o : Ob) (w : World) (h : ObR F w u o) : Calls Tryz.prog 28 #[obv u o.mod] w (BoolB (manyO o) w) := by
  obtain ⟨m, ts, xs, gs, fs, es, ss, rs⟩ := o
  obtain ⟨tv, xv, gv, fv, ev, sv, rv⟩ := u
  obtain ⟨h1, h2, h3, h4, h5, h6, h7⟩ := h
  unfold obv
  simp only at *
  obtain ⟨a1, c1, rfl⟩ := h1.shape
  obtain ⟨a2, c2, rfl⟩ := h2.1.shape
  obtain ⟨a3, c3, rfl⟩ := h3.shape
  obtain ⟨a4, c4, rfl⟩ := h4.shape
  obtain ⟨a5, c5, rfl⟩ := h5.1.shape
  obtain ⟨a6, c6, rfl⟩ := h6.shape
  obtain ⟨a7, c7, rfl⟩ := h7.shape
  have hb0 : Below w.heap.size w (w.alloc (.cells #[.string (str m), .slice a1 ts.length c1, .slice a2 xs.length c2, .slice a3 gs.length c3, .slice a4 fs.length c4, .slice a5 es.length c5, .slice a6 ss.length c6, .slice a7 rs.length c7] 29)) := (Below.refl _ _).alloc (Nat.le_refl _) _
  have HM : Hid (manyO ⟨m, ts, xs, gs, fs, es, ss, rs⟩ = (decide (32 < ts.length) || (decide (32 < xs.length) || (decide (32 < gs.length) || (decide (32 < es.length) || (decide (48 < fs.length) || (decide (96 < ss.length) || decide (384 < rs.length)))))))) := rfl
  clear h1 h2 h3 h4 h5 h6 h7
  generalize ts.length = n1 at *
  generalize xs.length = n2 at *
  generalize gs.length = n3 at *
  generalize fs.length = n4 at *
  generalize es.length = n5 at *
  generalize ss.length = n6 at *
  generalize rs.length = n7 at *
  go_enter Tryz.func28, Tryz.ntmps28
  by_cases pn1 : 32 < n1
  · have pn1i : (32 : Int) < (n1 : Int) := by omega
    have HV : Hid (manyO ⟨m, ts, xs, gs, fs, es, ss, rs⟩ = true) := by rw [hid_iff, HM.out]; simp [pn1]
    clear HM  pn1
    go_wp2
    go_ret
    exact ⟨(by rw [HV.out]; first | done | rfl), hb0⟩
  have pn1i : ¬ (32 : Int) < (n1 : Int) := by omega
  by_cases pn2 : 32 < n2
  · have pn2i : (32 : Int) < (n2 : Int) := by omega
    have HV : Hid (manyO ⟨m, ts, xs, gs, fs, es, ss, rs⟩ = true) := by rw [hid_iff, HM.out]; simp [pn2]
    clear HM pn1 pn2
    go_wp2
    go_ret
    exact ⟨(by rw [HV.out]; first | done | rfl), hb0⟩
  have pn2i : ¬ (32 : Int) < (n2 : Int) := by omega
  by_cases pn3 : 32 < n3
  · have pn3i : (32 : Int) < (n3 : Int) := by omega
    have HV : Hid (manyO ⟨m, ts, xs, gs, fs, es, ss, rs⟩ = true) := by rw [hid_iff, HM.out]; simp [pn3]
    clear HM pn1 pn2 pn3
    go_wp2
    go_ret
    exact ⟨(by rw [HV.out]; first | done | rfl), hb0⟩
  have pn3i : ¬ (32 : Int) < (n3 : Int) := by omega
  by_cases pn5 : 32 < n5
  · have pn5i : (32 : Int) < (n5 : Int) := by omega
    have HV : Hid (manyO ⟨m, ts, xs, gs, fs, es, ss, rs⟩ = true) := by rw [hid_iff, HM.out]; simp [pn5]
    clear HM pn1 pn2 pn3 pn5
    go_wp2
    go_ret
    exact ⟨(by rw [HV.out]; first | done | rfl), hb0⟩
  have pn5i : ¬ (32 : Int) < (n5 : Int) := by omega
  by_cases pn4 : 48 < n4
  · have pn4i : (48 : Int) < (n4 : Int) := by omega
    have HV : Hid (manyO ⟨m, ts, xs, gs, fs, es, ss, rs⟩ = true) := by rw [hid_iff, HM.out]; simp [pn4]
    clear HM pn1 pn2 pn3 pn5 pn4
    go_wp2
    go_ret
    exact ⟨(by rw [HV.out]; first | done | rfl), hb0⟩
  have pn4i : ¬ (48 : Int) < (n4 : Int) := by omega
  by_cases pn6 : 96 < n6
  · have pn6i : (96 : Int) < (n6 : Int) := by omega
    have HV : Hid (manyO ⟨m, ts, xs, gs, fs, es, ss, rs⟩ = true) := by rw [hid_iff, HM.out]; simp [pn6]
    clear HM pn1 pn2 pn3 pn5 pn4 pn6
    go_wp2
    go_ret
    exact ⟨(by rw [HV.out]; first | done | rfl), hb0⟩
  have pn6i : ¬ (96 : Int) < (n6 : Int) := by omega
  by_cases pn7 : 384 < n7
  · have pn7i : (384 : Int) < (n7 : Int) := by omega
    have HV : Hid (manyO ⟨m, ts, xs, gs, fs, es, ss, rs⟩ = true) := by rw [hid_iff, HM.out]; simp [pn7]
    clear HM pn1 pn2 pn3 pn5 pn4 pn6 pn7
    go_wp2
    go_ret
    exact ⟨(by rw [HV.out]; first | done | rfl), hb0⟩
  have pn7i : ¬ (384 : Int) < (n7 : Int) := by omega
  have HV : Hid (manyO ⟨m, ts, xs, gs, fs, es, ss, rs⟩ = false) := by rw [hid_iff, HM.out]; simp [pn1, pn2, pn3, pn5, pn4, pn6, pn7]
  clear HM pn1 pn2 pn3 pn5 pn4 pn6 pn7
  go_wp2
  go_ret
  exact ⟨(by rw [HV.out]; first | done | rfl), hb0⟩
set_option maxHeartbeats 1000000 in
set_option maxRecDepth 1000000 in
theorem ocounts (f : Fn) (pv kv : Value) (w : World) (hp : ∃ a c, pv = .slice a f.params.length c) (hok : FnOk f) : Calls Tryz.prog 80 #[fnv f pv kv] w (BoolB (countsO f) w) := by
  obtain ⟨a, c, rfl⟩ := hp
  obtain ⟨nm, ps, cp, rs, lc, cd⟩ := f
  obtain ⟨_, hl, _, ⟨hc1, hc2⟩, _, _, _⟩ := hok
  unfold fnv
  simp only at *
  have hb0 : Below w.heap.size w (w.alloc (.cells #[.string (str nm), .slice a ps.length c, .int .i64 cp, .string (str rs), .int .i64 lc, kv] 52)) := (Below.refl _ _).alloc (Nat.le_refl _) _
  have HM : Hid (countsO ⟨nm, ps, cp, rs, lc, cd⟩ = (decide (0 ≤ cp) && (decide (cp ≤ ps.length) && (decide ((ps.length : Int) - cp ≤ 6) && (decide ((ps.length : Int) ≤ lc) && (decide (lc ≤ 24) && (decide (nm = []) || decide (cp = 0)))))))) := rfl
  have he := nil_text nm
  generalize ps.length = n at *
  go_enter Tryz.func80, Tryz.ntmps80
  by_cases p1 : 0 ≤ cp
  case neg =>
    have HV : Hid (countsO ⟨nm, ps, cp, rs, lc, cd⟩ = false) := by rw [hid_iff, HM.out]; simp [p1]
    clear HM he
    go_wp2
    go_ret
    exact ⟨(by rw [HV.out]; first | done | rfl), hb0⟩
  by_cases p2 : cp ≤ (n : Int)
  case neg =>
    have HV : Hid (countsO ⟨nm, ps, cp, rs, lc, cd⟩ = false) := by rw [hid_iff, HM.out]; simp [p2]
    clear HM he
    go_wp2
    go_ret
    exact ⟨(by rw [HV.out]; first | done | rfl), hb0⟩
  by_cases p3 : (n : Int) - cp ≤ 6
  case neg =>
    have HV : Hid (countsO ⟨nm, ps, cp, rs, lc, cd⟩ = false) := by rw [hid_iff, HM.out]; simp [p3]
    clear HM he
    go_wp2
    go_ret
    exact ⟨(by rw [HV.out]; first | done | rfl), hb0⟩
  by_cases p4 : (n : Int) ≤ lc
  case neg =>
    have HV : Hid (countsO ⟨nm, ps, cp, rs, lc, cd⟩ = false) := by rw [hid_iff, HM.out]; simp [p4]
    clear HM he
    go_wp2
    go_ret
    exact ⟨(by rw [HV.out]; first | done | rfl), hb0⟩
  by_cases p5 : lc ≤ 24
  case neg =>
    have HV : Hid (countsO ⟨nm, ps, cp, rs, lc, cd⟩ = false) := by rw [hid_iff, HM.out]; simp [p5]
    clear HM he
    go_wp2
    go_ret
    exact ⟨(by rw [HV.out]; first | done | rfl), hb0⟩
  by_cases pn : nm = []
  · have HV : Hid (countsO ⟨nm, ps, cp, rs, lc, cd⟩ = true) := by rw [hid_iff, HM.out]; simp [p1, p2, p3, p4, p5, pn]
    have h1 : (str nm).toList = [] := by rw [← List.isEmpty_iff, he, decide_eq_true pn]
    rw [decide_eq_true pn] at he
    clear HM pn
    go_wp2
    go_ret
    exact ⟨(by rw [HV.out]; first | done | rfl), hb0⟩
  rw [decide_eq_false pn] at he
  have h1 : ¬ (str nm).toList = [] := by
    intro h
    rw [h] at he
    cases he
  by_cases pz : cp = 0
  · subst pz
    have HV : Hid (countsO ⟨nm, ps, 0, rs, lc, cd⟩ = true) := by rw [hid_iff, HM.out]; simp; omega
    clear HM pn
    go_wp2
    go_ret
    exact ⟨(by rw [HV.out]; first | done | rfl), hb0⟩
  have HV : Hid (countsO ⟨nm, ps, cp, rs, lc, cd⟩ = false) := by rw [hid_iff, HM.out]; simp [pn, pz]
  have hz : (cp == 0) = false := by simp [pz]
  clear HM pn
  go_wp2
  go_ret
  exact ⟨(by rw [HV.out]; first | done | rfl), hb0⟩
end Go.Proofs.YtcjddbponknnoaaGreatDoor

namespace Go.Proofs.YtcjddbponknnoaaGreatDoor
open Go.RowKit

theorem ItR.take {F : Nat → Prop} {w : World} {a : Option Addr} {cap : Nat} {l : List It} (h : ItR F w (.slice a l.length cap) l) (n : Nat) (hn : n ≤ l.length) : ItR F w (.slice a n cap) (l.take n) := by
  rcases h with ⟨a', c, h1, rfl⟩ | ⟨g', o', cap', h1, h1', h2, h3⟩
  · simp at hn
    subst hn
    exact .inl ⟨_, cap, rfl, rfl⟩
  · simp only [Value.slice.injEq, true_and] at h1
    obtain ⟨rfl, rfl⟩ := h1
    refine .inr ⟨g', o', cap, by rw [List.length_take, Nat.min_eq_left hn], by rw [List.length_take, Nat.min_eq_left hn]; omega, h2, fun j x hj => h3 j x ?_⟩
    rw [List.getElem?_take] at hj
    split at hj
    · exact hj
    · cases hj
theorem ItR.room {F : Nat → Prop} {w : World} {a : Option Addr} {cap : Nat} {l : List It} (h : ItR F w (.slice a l.length cap) l) : l.length ≤ cap ∨ l.length = 0 := by
  rcases h with ⟨a', c, h1, rfl⟩ | ⟨g', o', cap', h1, h1', h2, h3⟩
  · exact .inr rfl
  · simp only [Value.slice.injEq, true_and] at h1
    obtain ⟨rfl, rfl⟩ := h1
    exact .inl h1'
theorem RwR.room {α : Type} {sz : Nat} {C : (Nat → Prop) → World → α → List Value → Prop} {F : Nat → Prop} {w : World} {a : Option Addr} {cap : Nat} {l : List α} (h : RwR sz C F w (.slice a l.length cap) l) : l.length ≤ cap ∨ l.length = 0 := by
  rcases h with ⟨a', c, h1, rfl⟩ | ⟨g', o', cap', h1, h1', h2, h3⟩
  · exact .inr rfl
  · simp only [Value.slice.injEq, true_and] at h1
    obtain ⟨rfl, rfl⟩ := h1
    exact .inl h1'
/-- The box of an object that is looked at. -/
abbrev lbox (w : World) (m : List UInt8) (tv xv gv fv ev sv rv : Value) : World := w.alloc (.cells #[.string (str m), tv, xv, gv, fv, ev, sv, rv] 87)
set_option maxHeartbeats 1000000 in
set_option maxRecDepth 1000000 in
theorem textAt (F : Nat → Prop) (u : ObV) (o : Ob) (w : World) (h : ObR F w u o) (k : Nat) (hk : k < o.texts.length) : Calls Tryz.prog 30 #[obv u o.mod, .int .i64 (k : Int)] w (NumB (elemO o 1 k) w) := by
  have HV : Hid (elemO o 1 k = textO o.texts[k]) := by rw [hid_iff, elemO, List.getElem?_eq_getElem hk]
  generalize elemO o 1 k = r at *
  obtain ⟨g, of, cap, e1, hg, q⟩ := h.texts.1.at k hk
  obtain ⟨m, ts, xs, gs, fs, es, ss, rs⟩ := o
  obtain ⟨tv, xv, gv, fv, ev, sv, rv⟩ := u
  unfold obv
  simp only at *
  subst e1
  have hb0 : Below w.heap.size w (lbox w m tv (.slice (some ⟨g, of, none⟩) xs.length cap) gv fv ev sv rv) := (Below.refl _ _).alloc (Nat.le_refl _) _
  have q' := cell_more q (.cells #[.string (str m), tv, .slice (some ⟨g, of, none⟩) xs.length cap, gv, fv, ev, sv, rv] 87)
  have hk' : k < xs.length := hk
  have hki : (k : Int) < (xs.length : Int) := by omega
  have hr := fun u => right (str xs[k]) u
  rw [str_data] at hr
  clear h q
  generalize xs[k] = x at *
  cases hx : rightR x
  · rw [hx] at hr
    have HW : Hid (r = 17) := by rw [hid_iff, HV.out, textO, if_neg (by rw [hx]; simp)]
    clear HV hx
    go_enter Tryz.func30, Tryz.ntmps30
    go_wp2_with (go_at_call 76; refine (hr _).mono ?_; rintro e w2 ⟨rfl, hb2⟩)
    go_ret
    exact ⟨(by rw [HW.out]; first | done | rfl), below_trans hb0 hb2⟩
  · rw [hx] at hr
    have HW : Hid (r = 0) := by rw [hid_iff, HV.out, textO, if_pos hx]
    clear HV hx
    go_enter Tryz.func30, Tryz.ntmps30
    go_wp2_with (go_at_call 76; refine (hr _).mono ?_; rintro e w2 ⟨rfl, hb2⟩)
    go_ret
    exact ⟨(by rw [HW.out]; first | done | rfl), below_trans hb0 hb2⟩
set_option maxHeartbeats 2000000 in
set_option maxRecDepth 1000000 in
theorem typeAt (F : Nat → Prop) (u : ObV) (o : Ob) (w : World) (h : ObR F w u o) (hF : ∀ g, F g → g < w.heap.size) (hok : ObOk o) (k : Nat) (hk : k < o.types.length) : Calls Tryz.prog 29 #[obv u o.mod, .int .i64 (k : Int)] w (NumB (elemO o 0 k) w) := by
  have HV : Hid (elemO o 0 k = typeO o.mod (o.types.take k) o.types[k]) := by rw [hid_iff, elemO, List.getElem?_eq_getElem hk]
  generalize elemO o 0 k = r at *
  have hT := h.types
  obtain ⟨g, of, cap, cv, e1, hg, hC, q0, q1, q2, q3⟩ := hT.at k hk
  have hxo := hok.types _ (List.getElem_mem hk)
  have hm := hok.mod
  have hnt := hok.nt
  obtain ⟨m, ts, xs, gs, fs, es, ss, rs⟩ := o
  obtain ⟨tv, xv, gv, fv, ev, sv, rv⟩ := u
  unfold obv
  simp only at *
  subst e1
  obtain ⟨ca, cc, rfl⟩ := hC.shape
  have hcap : ts.length ≤ cap := by rcases hT.room with h | h <;> omega
  have hk' : k < ts.length := hk
  have hTk := hT.take k (by omega)
  rcases hx : ts[k] with ⟨kd, nm, ty, cs⟩
  rw [hx] at q0 q1 q2 q3 hC hxo HV
  simp only at q0 q1 q2 q3 hC
  have ki0 : (k : Int) < (ts.length : Int) := by omega
  have ki1 : (k : Int) ≤ (cap : Int) := by omega
  generalize hW : (lbox w m (.slice (some ⟨g, of, none⟩) ts.length cap) xv gv fv ev sv rv) = W0 at *
  have hb0 : Below w.heap.size w W0 := by rw [← hW]; exact (Below.refl _ _).alloc (Nat.le_refl _) _
  have hs0 : W0.heap.size = w.heap.size + 1 := by rw [← hW]; simp
  have hN0 := heap_alloc_new w (.cells #[.string (str m), (.slice (some ⟨g, of, none⟩) ts.length cap), xv, gv, fv, ev, sv, rv] 87)
  unfold lbox at hW
  rw [hW] at hN0
  generalize hW1 : W0.alloc (.cells #[.int .i64 kd, .string (str nm), .string (str ty), .slice ca cs.length cc] 75) = W1 at *
  have hb1 : Below W0.heap.size W0 W1 := by rw [← hW1]; exact (Below.refl _ _).alloc (Nat.le_refl _) _
  have hs1 : W1.heap.size = w.heap.size + 2 := by rw [← hW1]; simp; omega
  have hN1 := heap_alloc_new W0 (.cells #[.int .i64 kd, .string (str nm), .string (str ty), .slice ca cs.length cc] 75)
  rw [hW1, hs0] at hN1
  have hbw : Below w.heap.size w W1 := below_trans hb0 hb1
  have hR := rightAlone F m ⟨kd, nm, ty, cs⟩ (.slice ca cs.length cc) W1 (hC.below hbw hF) (fun g hg => by have := hF g hg; omega) hm hxo
  unfold itv at hR
  simp only at hR
  have HC : ∀ u, Below W1.heap.size W1 u → u.cell? ⟨w.heap.size, 1, none⟩ = some (.slice (some ⟨g, of, none⟩) ts.length cap) ∧ u.cell? ⟨w.heap.size + 1, 0, none⟩ = some (.int .i64 kd) ∧ u.cell? ⟨w.heap.size + 1, 1, none⟩ = some (.string (str nm)) ∧ Below w.heap.size w u := by
    intro u hu
    have n0 := (hu.block w.heap.size (by omega)).trans ((hb1.block _ (by omega)).trans hN0)
    have n1 := (hu.block (w.heap.size + 1) (by omega)).trans hN1
    exact ⟨by rw [cell_of_row u _ 1 _ _ _ n0]; rfl, by rw [cell_of_row u _ 0 _ _ _ n1]; rfl, by rw [cell_of_row u _ 1 _ _ _ n1]; rfl, below_trans hbw hu⟩
  have hI : ∀ u, Below W1.heap.size W1 u → Calls Tryz.prog 74 #[.slice (some ⟨g, of, none⟩) k cap, .func (.func 75) #[] #[.pointer (some ⟨w.heap.size + 1, 0, none⟩)]] u (BoolB ((ts.take k).any (fun d => decide (d.name = nm))) u) := by
    intro u hu
    obtain ⟨_, _, c3, hbu⟩ := HC u hu
    refine conI F _ (ts.take k) (w.heap.size + 1) (fun d => decide (d.name = nm)) u (hTk.below hbu hF) (fun g hg => by have := hF g hg; have := hu.size; omega) (by rw [List.length_take]; omega) (fun j hj cv wr hwr _ => ?_)
    exact predI (ts.take k)[j] cv (w.heap.size + 1) nm wr ((World.cell?_of_block (a := ⟨w.heap.size + 1, 1, none⟩) (hwr.block _ (by have := hu.size; show w.heap.size + 1 < _; omega))).trans c3)
  have HR : Hid (typeO m (ts.take k) ⟨kd, nm, ty, cs⟩ = if rightI m [⟨kd, nm, ty, cs⟩] ≠ 0 then rightI m [⟨kd, nm, ty, cs⟩] else if kd ≠ 1 then 12 else if (ts.take k).any (fun d => decide (d.name = nm)) = true then 15 else 0) := rfl
  generalize (ts.take k).any (fun d => decide (d.name = nm)) = an at *
  generalize rightI m [⟨kd, nm, ty, cs⟩] = ri at *
  rw [HR.out] at HV
  have y0 := (hb0.cell (p := ⟨g, of + k * 4, none⟩) (hF g hg)).trans q0
  have y1 := (hb0.cell (p := ⟨g, of + k * 4 + 1, none⟩) (hF g hg)).trans q1
  have y2 := (hb0.cell (p := ⟨g, of + k * 4 + 2, none⟩) (hF g hg)).trans q2
  have y3 := (hb0.cell (p := ⟨g, of + k * 4 + 3, none⟩) (hF g hg)).trans q3
  have z1 : W0.cell? ⟨w.heap.size, 1, none⟩ = some (.slice (some ⟨g, of, none⟩) ts.length cap) := by rw [cell_of_row W0 _ 1 _ _ _ hN0]; rfl
  have z0 : W1.cell? ⟨w.heap.size, 0, none⟩ = some (.string (str m)) := by rw [cell_of_row W1 _ 0 _ _ _ ((hb1.block _ (by omega)).trans hN0)]; rfl
  obtain ⟨x0, x1, x2, x3⟩ : W1.cell? ⟨w.heap.size + 1, 0, none⟩ = some (.int .i64 kd) ∧ W1.cell? ⟨w.heap.size + 1, 1, none⟩ = some (.string (str nm)) ∧ W1.cell? ⟨w.heap.size + 1, 2, none⟩ = some (.string (str ty)) ∧ W1.cell? ⟨w.heap.size + 1, 3, none⟩ = some (.slice ca cs.length cc) := ⟨by rw [cell_of_row W1 _ 0 _ _ _ hN1]; rfl, by rw [cell_of_row W1 _ 1 _ _ _ hN1]; rfl, by rw [cell_of_row W1 _ 2 _ _ _ hN1]; rfl, by rw [cell_of_row W1 _ 3 _ _ _ hN1]; rfl⟩
  clear HR h hT hTk hC hx q0 q1 q2 q3 hok hxo
  have HCh := hidden HC
  have HIh := hidden hI
  clear HC hI
  by_cases h0 : ri = 0
  · subst h0
    by_cases h1 : kd = 1
    · subst h1
      go_enter Tryz.func29, Tryz.ntmps29
      go_wp2_with fail
      refine hR.mono ?_
      rintro e w2 ⟨rfl, hb2⟩
      obtain ⟨c1, c2, c3, c4⟩ := HCh.out w2 hb2
      have hI := HIh.out w2 hb2
      clear hR x0 x1 x2 x3 y0 y1 y2 y3
      have hK0 : (k : Int) ≥ 0 := by omega
      go_wp2_with fail
      refine hI.mono ?_
      rintro e w3 ⟨rfl, hb3⟩
      have hb4 := below_trans c4 hb3
      clear hI
      cases an
      · have HW : Hid (r = 0) := by rw [hid_iff, HV.out]; rfl
        go_wp2
        go_ret
        exact ⟨(by rw [HW.out]; first | done | rfl), hb4⟩
      · have HW : Hid (r = 15) := by rw [hid_iff, HV.out]; rfl
        go_wp2
        go_ret
        exact ⟨(by rw [HW.out]; first | done | rfl), hb4⟩
    · have HW : Hid (r = 12) := by rw [hid_iff, HV.out, if_neg (by simp), if_pos h1]
      go_enter Tryz.func29, Tryz.ntmps29
      go_wp2_with fail
      refine hR.mono ?_
      rintro e w2 ⟨rfl, hb2⟩
      obtain ⟨c1, c2, c3, c4⟩ := HCh.out w2 hb2
      clear hR x0 x1 x2 x3 y0 y1 y2 y3
      go_wp2
      go_ret
      exact ⟨(by rw [HW.out]; first | done | rfl), c4⟩
  · have HW : Hid (r = ri) := by rw [hid_iff, HV.out, if_pos h0]
    have h0i : ¬ (ri : Int) = 0 := by omega
    go_enter Tryz.func29, Tryz.ntmps29
    go_wp2_with fail
    refine hR.mono ?_
    rintro e w2 ⟨rfl, hb2⟩
    obtain ⟨c1, c2, c3, c4⟩ := HCh.out w2 hb2
    clear hR x0 x1 x2 x3 y0 y1 y2 y3
    go_wp2
    go_ret
    exact ⟨(by rw [HW.out]; first | done | rfl), c4⟩
end Go.Proofs.YtcjddbponknnoaaGreatDoor
