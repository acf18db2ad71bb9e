/-
  The Writer beside blocks that stay; the package's writeItem.
  And: The package's Encode. The package's Of where nothing is defined; the statements' 'known': some of chapter 7's runs. The package's Find, and the copy that it answers. The package's Find.
-/
import Derived.Deep.LoopGhost
import Derived.Test.YtdeckknfolaaeaaGreatDoorG39
import Derived.Test.YtdeckknfolaaeaaGreatDoorG10
import Derived.Test.YtdeckknfolaaeaaGreatDoorG12
import Derived.Test.YtdeckknfolaaeaaGreatDoorG19
import Derived.Laws.Rows
import Derived.Laws.Tables
import Derived.Test.YtdeckknfolaaeaaGreatDoorG13
import Derived.Test.YtdeckknfolaaeaaGreatDoorG05
import Derived.Deep.RegionHeld3
import Derived.Test.YtdeckknfolaaeaaGreatDoorG17
namespace Go.Proofs.YtdeckknfolaaeaaGreatDoor
open Go.RowKit

theorem keep_of {S : Nat → Prop} {w w' : World} (h : Wire.Kept S w w') : Kept S w w' := ⟨h.os, h.tape, h.output, h.size, h.block⟩
/-- A Writer at b that has written l; its blocks are none of D. -/
def WB (D : Nat → Prop) (w : World) (b : Nat) (l : List Nat) : Prop := ∃ g, Wire.WIs w b g l ∧ ¬ D b ∧ ¬ D g
def WP (D : Nat → Prop) (w : World) (b : Nat) (l : List Nat) (e : Ending) (w' : World) : Prop := e = .returned (.tuple #[]) ∧ WB D w' b l ∧ Kept (fun k => ¬ D k) w w'
theorem WB.of {D : Nat → Prop} {w w' : World} {b g g' : Nat} {l : List Nat} (hD : ∀ k, D k → k < w.heap.size) (hb : ¬ D b) (hg : ¬ D g) (h : Wire.WIs w' b g' l) (hg' : g' = g ∨ w.heap.size ≤ g') (hk : Wire.Kept (fun k => k = b ∨ k = g) w w') : WP D w b l (.returned (.tuple #[])) w' := by
  refine ⟨rfl, ⟨g', h, hb, fun hd => ?_⟩, (keep_of hk).mono (fun x _ hx => ?_)⟩
  · rcases hg' with rfl | hg'
    · exact hg hd
    · have := hD g' hd
      omega
  · rcases hx with rfl | rfl
    · exact hb
    · exact hg
/-- One block more stays. -/
def Dx (D : Nat → Prop) (d k : Nat) : Prop := D k ∨ k = d
theorem WB.new {D : Nat → Prop} {w : World} {b : Nat} {l : List Nat} (h : WB D w b l) (o : Obj) : WB (Dx D w.heap.size) (w.alloc o) b l := by
  obtain ⟨g, h1, hb, hg⟩ := h
  have l1 := h1.lt
  have l2 := h1.gt
  exact ⟨g, h1.kept ((Wire.Kept.refl (fun _ => False) w).alloc o) (fun h => h) (fun h => h), fun h => by rcases h with h | h; exact hb h; omega, fun h => by rcases h with h | h; exact hg h; omega⟩
theorem WB.less {D E : Nat → Prop} {w : World} {b : Nat} {l : List Nat} (h : WB D w b l) (hE : ∀ k, E k → D k) : WB E w b l := by
  obtain ⟨g, h1, hb, hg⟩ := h
  exact ⟨g, h1, fun h => hb (hE _ h), fun h => hg (hE _ h)⟩
theorem Dx.lt {D : Nat → Prop} {w : World} (hD : ∀ k, D k → k < w.heap.size) (o : Obj) : ∀ k, Dx D w.heap.size k → k < (w.alloc o).heap.size := by
  intro k hk
  simp
  rcases hk with h | h
  · have := hD k h
    omega
  · omega
theorem Dx.kept {D : Nat → Prop} {w w' : World} {o : Obj} (h : Kept (fun k => ¬ Dx D w.heap.size k) (w.alloc o) w') (hD : ∀ k, D k → k < w.heap.size) : Kept (fun k => ¬ D k) w w' := by
  refine ⟨h.os, h.tape, h.output, by have := h.size; simp at this; omega, fun k hk hn => ?_⟩
  have hd : D k := Classical.not_not.1 hn
  rw [h.block k (by simp; omega) (fun hh => hh (.inl hd)), Below.heap_alloc _ _ _ (hD k hd)]
theorem keep_trans {D : Nat → Prop} {a b c : World} (h : Kept (fun k => ¬ D k) a b) (k : Kept (fun k => ¬ D k) b c) : Kept (fun k => ¬ D k) a c := h.trans k (fun _ _ h => h) (fun _ _ h => h)
theorem keep_blk {D : Nat → Prop} {w w' : World} (h : Kept (fun k => ¬ D k) w w') {d : Nat} (hd : D d) (hl : d < w.heap.size) : w'.heap[d]? = w.heap[d]? := h.block d hl (fun hn => hn hd)
theorem TxR.keep {F D : Nat → Prop} {w w' : World} {v : Value} {xs : List (List UInt8)} (h : TxR F w v xs) (k : Kept (fun k => ¬ D k) w w') (hF : ∀ g, F g → D g) (hD : ∀ g, D g → g < w.heap.size) : TxR F w' v xs := h.frame fun g hg => ⟨hg, keep_blk k (hF g hg) (hD g (hF g hg))⟩
theorem CsR.keep {F D : Nat → Prop} {w w' : World} {v : Value} {xs : List Cs} (h : CsR F w v xs) (k : Kept (fun k => ¬ D k) w w') (hF : ∀ g, F g → D g) (hD : ∀ g, D g → g < w.heap.size) : CsR F w' v xs := h.frame fun g hg => ⟨hg, keep_blk k (hF g hg) (hD g (hF g hg))⟩
theorem ItR.keep {F D : Nat → Prop} {w w' : World} {v : Value} {xs : List It} (h : ItR F w v xs) (k : Kept (fun k => ¬ D k) w w') (hF : ∀ g, F g → D g) (hD : ∀ g, D g → g < w.heap.size) : ItR F w' v xs := h.frame fun g hg => ⟨hg, keep_blk k (hF g hg) (hD g (hF g hg))⟩
theorem keep_lt {D : Nat → Prop} {w w' : World} (k : Kept (fun k => ¬ D k) w w') (hD : ∀ g, D g → g < w.heap.size) : ∀ g, D g → g < w'.heap.size := fun g hg => Nat.lt_of_lt_of_le (hD g hg) k.size
theorem box2 {w : World} {d : Nat} {x0 x1 : Value} {T : Nat} (h : w.heap[d]? = some (.cells #[x0, x1] T (0, 0))) : w.cell? ⟨d, 0, none⟩ = some x0 ∧ w.cell? ⟨d, 1, none⟩ = some x1 := ⟨by rw [cell_of_row w d 0 _ _ _ h]; rfl, by rw [cell_of_row w d 1 _ _ _ h]; rfl⟩
theorem box4 {w : World} {d : Nat} {x0 x1 x2 x3 : Value} {T : Nat} (h : w.heap[d]? = some (.cells #[x0, x1, x2, x3] T (0, 0))) : w.cell? ⟨d, 0, none⟩ = some x0 ∧ w.cell? ⟨d, 1, none⟩ = some x1 ∧ w.cell? ⟨d, 2, none⟩ = some x2 ∧ w.cell? ⟨d, 3, none⟩ = some x3 := ⟨by rw [cell_of_row w d 0 _ _ _ h]; rfl, by rw [cell_of_row w d 1 _ _ _ h]; rfl, by rw [cell_of_row w d 2 _ _ _ h]; rfl, by rw [cell_of_row w d 3 _ _ _ h]; rfl⟩
theorem u64_small (n : Nat) (h : n < 18446744073709551616) : IntKind.u64.wrap (n : Int) = (n : Int) := by rw [IntKind.wrap_u64]; omega
end Go.Proofs.YtdeckknfolaaeaaGreatDoor

namespace Go.Proofs.YtdeckknfolaaeaaGreatDoor
open Go.RowKit

/-- What Encode answers. -/
def EncE (m : List UInt8) (l : List It) (w : World) (e : Ending) (w' : World) : Prop :=
  ((rightI m l = 0 ∧ ∃ v g, e = .returned (.tuple #[v, .int .i64 0]) ∧ Wire.Row w' g v (ifaceB m l) ∧ w.heap.size ≤ g) ∨ (rightI m l ≠ 0 ∧ e = .returned (.tuple #[.slice none 0 0, .int .i64 (rightI m l : Int)]))) ∧ Below w.heap.size w w'
end Go.Proofs.YtdeckknfolaaeaaGreatDoor

namespace Go.Proofs.YtdeckknfolaaeaaGreatDoor
open Go.RowKit

theorem res7 {P : Program} {fn : Func} {p u : Tmp} {ty : TypeId} (h : fn.results = #[.cell p ty, .tmp u]) (tmps : Array Value) (w : World) (g : Nat) (t : TypeId) (cs : Array Value) (fr : Nat × Nat) (d : TypeDesc)
    (hp : tmps.getD p undef = .pointer (some ⟨g, 0, none⟩)) (hg : w.heap[g]? = some (.cells cs t fr))
    (hu : P.underlying ty = some d) (hd : (match d with | .struct _ | .array _ _ => true | _ => false) = true) (hi : (P.info? ty).map (·.size) = some cs.size) :
    (results fn tmps).run P w = .ok (.tuple #[.agg cs, tmps.getD u undef]) w := by
  have hp' : tmps[p]?.getD undef = .pointer (some ⟨g, 0, none⟩) := by simpa using hp
  simp [results, h, hp', asAddr, run_loadVar_row w g t ty cs fr d hg hu hd hi]
theorem sizeIt : (Tryz.prog.info? 47).map (·.size) = some 4 := by kernel_rfl
theorem sizeIf : (Tryz.prog.info? 51).map (·.size) = some 2 := by kernel_rfl
def NoneE (w : World) (e : Ending) (w' : World) : Prop := e = .returned (.tuple #[.agg #[.int .i64 0, .string ⟨#[]⟩, .string ⟨#[]⟩, .slice none 0 0], .bool false]) ∧ Below w.heap.size w w'
theorem setRow_below (w : World) (g : Nat) (cs : Array Value) : Below g w (w.setRow g cs) := by
  refine ⟨rfl, rfl, rfl, by simp [World.setRow], fun k hk => ?_⟩
  simp only [World.setRow]
  rw [Array.getElem?_modify, if_neg (by omega)]
def OfNone (w : World) (e : Ending) (w' : World) : Prop := e = .returned (.tuple #[.agg #[.string ⟨#[]⟩, .slice none 0 0], .int .i64 16]) ∧ Below w.heap.size w w'
def KnownI (w : World) (e : Ending) (w' : World) : Prop := e = .returned (.bool true) ∧ Below w.heap.size w w'
theorem k_bytes : ifaceB [109] [] = [1, 109, 0] := by decide
theorem k_right : rightI [109] [] = 0 := by decide
theorem k_str : Wire.toStr [1, 109, 0] = ⟨#[1, 109, 0]⟩ := by kernel_rfl
end Go.Proofs.YtdeckknfolaaeaaGreatDoor

namespace Go.Proofs.YtdeckknfolaaeaaGreatDoor
open Go.RowKit

theorem four4 {w : World} {b : Nat} {z0 z1 z2 z3 : Value} {e : TypeId} (h : w.heap[b]? = some (.cells #[z0, z1, z2, z3] e (0, 0))) : w.cell? ⟨b, 0, none⟩ = some z0 ∧ w.cell? ⟨b, 1, none⟩ = some z1 ∧ w.cell? ⟨b, 2, none⟩ = some z2 ∧ w.cell? ⟨b, 3, none⟩ = some z3 ∧ w.frozen? ⟨b, 0, none⟩ = false ∧ w.frozen? ⟨b, 1, none⟩ = false ∧ w.frozen? ⟨b, 2, none⟩ = false ∧ w.frozen? ⟨b, 3, none⟩ = false := by
  refine ⟨?_, ?_, ?_, ?_, frozen_of_row w b 0 _ e h, frozen_of_row w b 1 _ e h, frozen_of_row w b 2 _ e h, frozen_of_row w b 3 _ e h⟩ <;> rw [cell_of_row w b _ _ e (0, 0) h] <;> rfl
theorem box4_set {w : World} {b : Nat} {z0 z1 z2 z3 : Value} {e : TypeId} (h : w.heap[b]? = some (.cells #[z0, z1, z2, z3] e (0, 0))) (a0 a1 a2 a3 : Value) : ((((w.setCell ⟨b, 0, none⟩ a0).setCell ⟨b, 1, none⟩ a1).setCell ⟨b, 2, none⟩ a2).setCell ⟨b, 3, none⟩ a3).heap[b]? = some (.cells #[a0, a1, a2, a3] e (0, 0)) :=
  heap_setCell_same _ _ 3 _ e a3 (heap_setCell_same _ _ 2 _ e a2 (heap_setCell_same _ _ 1 _ e a1 (heap_setCell_same _ _ 0 _ e a0 h)))
theorem box4_below {B : Nat} {w w' : World} (h : Below B w w') {b : Nat} (hb : B ≤ b) (a0 a1 a2 a3 : Value) : Below B w ((((w'.setCell ⟨b, 0, none⟩ a0).setCell ⟨b, 1, none⟩ a1).setCell ⟨b, 2, none⟩ a2).setCell ⟨b, 3, none⟩ a3) :=
  (((h.setCell (p := ⟨b, 0, none⟩) hb _).setCell (p := ⟨b, 1, none⟩) hb _).setCell (p := ⟨b, 2, none⟩) hb _).setCell (p := ⟨b, 3, none⟩) hb _
theorem box4_block (w : World) (b k : Nat) (hk : k ≠ b) (a0 a1 a2 a3 : Value) : ((((w.setCell ⟨b, 0, none⟩ a0).setCell ⟨b, 1, none⟩ a1).setCell ⟨b, 2, none⟩ a2).setCell ⟨b, 3, none⟩ a3).heap[k]? = w.heap[k]? :=
  (Below.heap_setCell _ ⟨b, 3, none⟩ _ k hk).trans ((Below.heap_setCell _ ⟨b, 2, none⟩ _ k hk).trans ((Below.heap_setCell _ ⟨b, 1, none⟩ _ k hk).trans (Below.heap_setCell _ ⟨b, 0, none⟩ _ k hk)))
theorem cs_more {n : Nat} {u u' : World} {v : Value} {xs : List Cs} (h : CsR (fun g => n ≤ g ∧ g < u.heap.size) u v xs) (hb : Below u.heap.size u u') : CsR (fun g => n ≤ g ∧ g < u'.heap.size) u' v xs :=
  h.frame fun g hg => ⟨⟨hg.1, Nat.lt_of_lt_of_le hg.2 hb.size⟩, hb.block g hg.2⟩
set_option maxHeartbeats 2000000 in
set_option maxRecDepth 1000000 in
theorem copyItem (F : Nat → Prop) (x : It) (cv : Value) (w : World) (h : CsR F w cv x.cases) (hF : ∀ g, F g → g < w.heap.size) (hx : ItOk x) :
    Calls Tryz.prog 165 #[itv x cv] w fun e w' => ∃ cv', e = .returned (itv x cv') ∧ CsR (Fr w w') w' cv' x.cases ∧ Below w.heap.size w w' := by
  obtain ⟨kd, nm, ty, cs⟩ := x
  obtain ⟨ca, cc, rfl⟩ := h.shape
  obtain ⟨_, _, hn, ht, hcl, hco⟩ := hx
  unfold itv
  simp only at h hn ht hcl hco ⊢
  have hb0 : Below w.heap.size w ((w.alloc (.cells #[.int .i64 kd, .string (str nm), .string (str ty), .slice ca cs.length cc] 47)).alloc (.cells #[.int .i64 0, .string ⟨#[]⟩, .string ⟨#[]⟩, .slice none 0 0] 47)) := ((Below.refl _ _).alloc (Nat.le_refl _) _).alloc (by simp) _
  have hSz : ∀ u, Below (w.heap.size + 2) ((w.alloc (.cells #[.int .i64 kd, .string (str nm), .string (str ty), .slice ca cs.length cc] 47)).alloc (.cells #[.int .i64 0, .string ⟨#[]⟩, .string ⟨#[]⟩, .slice none 0 0] 47)) u → w.heap.size + 2 ≤ u.heap.size := fun u hu => by have := hu.size; simpa using this
  have hN : ∀ u, Below (w.heap.size + 2) ((w.alloc (.cells #[.int .i64 kd, .string (str nm), .string (str ty), .slice ca cs.length cc] 47)).alloc (.cells #[.int .i64 0, .string ⟨#[]⟩, .string ⟨#[]⟩, .slice none 0 0] 47)) u → Below w.heap.size w u := fun u hu => hb0.trans (hu.mono (by omega))
  have hS : ∀ u, Below (w.heap.size + 1) ((w.alloc (.cells #[.int .i64 kd, .string (str nm), .string (str ty), .slice ca cs.length cc] 47)).alloc (.cells #[.int .i64 0, .string ⟨#[]⟩, .string ⟨#[]⟩, .slice none 0 0] 47)) u → u.cell? ⟨w.heap.size, 0, none⟩ = some (.int .i64 kd) ∧ u.cell? ⟨w.heap.size, 1, none⟩ = some (.string (str nm)) ∧ u.cell? ⟨w.heap.size, 2, none⟩ = some (.string (str ty)) ∧ u.cell? ⟨w.heap.size, 3, none⟩ = some (.slice ca cs.length cc) := fun u hu => by
    have k1 : u.heap[w.heap.size]? = some (.cells #[.int .i64 kd, .string (str nm), .string (str ty), .slice ca cs.length cc] 47 (0, 0)) := (hu.block _ (by omega)).trans ((Below.heap_alloc _ _ _ (by simp)).trans (World.alloc_heap_new w _))
    obtain ⟨c0, c1, c2, c3, _⟩ := four4 k1
    exact ⟨c0, c1, c2, c3⟩
  have hS2 : ∀ u, Below (w.heap.size + 2) ((w.alloc (.cells #[.int .i64 kd, .string (str nm), .string (str ty), .slice ca cs.length cc] 47)).alloc (.cells #[.int .i64 0, .string ⟨#[]⟩, .string ⟨#[]⟩, .slice none 0 0] 47)) u → u.cell? ⟨w.heap.size, 0, none⟩ = some (.int .i64 kd) ∧ u.cell? ⟨w.heap.size, 1, none⟩ = some (.string (str nm)) ∧ u.cell? ⟨w.heap.size, 2, none⟩ = some (.string (str ty)) ∧ u.cell? ⟨w.heap.size, 3, none⟩ = some (.slice ca cs.length cc) := fun u hu => hS u (hu.mono (by omega))
  have hS4 : ∀ u a0 a1 a2 a3, Below (w.heap.size + 2) ((w.alloc (.cells #[.int .i64 kd, .string (str nm), .string (str ty), .slice ca cs.length cc] 47)).alloc (.cells #[.int .i64 0, .string ⟨#[]⟩, .string ⟨#[]⟩, .slice none 0 0] 47)) u → ((((u.setCell ⟨w.heap.size + 1, 0, none⟩ a0).setCell ⟨w.heap.size + 1, 1, none⟩ a1).setCell ⟨w.heap.size + 1, 2, none⟩ a2).setCell ⟨w.heap.size + 1, 3, none⟩ a3).cell? ⟨w.heap.size, 0, none⟩ = some (.int .i64 kd) ∧ ((((u.setCell ⟨w.heap.size + 1, 0, none⟩ a0).setCell ⟨w.heap.size + 1, 1, none⟩ a1).setCell ⟨w.heap.size + 1, 2, none⟩ a2).setCell ⟨w.heap.size + 1, 3, none⟩ a3).cell? ⟨w.heap.size, 1, none⟩ = some (.string (str nm)) ∧ ((((u.setCell ⟨w.heap.size + 1, 0, none⟩ a0).setCell ⟨w.heap.size + 1, 1, none⟩ a1).setCell ⟨w.heap.size + 1, 2, none⟩ a2).setCell ⟨w.heap.size + 1, 3, none⟩ a3).cell? ⟨w.heap.size, 2, none⟩ = some (.string (str ty)) ∧ ((((u.setCell ⟨w.heap.size + 1, 0, none⟩ a0).setCell ⟨w.heap.size + 1, 1, none⟩ a1).setCell ⟨w.heap.size + 1, 2, none⟩ a2).setCell ⟨w.heap.size + 1, 3, none⟩ a3).cell? ⟨w.heap.size, 3, none⟩ = some (.slice ca cs.length cc) := fun u a0 a1 a2 a3 hu => hS _ (box4_below (hu.mono (by omega)) (by omega) _ _ _ _)
  have hR : ∀ u, Below (w.heap.size + 2) ((w.alloc (.cells #[.int .i64 kd, .string (str nm), .string (str ty), .slice ca cs.length cc] 47)).alloc (.cells #[.int .i64 0, .string ⟨#[]⟩, .string ⟨#[]⟩, .slice none 0 0] 47)) u → u.heap[w.heap.size + 1]? = some (.cells #[.int .i64 0, .string ⟨#[]⟩, .string ⟨#[]⟩, .slice none 0 0] 47 (0, 0)) := fun u hu => (hu.block _ (by omega)).trans (by have := World.alloc_heap_new (w.alloc (.cells #[.int .i64 kd, .string (str nm), .string (str ty), .slice ca cs.length cc] 47)) (.cells #[.int .i64 0, .string ⟨#[]⟩, .string ⟨#[]⟩, .slice none 0 0] 47); simpa using this)
  have hCC : ∀ u, Below (w.heap.size + 2) ((w.alloc (.cells #[.int .i64 kd, .string (str nm), .string (str ty), .slice ca cs.length cc] 47)).alloc (.cells #[.int .i64 0, .string ⟨#[]⟩, .string ⟨#[]⟩, .slice none 0 0] 47)) u → Calls Tryz.prog 226 #[.slice ca cs.length cc] u fun e w' => ∃ v', e = .returned v' ∧ CsR (Fr u w') w' v' cs ∧ Below u.heap.size u w' := fun u hu =>
    copyCases F _ cs u (h.below (hN u hu) hF) (fun g hg => by have := hF g hg; have := hSz u hu; omega) hcl hco
  have hnext : ∀ u u', Below (w.heap.size + 2) ((w.alloc (.cells #[.int .i64 kd, .string (str nm), .string (str ty), .slice ca cs.length cc] 47)).alloc (.cells #[.int .i64 0, .string ⟨#[]⟩, .string ⟨#[]⟩, .slice none 0 0] 47)) u → Below u.heap.size u u' → Below (w.heap.size + 2) ((w.alloc (.cells #[.int .i64 kd, .string (str nm), .string (str ty), .slice ca cs.length cc] 47)).alloc (.cells #[.int .i64 0, .string ⟨#[]⟩, .string ⟨#[]⟩, .slice none 0 0] 47)) u' := fun u u' hu h => hu.trans (h.mono (hSz u hu))
  have hCm : ∀ u w' v', Below (w.heap.size + 2) ((w.alloc (.cells #[.int .i64 kd, .string (str nm), .string (str ty), .slice ca cs.length cc] 47)).alloc (.cells #[.int .i64 0, .string ⟨#[]⟩, .string ⟨#[]⟩, .slice none 0 0] 47)) u → CsR (Fr u w') w' v' cs → CsR (fun g => w.heap.size + 2 ≤ g ∧ g < w'.heap.size) w' v' cs := fun u w' v' hu ht => ht.frame fun g hg => ⟨⟨by have := hSz u hu; have := hg.1; omega, hg.2⟩, rfl⟩
  have G0 : Below (w.heap.size + 2) ((w.alloc (.cells #[.int .i64 kd, .string (str nm), .string (str ty), .slice ca cs.length cc] 47)).alloc (.cells #[.int .i64 0, .string ⟨#[]⟩, .string ⟨#[]⟩, .slice none 0 0] 47)) ((w.alloc (.cells #[.int .i64 kd, .string (str nm), .string (str ty), .slice ca cs.length cc] 47)).alloc (.cells #[.int .i64 0, .string ⟨#[]⟩, .string ⟨#[]⟩, .slice none 0 0] 47)).drew := (Below.refl _ _).drew
  have G1 : Below (w.heap.size + 2) ((w.alloc (.cells #[.int .i64 kd, .string (str nm), .string (str ty), .slice ca cs.length cc] 47)).alloc (.cells #[.int .i64 0, .string ⟨#[]⟩, .string ⟨#[]⟩, .slice none 0 0] 47)) ((w.alloc (.cells #[.int .i64 kd, .string (str nm), .string (str ty), .slice ca cs.length cc] 47)).alloc (.cells #[.int .i64 0, .string ⟨#[]⟩, .string ⟨#[]⟩, .slice none 0 0] 47)) := Below.refl _ _
  clear h hb0 hF hcl hco
  go_enter Tryz.func165, Tryz.ntmps165
  go_wp2_with fail
  generalize hW : ((w.alloc (.cells #[.int .i64 kd, .string (str nm), .string (str ty), .slice ca cs.length cc] 47)).alloc (.cells #[.int .i64 0, .string ⟨#[]⟩, .string ⟨#[]⟩, .slice none 0 0] 47)) = W2 at *
  clear hW
  obtain ⟨d0, d1, d2, d3⟩ := hS2 _ G0
  have hr := hR _ G0
  obtain ⟨r0, r1, r2, r3, rf0, rf1, rf2, rf3⟩ := four4 hr
  go_region_held3 (fun u => u.cell? ⟨w.heap.size, 0, none⟩ = some (.int .i64 kd) ∧ u.cell? ⟨w.heap.size, 1, none⟩ = some (.string (str nm)) ∧ u.cell? ⟨w.heap.size, 2, none⟩ = some (.string (str ty)) ∧ u.cell? ⟨w.heap.size, 3, none⟩ = some (.slice ca cs.length cc)) (first | go_keep | exact hS2 _ (by assumption) | exact hS4 _ _ _ _ _ (by assumption)) (first
    | (go_at_call_of 162 (str nm); refine (sCloneT nm _ hn).mono ?_; rintro e wa ⟨rfl, hba⟩; have Ga := hnext _ _ (by assumption) hba; obtain ⟨d0, d1, d2, d3⟩ := hS2 _ Ga; have hr := hR _ Ga; obtain ⟨r0, r1, r2, r3, rf0, rf1, rf2, rf3⟩ := four4 hr; try (have hC5 := cs_more hC5 hba); clear hba)
    | (go_at_call_of 162 (str ty); refine (sCloneT ty _ ht).mono ?_; rintro e wb ⟨rfl, hbb⟩; have Gb := hnext _ _ (by assumption) hbb; obtain ⟨d0, d1, d2, d3⟩ := hS2 _ Gb; have hr := hR _ Gb; obtain ⟨r0, r1, r2, r3, rf0, rf1, rf2, rf3⟩ := four4 hr; try (have hC5 := cs_more hC5 hbb); clear hbb)
    | (go_at_call 226; refine (hCC _ (by assumption)).mono ?_; rintro e wc ⟨v5, rfl, hC4, hbc⟩; have hC5 := hCm _ _ _ (by assumption) hC4; obtain ⟨ga, gc, rfl⟩ := hC5.shape; have Gc := hnext _ _ (by assumption) hbc; obtain ⟨d0, d1, d2, d3⟩ := hS2 _ Gc; have hr := hR _ Gc; obtain ⟨r0, r1, r2, r3, rf0, rf1, rf2, rf3⟩ := four4 hr; clear hbc hC4))
  all_goals (
    go_wp2
    (try simp only [Exit.inBlock, Exit.then])
    refine bodyPost_ret (results_cell_row rfl _ _ (w.heap.size + 1) 47 _ (0, 0) _ rfl (box4_set hr _ _ _ _) Tryz.underlying47 rfl sizeIt) rfl ?_
    refine ⟨.slice ga cs.length gc, rfl, hC5.frame fun g hg => ⟨⟨by have := hg.1; omega, ?_⟩, box4_block _ _ _ (by have := hg.1; omega) _ _ _ _⟩, box4_below (hN _ (by assumption)) (by omega) _ _ _ _⟩
    have := hg.2
    simpa using this)
end Go.Proofs.YtdeckknfolaaeaaGreatDoor

namespace Go.Proofs.YtdeckknfolaaeaaGreatDoor
open Go.RowKit

def it0 : It := ⟨0, [], [], []⟩
def FindE (l : List It) (q : List UInt8) (w : World) (e : Ending) (w' : World) : Prop := ∃ x cv, e = .returned (.tuple #[itv x cv, .bool (findI l q).isSome]) ∧ x = (findI l q).getD it0 ∧ CsR (Fr w w') w' cv x.cases ∧ Below w.heap.size w w'
theorem findI_at (l : List It) (q : List UInt8) (k : Nat) (h : k < l.length) : findI (l.drop k) q = if l[k].name = q then some l[k] else findI (l.drop (k + 1)) q := by
  rw [List.drop_eq_getElem_cons h, findI, List.find?_cons]
  by_cases e : l[k].name = q
  · simp [e]
  · simp [e, findI]
set_option maxHeartbeats 2000000 in
set_option maxRecDepth 1000000 in
theorem find7 (F : Nat → Prop) (m : List UInt8) (l : List It) (va : Option Addr) (vc : Nat) (q : List UInt8) (w : World) (h : ItR F w (.slice va l.length vc) l) (hF : ∀ g, F g → g < w.heap.size) (hok : ∀ x ∈ l, ItOk x) (hl : l.length ≤ 2199023255552) :
    Calls Tryz.prog 95 #[.agg #[.string (str m), .slice va l.length vc], .string (str q)] w (FindE l q w) := by
  have hb0 : Below w.heap.size w ((w.alloc (.cells #[.string (str m), .slice va l.length vc] 51)).alloc (.cells #[.int .i64 0, .string ⟨#[]⟩, .string ⟨#[]⟩, .slice none 0 0] 47)) := ((Below.refl _ _).alloc (Nat.le_refl _) _).alloc (by simp) _
  have hSz : ∀ u, Below (w.heap.size + 2) ((w.alloc (.cells #[.string (str m), .slice va l.length vc] 51)).alloc (.cells #[.int .i64 0, .string ⟨#[]⟩, .string ⟨#[]⟩, .slice none 0 0] 47)) u → w.heap.size + 2 ≤ u.heap.size := fun u hu => by have := hu.size; simpa using this
  have hN : ∀ u, Below (w.heap.size + 2) ((w.alloc (.cells #[.string (str m), .slice va l.length vc] 51)).alloc (.cells #[.int .i64 0, .string ⟨#[]⟩, .string ⟨#[]⟩, .slice none 0 0] 47)) u → Below w.heap.size w u := fun u hu => hb0.trans (hu.mono (by omega))
  have hR : ∀ u, Below (w.heap.size + 2) ((w.alloc (.cells #[.string (str m), .slice va l.length vc] 51)).alloc (.cells #[.int .i64 0, .string ⟨#[]⟩, .string ⟨#[]⟩, .slice none 0 0] 47)) u → u.heap[w.heap.size + 1]? = some (.cells #[.int .i64 0, .string ⟨#[]⟩, .string ⟨#[]⟩, .slice none 0 0] 47 (0, 0)) := fun u hu => (hu.block _ (by omega)).trans (by have := World.alloc_heap_new (w.alloc (.cells #[.string (str m), .slice va l.length vc] 51)) (.cells #[.int .i64 0, .string ⟨#[]⟩, .string ⟨#[]⟩, .slice none 0 0] 47); simpa using this)
  have hI : ∀ u, Below (w.heap.size + 2) ((w.alloc (.cells #[.string (str m), .slice va l.length vc] 51)).alloc (.cells #[.int .i64 0, .string ⟨#[]⟩, .string ⟨#[]⟩, .slice none 0 0] 47)) u → ItR F u (.slice va l.length vc) l := fun u hu => h.below (hN u hu) hF
  have hFu : ∀ u, Below (w.heap.size + 2) ((w.alloc (.cells #[.string (str m), .slice va l.length vc] 51)).alloc (.cells #[.int .i64 0, .string ⟨#[]⟩, .string ⟨#[]⟩, .slice none 0 0] 47)) u → ∀ g, F g → g < u.heap.size := fun u hu g hg => by have := hF g hg; have := hSz u hu; omega
  have hnext : ∀ u u', Below (w.heap.size + 2) ((w.alloc (.cells #[.string (str m), .slice va l.length vc] 51)).alloc (.cells #[.int .i64 0, .string ⟨#[]⟩, .string ⟨#[]⟩, .slice none 0 0] 47)) u → Below u.heap.size u u' → Below (w.heap.size + 2) ((w.alloc (.cells #[.string (str m), .slice va l.length vc] 51)).alloc (.cells #[.int .i64 0, .string ⟨#[]⟩, .string ⟨#[]⟩, .slice none 0 0] 47)) u' := fun u u' hu h => hu.trans (h.mono (hSz u hu))
  have G0 : Below (w.heap.size + 2) ((w.alloc (.cells #[.string (str m), .slice va l.length vc] 51)).alloc (.cells #[.int .i64 0, .string ⟨#[]⟩, .string ⟨#[]⟩, .slice none 0 0] 47)) ((w.alloc (.cells #[.string (str m), .slice va l.length vc] 51)).alloc (.cells #[.int .i64 0, .string ⟨#[]⟩, .string ⟨#[]⟩, .slice none 0 0] 47)) := Below.refl _ _
  clear h hb0
  go_enter Tryz.func95, Tryz.ntmps95
  go_wp2
  generalize hW : ((w.alloc (.cells #[.string (str m), .slice va l.length vc] 51)).alloc (.cells #[.int .i64 0, .string ⟨#[]⟩, .string ⟨#[]⟩, .slice none 0 0] 47)) = W2 at *
  clear hW
  go_loopg [11] l.length (fun g i wr => ∃ (k : Nat), g + k = l.length ∧ i = .int .i64 (k : Int) ∧ Hid (findI l q = findI (l.drop k) q) ∧ Below (w.heap.size + 2) W2 wr)
  case atStart => exact ⟨0, by simp, rfl, by simp [Hid], G0⟩
  case round =>
    obtain ⟨k, hg, rfl, hq, Gr⟩ := hrel
    by_cases hk : k < l.length
    · obtain ⟨bk, o, c, cv, e1, hgF, hC, q0, q1, q2, q3⟩ := (hI _ Gr).at k hk
      simp only [Value.slice.injEq, true_and] at e1
      obtain ⟨rfl, rfl⟩ := e1
      obtain ⟨ca, cc, rfl⟩ := hC.shape
      have hki : (k : Int) < (l.length : Int) := by omega
      have hx := hok _ (List.getElem_mem hk)
      have HQ := hq.out
      rw [findI_at l q k hk] at HQ
      clear hq
      generalize l[k] = x at *
      obtain ⟨kd, nm, ty, cs⟩ := x
      simp only at hC q0 q1 q2 q3 HQ
      have he := eq_is nm q
      have hba : Below wr.heap.size wr (wr.alloc (.cells #[.int .i64 kd, .string (str nm), .string (str ty), .slice ca cs.length cc] 47)) := (Below.refl _ _).alloc (Nat.le_refl _) _
      have Ga := hnext _ _ Gr hba
      by_cases hn : nm = q
      · rw [decide_eq_true hn] at he
        rw [if_pos hn] at HQ
        replace HQ := hidden HQ
        have hcp := copyItem F ⟨kd, nm, ty, cs⟩ (.slice ca cs.length cc) _ (hC.below hba (hFu _ Gr)) (hFu _ Ga) hx
        unfold itv at hcp
        simp only at hcp
        clear hn hI hok hx
        go_wp2_with fail
        refine hcp.mono ?_
        rintro e w3 ⟨cv', rfl, hC3, hb3⟩
        obtain ⟨da, dc, rfl⟩ := hC3.shape
        (try simp only at hC3)
        have G3 := hnext _ _ Ga hb3
        have hr := hR _ G3
        have hsa := hSz _ Ga
        have hbw := (hN _ G3).trans ((setRow_below w3 (w.heap.size + 1) #[.int .i64 kd, .string (str nm), .string (str ty), .slice da cs.length dc]).mono (by omega))
        have hC4 : CsR (Fr w (w3.setRow (w.heap.size + 1) #[.int .i64 kd, .string (str nm), .string (str ty), .slice da cs.length dc])) (w3.setRow (w.heap.size + 1) #[.int .i64 kd, .string (str nm), .string (str ty), .slice da cs.length dc]) (.slice da cs.length dc) cs := hC3.frame fun g hg => by
          have := hg.1
          refine ⟨⟨by omega, by simpa [World.setRow] using hg.2⟩, ?_⟩
          simp only [World.setRow]
          rw [Array.getElem?_modify, if_neg (by omega)]
        clear hcp hC3 hb3 G3 hsa
        go_wp2_with (refine wpList_store_row rfl 47 (.tmp 4) (.tmp 20) rfl (w.heap.size + 1) #[.int .i64 kd, .string (str nm), .string (str ty), .slice da cs.length dc] rfl rfl 47 #[.int .i64 0, .string ⟨#[]⟩, .string ⟨#[]⟩, .slice none 0 0] hr sizeIt rfl (by first | kernel_rfl | rfl | simp [Value.oneCell']) ?_)
        (try simp only [Exit.inBlock, Exit.then])
        refine bodyPost_ret (res7 rfl _ _ (w.heap.size + 1) 47 #[.int .i64 kd, .string (str nm), .string (str ty), .slice da cs.length dc] (0, 0) _ rfl (setRow_heap w3 (w.heap.size + 1) _ _ 47 (0, 0) hr) Tryz.underlying47 rfl sizeIt) rfl ?_
        exact ⟨⟨kd, nm, ty, cs⟩, _, by rw [HQ.out]; rfl, by rw [HQ.out]; rfl, hC4, hbw⟩
      · rw [decide_eq_false hn] at he
        rw [if_neg hn] at HQ
        replace HQ := hidden HQ
        clear hn hI hok hx
        go_wp2
        go_roundg (l.length - (k + 1))
        case measure => omega
        case rel => exact ⟨k + 1, by omega, by go_num, HQ, Ga⟩
    · have hki : ¬ (k : Int) < (l.length : Int) := by omega
      have HX : Hid (findI l q = none) := by
        rw [hid_iff, hq.out, List.drop_of_length_le (by omega)]
        rfl
      have hr := hR _ Gr
      have hbw := (hN _ Gr).trans ((setRow_below wr (w.heap.size + 1) #[.int .i64 0, .string ⟨#[]⟩, .string ⟨#[]⟩, .slice none 0 0]).mono (by omega))
      clear hq hI
      go_wp2_with (refine wpList_store_row rfl 47 (.tmp 4) (.tmp 22) rfl (w.heap.size + 1) #[.int .i64 0, .string ⟨#[]⟩, .string ⟨#[]⟩, .slice none 0 0] rfl rfl 47 #[.int .i64 0, .string ⟨#[]⟩, .string ⟨#[]⟩, .slice none 0 0] hr sizeIt rfl (by kernel_rfl) ?_)
      (try simp only [Exit.inBlock, Exit.then])
      refine bodyPost_ret (res7 rfl _ _ (w.heap.size + 1) 47 #[.int .i64 0, .string ⟨#[]⟩, .string ⟨#[]⟩, .slice none 0 0] (0, 0) _ rfl (setRow_heap wr (w.heap.size + 1) _ _ 47 (0, 0) hr) Tryz.underlying47 rfl sizeIt) rfl ?_
      exact ⟨it0, .slice none 0 0, by rw [HX.out]; rfl, by rw [HX.out]; rfl, CsR.nil _ _, hbw⟩
end Go.Proofs.YtdeckknfolaaeaaGreatDoor
