/-
  The Writer beside blocks that stay; the package's writeItem.
-/
import Derived.Deep.LoopGhost
import Derived.Test.YtcjddbponknnoaaGreatDoorIfaceBytes
import Derived.Test.YtcjddbponknnoaaGreatDoorIfaceMem
import Derived.Test.YtcjddbponknnoaaGreatDoorWireWriter
namespace Go.Proofs.YtcjddbponknnoaaGreatDoor
open Go.RowKit

theorem keep_of {S : Nat → Prop} {w w' : World} (h : Wire.Kept S w w') : Kept S w w' := ⟨h.os, h.tape, h.output, h.size, h.block⟩
/-- A Writer at b that has written l; its blocks are none of D. -/
def WB (D : Nat → Prop) (w : World) (b : Nat) (l : List Nat) : Prop := ∃ g, Wire.WIs w b g l ∧ ¬ D b ∧ ¬ D g
def WP (D : Nat → Prop) (w : World) (b : Nat) (l : List Nat) (e : Ending) (w' : World) : Prop := e = .returned (.tuple #[]) ∧ WB D w' b l ∧ Kept (fun k => ¬ D k) w w'
theorem WB.of {D : Nat → Prop} {w w' : World} {b g g' : Nat} {l : List Nat} (hD : ∀ k, D k → k < w.heap.size) (hb : ¬ D b) (hg : ¬ D g) (h : Wire.WIs w' b g' l) (hg' : g' = g ∨ w.heap.size ≤ g') (hk : Wire.Kept (fun k => k = b ∨ k = g) w w') : WP D w b l (.returned (.tuple #[])) w' := by
  refine ⟨rfl, ⟨g', h, hb, fun hd => ?_⟩, (keep_of hk).mono (fun x _ hx => ?_)⟩
  · rcases hg' with rfl | hg'
    · exact hg hd
    · have := hD g' hd
      omega
  · rcases hx with rfl | rfl
    · exact hb
    · exact hg
theorem wText7 (D : Nat → Prop) (x : List UInt8) (b : Nat) (l : List Nat) (w : World) (hD : ∀ k, D k → k < w.heap.size) (hl : l.length + x.length + 10 ≤ 140737488355328) (hw : WB D w b l) :
    Calls Tryz.prog 93 #[.pointer (some ⟨b, 0, none⟩), .string (str x)] w (WP D w b (l ++ txtB x)) := by
  obtain ⟨g, h, hb, hg⟩ := hw
  refine (Wire.wtext (str x) b g l w (by rw [str_size]; exact hl) h).mono ?_
  rintro e w' ⟨rfl, g', h1, h2, h3⟩
  rw [str_size, str_data, List.append_assoc] at h1
  exact WB.of hD hb hg h1 h2 h3
theorem wNum7 (D : Nat → Prop) (n : Nat) (b : Nat) (l : List Nat) (w : World) (hD : ∀ k, D k → k < w.heap.size) (hn : n < 18446744073709551616) (hl : l.length + 10 ≤ 140737488355328) (hw : WB D w b l) :
    Calls Tryz.prog 145 #[.pointer (some ⟨b, 0, none⟩), .int .u64 n] w (WP D w b (l ++ Wire.enc n)) := by
  obtain ⟨g, h, hb, hg⟩ := hw
  refine (Wire.wnumber n b g l w hn hl h).mono ?_
  rintro e w' ⟨rfl, g', h1, h2, h3⟩
  exact WB.of hD hb hg h1 h2 h3
/-- One block more stays. -/
def Dx (D : Nat → Prop) (d k : Nat) : Prop := D k ∨ k = d
theorem WB.new {D : Nat → Prop} {w : World} {b : Nat} {l : List Nat} (h : WB D w b l) (o : Obj) : WB (Dx D w.heap.size) (w.alloc o) b l := by
  obtain ⟨g, h1, hb, hg⟩ := h
  have l1 := h1.lt
  have l2 := h1.gt
  exact ⟨g, h1.kept ((Wire.Kept.refl (fun _ => False) w).alloc o) (fun h => h) (fun h => h), fun h => by rcases h with h | h; exact hb h; omega, fun h => by rcases h with h | h; exact hg h; omega⟩
theorem WB.less {D E : Nat → Prop} {w : World} {b : Nat} {l : List Nat} (h : WB D w b l) (hE : ∀ k, E k → D k) : WB E w b l := by
  obtain ⟨g, h1, hb, hg⟩ := h
  exact ⟨g, h1, fun h => hb (hE _ h), fun h => hg (hE _ h)⟩
theorem Dx.lt {D : Nat → Prop} {w : World} (hD : ∀ k, D k → k < w.heap.size) (o : Obj) : ∀ k, Dx D w.heap.size k → k < (w.alloc o).heap.size := by
  intro k hk
  simp
  rcases hk with h | h
  · have := hD k h
    omega
  · omega
theorem Dx.kept {D : Nat → Prop} {w w' : World} {o : Obj} (h : Kept (fun k => ¬ Dx D w.heap.size k) (w.alloc o) w') (hD : ∀ k, D k → k < w.heap.size) : Kept (fun k => ¬ D k) w w' := by
  refine ⟨h.os, h.tape, h.output, by have := h.size; simp at this; omega, fun k hk hn => ?_⟩
  have hd : D k := Classical.not_not.1 hn
  rw [h.block k (by simp; omega) (fun hh => hh (.inl hd)), Below.heap_alloc _ _ _ (hD k hd)]
theorem keep_trans {D : Nat → Prop} {a b c : World} (h : Kept (fun k => ¬ D k) a b) (k : Kept (fun k => ¬ D k) b c) : Kept (fun k => ¬ D k) a c := h.trans k (fun _ _ h => h) (fun _ _ h => h)
theorem keep_blk {D : Nat → Prop} {w w' : World} (h : Kept (fun k => ¬ D k) w w') {d : Nat} (hd : D d) (hl : d < w.heap.size) : w'.heap[d]? = w.heap[d]? := h.block d hl (fun hn => hn hd)
theorem TxR.keep {F D : Nat → Prop} {w w' : World} {v : Value} {xs : List (List UInt8)} (h : TxR F w v xs) (k : Kept (fun k => ¬ D k) w w') (hF : ∀ g, F g → D g) (hD : ∀ g, D g → g < w.heap.size) : TxR F w' v xs := h.frame fun g hg => ⟨hg, keep_blk k (hF g hg) (hD g (hF g hg))⟩
theorem CsR.keep {F D : Nat → Prop} {w w' : World} {v : Value} {xs : List Cs} (h : CsR F w v xs) (k : Kept (fun k => ¬ D k) w w') (hF : ∀ g, F g → D g) (hD : ∀ g, D g → g < w.heap.size) : CsR F w' v xs := h.frame fun g hg => ⟨hg, keep_blk k (hF g hg) (hD g (hF g hg))⟩
theorem ItR.keep {F D : Nat → Prop} {w w' : World} {v : Value} {xs : List It} (h : ItR F w v xs) (k : Kept (fun k => ¬ D k) w w') (hF : ∀ g, F g → D g) (hD : ∀ g, D g → g < w.heap.size) : ItR F w' v xs := h.frame fun g hg => ⟨hg, keep_blk k (hF g hg) (hD g (hF g hg))⟩
theorem keep_lt {D : Nat → Prop} {w w' : World} (k : Kept (fun k => ¬ D k) w w') (hD : ∀ g, D g → g < w.heap.size) : ∀ g, D g → g < w'.heap.size := fun g hg => Nat.lt_of_lt_of_le (hD g hg) k.size
theorem box2 {w : World} {d : Nat} {x0 x1 : Value} {T : Nat} (h : w.heap[d]? = some (.cells #[x0, x1] T (0, 0))) : w.cell? ⟨d, 0, none⟩ = some x0 ∧ w.cell? ⟨d, 1, none⟩ = some x1 := ⟨by rw [cell_of_row w d 0 _ _ _ h]; rfl, by rw [cell_of_row w d 1 _ _ _ h]; rfl⟩
theorem box4 {w : World} {d : Nat} {x0 x1 x2 x3 : Value} {T : Nat} (h : w.heap[d]? = some (.cells #[x0, x1, x2, x3] T (0, 0))) : w.cell? ⟨d, 0, none⟩ = some x0 ∧ w.cell? ⟨d, 1, none⟩ = some x1 ∧ w.cell? ⟨d, 2, none⟩ = some x2 ∧ w.cell? ⟨d, 3, none⟩ = some x3 := ⟨by rw [cell_of_row w d 0 _ _ _ h]; rfl, by rw [cell_of_row w d 1 _ _ _ h]; rfl, by rw [cell_of_row w d 2 _ _ _ h]; rfl, by rw [cell_of_row w d 3 _ _ _ h]; rfl⟩
theorem u64_small (n : Nat) (h : n < 18446744073709551616) : IntKind.u64.wrap (n : Int) = (n : Int) := by rw [IntKind.wrap_u64]; omega
end Go.Proofs.YtcjddbponknnoaaGreatDoor
