/-
  A row of items that a call makes, one put behind the others.
  And: The Writer beside blocks that stay; the package's writeItem. What a reader of objects keeps in memory: rows that it makes, as they can be read; a struct that is filled in field by field.
-/
import Derived.Deep.AppendLies
import Derived.Test.YtfjppbpicmniaaaGreatDoorG13
import Derived.Test.YtfjppbpicmniaaaGreatDoorG12
import Derived.Deep.LoopGhost
import Derived.Test.YtfjppbpicmniaaaGreatDoorG14
import Derived.Test.YtfjppbpicmniaaaGreatDoorG09
import Derived.Test.YtfjppbpicmniaaaGreatDoorG15
import Derived.Laws.CopyRow
import Derived.Test.YtfjppbpicmniaaaGreatDoorG18
import Derived.Test.YtfjppbpicmniaaaGreatDoorG16
namespace Go.Proofs.YtfjppbpicmniaaaGreatDoor
open Go.RowKit

def rowJ (ps : List (It × Value)) : List Value := ps.flatMap fun p => [.int .i64 p.1.kind, .string (str p.1.name), .string (str p.1.ty), p.2]
theorem rowJ_snoc (ps : List (It × Value)) (p : It × Value) : rowJ (ps ++ [p]) = rowJ ps ++ [.int .i64 p.1.kind, .string (str p.1.name), .string (str p.1.ty), p.2] := by simp [rowJ]
/-- Items in a row of the call's own, their cases apart from it. -/
def ItI (B : Nat) (w : World) (v : Value) (xs : List It) : Prop := ∃ ps : List (It × Value), ps.map (·.1) = xs ∧ w.ownsRow B 78 4 v xs.length (rowJ ps) ∧ ∀ p ∈ ps, CsR (fun g => B ≤ g ∧ g < w.heap.size ∧ some g ≠ v.ownBlock) w p.2 p.1.cases
theorem ItI.nil (B : Nat) (w : World) : ItI B w (.slice none 0 0) [] := ⟨[], rfl, World.ownsRow_nil _ _ _ _, by simp⟩
theorem ItI.block {B : Nat} {w : World} {v : Value} {cs : List It} (h : ItI B w v cs) {g : Nat} (hg : v.ownBlock = some g) : B ≤ g ∧ g < w.heap.size := by
  obtain ⟨ps, h1, h2, h3⟩ := h
  exact owns_block h2 hg
theorem ItI.shape {B : Nat} {w : World} {v : Value} {cs : List It} (h : ItI B w v cs) : ∃ a c, v = .slice a cs.length c := by
  obtain ⟨ps, h1, h2, h3⟩ := h
  rcases h2.2 with ⟨rfl, hn⟩ | ⟨g, cap, cur, rfl, _⟩
  · exact ⟨none, 0, by rw [hn]⟩
  · exact ⟨_, _, rfl⟩
theorem rowJ_at : ∀ (ps : List (It × Value)) (j : Nat) (h : j < ps.length) (i : Nat), i < 4 → (rowJ ps)[j * 4 + i]? = ([.int .i64 ps[j].1.kind, .string (str ps[j].1.name), .string (str ps[j].1.ty), ps[j].2] : List Value)[i]?
  | p :: r, 0, _, i, hi => by
    rw [Nat.zero_mul, Nat.zero_add, rowJ, List.flatMap_cons, List.getElem?_append_left (by simpa using hi)]
    rfl
  | p :: r, j + 1, h, i, hi => by
    have := rowJ_at r j (by simpa using h) i hi
    rw [rowJ, List.flatMap_cons, List.getElem?_append_right (by simp; omega)]
    simpa [rowJ, Nat.add_mul, Nat.add_right_comm] using this
theorem ItI.row {B : Nat} {w : World} {v : Value} {xs : List It} (h : ItI B w v xs) : ItR (fun g => B ≤ g ∧ g < w.heap.size) w v xs := by
  obtain ⟨ps, rfl, h2, h3⟩ := h
  rcases h2.2 with ⟨rfl, hn⟩ | ⟨g, cap, cur, rfl, hb, hg, hl, _⟩
  · exact .inl ⟨none, 0, rfl, List.eq_nil_of_length_eq_zero hn⟩
  · refine .inr ⟨g, 0, cap, rfl, hl, ⟨hb, (Array.getElem?_eq_some_iff.1 hg).1⟩, fun j x hj => ?_⟩
    rw [List.getElem?_map] at hj
    obtain ⟨p, hp, rfl⟩ := Option.map_eq_some_iff.1 hj
    obtain ⟨hlt, rfl⟩ := List.getElem?_eq_some_iff.1 hp
    have q : ∀ i, i < 4 → w.cell? ⟨g, 0 + j * 4 + i, none⟩ = ([.int .i64 ps[j].1.kind, .string (str ps[j].1.name), .string (str ps[j].1.ty), ps[j].2] : List Value)[i]? := fun i hi => by
      rw [Nat.zero_add, h2.cellAt (j * 4 + i) (by simp; omega), rowJ_at ps j hlt i hi]
    exact ⟨ps[j].2, (h3 _ (List.getElem_mem hlt)).frame fun g' hg' => ⟨⟨hg'.1, hg'.2.1⟩, rfl⟩, q 0 (by omega), q 1 (by omega), q 2 (by omega), q 3 (by omega)⟩
theorem infoIt5 : (Tryz.prog.info? 78).map (fun i => (i.zero.map (fun z => z.cells.size), i.size, i.bytes)) = some (some 4, 4, 64) := by kernel_rfl
theorem CsR.one {F : Nat → Prop} {w : World} {v : Value} {xs : List Cs} (h : CsR F w v xs) : v.oneCell' = true := by
  obtain ⟨a, c, rfl⟩ := h.shape
  rfl
theorem append_itemJ {w : World} {ops : Array Oper} {rest : List Oper} {o : Oper} {a : Act} {Q : Exit → Act → World → Prop} (hgd : o.guard = none) (s x : Operand)
    (ho : o.op = .call { callee := .builtin .append, args := #[s, x], argTypes := #[22, 22] })
    (B : Nat) (v : Value) (xs : List It) (hs : a.eval s = v) (hI : ItI B w v xs) (c : It) (fv : Value) (ad : Addr) (cp : Nat) (hx : a.eval x = .slice (some ad) 1 cp)
    (hnews : ∀ j u, ([.int .i64 c.kind, .string (str c.name), .string (str c.ty), fv] : List Value)[j]? = some u → w.cell? (ad.add j) = some u) (hT : CsR (fun g => B ≤ g ∧ g < w.heap.size ∧ some g ≠ v.ownBlock) w fv c.cases) (hlen : xs.length + 1 ≤ 1000000) (hB : B ≤ w.heap.size)
    (h : ∀ g cap w', ItI B w' (.slice (some ⟨g, 0, none⟩) (xs.length + 1) cap) (xs ++ [c]) → w.grownBy w' v.ownBlock → wpList Tryz.prog ops Q rest (a.put o.dst (.slice (some ⟨g, 0, none⟩) (xs.length + 1) cap)) w') :
    wpList Tryz.prog ops Q (o :: rest) a w := by
  obtain ⟨i, z, hi, hz, h1, h2, h3⟩ := info_z infoIt5
  obtain ⟨ps, rfl, p2, p3⟩ := hI
  refine wpList_append_lies w hgd s x 22 ho B 78 i z 4 64 Tryz.underlying22 hi hz h1 h2 h3 (by decide) v _ (rowJ ps) hs p2 ad 1 cp [.int .i64 c.kind, .string (str c.name), .string (str c.ty), fv] hx rfl hnews (fun u hu => ?_) (by decide) (by unfold maxLen; omega) (by omega) hB w.heap.size rfl ?_
  · simp only [List.mem_cons, List.not_mem_nil, or_false] at hu
    rcases hu with rfl | rfl | rfl | rfl
    · rfl
    · rfl
    · rfl
    · exact hT.one
  · intro g cap w' q1 q2 q3 q4
    refine h g cap w' ⟨ps ++ [(c, fv)], by simp, by rw [rowJ_snoc]; simpa using q1, fun p hp => ?_⟩ q2
    have key : ∀ fv' (xs : List Cs), CsR (fun g => B ≤ g ∧ g < w.heap.size ∧ some g ≠ v.ownBlock) w fv' xs → CsR (fun g' => B ≤ g' ∧ g' < w'.heap.size ∧ some g' ≠ (Value.slice (some ⟨g, 0, none⟩) ((ps.map (·.1)).length + 1) cap).ownBlock) w' fv' xs := fun fv' xs ht => ht.frame fun g' hg' => by
      refine ⟨⟨hg'.1, Nat.lt_of_lt_of_le hg'.2.1 q2.size, fun e => ?_⟩, q2.block g' hg'.2.1 hg'.2.2⟩
      simp only [Value.ownBlock, Option.some.injEq] at e
      subst e
      rcases q3 with q3 | q3
      · exact hg'.2.2 q3.symm
      · have := hg'.2.1
        omega
    rcases List.mem_append.1 hp with hp | hp
    · exact key _ _ (p3 p hp)
    · rw [List.mem_singleton.1 hp]
      exact key _ _ hT
/-- What lies from B on is left alone by whoever turns a block below B alone. -/
theorem owns_wkept {S : Nat → Prop} {w w' : World} {B e sz n : Nat} {v : Value} {xs : List Value} (h : w.ownsRow B e sz v n xs) (k : Wire.Kept S w w') (hS : ∀ b, B ≤ b → ¬ S b) : w'.ownsRow B e sz v n xs := by
  refine ⟨h.1, ?_⟩
  rcases h.2 with hn | ⟨g, cap, cur, rfl, h2, h3, h4⟩
  · exact .inl hn
  · exact .inr ⟨g, cap, cur, rfl, h2, (k.block g (Array.getElem?_eq_some_iff.1 h3).1 (hS g h2)).trans h3, h4⟩
theorem ItI.wkept {S : Nat → Prop} {w w' : World} {B : Nat} {v : Value} {cs : List It} (h : ItI B w v cs) (k : Wire.Kept S w w') (hS : ∀ b, B ≤ b → ¬ S b) : ItI B w' v cs := by
  obtain ⟨ps, h1, h2, h3⟩ := h
  exact ⟨ps, h1, owns_wkept h2 k hS, fun p hp => (h3 p hp).frame fun g hg => ⟨⟨hg.1, Nat.lt_of_lt_of_le hg.2.1 k.size, hg.2.2⟩, k.block g hg.2.1 (hS g hg.1)⟩⟩
theorem wkept_grown {w w' : World} {row : Option Nat} (h : w.grownBy w' row) : Wire.Kept (fun b => row = some b) w w' := ⟨h.os, h.tape, h.output, h.size, fun b hb hn => h.block b hb (fun e => hn e.symm)⟩
theorem wkept_below {w w' : World} (h : Below w.heap.size w w') : Wire.Kept (fun _ => False) w w' := ⟨h.os, h.tape, h.output, h.size, fun k hk _ => h.block k hk⟩
theorem wkept_alloc (w : World) (o : Obj) : Wire.Kept (fun _ => False) w (w.alloc o) := wkept_below ((Below.refl _ _).alloc (Nat.le_refl _) _)
end Go.Proofs.YtfjppbpicmniaaaGreatDoor

namespace Go.Proofs.YtfjppbpicmniaaaGreatDoor
open Go.RowKit

theorem keep_of {S : Nat → Prop} {w w' : World} (h : Wire.Kept S w w') : Kept S w w' := ⟨h.os, h.tape, h.output, h.size, h.block⟩
/-- A Writer at b that has written l; its blocks are none of D. -/
def WB (D : Nat → Prop) (w : World) (b : Nat) (l : List Nat) : Prop := ∃ g, Wire.WIs w b g l ∧ ¬ D b ∧ ¬ D g
def WP (D : Nat → Prop) (w : World) (b : Nat) (l : List Nat) (e : Ending) (w' : World) : Prop := e = .returned (.tuple #[]) ∧ WB D w' b l ∧ Kept (fun k => ¬ D k) w w'
theorem WB.of {D : Nat → Prop} {w w' : World} {b g g' : Nat} {l : List Nat} (hD : ∀ k, D k → k < w.heap.size) (hb : ¬ D b) (hg : ¬ D g) (h : Wire.WIs w' b g' l) (hg' : g' = g ∨ w.heap.size ≤ g') (hk : Wire.Kept (fun k => k = b ∨ k = g) w w') : WP D w b l (.returned (.tuple #[])) w' := by
  refine ⟨rfl, ⟨g', h, hb, fun hd => ?_⟩, (keep_of hk).mono (fun x _ hx => ?_)⟩
  · rcases hg' with rfl | hg'
    · exact hg hd
    · have := hD g' hd
      omega
  · rcases hx with rfl | rfl
    · exact hb
    · exact hg
theorem wText7 (D : Nat → Prop) (x : List UInt8) (b : Nat) (l : List Nat) (w : World) (hD : ∀ k, D k → k < w.heap.size) (hl : l.length + x.length + 10 ≤ 140737488355328) (hw : WB D w b l) :
    Calls Tryz.prog 92 #[.pointer (some ⟨b, 0, none⟩), .string (str x)] w (WP D w b (l ++ txtB x)) := by
  obtain ⟨g, h, hb, hg⟩ := hw
  refine (Wire.wtext (str x) b g l w (by rw [str_size]; exact hl) h).mono ?_
  rintro e w' ⟨rfl, g', h1, h2, h3⟩
  rw [str_size, str_data, List.append_assoc] at h1
  exact WB.of hD hb hg h1 h2 h3
theorem wNum7 (D : Nat → Prop) (n : Nat) (b : Nat) (l : List Nat) (w : World) (hD : ∀ k, D k → k < w.heap.size) (hn : n < 18446744073709551616) (hl : l.length + 10 ≤ 140737488355328) (hw : WB D w b l) :
    Calls Tryz.prog 144 #[.pointer (some ⟨b, 0, none⟩), .int .u64 n] w (WP D w b (l ++ Wire.enc n)) := by
  obtain ⟨g, h, hb, hg⟩ := hw
  refine (Wire.wnumber n b g l w hn hl h).mono ?_
  rintro e w' ⟨rfl, g', h1, h2, h3⟩
  exact WB.of hD hb hg h1 h2 h3
/-- One block more stays. -/
def Dx (D : Nat → Prop) (d k : Nat) : Prop := D k ∨ k = d
theorem WB.new {D : Nat → Prop} {w : World} {b : Nat} {l : List Nat} (h : WB D w b l) (o : Obj) : WB (Dx D w.heap.size) (w.alloc o) b l := by
  obtain ⟨g, h1, hb, hg⟩ := h
  have l1 := h1.lt
  have l2 := h1.gt
  exact ⟨g, h1.kept ((Wire.Kept.refl (fun _ => False) w).alloc o) (fun h => h) (fun h => h), fun h => by rcases h with h | h; exact hb h; omega, fun h => by rcases h with h | h; exact hg h; omega⟩
theorem WB.less {D E : Nat → Prop} {w : World} {b : Nat} {l : List Nat} (h : WB D w b l) (hE : ∀ k, E k → D k) : WB E w b l := by
  obtain ⟨g, h1, hb, hg⟩ := h
  exact ⟨g, h1, fun h => hb (hE _ h), fun h => hg (hE _ h)⟩
theorem Dx.lt {D : Nat → Prop} {w : World} (hD : ∀ k, D k → k < w.heap.size) (o : Obj) : ∀ k, Dx D w.heap.size k → k < (w.alloc o).heap.size := by
  intro k hk
  simp
  rcases hk with h | h
  · have := hD k h
    omega
  · omega
theorem Dx.kept {D : Nat → Prop} {w w' : World} {o : Obj} (h : Kept (fun k => ¬ Dx D w.heap.size k) (w.alloc o) w') (hD : ∀ k, D k → k < w.heap.size) : Kept (fun k => ¬ D k) w w' := by
  refine ⟨h.os, h.tape, h.output, by have := h.size; simp at this; omega, fun k hk hn => ?_⟩
  have hd : D k := Classical.not_not.1 hn
  rw [h.block k (by simp; omega) (fun hh => hh (.inl hd)), Below.heap_alloc _ _ _ (hD k hd)]
theorem keep_trans {D : Nat → Prop} {a b c : World} (h : Kept (fun k => ¬ D k) a b) (k : Kept (fun k => ¬ D k) b c) : Kept (fun k => ¬ D k) a c := h.trans k (fun _ _ h => h) (fun _ _ h => h)
theorem keep_blk {D : Nat → Prop} {w w' : World} (h : Kept (fun k => ¬ D k) w w') {d : Nat} (hd : D d) (hl : d < w.heap.size) : w'.heap[d]? = w.heap[d]? := h.block d hl (fun hn => hn hd)
theorem TxR.keep {F D : Nat → Prop} {w w' : World} {v : Value} {xs : List (List UInt8)} (h : TxR F w v xs) (k : Kept (fun k => ¬ D k) w w') (hF : ∀ g, F g → D g) (hD : ∀ g, D g → g < w.heap.size) : TxR F w' v xs := h.frame fun g hg => ⟨hg, keep_blk k (hF g hg) (hD g (hF g hg))⟩
theorem CsR.keep {F D : Nat → Prop} {w w' : World} {v : Value} {xs : List Cs} (h : CsR F w v xs) (k : Kept (fun k => ¬ D k) w w') (hF : ∀ g, F g → D g) (hD : ∀ g, D g → g < w.heap.size) : CsR F w' v xs := h.frame fun g hg => ⟨hg, keep_blk k (hF g hg) (hD g (hF g hg))⟩
theorem ItR.keep {F D : Nat → Prop} {w w' : World} {v : Value} {xs : List It} (h : ItR F w v xs) (k : Kept (fun k => ¬ D k) w w') (hF : ∀ g, F g → D g) (hD : ∀ g, D g → g < w.heap.size) : ItR F w' v xs := h.frame fun g hg => ⟨hg, keep_blk k (hF g hg) (hD g (hF g hg))⟩
theorem keep_lt {D : Nat → Prop} {w w' : World} (k : Kept (fun k => ¬ D k) w w') (hD : ∀ g, D g → g < w.heap.size) : ∀ g, D g → g < w'.heap.size := fun g hg => Nat.lt_of_lt_of_le (hD g hg) k.size
theorem box2 {w : World} {d : Nat} {x0 x1 : Value} {T : Nat} (h : w.heap[d]? = some (.cells #[x0, x1] T (0, 0))) : w.cell? ⟨d, 0, none⟩ = some x0 ∧ w.cell? ⟨d, 1, none⟩ = some x1 := ⟨by rw [cell_of_row w d 0 _ _ _ h]; rfl, by rw [cell_of_row w d 1 _ _ _ h]; rfl⟩
theorem box4 {w : World} {d : Nat} {x0 x1 x2 x3 : Value} {T : Nat} (h : w.heap[d]? = some (.cells #[x0, x1, x2, x3] T (0, 0))) : w.cell? ⟨d, 0, none⟩ = some x0 ∧ w.cell? ⟨d, 1, none⟩ = some x1 ∧ w.cell? ⟨d, 2, none⟩ = some x2 ∧ w.cell? ⟨d, 3, none⟩ = some x3 := ⟨by rw [cell_of_row w d 0 _ _ _ h]; rfl, by rw [cell_of_row w d 1 _ _ _ h]; rfl, by rw [cell_of_row w d 2 _ _ _ h]; rfl, by rw [cell_of_row w d 3 _ _ _ h]; rfl⟩
theorem u64_small (n : Nat) (h : n < 18446744073709551616) : IntKind.u64.wrap (n : Int) = (n : Int) := by rw [IntKind.wrap_u64]; omega
end Go.Proofs.YtfjppbpicmniaaaGreatDoor

namespace Go.Proofs.YtfjppbpicmniaaaGreatDoor
open Go.RowKit

theorem own_w {S : Nat → Prop} {w w' : World} {B e sz n : Nat} {v : Value} {xs : List Value} (h : w.ownsRow B e sz v n xs) (k : Wire.Kept S w w') (hS : ∀ b, B ≤ b → ¬ S b) : w'.ownsRow B e sz v n xs := by
  refine ⟨h.1, ?_⟩
  rcases h.2 with hn | ⟨g, cap, cur, rfl, h2, h3, h4⟩
  · exact .inl hn
  · exact .inr ⟨g, cap, cur, rfl, h2, (k.block g (Array.getElem?_eq_some_iff.1 h3).1 (hS g h2)).trans h3, h4⟩
theorem wk_grown {w w' : World} {row : Option Nat} (h : w.grownBy w' row) : Wire.Kept (fun b => row = some b) w w' := ⟨h.os, h.tape, h.output, h.size, fun b hb hn => h.block b hb (fun e => hn e.symm)⟩
theorem wk_below {w w' : World} (h : Below w.heap.size w w') : Wire.Kept (fun _ => False) w w' := ⟨h.os, h.tape, h.output, h.size, fun k hk _ => h.block k hk⟩
theorem wk_alloc (w : World) (o : Obj) : Wire.Kept (fun _ => False) w (w.alloc o) := wk_below ((Below.refl _ _).alloc (Nat.le_refl _) _)
theorem wk_setRow (w : World) (g : Nat) (cs : Array Value) : Wire.Kept (fun k => k = g) w (w.setRow g cs) := by
  refine ⟨rfl, rfl, rfl, by simp [World.setRow], fun k hk hn => ?_⟩
  simp only [World.setRow]
  rw [Array.getElem?_modify, if_neg (fun e => hn e.symm)]
theorem RowG.wk {α : Type} {C : Cel α} {ty sz B : Nat} (hC : CelOk sz C) {S : Nat → Prop} {w w' : World} {v : Value} {xs : List α} (h : RowG C ty sz B w v xs) (k : Wire.Kept S w w') (hS : ∀ b, B ≤ b → ¬ S b) : RowG C ty sz B w' v xs := h.kept hC (keep_of k) hS

def rdv (b : Nat) : Value := .agg #[.pointer (some ⟨b, 0, none⟩)]
def cTx (_ : Nat → Prop) (_ : World) (x : List UInt8) (cs : List Value) : Prop := cs = [.string (str x)]
def cCs (F : Nat → Prop) (w : World) (x : Cs) (cs : List Value) : Prop := ∃ fv, cs = [.string (str x.1), fv] ∧ TxR F w fv x.2
def cIt (F : Nat → Prop) (w : World) (x : It) (cs : List Value) : Prop := ∃ cv, cs = [.int .i64 x.kind, .string (str x.name), .string (str x.ty), cv] ∧ CsR F w cv x.cases
theorem txr_one {F : Nat → Prop} {w : World} {v : Value} {xs : List (List UInt8)} (h : TxR F w v xs) : v.oneCell' = true := by
  obtain ⟨a, c, rfl⟩ := h.shape
  rfl
theorem csr_one {F : Nat → Prop} {w : World} {v : Value} {xs : List Cs} (h : CsR F w v xs) : v.oneCell' = true := by
  obtain ⟨a, c, rfl⟩ := h.shape
  rfl
theorem byr_one {F : Nat → Prop} {w : World} {v : Value} {xs : List UInt8} (h : ByR F w v xs) : v.oneCell' = true := by
  obtain ⟨a, c, rfl⟩ := h.shape
  rfl
theorem cTxK : CelOk 1 cTx := ⟨fun _ h => h, fun h => by rw [h]; rfl, fun h u hu => by rw [h] at hu; simp at hu; subst hu; rfl⟩
theorem cCsK : CelOk 2 cCs := by
  refine ⟨fun hF h => ?_, fun h => ?_, fun h u hu => ?_⟩
  · obtain ⟨fv, h1, h2⟩ := h
    exact ⟨fv, h1, h2.frame hF⟩
  · obtain ⟨fv, rfl, h2⟩ := h
    rfl
  · obtain ⟨fv, rfl, h2⟩ := h
    simp only [List.mem_cons, List.not_mem_nil, or_false] at hu
    rcases hu with rfl | rfl
    · rfl
    · exact txr_one h2
theorem cItK : CelOk 4 cIt := by
  refine ⟨fun hF h => ?_, fun h => ?_, fun h u hu => ?_⟩
  · obtain ⟨fv, h1, h2⟩ := h
    exact ⟨fv, h1, h2.frame hF⟩
  · obtain ⟨fv, rfl, h2⟩ := h
    rfl
  · obtain ⟨fv, rfl, h2⟩ := h
    simp only [List.mem_cons, List.not_mem_nil, or_false] at hu
    rcases hu with rfl | rfl | rfl | rfl
    · rfl
    · rfl
    · rfl
    · exact csr_one h2
theorem cGlK : CelOk 3 cGl := ⟨fun _ h => h, fun h => by rw [h]; rfl, fun h u hu => by
  rw [h] at hu
  simp only [List.mem_cons, List.not_mem_nil, or_false] at hu
  rcases hu with rfl | rfl | rfl <;> rfl⟩
theorem cRlK : CelOk 3 cRl := ⟨fun _ h => h, fun h => by rw [h]; rfl, fun h u hu => by
  rw [h] at hu
  simp only [List.mem_cons, List.not_mem_nil, or_false] at hu
  rcases hu with rfl | rfl | rfl <;> rfl⟩
theorem cSyK : CelOk 5 cSy := by
  refine ⟨fun hF h => ?_, fun h => ?_, fun h u hu => ?_⟩
  · exact cSy_stay _ _ _ _ _ _ hF h
  · obtain ⟨fv, rfl, h2⟩ := h
    rfl
  · obtain ⟨fv, rfl, h2⟩ := h
    simp only [List.mem_cons, List.not_mem_nil, or_false] at hu
    rcases hu with rfl | rfl | rfl | rfl | rfl
    · rfl
    · rfl
    · rfl
    · rfl
    · exact csr_one h2
theorem cFnK : CelOk 6 cFn := by
  refine ⟨fun hF h => ?_, fun h => ?_, fun h u hu => ?_⟩
  · exact cFn_stay _ _ _ _ _ _ hF h
  · obtain ⟨pv, kv, rfl, h2⟩ := h
    rfl
  · obtain ⟨pv, kv, rfl, h2, h3⟩ := h
    simp only [List.mem_cons, List.not_mem_nil, or_false] at hu
    rcases hu with rfl | rfl | rfl | rfl | rfl | rfl
    · rfl
    · exact txr_one h2.1
    · rfl
    · rfl
    · rfl
    · exact byr_one h3
theorem stayK {α : Type} {C : Cel α} {sz : Nat} (hC : CelOk sz C) : Stay C := fun _ _ _ _ _ _ hF h => hC.frame hF h
theorem RowG.rw {α : Type} {C : Cel α} {ty sz B : Nat} (hC : CelOk sz C) {w : World} {v : Value} {xs : List α} (h : RowG C ty sz B w v xs) : RwR sz C (fun g => B ≤ g ∧ g < w.heap.size) w v xs := by
  obtain ⟨ps, rfl, h2, h3⟩ := h
  rcases h2.2 with ⟨rfl, hn⟩ | ⟨g, cap, cur, rfl, hb, hg, hl, _⟩
  · exact .inl ⟨none, 0, rfl, List.eq_nil_of_length_eq_zero hn⟩
  · refine .inr ⟨g, 0, cap, rfl, hl, ⟨hb, (Array.getElem?_eq_some_iff.1 hg).1⟩, fun j x hj => ?_⟩
    rw [List.getElem?_map] at hj
    obtain ⟨p, hp, rfl⟩ := Option.map_eq_some_iff.1 hj
    obtain ⟨hjl, rfl⟩ := List.getElem?_eq_some_iff.1 hp
    have hlen : ∀ p ∈ ps, p.2.length = sz := fun p hp => hC.len (h3 p hp)
    refine ⟨ps[j].2, hC.frame (fun g' hg' => ⟨⟨hg'.1, hg'.2.1⟩, rfl⟩) (h3 _ (List.getElem_mem hjl)), fun i u hi => ?_⟩
    have hil : i < sz := by
      have := (List.getElem?_eq_some_iff.1 hi).1
      rwa [hlen _ (List.getElem_mem hjl)] at this
    have hm : j * sz + i < (ps.map (·.1)).length * sz := by
      have h5 : (j + 1) * sz ≤ ps.length * sz := Nat.mul_le_mul_right sz hjl
      rw [Nat.succ_mul] at h5
      simp only [List.length_map]
      omega
    rw [Nat.zero_add, h2.cellAt _ hm, flat_at ps hlen j hjl i hil]
    exact hi
theorem rw_txC {F : Nat → Prop} {w : World} {v : Value} {xs : List (List UInt8)} (h : RwR 1 cTx F w v xs) : TxC F w v xs := by
  rcases h with ⟨a, c, rfl, rfl⟩ | ⟨g, o, cap, rfl, h1, h2, h3⟩
  · exact ⟨.inl ⟨a, c, rfl, rfl⟩, by rintro a' n c' hh; simp only [Value.slice.injEq] at hh; omega⟩
  · refine ⟨.inr ⟨g, o, cap, rfl, h2, fun j x hj => ?_⟩, by rintro a' n c' hh; simp only [Value.slice.injEq] at hh; omega⟩
    obtain ⟨cs, hc, h5⟩ := h3 j x hj
    unfold cTx at hc
    subst hc
    have := h5 0 _ rfl
    simpa using this
theorem rw_cs {F : Nat → Prop} {w : World} {v : Value} {xs : List Cs} (h : RwR 2 cCs F w v xs) : CsR F w v xs := by
  rcases h with ⟨a, c, rfl, rfl⟩ | ⟨g, o, cap, rfl, h1, h2, h3⟩
  · exact .inl ⟨a, c, rfl, rfl⟩
  · refine .inr ⟨g, o, cap, rfl, h1, h2, fun j x hj => ?_⟩
    obtain ⟨cs, ⟨fv, rfl, hT⟩, h5⟩ := h3 j x hj
    exact ⟨fv, hT, h5 0 _ rfl, h5 1 _ rfl⟩
theorem rw_it {F : Nat → Prop} {w : World} {v : Value} {xs : List It} (h : RwR 4 cIt F w v xs) : ItR F w v xs := by
  rcases h with ⟨a, c, rfl, rfl⟩ | ⟨g, o, cap, rfl, h1, h2, h3⟩
  · exact .inl ⟨a, c, rfl, rfl⟩
  · refine .inr ⟨g, o, cap, rfl, h1, h2, fun j x hj => ?_⟩
    obtain ⟨cs, ⟨fv, rfl, hT⟩, h5⟩ := h3 j x hj
    exact ⟨fv, hT, h5 0 _ rfl, h5 1 _ rfl, h5 2 _ rfl, h5 3 _ rfl⟩

/-- What a reader of a struct leaves: its cells, what they hold being new. -/
def RdE {α : Type} (C : Cel α) (RES : α × Nat × Nat) (l : List Nat) (b g : Nat) (w : World) (e : Ending) (w' : World) : Prop :=
  ∃ cs, e = .returned (.agg cs.toArray) ∧ C (Fr w w') w' RES.1 cs ∧ Wire.RIs w' b g l RES.2.1 RES.2.2 ∧ Wire.Kept (fun x => x = b) w w'
/-- What a reader of a list leaves. -/
def RlE {α : Type} (sz : Nat) (C : Cel α) (RES : List α × Nat × Nat) (l : List Nat) (b g : Nat) (w : World) (e : Ending) (w' : World) : Prop :=
  ∃ v, e = .returned v ∧ RwR sz C (Fr w w') w' v RES.1 ∧ RES.1.length ≤ 65535 ∧ Wire.RIs w' b g l RES.2.1 RES.2.2 ∧ Wire.Kept (fun x => x = b) w w'
/-- What a reader of a number, of a text leaves. -/
def NuE (RES : Nat × Nat × Nat) (l : List Nat) (b g : Nat) (w : World) (e : Ending) (w' : World) : Prop := e = .returned (.int .i64 (RES.1 : Int)) ∧ Wire.RIs w' b g l RES.2.1 RES.2.2 ∧ Wire.Kept (fun k => k = b) w w'
def TeE (RES : List UInt8 × Nat × Nat) (l : List Nat) (b g : Nat) (w : World) (e : Ending) (w' : World) : Prop := e = .returned (.string (str RES.1)) ∧ Wire.RIs w' b g l RES.2.1 RES.2.2 ∧ Wire.Kept (fun k => k = b) w w'
/-- What a reader of bytes leaves. -/
def BrE (RES : List UInt8 × Nat × Nat) (l : List Nat) (b g : Nat) (w : World) (e : Ending) (w' : World) : Prop := ∃ v, e = .returned v ∧ ByR (Fr w w') w' v RES.1 ∧ Wire.RIs w' b g l RES.2.1 RES.2.2 ∧ Wire.Kept (fun k => k = b) w w'

theorem run_partO {P : Program} (w : World) (g j : Nat) (t ty : TypeId) (cur : Array Value) (cells : List Value) (hg : w.heap[g]? = some (.cells cur t (0, 0))) (hi : (P.info? ty).map (·.size) = some cells.length)
    (ho : j + cells.length ≤ cur.size) (h1 : cells.all (·.oneCell') = true) :
    (storeVar ty ⟨g, j, none⟩ (.agg cells.toArray)).run P w = .ok () (w.setRow g (cur.toList.take j ++ cells ++ cur.toList.drop (j + cells.length)).toArray) := by
  have := run_storeCells_at P g j t cells 0 cur w hg (by simpa using ho) (fun v hv => (List.all_eq_true.1 h1) v hv)
  rw [Nat.add_zero] at this
  cases hq : P.info? ty with
  | none => simp [hq] at hi
  | some i =>
    have hs : cells.length = i.size := by simp [hq] at hi; omega
    simp [storeVar, sizeOf, typeInfo, hq, Value.cells, hs] at this ⊢
    exact this
theorem setRow_sameO (w : World) (g : Nat) (cs old : Array Value) (e : TypeId) (fr : Nat × Nat) (h : w.heap[g]? = some (.cells old e fr)) : (w.setRow g cs).heap[g]? = some (.cells cs e fr) := by
  simp only [World.setRow]
  rw [Array.getElem?_modify, if_pos rfl, h]
  rfl
theorem setRow_keptO (w : World) (g : Nat) (cs : Array Value) : Kept (fun k => k = g) w (w.setRow g cs) :=
  ⟨rfl, rfl, rfl, by simp [World.setRow], fun k _ hn => by simp only [World.setRow]; rw [Array.getElem?_modify, if_neg (fun e => hn e.symm)]⟩
theorem wpList_partO {P : Program} {ops : Array Oper} {rest : List Oper} {o : Oper} {a : Act} {w : World} {Q : Exit → Act → World → Prop} (hgd : o.guard = none) (ty : TypeId) (x y : Operand) (ho : o.op = .store ty x y)
    (g j : Nat) (cells : List Value) (hx : a.eval x = .pointer (some ⟨g, j, none⟩)) (hy : a.eval y = .agg cells.toArray) (cur : Array Value) (T : Nat) (hA : w.heap[g]? = some (.cells cur T (0, 0))) (hl : j + cells.length ≤ cur.size)
    (hi : (P.info? ty).map (·.size) = some cells.length) (h1 : cells.all (·.oneCell') = true)
    (h : ∀ w', w'.heap[g]? = some (.cells (cur.toList.take j ++ cells ++ cur.toList.drop (j + cells.length)).toArray T (0, 0)) → Kept (fun b => b = g) w w' → wpList P ops Q rest (a.put o.dst undef) w') : wpList P ops Q (o :: rest) a w := by
  have hr := run_partO (P := P) w g j T ty _ cells hA hi hl h1
  refine wpList_plain hgd fun _ hK => ?_
  unfold Oper.wp execOp
  simp only [ho, hx, hy, Instr.storeAt, Instr.sureAddr, Sem.run_bind, Sem.run_pure, Result.andThen_ok, hr]
  exact hK _ _ (h _ (setRow_sameO _ _ _ _ _ _ hA) (setRow_keptO _ _ _))
/-- A struct's box (behind the receiver's and the answer's) is filled in: u is where it stands; S: where the boxes begin. -/
structure Fill (b g : Nat) (l : List Nat) (RT T : Nat) (Z : Array Value) (w u : World) (cs : Array Value) (p y : Nat) : Prop where
  rbox : u.heap[w.heap.size]? = some (.cells #[.pointer (some ⟨b, 0, none⟩)] RT (0, 0))
  res : u.heap[w.heap.size + 1]? = some (.cells Z T (0, 0))
  var : u.heap[w.heap.size + 1 + 1]? = some (.cells cs T (0, 0))
  rd : Wire.RIs u b g l p y
  kept : Wire.Kept (fun x => x = b) w u
  hb : b < w.heap.size
  hg : g < w.heap.size
  sz : w.heap.size + 3 ≤ u.heap.size
theorem Fill.start {b g : Nat} {l : List Nat} {p y : Nat} {w : World} (hr : Wire.RIs w b g l p y) (RT T : Nat) (Z : Array Value) :
    Fill b g l RT T Z w (((w.alloc (.cells #[.pointer (some ⟨b, 0, none⟩)] RT)).alloc (.cells Z T)).alloc (.cells Z T)) Z p y := by
  have k1 := wk_alloc w (.cells #[.pointer (some ⟨b, 0, none⟩)] RT)
  have n1 := World.alloc_heap_new w (.cells #[.pointer (some ⟨b, 0, none⟩)] RT)
  have z1 : (w.alloc (.cells #[.pointer (some ⟨b, 0, none⟩)] RT)).heap.size = w.heap.size + 1 := by simp
  have hb := hr.lt
  have hg := hr.gt
  have r1 := hr.kept k1 (fun h => h) (fun h => h)
  generalize w.alloc (.cells #[.pointer (some ⟨b, 0, none⟩)] RT) = w1 at *
  have k2 := wk_alloc w1 (.cells Z T)
  have n2 := World.alloc_heap_new w1 (.cells Z T)
  have z2 : (w1.alloc (.cells Z T)).heap.size = w.heap.size + 2 := by simp [z1]
  have r2 := r1.kept k2 (fun h => h) (fun h => h)
  have n12 := (Below.heap_alloc w1 (.cells Z T) w.heap.size (by omega)).trans n1
  rw [z1] at n2
  generalize w1.alloc (.cells Z T) = w2 at *
  have k3 := wk_alloc w2 (.cells Z T)
  have n3 := World.alloc_heap_new w2 (.cells Z T)
  have z3 : (w2.alloc (.cells Z T)).heap.size = w.heap.size + 3 := by simp [z2]
  have r3 := r2.kept k3 (fun h => h) (fun h => h)
  have n13 := (Below.heap_alloc w2 (.cells Z T) w.heap.size (by omega)).trans n12
  have n23 := (Below.heap_alloc w2 (.cells Z T) (w.heap.size + 1) (by omega)).trans n2
  rw [z2] at n3
  exact ⟨n13, n23, n3, r3, (k1.trans k2 (U := fun _ => False) (fun _ _ h => h) (fun _ _ h => h)).trans k3 (U := fun x => x = b) (fun _ _ h => h.elim) (fun _ _ h => h.elim), hb, hg, by omega⟩
theorem Fill.call {b g : Nat} {l : List Nat} {RT T : Nat} {Z cs : Array Value} {p y p' y' : Nat} {w u u' : World} (h : Fill b g l RT T Z w u cs p y) (k : Wire.Kept (fun x => x = b) u u') (hr : Wire.RIs u' b g l p' y') : Fill b g l RT T Z w u' cs p' y' := by
  have := h.sz
  have hb := h.hb
  have := k.size
  exact ⟨(k.block _ (by omega) (by omega)).trans h.rbox, (k.block _ (by omega) (by omega)).trans h.res, (k.block _ (by omega) (by omega)).trans h.var, hr, h.kept.trans k (fun _ _ h => h) (fun _ _ h => h), h.hb, h.hg, by omega⟩
theorem Fill.store {b g : Nat} {l : List Nat} {RT T : Nat} {Z cs : Array Value} {p y : Nat} {w u : World} (h : Fill b g l RT T Z w u cs p y) (i : Nat) (v : Value) : Fill b g l RT T Z w (u.setCell ⟨w.heap.size + 1 + 1, i, none⟩ v) (cs.setIfInBounds i v) p y := by
  have hs := h.sz
  have hb := h.hb
  have hg := h.hg
  have k := Wire.kept_set u (w.heap.size + 1 + 1) i v
  have hz := k.size
  exact ⟨(k.block _ (by omega) (by omega)).trans h.rbox, (k.block _ (by omega) (by omega)).trans h.res, heap_setCell_same u _ i _ _ v h.var, h.rd.kept k (by omega) (by omega), h.kept.trans k (fun _ _ h => h) (fun z hz h => by omega), h.hb, h.hg, by omega⟩
theorem Fill.cell {b g : Nat} {l : List Nat} {RT T : Nat} {Z cs : Array Value} {p y : Nat} {w u : World} (h : Fill b g l RT T Z w u cs p y) (i : Nat) : u.cell? ⟨w.heap.size + 1 + 1, i, none⟩ = cs[i]? := cell_of_row u _ i _ _ _ h.var
theorem Fill.frozen {b g : Nat} {l : List Nat} {RT T : Nat} {Z cs : Array Value} {p y : Nat} {w u : World} (h : Fill b g l RT T Z w u cs p y) (i : Nat) : u.frozen? ⟨w.heap.size + 1 + 1, i, none⟩ = false := frozen_of_row u _ i _ _ h.var
theorem Fill.ptr {b g : Nat} {l : List Nat} {RT T : Nat} {Z cs : Array Value} {p y : Nat} {w u : World} (h : Fill b g l RT T Z w u cs p y) : u.cell? ⟨w.heap.size, 0, none⟩ = some (.pointer (some ⟨b, 0, none⟩)) := by rw [cell_of_row u _ 0 _ _ _ h.rbox]; rfl
/-- What was read stays as it is. -/
theorem Fill.carryC {b g : Nat} {l : List Nat} {RT T : Nat} {Z cs : Array Value} {p y : Nat} {w u u' : World} (h : Fill b g l RT T Z w u cs p y) (k : Wire.Kept (fun x => x = b) u u') : ∀ z, (w.heap.size + 3 ≤ z ∧ z < u.heap.size) → (w.heap.size + 3 ≤ z ∧ z < u'.heap.size) ∧ u'.heap[z]? = u.heap[z]? := fun z hz => by
  have hb := h.hb
  have := k.size
  exact ⟨by omega, k.block z hz.2 (by omega)⟩
theorem Fill.carryS {b g : Nat} {l : List Nat} {RT T : Nat} {Z cs : Array Value} {p y : Nat} {w u : World} (_h : Fill b g l RT T Z w u cs p y) (i : Nat) (v : Value) : ∀ z, (w.heap.size + 3 ≤ z ∧ z < u.heap.size) → (w.heap.size + 3 ≤ z ∧ z < (u.setCell ⟨w.heap.size + 1 + 1, i, none⟩ v).heap.size) ∧ (u.setCell ⟨w.heap.size + 1 + 1, i, none⟩ v).heap[z]? = u.heap[z]? := fun z hz => by
  have k := Wire.kept_set u (w.heap.size + 1 + 1) i v
  have := k.size
  exact ⟨by omega, k.block z hz.2 (by omega)⟩
theorem Fill.take {b g : Nat} {l : List Nat} {RT T : Nat} {Z cs : Array Value} {p y : Nat} {w u u' : World} (h : Fill b g l RT T Z w u cs p y) : ∀ z, Fr u u' z → (w.heap.size + 3 ≤ z ∧ z < u'.heap.size) ∧ u'.heap[z]? = u'.heap[z]? := fun z hz => by
  have := h.sz
  exact ⟨⟨by have := hz.1; omega, hz.2⟩, rfl⟩
/-- The answer's box takes it all. -/
theorem Fill.done {b g : Nat} {l : List Nat} {RT T : Nat} {Z cs : Array Value} {p y : Nat} {w u : World} (h : Fill b g l RT T Z w u cs p y) (ds : Array Value) :
    Wire.RIs (u.setRow (w.heap.size + 1) ds) b g l p y ∧ Wire.Kept (fun x => x = b) w (u.setRow (w.heap.size + 1) ds) ∧ (∀ z, (w.heap.size + 3 ≤ z ∧ z < u.heap.size) → Fr w (u.setRow (w.heap.size + 1) ds) z ∧ (u.setRow (w.heap.size + 1) ds).heap[z]? = u.heap[z]?) := by
  have hs := h.sz
  have hb := h.hb
  have hg := h.hg
  have k := wk_setRow u (w.heap.size + 1) ds
  have := k.size
  exact ⟨h.rd.kept k (by omega) (by omega), h.kept.trans k (fun _ _ h => h) (fun z hz h => by omega), fun z hz => ⟨⟨by omega, by omega⟩, k.block z hz.2 (by omega)⟩⟩
theorem wk_of {S : Nat → Prop} {w w' : World} (h : Kept S w w') : Wire.Kept S w w' := ⟨h.os, h.tape, h.output, h.size, h.block⟩
theorem Fill.part {b g : Nat} {l : List Nat} {RT T : Nat} {Z cs ds : Array Value} {p y : Nat} {w u v : World} (h : Fill b g l RT T Z w u cs p y) (k : Kept (fun x => x = w.heap.size + 1 + 1) u v) (hv : v.heap[w.heap.size + 1 + 1]? = some (.cells ds T (0, 0))) : Fill b g l RT T Z w v ds p y := by
  have hs := h.sz
  have hb := h.hb
  have hg := h.hg
  have k := wk_of k
  have hz := k.size
  exact ⟨(k.block _ (by omega) (by omega)).trans h.rbox, (k.block _ (by omega) (by omega)).trans h.res, hv, h.rd.kept k (by omega) (by omega), h.kept.trans k (fun _ _ h => h) (fun z hz h => by omega), h.hb, h.hg, by omega⟩
theorem Fill.carryP {b g : Nat} {l : List Nat} {RT T : Nat} {Z cs : Array Value} {p y : Nat} {w u v : World} (_h : Fill b g l RT T Z w u cs p y) (k : Kept (fun x => x = w.heap.size + 1 + 1) u v) : ∀ z, (w.heap.size + 3 ≤ z ∧ z < u.heap.size) → (w.heap.size + 3 ≤ z ∧ z < v.heap.size) ∧ v.heap[z]? = u.heap[z]? := fun z hz => by
  have := k.size
  exact ⟨by omega, k.block z hz.2 (by omega)⟩
end Go.Proofs.YtfjppbpicmniaaaGreatDoor
