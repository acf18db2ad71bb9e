/-
  The document's own reading of one instruction: its steps as functions, and where it stands in memory.
-/
import Derived.Test.YtbhcmhbicbhgmaaCodeRef
namespace Go.Proofs.Ytbhcmhbicbhgmaa.Wire
open Go.RowKit

abbrev Tri : Type := Ins × Nat × Nat
def sN (l : List Nat) (op : Int) (s : Tri) : Tri := if op = 1 then fld l 110 s.1 s.2.1 s.2.2 else s
def sT (l : List Nat) (op : Int) (s : Tri) : Tri := if op = 2 then fld l 116 s.1 s.2.1 s.2.2 else s
def sA (l : List Nat) (op : Int) (s : Tri) : Tri := if asksA op = true then ({ s.1 with a := ((rB l s.2.1 s.2.2).1 : Nat) }, (rB l s.2.1 s.2.2).2) else s
def sB (l : List Nat) (op : Int) (s : Tri) : Tri := if op = 8 then fld l 98 s.1 s.2.1 s.2.2 else s
def sC (op : Int) (s : Tri) : Tri := if op = 10 then (s.1, s.2.1, fU s.2.2 (rcR 10 s.1.a)) else s
def sR (l : List Nat) (op : Int) (s : Tri) : Tri := if (takesR op).isSome = true then fld l 114 s.1 s.2.1 s.2.2 else s
def sG (l : List Nat) (op : Int) (s : Tri) : Tri := if op = 5 ∨ op = 6 ∨ op = 10 then fld l 103 s.1 s.2.1 s.2.2 else s
def i0 (p : Nat) (op : Int) : Ins := ⟨p, op, 0, 0, 0, 0, [], []⟩
theorem rc_other (op a : Int) (h : op ≠ 10) : rcR op a = true := by simp [rcR, h]
theorem rdI_is (l : List Nat) (p : Nat) (hp : p < l.length) (hop : isOp (l[p] : Nat) = true) : rdI l p = sG l (l[p] : Nat) (sR l (l[p] : Nat) (sC (l[p] : Nat) (sB l (l[p] : Nat) (sA l (l[p] : Nat) (sT l (l[p] : Nat) (sN l (l[p] : Nat) (i0 p (l[p] : Nat), p + 1, 0))))))) := by
  unfold rdI
  rw [rB_pos l p hp]
  simp only [hop]
  generalize ((l[p] : Nat) : Int) = op at *
  unfold i0
  rcases op_cases op with rfl | rfl | rfl | rfl | rfl | rfl | rfl | rfl | rfl | rfl | rfl | rfl | rfl | rfl | rfl | h
  · rfl
  · rfl
  · show fld l 97 _ _ _ = _; unfold fld; simp only [rc_other 3 _ (by decide)]; rfl
  · show fld l 97 _ _ _ = _; unfold fld; simp only [rc_other 4 _ (by decide)]; rfl
  · rfl
  · rfl
  · show fld l 97 _ _ _ = _; unfold fld; simp only [rc_other 7 _ (by decide)]; rfl
  · show fld l 98 (fld l 97 _ _ _).1 (fld l 97 _ _ _).2.1 (fld l 97 _ _ _).2.2 = _; unfold fld; simp only [rc_other 8 _ (by decide)]; rfl
  · show fld l 114 (fld l 97 _ _ _).1 (fld l 97 _ _ _).2.1 (fld l 97 _ _ _).2.2 = _; unfold fld; simp only [rc_other 9 _ (by decide)]; rfl
  · rfl
  · rfl
  · rfl
  · show fld l 114 (fld l 97 _ _ _).1 (fld l 97 _ _ _).2.1 (fld l 97 _ _ _).2.2 = _; unfold fld; simp only [rc_other 13 _ (by decide)]; rfl
  · show fld l 97 _ _ _ = _; unfold fld; simp only [rc_other 14 _ (by decide)]; rfl
  · rfl
  · rw [h] at hop; cases hop
theorem rdI_none (l : List Nat) (p : Nat) (hp : p < l.length) (hop : isOp (l[p] : Nat) = false) : (rdI l p).2.2 = 12 := by
  unfold rdI
  rw [rB_pos l p hp]
  simp only [hop, lay_none hop]
  rfl
def Stk (f : Tri → Tri) : Prop := ∀ s, s.2.2 ≠ 0 → (f s).2.2 = s.2.2
theorem rW_stick (l : List Nat) (bh : Int) : ∀ (n p y : Nat), y ≠ 0 → (rW l bh n p y).2.2 = y
  | 0, _, _, _ => rfl
  | n + 1, p, y, h => by
    have e : (rP l p y).2.2 = y := by unfold rP; rw [take_stick l p y 2 h]
    rw [way_step]
    show (rW l bh n (rP l p y).2.1 (rP l p y).2.2).2.2 = y
    rw [e]
    exact rW_stick l bh n _ y h
theorem fld_stick (l : List Nat) (c : Nat) (i : Ins) (p y : Nat) (h : y ≠ 0) : (fld l c i p y).2.2 = y := by
  unfold fld
  split
  · show (rN l p y).2.2 = y
    unfold rN
    rw [num_stick l _ p y h]
    simp only
    rw [num_stick l _ p y h]
    exact fU_stick h _
  · split
    · show (rT l p y).2.2 = y
      unfold rT
      rw [num_stick l _ p y h]
      simp only
      rw [take_stick l p y _ h]
    · split
      · show fU (rB l p y).2.2 _ = y
        have e : (rB l p y).2.2 = y := by unfold rB; rw [take_stick l p y 1 h]
        rw [e]
        exact fU_stick h _
      · split
        · show (rB l p y).2.2 = y
          unfold rB
          rw [take_stick l p y 1 h]
        · split
          · show fU (rP l p y).2.2 _ = y
            have e : (rP l p y).2.2 = y := by unfold rP; rw [take_stick l p y 2 h]
            rw [e]
            exact fU_stick h _
          · exact rW_stick l _ _ p y h
theorem stk_G (l : List Nat) (op : Int) : Stk (sG l op) := fun s h => by unfold sG; split <;> first | exact fld_stick l _ _ _ _ h | rfl
theorem stk_R (l : List Nat) (op : Int) : Stk (sR l op) := fun s h => by unfold sR; split <;> first | exact fld_stick l _ _ _ _ h | rfl
theorem stk_C (op : Int) : Stk (sC op) := fun s h => by unfold sC; split <;> first | exact fU_stick h _ | rfl
theorem stk_B (l : List Nat) (op : Int) : Stk (sB l op) := fun s h => by unfold sB; split <;> first | exact fld_stick l _ _ _ _ h | rfl
theorem stk_A (l : List Nat) (op : Int) : Stk (sA l op) := fun s h => by
  unfold sA
  split
  · show (rB l s.2.1 s.2.2).2.2 = s.2.2
    unfold rB
    rw [take_stick l _ _ 1 h]
  · rfl
theorem stk_T (l : List Nat) (op : Int) : Stk (sT l op) := fun s h => by unfold sT; split <;> first | exact fld_stick l _ _ _ _ h | rfl
theorem Stk.comp {f g : Tri → Tri} (hf : Stk f) (hg : Stk g) : Stk (fun s => f (g s)) := fun s h => by
  have := hg s h
  rw [hf (g s) (by rw [this]; exact h), this]
def sGR (l : List Nat) (op : Int) (s : Tri) : Tri := sG l op (sR l op s)
def sGC (l : List Nat) (op : Int) (s : Tri) : Tri := sGR l op (sC op s)
def sGB (l : List Nat) (op : Int) (s : Tri) : Tri := sGC l op (sB l op s)
def sGA (l : List Nat) (op : Int) (s : Tri) : Tri := sGB l op (sA l op s)
def sGT (l : List Nat) (op : Int) (s : Tri) : Tri := sGA l op (sT l op s)
theorem stk_GR (l : List Nat) (op : Int) : Stk (sGR l op) := Stk.comp (f := sG l op) (g := sR l op) (stk_G l op) (stk_R l op)
theorem stk_GC (l : List Nat) (op : Int) : Stk (sGC l op) := Stk.comp (f := sGR l op) (g := sC op) (stk_GR l op) (stk_C op)
theorem stk_GB (l : List Nat) (op : Int) : Stk (sGB l op) := Stk.comp (f := sGC l op) (g := sB l op) (stk_GC l op) (stk_B l op)
theorem stk_GA (l : List Nat) (op : Int) : Stk (sGA l op) := Stk.comp (f := sGB l op) (g := sA l op) (stk_GB l op) (stk_A l op)
theorem stk_GT (l : List Nat) (op : Int) : Stk (sGT l op) := Stk.comp (f := sGA l op) (g := sT l op) (stk_GA l op) (stk_T l op)
/-- Pairs that are read, whatever is added to them. -/
theorem rW_add (l : List Nat) (bh : Int) : ∀ (n p y : Nat), rW l bh n p y = ((rW l 0 n p y).1.map (bh + ·), (rW l 0 n p y).2)
  | 0, _, _ => rfl
  | n + 1, p, y => by
    rw [way_step, way_step, rW_add l bh n]
    simp
theorem rW_end (l : List Nat) (bh : Int) : ∀ (n p y : Nat), p ≤ l.length → (rW l bh n p y).2.2 = 0 → (rW l bh n p y).2.1 = p + 2 * n ∧ y = 0
  | 0, _, _, _, h => ⟨rfl, h⟩
  | n + 1, p, y, hp, h => by
    rw [way_step] at h ⊢
    have hs : (rP l p y).2.1 ≤ l.length := by
      show (rTake l p y 2).2.1 ≤ l.length
      unfold rTake
      split
      · exact hp
      · split
        · exact Nat.le_refl _
        · show p + (2 : Int).toNat ≤ l.length
          omega
    obtain ⟨h1, h2⟩ := rW_end l bh n _ _ hs h
    have h3 : (rP l p y).2.1 = p + 2 ∧ y = 0 := by
      have h4 : (rTake l p y 2).2.2 = 0 := h2
      show (rTake l p y 2).2.1 = p + 2 ∧ y = 0
      unfold rTake at h4 ⊢
      split at h4
      · rename_i h5
        rw [if_pos h5]
        exfalso
        rcases h5 with h5 | h5
        · exact h5 h4
        · omega
      · rename_i h5
        rw [if_neg h5]
        split at h4
        · cases h4
        · rename_i h6
          rw [if_neg h6]
          exact ⟨rfl, by omega⟩
    show (rW l bh n (rP l p y).2.1 (rP l p y).2.2).2.1 = _ ∧ _
    rw [h1, h3.1]
    exact ⟨by omega, h3.2⟩
theorem rW_len (l : List Nat) (bh : Int) : ∀ (n p y : Nat), (rW l bh n p y).1.length = n
  | 0, _, _ => rfl
  | n + 1, p, y => by
    rw [way_step]
    show (rW l bh n _ _).1.length + 1 = n + 1
    rw [rW_len l bh n]

/-- A block that holds an instruction of the document's. -/
def BxJ (w : World) (g : Nat) (i : Ins) (tv : Value) : Prop := w.heap[g]? = some (.cells (insC i tv) 57 (0, 0))
theorem BxJ.lt {w : World} {g : Nat} {i : Ins} {tv : Value} (h : BxJ w g i tv) : g < w.heap.size := (Array.getElem?_eq_some_iff.1 h).1
theorem BxJ.kept {S : Nat → Prop} {w w' : World} {g : Nat} {i : Ins} {tv : Value} (h : BxJ w g i tv) (k : Kept S w w') (hg : ¬ S g) : BxJ w' g i tv := (k.block g h.lt hg).trans h
theorem BxJ.cells {w : World} {g : Nat} {i : Ins} {tv : Value} (h : BxJ w g i tv) : w.cell? ⟨g, 0, none⟩ = some (.int .i64 i.pl) ∧ w.cell? ⟨g, 1, none⟩ = some (.int .i64 i.op) ∧ w.cell? ⟨g, 2, none⟩ = some (.int .i64 i.a) ∧ w.cell? ⟨g, 3, none⟩ = some (.int .i64 i.b) ∧ w.cell? ⟨g, 4, none⟩ = some (.complex .f64 (floatOfInt .f64 i.x) (floatOfInt .f64 i.y)) ∧ w.cell? ⟨g, 5, none⟩ = some (.string (toStr i.tx)) ∧ w.cell? ⟨g, 6, none⟩ = some tv := by
  refine ⟨?_, ?_, ?_, ?_, ?_, ?_, ?_⟩ <;> (rw [cell_of_row _ _ _ _ _ _ h]; rfl)
theorem BxJ.frozen {w : World} {g : Nat} {i : Ins} {tv : Value} (h : BxJ w g i tv) (j : Nat) : w.frozen? ⟨g, j, none⟩ = false := frozen_of_row w g j _ _ h
theorem BxJ.set {w : World} {g : Nat} {i : Ins} {tv : Value} (h : BxJ w g i tv) (j : Nat) (u : Value) (i' : Ins) (tv' : Value) (e : (insC i tv).setIfInBounds j u = insC i' tv') : BxJ (w.setCell ⟨g, j, none⟩ u) g i' tv' := by
  unfold BxJ at *
  rw [heap_setCell_same w g j _ _ _ h, e]
theorem sizeJns : (Try.prog.info? 57).map (·.size) = some 7 := by kernel_rfl
/-- Where the document's reading stands: the answer's block, the instruction's, the reader's; where it goes lies behind them. -/
structure MR (w w' : World) (b0 : Nat) (bv : Value) (l : List Nat) (i : Ins) (p1 y1 : Nat) (tv : Value) : Prop where
  hB : BxJ w' (w.heap.size + 1) i tv
  hA : BxJ w' w.heap.size zIns (.slice none 0 0)
  hT : RowG cInt 3 1 (w.heap.size + 3) w' tv i.tos
  hb0 : b0 < w.heap.size
  hq : QIs w' (w.heap.size + 2) b0 bv l p1 y1
  hz : w.heap.size + 3 ≤ w'.heap.size
  hk : Kept (fun _ => False) w w'
theorem MR.call {w w' w2 : World} {b0 : Nat} {bv : Value} {l : List Nat} {i : Ins} {p1 y1 p2 y2 : Nat} {tv : Value} (h : MR w w' b0 bv l i p1 y1 tv) (hq : QIs w2 (w.heap.size + 2) b0 bv l p2 y2) (k : Kept (fun k => k = w.heap.size + 2) w' w2) : MR w w2 b0 bv l i p2 y2 tv :=
  ⟨h.hB.kept k (by omega), h.hA.kept k (by omega), h.hT.kept cInt_ok k (fun x hx h => by omega), h.hb0, hq, Nat.le_trans h.hz k.size, h.hk.trans k (fun _ _ h => h) (fun x hx h => by omega)⟩
theorem MR.quiet {w w' w2 : World} {b0 : Nat} {bv : Value} {l : List Nat} {i : Ins} {p1 y1 : Nat} {tv : Value} (h : MR w w' b0 bv l i p1 y1 tv) (k : Kept (fun _ => False) w' w2) : MR w w2 b0 bv l i p1 y1 tv :=
  h.call (h.hq.kept k (fun h => h) (fun h => h.elim)) (k.mono fun _ _ h => h.elim)
theorem MR.set {w w' : World} {b0 : Nat} {bv : Value} {l : List Nat} {i : Ins} {p1 y1 : Nat} {tv : Value} (h : MR w w' b0 bv l i p1 y1 tv) (j : Nat) (u : Value) (i' : Ins) (e : (insC i tv).setIfInBounds j u = insC i' tv) (ht : i'.tos = i.tos) : MR w (w'.setCell ⟨w.heap.size + 1, j, none⟩ u) b0 bv l i' p1 y1 tv :=
  have k := kept_set w' (w.heap.size + 1) j u
  have h3 := h.hb0
  ⟨h.hB.set j u i' tv e, h.hA.kept k (by omega), by rw [ht]; exact h.hT.kept cInt_ok k (fun x hx h => by omega), h3, h.hq.kept k (by omega) (fun h => by omega), Nat.le_trans h.hz k.size, h.hk.setCell (p := ⟨w.heap.size + 1, j, none⟩) (fun h => by have h5 : w.heap.size + 1 < w.heap.size := h; omega) _⟩
/-- What One leaves. -/
def OneE (R : Tri) (w : World) (e : Ending) (w' : World) : Prop :=
  (R.2.2 = 0 ∧ (∃ tv, e = .returned (.tuple #[.agg (insC R.1 tv), .int .i64 (R.2.1 : Nat), .int .i64 0]) ∧ IwR (fun z => w.heap.size ≤ z ∧ z < w'.heap.size) w' tv R.1.tos) ∨ R.2.2 ≠ 0 ∧ e = .returned (.tuple #[.agg (insC zIns (.slice none 0 0)), .int .i64 0, .int .i64 (cw R.2.2 : Nat)])) ∧ Kept (fun _ => False) w w'
theorem res8 {P : Program} {fn : Func} {p u v : Tmp} {ty : TypeId} (h : fn.results = #[.cell p ty, .tmp u, .tmp v]) (tmps : Array Value) (w : World) (g : Nat) (t : TypeId) (cs : Array Value) (fr : Nat × Nat) (d : TypeDesc)
    (hp : tmps.getD p undef = .pointer (some ⟨g, 0, none⟩)) (hg : w.heap[g]? = some (.cells cs t fr))
    (hu : P.underlying ty = some d) (hd : (match d with | .struct _ | .array _ _ => true | _ => false) = true) (hi : (P.info? ty).map (·.size) = some cs.size) :
    (results fn tmps).run P w = .ok (.tuple #[.agg cs, tmps.getD u undef, tmps.getD v undef]) w := by
  have hp' : tmps[p]?.getD undef = .pointer (some ⟨g, 0, none⟩) := by simpa using hp
  simp [results, h, hp', asAddr, run_loadVar_row w g t ty cs fr d hg hu hd hi]
theorem rOf (a b : Int) (w : World) : Calls Try.prog 50 #[.int .i64 a, .int .i64 b] w fun e w' => e = .returned (.complex .f64 (floatOfInt .f64 a) (floatOfInt .f64 b)) ∧ w' = w := by
  go_enter Try.func50, Try.ntmps50
  go_wp2
  go_ret
  exact ⟨rfl, rfl⟩
/-- What is answered where it is refused. -/
theorem one_bad {R : Tri} {w w' : World} {b0 : Nat} {bv : Value} {l : List Nat} {i : Ins} {p1 y1 : Nat} {tv : Value} (h : MR w w' b0 bv l i p1 y1 tv) (y : Nat) (hy : R.2.2 ≠ 0) (hc : cw R.2.2 = y) (cs : Array Value) (hcs : cs = insC zIns (.slice none 0 0)) :
    OneE R w (.returned (.tuple #[.agg cs, .int .i64 0, .int .i64 (y : Int)])) (w'.setRow w.heap.size cs) := by
  subst hc
  subst hcs
  exact ⟨.inr ⟨hy, rfl⟩, h.hk.trans (kept_setRow w' w.heap.size _) (fun _ _ h => h) (fun x hx h => by omega)⟩
theorem rgt_not {a b : Int} (h : ¬ rgtI a b = true) : a < -1048576 ∨ (-1048576 ≤ a ∧ 1048576 < a) ∨ (-1048576 ≤ a ∧ a ≤ 1048576 ∧ b < -1048576) ∨ (-1048576 ≤ a ∧ a ≤ 1048576 ∧ -1048576 ≤ b ∧ 1048576 < b) := by
  unfold rgtI at h
  simp only [Bool.and_eq_true, decide_eq_true_eq] at h
  omega
theorem rgt_yes {a b : Int} (h : rgtI a b = true) : -1048576 ≤ a ∧ a ≤ 1048576 ∧ -1048576 ≤ b ∧ b ≤ 1048576 := by
  unfold rgtI at h
  simp only [Bool.and_eq_true, decide_eq_true_eq] at h
  omega
/-- What holds at each step. -/
structure PS (l : List Nat) (op : Int) (s : Tri) : Prop where
  hp : s.2.1 ≤ l.length
  hy : Yw s.2.2
  hop : s.1.op = op
  hto : s.1.tos = []
  ha0 : 0 ≤ s.1.a
  ha1 : s.1.a ≤ 255
theorem ps_0 (l : List Nat) (p op : Nat) (hp : p < l.length) : PS l op (i0 p op, p + 1, 0) := ⟨hp, .inl rfl, rfl, rfl, Int.le_refl _, by show (0 : Int) ≤ 255; decide⟩
theorem ps_N {l : List Nat} {op : Int} {s : Tri} (h : PS l op s) : PS l op (sN l op s) := by
  unfold sN
  split
  · have := fld_step l 110 s.1 s.2.1 s.2.2 h.hp h.hy
    exact ⟨this.1, this.2.1, h.hop, h.hto, h.ha0, h.ha1⟩
  · exact h
theorem ps_T {l : List Nat} {op : Int} {s : Tri} (h : PS l op s) : PS l op (sT l op s) := by
  unfold sT
  split
  · have := fld_step l 116 s.1 s.2.1 s.2.2 h.hp h.hy
    exact ⟨this.1, this.2.1, h.hop, h.hto, h.ha0, h.ha1⟩
  · exact h
theorem ps_A {l : List Nat} {op : Int} {s : Tri} (h256 : ∀ x ∈ l, x < 256) (h : PS l op s) : PS l op (sA l op s) := by
  unfold sA
  split
  · have := rB_step l s.2.1 s.2.2 h.hp h.hy
    have hb := rB_lt l s.2.1 s.2.2 h256
    exact ⟨this.1, this.2.1, h.hop, h.hto, by show (0 : Int) ≤ ((rB l s.2.1 s.2.2).1 : Nat); omega, by show (((rB l s.2.1 s.2.2).1 : Nat) : Int) ≤ 255; omega⟩
  · exact h
theorem ps_B {l : List Nat} {op : Int} {s : Tri} (h : PS l op s) : PS l op (sB l op s) := by
  unfold sB
  split
  · have := fld_step l 98 s.1 s.2.1 s.2.2 h.hp h.hy
    exact ⟨this.1, this.2.1, h.hop, h.hto, h.ha0, h.ha1⟩
  · exact h
theorem ps_C {l : List Nat} {op : Int} {s : Tri} (h : PS l op s) : PS l op (sC op s) := by
  unfold sC
  split
  · exact ⟨h.hp, fU_yw h.hy _, h.hop, h.hto, h.ha0, h.ha1⟩
  · exact h
theorem ps_R {l : List Nat} {op : Int} {s : Tri} (h : PS l op s) : PS l op (sR l op s) := by
  unfold sR
  split
  · have := fld_step l 114 s.1 s.2.1 s.2.2 h.hp h.hy
    exact ⟨this.1, this.2.1, h.hop, h.hto, h.ha0, h.ha1⟩
  · exact h
/-- Is the count of a Switch refused? -/
def bdC (op : Int) (s : Tri) : Bool := decide (op = 10) && decide (s.2.2 = 0) && !rcR 10 s.1.a
theorem bdC_yes {op : Int} {s : Tri} (h : bdC op s = true) : (sC op s).2.2 = 12 := by
  unfold bdC at h
  simp only [Bool.and_eq_true, decide_eq_true_eq, Bool.not_eq_true'] at h
  unfold sC
  rw [if_pos h.1.1]
  show fU s.2.2 (rcR 10 s.1.a) = 12
  rw [h.1.2, h.2]
  rfl
theorem bdC_no {op : Int} {s : Tri} (h : bdC op s = false) : sC op s = s := by
  unfold sC
  split
  · rename_i h1
    by_cases hy : s.2.2 = 0
    · have hr : rcR 10 s.1.a = true := by
        unfold bdC at h
        simp only [h1, hy, decide_true, Bool.true_and, Bool.not_eq_false'] at h
        exact h
      rw [hr]
      rfl
    · rw [fU_stick hy]
  · rfl
/-- A reference that is read, and whether it is refused. -/
def sR0 (l : List Nat) (op : Int) (s : Tri) : Tri := if (takesR op).isSome = true then (s.1, (rP l s.2.1 s.2.2).2) else s
def bdR (l : List Nat) (op : Int) (s : Tri) : Bool := (takesR op).isSome && decide ((rP l s.2.1 s.2.2).1 ≠ 0)
theorem rP_zero (l : List Nat) (p y : Nat) (h : (rP l p y).1 ≠ 0) : (rP l p y).2.2 = 0 := by
  rcases take_why2 l p y with ⟨h1, h2⟩ | ⟨_, h2⟩
  · exfalso
    apply h
    unfold rP
    rw [h1]
    rfl
  · exact h2
theorem bdR_yes {l : List Nat} {op : Int} {s : Tri} (h : bdR l op s = true) : (sR l op s).2.2 = 12 := by
  unfold bdR at h
  simp only [Bool.and_eq_true, decide_eq_true_eq] at h
  unfold sR
  rw [if_pos h.1]
  show fU (rP l s.2.1 s.2.2).2.2 (decide ((rP l s.2.1 s.2.2).1 = 0)) = 12
  rw [rP_zero l _ _ h.2, decide_eq_false h.2]
  rfl
theorem bdR_no {l : List Nat} {op : Int} {s : Tri} (h : bdR l op s = false) : sR l op s = sR0 l op s := by
  unfold sR sR0
  split
  · rename_i h1
    have h2 : (rP l s.2.1 s.2.2).1 = 0 := by
      unfold bdR at h
      simp only [h1, Bool.true_and, decide_eq_false_iff_not, ne_eq, Decidable.not_not] at h
      exact h
    show (s.1, (rP l s.2.1 s.2.2).2.1, fU (rP l s.2.1 s.2.2).2.2 (decide ((rP l s.2.1 s.2.2).1 = 0))) = _
    rw [decide_eq_true h2]
    rfl
  · rfl
theorem ways_le {l : List Nat} {op : Int} {s : Tri} (h : PS l op s) : 0 ≤ waysR op s.1.a ∧ waysR op s.1.a ≤ 255 := by
  have h1 := h.ha0
  have h2 := h.ha1
  unfold waysR
  split
  · exact ⟨by decide, by decide⟩
  · split
    · exact ⟨h1, h2⟩
    · exact ⟨by decide, by decide⟩
/-- Where it goes, by the pairs that are read. -/
theorem sG_eq {l : List Nat} {op : Int} {i : Ins} {p y m : Nat} (h : PS l op (i, p, y)) (hm : waysR op i.a = m) :
    sG l op (i, p, y) = ({ i with tos := (rW l 0 m p y).1.map (fun x => ((l.length - lf l p y : Nat) + 2 * (m : Int)) + x) }, (rW l 0 m p y).2) := by
  unfold sG
  have ho := h.hop
  have ht := h.hto
  simp only at ho ht
  split
  · show fld l 103 i p y = _
    unfold fld
    simp only [ho, hm, rW_add l ((l.length - lf l p y : Nat) + 2 * (m : Int))]
    rfl
  · rename_i hn
    have h0 : m = 0 := by
      unfold waysR at hm
      rw [if_neg (by omega), if_neg (by omega)] at hm
      omega
    subst h0
    show (i, p, y) = ({ i with tos := [] }, p, y)
    rw [← ht]
/-- All of them are read: where it ends. -/
theorem ways_end {l : List Nat} {p y m : Nat} (hp : p ≤ l.length) (h : (rW l 0 m p y).2.2 = 0) : (((l.length - lf l p y : Nat) : Int) + 2 * (m : Int)) = ((rW l 0 m p y).2.1 : Nat) := by
  obtain ⟨h1, h2⟩ := rW_end l 0 m p y hp h
  subst h2
  rw [h1, lf_zero l p hp]
  omega
theorem rowI_iff {B : Nat} {w : World} {v : Value} {xs : List Int} : RowG cInt 3 1 B w v xs ↔ w.ownsRow B 3 1 v xs.length (ics xs) := by
  constructor
  · rintro ⟨ps, rfl, h2, h3⟩
    have e : ps.flatMap (·.2) = ics (ps.map (·.1)) := by
      clear h2
      induction ps with
      | nil => rfl
      | cons q r ih =>
        have hq : q.2 = [.int .i64 q.1] := h3 q (by simp)
        rw [List.flatMap_cons, ih (fun p hp => h3 p (by simp [hp])), hq]
        rfl
    rw [e] at h2
    exact h2
  · intro h
    refine ⟨xs.map fun x => (x, [.int .i64 x]), by simp [Function.comp_def], ?_, fun p hp => ?_⟩
    · have e : (xs.map fun x => (x, [Value.int .i64 x])).flatMap (·.2) = ics xs := by
        clear h
        induction xs with
        | nil => rfl
        | cons q r ih =>
          rw [List.map_cons, List.flatMap_cons, ih]
          rfl
      rw [e]
      exact h
    · obtain ⟨x, _, rfl⟩ := List.mem_map.1 hp
      rfl
theorem rowI_set {B : Nat} {w : World} {g c : Nat} {xs : List Int} (h : RowG cInt 3 1 B w (.slice (some ⟨g, 0, none⟩) xs.length c) xs) (j : Nat) (x : Int) : RowG cInt 3 1 B (w.setCell ⟨g, j, none⟩ (.int .i64 x)) (.slice (some ⟨g, 0, none⟩) xs.length c) (xs.set j x) := by
  rw [rowI_iff] at h ⊢
  have h1 := (h.stored j (.int .i64 x)).1
  have e : (ics xs).set j (.int .i64 x) = ics (xs.set j x) := by simp [ics, List.map_set]
  rw [e] at h1
  simpa using h1
/-- One pair more. -/
theorem MR.push {w u w3 : World} {b0 : Nat} {bv : Value} {l : List Nat} {i : Ins} {p1 y1 : Nat} {tv tv' : Value} {x : Int} (M : MR w u b0 bv l i p1 y1 tv) (o : Obj) (hrow : RowG cInt 3 1 (w.heap.size + 3) w3 tv' (i.tos ++ [x])) (hg : (u.alloc o).grownBy w3 tv.ownBlock) :
    MR w (w3.setCell ⟨w.heap.size + 1, 6, none⟩ tv') b0 bv l { i with tos := i.tos ++ [x] } p1 y1 tv' ∧ w3.cell? ⟨w.heap.size + 1, 6, none⟩ = some tv ∧ w3.frozen? ⟨w.heap.size + 1, 6, none⟩ = false := by
  have K : Kept (fun z => tv.ownBlock = some z) u w3 := ((Kept.refl _ u).alloc o).grown hg (fun k e _ => e)
  have hown : ∀ z, tv.ownBlock = some z → w.heap.size + 3 ≤ z := fun z hz => (M.hT.block hz).1
  have h0 := M.hb0
  have hB3 := M.hB.kept K (fun h => by have := hown _ h; omega)
  have hA3 := M.hA.kept K (fun h => by have := hown _ h; omega)
  have hq3 := M.hq.kept K (fun h => by have := hown _ h; omega) (fun h => by have := hown _ h; omega)
  have hk3 := M.hk.trans K (fun _ _ h => h) (fun z hz h => by have := hown _ h; omega)
  have k := kept_set w3 (w.heap.size + 1) 6 tv'
  have hz := M.hz
  have hzz := K.size
  refine ⟨⟨hB3.set 6 tv' _ tv' rfl, hA3.kept k (by omega), hrow.kept cInt_ok k (fun z hz h => by omega), h0, hq3.kept k (by omega) (fun h => by omega), Nat.le_trans (by omega) k.size, hk3.setCell (p := ⟨w.heap.size + 1, 6, none⟩) (fun h => by have h5 : w.heap.size + 1 < w.heap.size := h; omega) _⟩, hB3.cells.2.2.2.2.2.2, hB3.frozen 6⟩
/-- A pair turned. -/
theorem MR.turn {w u : World} {b0 : Nat} {bv : Value} {l : List Nat} {i : Ins} {p1 y1 g c : Nat} (M : MR w u b0 bv l i p1 y1 (.slice (some ⟨g, 0, none⟩) i.tos.length c)) (j : Nat) (x : Int) :
    MR w (u.setCell ⟨g, j, none⟩ (.int .i64 x)) b0 bv l { i with tos := i.tos.set j x } p1 y1 (.slice (some ⟨g, 0, none⟩) i.tos.length c) := by
  have hg : w.heap.size + 3 ≤ g := (M.hT.block rfl).1
  have k := kept_set u g j (.int .i64 x)
  have h0 := M.hb0
  exact ⟨M.hB.kept k (by omega), M.hA.kept k (by omega), rowI_set M.hT j x, h0, M.hq.kept k (by omega) (fun h => by omega), Nat.le_trans M.hz k.size, M.hk.setCell (p := ⟨g, j, none⟩) (fun h => by have h5 : g < w.heap.size := h; omega) _⟩
theorem add_step (ds : List Int) (p j : Nat) (hj : j < ds.length) : ((ds.take j).map (fun x => x + (p : Int)) ++ ds.drop j).set j (ds[j] + (p : Int)) = (ds.take (j + 1)).map (fun x => x + (p : Int)) ++ ds.drop (j + 1) := by
  rw [List.set_append_right _ _ (by simp; omega), List.length_map, List.length_take, Nat.min_eq_left (by omega), Nat.sub_self, List.drop_eq_getElem_cons hj, List.set_cons_zero, List.take_succ_eq_append_getElem hj, List.map_append, List.append_assoc]
  rfl
theorem add_at_j (ds : List Int) (p j : Nat) (hj : j < ds.length) : ((ds.take j).map (fun x => x + (p : Int)) ++ ds.drop j)[j]? = some ds[j] := by
  rw [List.getElem?_append_right (by simp; omega), List.length_map, List.length_take, Nat.min_eq_left (by omega), Nat.sub_self, List.drop_eq_getElem_cons hj]
  rfl
end Go.Proofs.Ytbhcmhbicbhgmaa.Wire
