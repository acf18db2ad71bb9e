/-
  The document's own reader of modules: what a form is read with.
-/
import Derived.Test.YtcokihblicgbpaaRef6ExprsZ
namespace Go.Proofs.Ytcokihblicgbpaa
open Go.RowKit

theorem nine9 {w : World} {b : Nat} {z0 z1 z2 z3 z4 z5 z6 z7 z8 : Value} {e : TypeId} (h : w.heap[b]? = some (.cells #[z0, z1, z2, z3, z4, z5, z6, z7, z8] e (0, 0))) : (w.cell? ⟨b, 0, none⟩ = some z0 ∧ w.cell? ⟨b, 1, none⟩ = some z1 ∧ w.cell? ⟨b, 2, none⟩ = some z2 ∧ w.cell? ⟨b, 3, none⟩ = some z3 ∧ w.cell? ⟨b, 4, none⟩ = some z4 ∧ w.cell? ⟨b, 5, none⟩ = some z5 ∧ w.cell? ⟨b, 6, none⟩ = some z6 ∧ w.cell? ⟨b, 7, none⟩ = some z7 ∧ w.cell? ⟨b, 8, none⟩ = some z8) ∧ ∀ j, w.frozen? ⟨b, j, none⟩ = false :=
  ⟨⟨by rw [cell_of_row _ _ 0 _ _ _ h]; rfl, by rw [cell_of_row _ _ 1 _ _ _ h]; rfl, by rw [cell_of_row _ _ 2 _ _ _ h]; rfl, by rw [cell_of_row _ _ 3 _ _ _ h]; rfl, by rw [cell_of_row _ _ 4 _ _ _ h]; rfl, by rw [cell_of_row _ _ 5 _ _ _ h]; rfl, by rw [cell_of_row _ _ 6 _ _ _ h]; rfl, by rw [cell_of_row _ _ 7 _ _ _ h]; rfl, by rw [cell_of_row _ _ 8 _ _ _ h]; rfl⟩, fun j => frozen_of_row w b j _ _ h⟩
theorem sizeEx : (Try.prog.info? 27).map (·.size) = some 9 := by kernel_rfl
/-- Between the steps of a form: the tree's box, the expression's, the answer's; what is refused. -/
structure FS (rb : Nat) (m : List UInt8) (w : World) (H : Nat) (tc : Array Value) (st : Option (Nat × Nat)) (ec : Array Value) (u : World) : Prop where
  rq : RQ rb m st w u
  tb : u.heap[H]? = some (.cells tc 43 (0, 0))
  eb : u.heap[H + 1]? = some (.cells ec 27 (0, 0))
  rs : u.heap[H + 2]? = some (.cells #[.int .i64 0, .int .i64 0, .string ⟨#[]⟩, .complex .f64 0 0, .string ⟨#[]⟩, .string ⟨#[]⟩, .slice none 0 0, .slice none 0 0, .slice none 0 0] 27 (0, 0))
  lo : w.heap.size ≤ H
theorem FS.lt {rb : Nat} {m : List UInt8} {w : World} {H : Nat} {tc ec : Array Value} {st : Option (Nat × Nat)} {u : World} (h : FS rb m w H tc st ec u) : H + 2 < u.heap.size := (Array.getElem?_eq_some_iff.1 h.rs).1
theorem FS.call {rb : Nat} {m : List UInt8} {w : World} {H : Nat} {tc ec : Array Value} {st s2 : Option (Nat × Nat)} {u u' : World} (h : FS rb m w H tc st ec u) (hrb : rb < w.heap.size) (k : RQ rb m s2 u u') : FS rb m w H tc s2 ec u' := by
  have hl := h.lt
  have h0 := h.lo
  exact ⟨h.rq.trans k, (k.2.block _ (by omega) (by omega)).trans h.tb, (k.2.block _ (by omega) (by omega)).trans h.eb, (k.2.block _ (by omega) (by omega)).trans h.rs, h0⟩
theorem FS.more {rb : Nat} {m : List UInt8} {w : World} {H : Nat} {tc ec : Array Value} {st : Option (Nat × Nat)} {u u' : World} (h : FS rb m w H tc st ec u) (hrb : rb < w.heap.size) (k : Below u.heap.size u u') : FS rb m w H tc st ec u' := h.call hrb (RQ.of h.rq.1 k)
theorem FS.put {rb : Nat} {m : List UInt8} {w : World} {H : Nat} {tc ec : Array Value} {st : Option (Nat × Nat)} {u : World} (h : FS rb m w H tc st ec u) (hrb : rb < w.heap.size) (j : Nat) (v : Value) : FS rb m w H tc st (ec.setIfInBounds j v) (u.setCell ⟨H + 1, j, none⟩ v) := by
  have hl := h.lt
  have h0 := h.lo
  have hb : ∀ b, b ≠ H + 1 → (u.setCell ⟨H + 1, j, none⟩ v).heap[b]? = u.heap[b]? := fun b hb => Below.heap_setCell _ _ _ _ hb
  refine ⟨⟨⟨(hb rb (by omega)).trans h.rq.1.1, h.rq.1.2⟩, h.rq.2.setCell (fun hc => by simp only at hc; omega) _⟩, (hb _ (by omega)).trans h.tb, ?_, (hb _ (by omega)).trans h.rs, h0⟩
  simpa using heap_setCell_same u (H + 1) j _ _ v h.eb
theorem FS.start (rb : Nat) (m : List UInt8) (st : Option (Nat × Nat)) (w : World) (tc ec : Array Value) (h : RI w rb m st) : FS rb m w w.heap.size tc st ec (((w.alloc (.cells tc 43)).alloc (.cells ec 27)).alloc (.cells #[.int .i64 0, .int .i64 0, .string ⟨#[]⟩, .complex .f64 0 0, .string ⟨#[]⟩, .string ⟨#[]⟩, .slice none 0 0, .slice none 0 0, .slice none 0 0] 27)) := by
  have hb : Below w.heap.size w (((w.alloc (.cells tc 43)).alloc (.cells ec 27)).alloc (.cells #[.int .i64 0, .int .i64 0, .string ⟨#[]⟩, .complex .f64 0 0, .string ⟨#[]⟩, .string ⟨#[]⟩, .slice none 0 0, .slice none 0 0, .slice none 0 0] 27)) := (((Below.refl _ w).alloc (Nat.le_refl _) _).alloc (by simp) _).alloc (by simp; omega) _
  refine ⟨RQ.of h hb, ?_, ?_, ?_, Nat.le_refl _⟩
  · exact (Below.heap_alloc _ _ _ (by simp; omega)).trans ((Below.heap_alloc _ _ _ (by simp)).trans (heap_alloc_new w _))
  · refine (Below.heap_alloc _ _ _ (by simp)).trans ?_
    have := heap_alloc_new (w.alloc (.cells tc 43)) (.cells ec 27)
    simpa using this
  · have := heap_alloc_new ((w.alloc (.cells tc 43)).alloc (.cells ec 27)) (.cells #[.int .i64 0, .int .i64 0, .string ⟨#[]⟩, .complex .f64 0 0, .string ⟨#[]⟩, .string ⟨#[]⟩, .slice none 0 0, .slice none 0 0, .slice none 0 0] 27)
    simpa using this
/-- The answer is laid. -/
theorem FS.done {rb : Nat} {m : List UInt8} {w : World} {H : Nat} {tc ec : Array Value} {st : Option (Nat × Nat)} {u : World} (h : FS rb m w H tc st ec u) (hrb : rb < w.heap.size) : RQ rb m st w (u.setRow (H + 2) ec) ∧ (u.setRow (H + 2) ec).heap[H + 2]? = some (.cells ec 27 (0, 0)) ∧ (∀ b, b ≠ H + 2 → (u.setRow (H + 2) ec).heap[b]? = u.heap[b]?) ∧ (u.setRow (H + 2) ec).heap.size = u.heap.size := by
  have h0 := h.lo
  have hb : ∀ b, b ≠ H + 2 → (u.setRow (H + 2) ec).heap[b]? = u.heap[b]? := fun b hb => by
    simp only [World.setRow]
    rw [Array.getElem?_modify, if_neg (fun e => hb e.symm)]
  have hs : (u.setRow (H + 2) ec).heap.size = u.heap.size := by simp [World.setRow]
  refine ⟨⟨⟨(hb rb (by omega)).trans h.rq.1.1, h.rq.1.2⟩, h.rq.2.os, h.rq.2.tape, h.rq.2.output, by rw [hs]; exact h.rq.2.size, fun k hk hn => (hb k (by omega)).trans (h.rq.2.block k hk hn)⟩, ?_, hb, hs⟩
  simp only [World.setRow]
  rw [Array.getElem?_modify, if_pos rfl, h.rs]
  rfl
theorem res_cell1 {P : Program} {fn : Func} {p : Tmp} {ty : TypeId} (h : fn.results = #[.cell p ty]) (tmps : Array Value) (w : World) (g : Nat) (t : TypeId) (cs : Array Value) (fr : Nat × Nat) (d : TypeDesc)
    (hp : tmps.getD p undef = .pointer (some ⟨g, 0, none⟩)) (hg : w.heap[g]? = some (.cells cs t fr))
    (hu : P.underlying ty = some d) (hd : (match d with | .struct _ | .array _ _ => true | _ => false) = true) (hi : (P.info? ty).map (·.size) = some cs.size) :
    (results fn tmps).run P w = .ok (.agg cs) w := by
  have hp' : tmps[p]?.getD undef = .pointer (some ⟨g, 0, none⟩) := by simpa using hp
  simp [results, h, hp', asAddr, run_loadVar_row w g t ty cs fr d hg hu hd hi]
theorem exprP_head (m : List UInt8) (t : Tr) (h1 : t.kind = 1) (h2 : 0 < t.kids.length) (h3 : (kid t 0).kind = 3) : exprP m t = headP m t (kid t 0).text (t.kids.map (exprP m)) (t.kids.map (fun k => k.kids.map (exprP m))) := by
  rw [exprP_eq, formP, if_neg (by omega), if_neg (by omega), if_neg (by omega)]
theorem orR_bind1 {α β : Type} (st : Option (Nat × Nat)) (a : PR α) (f : α → β) : orR st (a.bind (fun x => .ok (f x)) : PR β) = orR st a := by
  cases st <;> cases a <;> rfl
theorem orR_bind3 {α β γ δ : Type} (a : PR α) (b : PR β) (c : PR γ) (f : α → β → γ → δ) : orR (orR (orR none a) b) c = orR none (a.bind (fun x => b.bind (fun y => c.bind (fun z => .ok (f x y z))))) := by
  cases a <;> cases b <;> cases c <;> rfl
theorem fl_zero6 : floatOfInt .f64 0 = 0 := by decide
/-- An answer of a form: without a number and without a text. -/
theorem exq_of {rb : Nat} {m : List UInt8} {r : PR Ex} {w w' : World} (t : Tr) (K : Nat) (nm ty : List UInt8) (kv pv av : Value) (hk : ∃ a n c, kv = .slice a n c) (hp : ∃ a n c, pv = .slice a n c) (ha : ∃ a n c, av = .slice a n c) (hq : RQ rb m (orR none r) w w')
    (hx : ∀ y, r = .ok y → ∃ ks ps ars bds, y = ⟨K, t.place, nm, 0, 0, [], ty, ks, ps, ars, bds⟩ ∧ XK (Fq w w') w' kv ks ∧ TxR2 (Fq w w') w' pv ps ∧ XA (Fq w w') w' av ars bds) :
    ExQ rb m r w (.returned (.agg #[.int .i64 (K : Int), .int .i64 (t.place : Int), .string (str nm), .complex .f64 0 0, .string ⟨#[]⟩, .string (str ty), kv, pv, av])) w' := by
  cases r with
  | ok y =>
    obtain ⟨ks, ps, ars, bds, rfl, h1, h2, h3⟩ := hx y rfl
    refine ⟨⟨K, t.place, nm, 0, 0, [], ty, ks, ps, ars, bds⟩, kv, pv, av, ?_, hk, hp, ha, hq, fun y hy => ?_⟩
    · unfold exv
      rw [fl_zero6]
      rfl
    · cases hy
      exact ⟨rfl, (XI_iff _ _ _ _ _ _).2 ⟨h1, h2, h3⟩⟩
  | error e =>
    refine ⟨⟨K, t.place, nm, 0, 0, [], ty, [], [], [], []⟩, kv, pv, av, ?_, hk, hp, ha, hq, fun y hy => by cases hy⟩
    unfold exv
    rw [fl_zero6]
    rfl
def FmAll (m : List UInt8) (t : Tr) : Prop := ∀ (F : Nat → Prop) (rb : Nat) (kv : Value) (w : World), RI w rb m none → TL F w kv t.kids → (∀ g, F g → g < w.heap.size ∧ g ≠ rb) → Calls Try.prog 53 #[.pointer (some ⟨rb, 0, none⟩), trv t kv, .agg #[.int .i64 0, .int .i64 (t.place : Int), .string ⟨#[]⟩, .complex .f64 0 0, .string ⟨#[]⟩, .string ⟨#[]⟩, .slice none 0 0, .slice none 0 0, .slice none 0 0]] w (ExQ rb m (exprP m t) w)
/-- What came after a form's boxes stands when its answer is laid. -/
theorem FS.keeps {rb : Nat} {m : List UInt8} {w : World} {H : Nat} {tc ec e2 : Array Value} {st : Option (Nat × Nat)} {u u1 : World} (_h : FS rb m w H tc st ec u1) {b : Nat} (hb : H + 3 ≤ b) (h1 : u1.heap[b]? = u.heap[b]?) : (u1.setRow (H + 2) e2).heap[b]? = u.heap[b]? := by
  refine Eq.trans ?_ h1
  simp only [World.setRow]
  rw [Array.getElem?_modify, if_neg (by omega)]
theorem seq_drop (m : List UInt8) (t : Tr) (n : Nat) : (t.kids.map (exprP m)).drop n = (t.kids.drop n).map (exprP m) := by rw [List.map_drop]
end Go.Proofs.Ytcokihblicgbpaa
