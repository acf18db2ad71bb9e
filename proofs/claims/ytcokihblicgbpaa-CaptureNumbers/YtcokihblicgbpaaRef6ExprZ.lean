/-
  The document's own reader of modules: an expression.
-/
import Derived.Deep.CutBlock
import Derived.Deep.CutRange
import Derived.Deep.DeepCutAuto
import Derived.Test.YtcokihblicgbpaaRef6FormBZ
import Derived.Test.YtcokihblicgbpaaNumAZ
namespace Go.Proofs.Ytcokihblicgbpaa
open Go.RowKit

/-- Between the steps of an expression: the tree's box, the answer's, the expression's; what is refused. -/
structure FE (rb : Nat) (m : List UInt8) (w : World) (H : Nat) (tc : Array Value) (st : Option (Nat × Nat)) (ec : Array Value) (u : World) : Prop where
  rq : RQ rb m st w u
  tb : u.heap[H]? = some (.cells tc 43 (0, 0))
  eb : u.heap[H + 2]? = some (.cells ec 27 (0, 0))
  rs : u.heap[H + 1]? = some (.cells #[.int .i64 0, .int .i64 0, .string ⟨#[]⟩, .complex .f64 0 0, .string ⟨#[]⟩, .string ⟨#[]⟩, .slice none 0 0, .slice none 0 0, .slice none 0 0] 27 (0, 0))
  lo : w.heap.size ≤ H
theorem FE.lt {rb : Nat} {m : List UInt8} {w : World} {H : Nat} {tc ec : Array Value} {st : Option (Nat × Nat)} {u : World} (h : FE rb m w H tc st ec u) : H + 2 < u.heap.size := (Array.getElem?_eq_some_iff.1 h.eb).1
theorem FE.call {rb : Nat} {m : List UInt8} {w : World} {H : Nat} {tc ec : Array Value} {st s2 : Option (Nat × Nat)} {u u' : World} (h : FE rb m w H tc st ec u) (hrb : rb < w.heap.size) (k : RQ rb m s2 u u') : FE rb m w H tc s2 ec u' := by
  have hl := h.lt
  have h0 := h.lo
  exact ⟨h.rq.trans k, (k.2.block _ (by omega) (by omega)).trans h.tb, (k.2.block _ (by omega) (by omega)).trans h.eb, (k.2.block _ (by omega) (by omega)).trans h.rs, h0⟩
theorem FE.more {rb : Nat} {m : List UInt8} {w : World} {H : Nat} {tc ec : Array Value} {st : Option (Nat × Nat)} {u u' : World} (h : FE rb m w H tc st ec u) (hrb : rb < w.heap.size) (k : Below u.heap.size u u') : FE rb m w H tc st ec u' := h.call hrb (RQ.of h.rq.1 k)
theorem FE.put {rb : Nat} {m : List UInt8} {w : World} {H : Nat} {tc ec : Array Value} {st : Option (Nat × Nat)} {u : World} (h : FE rb m w H tc st ec u) (hrb : rb < w.heap.size) (j : Nat) (v : Value) : FE rb m w H tc st (ec.setIfInBounds j v) (u.setCell ⟨H + 2, j, none⟩ v) := by
  have hl := h.lt
  have h0 := h.lo
  have hb : ∀ b, b ≠ H + 2 → (u.setCell ⟨H + 2, j, none⟩ v).heap[b]? = u.heap[b]? := fun b hb => Below.heap_setCell _ _ _ _ hb
  refine ⟨⟨⟨(hb rb (by omega)).trans h.rq.1.1, h.rq.1.2⟩, h.rq.2.setCell (fun hc => by simp only at hc; omega) _⟩, (hb _ (by omega)).trans h.tb, ?_, (hb _ (by omega)).trans h.rs, h0⟩
  simpa using heap_setCell_same u (H + 2) j _ _ v h.eb
theorem FE.start (rb : Nat) (m : List UInt8) (st : Option (Nat × Nat)) (w : World) (tc ec : Array Value) (h : RI w rb m st) : FE rb m w w.heap.size tc st ec (((w.alloc (.cells tc 43)).alloc (.cells #[.int .i64 0, .int .i64 0, .string ⟨#[]⟩, .complex .f64 0 0, .string ⟨#[]⟩, .string ⟨#[]⟩, .slice none 0 0, .slice none 0 0, .slice none 0 0] 27)).alloc (.cells ec 27)) := by
  have hb : Below w.heap.size w (((w.alloc (.cells tc 43)).alloc (.cells #[.int .i64 0, .int .i64 0, .string ⟨#[]⟩, .complex .f64 0 0, .string ⟨#[]⟩, .string ⟨#[]⟩, .slice none 0 0, .slice none 0 0, .slice none 0 0] 27)).alloc (.cells ec 27)) := (((Below.refl _ w).alloc (Nat.le_refl _) _).alloc (by simp) _).alloc (by simp; omega) _
  refine ⟨RQ.of h hb, ?_, ?_, ?_, Nat.le_refl _⟩
  · exact (Below.heap_alloc _ _ _ (by simp; omega)).trans ((Below.heap_alloc _ _ _ (by simp)).trans (heap_alloc_new w _))
  · have := heap_alloc_new ((w.alloc (.cells tc 43)).alloc (.cells #[.int .i64 0, .int .i64 0, .string ⟨#[]⟩, .complex .f64 0 0, .string ⟨#[]⟩, .string ⟨#[]⟩, .slice none 0 0, .slice none 0 0, .slice none 0 0] 27)) (.cells ec 27)
    simpa using this
  · refine (Below.heap_alloc _ _ _ (by simp)).trans ?_
    have := heap_alloc_new (w.alloc (.cells tc 43)) (.cells #[.int .i64 0, .int .i64 0, .string ⟨#[]⟩, .complex .f64 0 0, .string ⟨#[]⟩, .string ⟨#[]⟩, .slice none 0 0, .slice none 0 0, .slice none 0 0] 27)
    simpa using this
theorem FE.row {rb : Nat} {m : List UInt8} {w : World} {H : Nat} {tc ec : Array Value} {st : Option (Nat × Nat)} {u : World} (h : FE rb m w H tc st ec u) (hrb : rb < w.heap.size) (e2 : Array Value) : FE rb m w H tc st e2 (u.setRow (H + 2) e2) := by
  have h0 := h.lo
  have hb : ∀ b, b ≠ H + 2 → (u.setRow (H + 2) e2).heap[b]? = u.heap[b]? := fun b hb => by
    simp only [World.setRow]
    rw [Array.getElem?_modify, if_neg (fun e => hb e.symm)]
  have hs : (u.setRow (H + 2) e2).heap.size = u.heap.size := by simp [World.setRow]
  refine ⟨⟨⟨(hb rb (by omega)).trans h.rq.1.1, h.rq.1.2⟩, h.rq.2.os, h.rq.2.tape, h.rq.2.output, by rw [hs]; exact h.rq.2.size, fun k hk hn => (hb k (by omega)).trans (h.rq.2.block k hk hn)⟩, (hb _ (by omega)).trans h.tb, ?_, (hb _ (by omega)).trans h.rs, h0⟩
  simp only [World.setRow]
  rw [Array.getElem?_modify, if_pos rfl, h.eb]
  rfl
/-- Its answer is laid. -/
theorem FE.done {rb : Nat} {m : List UInt8} {w : World} {H : Nat} {tc ec : Array Value} {st : Option (Nat × Nat)} {u : World} (h : FE rb m w H tc st ec u) (hrb : rb < w.heap.size) : RQ rb m st w (u.setRow (H + 1) ec) ∧ (u.setRow (H + 1) ec).heap[H + 1]? = some (.cells ec 27 (0, 0)) ∧ (∀ b, b ≠ H + 1 → (u.setRow (H + 1) ec).heap[b]? = u.heap[b]?) ∧ (u.setRow (H + 1) ec).heap.size = u.heap.size := by
  have h0 := h.lo
  have hb : ∀ b, b ≠ H + 1 → (u.setRow (H + 1) ec).heap[b]? = u.heap[b]? := fun b hb => by
    simp only [World.setRow]
    rw [Array.getElem?_modify, if_neg (fun e => hb e.symm)]
  have hs : (u.setRow (H + 1) ec).heap.size = u.heap.size := by simp [World.setRow]
  refine ⟨⟨⟨(hb rb (by omega)).trans h.rq.1.1, h.rq.1.2⟩, h.rq.2.os, h.rq.2.tape, h.rq.2.output, by rw [hs]; exact h.rq.2.size, fun k hk hn => (hb k (by omega)).trans (h.rq.2.block k hk hn)⟩, ?_, hb, hs⟩
  simp only [World.setRow]
  rw [Array.getElem?_modify, if_pos rfl, h.rs]
  rfl
set_option maxHeartbeats 4000000 in
set_option maxRecDepth 1000000 in
theorem r6text (m : List UInt8) (t : Tr) (htx : TxOk t) (hk : t.kind = 4) : ExAll m t := by
  intro F rb kv w hRI hT hF
  have hlt := hRI.lt
  obtain ⟨ka, kc, rfl⟩ := hT.shape
  have hfz := FE.start rb m none w #[.int .i64 (t.kind : Int), .int .i64 (t.place : Int), .string (str t.text), .slice ka t.kids.length kc] #[.int .i64 0, .int .i64 0, .string ⟨#[]⟩, .complex .f64 0 0, .string ⟨#[]⟩, .string ⟨#[]⟩, .slice none 0 0, .slice none 0 0, .slice none 0 0] hRI
  have hze := hfz.eb
  have hf0 := hfz.row hlt #[.int .i64 0, .int .i64 (t.place : Int), .string ⟨#[]⟩, .complex .f64 0 0, .string ⟨#[]⟩, .string ⟨#[]⟩, .slice none 0 0, .slice none 0 0, .slice none 0 0]
  have htl := ((TxOk_iff _).1 htx).1
  have hadd : w.heap.size + 1 + 1 = w.heap.size + 2 := rfl
  unfold trv
  have HE : Hid (exprP m t = .ok ⟨2, t.place, [], 0, 0, t.text, [], [], [], [], []⟩) := by rw [hid_iff, exprP_eq, formP, if_pos hk]
  have k4 : ((t.kind : Int) == 4) = true := by rw [beq_iff_eq]; omega
  have hfa : FE rb m w w.heap.size #[.int .i64 (t.kind : Int), .int .i64 (t.place : Int), .string (str t.text), .slice ka t.kids.length kc] none #[.int .i64 2, .int .i64 (t.place : Int), .string ⟨#[]⟩, .complex .f64 0 0, .string ⟨#[]⟩, .string ⟨#[]⟩, .slice none 0 0, .slice none 0 0, .slice none 0 0] (((((w.alloc (.cells #[.int .i64 (t.kind : Int), .int .i64 (t.place : Int), .string (str t.text), .slice ka t.kids.length kc] 43)).alloc (.cells #[.int .i64 0, .int .i64 0, .string ⟨#[]⟩, .complex .f64 0 0, .string ⟨#[]⟩, .string ⟨#[]⟩, .slice none 0 0, .slice none 0 0, .slice none 0 0] 27)).alloc (.cells #[.int .i64 0, .int .i64 0, .string ⟨#[]⟩, .complex .f64 0 0, .string ⟨#[]⟩, .string ⟨#[]⟩, .slice none 0 0, .slice none 0 0, .slice none 0 0] 27)).setRow (w.heap.size + 2) #[.int .i64 0, .int .i64 (t.place : Int), .string ⟨#[]⟩, .complex .f64 0 0, .string ⟨#[]⟩, .string ⟨#[]⟩, .slice none 0 0, .slice none 0 0, .slice none 0 0]).setCell ⟨w.heap.size + 2, 0, none⟩ (.int .i64 2)) := hf0.put hlt 0 (.int .i64 2)
  have hf1 : FE rb m w w.heap.size #[.int .i64 (t.kind : Int), .int .i64 (t.place : Int), .string (str t.text), .slice ka t.kids.length kc] none #[.int .i64 2, .int .i64 (t.place : Int), .string ⟨#[]⟩, .complex .f64 0 0, .string (str t.text), .string ⟨#[]⟩, .slice none 0 0, .slice none 0 0, .slice none 0 0] ((((((w.alloc (.cells #[.int .i64 (t.kind : Int), .int .i64 (t.place : Int), .string (str t.text), .slice ka t.kids.length kc] 43)).alloc (.cells #[.int .i64 0, .int .i64 0, .string ⟨#[]⟩, .complex .f64 0 0, .string ⟨#[]⟩, .string ⟨#[]⟩, .slice none 0 0, .slice none 0 0, .slice none 0 0] 27)).alloc (.cells #[.int .i64 0, .int .i64 0, .string ⟨#[]⟩, .complex .f64 0 0, .string ⟨#[]⟩, .string ⟨#[]⟩, .slice none 0 0, .slice none 0 0, .slice none 0 0] 27)).setRow (w.heap.size + 2) #[.int .i64 0, .int .i64 (t.place : Int), .string ⟨#[]⟩, .complex .f64 0 0, .string ⟨#[]⟩, .string ⟨#[]⟩, .slice none 0 0, .slice none 0 0, .slice none 0 0]).setCell ⟨w.heap.size + 2, 0, none⟩ (.int .i64 2)).setCell ⟨w.heap.size + 2, 4, none⟩ (.string (str t.text))) := hfa.put hlt 4 (.string (str t.text))
  obtain ⟨t0, t1, t2, t3⟩ := tree_cells hf0.tb
  obtain ⟨⟨y0, y1, y2, y3, y4, y5, y6, y7, y8⟩, yf⟩ := nine9 hf0.eb
  clear hk
  go_enter Try.func36, Try.ntmps36
  go_upto_if 13 with (refine wpList_store_row rfl 27 (.tmp 5) (.tmp 10) rfl (w.heap.size + 2) #[.int .i64 0, .int .i64 (t.place : Int), .string ⟨#[]⟩, .complex .f64 0 0, .string ⟨#[]⟩, .string ⟨#[]⟩, .slice none 0 0, .slice none 0 0, .slice none 0 0] rfl rfl 27 #[.int .i64 0, .int .i64 0, .string ⟨#[]⟩, .complex .f64 0 0, .string ⟨#[]⟩, .string ⟨#[]⟩, .slice none 0 0, .slice none 0 0, .slice none 0 0] hze sizeEx rfl (by first | kernel_rfl | rfl | simp [Value.oneCell']) ?_)
  generalize ((((w.alloc (.cells #[.int .i64 (t.kind : Int), .int .i64 (t.place : Int), .string (str t.text), .slice ka t.kids.length kc] 43)).alloc (.cells #[.int .i64 0, .int .i64 0, .string ⟨#[]⟩, .complex .f64 0 0, .string ⟨#[]⟩, .string ⟨#[]⟩, .slice none 0 0, .slice none 0 0, .slice none 0 0] 27)).alloc (.cells #[.int .i64 0, .int .i64 0, .string ⟨#[]⟩, .complex .f64 0 0, .string ⟨#[]⟩, .string ⟨#[]⟩, .slice none 0 0, .slice none 0 0, .slice none 0 0] 27)).setRow (w.heap.size + 2) #[.int .i64 0, .int .i64 (t.place : Int), .string ⟨#[]⟩, .complex .f64 0 0, .string ⟨#[]⟩, .string ⟨#[]⟩, .slice none 0 0, .slice none 0 0, .slice none 0 0]) = u0 at *
  obtain ⟨⟨e0, e1, e2, e3, e4, e5, e6, e7, e8⟩, ef⟩ := nine9 hf1.eb
  obtain ⟨hd1, hd2, hd3, hd4⟩ := hf1.done hlt
  have hrs := hf1.rs
  go_wp2_with (refine wpList_store_row rfl 27 (.tmp 4) (.tmp 18) rfl (w.heap.size + 1) #[.int .i64 2, .int .i64 (t.place : Int), .string ⟨#[]⟩, .complex .f64 0 0, .string (str t.text), .string ⟨#[]⟩, .slice none 0 0, .slice none 0 0, .slice none 0 0] rfl rfl 27 #[.int .i64 0, .int .i64 0, .string ⟨#[]⟩, .complex .f64 0 0, .string ⟨#[]⟩, .string ⟨#[]⟩, .slice none 0 0, .slice none 0 0, .slice none 0 0] hrs sizeEx rfl (by first | kernel_rfl | rfl | simp [Value.oneCell']) ?_)
  (try simp only [Exit.inBlock, Exit.then])
  refine bodyPost_ret (res_cell1 rfl _ _ (w.heap.size + 1) 27 #[.int .i64 2, .int .i64 (t.place : Int), .string ⟨#[]⟩, .complex .f64 0 0, .string (str t.text), .string ⟨#[]⟩, .slice none 0 0, .slice none 0 0, .slice none 0 0] (0, 0) _ rfl hd2 Try.underlying27 rfl sizeEx) rfl ?_
  refine ⟨⟨2, t.place, [], 0, 0, t.text, [], [], [], [], []⟩, .slice none 0 0, .slice none 0 0, .slice none 0 0, ?_, ⟨_, _, _, rfl⟩, ⟨_, _, _, rfl⟩, ⟨_, _, _, rfl⟩, by rw [HE.out]; exact hd1, fun y hy => ?_⟩
  · unfold exv
    first | rfl | (rw [fl_zero6]; rfl)
  · rw [HE.out] at hy
    cases hy
    exact ⟨rfl, (XI_iff _ _ _ _ _ _).2 ⟨XK.nil _ _, TxR2.nil _ _, XA.nil _ _⟩⟩

set_option maxHeartbeats 4000000 in
set_option maxRecDepth 1000000 in
theorem r6word3 (m : List UInt8) (t : Tr) (htx : TxOk t) (hk : t.kind = 3) : ExAll m t := by
  intro F rb kv w hRI hT hF
  have hlt := hRI.lt
  obtain ⟨ka, kc, rfl⟩ := hT.shape
  have hfz := FE.start rb m none w #[.int .i64 (t.kind : Int), .int .i64 (t.place : Int), .string (str t.text), .slice ka t.kids.length kc] #[.int .i64 0, .int .i64 0, .string ⟨#[]⟩, .complex .f64 0 0, .string ⟨#[]⟩, .string ⟨#[]⟩, .slice none 0 0, .slice none 0 0, .slice none 0 0] hRI
  have hze := hfz.eb
  have hf0 := hfz.row hlt #[.int .i64 0, .int .i64 (t.place : Int), .string ⟨#[]⟩, .complex .f64 0 0, .string ⟨#[]⟩, .string ⟨#[]⟩, .slice none 0 0, .slice none 0 0, .slice none 0 0]
  have htl := ((TxOk_iff _).1 htx).1
  have hadd : w.heap.size + 1 + 1 = w.heap.size + 2 := rfl
  unfold trv
  have HP : exprP m t = (match numP t.text with
      | some (a, b) => .ok ⟨1, t.place, [], a, b, [], [], [], [], [], []⟩
      | none => if valueR t.text = true ∨ dotR false t.text = true then .ok (exK 3 t t.text []) else .error (12, t.place)) := by
    rw [exprP_eq, formP, if_neg (by omega), if_pos hk]
    rcases numP t.text with _ | ⟨a, b⟩ <;> rfl
  replace HP := hidden HP
  have k4 : ((t.kind : Int) == 4) = false := by rw [beq_eq_false_iff_ne]; omega
  have hat := r6atom t (.slice ka t.kids.length kc) ((((w.alloc (.cells #[.int .i64 (t.kind : Int), .int .i64 (t.place : Int), .string (str t.text), .slice ka t.kids.length kc] 43)).alloc (.cells #[.int .i64 0, .int .i64 0, .string ⟨#[]⟩, .complex .f64 0 0, .string ⟨#[]⟩, .string ⟨#[]⟩, .slice none 0 0, .slice none 0 0, .slice none 0 0] 27)).alloc (.cells #[.int .i64 0, .int .i64 0, .string ⟨#[]⟩, .complex .f64 0 0, .string ⟨#[]⟩, .string ⟨#[]⟩, .slice none 0 0, .slice none 0 0, .slice none 0 0] 27)).setRow (w.heap.size + 2) #[.int .i64 0, .int .i64 (t.place : Int), .string ⟨#[]⟩, .complex .f64 0 0, .string ⟨#[]⟩, .string ⟨#[]⟩, .slice none 0 0, .slice none 0 0, .slice none 0 0])
  rw [decide_eq_true hk] at hat
  unfold trv at hat
  obtain ⟨t0, t1, t2, t3⟩ := tree_cells hf0.tb
  clear hk
  go_enter Try.func36, Try.ntmps36
  go_wp2_with (refine wpList_store_row rfl 27 (.tmp 5) (.tmp 10) rfl (w.heap.size + 2) #[.int .i64 0, .int .i64 (t.place : Int), .string ⟨#[]⟩, .complex .f64 0 0, .string ⟨#[]⟩, .string ⟨#[]⟩, .slice none 0 0, .slice none 0 0, .slice none 0 0] rfl rfl 27 #[.int .i64 0, .int .i64 0, .string ⟨#[]⟩, .complex .f64 0 0, .string ⟨#[]⟩, .string ⟨#[]⟩, .slice none 0 0, .slice none 0 0, .slice none 0 0] hze sizeEx rfl (by first | kernel_rfl | rfl | simp [Value.oneCell']) ?_)
  generalize ((((w.alloc (.cells #[.int .i64 (t.kind : Int), .int .i64 (t.place : Int), .string (str t.text), .slice ka t.kids.length kc] 43)).alloc (.cells #[.int .i64 0, .int .i64 0, .string ⟨#[]⟩, .complex .f64 0 0, .string ⟨#[]⟩, .string ⟨#[]⟩, .slice none 0 0, .slice none 0 0, .slice none 0 0] 27)).alloc (.cells #[.int .i64 0, .int .i64 0, .string ⟨#[]⟩, .complex .f64 0 0, .string ⟨#[]⟩, .string ⟨#[]⟩, .slice none 0 0, .slice none 0 0, .slice none 0 0] 27)).setRow (w.heap.size + 2) #[.int .i64 0, .int .i64 (t.place : Int), .string ⟨#[]⟩, .complex .f64 0 0, .string ⟨#[]⟩, .string ⟨#[]⟩, .slice none 0 0, .slice none 0 0, .slice none 0 0]) = u0 at *
  refine hat.mono ?_
  rintro e w1 ⟨rfl, hb⟩
  have hf1 := hf0.more hlt hb
  have hpr := Num.rparse (str t.text) (by rw [str_size]; omega) w1
  have e1 : Num.parseW Num.numB (str t.text) = nParse nNum (str t.text) := rfl
  rw [e1] at hpr
  have HN : Hid (numP t.text = if (nParse nNum (str t.text)).2.2 = true then some ((nParse nNum (str t.text)).1, (nParse nNum (str t.text)).2.1) else none) := rfl
  generalize nParse nNum (str t.text) = r at *
  obtain ⟨a, b, ok⟩ := r
  unfold Num.ParseE at hpr
  simp only at hpr
  clear hat hb t0 t1 t2 t3 e1 hf0
  obtain ⟨t0, t1, t2, t3⟩ := tree_cells hf1.tb
  go_wp2_with fail
  refine hpr.mono ?_
  rintro e w2 ⟨rfl, n, rfl⟩
  have hf2 := hf1.more hlt (belowR (H := w1.heap.size) w1 n)
  clear hpr t0 t1 t2 t3 hf1
  obtain ⟨t0, t1, t2, t3⟩ := tree_cells hf2.tb
  obtain ⟨⟨y0, y1, y2, y3, y4, y5, y6, y7, y8⟩, yf⟩ := nine9 hf2.eb
  generalize w1.drewN n = w2 at *
  cases ok
  · have HQ : Hid (exprP m t = if valueR t.text = true ∨ dotR false t.text = true then .ok (exK 3 t t.text []) else .error (12, t.place)) := by rw [hid_iff, HP.out, HN.out]; rfl
    have hV := refValue (str t.text) w2 (by rw [str_size]; omega)
    rw [str_data] at hV
    have hD := r6dotted t.text false w2 htl
    clear HP HN
    go_wp2_with fail
    refine hV.mono ?_
    rintro e w3 ⟨rfl, rfl⟩
    clear hV
    cases hv : valueR t.text
    · go_wp2_with fail
      refine hD.mono ?_
      rintro e w4 ⟨rfl, hb⟩
      have hf3 := hf2.more hlt hb
      clear hD hb t0 t1 t2 t3 y0 y1 y2 y3 y4 y5 y6 y7 y8 yf hf2
      obtain ⟨t0, t1, t2, t3⟩ := tree_cells hf3.tb
      obtain ⟨⟨y0, y1, y2, y3, y4, y5, y6, y7, y8⟩, yf⟩ := nine9 hf3.eb
      cases hd : dotR false t.text
      · have HE : Hid (exprP m t = .error (12, t.place)) := by rw [hid_iff, HQ.out, if_neg (by rw [hv, hd]; simp)]
        have hr := r6refuse rb m none 12 t.place _ hf3.rq.1 (by decide)
        clear HQ hv hd
        go_wp2_with fail
        refine hr.mono ?_
        rintro e w5 ⟨rfl, hq⟩
        have hf4 := hf3.call hlt hq
        clear hr hq t0 t1 t2 t3 y0 y1 y2 y3 y4 y5 y6 y7 y8 yf
        obtain ⟨⟨e0, e1, e2, e3, e4, e5, e6, e7, e8⟩, ef⟩ := nine9 hf4.eb
        obtain ⟨hd1, hd2, hd3, hd4⟩ := hf4.done hlt
        have hrs := hf4.rs
        go_wp2_with (refine wpList_store_row rfl 27 (.tmp 4) (.tmp 49) rfl (w.heap.size + 1) #[.int .i64 0, .int .i64 (t.place : Int), .string ⟨#[]⟩, .complex .f64 0 0, .string ⟨#[]⟩, .string ⟨#[]⟩, .slice none 0 0, .slice none 0 0, .slice none 0 0] rfl rfl 27 #[.int .i64 0, .int .i64 0, .string ⟨#[]⟩, .complex .f64 0 0, .string ⟨#[]⟩, .string ⟨#[]⟩, .slice none 0 0, .slice none 0 0, .slice none 0 0] hrs sizeEx rfl (by first | kernel_rfl | rfl | simp [Value.oneCell']) ?_)
        (try simp only [Exit.inBlock, Exit.then])
        refine bodyPost_ret (res_cell1 rfl _ _ (w.heap.size + 1) 27 #[.int .i64 0, .int .i64 (t.place : Int), .string ⟨#[]⟩, .complex .f64 0 0, .string ⟨#[]⟩, .string ⟨#[]⟩, .slice none 0 0, .slice none 0 0, .slice none 0 0] (0, 0) _ rfl hd2 Try.underlying27 rfl sizeEx) rfl ?_
        have hE := HE.out
        exact exq_of t 0 [] [] _ _ _ ⟨_, _, _, rfl⟩ ⟨_, _, _, rfl⟩ ⟨_, _, _, rfl⟩ (by rw [hE]; exact hd1) (fun y hy => by rw [hE] at hy; cases hy)

      · have HE : Hid (exprP m t = .ok ⟨3, t.place, t.text, 0, 0, [], [], [], [], [], []⟩) := by rw [hid_iff, HQ.out, if_pos (.inr hd)]; rfl
        have hfa : FE rb m w w.heap.size #[.int .i64 (t.kind : Int), .int .i64 (t.place : Int), .string (str t.text), .slice ka t.kids.length kc] none #[.int .i64 3, .int .i64 (t.place : Int), .string ⟨#[]⟩, .complex .f64 0 0, .string ⟨#[]⟩, .string ⟨#[]⟩, .slice none 0 0, .slice none 0 0, .slice none 0 0] (w4.setCell ⟨w.heap.size + 2, 0, none⟩ (.int .i64 3)) := hf3.put hlt 0 (.int .i64 3)
        have hf4 : FE rb m w w.heap.size #[.int .i64 (t.kind : Int), .int .i64 (t.place : Int), .string (str t.text), .slice ka t.kids.length kc] none #[.int .i64 3, .int .i64 (t.place : Int), .string (str t.text), .complex .f64 0 0, .string ⟨#[]⟩, .string ⟨#[]⟩, .slice none 0 0, .slice none 0 0, .slice none 0 0] ((w4.setCell ⟨w.heap.size + 2, 0, none⟩ (.int .i64 3)).setCell ⟨w.heap.size + 2, 2, none⟩ (.string (str t.text))) := hfa.put hlt 2 (.string (str t.text))
        clear HQ hv hd
        obtain ⟨⟨e0, e1, e2, e3, e4, e5, e6, e7, e8⟩, ef⟩ := nine9 hf4.eb
        obtain ⟨hd1, hd2, hd3, hd4⟩ := hf4.done hlt
        have hrs := hf4.rs
        go_wp2_with (refine wpList_store_row rfl 27 (.tmp 4) (.tmp 49) rfl (w.heap.size + 1) #[.int .i64 3, .int .i64 (t.place : Int), .string (str t.text), .complex .f64 0 0, .string ⟨#[]⟩, .string ⟨#[]⟩, .slice none 0 0, .slice none 0 0, .slice none 0 0] rfl rfl 27 #[.int .i64 0, .int .i64 0, .string ⟨#[]⟩, .complex .f64 0 0, .string ⟨#[]⟩, .string ⟨#[]⟩, .slice none 0 0, .slice none 0 0, .slice none 0 0] hrs sizeEx rfl (by first | kernel_rfl | rfl | simp [Value.oneCell']) ?_)
        (try simp only [Exit.inBlock, Exit.then])
        refine bodyPost_ret (res_cell1 rfl _ _ (w.heap.size + 1) 27 #[.int .i64 3, .int .i64 (t.place : Int), .string (str t.text), .complex .f64 0 0, .string ⟨#[]⟩, .string ⟨#[]⟩, .slice none 0 0, .slice none 0 0, .slice none 0 0] (0, 0) _ rfl hd2 Try.underlying27 rfl sizeEx) rfl ?_
        refine ⟨⟨3, t.place, t.text, 0, 0, [], [], [], [], [], []⟩, .slice none 0 0, .slice none 0 0, .slice none 0 0, ?_, ⟨_, _, _, rfl⟩, ⟨_, _, _, rfl⟩, ⟨_, _, _, rfl⟩, by rw [HE.out]; exact hd1, fun y hy => ?_⟩
        · unfold exv
          first | rfl | (rw [fl_zero6]; rfl)
        · rw [HE.out] at hy
          cases hy
          exact ⟨rfl, (XI_iff _ _ _ _ _ _).2 ⟨XK.nil _ _, TxR2.nil _ _, XA.nil _ _⟩⟩

    · have HE : Hid (exprP m t = .ok ⟨3, t.place, t.text, 0, 0, [], [], [], [], [], []⟩) := by rw [hid_iff, HQ.out, if_pos (.inl hv)]; rfl
      have hfa : FE rb m w w.heap.size #[.int .i64 (t.kind : Int), .int .i64 (t.place : Int), .string (str t.text), .slice ka t.kids.length kc] none #[.int .i64 3, .int .i64 (t.place : Int), .string ⟨#[]⟩, .complex .f64 0 0, .string ⟨#[]⟩, .string ⟨#[]⟩, .slice none 0 0, .slice none 0 0, .slice none 0 0] (w3.setCell ⟨w.heap.size + 2, 0, none⟩ (.int .i64 3)) := hf2.put hlt 0 (.int .i64 3)
      have hf4 : FE rb m w w.heap.size #[.int .i64 (t.kind : Int), .int .i64 (t.place : Int), .string (str t.text), .slice ka t.kids.length kc] none #[.int .i64 3, .int .i64 (t.place : Int), .string (str t.text), .complex .f64 0 0, .string ⟨#[]⟩, .string ⟨#[]⟩, .slice none 0 0, .slice none 0 0, .slice none 0 0] ((w3.setCell ⟨w.heap.size + 2, 0, none⟩ (.int .i64 3)).setCell ⟨w.heap.size + 2, 2, none⟩ (.string (str t.text))) := hfa.put hlt 2 (.string (str t.text))
      clear HQ hv hD
      obtain ⟨⟨e0, e1, e2, e3, e4, e5, e6, e7, e8⟩, ef⟩ := nine9 hf4.eb
      obtain ⟨hd1, hd2, hd3, hd4⟩ := hf4.done hlt
      have hrs := hf4.rs
      go_wp2_with (refine wpList_store_row rfl 27 (.tmp 4) (.tmp 49) rfl (w.heap.size + 1) #[.int .i64 3, .int .i64 (t.place : Int), .string (str t.text), .complex .f64 0 0, .string ⟨#[]⟩, .string ⟨#[]⟩, .slice none 0 0, .slice none 0 0, .slice none 0 0] rfl rfl 27 #[.int .i64 0, .int .i64 0, .string ⟨#[]⟩, .complex .f64 0 0, .string ⟨#[]⟩, .string ⟨#[]⟩, .slice none 0 0, .slice none 0 0, .slice none 0 0] hrs sizeEx rfl (by first | kernel_rfl | rfl | simp [Value.oneCell']) ?_)
      (try simp only [Exit.inBlock, Exit.then])
      refine bodyPost_ret (res_cell1 rfl _ _ (w.heap.size + 1) 27 #[.int .i64 3, .int .i64 (t.place : Int), .string (str t.text), .complex .f64 0 0, .string ⟨#[]⟩, .string ⟨#[]⟩, .slice none 0 0, .slice none 0 0, .slice none 0 0] (0, 0) _ rfl hd2 Try.underlying27 rfl sizeEx) rfl ?_
      refine ⟨⟨3, t.place, t.text, 0, 0, [], [], [], [], [], []⟩, .slice none 0 0, .slice none 0 0, .slice none 0 0, ?_, ⟨_, _, _, rfl⟩, ⟨_, _, _, rfl⟩, ⟨_, _, _, rfl⟩, by rw [HE.out]; exact hd1, fun y hy => ?_⟩
      · unfold exv
        first | rfl | (rw [fl_zero6]; rfl)
      · rw [HE.out] at hy
        cases hy
        exact ⟨rfl, (XI_iff _ _ _ _ _ _).2 ⟨XK.nil _ _, TxR2.nil _ _, XA.nil _ _⟩⟩

  · have HE : Hid (exprP m t = .ok ⟨1, t.place, [], a, b, [], [], [], [], [], []⟩) := by rw [hid_iff, HP.out, HN.out]; rfl
    have hfa : FE rb m w w.heap.size #[.int .i64 (t.kind : Int), .int .i64 (t.place : Int), .string (str t.text), .slice ka t.kids.length kc] none #[.int .i64 1, .int .i64 (t.place : Int), .string ⟨#[]⟩, .complex .f64 0 0, .string ⟨#[]⟩, .string ⟨#[]⟩, .slice none 0 0, .slice none 0 0, .slice none 0 0] (w2.setCell ⟨w.heap.size + 2, 0, none⟩ (.int .i64 1)) := hf2.put hlt 0 (.int .i64 1)
    have hf4 : FE rb m w w.heap.size #[.int .i64 (t.kind : Int), .int .i64 (t.place : Int), .string (str t.text), .slice ka t.kids.length kc] none #[.int .i64 1, .int .i64 (t.place : Int), .string ⟨#[]⟩, .complex .f64 (floatOfInt .f64 a) (floatOfInt .f64 b), .string ⟨#[]⟩, .string ⟨#[]⟩, .slice none 0 0, .slice none 0 0, .slice none 0 0] ((w2.setCell ⟨w.heap.size + 2, 0, none⟩ (.int .i64 1)).setCell ⟨w.heap.size + 2, 3, none⟩ (.complex .f64 (floatOfInt .f64 a) (floatOfInt .f64 b))) := hfa.put hlt 3 (.complex .f64 (floatOfInt .f64 a) (floatOfInt .f64 b))
    have hst : (store ⟨w.heap.size + 2, 3, none⟩ (.complex .f64 (floatOfInt .f64 a) (floatOfInt .f64 b))).run Try.prog (w2.setCell ⟨w.heap.size + 2, 0, none⟩ (.int .i64 1)) = .ok () ((w2.setCell ⟨w.heap.size + 2, 0, none⟩ (.int .i64 1)).setCell ⟨w.heap.size + 2, 3, none⟩ (.complex .f64 (floatOfInt .f64 a) (floatOfInt .f64 b))) := by
      obtain ⟨⟨_, _, _, x3, _⟩, xf⟩ := nine9 hfa.eb
      rw [run_store _ _ _ _ _ rfl]
      simp [x3, xf]
    clear HP HN
    obtain ⟨⟨e0, e1, e2, e3, e4, e5, e6, e7, e8⟩, ef⟩ := nine9 hf4.eb
    obtain ⟨hd1, hd2, hd3, hd4⟩ := hf4.done hlt
    have hrs := hf4.rs
    go_wp2_with (refine wpList_store_row rfl 27 (.tmp 4) (.tmp 49) rfl (w.heap.size + 1) #[.int .i64 1, .int .i64 (t.place : Int), .string ⟨#[]⟩, .complex .f64 (floatOfInt .f64 a) (floatOfInt .f64 b), .string ⟨#[]⟩, .string ⟨#[]⟩, .slice none 0 0, .slice none 0 0, .slice none 0 0] rfl rfl 27 #[.int .i64 0, .int .i64 0, .string ⟨#[]⟩, .complex .f64 0 0, .string ⟨#[]⟩, .string ⟨#[]⟩, .slice none 0 0, .slice none 0 0, .slice none 0 0] hrs sizeEx rfl (by first | kernel_rfl | rfl | simp [Value.oneCell']) ?_)
    (try simp only [Exit.inBlock, Exit.then])
    refine bodyPost_ret (res_cell1 rfl _ _ (w.heap.size + 1) 27 #[.int .i64 1, .int .i64 (t.place : Int), .string ⟨#[]⟩, .complex .f64 (floatOfInt .f64 a) (floatOfInt .f64 b), .string ⟨#[]⟩, .string ⟨#[]⟩, .slice none 0 0, .slice none 0 0, .slice none 0 0] (0, 0) _ rfl hd2 Try.underlying27 rfl sizeEx) rfl ?_
    refine ⟨⟨1, t.place, [], a, b, [], [], [], [], [], []⟩, .slice none 0 0, .slice none 0 0, .slice none 0 0, ?_, ⟨_, _, _, rfl⟩, ⟨_, _, _, rfl⟩, ⟨_, _, _, rfl⟩, by rw [HE.out]; exact hd1, fun y hy => ?_⟩
    · unfold exv
      first | rfl | (rw [fl_zero6]; rfl)
    · rw [HE.out] at hy
      cases hy
      exact ⟨rfl, (XI_iff _ _ _ _ _ _).2 ⟨XK.nil _ _, TxR2.nil _ _, XA.nil _ _⟩⟩

end Go.Proofs.Ytcokihblicgbpaa
