/-
  The document's own reader of modules: an arm in its box, its names beside it.
-/
import Derived.Deep.AppendLies
import Derived.Laws.CopyRow
import Derived.Test.YtcokihblicgbpaaRef6MtAZ
namespace Go.Proofs.Ytcokihblicgbpaa
open Go.RowKit

theorem step_textR {w : World} {ops : Array Oper} {o : Oper} {a : Act} {K : Act → World → Prop} {Q : Exit → Act → World → Prop} {E : Prop} (hgd : o.guard = none) (s x : Operand)
    (ho : o.op = .call { callee := .builtin .append, args := #[s, x], argTypes := #[30, 30] })
    (B : Nat) (v : Value) (ks : List (List UInt8)) (hs : a.eval s = v) (hown : w.ownsRow B 9 1 v ks.length (sc ks)) (n : List UInt8) (ad : Addr) (cp : Nat) (hx : a.eval x = .slice (some ad) 1 cp)
    (hnews : ∀ j u, ([.string (str n)] : List Value)[j]? = some u → w.cell? (ad.add j) = some u) (hlen : ks.length + 1 ≤ 100000) (hB : B ≤ w.heap.size)
    (h : ∀ g cap w', w'.ownsRow B 9 1 (.slice (some ⟨g, 0, none⟩) (ks.length + 1) cap) (ks ++ [n]).length (sc (ks ++ [n])) → w.grownBy w' v.ownBlock → K (a.put o.dst (.slice (some ⟨g, 0, none⟩) (ks.length + 1) cap)) w') :
    if Region.wanted o (yielded ops a.tmps) = true then Oper.wp Try.prog o a w K Q else E := by
  obtain ⟨i, z, hi, hz, h1, h2, h3⟩ := info_z infoS
  refine step_append_lies w hgd s x 30 ho B 9 i z 1 16 Try.underlying30 hi hz h1 h2 h3 (by decide) v _ (sc ks) hs hown ad 1 cp [.string (str n)] hx rfl hnews (fun u hu => ?_) (by decide) (by unfold maxLen; omega) (by omega) hB w.heap.size rfl ?_
  · simp only [List.mem_cons, List.not_mem_nil, or_false] at hu
    subst hu
    rfl
  · intro g cap w' q1 q2 q3 q4
    refine h g cap w' ?_ q2
    have e : sc (ks ++ [n]) = sc ks ++ [.string (str n)] := by simp [sc]
    rw [e]
    simpa using q1
/-- An arm's cells while its names are read. -/
def armXr (n0 : List UInt8) (vv : Value) : Array Value := #[.string (str n0), vv, .int .i64 0, .int .i64 0, .string ⟨#[]⟩, .complex .f64 0 0, .string ⟨#[]⟩, .string ⟨#[]⟩, .slice none 0 0, .slice none 0 0, .slice none 0 0]
/-- The reader; an arm in block xb; its names in a row behind it. -/
structure AX (rb : Nat) (m : List UInt8) (st : Option (Nat × Nat)) (W1 W5 : World) (xb : Nat) (n0 : List UInt8) (vv : Value) (vs : List (List UInt8)) (u : World) : Prop where
  rq : RQ rb m st W1 u
  kp : Kept (fun k => k = rb) W5 u
  bx : u.heap[xb]? = some (.cells (armXr n0 vv) 73 (0, 0))
  row : u.ownsRow (xb + 1) 9 1 vv vs.length (sc vs)
theorem AX.lt {rb : Nat} {m : List UInt8} {st : Option (Nat × Nat)} {W1 W5 : World} {xb : Nat} {n0 : List UInt8} {vv : Value} {vs : List (List UInt8)} {u : World} (h : AX rb m st W1 W5 xb n0 vv vs u) : xb < u.heap.size := (Array.getElem?_eq_some_iff.1 h.bx).1
/-- Behind a call of the reader's. -/
theorem AX.call {rb : Nat} {m : List UInt8} {st st' : Option (Nat × Nat)} {W1 W5 : World} {xb : Nat} {n0 : List UInt8} {vv : Value} {vs : List (List UInt8)} {u u' : World} (h : AX rb m st W1 W5 xb n0 vv vs u) (hrb : rb < xb) (k : RQ rb m st' u u') : AX rb m st' W1 W5 xb n0 vv vs u' := by
  refine ⟨h.rq.trans k, h.kp.trans k.2 (fun _ _ e => e) (fun _ _ e => e), (k.2.block xb h.lt (by omega)).trans h.bx, k.2.own h.row (fun g hg e => ?_)⟩
  have := (h.row.lt g hg).1
  omega
/-- One name more. -/
theorem AX.push {rb : Nat} {m : List UInt8} {st : Option (Nat × Nat)} {W1 W5 : World} {xb : Nat} {n0 : List UInt8} {vv : Value} {vs : List (List UInt8)} {u w7 : World} {o : Obj} {g cap : Nat} {x : List UInt8} (h : AX rb m st W1 W5 xb n0 vv vs u) (hrb : rb < xb) (h1 : W1.heap.size ≤ xb) (h5 : W5.heap.size ≤ xb)
    (ho : w7.ownsRow (xb + 1) 9 1 (.slice (some ⟨g, 0, none⟩) (vs.length + 1) cap) (vs ++ [x]).length (sc (vs ++ [x]))) (hg : (u.alloc o).grownBy w7 vv.ownBlock) :
    w7.cell? ⟨xb, 1, none⟩ = some vv ∧ w7.frozen? ⟨xb, 1, none⟩ = false ∧ AX rb m st W1 W5 xb n0 (.slice (some ⟨g, 0, none⟩) (vs.length + 1) cap) (vs ++ [x]) (w7.setCell ⟨xb, 1, none⟩ (.slice (some ⟨g, 0, none⟩) (vs.length + 1) cap)) := by
  have hl := h.lt
  have hob : ∀ z, vv.ownBlock = some z → xb + 1 ≤ z := fun z hz => (h.row.lt z hz).1
  have hgo : xb + 1 ≤ g := (ho.lt g rfl).1
  have hb7 : w7.heap[xb]? = some (.cells (armXr n0 vv) 73 (0, 0)) := by
    rw [hg.block xb (by simp; omega) (fun e => by have := hob xb e.symm; omega), Below.heap_alloc _ _ _ hl]
    exact h.bx
  have hrl := h.rq.1.lt
  have hr7 : w7.heap[rb]? = u.heap[rb]? := by
    rw [hg.block rb (by simp; omega) (fun e => by have := hob rb e.symm; omega), Below.heap_alloc _ _ _ hrl]
  refine ⟨by rw [cell_of_row _ _ 1 _ _ _ hb7]; rfl, frozen_of_row w7 xb 1 _ _ hb7, ⟨⟨⟨?_, h.rq.1.2⟩, ?_⟩, ?_, ?_, ?_⟩⟩
  · rw [Below.heap_setCell _ _ _ _ (by simp only; omega), hr7]
    exact h.rq.1.1
  · exact ((h.rq.2.alloc o).grown hg (fun k hk hk' => by have := hob k hk; omega)).setCell (fun e => by simp only at e; omega) _
  · exact ((h.kp.alloc o).grown hg (fun k hk hk' => by have := hob k hk; omega)).setCell (fun e => by simp only at e; omega) _
  · simpa [armXr] using heap_setCell_same w7 xb 1 _ _ (.slice (some ⟨g, 0, none⟩) (vs.length + 1) cap) hb7
  · refine ⟨ho.1, ?_⟩
    rcases ho.2 with hn | ⟨g', cap', cur, e, hb, hgg, rest⟩
    · exact .inl hn
    · refine .inr ⟨g', cap', cur, e, hb, ?_, rest⟩
      rw [Below.heap_setCell _ _ _ _ (by simp only; omega)]
      exact hgg
/-- What is refused behind the first j names. -/
def nmS (a : Tr) (st : Option (Nat × Nat)) (j : Nat) : Option (Nat × Nat) := (((kid a 0).kids.drop 1).take j).foldl (fun s k => orR s (nameP k)) st
def nmT (a : Tr) (j : Nat) : List (List UInt8) := (((kid a 0).kids.drop 1).take j).map (·.text)
theorem nm_next (a : Tr) (st : Option (Nat × Nat)) (j : Nat) (h : j + 1 < (kid a 0).kids.length) : orR (nmS a st j) (nameP (kid a 0).kids[j + 1]) = nmS a st (j + 1) ∧ nmT a j ++ [(kid a 0).kids[j + 1].text] = nmT a (j + 1) := by
  have hd : j < ((kid a 0).kids.drop 1).length := by simp; omega
  have hx : ((kid a 0).kids.drop 1)[j] = (kid a 0).kids[j + 1] := by
    rw [List.getElem_drop]
    congr 1
    omega
  unfold nmS nmT
  rw [List.take_succ_eq_append_getElem hd, List.foldl_append, List.map_append, hx]
  exact ⟨rfl, rfl⟩
theorem nm_all (a : Tr) (st : Option (Nat × Nat)) (j : Nat) (h : (kid a 0).kids.length ≤ j + 1) : nmS a st j = orR st (seqP (((kid a 0).kids.drop 1).map nameP)) ∧ nmT a j = ((kid a 0).kids.drop 1).map (·.text) := by
  unfold nmS nmT
  rw [List.take_of_length_le (by simp; omega), names_fold]
  exact ⟨rfl, rfl⟩
theorem nmT_len (a : Tr) (j : Nat) : (nmT a j).length ≤ j := by unfold nmT; rw [List.length_map, List.length_take]; omega
theorem FS.grown {rb : Nat} {m : List UInt8} {w : World} {H : Nat} {tc ec : Array Value} {st : Option (Nat × Nat)} {u u' : World} {row : Option Nat} {o : Obj} (h : FS rb m w H tc st ec u) (hrb : rb < w.heap.size) (hg : (u.alloc o).grownBy u' row) (hr : ∀ k, row = some k → H + 3 ≤ k) : FS rb m w H tc st ec u' := by
  have hl := h.lt
  have h0 := h.lo
  have hb : ∀ b, b ≤ H + 2 → u'.heap[b]? = u.heap[b]? := fun b hb => by
    rw [hg.block b (by simp; omega) (fun e => by have := hr b e.symm; omega), Below.heap_alloc _ _ _ (by omega)]
  exact ⟨⟨⟨(hb rb (by omega)).trans h.rq.1.1, h.rq.1.2⟩, (h.rq.2.alloc o).grown hg (fun k hk hk' => by have := hr k hk; omega)⟩, (hb _ (by omega)).trans h.tb, (hb _ (by omega)).trans h.eb, (hb _ (by omega)).trans h.rs, h0⟩
/-- A struct is stored within a block. -/
theorem run_part6 {P : Program} (w : World) (g j : Nat) (t ty : TypeId) (cur : Array Value) (cells : List Value) (hg : w.heap[g]? = some (.cells cur t (0, 0))) (hi : (P.info? ty).map (·.size) = some cells.length)
    (ho : j + cells.length ≤ cur.size) (h1 : cells.all (·.oneCell') = true) :
    (storeVar ty ⟨g, j, none⟩ (.agg cells.toArray)).run P w = .ok () (w.setRow g (cur.toList.take j ++ cells ++ cur.toList.drop (j + cells.length)).toArray) := by
  have := run_storeCells_at P g j t cells 0 cur w hg (by simpa using ho) (fun v hv => (List.all_eq_true.1 h1) v hv)
  rw [Nat.add_zero] at this
  cases hq : P.info? ty with
  | none => simp [hq] at hi
  | some i =>
    have hs : cells.length = i.size := by simp [hq] at hi; omega
    simp [storeVar, sizeOf, typeInfo, hq, Value.cells, hs] at this ⊢
    exact this
theorem setRow_same6 (w : World) (g : Nat) (cs old : Array Value) (e : TypeId) (fr : Nat × Nat) (h : w.heap[g]? = some (.cells old e fr)) : (w.setRow g cs).heap[g]? = some (.cells cs e fr) := by
  simp only [World.setRow]
  rw [Array.getElem?_modify, if_pos rfl, h]
  rfl
theorem setRow_kept6 (w : World) (g : Nat) (cs : Array Value) : Kept (fun k => k = g) w (w.setRow g cs) :=
  ⟨rfl, rfl, rfl, by simp [World.setRow], fun k _ hn => by simp only [World.setRow]; rw [Array.getElem?_modify, if_neg (fun e => hn e.symm)]⟩
theorem wpList_part6 {P : Program} {ops : Array Oper} {rest : List Oper} {o : Oper} {a : Act} {w : World} {Q : Exit → Act → World → Prop} (hgd : o.guard = none) (ty : TypeId) (x y : Operand) (ho : o.op = .store ty x y)
    (g j : Nat) (cells : List Value) (hx : a.eval x = .pointer (some ⟨g, j, none⟩)) (hy : a.eval y = .agg cells.toArray) (cur : Array Value) (T : Nat) (hA : w.heap[g]? = some (.cells cur T (0, 0))) (hl : j + cells.length ≤ cur.size)
    (hi : (P.info? ty).map (·.size) = some cells.length) (h1 : cells.all (·.oneCell') = true)
    (h : ∀ w', w'.heap[g]? = some (.cells (cur.toList.take j ++ cells ++ cur.toList.drop (j + cells.length)).toArray T (0, 0)) → Kept (fun b => b = g) w w' → wpList P ops Q rest (a.put o.dst undef) w') : wpList P ops Q (o :: rest) a w := by
  have hr := run_part6 (P := P) w g j T ty _ cells hA hi hl h1
  refine wpList_plain hgd fun _ hK => ?_
  unfold Oper.wp execOp
  simp only [ho, hx, hy, Instr.storeAt, Instr.sureAddr, Sem.run_bind, Sem.run_pure, Result.andThen_ok, hr]
  exact hK _ _ (h _ (setRow_same6 _ _ _ _ _ _ hA) (setRow_kept6 _ _ _))
/-- Eleven cells of a block. -/
theorem eleven {w : World} {b : Nat} {z0 z1 z2 z3 z4 z5 z6 z7 z8 z9 z10 : Value} {e : TypeId} (h : w.heap[b]? = some (.cells #[z0, z1, z2, z3, z4, z5, z6, z7, z8, z9, z10] e (0, 0))) : w.cell? ⟨b, 0, none⟩ = some z0 ∧ w.cell? ⟨b, 1, none⟩ = some z1 ∧ w.cell? ⟨b, 2, none⟩ = some z2 ∧ w.cell? ⟨b, 3, none⟩ = some z3 ∧ w.cell? ⟨b, 4, none⟩ = some z4 ∧ w.cell? ⟨b, 5, none⟩ = some z5 ∧ w.cell? ⟨b, 6, none⟩ = some z6 ∧ w.cell? ⟨b, 7, none⟩ = some z7 ∧ w.cell? ⟨b, 8, none⟩ = some z8 ∧ w.cell? ⟨b, 9, none⟩ = some z9 ∧ w.cell? ⟨b, 10, none⟩ = some z10 :=
  ⟨by rw [cell_of_row _ _ 0 _ _ _ h]; rfl, by rw [cell_of_row _ _ 1 _ _ _ h]; rfl, by rw [cell_of_row _ _ 2 _ _ _ h]; rfl, by rw [cell_of_row _ _ 3 _ _ _ h]; rfl, by rw [cell_of_row _ _ 4 _ _ _ h]; rfl, by rw [cell_of_row _ _ 5 _ _ _ h]; rfl, by rw [cell_of_row _ _ 6 _ _ _ h]; rfl, by rw [cell_of_row _ _ 7 _ _ _ h]; rfl, by rw [cell_of_row _ _ 8 _ _ _ h]; rfl, by rw [cell_of_row _ _ 9 _ _ _ h]; rfl, by rw [cell_of_row _ _ 10 _ _ _ h]; rfl⟩
def ex0 : Ex := ⟨0, 0, [], 0, 0, [], [], [], [], [], []⟩
/-- An arm as a value: its cells. -/
def armLr (n0 : List UInt8) (vv : Value) (x : Ex) (kv pv av : Value) : List Value := .string (str n0) :: vv :: exc x kv pv av
theorem armX_is (n0 : List UInt8) (vv : Value) : armXr n0 vv = (armLr n0 vv ex0 (.slice none 0 0) (.slice none 0 0) (.slice none 0 0)).toArray := by
  unfold armXr armLr exc ex0
  simp only [Int.natCast_zero, fl_zero6]
  rfl
theorem infoAr : (Try.prog.info? 73).map (fun i => (i.zero.map (fun z => z.cells.size), i.size, i.bytes)) = some (some 11, 11, 192) := by kernel_rfl
theorem txr_own {w : World} {B e : Nat} {v : Value} {xs : List (List UInt8)} (h : w.ownsRow B e 1 v xs.length (sc xs)) : TxR (fun g => B ≤ g ∧ g < w.heap.size) w v xs := by
  rcases h.2 with ⟨rfl, hn⟩ | ⟨g, cap, cur, rfl, hb, hg, h1, _⟩
  · exact .inl ⟨none, 0, rfl, List.eq_nil_of_length_eq_zero hn⟩
  · refine .inr ⟨g, 0, cap, rfl, ⟨hb, (Array.getElem?_eq_some_iff.1 hg).1⟩, fun j x hj => ?_⟩
    have hlt := (List.getElem?_eq_some_iff.1 hj).1
    rw [Nat.zero_add, h.cellAt j (by omega)]
    simp [sc, hj]
theorem FS.turn {rb : Nat} {m : List UInt8} {w : World} {H : Nat} {tc ec : Array Value} {st : Option (Nat × Nat)} {u u' : World} {x : Nat} (h : FS rb m w H tc st ec u) (hrb : rb < w.heap.size) (k : Kept (fun b => b = x) u u') (hx : H + 3 ≤ x) : FS rb m w H tc st ec u' := by
  have hl := h.lt
  have h0 := h.lo
  have hb : ∀ b, b ≤ H + 2 → u'.heap[b]? = u.heap[b]? := fun b hb => k.block b (by omega) (by omega)
  exact ⟨⟨⟨(hb rb (by omega)).trans h.rq.1.1, h.rq.1.2⟩, h.rq.2.trans k (fun _ _ e => e) (fun y hy e => by omega)⟩, (hb _ (by omega)).trans h.tb, (hb _ (by omega)).trans h.eb, (hb _ (by omega)).trans h.rs, h0⟩
def isOk6 {α : Type} (r : PR α) : Bool := match r with
  | .ok _ => true
  | .error _ => false
theorem isOk6_none {α : Type} {r : PR α} (h : orR none r = none) : isOk6 r = true := by
  cases r with
  | ok _ => rfl
  | error e => cases h
/-- What an arm is that has its form. -/
theorem arm_val {m : List UInt8} {a : Tr} (h : ¬ (a.kind ≠ 1 ∨ a.kids.length ≠ 2 ∨ (kid a 0).kind ≠ 1)) (h2 : ¬ 4 < (kid a 0).kids.length - 1) (h3 : ¬ ((kid a 0).kids.length = 0 ∨ (kid a 0).kids.all (fun k => decide (k.kind = 3)) = false)) (x : Ex) (hx : ∀ b, exprP m (kid a 1) = .ok b → x = b) :
    ∀ y, armF m a = .ok y → (((kid (kid a 0) 0).text, ((kid a 0).kids.drop 1).map (·.text)), x) = y := by
  intro y hy
  rw [armF_is h h2 h3] at hy
  cases hc : caseQ6 a with
  | error e => rw [hc] at hy; cases hy
  | ok n =>
    have hn : n = (kid (kid a 0) 0).text := by
      unfold caseQ6 at hc
      split at hc
      · cases hc
      · cases hc; rfl
    rw [hc] at hy
    cases hs : seqP (((kid a 0).kids.drop 1).map nameP) with
    | error e => rw [hs] at hy; cases hy
    | ok vs =>
      rw [hs] at hy
      cases he : exprP m (kid a 1) with
      | error e => rw [he] at hy; cases hy
      | ok b =>
        rw [he] at hy
        cases hy
        rw [hn, names_ok _ vs hs, hx b he]
theorem arm_bad {m : List UInt8} {a : Tr} (h : ¬ (a.kind ≠ 1 ∨ a.kids.length ≠ 2 ∨ (kid a 0).kind ≠ 1)) (h2 : ¬ 4 < (kid a 0).kids.length - 1) (h3 : ¬ ((kid a 0).kids.length = 0 ∨ (kid a 0).kids.all (fun k => decide (k.kind = 3)) = false)) {e : Nat × Nat} (hs : orR (orR none (caseQ6 a)) (seqP (((kid a 0).kids.drop 1).map nameP)) = some e) :
    orR none (armF m a) = some e ∧ ∀ x y, armF m a = .ok y → x = y := by
  have := arm_or (m := m) h h2 h3
  rw [hs] at this
  have h9 : orR none (armF m a) = some e := this.symm
  refine ⟨h9, fun x y hy => ?_⟩
  rw [hy] at h9
  cases h9
theorem arm_good {m : List UInt8} {a : Tr} (h : ¬ (a.kind ≠ 1 ∨ a.kids.length ≠ 2 ∨ (kid a 0).kind ≠ 1)) (h2 : ¬ 4 < (kid a 0).kids.length - 1) (h3 : ¬ ((kid a 0).kids.length = 0 ∨ (kid a 0).kids.all (fun k => decide (k.kind = 3)) = false)) (hs : orR (orR none (caseQ6 a)) (seqP (((kid a 0).kids.drop 1).map nameP)) = none) :
    orR none (exprP m (kid a 1)) = orR none (armF m a) := by
  have := arm_or (m := m) h h2 h3
  rw [hs] at this
  exact this
/-- An arm's cells as cArm wants them. -/
theorem cArm_bad (F : Nat → Prop) (w : World) (n0 : List UInt8) (a : Option Addr) (n c : Nat) (vs : List (List UInt8)) : cArm F w (((n0, vs), ex0), false) (armXr n0 (.slice a n c)).toList := by
  refine ⟨.slice a n c, .slice none 0 0, .slice none 0 0, .slice none 0 0, ?_, ⟨_, _, _, rfl⟩, ⟨_, _, _, rfl⟩, ⟨_, _, _, rfl⟩, ⟨_, _, _, rfl⟩, fun e => by cases e⟩
  rw [armX_is]
  rfl
/-- An arm's cells, its names in a row behind it, its body read behind that. -/
theorem arm_cel {W1 wj w5 w6 : World} {xb B : Nat} {v vv : Value} {vs : List (List UInt8)} {x : Ex} {kv pv av : Value} {fl : Bool} (hvb : ∀ g, v.ownBlock = some g → g < W1.heap.size) (hB : B ≤ W1.heap.size) (h1 : W1.heap.size ≤ xb) (hx : xb < wj.heap.size) (_hs : wj.heap.size ≤ w5.heap.size) (hk : Kept (fun b => b = xb) w5 w6) (hr : w5.ownsRow (xb + 1) 9 1 vv vs.length (sc vs))
    (hX : fl = true → XI (Fq wj w5) w5 kv pv av x) (hvv : ∃ a n c, vv = .slice a n c) (hkv : ∃ a n c, kv = .slice a n c) (hpv : ∃ a n c, pv = .slice a n c) (hav : ∃ a n c, av = .slice a n c) (n0 : List UInt8) (o : Obj) :
    cArm (fun g => B ≤ g ∧ g < (w6.alloc o).heap.size ∧ some g ≠ v.ownBlock) (w6.alloc o) (((n0, vs), x), fl) (armLr n0 vv x kv pv av) := by
  have hsz : (w6.alloc o).heap.size = w6.heap.size + 1 := by simp
  have hfr : ∀ g, xb + 1 ≤ g → g < w5.heap.size → (B ≤ g ∧ g < (w6.alloc o).heap.size ∧ some g ≠ v.ownBlock) ∧ (w6.alloc o).heap[g]? = w5.heap[g]? := fun g hg hg5 => by
    have h6 := hk.size
    refine ⟨⟨by omega, by omega, fun e => by have := hvb g e.symm; omega⟩, ?_⟩
    rw [Below.heap_alloc _ _ _ (by omega)]
    exact hk.block g hg5 (by omega)
  refine ⟨vv, kv, pv, av, rfl, hvv, hkv, hpv, hav, fun e => ⟨?_, ?_⟩⟩
  · exact (txr_own hr).frame fun g hg => hfr g hg.1 hg.2
  · exact XI.frame (fun g hg => hfr g (by have := hg.1; omega) hg.2) x (hX e)
end Go.Proofs.Ytcokihblicgbpaa
