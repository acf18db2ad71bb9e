/-
  The package's itemOf, whatever tree it is.
  And: A struct that is filled in field by field beside the reader; a struct stored within another one; readExpr, whatever is refused already. The package's readConst.
-/
import Derived.Test.YtchfhkfepghfjaaPfAz
import Derived.Laws.CopyRow
import Derived.Test.YtchfhkfepghfjaaPfAy
namespace Go.Proofs.Ytchfhkfepghfjaa
open Go.RowKit

set_option maxHeartbeats 1000000 in
set_option maxRecDepth 1000000 in
theorem iO_no (w : World) (tg tj : Nat) (hh : Calls Try.prog 51 #[.pointer (some ⟨tg, tj, none⟩)] w (Pu (.bool false) w)) : Calls Try.prog 54 #[.pointer (some ⟨tg, tj, none⟩)] w (TextD [] w) := by
  go_enter Try.func54, Try.ntmps54
  go_wp2_with (go_at_call 51; refine hh.mono ?_; rintro e w1 ⟨rfl, hw1⟩; obtain rfl := hw1.symm)
  go_ret
  exact ⟨0, rfl, rfl⟩
theorem itemOf (F : Nat → Prop) (t : Tr) (tg tj : Nat) (w : World) (h : PT F w tg tj t) (hn : nodes t ≤ 20000) : Calls Try.prog 54 #[.pointer (some ⟨tg, tj, none⟩)] w (TextD (itemX t) w) := by
  have hh := hasHead F t tg tj w h
  cases hx : hasHeadX t
  · rw [hx] at hh
    rw [show itemX t = [] from by unfold itemX; rw [if_pos hx]]
    exact iO_no w tg tj hh
  rw [hx] at hh
  have hx' := hx
  simp only [hasHeadX, Bool.and_eq_true, decide_eq_true_eq] at hx'
  have hkn := kids_nodes t
  obtain ⟨_, kv, hTw, _, _, _, p3⟩ := h
  obtain ⟨g1, kc, hkv, hFg1, hkc, hcut⟩ := hTw.cut (by omega)
  obtain ⟨g2, c2, hk2, hP0⟩ := hTw.kid 0 (by omega)
  rw [hkv] at hk2
  simp only [Value.slice.injEq, Option.some.injEq, Addr.mk.injEq, and_true, true_and] at hk2
  obtain ⟨rfl, rfl⟩ := hk2
  rw [Nat.zero_mul] at hP0
  obtain ⟨_, _, _, _, _, k0, _⟩ := hP0
  rw [Nat.zero_add] at k0
  obtain ⟨r, hr⟩ : ∃ r, t.kids.length = r + 1 := ⟨t.kids.length - 1, by omega⟩
  rw [hkv, hr] at p3
  have hr2 : r ≤ 20000 := by omega
  have hat : ∀ o, (kc = 1 ∧ o = 0 ∨ ¬ kc = 1 ∧ o = 1 * 4) → ∀ u : World, u.heap = w.heap → ∀ c, Calls Try.prog 25 #[.slice (some ⟨g1, o, none⟩) r c] u fun e w' => e = .returned (.bool (atomsX (t.kids.drop 1))) ∧ w' = u := by
    intro o ho u hu c
    have hs := (hcut 1 (by omega) o ho c).frame (w' := u) (fun b _ => by rw [hu])
    rw [hr, Nat.add_sub_cancel] at hs
    exact allAtoms_ F _ (t.kids.drop 1) u hs (by rw [List.length_drop]; omega)
  have hI : itemX t = if (kid t 0).text = importK ∧ namedX t = true ∧ atomsX (t.kids.drop 1) = true then importK
      else if (kid t 0).text = exportK ∧ atomsX (t.kids.drop 1) = true then exportK
      else if (kid t 0).text = typeK ∧ namedX t = true ∧ 3 ≤ t.kids.length then typeK
      else if (kid t 0).text = constK ∧ namedX t = true ∧ t.kids.length = 4 then constK
      else if (kid t 0).text = funK ∧ namedX t = true ∧ t.kids.length = 5 ∧ (kid t 2).kind = 1 then funK
      else [] := by
    unfold itemX
    rw [if_neg (by rw [hx]; decide)]
  rw [hI]
  rcases Nat.eq_zero_or_pos r with hr0 | hr1
  · have hnm : namedX t = false := by unfold namedX; rw [decide_eq_false (by omega)]; rfl
    have hdr : atomsX (t.kids.drop 1) = true := by rw [List.drop_of_length_le (by omega)]; rfl
    rw [hdr] at hat
    rw [hnm, hdr]
    by_cases c1 : (kid t 0).text = importK
    · rw [c1] at k0 ⊢
      by_cases hk : kc = 1
      · exact iO_import_z w tg tj g1 r kc hr2 p3 hh hr0 hk k0
      · exact iO_import_y w tg tj g1 r kc hr2 p3 hh hr0 hk k0
    rw [if_neg (fun h => c1 h.1)]
    by_cases c2 : (kid t 0).text = exportK
    · rw [c2] at k0 ⊢
      by_cases hk : kc = 1
      · exact iO_export_z w tg tj g1 r kc 0 hr2 p3 hh rfl true rfl hr0 hk (hat 0 (.inl ⟨hk, rfl⟩)) k0
      · exact iO_export_y w tg tj g1 r kc 4 hr2 p3 hh rfl true rfl hr0 hk (hat 4 (.inr ⟨hk, rfl⟩)) k0
    rw [if_neg (fun h => c2 h.1)]
    by_cases c3 : (kid t 0).text = typeK
    · rw [c3] at k0 ⊢
      by_cases hk : kc = 1
      · exact iO_type_z w tg tj g1 r kc hr2 p3 hh hr0 hk k0
      · exact iO_type_y w tg tj g1 r kc hr2 p3 hh hr0 hk k0
    rw [if_neg (fun h => c3 h.1)]
    by_cases c4 : (kid t 0).text = constK
    · rw [c4] at k0 ⊢
      by_cases hk : kc = 1
      · exact iO_const_z w tg tj g1 r kc hr2 p3 hh hr0 hk k0
      · exact iO_const_y w tg tj g1 r kc hr2 p3 hh hr0 hk k0
    rw [if_neg (fun h => c4 h.1)]
    by_cases c5 : (kid t 0).text = funK
    · rw [c5] at k0 ⊢
      by_cases hk : kc = 1
      · exact iO_fun_z w tg tj g1 r kc hr2 p3 hh hr0 hk k0
      · exact iO_fun_y w tg tj g1 r kc hr2 p3 hh hr0 hk k0
    rw [if_neg (fun h => c5 h.1)]
    by_cases hk : kc = 1
    · exact iO_none_z w tg tj g1 r kc hr2 p3 hh (kid t 0).text c1 c2 c3 c4 c5 hr0 hk k0
    · exact iO_none_y w tg tj g1 r kc hr2 p3 hh (kid t 0).text c1 c2 c3 c4 c5 hr0 hk k0
  · have hk : ¬ kc = 1 := by omega
    obtain ⟨g2, c2, hk2, hP1⟩ := hTw.kid 1 (by omega)
    rw [hkv] at hk2
    simp only [Value.slice.injEq, Option.some.injEq, Addr.mk.injEq, and_true, true_and] at hk2
    obtain ⟨rfl, rfl⟩ := hk2
    rw [Nat.one_mul] at hP1
    obtain ⟨_, _, _, k1, _, _, _⟩ := hP1
    have hnm : namedX t = decide ((kid t 1).kind = 3) := by unfold namedX; rw [decide_eq_true (show 1 < t.kids.length by omega), Bool.true_and]
    have hnmT : (kid t 1).kind = 3 → namedX t = true := fun e => by rw [hnm, decide_eq_true e]
    have hnmF : (kid t 1).kind ≠ 3 → namedX t = false := fun e => by rw [hnm, decide_eq_false e]
    have hat4 := hat 4 (.inr ⟨hk, rfl⟩)
    by_cases c1 : (kid t 0).text = importK
    · rw [c1] at k0 ⊢
      by_cases e3 : (kid t 1).kind = 3
      · rw [hnmT e3]
        cases hb : atomsX (t.kids.drop 1)
        · rw [hb] at hat4
          exact iO_import_false w tg tj g1 r kc _ 4 hr2 p3 hh rfl false rfl hr1 hk k1 e3 hat4 k0
        · rw [hb] at hat4
          exact iO_import_true w tg tj g1 r kc _ 4 hr2 p3 hh rfl true rfl hr1 hk k1 e3 hat4 k0
      · rw [hnmF e3]
        exact iO_import_n w tg tj g1 r kc _ hr2 p3 hh hr1 hk k1 e3 k0
    rw [if_neg (fun h => c1 h.1)]
    by_cases c2 : (kid t 0).text = exportK
    · rw [c2] at k0 ⊢
      cases hb : atomsX (t.kids.drop 1)
      · rw [hb] at hat4
        exact iO_export_false w tg tj g1 r kc _ 4 hr2 p3 hh rfl false rfl _ hr1 hk k1 rfl hat4 k0
      · rw [hb] at hat4
        exact iO_export_true w tg tj g1 r kc _ 4 hr2 p3 hh rfl true rfl _ hr1 hk k1 rfl hat4 k0
    rw [if_neg (fun h => c2 h.1)]
    by_cases c3 : (kid t 0).text = typeK
    · rw [c3] at k0 ⊢
      by_cases e3 : (kid t 1).kind = 3
      · rw [hnmT e3]
        by_cases hl : 2 ≤ r
        · rw [if_pos ⟨rfl, rfl, by omega⟩]
          exact iO_type_ok w tg tj g1 r kc _ hr2 p3 hh hr1 hk k1 e3 hl k0
        · rw [if_neg (by rintro ⟨_, _, h⟩; omega)]
          exact iO_type_l w tg tj g1 r kc _ hr2 p3 hh hr1 hk k1 e3 hl k0
      · rw [hnmF e3]
        exact iO_type_n w tg tj g1 r kc _ hr2 p3 hh hr1 hk k1 e3 k0
    rw [if_neg (fun h => c3 h.1)]
    by_cases c4 : (kid t 0).text = constK
    · rw [c4] at k0 ⊢
      by_cases e3 : (kid t 1).kind = 3
      · rw [hnmT e3]
        by_cases hl : r = 3
        · rw [if_pos ⟨rfl, rfl, by omega⟩]
          exact iO_const_ok w tg tj g1 r kc _ hr2 p3 hh hr1 hk k1 e3 hl k0
        · rw [if_neg (by rintro ⟨_, _, h⟩; omega)]
          exact iO_const_l w tg tj g1 r kc _ hr2 p3 hh hr1 hk k1 e3 hl k0
      · rw [hnmF e3]
        exact iO_const_n w tg tj g1 r kc _ hr2 p3 hh hr1 hk k1 e3 k0
    rw [if_neg (fun h => c4 h.1)]
    by_cases c5 : (kid t 0).text = funK
    · rw [c5] at k0 ⊢
      by_cases e3 : (kid t 1).kind = 3
      · rw [hnmT e3]
        by_cases hl : r = 4
        · obtain ⟨g2, c2, hk2, hP2⟩ := hTw.kid 2 (by omega)
          rw [hkv] at hk2
          simp only [Value.slice.injEq, Option.some.injEq, Addr.mk.injEq, and_true, true_and] at hk2
          obtain ⟨rfl, rfl⟩ := hk2
          obtain ⟨_, _, _, d1, _, _, _⟩ := hP2
          by_cases e1 : (kid t 2).kind = 1
          · rw [if_pos ⟨rfl, rfl, by omega, e1⟩]
            exact iO_fun_ok w tg tj g1 r kc _ hr2 p3 hh hr1 hk k1 e3 hl _ e1 d1 k0
          · rw [if_neg (by rintro ⟨_, _, _, h⟩; exact e1 h)]
            exact iO_fun_k w tg tj g1 r kc _ hr2 p3 hh hr1 hk k1 e3 hl _ e1 d1 k0
        · rw [if_neg (by rintro ⟨_, _, h, _⟩; omega)]
          exact iO_fun_l w tg tj g1 r kc _ hr2 p3 hh hr1 hk k1 e3 hl k0
      · rw [hnmF e3]
        exact iO_fun_n w tg tj g1 r kc _ hr2 p3 hh hr1 hk k1 e3 k0
    rw [if_neg (fun h => c5 h.1)]
    exact iO_none w tg tj g1 r kc _ hr2 p3 hh (kid t 0).text c1 c2 c3 c4 c5 _ hr1 hk k1 rfl k0
end Go.Proofs.Ytchfhkfepghfjaa

namespace Go.Proofs.Ytchfhkfepghfjaa
open Go.RowKit

theorem run_storeVar_part {P : Program} (w : World) (g j : Nat) (t ty : TypeId) (cur : Array Value) (cells : List Value) (hg : w.heap[g]? = some (.cells cur t (0, 0))) (hi : (P.info? ty).map (·.size) = some cells.length)
    (ho : j + cells.length ≤ cur.size) (h1 : cells.all (·.oneCell') = true) :
    (storeVar ty ⟨g, j, none⟩ (.agg cells.toArray)).run P w = .ok () (w.setRow g (cur.toList.take j ++ cells ++ cur.toList.drop (j + cells.length)).toArray) := by
  have := run_storeCells_at P g j t cells 0 cur w hg (by simpa using ho) (fun v hv => (List.all_eq_true.1 h1) v hv)
  rw [Nat.add_zero] at this
  cases hq : P.info? ty with
  | none => simp [hq] at hi
  | some i =>
    have hs : cells.length = i.size := by simp [hq] at hi; omega
    simp [storeVar, sizeOf, typeInfo, hq, Value.cells, hs] at this ⊢
    exact this
/-- A struct is stored within a block. -/
theorem wpList_store_part {P : Program} {ops : Array Oper} {rest : List Oper} {o : Oper} {a : Act} {w : World} {Q : Exit → Act → World → Prop} (hgd : o.guard = none) (ty : TypeId) (x y : Operand) (ho : o.op = .store ty x y)
    (g j : Nat) (cells : List Value) (hx : a.eval x = .pointer (some ⟨g, j, none⟩)) (hy : a.eval y = .agg cells.toArray) (pre xs post : List Value) (T : Nat) (hA : At w g pre xs post T) (hj : pre.length = j) (hl : xs.length = cells.length)
    (hi : (P.info? ty).map (·.size) = some cells.length) (h1 : cells.all (·.oneCell') = true)
    (h : ∀ w', At w' g pre cells post T → Kept (fun b => b = g) w w' → wpList P ops Q rest (a.put o.dst undef) w') : wpList P ops Q (o :: rest) a w := by
  subst hj
  have hr := run_storeVar_part (P := P) w g pre.length T ty _ cells hA hi (by simp [hl]) h1
  have hA' : At (w.setRow g ((pre ++ xs ++ post).toArray.toList.take pre.length ++ cells ++ (pre ++ xs ++ post).toArray.toList.drop (pre.length + cells.length)).toArray) g pre cells post T := by
    unfold At
    rw [setRow_heap w g _ _ T (0, 0) hA]
    congr 2
    congr 1
    simp only [List.append_assoc]
    rw [List.take_left, ← hl, show (pre ++ (xs ++ post)).drop (pre.length + xs.length) = post from by rw [← List.append_assoc, ← List.length_append, List.drop_left]]
  refine wpList_plain hgd fun _ hK => ?_
  unfold Oper.wp execOp
  simp only [ho, hx, hy, Instr.storeAt, Instr.sureAddr, Sem.run_bind, Sem.run_pure, Result.andThen_ok, hr]
  exact hK _ _ (h _ hA' (setRow_kept _ _ _))
/-- readExpr. -/
theorem readExprB (F : Nat → Prop) (t : Tr) (tg tj : Nat) (w : World) (rb : Nat) (m : List UInt8) (tv : Value) (st : Option (Nat × Nat)) (hs : Sw st) (n : Nat) (xs : List Value) (h : DIs w rb m tv st) (ho : w.ownsRow (rb + 1) 72 3 tv n xs) (hst : st = none → n = 0) (hT : PT F w tg tj t) (hF : ∀ b, F b → b < rb) (htx : TxOk t) (hnd : nodes t ≤ 20000) (hm : m.length ≤ 8192) (L : Nat) (hL : 20000 ≤ L) (hL2 : L ≤ 90000) (hn : n ≤ L) :
    Calls Try.prog 12 #[.pointer (some ⟨rb, 0, none⟩), .pointer (some ⟨tg, tj, none⟩)] w (ExprQ rb m st t (L + 1) w) := by
  cases st with
  | none =>
    have hn0 := hst rfl
    subst hn0
    have hx : xs = [] := List.eq_nil_of_length_eq_zero (by have := ho.1; omega)
    subst hx
    exact readExpr F t tg tj w rb m tv h ho hT hF htx hnd hm (L + 1) (by omega)
  | some er => exact readExpr_err t tg tj w rb m tv er (hs er rfl) n xs h ho L hn hL2
/-- A struct at d, its answer's place right below it. -/
structure DS (F : Nat → Prop) (rb : Nat) (m : List UInt8) (tv : Value) (st : Option (Nat × Nat)) (n : Nat) (xs : List Value) (X Z : List Value) (T : Nat) (w W : World) : Prop where
  rd : DIs W rb m tv st
  own : W.ownsRow (rb + 1) 72 3 tv n xs
  cells : At W (w.heap.size + 1) [] X [] T
  res : At W w.heap.size [] Z [] T
  ev : Ev rb rb w W
  fr : ∀ b, F b → W.heap[b]? = w.heap[b]?
  hT : T ≠ 72
  hrb : rb < w.heap.size
  hF : ∀ b, F b → b < rb
section
variable {F : Nat → Prop} {rb : Nat} {m : List UInt8} {tv : Value} {st : Option (Nat × Nat)} {n : Nat} {xs X Z : List Value} {T : Nat} {w W W' : World}
theorem DS.lt (h : DS F rb m tv st n xs X Z T w W) : w.heap.size + 1 < W.heap.size := h.cells.lt
theorem DS.call (h : DS F rb m tv st n xs X Z T w W) {st' : Option (Nat × Nat)} (hD : DIs W' rb m tv st') (hK : Kept (fun b => b = rb) W W') : DS F rb m tv st' n xs X Z T w W' := by
  have hr := h.hrb
  refine ⟨hD, hK.own h.own (fun g e hg => ?_), h.cells.kept hK (fun e => by omega), h.res.kept hK (fun e => by omega), h.ev.trans (hK.mono (fun _ _ e => .inl e) : Ev rb rb W W') (.inl rfl), fun b hb => ?_, h.hT, h.hrb, h.hF⟩
  · have := (own_pb h.own g e).1
    omega
  · have := h.hF b hb
    have := h.rd.lt
    rw [hK.block b (by omega) (by omega), h.fr b hb]
theorem DS.set (h : DS F rb m tv st n xs X Z T w W) (j : Nat) (hj : j < X.length) (v : Value) : DS F rb m tv st n xs (X.set j v) Z T w (W.setCell ⟨w.heap.size + 1, j, none⟩ v) := by
  have hr := h.hrb
  have hs := h.ev.size
  have K : Kept (fun b => b = w.heap.size + 1) W (W.setCell ⟨w.heap.size + 1, j, none⟩ v) := (Kept.refl (fun b => b = w.heap.size + 1) W).setCell (p := ⟨w.heap.size + 1, j, none⟩) (fun _ => rfl) _
  have hc := h.cells.set j hj v
  rw [List.length_nil, Nat.zero_add] at hc
  refine ⟨h.rd.kept K (fun e => by omega), K.own h.own (fun g e hg => ?_), hc, h.res.kept K (fun e => by omega), Kept.trans h.ev K (fun _ _ e => e) (fun x hx e => absurd e (by omega)), fun b hb => ?_, h.hT, h.hrb, h.hF⟩
  · have := (own_pb h.own g e).2
    rw [hg] at this
    exact h.cells.np h.hT this
  · have := h.hF b hb
    have := h.rd.lt
    rw [K.block b (by omega) (by omega), h.fr b hb]
theorem DS.cell (h : DS F rb m tv st n xs X Z T w W) (j : Nat) {v : Value} (hj : X[j]? = some v) : W.cell? ⟨w.heap.size + 1, j, none⟩ = some v ∧ W.frozen? ⟨w.heap.size + 1, j, none⟩ = false := by
  have := h.cells.cell hj
  rw [List.length_nil, Nat.zero_add] at this
  exact ⟨this, h.cells.frozen _⟩
theorem DS.tcell (h : DS F rb m tv st n xs X Z T w W) {g j : Nat} {v : Value} (hg : F g) (hc : w.cell? ⟨g, j, none⟩ = some v) : W.cell? ⟨g, j, none⟩ = some v := by
  rw [World.cell?_of_block (w := w) (h.fr g hg)]
  exact hc
/-- Behind readExpr. -/
theorem DS.expr (h : DS F rb m tv st n xs X Z T w W) {tv' : Value} {st' : Option (Nat × Nat)} {n' : Nat} {xs' : List Value} (hD : DIs W' rb m tv' st') (hown : W'.ownsRow (rb + 1) 72 3 tv' n' xs') (hE : Ev rb rb W W') : DS F rb m tv' st' n' xs' X Z T w W' := by
  have hr := h.hrb
  have hfr := hE.tree h.hF h.rd.lt (Nat.le_refl _)
  exact ⟨hD, hown, h.cells.ev hE h.hT (by omega) (by omega), h.res.ev hE h.hT (by omega) (by omega), h.ev.trans hE (.inl rfl), fun b hb => (hfr b hb).trans (h.fr b hb), h.hT, h.hrb, h.hF⟩
/-- A block of the struct's own turns. -/
theorem DS.part (h : DS F rb m tv st n xs X Z T w W) {X' : List Value} (hA : At W' (w.heap.size + 1) [] X' [] T) (K : Kept (fun b => b = w.heap.size + 1) W W') : DS F rb m tv st n xs X' Z T w W' := by
  have hr := h.hrb
  have hs := h.ev.size
  refine ⟨h.rd.kept K (fun e => by omega), K.own h.own (fun g e hg => ?_), hA, h.res.kept K (fun e => by omega), Kept.trans h.ev K (fun _ _ e => e) (fun x hx e => absurd e (by omega)), fun b hb => ?_, h.hT, h.hrb, h.hF⟩
  · have := (own_pb h.own g e).2
    rw [hg] at this
    exact h.cells.np h.hT this
  · have := h.hF b hb
    have := h.rd.lt
    rw [K.block b (by omega) (by omega), h.fr b hb]
/-- The answer is laid: what is left. -/
theorem DS.done (h : DS F rb m tv st n xs X Z T w W) : DIs (W.setRow w.heap.size X.toArray) rb m tv st ∧ (W.setRow w.heap.size X.toArray).ownsRow (rb + 1) 72 3 tv n xs ∧ Ev rb rb w (W.setRow w.heap.size X.toArray) := by
  have hr := h.hrb
  have K := setRow_kept W w.heap.size X.toArray
  refine ⟨h.rd.kept K (fun e => by omega), K.own h.own (fun g e hg => ?_), Kept.trans h.ev K (fun _ _ e => e) (fun x hx e => absurd e (by omega))⟩
  have := (own_pb h.own g e).2
  rw [hg] at this
  exact h.res.np h.hT this
end
end Go.Proofs.Ytchfhkfepghfjaa

namespace Go.Proofs.Ytchfhkfepghfjaa
open Go.RowKit

def conz : List Value := .string (str []) :: .string (str []) :: exz
def conL : Array Value := #[.string ⟨#[]⟩, .string ⟨#[]⟩, .int .i64 0, .int .i64 0, .string ⟨#[]⟩, .complex .f64 0 0, .string ⟨#[]⟩, .string ⟨#[]⟩, .slice none 0 0, .slice none 0 0, .slice none 0 0]
theorem conL_conz : conL = conz.toArray := by kernel_rfl
theorem sizeCon : (Try.prog.info? 115).map (fun i => i.size) = some 11 := by kernel_rfl
theorem at_con (w : World) : At (w.alloc (.cells conL 115)) w.heap.size [] conz [] 115 := by
  rw [conL_conz]
  exact at_new w _ _
def ConstQ (rb : Nat) (m : List UInt8) (st : Option (Nat × Nat)) (t : Tr) (L : Nat) (w : World) (e : Ending) (w' : World) : Prop :=
  ∃ X tv' n xs, e = .returned (.agg X.toArray) ∧ X.length = 11 ∧ X.all (fun v => v.oneCell') = true ∧ DIs w' rb m tv' (orE st (constP m t)) ∧ w'.ownsRow (rb + 1) 72 3 tv' n xs ∧ n ≤ L ∧ Ev rb rb w w' ∧
    (st = none → ∀ c, constP m t = .ok c → n = 0 ∧ ∃ kv pv av, X = .string (str c.1) :: .string (str c.2.1) :: exc c.2.2 kv pv av ∧ XI (FN w.heap.size w') w' kv pv av c.2.2)
theorem orE_trip {α β γ δ : Type} (st : Option (Nat × Nat)) (r : PR α) (s : PR β) (q : PR γ) (f : α → β → γ → δ) : orE st (r.bind (fun x => s.bind (fun y => q.bind (fun z => .ok (f x y z))))) = orE (orE (orE st r) s) q := by
  cases st <;> cases r <;> cases s <;> cases q <;> rfl
theorem trip_ok {α β γ δ : Type} {r : PR α} {s : PR β} {q : PR γ} {f : α → β → γ → δ} {c : δ} (h : r.bind (fun x => s.bind (fun y => q.bind (fun z => .ok (f x y z)))) = .ok c) : ∃ x y z, r = .ok x ∧ s = .ok y ∧ q = .ok z ∧ c = f x y z := by
  cases r with
  | error e => cases h
  | ok x => cases s with
    | error e => cases h
    | ok y => cases q with
      | error e => cases h
      | ok z => cases h; exact ⟨x, y, z, rfl, rfl, rfl, rfl⟩
theorem XI.two {lo a b : Nat} {u v1 v2 : World} {kv pv av : Value} {e : Ex} (h : XI (FN lo u) u kv pv av e) (K1 : Kept (fun k => k = a) u v1) (K2 : Kept (fun k => k = b) v1 v2) (ha : a < lo) (hb : b < lo) {lo' : Nat} (hl : lo' ≤ lo) : XI (FN lo' v2) v2 kv pv av e := by
  refine h.frame fun g hg => ?_
  have h1 := hg.1
  have e1 := K1.block g hg.2.1 (by omega)
  have e2 := K2.block g (Nat.lt_of_lt_of_le hg.2.1 K1.size) (by omega)
  have e3 := e2.trans e1
  exact ⟨⟨by omega, Nat.lt_of_lt_of_le hg.2.1 (Nat.le_trans K1.size K2.size), fun ⟨cur, fz, e⟩ => hg.2.2 ⟨cur, fz, e3.symm.trans e⟩⟩, e3⟩
set_option maxHeartbeats 2000000 in
set_option maxRecDepth 1000000 in
theorem readConst (F : Nat → Prop) (t : Tr) (tg tj : Nat) (w : World) (rb : Nat) (m : List UInt8) (tv : Value) (st : Option (Nat × Nat)) (hs : Sw st) (n : Nat) (xs : List Value) (h : DIs w rb m tv st) (ho : w.ownsRow (rb + 1) 72 3 tv n xs) (hst : st = none → n = 0) (hT : PT F w tg tj t) (hF : ∀ b, F b → b < rb) (htx : TxOk t) (hnd : nodes t ≤ 20000) (hm : m.length ≤ 8192) (L : Nat) (hL : 20000 ≤ L) (hL2 : L ≤ 90000) (hn : n ≤ L) (hlen : 4 ≤ t.kids.length) :
    Calls Try.prog 56 #[.pointer (some ⟨rb, 0, none⟩), .pointer (some ⟨tg, tj, none⟩)] w (ConstQ rb m st t (L + 1) w) := by
  have hrb := h.lt
  obtain ⟨hFg, kv, hTw, p0, p1, p2, p3⟩ := hT
  obtain ⟨g1, kc, hkv, hFg1, hkc, hcut⟩ := hTw.cut (by omega)
  obtain ⟨g2, c2, hk2, hP1⟩ := hTw.kid 1 (by omega)
  rw [hkv] at hk2
  simp only [Value.slice.injEq, Option.some.injEq, Addr.mk.injEq, and_true, true_and] at hk2
  obtain ⟨rfl, rfl⟩ := hk2
  obtain ⟨g2, c2, hk2, hP2⟩ := hTw.kid 2 (by omega)
  rw [hkv] at hk2
  simp only [Value.slice.injEq, Option.some.injEq, Addr.mk.injEq, and_true, true_and] at hk2
  obtain ⟨rfl, rfl⟩ := hk2
  obtain ⟨g2, c2, hk2, hP3⟩ := hTw.kid 3 (by omega)
  rw [hkv] at hk2
  simp only [Value.slice.injEq, Option.some.injEq, Addr.mk.injEq, and_true, true_and] at hk2
  obtain ⟨rfl, rfl⟩ := hk2
  rw [hkv] at p3
  rw [Nat.one_mul] at hP1
  have hP2' : PT F w g1 8 (kid t 2) := hP2
  have hP3' : PT F w g1 12 (kid t 3) := hP3
  have hkt := ((TxOk_iff _).1 htx).2
  have ht1 := hkt (kid t 1) (kid_mem (by omega))
  have ht2 := hkt (kid t 2) (kid_mem (by omega))
  have ht3 := hkt (kid t 3) (kid_mem (by omega))
  have hnk : ∀ i, i < t.kids.length → nodes (kid t i) ≤ 20000 := fun i hi => by
    have := mem_nodes (kid_mem (t := t) hi)
    have := nodes_eq t
    omega
  have hn2 := hnk 2 (by omega)
  have hn3 := hnk 3 (by omega)
  have hb0 : Below w.heap.size w ((w.alloc (.cells #[.string ⟨#[]⟩, .string ⟨#[]⟩, .int .i64 0, .int .i64 0, .string ⟨#[]⟩, .complex .f64 0 0, .string ⟨#[]⟩, .string ⟨#[]⟩, .slice none 0 0, .slice none 0 0, .slice none 0 0] 115)).alloc (.cells #[.string ⟨#[]⟩, .string ⟨#[]⟩, .int .i64 0, .int .i64 0, .string ⟨#[]⟩, .complex .f64 0 0, .string ⟨#[]⟩, .string ⟨#[]⟩, .slice none 0 0, .slice none 0 0, .slice none 0 0] 115)) := ((Below.refl _ _).alloc (Nat.le_refl _) _).alloc (by simp) _
  have hA4 : At ((w.alloc (.cells #[.string ⟨#[]⟩, .string ⟨#[]⟩, .int .i64 0, .int .i64 0, .string ⟨#[]⟩, .complex .f64 0 0, .string ⟨#[]⟩, .string ⟨#[]⟩, .slice none 0 0, .slice none 0 0, .slice none 0 0] 115)).alloc (.cells #[.string ⟨#[]⟩, .string ⟨#[]⟩, .int .i64 0, .int .i64 0, .string ⟨#[]⟩, .complex .f64 0 0, .string ⟨#[]⟩, .string ⟨#[]⟩, .slice none 0 0, .slice none 0 0, .slice none 0 0] 115)) w.heap.size [] conz [] 115 := (Below.heap_alloc _ _ _ (by simp)).trans (at_con w)
  have hA5 : At ((w.alloc (.cells #[.string ⟨#[]⟩, .string ⟨#[]⟩, .int .i64 0, .int .i64 0, .string ⟨#[]⟩, .complex .f64 0 0, .string ⟨#[]⟩, .string ⟨#[]⟩, .slice none 0 0, .slice none 0 0, .slice none 0 0] 115)).alloc (.cells #[.string ⟨#[]⟩, .string ⟨#[]⟩, .int .i64 0, .int .i64 0, .string ⟨#[]⟩, .complex .f64 0 0, .string ⟨#[]⟩, .string ⟨#[]⟩, .slice none 0 0, .slice none 0 0, .slice none 0 0] 115)) (w.heap.size + 1) [] conz [] 115 := by
    have := at_con (w.alloc (.cells #[.string ⟨#[]⟩, .string ⟨#[]⟩, .int .i64 0, .int .i64 0, .string ⟨#[]⟩, .complex .f64 0 0, .string ⟨#[]⟩, .string ⟨#[]⟩, .slice none 0 0, .slice none 0 0, .slice none 0 0] 115))
    rw [show (w.alloc (.cells #[.string ⟨#[]⟩, .string ⟨#[]⟩, .int .i64 0, .int .i64 0, .string ⟨#[]⟩, .complex .f64 0 0, .string ⟨#[]⟩, .string ⟨#[]⟩, .slice none 0 0, .slice none 0 0, .slice none 0 0] 115)).heap.size = w.heap.size + 1 by simp] at this
    exact this
  have hds : DS F rb m tv st n xs conz conz 115 w ((w.alloc (.cells #[.string ⟨#[]⟩, .string ⟨#[]⟩, .int .i64 0, .int .i64 0, .string ⟨#[]⟩, .complex .f64 0 0, .string ⟨#[]⟩, .string ⟨#[]⟩, .slice none 0 0, .slice none 0 0, .slice none 0 0] 115)).alloc (.cells #[.string ⟨#[]⟩, .string ⟨#[]⟩, .int .i64 0, .int .i64 0, .string ⟨#[]⟩, .complex .f64 0 0, .string ⟨#[]⟩, .string ⟨#[]⟩, .slice none 0 0, .slice none 0 0, .slice none 0 0] 115)) := ⟨h.below hb0 hrb, owns_below ho hb0, hA5, hA4, Ev.of_below hb0, fun b hb => hb0.block b (by have := hF b hb; omega), by decide, hrb, hF⟩
  have hrn := readName_Bind F (kid t 1) g1 4 ((w.alloc (.cells #[.string ⟨#[]⟩, .string ⟨#[]⟩, .int .i64 0, .int .i64 0, .string ⟨#[]⟩, .complex .f64 0 0, .string ⟨#[]⟩, .string ⟨#[]⟩, .slice none 0 0, .slice none 0 0, .slice none 0 0] 115)).alloc (.cells #[.string ⟨#[]⟩, .string ⟨#[]⟩, .int .i64 0, .int .i64 0, .string ⟨#[]⟩, .complex .f64 0 0, .string ⟨#[]⟩, .string ⟨#[]⟩, .slice none 0 0, .slice none 0 0, .slice none 0 0] 115)) rb m tv st hds.rd hs (hP1.frame hds.fr) hF ((TxOk_iff _).1 ht1).1
  rw [suchP_bind] at hrn
  have b3 := hds.tcell hFg p3
  have l1 : (1 : Int) < (t.kids.length : Int) := by omega
  have l2 : (2 : Int) < (t.kids.length : Int) := by omega
  have l3 : (3 : Int) < (t.kids.length : Int) := by omega
  have hsw2 : Sw (orE st (nameP (kid t 1))) := sw_orE hs (fun e he => nameP_err he)
  have hsw4 : Sw (orE (orE st (nameP (kid t 1))) (readR m (kid t 2))) := sw_orE hsw2 (fun e he => readR_err he)
  clear hb0 hA4 hA5 hTw hcut hkv hP1 hP2 hP3 p0 p1 p2 hkt hnk h ho
  go_enter Try.func56, Try.ntmps56
  go_wp2_with fail
  refine hrn.mono ?_
  rintro e w2 ⟨rfl, hD2, hK2⟩
  have hd2 := hds.call hD2 hK2
  obtain ⟨c0, f0⟩ := hd2.cell 0 (v := .string (str [])) rfl
  have hd3 := hd2.set 0 (by decide) (.string (str (kid t 1).text))
  have b3' := hd3.tcell hFg p3
  have hrt := readType F (kid t 2) g1 8 _ rb m tv _ hd3.rd hsw2 (hP2'.frame hd3.fr) hF ht2 hn2 hm
  clear hrn hD2 hK2 hd2 hds b3
  go_wp2_with fail
  refine hrt.mono ?_
  rintro e w4 ⟨x, rfl, hx, hD4, hK4⟩
  have HX : Hid (∀ y, readR m (kid t 2) = .ok y → x = y) := hx
  have hd4 := hd3.call hD4 hK4
  obtain ⟨c1, f1⟩ := hd4.cell 1 (v := .string (str [])) rfl
  have hd5 := hd4.set 1 (by simp [conz]) (.string (str x))
  have b5 := hd5.tcell hFg p3
  have hre := readExprB F (kid t 3) g1 12 _ rb m tv _ hsw4 n xs hd5.rd hd5.own (fun e => hst (orE_none (orE_none e).1).1) (hP3'.frame hd5.fr) hF ht3 hn3 hm L hL hL2 hn
  have hsz5 := hd5.lt
  clear hrt hx hD4 hK4 hd4 hd3 b3' c0 f0
  go_wp2_with fail
  generalize w4.setCell ⟨w.heap.size + 1, 1, none⟩ (.string (str x)) = w5 at *
  refine hre.mono ?_
  rintro e w6 ⟨X6, tv6, n6, xs6, rfl, hX9, hD6, hown6, hn6, hE6, hok6⟩
  have hd6 := hd5.expr hD6 hown6 hE6
  have hA6 : At w6 (w.heap.size + 1) [.string (str (kid t 1).text), .string (str x)] exz [] 115 := hd6.cells
  have hi9 : (Try.prog.info? 36).map (fun i => i.size) = some X6.length := by rw [sizeX, hX9.1]
  have hl9 : exz.length = X6.length := hX9.1.symm
  have hi11 : (Try.prog.info? 115).map (fun i => i.size) = some (.string (str (kid t 1).text) :: .string (str x) :: X6 : List Value).toArray.size := by rw [sizeCon, List.size_toArray, List.length_cons, List.length_cons, hX9.1]
  have hall : ((.string (str (kid t 1).text) :: .string (str x) :: X6 : List Value).toArray.all fun v => v.oneCell') = true := by
    simp only [List.all_toArray, List.all_cons]
    rw [hX9.2]
    rfl
  have hsz11 : conz.toArray.size = (.string (str (kid t 1).text) :: .string (str x) :: X6 : List Value).toArray.size := by rw [List.size_toArray, List.size_toArray, List.length_cons, List.length_cons, hX9.1]; rfl
  have HQ : Hid (∀ w7, At w7 (w.heap.size + 1) [.string (str (kid t 1).text), .string (str x)] X6 [] 115 → Kept (fun b => b = w.heap.size + 1) w6 w7 → w7.heap[w.heap.size + 1]? = some (.cells (.string (str (kid t 1).text) :: .string (str x) :: X6 : List Value).toArray 115 (0, 0)) ∧ w7.heap[w.heap.size]? = some (.cells conz.toArray 115 (0, 0)) ∧
      ConstQ rb m st t (L + 1) w (.returned (.agg (.string (str (kid t 1).text) :: .string (str x) :: X6 : List Value).toArray)) (w7.setRow w.heap.size (.string (str (kid t 1).text) :: .string (str x) :: X6 : List Value).toArray)) := by
    rw [hid_iff]
    intro w7 hA7 K7
    have hd7 : DS F rb m tv6 _ n6 xs6 (.string (str (kid t 1).text) :: .string (str x) :: X6) conz 115 w w7 := hd6.part (by unfold At at hA7 ⊢; rw [hA7]; rfl) K7
    refine ⟨?_, ?_, ?_⟩
    · have := hd7.cells
      unfold At at this
      rwa [List.nil_append, List.append_nil] at this
    · have := hd7.res
      unfold At at this
      rwa [List.nil_append, List.append_nil] at this
    · obtain ⟨j1, j2, j3⟩ := hd7.done
      refine ⟨_, tv6, n6, xs6, rfl, by rw [List.length_cons, List.length_cons, hX9.1], by simpa using hall, ?_, j2, hn6, j3, fun hs0 c hc => ?_⟩
      · unfold constP
        rw [orE_trip]
        exact j1
      · unfold constP at hc
        obtain ⟨a1, a2, a3, e1, e2, e3, rfl⟩ := trip_ok hc
        subst hs0
        have hnone : orE (orE none (nameP (kid t 1))) (readR m (kid t 2)) = none := by rw [e1, e2]; rfl
        obtain ⟨k1, kv, pv, av, k2, k3⟩ := hok6 hnone a3 e3
        refine ⟨k1, kv, pv, av, ?_, k3.two K7 (setRow_kept w7 w.heap.size _) (by omega) (by omega) (by omega)⟩
        rw [nameP_ok e1, ← HX.out a2 e2, k2]
  clear hre hd5 hD6 hown6 hE6 hok6 hd6 b5 c1 f1
  go_wp2_with (first
    | (refine wpList_store_part rfl 36 (.tmp 29) (.tmp 28) rfl (w.heap.size + 1) 2 X6 rfl rfl [.string (str (kid t 1).text), .string (str x)] exz [] 115 hA6 rfl hl9 hi9 hX9.2 ?_; intro w7 hA7 K7; obtain ⟨hrow7, hres7, hQ7⟩ := HQ.out w7 hA7 K7)
    | (refine wpList_load_row rfl 115 (.tmp 5) rfl (w.heap.size + 1) rfl 115 _ (0, 0) _ hrow7 Try.underlying115 rfl hi11 ?_)
    | (refine wpList_store_row rfl 115 (.tmp 4) (.tmp 30) rfl w.heap.size (.string (str (kid t 1).text) :: .string (str x) :: X6 : List Value).toArray rfl rfl 115 conz.toArray hres7 hi11 hsz11 hall ?_))
  (try simp only [Exit.inBlock, Exit.then])
  refine bodyPost_ret (results_cell_row rfl _ _ w.heap.size 115 _ (0, 0) _ rfl (setRow_heap w7 w.heap.size _ _ 115 (0, 0) hres7) Try.underlying115 rfl hi11) rfl ?_
  exact hQ7
end Go.Proofs.Ytchfhkfepghfjaa
