/-
  Rows of slices (the book's lists and copies): append of one more, and what a Book is in memory.
-/
import Derived.Test.YtbheccioeiemfaaRoom
namespace Go.Proofs.Ytbheccioeiemfaa
open Go.RowKit

/-- A row of slices that lies behind the slice 'v'. -/
def Cols (w : World) (v : Value) (vs : List Value) : Prop :=
  (v = .slice none 0 0 ∧ vs = []) ∨ ∃ g off cap cur, v = .slice (some ⟨g, off, none⟩) vs.length cap ∧ w.heap[g]? = some (.cells cur 24 (0, 0)) ∧ vs.length ≤ cap ∧ cap ≤ maxLen ∧ off + cap ≤ cur.size ∧ (cur.toList.drop off).take vs.length = vs

theorem Cols.lt {w : World} {v : Value} {vs : List Value} (h : Cols w v vs) {k : Nat} (hk : v.ownBlock = some k) : k < w.heap.size := by
  rcases h with ⟨rfl, _⟩ | ⟨g, off, cap, cur, rfl, hg, _⟩
  · simp [Value.ownBlock] at hk
  · simp [Value.ownBlock] at hk
    subst hk
    exact (Array.getElem?_eq_some_iff.1 hg).1
theorem Cols.of_block {w w' : World} {v : Value} {vs : List Value} (h : Cols w v vs) (e : ∀ k, v.ownBlock = some k → w'.heap[k]? = w.heap[k]?) : Cols w' v vs := by
  rcases h with h | ⟨g, off, cap, cur, rfl, hg, rest⟩
  · exact .inl h
  · exact .inr ⟨g, off, cap, cur, rfl, (e g rfl).trans hg, rest⟩
theorem Cols.kept {S : Nat → Prop} {w w' : World} {v : Value} {vs : List Value} (h : Cols w v vs) (k : Kept S w w') (hS : ∀ i, v.ownBlock = some i → ¬ S i) : Cols w' v vs :=
  h.of_block fun i hi => k.block i (h.lt hi) (hS i hi)
theorem Cols.cell {w : World} {g off cap n : Nat} {vs : List Value} (h : Cols w (.slice (some ⟨g, off, none⟩) n cap) vs) (j : Nat) (hj : j < vs.length) : w.cell? ⟨g, off + j, none⟩ = some vs[j] := by
  rcases h with ⟨h, _⟩ | ⟨g', off', cap', cur, h, hg, _, _, hs, ht⟩
  · simp at h
  · simp at h
    obtain ⟨⟨rfl, rfl⟩, rfl, rfl⟩ := h
    have e : vs[j]? = (cur.toList.drop off)[j]? := by
      rw [← ht, List.getElem?_take, if_pos (by omega)]
    rw [cell_of_row w g _ cur 24 (0, 0) hg]
    rw [List.getElem?_eq_getElem hj, List.getElem?_drop] at e
    rw [← Array.getElem?_toList, ← e]

/-- append of one more slice. -/
theorem run_append_col {P : Program} (w : World) (ty : TypeId) (ht : P.underlying 60 = some (.slice 24)) (hinfo : (P.info? 24).map (fun i => (i.zero, i.size, i.bytes)) = some (some (.slice none 0 0), 1, 24))
    {v : Value} {vs : List Value} (hv : Cols w v vs) {x y : Value} (hs : Src P 1 60 x 1 [y] w) (hlen : vs.length ≤ 1000000) :
    ∃ v' w', (Builtin.append_ #[60, 60] ty #[v, x]).run P w = .ok v' w' ∧ Cols w' v' (vs ++ [y]) ∧ (v'.ownBlock = v.ownBlock ∨ v'.ownBlock = some w.heap.size) ∧ w.grownBy w' v.ownBlock := by
  obtain ⟨i, hi, hz0, hz1, hz2⟩ := info_parts hinfo
  have hll : (vs ++ [y]).length = vs.length + 1 := by simp
  have grown : ∀ (ao : Option Addr) (old : Nat), old < vs.length + 1 → (Builtin.firstCells i.size vs.length (.slice ao vs.length old)).run P w.drew = .ok vs.toArray w.drew →
      ∃ v' w', (Builtin.append_ #[60, 60] ty #[.slice ao vs.length old, x]).run P w = .ok v' w' ∧ Cols w' v' (vs ++ [y]) ∧ v'.ownBlock = some w.heap.size ∧ w.grownBy w' none := by
    intro ao old ho hold
    have hr := run_append_grow_src (P := P) w 60 60 ty 24 i (.slice none 0 0) ht hi hz0 ao vs.length old vs hold x 1 [y] (by rw [hz1]; exact hs) ho (by omega) (growslice_fits ho (by rw [hz2]; omega))
    refine ⟨_, _, hr, .inr ⟨w.heap.size, 0, _, _, by rw [hll], heap_alloc_new w.drew _, by rw [hll]; exact grownCap_ge w _ old 24, grownCap_le_maxLen w _ old 24 (by unfold maxLen; omega), ?_, ?_⟩, rfl, ⟨rfl, rfl, rfl, by simp, fun k hk _ => Below.heap_alloc w.drew _ k hk⟩⟩
    · have hge := grownCap_ge w (vs.length + 1) old 24
      simp [size_zeroCells, Value.cells]
      omega
    · simp only [Array.toList_append, List.drop_zero]
      exact List.take_left
  rcases hv with ⟨rfl, rfl⟩ | ⟨g, off, cap, cur, rfl, hg, hnc, hcm, hcs, htake⟩
  · obtain ⟨v', w', h1, h2, h3, h4⟩ := grown none 0 (by simp) (by simp [Builtin.firstCells])
    exact ⟨v', w', h1, h2, Or.inr h3, h4⟩
  · by_cases hroom : vs.length + 1 ≤ cap
    · have hr := run_append_room_src (P := P) w 60 60 ty 24 i ht hi g off vs.length cap x 1 [y] (by rw [hz1]; exact hs) hroom
        (by
          intro j hj
          simp at hj
          rw [hz1, cell_of_row w g _ cur 24 (0, 0) hg, Array.getElem?_eq_getElem (by omega)]
          rfl)
        (by intro j hj; exact frozen_of_row w g _ cur 24 hg)
      have hh := setCells_heap 24 (0, 0) g [y] (off + vs.length * i.size) w cur hg (by rw [hz1]; simp; omega)
      refine ⟨_, _, hr, .inr ⟨g, off, cap, _, by rw [hll], hh, by rw [hll]; exact hroom, hcm, ?_, ?_⟩, Or.inl rfl, ?_⟩
      · simp [hz1]; omega
      · simp only [hz1, Nat.mul_one]
        rw [List.append_assoc, List.drop_append_of_le_length (by simp; omega), List.drop_take, show off + vs.length - off = vs.length by omega, htake, ← List.append_assoc]
        exact List.take_left
      · exact ⟨World.os_setCells _ _ _ _, by simp [World.setCells, World.setCell], World.output_setCells _ _ _ _, by simp [World.setCells, World.setCell], fun k hk hne => World.heap_setCells_other _ _ _ _ hk (fun e => hne (by rw [e]; rfl))⟩
    · obtain ⟨v', w', h1, h2, h3, h4⟩ := grown (some ⟨g, off, none⟩) cap (by omega) (by
        rw [hz1]
        refine run_firstCells_some w.drew 1 vs.length ⟨g, off, none⟩ vs.length cap vs (by omega) ?_
        intro j u hu
        have hj := (List.getElem?_eq_some_iff.1 hu).1
        have hc := Cols.cell (.inr ⟨g, off, cap, cur, rfl, hg, hnc, hcm, hcs, htake⟩) j hj
        have e : (⟨g, off, none⟩ : Addr).add j = ⟨g, off + j, none⟩ := by unfold Addr.add; split <;> simp_all
        rw [e]
        rw [List.getElem?_eq_getElem hj] at hu
        simp at hu
        subst hu
        exact hc)
      exact ⟨v', w', h1, h2, Or.inr h3, ⟨h4.os, h4.tape, h4.output, h4.size, fun k hk _ => h4.block k hk (by simp)⟩⟩

/-- The same at the operation, for the walk. -/
theorem wpList_append_col {P : Program} (w : World) {ops : Array Oper} {rest : List Oper} {o : Oper} {a : Act} {Q : Exit → Act → World → Prop} (hgd : o.guard = none) (s x : Operand)
    (ho : o.op = .call { callee := .builtin .append, args := #[s, x], argTypes := #[60, 60] }) (ht : P.underlying 60 = some (.slice 24)) (hinfo : (P.info? 24).map (fun i => (i.zero, i.size, i.bytes)) = some (some (.slice none 0 0), 1, 24))
    (v : Value) (vs : List Value) (hs : a.eval s = v) (hv : Cols w v vs) (xv y : Value) (hx : a.eval x = xv) (hsrc : Src P 1 60 xv 1 [y] w) (hlen : vs.length ≤ 1000000)
    (h : ∀ v' w', Cols w' v' (vs ++ [y]) → (v'.ownBlock = v.ownBlock ∨ v'.ownBlock = some w.heap.size) → w.grownBy w' v.ownBlock → wpList P ops Q rest (a.put o.dst v') w') :
    wpList P ops Q (o :: rest) a w := by
  refine wpList_plain hgd fun K hK => ?_
  obtain ⟨v', w', hr, h2, h3, h4⟩ := run_append_col (P := P) w o.type ht hinfo hv hsrc hlen
  unfold Oper.wp execOp
  simp only [ho, resolve, invoke, builtin, Sem.run_bind, Sem.run_pure, Result.andThen_ok, List.map_toArray, List.map_cons, List.map_nil, hs, hx, hr]
  exact hK _ _ (h v' w' h2 h3 h4)
theorem step_append_col {P : Program} (w : World) {ops : Array Oper} {o : Oper} {a : Act} {K : Act → World → Prop} {Q : Exit → Act → World → Prop} {E : Prop} (hgd : o.guard = none) (s x : Operand)
    (ho : o.op = .call { callee := .builtin .append, args := #[s, x], argTypes := #[60, 60] }) (ht : P.underlying 60 = some (.slice 24)) (hinfo : (P.info? 24).map (fun i => (i.zero, i.size, i.bytes)) = some (some (.slice none 0 0), 1, 24))
    (v : Value) (vs : List Value) (hs : a.eval s = v) (hv : Cols w v vs) (xv y : Value) (hx : a.eval x = xv) (hsrc : Src P 1 60 xv 1 [y] w) (hlen : vs.length ≤ 1000000)
    (h : ∀ v' w', Cols w' v' (vs ++ [y]) → (v'.ownBlock = v.ownBlock ∨ v'.ownBlock = some w.heap.size) → w.grownBy w' v.ownBlock → K (a.put o.dst v') w') :
    if Region.wanted o (yielded ops a.tmps) = true then Oper.wp P o a w K Q else E := by
  have hw : Region.wanted o (yielded ops a.tmps) = true := by simp [Region.wanted, hgd]
  rw [if_pos hw]
  obtain ⟨v', w', hr, h2, h3, h4⟩ := run_append_col (P := P) w o.type ht hinfo hv hsrc hlen
  unfold Oper.wp execOp
  simp only [ho, resolve, invoke, builtin, Sem.run_bind, Sem.run_pure, Result.andThen_ok, List.map_toArray, List.map_cons, List.map_nil, hs, hx, hr]
  exact h v' w' h2 h3 h4
theorem src_col {P : Program} {w : World} (ht : P.underlying 60 = some (.slice 24)) (y : Value) (hy : y.oneCell' = true) (c : Nat) {b : Nat} {t : TypeId} (hb : w.heap[b]? = some (.cells #[y] t (0, 0))) : Src P 1 60 (.slice (some ⟨b, 0, none⟩) 1 c) 1 [y] w := by
  refine Src.ofSlice w ht ⟨b, 0, none⟩ 1 c [y] rfl ?_ (by simpa using hy)
  intro j u hu
  have hj : j = 0 := by
    have := (List.getElem?_eq_some_iff.1 hu).1
    simpa using this
  subst hj
  simp at hu
  subst hu
  simp [World.cell?, hb, Addr.add]
end Go.Proofs.Ytbheccioeiemfaa
