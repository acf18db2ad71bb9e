/-
  One more state waits for a place: memory's side of it.
-/
import Derived.Test.YtdeckknfolaaeaaGreatDoorG20
import Derived.Test.YtdeckknfolaaeaaGreatDoorG21
namespace Go.Proofs.YtdeckknfolaaeaaGreatDoor
open Go.RowKit Go.Maps

theorem wait_snoc_same (wt : List (Int × St)) (p : Int) (s : St) : waitS (wt ++ [(p, s)]) p = waitS wt p ++ [s] := by
  simp [waitS]
theorem wait_snoc_other (wt : List (Int × St)) {p q : Int} (s : St) (h : q ≠ p) : waitS (wt ++ [(p, s)]) q = waitS wt q := by
  have h' : ¬ p = q := fun e => h e.symm
  simp [waitS, h']
theorem flat_len (ps : List (St × Value × Value)) : (ps.flatMap fun q => [q.2.1, q.2.2]).length = ps.length * 2 := by
  induction ps with
  | nil => rfl
  | cons p r ih => rw [List.flatMap_cons, List.length_append, ih, List.length_cons]; simp; omega
/-- A state put behind those that wait. -/
theorem RowV.more {col col' : Nat → Tag} {S : Tag → Prop} {w w' : World} {p : Int} {ss : List St} {g cap : Nat} {s : St} {v3 v4 : Value}
    (hps : ∃ ps : List (St × Value × Value), ps.map (·.1) = ss ∧ w'.ownsRow 0 95 2 (.slice (some ⟨g, 0, none⟩) (ss.length + 1) cap) (ss.length + 1) ((ps.flatMap fun q => [q.2.1, q.2.2]) ++ [v3, v4]) ∧ ∀ (i : Nat) q, ps[i]? = some q → SkR col (2, p, i) w q.2.1 q.1.stack ∧ LcR col (3, p, i) w q.2.2 q.1.locals)
    (hK : Kc col S w w') (hA : Agr w.heap.size col col') (hS : ∀ t, S t → t.1 = 1 ∨ 3 < t.1) (hg : col' g = (1, p, 0)) (h3 : SkR col' (2, p, ss.length) w' v3 s.stack) (h4 : LcR col' (3, p, ss.length) w' v4 s.locals) : RowV col' w' p (.slice (some ⟨g, 0, none⟩) (ss.length + 1) cap) (ss ++ [s]) := by
  obtain ⟨ps, rfl, h2, h5⟩ := hps
  refine ⟨ps ++ [(s, v3, v4)], by simp, ?_, fun g' hg' => ?_, fun i q hq => ?_⟩
  · rw [List.length_append, List.flatMap_append]
    simpa using h2
  · simp only [Value.ownBlock, Option.some.injEq] at hg'
    rw [← hg']; exact hg
  · rw [List.getElem?_append] at hq
    split at hq
    · obtain ⟨a, b⟩ := h5 i q hq
      exact ⟨a.kept hK hA (fun hs => by have := hS _ hs; simp at this), b.kept hK hA (fun hs => by have := hS _ hs; simp at this)⟩
    · rename_i hlt
      have hi : i - ps.length = 0 := by
        have := (List.getElem?_eq_some_iff.1 hq).1
        simp at this
        omega
      rw [hi] at hq
      simp only [List.getElem?_cons_zero, Option.some.injEq] at hq
      subst hq
      have : i = (ps.map (·.1)).length := by simp; omega
      rw [this]
      exact ⟨h3, h4⟩
theorem owns_zero {w : World} {B e sz n : Nat} {v : Value} {xs : List Value} (h : w.ownsRow B e sz v n xs) : w.ownsRow 0 e sz v n xs := by
  refine ⟨h.1, ?_⟩
  rcases h.2 with hn | ⟨g, cap, cur, rfl, h2, h3⟩
  · exact .inl hn
  · exact .inr ⟨g, cap, cur, rfl, Nat.zero_le _, h3⟩
/-- Whose the blocks are behind goTo. -/
def colG (col : Nat → Tag) (n : Nat) (v3 v4 : Value) (p : Int) (L g : Nat) : Nat → Tag := fun x => if x < n then col x else if v3.ownBlock = some x then (2, p, L) else if v4.ownBlock = some x then (3, p, L) else if x = g then (1, p, 0) else (9, 0, 0)
theorem go_more {col : Nat → Tag} {w : World} {wb : Nat} {u : ObV} {m res : List UInt8} {sy : Value} {mb n : Nat} {ps : List Int} {cur : Int} {k : Wk} {sv lv : Value} (h : VwR col w wb u m res sy mb n ps cur k sv lv) {p : Int} (hp : p ∈ ps) (_hcp : cur < p) {f : Int → Option Value} {rv : Value} (hM : MapI w mb n f) (hmt : col mb = (6, 0, 0)) (hf : ∀ q, (f q).isSome = decide (q ∈ ps)) (hr : ∀ q ∈ ps, cur < q → ∃ v, f q = some v ∧ RowV col w q v (waitS k.wt q))
    (hrt : ∀ g, rv.ownBlock = some g → g < w.heap.size ∧ col g = (1, p, 0))
    {nx : List (List UInt8)} {v3 v4 : Value} {wx Y w5 w6 : World} {g cap : Nat} (hst : wx.ownsRow w.heap.size 9 1 v3 nx.length (sc nx)) (hlo : NewR w.heap.size wx v4 k.st.locals) (hne : ∀ g, v3.ownBlock = some g → v4.ownBlock ≠ some g) (hbl : Below w.heap.size w wx) (hY : Below wx.heap.size wx Y)
    (h5o : ∃ qs : List (St × Value × Value), qs.map (·.1) = waitS k.wt p ∧ (∀ (i : Nat) q, qs[i]? = some q → SkR col (2, p, i) w q.2.1 q.1.stack ∧ LcR col (3, p, i) w q.2.2 q.1.locals) ∧ w5.ownsRow 0 95 2 (.slice (some ⟨g, 0, none⟩) ((waitS k.wt p).length + 1) cap) ((waitS k.wt p).length + 1) ((qs.flatMap fun q => [q.2.1, q.2.2]) ++ [v3, v4]))
    (h5g : Y.grownBy w5 rv.ownBlock) (h5b : rv.ownBlock = some g ∨ g = Y.heap.size) (h6 : MapI w6 mb (n + 1) (fun x => if x = p then some (.slice (some ⟨g, 0, none⟩) ((waitS k.wt p).length + 1) cap) else f x)) (h6g : w5.grownBy w6 (some mb)) :
    Kc col ownT w w6 ∧ VwQ col w wb u m res sy mb (n + 1) ps cur ⟨k.st, k.wt ++ [(p, ⟨nx, k.st.locals⟩)]⟩ w6 := by
  have hz1 := hbl.size
  have hz2 := hY.size
  have hmb := hM.lt
  have b3 : ∀ x, v3.ownBlock = some x → w.heap.size ≤ x ∧ x < wx.heap.size := fun x hx => hst.lt x hx
  have b4 : ∀ x, v4.ownBlock = some x → w.heap.size ≤ x ∧ x < wx.heap.size := fun x hx => hlo.blk hx
  have hA : Agr w.heap.size col (colG col w.heap.size v3 v4 p (waitS k.wt p).length g) := fun x hx => by simp [colG, hx]
  have hg1 : colG col w.heap.size v3 v4 p (waitS k.wt p).length g g = (1, p, 0) := by
    rcases h5b with e | e
    · obtain ⟨q1, q2⟩ := hrt g e
      rw [hA g q1, q2]
    · have e1 : ¬ g < w.heap.size := by omega
      have e2 : v3.ownBlock ≠ some g := fun h => by have := b3 g h; omega
      have e3 : v4.ownBlock ≠ some g := fun h => by have := b4 g h; omega
      simp [colG, e1, e2, e3]
  have old : ∀ x, x < wx.heap.size → rv.ownBlock ≠ some x → x ≠ mb → w6.heap[x]? = wx.heap[x]? := fun x h1 h2 h3 =>
    (h6g.block x (Nat.lt_of_lt_of_le (Nat.lt_of_lt_of_le h1 hz2) h5g.size) (by simpa using h3)).trans ((h5g.block x (Nat.lt_of_lt_of_le h1 hz2) (fun e => h2 e.symm)).trans (hY.block x h1))
  have hK : Kc col (fun t => t = (1, p, 0) ∨ t = (6, 0, 0)) w w6 := ⟨h6g.os.trans (h5g.os.trans (hY.os.trans hbl.os)), h6g.tape.trans (h5g.tape.trans (hY.tape.trans hbl.tape)), h6g.output.trans (h5g.output.trans (hY.output.trans hbl.output)), by have := h6g.size; have := h5g.size; omega, fun x hx hn => by
    refine (old x (by omega) (fun e => hn (.inl (hrt x e).2)) (fun e => hn (.inr (by rw [e]; exact hmt)))).trans (hbl.block x hx)⟩
  have hgm : g ≠ mb := by
    intro e
    have h1 := hA mb hmb
    rw [← e, hg1, e, hmt] at h1
    cases h1
  have hin : ∀ t : Tag, (t = (1, p, 0) ∨ t = (6, 0, 0)) → ownT t := fun t ht => by
    rcases ht with rfl | rfl <;> simp [ownT]
  have new : ∀ x, w.heap.size ≤ x → x < wx.heap.size → w6.heap[x]? = wx.heap[x]? := fun x h1 h2 => old x h2 (fun e => by have := (hrt x e).1; omega) (by omega)
  refine ⟨hK.mono hin, _, sv, lv, hA, ⟨⟨(hK.block wb h.base.lt (by show ¬ (col wb = _ ∨ col wb = _); rw [h.base.tag]; simp)).trans h.base.box, (hA wb h.base.lt).trans h.base.tag, _, h6, (hA mb hmb).trans hmt, fun q => ?_, fun q hq hc => ?_⟩, h.stack.kept hK hA (by simp), h.locs.kept hK hA (by simp)⟩⟩
  · by_cases e : q = p
    · subst e
      simp [hp]
    · simp only [if_neg e]
      exact hf q
  · by_cases e : q = p
    · subst e
      refine ⟨_, if_pos rfl, ?_⟩
      rw [wait_snoc_same]
      obtain ⟨qs, q1, q2, q3⟩ := h5o
      have hs3 : SkR (colG col w.heap.size v3 v4 q (waitS k.wt q).length g) (2, q, (waitS k.wt q).length) w6 v3 nx := ⟨owns_zero (owns_same hst fun x hx => new x (b3 x hx).1 (b3 x hx).2), fun x hx => by have := b3 x hx; simp [colG, hx, Nat.not_lt.2 this.1]⟩
      have hs4 : LcR (colG col w.heap.size v3 v4 q (waitS k.wt q).length g) (3, q, (waitS k.wt q).length) w6 v4 k.st.locals := by
        rcases hlo with ⟨e1, c, e2⟩ | hlo'
        · exact .inl ⟨e1, none, c, e2⟩
        · exact .inr ⟨owns_zero (owns_same hlo' fun x hx => new x (b4 x hx).1 (b4 x hx).2), fun x hx => by
            have h1 := b4 x hx
            have h2 : v3.ownBlock ≠ some x := fun e => hne x e hx
            simp [colG, hx, h2, Nat.not_lt.2 h1.1]⟩
      exact RowV.more (s := ⟨nx, k.st.locals⟩) ⟨qs, q1, owns_same q3 (fun x hx => h6g.block x (q3.lt x hx).2 (fun e => by
        simp only [Value.ownBlock, Option.some.injEq] at hx e
        exact hgm (hx.trans e))), q2⟩ hK hA (fun t ht => by rcases ht with rfl | rfl <;> simp) hg1 hs3 hs4
    · simp only [if_neg e]
      obtain ⟨v, e1, e2⟩ := hr q hq hc
      refine ⟨v, e1, ?_⟩
      rw [wait_snoc_other _ _ e]
      exact e2.kept hK hA fun t ht => by
        rcases ht with rfl | rfl
        · exact .inl (fun h => e h.symm)
        · exact .inr (.inl (by decide))
end Go.Proofs.YtdeckknfolaaeaaGreatDoor
