/-
  Rows of structs that a call makes, whatever they hold: one put behind the others; rows of instructions.
-/
import Derived.Deep.AppendLies
import Derived.Test.YtbhcmhbicbhgmaaCodeInst
namespace Go.Proofs.Ytbhcmhbicbhgmaa.Wire
open Go.RowKit

theorem info_z {P : Program} {e : TypeId} {n size bytes : Nat} (h : (P.info? e).map (fun i => (i.zero.map (fun z => z.cells.size), i.size, i.bytes)) = some (some n, size, bytes)) :
    ∃ i z, P.info? e = some i ∧ i.zero = some z ∧ i.size = size ∧ i.bytes = bytes ∧ z.cells.size = n := by
  obtain ⟨i, hi, hzz⟩ := Option.map_eq_some_iff.1 h
  simp only [Prod.mk.injEq] at hzz
  obtain ⟨z, hz, hn⟩ := Option.map_eq_some_iff.1 hzz.1
  exact ⟨i, z, hi, hz, hzz.2.1, hzz.2.2, hn⟩
theorem Kept.own {S : Nat → Prop} {w w' : World} {B e size n : Nat} {v : Value} {xs : List Value} (k : Kept S w w') (h : w.ownsRow B e size v n xs) (hg : ∀ g, v.ownBlock = some g → ¬ S g) : w'.ownsRow B e size v n xs := by
  refine ⟨h.1, ?_⟩
  rcases h.2 with hn | ⟨g, cap, cur, rfl, hb, hgg, rest⟩
  · exact .inl hn
  · exact .inr ⟨g, cap, cur, rfl, hb, (k.block g (Array.getElem?_eq_some_iff.1 hgg).1 (hg g rfl)).trans hgg, rest⟩
theorem add_at (g j : Nat) : (⟨g, 0, none⟩ : Addr).add j = ⟨g, j, none⟩ := by
  unfold Addr.add
  split
  · rename_i h
    subst h
    rfl
  · simp
theorem cells_new (w : World) (xs : List Value) (t : TypeId) : ∀ j u, xs[j]? = some u → (w.alloc (.cells xs.toArray t)).cell? ((⟨w.heap.size, 0, none⟩ : Addr).add j) = some u := by
  intro j u hj
  rw [add_at]
  simpa using hj
/-- What one of a row is by its cells, what it holds lying in blocks of F. -/
abbrev Cel (α : Type) : Type := (Nat → Prop) → World → α → List Value → Prop
structure CelOk {α : Type} (sz : Nat) (C : Cel α) : Prop where
  frame : ∀ {F G : Nat → Prop} {w w' : World} {x : α} {c : List Value}, (∀ g, F g → G g ∧ w'.heap[g]? = w.heap[g]?) → C F w x c → C G w' x c
  len : ∀ {F : Nat → Prop} {w : World} {x : α} {c : List Value}, C F w x c → c.length = sz
  one : ∀ {F : Nat → Prop} {w : World} {x : α} {c : List Value}, C F w x c → ∀ u ∈ c, u.oneCell' = true
/-- They lie in a row of the call's own; what they hold lies from B on, apart from it. -/
def RowG {α : Type} (C : Cel α) (ty sz B : Nat) (w : World) (v : Value) (xs : List α) : Prop :=
  ∃ ps : List (α × List Value), ps.map (·.1) = xs ∧ w.ownsRow B ty sz v xs.length (ps.flatMap (·.2)) ∧ ∀ p ∈ ps, C (fun g => B ≤ g ∧ g < w.heap.size ∧ some g ≠ v.ownBlock) w p.1 p.2
theorem RowG.nil {α : Type} (C : Cel α) (ty sz B : Nat) (w : World) : RowG C ty sz B w (.slice none 0 0) [] := ⟨[], rfl, World.ownsRow_nil _ _ _ _, by simp⟩
theorem RowG.block {α : Type} {C : Cel α} {ty sz B : Nat} {w : World} {v : Value} {xs : List α} (h : RowG C ty sz B w v xs) {g : Nat} (hg : v.ownBlock = some g) : B ≤ g ∧ g < w.heap.size := by
  obtain ⟨ps, h1, h2, h3⟩ := h
  rcases h2.2 with ⟨rfl, _⟩ | ⟨g', cap, cur, rfl, hb, hgg, _⟩
  · cases hg
  · simp only [Value.ownBlock, Option.some.injEq] at hg
    subst hg
    exact ⟨hb, (Array.getElem?_eq_some_iff.1 hgg).1⟩
theorem RowG.shape {α : Type} {C : Cel α} {ty sz B : Nat} {w : World} {v : Value} {xs : List α} (h : RowG C ty sz B w v xs) : ∃ a c, v = .slice a xs.length c := by
  obtain ⟨ps, h1, h2, h3⟩ := h
  rcases h2.2 with ⟨rfl, hn⟩ | ⟨g, cap, cur, rfl, _⟩
  · exact ⟨none, 0, by rw [hn]⟩
  · exact ⟨_, _, rfl⟩
/-- Whoever turns blocks below B alone leaves it as it is. -/
theorem RowG.kept {α : Type} {C : Cel α} {ty sz B : Nat} (hC : CelOk sz C) {S : Nat → Prop} {w w' : World} {v : Value} {xs : List α} (h : RowG C ty sz B w v xs) (k : Kept S w w') (hS : ∀ b, B ≤ b → ¬ S b) : RowG C ty sz B w' v xs := by
  obtain ⟨ps, h1, h2, h3⟩ := h
  exact ⟨ps, h1, k.own h2 (fun g hg => hS g (RowG.block (C := C) ⟨ps, h1, h2, h3⟩ hg).1), fun p hp => hC.frame (fun g hg => ⟨⟨hg.1, Nat.lt_of_lt_of_le hg.2.1 k.size, hg.2.2⟩, k.block g hg.2.1 (hS g hg.1)⟩) (h3 p hp)⟩
theorem flat_at {α : Type} {sz : Nat} : ∀ (ps : List (α × List Value)), (∀ p ∈ ps, p.2.length = sz) → ∀ (j : Nat) (h : j < ps.length) (i : Nat), i < sz → (ps.flatMap (·.2))[j * sz + i]? = ps[j].2[i]?
  | p :: r, hl, 0, _, i, hi => by
    rw [Nat.zero_mul, Nat.zero_add, List.flatMap_cons, List.getElem?_append_left (by rw [hl p (by simp)]; exact hi)]
    rfl
  | p :: r, hl, j + 1, h, i, hi => by
    have h0 := hl p (by simp)
    have := flat_at r (fun q hq => hl q (by simp [hq])) j (by simpa using h) i hi
    rw [List.flatMap_cons, List.getElem?_append_right (by rw [h0, Nat.succ_mul]; omega), h0, show (j + 1) * sz + i - sz = j * sz + i by rw [Nat.succ_mul]; omega]
    simpa using this
/-- One of the row, as it can be read. -/
theorem RowG.at {α : Type} {C : Cel α} {ty sz B : Nat} (hC : CelOk sz C) {w : World} {v : Value} {xs : List α} (h : RowG C ty sz B w v xs) (j : Nat) (hj : j < xs.length) :
    ∃ g cap c, v = .slice (some ⟨g, 0, none⟩) xs.length cap ∧ xs.length ≤ cap ∧ (B ≤ g ∧ g < w.heap.size) ∧ C (fun g => B ≤ g ∧ g < w.heap.size) w xs[j] c ∧ ∀ i u, c[i]? = some u → w.cell? ⟨g, j * sz + i, none⟩ = some u := by
  obtain ⟨ps, rfl, h2, h3⟩ := h
  rcases h2.2 with ⟨rfl, hn⟩ | ⟨g, cap, cur, rfl, hb, hg, hl, _⟩
  · omega
  · have hjl : j < ps.length := by simpa using hj
    have hlen : ∀ p ∈ ps, p.2.length = sz := fun p hp => hC.len (h3 p hp)
    refine ⟨g, cap, ps[j].2, rfl, hl, ⟨hb, (Array.getElem?_eq_some_iff.1 hg).1⟩, ?_, fun i u hi => ?_⟩
    · rw [List.getElem_map]
      exact hC.frame (fun g' hg' => ⟨⟨hg'.1, hg'.2.1⟩, rfl⟩) (h3 _ (List.getElem_mem hjl))
    · have hil : i < sz := by
        have := (List.getElem?_eq_some_iff.1 hi).1
        rwa [hlen _ (List.getElem_mem hjl)] at this
      have hm : j * sz + i < (ps.map (·.1)).length * sz := by
        have h5 : (j + 1) * sz ≤ ps.length * sz := Nat.mul_le_mul_right sz hjl
        rw [Nat.succ_mul] at h5
        simp only [List.length_map]
        omega
      rw [h2.cellAt _ hm, flat_at ps hlen j hjl i hil]
      exact hi
theorem rowG_more {α : Type} {C : Cel α} {ty sz B : Nat} (hC : CelOk sz C) {w w' : World} {v : Value} {xs : List α} {x : α} {c : List Value} {g cap : Nat} (hT : C (fun g => B ≤ g ∧ g < w.heap.size ∧ some g ≠ v.ownBlock) w x c)
    {ps : List (α × List Value)} (h1 : ps.map (·.1) = xs) (h3 : ∀ p ∈ ps, C (fun g => B ≤ g ∧ g < w.heap.size ∧ some g ≠ v.ownBlock) w p.1 p.2) (q1 : w'.ownsRow B ty sz (.slice (some ⟨g, 0, none⟩) (xs.length + 1) cap) (xs.length + 1) (ps.flatMap (·.2) ++ c)) (q2 : w.grownBy w' v.ownBlock) (q3 : v.ownBlock = some g ∨ g = w.heap.size) :
    RowG C ty sz B w' (.slice (some ⟨g, 0, none⟩) (xs.length + 1) cap) (xs ++ [x]) := by
  refine ⟨ps ++ [(x, c)], by simp [h1], ?_, fun p hp => ?_⟩
  · rw [List.flatMap_append]
    simpa using q1
  · have key : ∀ (y : α) (d : List Value), C (fun g => B ≤ g ∧ g < w.heap.size ∧ some g ≠ v.ownBlock) w y d → C (fun g' => B ≤ g' ∧ g' < w'.heap.size ∧ some g' ≠ (Value.slice (some ⟨g, 0, none⟩) (xs.length + 1) cap).ownBlock) w' y d := fun y d ht => hC.frame (fun g' hg' => by
      refine ⟨⟨hg'.1, Nat.lt_of_lt_of_le hg'.2.1 q2.size, fun e => ?_⟩, q2.block g' hg'.2.1 hg'.2.2⟩
      simp only [Value.ownBlock, Option.some.injEq] at e
      subst e
      rcases q3 with q3 | q3
      · exact hg'.2.2 q3.symm
      · have := hg'.2.1
        omega) ht
    rcases List.mem_append.1 hp with hp | hp
    · exact key _ _ (h3 p hp)
    · rw [List.mem_singleton.1 hp]
      exact key _ _ hT
theorem append_rowG {P : Program} {α : Type} {C : Cel α} {E sz bytes B : Nat} (hC : CelOk sz C) {w : World} {ops : Array Oper} {rest : List Oper} {o : Oper} {a : Act} {Q : Exit → Act → World → Prop} (hgd : o.guard = none) (s x : Operand) (T : TypeId)
    (ho : o.op = .call { callee := .builtin .append, args := #[s, x], argTypes := #[T, T] }) (ht : P.underlying T = some (.slice E)) (hi : (P.info? E).map (fun i => (i.zero.map (fun z => z.cells.size), i.size, i.bytes)) = some (some sz, sz, bytes)) (hsz : 0 < sz)
    (v : Value) (xs : List α) (hs : a.eval s = v) (hI : RowG C E sz B w v xs) (y : α) (c : List Value) (ad : Addr) (cp : Nat) (hx : a.eval x = .slice (some ad) 1 cp)
    (hnews : ∀ j u, c[j]? = some u → w.cell? (ad.add j) = some u) (hT : C (fun g => B ≤ g ∧ g < w.heap.size ∧ some g ≠ v.ownBlock) w y c) (hlen : xs.length + 1 ≤ maxLen) (hby : (xs.length + 1) * bytes ≤ 140737488355328) (hB : B ≤ w.heap.size)
    (h : ∀ g cap w', RowG C E sz B w' (.slice (some ⟨g, 0, none⟩) (xs.length + 1) cap) (xs ++ [y]) → w.grownBy w' v.ownBlock → wpList P ops Q rest (a.put o.dst (.slice (some ⟨g, 0, none⟩) (xs.length + 1) cap)) w') :
    wpList P ops Q (o :: rest) a w := by
  obtain ⟨i, z, hi, hz, h1, h2, h3⟩ := info_z hi
  obtain ⟨ps, p1, p2, p3⟩ := id hI
  exact wpList_append_lies w hgd s x T ho B E i z sz bytes ht hi hz h1 h2 h3 hsz v _ _ hs p2 ad 1 cp c hx (by rw [hC.len hT, Nat.one_mul]) hnews (hC.one hT) (by decide) hlen hby hB w.heap.size rfl (fun g cap w' q1 q2 q3 _ => h g cap w' (rowG_more hC hT p1 p3 q1 q2 q3) q2)
theorem step_rowG {P : Program} {α : Type} {C : Cel α} {E sz bytes B : Nat} (hC : CelOk sz C) {w : World} {ops : Array Oper} {o : Oper} {a : Act} {K : Act → World → Prop} {Q : Exit → Act → World → Prop} {Z : Prop} (hgd : o.guard = none) (s x : Operand) (T : TypeId)
    (ho : o.op = .call { callee := .builtin .append, args := #[s, x], argTypes := #[T, T] }) (ht : P.underlying T = some (.slice E)) (hi : (P.info? E).map (fun i => (i.zero.map (fun z => z.cells.size), i.size, i.bytes)) = some (some sz, sz, bytes)) (hsz : 0 < sz)
    (v : Value) (xs : List α) (hs : a.eval s = v) (hI : RowG C E sz B w v xs) (y : α) (c : List Value) (ad : Addr) (cp : Nat) (hx : a.eval x = .slice (some ad) 1 cp)
    (hnews : ∀ j u, c[j]? = some u → w.cell? (ad.add j) = some u) (hT : C (fun g => B ≤ g ∧ g < w.heap.size ∧ some g ≠ v.ownBlock) w y c) (hlen : xs.length + 1 ≤ maxLen) (hby : (xs.length + 1) * bytes ≤ 140737488355328) (hB : B ≤ w.heap.size)
    (h : ∀ g cap w', RowG C E sz B w' (.slice (some ⟨g, 0, none⟩) (xs.length + 1) cap) (xs ++ [y]) → w.grownBy w' v.ownBlock → K (a.put o.dst (.slice (some ⟨g, 0, none⟩) (xs.length + 1) cap)) w') :
    if Region.wanted o (yielded ops a.tmps) = true then Oper.wp P o a w K Q else Z := by
  obtain ⟨i, z, hi, hz, h1, h2, h3⟩ := info_z hi
  obtain ⟨ps, p1, p2, p3⟩ := id hI
  exact step_append_lies w hgd s x T ho B E i z sz bytes ht hi hz h1 h2 h3 hsz v _ _ hs p2 ad 1 cp c hx (by rw [hC.len hT, Nat.one_mul]) hnews (hC.one hT) (by decide) hlen hby hB w.heap.size rfl (fun g cap w' q1 q2 q3 _ => h g cap w' (rowG_more hC hT p1 p3 q1 q2 q3) q2)
/-- An instruction's cells. -/
def cIns : Cel Ins := fun F w i c => ∃ tv, c = (insC i tv).toList ∧ IwR F w tv i.tos
theorem cIns_ok : CelOk 7 cIns where
  frame := fun hF ⟨tv, h1, h2⟩ => ⟨tv, h1, h2.frame hF⟩
  len := fun ⟨tv, h1, _⟩ => by rw [h1]; rfl
  one := fun ⟨tv, h1, h2⟩ u hu => by
    have := h2.one
    rw [h1] at hu
    simp only [insC, List.mem_cons, List.not_mem_nil, or_false] at hu
    rcases hu with rfl | rfl | rfl | rfl | rfl | rfl | rfl
    all_goals first | rfl | exact this
theorem infoIns : (Try.prog.info? 34).map (fun i => (i.zero.map (fun z => z.cells.size), i.size, i.bytes)) = some (some 7, 7, 88) := by kernel_rfl
end Go.Proofs.Ytbhcmhbicbhgmaa.Wire
