/-
  Trees in memory: cells of a tree, rows of trees that can be read (TL), rows of the call's own that grow (OwnK), the stack of open brackets (StkM); what each step of memory leaves of them.
-/
import Derived.Deep.AppendLies
import Derived.OneCell
import Derived.Test.YtcjddbponknnoaaGreatDoorLexMem
import Derived.Test.YtcjddbponknnoaaGreatDoorTreeMath
namespace Go.Proofs.YtcjddbponknnoaaGreatDoor
open Go.RowKit

structure Kept (S : Nat → Prop) (w w' : World) : Prop where
  os : w'.os = w.os
  tape : w'.tape = w.tape
  output : w'.output = w.output
  size : w.heap.size ≤ w'.heap.size
  block : ∀ k, k < w.heap.size → ¬ S k → w'.heap[k]? = w.heap[k]?
theorem Kept.refl (S : Nat → Prop) (w : World) : Kept S w w := ⟨rfl, rfl, rfl, Nat.le_refl _, fun _ _ _ => rfl⟩
theorem Kept.trans {S T U : Nat → Prop} {a b c : World} (h : Kept S a b) (k : Kept T b c) (hS : ∀ x, x < a.heap.size → S x → U x) (hT : ∀ x, x < a.heap.size → T x → U x) : Kept U a c :=
  ⟨k.os.trans h.os, k.tape.trans h.tape, k.output.trans h.output, Nat.le_trans h.size k.size, fun i hi hu => (k.block i (Nat.lt_of_lt_of_le hi h.size) (fun e => hu (hT i hi e))).trans (h.block i hi (fun e => hu (hS i hi e)))⟩
theorem Kept.mono {S T : Nat → Prop} {a b : World} (h : Kept S a b) (hS : ∀ x, x < a.heap.size → S x → T x) : Kept T a b :=
  ⟨h.os, h.tape, h.output, h.size, fun i hi hu => h.block i hi (fun e => hu (hS i hi e))⟩
theorem Kept.alloc {S : Nat → Prop} {a w : World} (h : Kept S a w) (o : Obj) : Kept S a (w.alloc o) :=
  ⟨h.os, h.tape, h.output, Nat.le_trans h.size (by simp), fun i hi hu => (Below.heap_alloc _ _ _ (Nat.lt_of_lt_of_le hi h.size)).trans (h.block i hi hu)⟩
theorem Kept.drew {S : Nat → Prop} {a w : World} (h : Kept S a w) : Kept S a w.drew := ⟨h.os, h.tape, h.output, h.size, h.block⟩
theorem Kept.setCell {S : Nat → Prop} {a w : World} (h : Kept S a w) {p : Addr} (hp : p.block < a.heap.size → S p.block) (u : Value) : Kept S a (w.setCell p u) :=
  ⟨h.os, h.tape, h.output, by simpa [World.setCell] using h.size, fun i hi hu => (Below.heap_setCell _ _ _ _ (fun e => hu (by subst e; exact hp hi))).trans (h.block i hi hu)⟩
theorem Kept.grown {S : Nat → Prop} {a w w' : World} {row : Option Nat} (h : Kept S a w) (hg : w.grownBy w' row) (hr : ∀ k, row = some k → k < a.heap.size → S k) : Kept S a w' :=
  ⟨hg.os.trans h.os, hg.tape.trans h.tape, hg.output.trans h.output, Nat.le_trans h.size hg.size, fun i hi hu => (hg.block i (Nat.lt_of_lt_of_le hi h.size) (fun e => hu (hr i e.symm hi))).trans (h.block i hi hu)⟩
theorem Kept.below {S : Nat → Prop} {a w : World} {B : Nat} (h : Kept S a w) (hB : B ≤ a.heap.size) (hS : ∀ x, x < B → ¬ S x) : Below B a w :=
  ⟨h.os, h.tape, h.output, h.size, fun k hk => h.block k (by omega) (hS k hk)⟩
theorem Kept.of_below {a w : World} {B : Nat} (h : Below B a w) : Kept (fun k => B ≤ k) a w := ⟨h.os, h.tape, h.output, h.size, fun k _ hn => h.block k (by omega)⟩
theorem Kept.cell {S : Nat → Prop} {a w : World} (h : Kept S a w) {p : Addr} {v : Value} (hc : a.cell? p = some v) (hp : ¬ S p.block) : w.cell? p = some v :=
  (World.cell?_of_block (h.block p.block (World.block_lt_of_cell? a p hc) hp)).trans hc
theorem Kept.own {S : Nat → Prop} {w w' : World} {B e size n : Nat} {v : Value} {xs : List Value} (k : Kept S w w') (h : w.ownsRow B e size v n xs) (hg : ∀ g, v.ownBlock = some g → ¬ S g) : w'.ownsRow B e size v n xs := by
  refine ⟨h.1, ?_⟩
  rcases h.2 with hn | ⟨g, cap, cur, rfl, hb, hgg, rest⟩
  · exact .inl hn
  · exact .inr ⟨g, cap, cur, rfl, hb, (k.block g (Array.getElem?_eq_some_iff.1 hgg).1 (hg g rfl)).trans hgg, rest⟩

/-- A tree's cells; as a value. -/
def trc (t : Tr) (kv : Value) : List Value := [.int .i64 (t.kind : Int), .int .i64 (t.place : Int), .string (str t.text), kv]
def trv (t : Tr) (kv : Value) : Value := .agg #[.int .i64 (t.kind : Int), .int .i64 (t.place : Int), .string (str t.text), kv]
/-- The Kids of a tree can be read through kv, in blocks of F. -/
def TI (F : Nat → Prop) (w : World) : Value → Tr → Prop
  | kv, ⟨_, _, _, l, _⟩ => (kv = .slice none 0 0 ∧ l = []) ∨ ∃ g cap, kv = .slice (some ⟨g, 0, none⟩) l.length cap ∧ F g ∧ l.length ≤ cap ∧
      ∀ i (h : i < l.length), have _hm := List.getElem_mem h; ∃ kv', TI F w kv' l[i] ∧ ∀ j u, (trc l[i] kv')[j]? = some u → w.cell? ⟨g, i * 4 + j, none⟩ = some u
def TL (F : Nat → Prop) (w : World) (kv : Value) (l : List Tr) : Prop := TI F w kv ⟨0, 0, [], l, ⟨0, 0, []⟩⟩
theorem TI_iff (F : Nat → Prop) (w : World) (kv : Value) (t : Tr) : TI F w kv t ↔ TL F w kv t.kids := by
  obtain ⟨k, p, x, l, e⟩ := t
  unfold TL
  rw [TI, TI]
theorem TL_iff (F : Nat → Prop) (w : World) (kv : Value) (l : List Tr) : TL F w kv l ↔ (kv = .slice none 0 0 ∧ l = []) ∨ ∃ g cap, kv = .slice (some ⟨g, 0, none⟩) l.length cap ∧ F g ∧ l.length ≤ cap ∧
      ∀ i (h : i < l.length), ∃ kv', TL F w kv' l[i].kids ∧ ∀ j u, (trc l[i] kv')[j]? = some u → w.cell? ⟨g, i * 4 + j, none⟩ = some u := by
  unfold TL
  rw [TI]
  simp only [TI_iff]
theorem TL.frame {F G : Nat → Prop} {w w' : World} (hF : ∀ g, F g → G g ∧ w'.heap[g]? = w.heap[g]?) {kv : Value} {l : List Tr} (h : TL F w kv l) : TL G w' kv l := by
  have key : ∀ (t : Tr) (kv : Value), TI F w kv t → TI G w' kv t := by
    intro t
    induction t using tr_ind with
    | h t ih =>
      intro kv h
      rw [TI_iff, TL_iff] at h ⊢
      rcases h with h | ⟨g, cap, h1, h2, hc, h3⟩
      · exact .inl h
      · refine .inr ⟨g, cap, h1, (hF g h2).1, hc, fun i hi => ?_⟩
        obtain ⟨kv', h4, h5⟩ := h3 i hi
        refine ⟨kv', (TI_iff _ _ _ _).1 (ih _ (List.getElem_mem hi) kv' ((TI_iff _ _ _ _).2 h4)), fun j u hj => ?_⟩
        rw [World.cell?_of_block (w := w) (hF g h2).2]
        exact h5 j u hj
  exact key _ kv h
theorem TL.mono {F G : Nat → Prop} {w : World} (hF : ∀ g, F g → G g) {kv : Value} {l : List Tr} (h : TL F w kv l) : TL G w kv l := h.frame fun g hg => ⟨hF g hg, rfl⟩
theorem TL.kept {F S : Nat → Prop} {w w' : World} {kv : Value} {l : List Tr} (h : TL F w kv l) (k : Kept S w w') (hF : ∀ g, F g → g < w.heap.size ∧ ¬ S g) : TL F w' kv l := h.frame fun g hg => ⟨hg, k.block g (hF g hg).1 (hF g hg).2⟩
theorem TL.shape {F : Nat → Prop} {w : World} {kv : Value} {l : List Tr} (h : TL F w kv l) : ∃ a c, kv = .slice a l.length c := by
  rcases (TL_iff _ _ _ _).1 h with ⟨rfl, rfl⟩ | ⟨g, cap, rfl, _⟩
  · exact ⟨none, 0, rfl⟩
  · exact ⟨_, _, rfl⟩
theorem TL.cap {F : Nat → Prop} {w : World} {a : Option Addr} {n c : Nat} {l : List Tr} (h : TL F w (.slice a n c) l) : n ≤ c := by
  rcases (TL_iff _ _ _ _).1 h with ⟨e, _⟩ | ⟨g, cap, e, _, hc, _⟩
  · simp only [Value.slice.injEq] at e
    omega
  · simp only [Value.slice.injEq] at e
    omega
theorem TL.nil (F : Nat → Prop) (w : World) : TL F w (.slice none 0 0) [] := (TL_iff _ _ _ _).2 (.inl ⟨rfl, rfl⟩)
/-- One of them. -/
theorem TL.at {F : Nat → Prop} {w : World} {kv : Value} {l : List Tr} (h : TL F w kv l) (i : Nat) (hi : i < l.length) : ∃ g cap kv', kv = .slice (some ⟨g, 0, none⟩) l.length cap ∧ F g ∧ TL F w kv' l[i].kids ∧
    w.cell? ⟨g, i * 4, none⟩ = some (.int .i64 (l[i].kind : Int)) ∧ w.cell? ⟨g, i * 4 + 1, none⟩ = some (.int .i64 (l[i].place : Int)) ∧ w.cell? ⟨g, i * 4 + 2, none⟩ = some (.string (str l[i].text)) ∧ w.cell? ⟨g, i * 4 + 3, none⟩ = some kv' := by
  rcases (TL_iff _ _ _ _).1 h with ⟨rfl, rfl⟩ | ⟨g, cap, rfl, hg, _, h⟩
  · simp at hi
  · obtain ⟨kv', h1, h2⟩ := h i hi
    exact ⟨g, cap, kv', rfl, hg, h1, h2 0 _ rfl, h2 1 _ rfl, h2 2 _ rfl, h2 3 _ rfl⟩

/-- The cells of a row of trees. -/
def rowc : List Tr → List Value → List Value
  | t :: ts, v :: vs => trc t v ++ rowc ts vs
  | _, _ => []
theorem trc_length (t : Tr) (v : Value) : (trc t v).length = 4 := rfl
theorem rowc_length : ∀ {ts : List Tr} {vs : List Value}, vs.length = ts.length → (rowc ts vs).length = ts.length * 4
  | [], [], _ => rfl
  | [], _ :: _, h => by simp at h
  | _ :: _, [], h => by simp at h
  | t :: ts, v :: vs, h => by
    rw [rowc, List.length_append, trc_length, rowc_length (by simpa using h), List.length_cons]
    omega
theorem rowc_append : ∀ {ts : List Tr} {vs : List Value} (ts' : List Tr) (vs' : List Value), vs.length = ts.length → rowc (ts ++ ts') (vs ++ vs') = rowc ts vs ++ rowc ts' vs'
  | [], [], _, _, _ => rfl
  | [], _ :: _, _, _, h => by simp at h
  | _ :: _, [], _, _, h => by simp at h
  | t :: ts, v :: vs, ts', vs', h => by
    rw [List.cons_append, List.cons_append, rowc, rowc, rowc_append ts' vs' (by simpa using h), List.append_assoc]
theorem rowc_one (t : Tr) (v : Value) : rowc [t] [v] = trc t v := by simp [rowc]
theorem rowc_get : ∀ {ts : List Tr} {vs : List Value} {i j : Nat} {t : Tr} {v : Value}, ts[i]? = some t → vs[i]? = some v → j < 4 → (rowc ts vs)[i * 4 + j]? = (trc t v)[j]?
  | [], _, i, _, _, _, h, _, _ => by simp at h
  | _ :: _, [], i, _, _, _, _, h, _ => by simp at h
  | t' :: ts, v' :: vs, 0, j, t, v, h1, h2, hj => by
    simp at h1 h2
    subst h1
    subst h2
    rw [rowc, Nat.zero_mul, Nat.zero_add, List.getElem?_append_left (by rw [trc_length]; exact hj)]
  | t' :: ts, v' :: vs, i + 1, j, t, v, h1, h2, hj => by
    rw [rowc, List.getElem?_append_right (by rw [trc_length]; omega), trc_length, show (i + 1) * 4 + j - 4 = i * 4 + j from by omega]
    exact rowc_get (by simpa using h1) (by simpa using h2) hj
/-- The Kids of one of them are set. -/
theorem rowc_set : ∀ {ts : List Tr} {vs : List Value} {i : Nat} (t' : Tr) (u : Value), vs.length = ts.length → (∀ t, ts[i]? = some t → t'.kind = t.kind ∧ t'.place = t.place ∧ t'.text = t.text) → (rowc ts vs).set (i * 4 + 3) u = rowc (ts.set i t') (vs.set i u)
  | [], [], _, _, _, _, _ => by simp [rowc]
  | [], _ :: _, _, _, _, h, _ => by simp at h
  | _ :: _, [], _, _, _, h, _ => by simp at h
  | t :: ts, v :: vs, 0, t', u, h, ht => by
    obtain ⟨h1, h2, h3⟩ := ht t rfl
    simp [rowc, trc, h1, h2, h3]
  | t :: ts, v :: vs, i + 1, t', u, h, ht => by
    rw [List.set_cons_succ, List.set_cons_succ, rowc, rowc, List.set_append_right _ _ (by rw [trc_length]; omega), trc_length, show (i + 1) * 4 + 3 - 4 = i * 4 + 3 from by omega, rowc_set t' u (by simpa using h) (by simpa using ht)]
theorem trc_one (t : Tr) (v : Value) (hv : v.oneCell' = true) : ∀ u ∈ trc t v, u.oneCell' = true := by
  intro u hu
  simp only [trc, List.mem_cons, List.not_mem_nil, or_false] at hu
  rcases hu with rfl | rfl | rfl | rfl
  · rfl
  · rfl
  · rfl
  · exact hv

/-- A row of trees of the call's own. -/
def OwnK (e : Nat) (B : Nat) (F : Nat → Prop) (w : World) (kv : Value) (l : List Tr) : Prop :=
  ∃ vs : List Value, vs.length = l.length ∧ w.ownsRow B e 4 kv l.length (rowc l vs) ∧ ∀ (i : Nat) (t : Tr) (v : Value), l[i]? = some t → vs[i]? = some v → TL F w v t.kids
theorem OwnK.nil (e B : Nat) (F : Nat → Prop) (w : World) : OwnK e B F w (.slice none 0 0) [] := ⟨[], rfl, World.ownsRow_nil _ _ _ _, by simp⟩
theorem OwnK.kept {e B : Nat} {F S : Nat → Prop} {w w' : World} {kv : Value} {l : List Tr} (h : OwnK e B F w kv l) (k : Kept S w w') (hF : ∀ g, F g → g < w.heap.size ∧ ¬ S g) (hg : ∀ g, kv.ownBlock = some g → ¬ S g) : OwnK e B F w' kv l := by
  obtain ⟨vs, h1, h2, h3⟩ := h
  exact ⟨vs, h1, k.own h2 hg, fun i t v ht hv => (h3 i t v ht hv).kept k hF⟩
theorem OwnK.mono {e B : Nat} {F G : Nat → Prop} {w : World} {kv : Value} {l : List Tr} (h : OwnK e B F w kv l) (hF : ∀ g, F g → G g) : OwnK e B G w kv l := by
  obtain ⟨vs, h1, h2, h3⟩ := h
  exact ⟨vs, h1, h2, fun i t v ht hv => (h3 i t v ht hv).mono hF⟩
theorem OwnK.lt {e B : Nat} {F : Nat → Prop} {w : World} {kv : Value} {l : List Tr} (h : OwnK e B F w kv l) : ∀ g, kv.ownBlock = some g → B ≤ g ∧ g < w.heap.size := by
  obtain ⟨vs, h1, h2, h3⟩ := h
  exact h2.lt
theorem OwnK.shape {e B : Nat} {F : Nat → Prop} {w : World} {kv : Value} {l : List Tr} (h : OwnK e B F w kv l) : ∃ a c, kv = .slice a l.length c := by
  obtain ⟨vs, h1, h2, h3⟩ := h
  rcases h2.2 with ⟨rfl, hn⟩ | ⟨g, cap, cur, rfl, _⟩
  · exact ⟨none, 0, by rw [hn]⟩
  · exact ⟨_, _, rfl⟩
/-- It can be read. -/
theorem OwnK.shut {e B : Nat} {F : Nat → Prop} {w : World} {kv : Value} {l : List Tr} (h : OwnK e B F w kv l) : TL (fun g => F g ∨ kv.ownBlock = some g) w kv l := by
  obtain ⟨vs, h1, h2, h3⟩ := h
  rw [TL_iff]
  rcases h2.2 with ⟨rfl, hn⟩ | ⟨g, cap, cur, rfl, hb, hgg, hcap, _⟩
  · exact .inl ⟨rfl, List.eq_nil_of_length_eq_zero hn⟩
  · refine .inr ⟨g, cap, rfl, .inr rfl, hcap, fun i hi => ?_⟩
    have hi' : i < vs.length := by omega
    refine ⟨vs[i], (h3 i l[i] vs[i] (List.getElem?_eq_getElem hi) (List.getElem?_eq_getElem hi')).mono fun g h => .inl h, fun j u hj => ?_⟩
    have hj4 : j < 4 := by
      rcases Nat.lt_or_ge j 4 with h | h
      · exact h
      · rw [List.getElem?_eq_none (by rw [trc_length]; exact h)] at hj; cases hj
    rw [h2.cellAt _ (by omega), rowc_get (List.getElem?_eq_getElem hi) (List.getElem?_eq_getElem hi') hj4]
    exact hj
/-- A tree is appended: what the law on append gives. -/
theorem OwnK.add {e B : Nat} {F : Nat → Prop} {w w' : World} {kv kv' : Value} {l : List Tr} {t : Tr} {u : Value} {vs : List Value} (h1 : vs.length = l.length) (h3 : ∀ (i : Nat) (t : Tr) (v : Value), l[i]? = some t → vs[i]? = some v → TL F w v t.kids)
    (hF : ∀ g, F g → g < w.heap.size ∧ kv.ownBlock ≠ some g) (hown : w'.ownsRow B e 4 kv' (l.length + 1) (rowc l vs ++ trc t u)) (k : Kept (fun g => kv.ownBlock = some g) w w') (ht : TL F w u t.kids) : OwnK e B F w' kv' (l ++ [t]) := by
  refine ⟨vs ++ [u], by simp [h1], ?_, fun i t' v ht' hv => ?_⟩
  · rw [rowc_append _ _ h1, rowc_one, List.length_append]
    exact hown
  · refine TL.kept ?_ k hF
    rw [List.getElem?_append] at ht' hv
    split at ht'
    · rw [if_pos (by omega)] at hv
      exact h3 i t' v ht' hv
    · rw [if_neg (by omega)] at hv
      rw [h1] at hv
      obtain ⟨hlt, e1⟩ := List.getElem?_eq_some_iff.1 ht'
      have hz : i - l.length = 0 := by simp at hlt; omega
      rw [hz] at ht' hv
      simp at ht' hv
      subst ht'
      subst hv
      exact ht

end Go.Proofs.YtcjddbponknnoaaGreatDoor
