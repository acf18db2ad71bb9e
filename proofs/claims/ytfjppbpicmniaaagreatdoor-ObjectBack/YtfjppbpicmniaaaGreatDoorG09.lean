/-
  Trees in memory: cells of a tree, rows of trees that can be read (TL), rows of the call's own that grow (OwnK), the stack of open brackets (StkM); what each step of memory leaves of them.
  And: Texts, and pairs of texts, in a row in memory. The package's Names: its walk. How texts compare. No program in it. Interfaces in memory: cases, items; what they are as values.
-/
import Derived.Deep.AppendLies
import Derived.OneCell
import Derived.Test.YtfjppbpicmniaaaGreatDoorG04
import Derived.Test.YtfjppbpicmniaaaGreatDoorG08
import Derived.Test.YtfjppbpicmniaaaGreatDoorG07
import Derived.Sort.Walk0
namespace Go.Proofs.YtfjppbpicmniaaaGreatDoor
open Go.RowKit

structure Kept (S : Nat → Prop) (w w' : World) : Prop where
  os : w'.os = w.os
  tape : w'.tape = w.tape
  output : w'.output = w.output
  size : w.heap.size ≤ w'.heap.size
  block : ∀ k, k < w.heap.size → ¬ S k → w'.heap[k]? = w.heap[k]?
theorem Kept.refl (S : Nat → Prop) (w : World) : Kept S w w := ⟨rfl, rfl, rfl, Nat.le_refl _, fun _ _ _ => rfl⟩
theorem Kept.trans {S T U : Nat → Prop} {a b c : World} (h : Kept S a b) (k : Kept T b c) (hS : ∀ x, x < a.heap.size → S x → U x) (hT : ∀ x, x < a.heap.size → T x → U x) : Kept U a c :=
  ⟨k.os.trans h.os, k.tape.trans h.tape, k.output.trans h.output, Nat.le_trans h.size k.size, fun i hi hu => (k.block i (Nat.lt_of_lt_of_le hi h.size) (fun e => hu (hT i hi e))).trans (h.block i hi (fun e => hu (hS i hi e)))⟩
theorem Kept.mono {S T : Nat → Prop} {a b : World} (h : Kept S a b) (hS : ∀ x, x < a.heap.size → S x → T x) : Kept T a b :=
  ⟨h.os, h.tape, h.output, h.size, fun i hi hu => h.block i hi (fun e => hu (hS i hi e))⟩
theorem Kept.alloc {S : Nat → Prop} {a w : World} (h : Kept S a w) (o : Obj) : Kept S a (w.alloc o) :=
  ⟨h.os, h.tape, h.output, Nat.le_trans h.size (by simp), fun i hi hu => (Below.heap_alloc _ _ _ (Nat.lt_of_lt_of_le hi h.size)).trans (h.block i hi hu)⟩
theorem Kept.drew {S : Nat → Prop} {a w : World} (h : Kept S a w) : Kept S a w.drew := ⟨h.os, h.tape, h.output, h.size, h.block⟩
theorem Kept.setCell {S : Nat → Prop} {a w : World} (h : Kept S a w) {p : Addr} (hp : p.block < a.heap.size → S p.block) (u : Value) : Kept S a (w.setCell p u) :=
  ⟨h.os, h.tape, h.output, by simpa [World.setCell] using h.size, fun i hi hu => (Below.heap_setCell _ _ _ _ (fun e => hu (by subst e; exact hp hi))).trans (h.block i hi hu)⟩
theorem Kept.grown {S : Nat → Prop} {a w w' : World} {row : Option Nat} (h : Kept S a w) (hg : w.grownBy w' row) (hr : ∀ k, row = some k → k < a.heap.size → S k) : Kept S a w' :=
  ⟨hg.os.trans h.os, hg.tape.trans h.tape, hg.output.trans h.output, Nat.le_trans h.size hg.size, fun i hi hu => (hg.block i (Nat.lt_of_lt_of_le hi h.size) (fun e => hu (hr i e.symm hi))).trans (h.block i hi hu)⟩
theorem Kept.below {S : Nat → Prop} {a w : World} {B : Nat} (h : Kept S a w) (hB : B ≤ a.heap.size) (hS : ∀ x, x < B → ¬ S x) : Below B a w :=
  ⟨h.os, h.tape, h.output, h.size, fun k hk => h.block k (by omega) (hS k hk)⟩
theorem Kept.of_below {a w : World} {B : Nat} (h : Below B a w) : Kept (fun k => B ≤ k) a w := ⟨h.os, h.tape, h.output, h.size, fun k _ hn => h.block k (by omega)⟩
theorem Kept.cell {S : Nat → Prop} {a w : World} (h : Kept S a w) {p : Addr} {v : Value} (hc : a.cell? p = some v) (hp : ¬ S p.block) : w.cell? p = some v :=
  (World.cell?_of_block (h.block p.block (World.block_lt_of_cell? a p hc) hp)).trans hc
theorem Kept.own {S : Nat → Prop} {w w' : World} {B e size n : Nat} {v : Value} {xs : List Value} (k : Kept S w w') (h : w.ownsRow B e size v n xs) (hg : ∀ g, v.ownBlock = some g → ¬ S g) : w'.ownsRow B e size v n xs := by
  refine ⟨h.1, ?_⟩
  rcases h.2 with hn | ⟨g, cap, cur, rfl, hb, hgg, rest⟩
  · exact .inl hn
  · exact .inr ⟨g, cap, cur, rfl, hb, (k.block g (Array.getElem?_eq_some_iff.1 hgg).1 (hg g rfl)).trans hgg, rest⟩

/-- A tree's cells; as a value. -/
def trc (t : Tr) (kv : Value) : List Value := [.int .i64 (t.kind : Int), .int .i64 (t.place : Int), .string (str t.text), kv]
def trv (t : Tr) (kv : Value) : Value := .agg #[.int .i64 (t.kind : Int), .int .i64 (t.place : Int), .string (str t.text), kv]
/-- The Kids of a tree can be read through kv, in blocks of F. -/
def TI (F : Nat → Prop) (w : World) : Value → Tr → Prop
  | kv, ⟨_, _, _, l, _⟩ => (kv = .slice none 0 0 ∧ l = []) ∨ ∃ g cap, kv = .slice (some ⟨g, 0, none⟩) l.length cap ∧ F g ∧ l.length ≤ cap ∧
      ∀ i (h : i < l.length), have _hm := List.getElem_mem h; ∃ kv', TI F w kv' l[i] ∧ ∀ j u, (trc l[i] kv')[j]? = some u → w.cell? ⟨g, i * 4 + j, none⟩ = some u
def TL (F : Nat → Prop) (w : World) (kv : Value) (l : List Tr) : Prop := TI F w kv ⟨0, 0, [], l, ⟨0, 0, []⟩⟩
theorem TI_iff (F : Nat → Prop) (w : World) (kv : Value) (t : Tr) : TI F w kv t ↔ TL F w kv t.kids := by
  obtain ⟨k, p, x, l, e⟩ := t
  unfold TL
  rw [TI, TI]
theorem TL_iff (F : Nat → Prop) (w : World) (kv : Value) (l : List Tr) : TL F w kv l ↔ (kv = .slice none 0 0 ∧ l = []) ∨ ∃ g cap, kv = .slice (some ⟨g, 0, none⟩) l.length cap ∧ F g ∧ l.length ≤ cap ∧
      ∀ i (h : i < l.length), ∃ kv', TL F w kv' l[i].kids ∧ ∀ j u, (trc l[i] kv')[j]? = some u → w.cell? ⟨g, i * 4 + j, none⟩ = some u := by
  unfold TL
  rw [TI]
  simp only [TI_iff]
theorem TL.frame {F G : Nat → Prop} {w w' : World} (hF : ∀ g, F g → G g ∧ w'.heap[g]? = w.heap[g]?) {kv : Value} {l : List Tr} (h : TL F w kv l) : TL G w' kv l := by
  have key : ∀ (t : Tr) (kv : Value), TI F w kv t → TI G w' kv t := by
    intro t
    induction t using tr_ind with
    | h t ih =>
      intro kv h
      rw [TI_iff, TL_iff] at h ⊢
      rcases h with h | ⟨g, cap, h1, h2, hc, h3⟩
      · exact .inl h
      · refine .inr ⟨g, cap, h1, (hF g h2).1, hc, fun i hi => ?_⟩
        obtain ⟨kv', h4, h5⟩ := h3 i hi
        refine ⟨kv', (TI_iff _ _ _ _).1 (ih _ (List.getElem_mem hi) kv' ((TI_iff _ _ _ _).2 h4)), fun j u hj => ?_⟩
        rw [World.cell?_of_block (w := w) (hF g h2).2]
        exact h5 j u hj
  exact key _ kv h
theorem TL.mono {F G : Nat → Prop} {w : World} (hF : ∀ g, F g → G g) {kv : Value} {l : List Tr} (h : TL F w kv l) : TL G w kv l := h.frame fun g hg => ⟨hF g hg, rfl⟩
theorem TL.kept {F S : Nat → Prop} {w w' : World} {kv : Value} {l : List Tr} (h : TL F w kv l) (k : Kept S w w') (hF : ∀ g, F g → g < w.heap.size ∧ ¬ S g) : TL F w' kv l := h.frame fun g hg => ⟨hg, k.block g (hF g hg).1 (hF g hg).2⟩
theorem TL.shape {F : Nat → Prop} {w : World} {kv : Value} {l : List Tr} (h : TL F w kv l) : ∃ a c, kv = .slice a l.length c := by
  rcases (TL_iff _ _ _ _).1 h with ⟨rfl, rfl⟩ | ⟨g, cap, rfl, _⟩
  · exact ⟨none, 0, rfl⟩
  · exact ⟨_, _, rfl⟩
theorem TL.cap {F : Nat → Prop} {w : World} {a : Option Addr} {n c : Nat} {l : List Tr} (h : TL F w (.slice a n c) l) : n ≤ c := by
  rcases (TL_iff _ _ _ _).1 h with ⟨e, _⟩ | ⟨g, cap, e, _, hc, _⟩
  · simp only [Value.slice.injEq] at e
    omega
  · simp only [Value.slice.injEq] at e
    omega
theorem TL.nil (F : Nat → Prop) (w : World) : TL F w (.slice none 0 0) [] := (TL_iff _ _ _ _).2 (.inl ⟨rfl, rfl⟩)
/-- One of them. -/
theorem TL.at {F : Nat → Prop} {w : World} {kv : Value} {l : List Tr} (h : TL F w kv l) (i : Nat) (hi : i < l.length) : ∃ g cap kv', kv = .slice (some ⟨g, 0, none⟩) l.length cap ∧ F g ∧ TL F w kv' l[i].kids ∧
    w.cell? ⟨g, i * 4, none⟩ = some (.int .i64 (l[i].kind : Int)) ∧ w.cell? ⟨g, i * 4 + 1, none⟩ = some (.int .i64 (l[i].place : Int)) ∧ w.cell? ⟨g, i * 4 + 2, none⟩ = some (.string (str l[i].text)) ∧ w.cell? ⟨g, i * 4 + 3, none⟩ = some kv' := by
  rcases (TL_iff _ _ _ _).1 h with ⟨rfl, rfl⟩ | ⟨g, cap, rfl, hg, _, h⟩
  · simp at hi
  · obtain ⟨kv', h1, h2⟩ := h i hi
    exact ⟨g, cap, kv', rfl, hg, h1, h2 0 _ rfl, h2 1 _ rfl, h2 2 _ rfl, h2 3 _ rfl⟩

/-- The cells of a row of trees. -/
def rowc : List Tr → List Value → List Value
  | t :: ts, v :: vs => trc t v ++ rowc ts vs
  | _, _ => []
theorem trc_length (t : Tr) (v : Value) : (trc t v).length = 4 := rfl
theorem rowc_length : ∀ {ts : List Tr} {vs : List Value}, vs.length = ts.length → (rowc ts vs).length = ts.length * 4
  | [], [], _ => rfl
  | [], _ :: _, h => by simp at h
  | _ :: _, [], h => by simp at h
  | t :: ts, v :: vs, h => by
    rw [rowc, List.length_append, trc_length, rowc_length (by simpa using h), List.length_cons]
    omega
theorem rowc_append : ∀ {ts : List Tr} {vs : List Value} (ts' : List Tr) (vs' : List Value), vs.length = ts.length → rowc (ts ++ ts') (vs ++ vs') = rowc ts vs ++ rowc ts' vs'
  | [], [], _, _, _ => rfl
  | [], _ :: _, _, _, h => by simp at h
  | _ :: _, [], _, _, h => by simp at h
  | t :: ts, v :: vs, ts', vs', h => by
    rw [List.cons_append, List.cons_append, rowc, rowc, rowc_append ts' vs' (by simpa using h), List.append_assoc]
theorem rowc_one (t : Tr) (v : Value) : rowc [t] [v] = trc t v := by simp [rowc]
theorem rowc_get : ∀ {ts : List Tr} {vs : List Value} {i j : Nat} {t : Tr} {v : Value}, ts[i]? = some t → vs[i]? = some v → j < 4 → (rowc ts vs)[i * 4 + j]? = (trc t v)[j]?
  | [], _, i, _, _, _, h, _, _ => by simp at h
  | _ :: _, [], i, _, _, _, _, h, _ => by simp at h
  | t' :: ts, v' :: vs, 0, j, t, v, h1, h2, hj => by
    simp at h1 h2
    subst h1
    subst h2
    rw [rowc, Nat.zero_mul, Nat.zero_add, List.getElem?_append_left (by rw [trc_length]; exact hj)]
  | t' :: ts, v' :: vs, i + 1, j, t, v, h1, h2, hj => by
    rw [rowc, List.getElem?_append_right (by rw [trc_length]; omega), trc_length, show (i + 1) * 4 + j - 4 = i * 4 + j from by omega]
    exact rowc_get (by simpa using h1) (by simpa using h2) hj
/-- The Kids of one of them are set. -/
theorem rowc_set : ∀ {ts : List Tr} {vs : List Value} {i : Nat} (t' : Tr) (u : Value), vs.length = ts.length → (∀ t, ts[i]? = some t → t'.kind = t.kind ∧ t'.place = t.place ∧ t'.text = t.text) → (rowc ts vs).set (i * 4 + 3) u = rowc (ts.set i t') (vs.set i u)
  | [], [], _, _, _, _, _ => by simp [rowc]
  | [], _ :: _, _, _, _, h, _ => by simp at h
  | _ :: _, [], _, _, _, h, _ => by simp at h
  | t :: ts, v :: vs, 0, t', u, h, ht => by
    obtain ⟨h1, h2, h3⟩ := ht t rfl
    simp [rowc, trc, h1, h2, h3]
  | t :: ts, v :: vs, i + 1, t', u, h, ht => by
    rw [List.set_cons_succ, List.set_cons_succ, rowc, rowc, List.set_append_right _ _ (by rw [trc_length]; omega), trc_length, show (i + 1) * 4 + 3 - 4 = i * 4 + 3 from by omega, rowc_set t' u (by simpa using h) (by simpa using ht)]
theorem trc_one (t : Tr) (v : Value) (hv : v.oneCell' = true) : ∀ u ∈ trc t v, u.oneCell' = true := by
  intro u hu
  simp only [trc, List.mem_cons, List.not_mem_nil, or_false] at hu
  rcases hu with rfl | rfl | rfl | rfl
  · rfl
  · rfl
  · rfl
  · exact hv

/-- A row of trees of the call's own. -/
def OwnK (e : Nat) (B : Nat) (F : Nat → Prop) (w : World) (kv : Value) (l : List Tr) : Prop :=
  ∃ vs : List Value, vs.length = l.length ∧ w.ownsRow B e 4 kv l.length (rowc l vs) ∧ ∀ (i : Nat) (t : Tr) (v : Value), l[i]? = some t → vs[i]? = some v → TL F w v t.kids
theorem OwnK.nil (e B : Nat) (F : Nat → Prop) (w : World) : OwnK e B F w (.slice none 0 0) [] := ⟨[], rfl, World.ownsRow_nil _ _ _ _, by simp⟩
theorem OwnK.kept {e B : Nat} {F S : Nat → Prop} {w w' : World} {kv : Value} {l : List Tr} (h : OwnK e B F w kv l) (k : Kept S w w') (hF : ∀ g, F g → g < w.heap.size ∧ ¬ S g) (hg : ∀ g, kv.ownBlock = some g → ¬ S g) : OwnK e B F w' kv l := by
  obtain ⟨vs, h1, h2, h3⟩ := h
  exact ⟨vs, h1, k.own h2 hg, fun i t v ht hv => (h3 i t v ht hv).kept k hF⟩
theorem OwnK.mono {e B : Nat} {F G : Nat → Prop} {w : World} {kv : Value} {l : List Tr} (h : OwnK e B F w kv l) (hF : ∀ g, F g → G g) : OwnK e B G w kv l := by
  obtain ⟨vs, h1, h2, h3⟩ := h
  exact ⟨vs, h1, h2, fun i t v ht hv => (h3 i t v ht hv).mono hF⟩
theorem OwnK.lt {e B : Nat} {F : Nat → Prop} {w : World} {kv : Value} {l : List Tr} (h : OwnK e B F w kv l) : ∀ g, kv.ownBlock = some g → B ≤ g ∧ g < w.heap.size := by
  obtain ⟨vs, h1, h2, h3⟩ := h
  exact h2.lt
theorem OwnK.shape {e B : Nat} {F : Nat → Prop} {w : World} {kv : Value} {l : List Tr} (h : OwnK e B F w kv l) : ∃ a c, kv = .slice a l.length c := by
  obtain ⟨vs, h1, h2, h3⟩ := h
  rcases h2.2 with ⟨rfl, hn⟩ | ⟨g, cap, cur, rfl, _⟩
  · exact ⟨none, 0, by rw [hn]⟩
  · exact ⟨_, _, rfl⟩
/-- It can be read. -/
theorem OwnK.shut {e B : Nat} {F : Nat → Prop} {w : World} {kv : Value} {l : List Tr} (h : OwnK e B F w kv l) : TL (fun g => F g ∨ kv.ownBlock = some g) w kv l := by
  obtain ⟨vs, h1, h2, h3⟩ := h
  rw [TL_iff]
  rcases h2.2 with ⟨rfl, hn⟩ | ⟨g, cap, cur, rfl, hb, hgg, hcap, _⟩
  · exact .inl ⟨rfl, List.eq_nil_of_length_eq_zero hn⟩
  · refine .inr ⟨g, cap, rfl, .inr rfl, hcap, fun i hi => ?_⟩
    have hi' : i < vs.length := by omega
    refine ⟨vs[i], (h3 i l[i] vs[i] (List.getElem?_eq_getElem hi) (List.getElem?_eq_getElem hi')).mono fun g h => .inl h, fun j u hj => ?_⟩
    have hj4 : j < 4 := by
      rcases Nat.lt_or_ge j 4 with h | h
      · exact h
      · rw [List.getElem?_eq_none (by rw [trc_length]; exact h)] at hj; cases hj
    rw [h2.cellAt _ (by omega), rowc_get (List.getElem?_eq_getElem hi) (List.getElem?_eq_getElem hi') hj4]
    exact hj
/-- A tree is appended: what the law on append gives. -/
theorem OwnK.add {e B : Nat} {F : Nat → Prop} {w w' : World} {kv kv' : Value} {l : List Tr} {t : Tr} {u : Value} {vs : List Value} (h1 : vs.length = l.length) (h3 : ∀ (i : Nat) (t : Tr) (v : Value), l[i]? = some t → vs[i]? = some v → TL F w v t.kids)
    (hF : ∀ g, F g → g < w.heap.size ∧ kv.ownBlock ≠ some g) (hown : w'.ownsRow B e 4 kv' (l.length + 1) (rowc l vs ++ trc t u)) (k : Kept (fun g => kv.ownBlock = some g) w w') (ht : TL F w u t.kids) : OwnK e B F w' kv' (l ++ [t]) := by
  refine ⟨vs ++ [u], by simp [h1], ?_, fun i t' v ht' hv => ?_⟩
  · rw [rowc_append _ _ h1, rowc_one, List.length_append]
    exact hown
  · refine TL.kept ?_ k hF
    rw [List.getElem?_append] at ht' hv
    split at ht'
    · rw [if_pos (by omega)] at hv
      exact h3 i t' v ht' hv
    · rw [if_neg (by omega)] at hv
      rw [h1] at hv
      obtain ⟨hlt, e1⟩ := List.getElem?_eq_some_iff.1 ht'
      have hz : i - l.length = 0 := by simp at hlt; omega
      rw [hz] at ht' hv
      simp at ht' hv
      subst ht'
      subst hv
      exact ht

end Go.Proofs.YtfjppbpicmniaaaGreatDoor

namespace Go.Proofs.YtfjppbpicmniaaaGreatDoor
open Go.RowKit

/-- Texts in a row, in a block of F. -/
def TxR (F : Nat → Prop) (w : World) (v : Value) (xs : List (List UInt8)) : Prop :=
  (∃ a c, v = .slice a 0 c ∧ xs = []) ∨ ∃ g o cap, v = .slice (some ⟨g, o, none⟩) xs.length cap ∧ F g ∧ ∀ (j : Nat) x, xs[j]? = some x → w.cell? ⟨g, o + j, none⟩ = some (.string (str x))
/-- Pairs of texts. -/
def TxR2 (F : Nat → Prop) (w : World) (v : Value) (xs : List (List UInt8 × List UInt8)) : Prop :=
  (∃ a c, v = .slice a 0 c ∧ xs = []) ∨ ∃ g o cap, v = .slice (some ⟨g, o, none⟩) xs.length cap ∧ F g ∧ ∀ (j : Nat) x, xs[j]? = some x → w.cell? ⟨g, o + j * 2, none⟩ = some (.string (str x.1)) ∧ w.cell? ⟨g, o + (j * 2 + 1), none⟩ = some (.string (str x.2))
theorem TxR.frame {F G : Nat → Prop} {w w' : World} (hF : ∀ g, F g → G g ∧ w'.heap[g]? = w.heap[g]?) {v : Value} {xs : List (List UInt8)} (h : TxR F w v xs) : TxR G w' v xs := by
  rcases h with h | ⟨g, o, cap, h1, h2, h3⟩
  · exact .inl h
  · refine .inr ⟨g, o, cap, h1, (hF g h2).1, fun j x hj => ?_⟩
    rw [World.cell?_of_block (w := w) (hF g h2).2]
    exact h3 j x hj
theorem TxR2.frame {F G : Nat → Prop} {w w' : World} (hF : ∀ g, F g → G g ∧ w'.heap[g]? = w.heap[g]?) {v : Value} {xs : List (List UInt8 × List UInt8)} (h : TxR2 F w v xs) : TxR2 G w' v xs := by
  rcases h with h | ⟨g, o, cap, h1, h2, h3⟩
  · exact .inl h
  · refine .inr ⟨g, o, cap, h1, (hF g h2).1, fun j x hj => ?_⟩
    obtain ⟨h4, h5⟩ := h3 j x hj
    exact ⟨by rw [World.cell?_of_block (w := w) (hF g h2).2]; exact h4, by rw [World.cell?_of_block (w := w) (hF g h2).2]; exact h5⟩
theorem TxR.shape {F : Nat → Prop} {w : World} {v : Value} {xs : List (List UInt8)} (h : TxR F w v xs) : ∃ a c, v = .slice a xs.length c := by
  rcases h with ⟨a, c, rfl, rfl⟩ | ⟨g, o, cap, rfl, _⟩
  · exact ⟨a, c, rfl⟩
  · exact ⟨_, _, rfl⟩
theorem TxR2.shape {F : Nat → Prop} {w : World} {v : Value} {xs : List (List UInt8 × List UInt8)} (h : TxR2 F w v xs) : ∃ a c, v = .slice a xs.length c := by
  rcases h with ⟨a, c, rfl, rfl⟩ | ⟨g, o, cap, rfl, _⟩
  · exact ⟨a, c, rfl⟩
  · exact ⟨_, _, rfl⟩
theorem TxR.row {F : Nat → Prop} {w : World} {v : Value} {xs : List (List UInt8)} (h : TxR F w v xs) (hF : ∀ g, F g → g < w.heap.size) (hc : ∀ a n c, v = .slice a n c → n ≤ c) : StrRow w v xs := by
  rcases h with ⟨a, c, rfl, rfl⟩ | ⟨g, o, cap, rfl, h2, h3⟩
  · exact .inl ⟨rfl, a, c, rfl⟩
  · exact .inr ⟨g, o, cap, rfl, hF g h2, hc _ _ _ rfl, h3⟩

theorem TxR.nil (F : Nat → Prop) (w : World) : TxR F w (.slice none 0 0) [] := .inl ⟨none, 0, rfl, rfl⟩
theorem TxR2.nil (F : Nat → Prop) (w : World) : TxR2 F w (.slice none 0 0) [] := .inl ⟨none, 0, rfl, rfl⟩
end Go.Proofs.YtfjppbpicmniaaaGreatDoor

namespace Go.Proofs.YtfjppbpicmniaaaGreatDoor
open Go.RowKit Go.Sort

/-- The named types in a type, each once, in order. -/
def namesR (l : List UInt8) : List (List UInt8) := if rightR l = true then onceR (nw l) else []
def NamesE (l : List UInt8) (w : World) (e : Ending) (w' : World) : Prop := ∃ v, e = .returned v ∧ StrRow w' v (namesR l) ∧ Below w.heap.size w w'
theorem frame41 (a : Act) (h : a.tmps.size = 41) (hd : a.defers = []) : ∃ f : Nat → Value, a = { tmps := #[f 0, f 1, f 2, f 3, f 4, f 5, f 6, f 7, f 8, f 9, f 10, f 11, f 12, f 13, f 14, f 15, f 16, f 17, f 18, f 19, f 20, f 21, f 22, f 23, f 24, f 25, f 26, f 27, f 28, f 29, f 30, f 31, f 32, f 33, f 34, f 35, f 36, f 37, f 38, f 39, f 40], defers := [] } := by
  refine ⟨fun k => a.tmps.getD k undef, ?_⟩
  obtain ⟨t, d⟩ := a
  simp only at h hd
  subst hd
  have e := arr_map t
  rw [h] at e
  simp only [Act.mk.injEq, and_true]
  exact e

def nmJ (s : ByteArray) (w0 : World) (l : Nat) (a : Act) (w : World) : Prop :=
  ∃ (p : Nat) (acc : List (List UInt8)) (v : Value), a.tmps.size = 41 ∧ a.defers = [] ∧ a.tmps.getD 0 undef = .string s ∧ a.tmps.getD 3 undef = v ∧ a.tmps.getD 5 undef = .int .i64 (p : Int) ∧
    p < s.size ∧ acc.length ≤ p ∧ w.ownsRow w0.heap.size 9 1 v acc.length (sc acc) ∧ Below w0.heap.size w0 w ∧ l = 0 ∧ Hid (acc ++ nw (s.data.toList.drop p) = nw s.data.toList)
def nmM (s : ByteArray) (_ : Nat) (a : Act) (_ : World) : Nat := s.size - (intOf (a.tmps.getD 5 undef)).toNat
end Go.Proofs.YtfjppbpicmniaaaGreatDoor

namespace Go.Proofs.YtfjppbpicmniaaaGreatDoor
open Go.RowKit

theorem less_is (a b : List UInt8) : Op.bytesLess (str a).toList (str b).toList = decide (a < b) := by
  rw [Lib.toList_data, Lib.toList_data, str_data, str_data, bytesLess_eq]
theorem geq_is (a b : List UInt8) : (!Op.bytesLess (str a).toList (str b).toList) = decide (b ≤ a) := by
  rw [less_is, ← decide_not, Bool.eq_iff_iff, decide_eq_true_iff, decide_eq_true_iff, List.not_lt]
theorem neq_is (a b : List UInt8) : ((str a).toList != (str b).toList) = decide (a ≠ b) := by
  rw [Lib.toList_data, Lib.toList_data, str_data, str_data, Bool.eq_iff_iff, bne_iff_ne, decide_eq_true_iff]
theorem eq_is (a b : List UInt8) : ((str a).toList == (str b).toList) = decide (a = b) := by
  rw [Lib.toList_data, Lib.toList_data, str_data, str_data, Bool.eq_iff_iff, beq_iff_eq, decide_eq_true_iff]

end Go.Proofs.YtfjppbpicmniaaaGreatDoor

namespace Go.Proofs.YtfjppbpicmniaaaGreatDoor
open Go.RowKit

/-- A text that is no longer than any can be. -/
def Tk (x : List UInt8) : Prop := x.length ≤ 140737488355328
def CsOk (c : Cs) : Prop := Tk c.1 ∧ c.2.length ≤ 8796093022208 ∧ ∀ f ∈ c.2, Tk f
def ItOk (x : It) : Prop := -9223372036854775808 ≤ x.kind ∧ x.kind ≤ 9223372036854775807 ∧ Tk x.name ∧ Tk x.ty ∧ x.cases.length ≤ 3518437208883 ∧ ∀ c ∈ x.cases, CsOk c
/-- Cases in a row, in a block of F. -/
def CsR (F : Nat → Prop) (w : World) (v : Value) (cs : List Cs) : Prop :=
  (∃ a c, v = .slice a 0 c ∧ cs = []) ∨ ∃ g o cap, v = .slice (some ⟨g, o, none⟩) cs.length cap ∧ cs.length ≤ cap ∧ F g ∧ ∀ (j : Nat) x, cs[j]? = some x → ∃ fv, TxR F w fv x.2 ∧ w.cell? ⟨g, o + j * 2, none⟩ = some (.string (str x.1)) ∧ w.cell? ⟨g, o + j * 2 + 1, none⟩ = some fv
theorem CsR.frame {F G : Nat → Prop} {w w' : World} (hF : ∀ g, F g → G g ∧ w'.heap[g]? = w.heap[g]?) {v : Value} {cs : List Cs} (h : CsR F w v cs) : CsR G w' v cs := by
  rcases h with h | ⟨g, o, cap, h1, h1', h2, h3⟩
  · exact .inl h
  · refine .inr ⟨g, o, cap, h1, h1', (hF g h2).1, fun j x hj => ?_⟩
    obtain ⟨fv, h4, h5, h6⟩ := h3 j x hj
    exact ⟨fv, h4.frame hF, by rw [World.cell?_of_block (w := w) (hF g h2).2]; exact h5, by rw [World.cell?_of_block (w := w) (hF g h2).2]; exact h6⟩
theorem CsR.shape {F : Nat → Prop} {w : World} {v : Value} {cs : List Cs} (h : CsR F w v cs) : ∃ a c, v = .slice a cs.length c := by
  rcases h with ⟨a, c, rfl, rfl⟩ | ⟨g, o, cap, rfl, _⟩
  · exact ⟨a, c, rfl⟩
  · exact ⟨_, _, rfl⟩
theorem CsR.nil (F : Nat → Prop) (w : World) : CsR F w (.slice none 0 0) [] := .inl ⟨none, 0, rfl, rfl⟩
theorem CsR.at {F : Nat → Prop} {w : World} {v : Value} {cs : List Cs} (h : CsR F w v cs) (i : Nat) (hi : i < cs.length) : ∃ g o cap fv, v = .slice (some ⟨g, o, none⟩) cs.length cap ∧ cs.length ≤ cap ∧ F g ∧ TxR F w fv cs[i].2 ∧ w.cell? ⟨g, o + i * 2, none⟩ = some (.string (str cs[i].1)) ∧ w.cell? ⟨g, o + i * 2 + 1, none⟩ = some fv := by
  rcases h with ⟨a, c, rfl, rfl⟩ | ⟨g, o, cap, rfl, hc, hg, h⟩
  · simp at hi
  · obtain ⟨fv, h1, h2, h3⟩ := h i _ (List.getElem?_eq_getElem hi)
    exact ⟨g, o, cap, fv, rfl, hc, hg, h1, h2, h3⟩
/-- The first n of them. -/
theorem CsR.take {F : Nat → Prop} {w : World} {g o cap : Nat} {cs : List Cs} (h : CsR F w (.slice (some ⟨g, o, none⟩) cs.length cap) cs) (_hF : F g) (_hc : cs.length ≤ cap) (n : Nat) (hn : n ≤ cs.length) : CsR F w (.slice (some ⟨g, o, none⟩) n cap) (cs.take n) := by
  rcases h with ⟨a, c, h1, rfl⟩ | ⟨g', o', cap', h1, h1', h2, h3⟩
  · simp at hn
    subst hn
    exact .inl ⟨_, cap, rfl, rfl⟩
  · simp only [Value.slice.injEq, Option.some.injEq, Addr.mk.injEq, and_true, true_and] at h1
    obtain ⟨⟨rfl, rfl⟩, rfl⟩ := h1
    refine .inr ⟨g, o, cap, by rw [List.length_take, Nat.min_eq_left hn], by rw [List.length_take, Nat.min_eq_left hn]; omega, h2, fun j x hj => h3 j x ?_⟩
    rw [List.getElem?_take] at hj
    split at hj
    · exact hj
    · cases hj
/-- Items in a row. -/
def ItR (F : Nat → Prop) (w : World) (v : Value) (l : List It) : Prop :=
  (∃ a c, v = .slice a 0 c ∧ l = []) ∨ ∃ g o cap, v = .slice (some ⟨g, o, none⟩) l.length cap ∧ l.length ≤ cap ∧ F g ∧ ∀ (j : Nat) x, l[j]? = some x → ∃ cv, CsR F w cv x.cases ∧ w.cell? ⟨g, o + j * 4, none⟩ = some (.int .i64 x.kind) ∧ w.cell? ⟨g, o + j * 4 + 1, none⟩ = some (.string (str x.name)) ∧ w.cell? ⟨g, o + j * 4 + 2, none⟩ = some (.string (str x.ty)) ∧ w.cell? ⟨g, o + j * 4 + 3, none⟩ = some cv
theorem ItR.frame {F G : Nat → Prop} {w w' : World} (hF : ∀ g, F g → G g ∧ w'.heap[g]? = w.heap[g]?) {v : Value} {l : List It} (h : ItR F w v l) : ItR G w' v l := by
  rcases h with h | ⟨g, o, cap, h1, h1', h2, h3⟩
  · exact .inl h
  · refine .inr ⟨g, o, cap, h1, h1', (hF g h2).1, fun j x hj => ?_⟩
    obtain ⟨cv, h4, h5, h6, h7, h8⟩ := h3 j x hj
    have hb := (hF g h2).2
    exact ⟨cv, h4.frame hF, (World.cell?_of_block (a := ⟨g, o + j * 4, none⟩) hb).trans h5, (World.cell?_of_block (a := ⟨g, o + j * 4 + 1, none⟩) hb).trans h6, (World.cell?_of_block (a := ⟨g, o + j * 4 + 2, none⟩) hb).trans h7, (World.cell?_of_block (a := ⟨g, o + j * 4 + 3, none⟩) hb).trans h8⟩
theorem ItR.shape {F : Nat → Prop} {w : World} {v : Value} {l : List It} (h : ItR F w v l) : ∃ a c, v = .slice a l.length c := by
  rcases h with ⟨a, c, rfl, rfl⟩ | ⟨g, o, cap, rfl, _⟩
  · exact ⟨a, c, rfl⟩
  · exact ⟨_, _, rfl⟩
theorem ItR.nil (F : Nat → Prop) (w : World) : ItR F w (.slice none 0 0) [] := .inl ⟨none, 0, rfl, rfl⟩
theorem ItR.at {F : Nat → Prop} {w : World} {v : Value} {l : List It} (h : ItR F w v l) (i : Nat) (hi : i < l.length) : ∃ g o cap cv, v = .slice (some ⟨g, o, none⟩) l.length cap ∧ F g ∧ CsR F w cv l[i].cases ∧ w.cell? ⟨g, o + i * 4, none⟩ = some (.int .i64 l[i].kind) ∧ w.cell? ⟨g, o + i * 4 + 1, none⟩ = some (.string (str l[i].name)) ∧ w.cell? ⟨g, o + i * 4 + 2, none⟩ = some (.string (str l[i].ty)) ∧ w.cell? ⟨g, o + i * 4 + 3, none⟩ = some cv := by
  rcases h with ⟨a, c, rfl, rfl⟩ | ⟨g, o, cap, rfl, _, hg, h⟩
  · simp at hi
  · obtain ⟨cv, h1, h2⟩ := h i _ (List.getElem?_eq_getElem hi)
    exact ⟨g, o, cap, cv, rfl, hg, h1, h2⟩
/-- What lies below stays, also for texts, cases, items. -/
theorem TxR.below {F : Nat → Prop} {H : Nat} {w w' : World} {v : Value} {xs : List (List UInt8)} (h : TxR F w v xs) (hb : Below H w w') (hF : ∀ g, F g → g < H) : TxR F w' v xs := h.frame fun g hg => ⟨hg, hb.block g (hF g hg)⟩
theorem CsR.below {F : Nat → Prop} {H : Nat} {w w' : World} {v : Value} {xs : List Cs} (h : CsR F w v xs) (hb : Below H w w') (hF : ∀ g, F g → g < H) : CsR F w' v xs := h.frame fun g hg => ⟨hg, hb.block g (hF g hg)⟩
theorem ItR.below {F : Nat → Prop} {H : Nat} {w w' : World} {v : Value} {xs : List It} (h : ItR F w v xs) (hb : Below H w w') (hF : ∀ g, F g → g < H) : ItR F w' v xs := h.frame fun g hg => ⟨hg, hb.block g (hF g hg)⟩
theorem TxR.at {F : Nat → Prop} {w : World} {v : Value} {xs : List (List UInt8)} (h : TxR F w v xs) (i : Nat) (hi : i < xs.length) : ∃ g o cap, v = .slice (some ⟨g, o, none⟩) xs.length cap ∧ F g ∧ w.cell? ⟨g, o + i, none⟩ = some (.string (str xs[i])) := by
  rcases h with ⟨a, c, rfl, rfl⟩ | ⟨g, o, cap, rfl, hg, h⟩
  · simp at hi
  · exact ⟨g, o, cap, rfl, hg, h i _ (List.getElem?_eq_getElem hi)⟩
theorem cell_more {w : World} {a : Addr} {v : Value} (h : w.cell? a = some v) (o : Obj) : (w.alloc o).cell? a = some v := (World.cell?_of_block (Below.heap_alloc _ _ _ (World.block_lt_of_cell? w a h))).trans h
def csv (c : Cs) (fv : Value) : Value := .agg #[.string (str c.1), fv]
def itv (x : It) (cv : Value) : Value := .agg #[.int .i64 x.kind, .string (str x.name), .string (str x.ty), cv]
def NumB (n : Nat) (w : World) (e : Ending) (w' : World) : Prop := e = .returned (.int .i64 (n : Int)) ∧ Below w.heap.size w w'
end Go.Proofs.YtfjppbpicmniaaaGreatDoor
