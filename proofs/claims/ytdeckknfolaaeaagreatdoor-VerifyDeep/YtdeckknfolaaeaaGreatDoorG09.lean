/-
  Trees in memory: cells of a tree, rows of trees that can be read (TL), rows of the call's own that grow (OwnK), the stack of open brackets (StkM); what each step of memory leaves of them.
  And: Texts, and pairs of texts, in a row in memory. The package's Names: its walk. How texts compare. No program in it.
-/
import Derived.Deep.AppendLies
import Derived.OneCell
import Derived.Test.YtdeckknfolaaeaaGreatDoorG04
import Derived.Test.YtdeckknfolaaeaaGreatDoorG08
import Derived.Test.YtdeckknfolaaeaaGreatDoorG07
import Derived.Sort.Walk0
namespace Go.Proofs.YtdeckknfolaaeaaGreatDoor
open Go.RowKit

structure Kept (S : Nat → Prop) (w w' : World) : Prop where
  os : w'.os = w.os
  tape : w'.tape = w.tape
  output : w'.output = w.output
  size : w.heap.size ≤ w'.heap.size
  block : ∀ k, k < w.heap.size → ¬ S k → w'.heap[k]? = w.heap[k]?
theorem Kept.refl (S : Nat → Prop) (w : World) : Kept S w w := ⟨rfl, rfl, rfl, Nat.le_refl _, fun _ _ _ => rfl⟩
theorem Kept.trans {S T U : Nat → Prop} {a b c : World} (h : Kept S a b) (k : Kept T b c) (hS : ∀ x, x < a.heap.size → S x → U x) (hT : ∀ x, x < a.heap.size → T x → U x) : Kept U a c :=
  ⟨k.os.trans h.os, k.tape.trans h.tape, k.output.trans h.output, Nat.le_trans h.size k.size, fun i hi hu => (k.block i (Nat.lt_of_lt_of_le hi h.size) (fun e => hu (hT i hi e))).trans (h.block i hi (fun e => hu (hS i hi e)))⟩
theorem Kept.mono {S T : Nat → Prop} {a b : World} (h : Kept S a b) (hS : ∀ x, x < a.heap.size → S x → T x) : Kept T a b :=
  ⟨h.os, h.tape, h.output, h.size, fun i hi hu => h.block i hi (fun e => hu (hS i hi e))⟩
theorem Kept.alloc {S : Nat → Prop} {a w : World} (h : Kept S a w) (o : Obj) : Kept S a (w.alloc o) :=
  ⟨h.os, h.tape, h.output, Nat.le_trans h.size (by simp), fun i hi hu => (Below.heap_alloc _ _ _ (Nat.lt_of_lt_of_le hi h.size)).trans (h.block i hi hu)⟩
theorem Kept.drew {S : Nat → Prop} {a w : World} (h : Kept S a w) : Kept S a w.drew := ⟨h.os, h.tape, h.output, h.size, h.block⟩
theorem Kept.setCell {S : Nat → Prop} {a w : World} (h : Kept S a w) {p : Addr} (hp : p.block < a.heap.size → S p.block) (u : Value) : Kept S a (w.setCell p u) :=
  ⟨h.os, h.tape, h.output, by simpa [World.setCell] using h.size, fun i hi hu => (Below.heap_setCell _ _ _ _ (fun e => hu (by subst e; exact hp hi))).trans (h.block i hi hu)⟩
theorem Kept.grown {S : Nat → Prop} {a w w' : World} {row : Option Nat} (h : Kept S a w) (hg : w.grownBy w' row) (hr : ∀ k, row = some k → k < a.heap.size → S k) : Kept S a w' :=
  ⟨hg.os.trans h.os, hg.tape.trans h.tape, hg.output.trans h.output, Nat.le_trans h.size hg.size, fun i hi hu => (hg.block i (Nat.lt_of_lt_of_le hi h.size) (fun e => hu (hr i e.symm hi))).trans (h.block i hi hu)⟩
theorem Kept.below {S : Nat → Prop} {a w : World} {B : Nat} (h : Kept S a w) (hB : B ≤ a.heap.size) (hS : ∀ x, x < B → ¬ S x) : Below B a w :=
  ⟨h.os, h.tape, h.output, h.size, fun k hk => h.block k (by omega) (hS k hk)⟩
theorem Kept.of_below {a w : World} {B : Nat} (h : Below B a w) : Kept (fun k => B ≤ k) a w := ⟨h.os, h.tape, h.output, h.size, fun k _ hn => h.block k (by omega)⟩
theorem Kept.cell {S : Nat → Prop} {a w : World} (h : Kept S a w) {p : Addr} {v : Value} (hc : a.cell? p = some v) (hp : ¬ S p.block) : w.cell? p = some v :=
  (World.cell?_of_block (h.block p.block (World.block_lt_of_cell? a p hc) hp)).trans hc
theorem Kept.own {S : Nat → Prop} {w w' : World} {B e size n : Nat} {v : Value} {xs : List Value} (k : Kept S w w') (h : w.ownsRow B e size v n xs) (hg : ∀ g, v.ownBlock = some g → ¬ S g) : w'.ownsRow B e size v n xs := by
  refine ⟨h.1, ?_⟩
  rcases h.2 with hn | ⟨g, cap, cur, rfl, hb, hgg, rest⟩
  · exact .inl hn
  · exact .inr ⟨g, cap, cur, rfl, hb, (k.block g (Array.getElem?_eq_some_iff.1 hgg).1 (hg g rfl)).trans hgg, rest⟩

/-- A tree's cells; as a value. -/
def trc (t : Tr) (kv : Value) : List Value := [.int .i64 (t.kind : Int), .int .i64 (t.place : Int), .string (str t.text), kv]
def trv (t : Tr) (kv : Value) : Value := .agg #[.int .i64 (t.kind : Int), .int .i64 (t.place : Int), .string (str t.text), kv]
/-- The Kids of a tree can be read through kv, in blocks of F. -/
def TI (F : Nat → Prop) (w : World) : Value → Tr → Prop
  | kv, ⟨_, _, _, l, _⟩ => (kv = .slice none 0 0 ∧ l = []) ∨ ∃ g cap, kv = .slice (some ⟨g, 0, none⟩) l.length cap ∧ F g ∧ l.length ≤ cap ∧
      ∀ i (h : i < l.length), have _hm := List.getElem_mem h; ∃ kv', TI F w kv' l[i] ∧ ∀ j u, (trc l[i] kv')[j]? = some u → w.cell? ⟨g, i * 4 + j, none⟩ = some u
def TL (F : Nat → Prop) (w : World) (kv : Value) (l : List Tr) : Prop := TI F w kv ⟨0, 0, [], l, ⟨0, 0, []⟩⟩
theorem TI_iff (F : Nat → Prop) (w : World) (kv : Value) (t : Tr) : TI F w kv t ↔ TL F w kv t.kids := by
  obtain ⟨k, p, x, l, e⟩ := t
  unfold TL
  rw [TI, TI]
theorem TL_iff (F : Nat → Prop) (w : World) (kv : Value) (l : List Tr) : TL F w kv l ↔ (kv = .slice none 0 0 ∧ l = []) ∨ ∃ g cap, kv = .slice (some ⟨g, 0, none⟩) l.length cap ∧ F g ∧ l.length ≤ cap ∧
      ∀ i (h : i < l.length), ∃ kv', TL F w kv' l[i].kids ∧ ∀ j u, (trc l[i] kv')[j]? = some u → w.cell? ⟨g, i * 4 + j, none⟩ = some u := by
  unfold TL
  rw [TI]
  simp only [TI_iff]
theorem TL.frame {F G : Nat → Prop} {w w' : World} (hF : ∀ g, F g → G g ∧ w'.heap[g]? = w.heap[g]?) {kv : Value} {l : List Tr} (h : TL F w kv l) : TL G w' kv l := by
  have key : ∀ (t : Tr) (kv : Value), TI F w kv t → TI G w' kv t := by
    intro t
    induction t using tr_ind with
    | h t ih =>
      intro kv h
      rw [TI_iff, TL_iff] at h ⊢
      rcases h with h | ⟨g, cap, h1, h2, hc, h3⟩
      · exact .inl h
      · refine .inr ⟨g, cap, h1, (hF g h2).1, hc, fun i hi => ?_⟩
        obtain ⟨kv', h4, h5⟩ := h3 i hi
        refine ⟨kv', (TI_iff _ _ _ _).1 (ih _ (List.getElem_mem hi) kv' ((TI_iff _ _ _ _).2 h4)), fun j u hj => ?_⟩
        rw [World.cell?_of_block (w := w) (hF g h2).2]
        exact h5 j u hj
  exact key _ kv h
theorem TL.mono {F G : Nat → Prop} {w : World} (hF : ∀ g, F g → G g) {kv : Value} {l : List Tr} (h : TL F w kv l) : TL G w kv l := h.frame fun g hg => ⟨hF g hg, rfl⟩
theorem TL.kept {F S : Nat → Prop} {w w' : World} {kv : Value} {l : List Tr} (h : TL F w kv l) (k : Kept S w w') (hF : ∀ g, F g → g < w.heap.size ∧ ¬ S g) : TL F w' kv l := h.frame fun g hg => ⟨hg, k.block g (hF g hg).1 (hF g hg).2⟩
theorem TL.shape {F : Nat → Prop} {w : World} {kv : Value} {l : List Tr} (h : TL F w kv l) : ∃ a c, kv = .slice a l.length c := by
  rcases (TL_iff _ _ _ _).1 h with ⟨rfl, rfl⟩ | ⟨g, cap, rfl, _⟩
  · exact ⟨none, 0, rfl⟩
  · exact ⟨_, _, rfl⟩
theorem TL.cap {F : Nat → Prop} {w : World} {a : Option Addr} {n c : Nat} {l : List Tr} (h : TL F w (.slice a n c) l) : n ≤ c := by
  rcases (TL_iff _ _ _ _).1 h with ⟨e, _⟩ | ⟨g, cap, e, _, hc, _⟩
  · simp only [Value.slice.injEq] at e
    omega
  · simp only [Value.slice.injEq] at e
    omega
theorem TL.nil (F : Nat → Prop) (w : World) : TL F w (.slice none 0 0) [] := (TL_iff _ _ _ _).2 (.inl ⟨rfl, rfl⟩)
/-- One of them. -/
theorem TL.at {F : Nat → Prop} {w : World} {kv : Value} {l : List Tr} (h : TL F w kv l) (i : Nat) (hi : i < l.length) : ∃ g cap kv', kv = .slice (some ⟨g, 0, none⟩) l.length cap ∧ F g ∧ TL F w kv' l[i].kids ∧
    w.cell? ⟨g, i * 4, none⟩ = some (.int .i64 (l[i].kind : Int)) ∧ w.cell? ⟨g, i * 4 + 1, none⟩ = some (.int .i64 (l[i].place : Int)) ∧ w.cell? ⟨g, i * 4 + 2, none⟩ = some (.string (str l[i].text)) ∧ w.cell? ⟨g, i * 4 + 3, none⟩ = some kv' := by
  rcases (TL_iff _ _ _ _).1 h with ⟨rfl, rfl⟩ | ⟨g, cap, rfl, hg, _, h⟩
  · simp at hi
  · obtain ⟨kv', h1, h2⟩ := h i hi
    exact ⟨g, cap, kv', rfl, hg, h1, h2 0 _ rfl, h2 1 _ rfl, h2 2 _ rfl, h2 3 _ rfl⟩

/-- The cells of a row of trees. -/
def rowc : List Tr → List Value → List Value
  | t :: ts, v :: vs => trc t v ++ rowc ts vs
  | _, _ => []
theorem trc_length (t : Tr) (v : Value) : (trc t v).length = 4 := rfl
theorem rowc_length : ∀ {ts : List Tr} {vs : List Value}, vs.length = ts.length → (rowc ts vs).length = ts.length * 4
  | [], [], _ => rfl
  | [], _ :: _, h => by simp at h
  | _ :: _, [], h => by simp at h
  | t :: ts, v :: vs, h => by
    rw [rowc, List.length_append, trc_length, rowc_length (by simpa using h), List.length_cons]
    omega
theorem rowc_append : ∀ {ts : List Tr} {vs : List Value} (ts' : List Tr) (vs' : List Value), vs.length = ts.length → rowc (ts ++ ts') (vs ++ vs') = rowc ts vs ++ rowc ts' vs'
  | [], [], _, _, _ => rfl
  | [], _ :: _, _, _, h => by simp at h
  | _ :: _, [], _, _, h => by simp at h
  | t :: ts, v :: vs, ts', vs', h => by
    rw [List.cons_append, List.cons_append, rowc, rowc, rowc_append ts' vs' (by simpa using h), List.append_assoc]
theorem rowc_one (t : Tr) (v : Value) : rowc [t] [v] = trc t v := by simp [rowc]
theorem rowc_get : ∀ {ts : List Tr} {vs : List Value} {i j : Nat} {t : Tr} {v : Value}, ts[i]? = some t → vs[i]? = some v → j < 4 → (rowc ts vs)[i * 4 + j]? = (trc t v)[j]?
  | [], _, i, _, _, _, h, _, _ => by simp at h
  | _ :: _, [], i, _, _, _, _, h, _ => by simp at h
  | t' :: ts, v' :: vs, 0, j, t, v, h1, h2, hj => by
    simp at h1 h2
    subst h1
    subst h2
    rw [rowc, Nat.zero_mul, Nat.zero_add, List.getElem?_append_left (by rw [trc_length]; exact hj)]
  | t' :: ts, v' :: vs, i + 1, j, t, v, h1, h2, hj => by
    rw [rowc, List.getElem?_append_right (by rw [trc_length]; omega), trc_length, show (i + 1) * 4 + j - 4 = i * 4 + j from by omega]
    exact rowc_get (by simpa using h1) (by simpa using h2) hj
/-- The Kids of one of them are set. -/
theorem rowc_set : ∀ {ts : List Tr} {vs : List Value} {i : Nat} (t' : Tr) (u : Value), vs.length = ts.length → (∀ t, ts[i]? = some t → t'.kind = t.kind ∧ t'.place = t.place ∧ t'.text = t.text) → (rowc ts vs).set (i * 4 + 3) u = rowc (ts.set i t') (vs.set i u)
  | [], [], _, _, _, _, _ => by simp [rowc]
  | [], _ :: _, _, _, _, h, _ => by simp at h
  | _ :: _, [], _, _, _, h, _ => by simp at h
  | t :: ts, v :: vs, 0, t', u, h, ht => by
    obtain ⟨h1, h2, h3⟩ := ht t rfl
    simp [rowc, trc, h1, h2, h3]
  | t :: ts, v :: vs, i + 1, t', u, h, ht => by
    rw [List.set_cons_succ, List.set_cons_succ, rowc, rowc, List.set_append_right _ _ (by rw [trc_length]; omega), trc_length, show (i + 1) * 4 + 3 - 4 = i * 4 + 3 from by omega, rowc_set t' u (by simpa using h) (by simpa using ht)]
theorem trc_one (t : Tr) (v : Value) (hv : v.oneCell' = true) : ∀ u ∈ trc t v, u.oneCell' = true := by
  intro u hu
  simp only [trc, List.mem_cons, List.not_mem_nil, or_false] at hu
  rcases hu with rfl | rfl | rfl | rfl
  · rfl
  · rfl
  · rfl
  · exact hv

/-- A row of trees of the call's own. -/
def OwnK (e : Nat) (B : Nat) (F : Nat → Prop) (w : World) (kv : Value) (l : List Tr) : Prop :=
  ∃ vs : List Value, vs.length = l.length ∧ w.ownsRow B e 4 kv l.length (rowc l vs) ∧ ∀ (i : Nat) (t : Tr) (v : Value), l[i]? = some t → vs[i]? = some v → TL F w v t.kids
theorem OwnK.nil (e B : Nat) (F : Nat → Prop) (w : World) : OwnK e B F w (.slice none 0 0) [] := ⟨[], rfl, World.ownsRow_nil _ _ _ _, by simp⟩
theorem OwnK.kept {e B : Nat} {F S : Nat → Prop} {w w' : World} {kv : Value} {l : List Tr} (h : OwnK e B F w kv l) (k : Kept S w w') (hF : ∀ g, F g → g < w.heap.size ∧ ¬ S g) (hg : ∀ g, kv.ownBlock = some g → ¬ S g) : OwnK e B F w' kv l := by
  obtain ⟨vs, h1, h2, h3⟩ := h
  exact ⟨vs, h1, k.own h2 hg, fun i t v ht hv => (h3 i t v ht hv).kept k hF⟩
theorem OwnK.mono {e B : Nat} {F G : Nat → Prop} {w : World} {kv : Value} {l : List Tr} (h : OwnK e B F w kv l) (hF : ∀ g, F g → G g) : OwnK e B G w kv l := by
  obtain ⟨vs, h1, h2, h3⟩ := h
  exact ⟨vs, h1, h2, fun i t v ht hv => (h3 i t v ht hv).mono hF⟩
theorem OwnK.lt {e B : Nat} {F : Nat → Prop} {w : World} {kv : Value} {l : List Tr} (h : OwnK e B F w kv l) : ∀ g, kv.ownBlock = some g → B ≤ g ∧ g < w.heap.size := by
  obtain ⟨vs, h1, h2, h3⟩ := h
  exact h2.lt
theorem OwnK.shape {e B : Nat} {F : Nat → Prop} {w : World} {kv : Value} {l : List Tr} (h : OwnK e B F w kv l) : ∃ a c, kv = .slice a l.length c := by
  obtain ⟨vs, h1, h2, h3⟩ := h
  rcases h2.2 with ⟨rfl, hn⟩ | ⟨g, cap, cur, rfl, _⟩
  · exact ⟨none, 0, by rw [hn]⟩
  · exact ⟨_, _, rfl⟩
/-- It can be read. -/
theorem OwnK.shut {e B : Nat} {F : Nat → Prop} {w : World} {kv : Value} {l : List Tr} (h : OwnK e B F w kv l) : TL (fun g => F g ∨ kv.ownBlock = some g) w kv l := by
  obtain ⟨vs, h1, h2, h3⟩ := h
  rw [TL_iff]
  rcases h2.2 with ⟨rfl, hn⟩ | ⟨g, cap, cur, rfl, hb, hgg, hcap, _⟩
  · exact .inl ⟨rfl, List.eq_nil_of_length_eq_zero hn⟩
  · refine .inr ⟨g, cap, rfl, .inr rfl, hcap, fun i hi => ?_⟩
    have hi' : i < vs.length := by omega
    refine ⟨vs[i], (h3 i l[i] vs[i] (List.getElem?_eq_getElem hi) (List.getElem?_eq_getElem hi')).mono fun g h => .inl h, fun j u hj => ?_⟩
    have hj4 : j < 4 := by
      rcases Nat.lt_or_ge j 4 with h | h
      · exact h
      · rw [List.getElem?_eq_none (by rw [trc_length]; exact h)] at hj; cases hj
    rw [h2.cellAt _ (by omega), rowc_get (List.getElem?_eq_getElem hi) (List.getElem?_eq_getElem hi') hj4]
    exact hj
/-- A tree is appended: what the law on append gives. -/
theorem OwnK.add {e B : Nat} {F : Nat → Prop} {w w' : World} {kv kv' : Value} {l : List Tr} {t : Tr} {u : Value} {vs : List Value} (h1 : vs.length = l.length) (h3 : ∀ (i : Nat) (t : Tr) (v : Value), l[i]? = some t → vs[i]? = some v → TL F w v t.kids)
    (hF : ∀ g, F g → g < w.heap.size ∧ kv.ownBlock ≠ some g) (hown : w'.ownsRow B e 4 kv' (l.length + 1) (rowc l vs ++ trc t u)) (k : Kept (fun g => kv.ownBlock = some g) w w') (ht : TL F w u t.kids) : OwnK e B F w' kv' (l ++ [t]) := by
  refine ⟨vs ++ [u], by simp [h1], ?_, fun i t' v ht' hv => ?_⟩
  · rw [rowc_append _ _ h1, rowc_one, List.length_append]
    exact hown
  · refine TL.kept ?_ k hF
    rw [List.getElem?_append] at ht' hv
    split at ht'
    · rw [if_pos (by omega)] at hv
      exact h3 i t' v ht' hv
    · rw [if_neg (by omega)] at hv
      rw [h1] at hv
      obtain ⟨hlt, e1⟩ := List.getElem?_eq_some_iff.1 ht'
      have hz : i - l.length = 0 := by simp at hlt; omega
      rw [hz] at ht' hv
      simp at ht' hv
      subst ht'
      subst hv
      exact ht

end Go.Proofs.YtdeckknfolaaeaaGreatDoor

namespace Go.Proofs.YtdeckknfolaaeaaGreatDoor
open Go.RowKit

/-- Texts in a row, in a block of F. -/
def TxR (F : Nat → Prop) (w : World) (v : Value) (xs : List (List UInt8)) : Prop :=
  (∃ a c, v = .slice a 0 c ∧ xs = []) ∨ ∃ g o cap, v = .slice (some ⟨g, o, none⟩) xs.length cap ∧ F g ∧ ∀ (j : Nat) x, xs[j]? = some x → w.cell? ⟨g, o + j, none⟩ = some (.string (str x))
/-- Pairs of texts. -/
def TxR2 (F : Nat → Prop) (w : World) (v : Value) (xs : List (List UInt8 × List UInt8)) : Prop :=
  (∃ a c, v = .slice a 0 c ∧ xs = []) ∨ ∃ g o cap, v = .slice (some ⟨g, o, none⟩) xs.length cap ∧ F g ∧ ∀ (j : Nat) x, xs[j]? = some x → w.cell? ⟨g, o + j * 2, none⟩ = some (.string (str x.1)) ∧ w.cell? ⟨g, o + (j * 2 + 1), none⟩ = some (.string (str x.2))
theorem TxR.frame {F G : Nat → Prop} {w w' : World} (hF : ∀ g, F g → G g ∧ w'.heap[g]? = w.heap[g]?) {v : Value} {xs : List (List UInt8)} (h : TxR F w v xs) : TxR G w' v xs := by
  rcases h with h | ⟨g, o, cap, h1, h2, h3⟩
  · exact .inl h
  · refine .inr ⟨g, o, cap, h1, (hF g h2).1, fun j x hj => ?_⟩
    rw [World.cell?_of_block (w := w) (hF g h2).2]
    exact h3 j x hj
theorem TxR2.frame {F G : Nat → Prop} {w w' : World} (hF : ∀ g, F g → G g ∧ w'.heap[g]? = w.heap[g]?) {v : Value} {xs : List (List UInt8 × List UInt8)} (h : TxR2 F w v xs) : TxR2 G w' v xs := by
  rcases h with h | ⟨g, o, cap, h1, h2, h3⟩
  · exact .inl h
  · refine .inr ⟨g, o, cap, h1, (hF g h2).1, fun j x hj => ?_⟩
    obtain ⟨h4, h5⟩ := h3 j x hj
    exact ⟨by rw [World.cell?_of_block (w := w) (hF g h2).2]; exact h4, by rw [World.cell?_of_block (w := w) (hF g h2).2]; exact h5⟩
theorem TxR.shape {F : Nat → Prop} {w : World} {v : Value} {xs : List (List UInt8)} (h : TxR F w v xs) : ∃ a c, v = .slice a xs.length c := by
  rcases h with ⟨a, c, rfl, rfl⟩ | ⟨g, o, cap, rfl, _⟩
  · exact ⟨a, c, rfl⟩
  · exact ⟨_, _, rfl⟩
theorem TxR2.shape {F : Nat → Prop} {w : World} {v : Value} {xs : List (List UInt8 × List UInt8)} (h : TxR2 F w v xs) : ∃ a c, v = .slice a xs.length c := by
  rcases h with ⟨a, c, rfl, rfl⟩ | ⟨g, o, cap, rfl, _⟩
  · exact ⟨a, c, rfl⟩
  · exact ⟨_, _, rfl⟩
theorem TxR.row {F : Nat → Prop} {w : World} {v : Value} {xs : List (List UInt8)} (h : TxR F w v xs) (hF : ∀ g, F g → g < w.heap.size) (hc : ∀ a n c, v = .slice a n c → n ≤ c) : StrRow w v xs := by
  rcases h with ⟨a, c, rfl, rfl⟩ | ⟨g, o, cap, rfl, h2, h3⟩
  · exact .inl ⟨rfl, a, c, rfl⟩
  · exact .inr ⟨g, o, cap, rfl, hF g h2, hc _ _ _ rfl, h3⟩

theorem TxR.nil (F : Nat → Prop) (w : World) : TxR F w (.slice none 0 0) [] := .inl ⟨none, 0, rfl, rfl⟩
theorem TxR2.nil (F : Nat → Prop) (w : World) : TxR2 F w (.slice none 0 0) [] := .inl ⟨none, 0, rfl, rfl⟩
end Go.Proofs.YtdeckknfolaaeaaGreatDoor

namespace Go.Proofs.YtdeckknfolaaeaaGreatDoor
open Go.RowKit Go.Sort

/-- Texts in a row of the call's own, as sorting wants them. -/
def RowS (B : Nat) (w : World) (v : Value) (acc : List (List UInt8)) : Prop := /- 99 -/
  (acc = [] ∧ v = .slice none 0 0) ∨ ∃ g cap, v = .slice (some ⟨g, 0, none⟩) acc.length cap ∧ B ≤ g ∧ g < w.heap.size ∧ acc.length ≤ cap ∧ Holds encStr w g 0 acc.toArray
theorem rowS_own {w : World} {B e : Nat} {v : Value} {xs : List (List UInt8)} (h : w.ownsRow B e 1 v xs.length (sc xs)) : RowS B w v xs := by
  rcases h.2 with ⟨rfl, hn⟩ | ⟨g, cap, cur, rfl, hb, hg, h1, _⟩
  · exact .inl ⟨List.eq_nil_of_length_eq_zero hn, rfl⟩
  · refine .inr ⟨g, cap, rfl, hb, (Array.getElem?_eq_some_iff.1 hg).1, h1, fun j hj => ⟨?_, ?_⟩⟩
    · simp only [List.size_toArray] at hj
      rw [Nat.zero_add, h.cellAt j (by omega)]
      simp [sc, encStr, str, hj]
    · rw [Nat.zero_add]
      exact h.frozenAt j
theorem kept_putRow (w : World) (n g : Nat) (d : Array (List UInt8)) : Kept (fun k => k = g) w (putRow encStr (Sort.ahead w n) g 0 d) := /- 99 -/ by
  refine ⟨rfl, rfl, rfl, by simp, fun k hk hn => ?_⟩
  simp only [putRow, mapBlock, heap_ahead, Array.getElem?_modify]
  rw [if_neg (fun e => hn e.symm)]
theorem kept_grow {S : Nat → Prop} {w w1 : World} (h : Kept S w w1) (os : Array Obj) : Kept S w (grow w1 os) := /- 99 -/ by
  refine ⟨h.os, h.tape, h.output, by have := h.size; simp; omega, fun k hk hn => ?_⟩
  rw [heap_grow_old _ _ (Nat.lt_of_lt_of_le hk h.size)]
  exact h.block k hk hn
theorem sortOwn (B : Nat) (w : World) (v : Value) (acc : List (List UInt8)) (h : RowS B w v acc) (hn : acc.length ≤ 8192) :
    Calls Tryz.prog 171 #[v] w fun e w' => e = .returned (.tuple #[]) ∧ RowS B w' v (sortR acc) ∧ Below B w w' := by
  rcases h with ⟨rfl, rfl⟩ | ⟨g, cap, rfl, hB, hg, hc, hH⟩
  · refine (Tryz.slices_Sort_string_none none 0 w).mono ?_
    rintro e w1 ⟨rfl, rfl⟩
    exact ⟨rfl, .inl ⟨by simp [sortR], rfl⟩, Below.refl _ _⟩
  · refine (Tryz.slices_Sort_string g 0 cap acc w hH hg (by omega)).mono ?_
    rintro e w1 ⟨rfl, n, os, rfl⟩
    have hk := kept_grow (kept_putRow w n g (sortR acc).toArray) os
    refine ⟨rfl, .inr ⟨g, cap, by rw [sortR_length], hB, Nat.lt_of_lt_of_le hg hk.size, by rw [sortR_length]; exact hc, ?_⟩, hk.below (by omega) (fun k hk' e => by omega)⟩
    refine holds_grow _ _ _ _ _ _ (by simpa using hg) (holds_putRow _ _ _ _ acc.toArray _ (holds_ahead _ _ _ _ _ _ hH) (by simp))
theorem compact_length (zs : List (List UInt8)) : (Lib.compact zs).length ≤ zs.length := /- 99 -/ by
  rw [Lib.compact, Lib.compactUpTo, List.length_map]
  have := List.length_filter_le (Lib.keeps zs.toArray) (List.range zs.length)
  rwa [List.length_range] at this
theorem compactOwn (B : Nat) (w : World) (v : Value) (acc : List (List UInt8)) (h : RowS B w v acc) (hn : acc.length ≤ 8192) :
    Calls Tryz.prog 172 #[v] w fun e w' => ∃ v', e = .returned v' ∧ StrRow w' v' (Lib.compact acc) ∧ Below B w w' := by
  rcases h with ⟨rfl, rfl⟩ | ⟨g, cap, rfl, hB, hg, hc, hH⟩
  · refine (Tryz.slices_Compact_string_empty none 0 w).mono ?_
    rintro e w1 ⟨rfl, rfl⟩
    exact ⟨_, rfl, .inl ⟨by simp [Lib.compact, Lib.compactUpTo], none, 0, rfl⟩, Below.refl _ _⟩
  · refine (Tryz.slices_Compact_string g 0 cap acc w hH (by omega) hc).mono ?_
    rintro e w1 ⟨rfl, q, rfl⟩
    have hl := compact_length acc
    have hk := kept_putRow w q g (Lib.compact acc ++ List.replicate (acc.length - (Lib.compact acc).length) []).toArray
    have hz : (Lib.compact acc ++ List.replicate (acc.length - (Lib.compact acc).length) ([] : List UInt8)).toArray.size = acc.toArray.size := by simp; omega
    have hh := holds_putRow encStr (Sort.ahead w q) g 0 acc.toArray (Lib.compact acc ++ List.replicate (acc.length - (Lib.compact acc).length) []).toArray (holds_ahead _ _ _ _ _ _ hH) hz
    refine ⟨_, rfl, .inr ⟨g, 0, cap, rfl, Nat.lt_of_lt_of_le hg hk.size, Nat.le_trans hl hc, fun j x hj => ?_⟩, hk.below (by omega) (fun k hk' e => by omega)⟩
    have hlt := (List.getElem?_eq_some_iff.1 hj).1
    have := (hh j (by simp; omega)).1
    rw [this]
    have e : (Lib.compact acc ++ List.replicate (acc.length - (Lib.compact acc).length) ([] : List UInt8)).toArray[j]! = x := by
      rw [getElem!_def, List.getElem?_toArray, List.getElem?_append_left hlt, hj]
    rw [e]
    rfl
/-- The named types in a type, each once, in order. -/
def namesR (l : List UInt8) : List (List UInt8) := if rightR l = true then onceR (nw l) else []
def NamesE (l : List UInt8) (w : World) (e : Ending) (w' : World) : Prop := ∃ v, e = .returned v ∧ StrRow w' v (namesR l) ∧ Below w.heap.size w w'
theorem frame41 (a : Act) (h : a.tmps.size = 41) (hd : a.defers = []) : ∃ f : Nat → Value, a = { tmps := #[f 0, f 1, f 2, f 3, f 4, f 5, f 6, f 7, f 8, f 9, f 10, f 11, f 12, f 13, f 14, f 15, f 16, f 17, f 18, f 19, f 20, f 21, f 22, f 23, f 24, f 25, f 26, f 27, f 28, f 29, f 30, f 31, f 32, f 33, f 34, f 35, f 36, f 37, f 38, f 39, f 40], defers := [] } := by
  refine ⟨fun k => a.tmps.getD k undef, ?_⟩
  obtain ⟨t, d⟩ := a
  simp only at h hd
  subst hd
  have e := arr_map t
  rw [h] at e
  simp only [Act.mk.injEq, and_true]
  exact e

def nmJ (s : ByteArray) (w0 : World) (l : Nat) (a : Act) (w : World) : Prop :=
  ∃ (p : Nat) (acc : List (List UInt8)) (v : Value), a.tmps.size = 41 ∧ a.defers = [] ∧ a.tmps.getD 0 undef = .string s ∧ a.tmps.getD 3 undef = v ∧ a.tmps.getD 5 undef = .int .i64 (p : Int) ∧
    p < s.size ∧ acc.length ≤ p ∧ w.ownsRow w0.heap.size 9 1 v acc.length (sc acc) ∧ Below w0.heap.size w0 w ∧ l = 0 ∧ Hid (acc ++ nw (s.data.toList.drop p) = nw s.data.toList)
def nmM (s : ByteArray) (_ : Nat) (a : Act) (_ : World) : Nat := s.size - (intOf (a.tmps.getD 5 undef)).toNat
set_option maxHeartbeats 2000000 in
set_option maxRecDepth 1000000 in
theorem names_right (s : ByteArray) (w : World) (hr : rightR s.data.toList = true) : Calls Tryz.prog 99 #[.string s] w (NamesE s.data.toList w) := by
  have hl := rightR_len hr
  have HF : Hid (namesR s.data.toList = Lib.compact (sortR (nw s.data.toList))) := by rw [hid_iff, namesR, if_pos hr]; rfl
  have hrt := right s
  rw [hr] at hrt
  rw [size_len] at hl
  have hp0 : 0 < s.size := by have := rightR_pos hr; rw [size_len] at this; exact this
  clear hr
  go_enter Tryz.func99, Tryz.ntmps99
  go_wp2_with fail
  refine wp_scope_labels (nmJ s w) (nmM s) ?_ ?_
  · intro hp
    replace hp := hidden hp
    go_wp2_with (go_at_call 81; refine (hrt _).mono ?_; rintro e w0 ⟨rfl, hb0⟩)
    rename_i hK
    refine wp_label (hK _ _ (hp.out 0 _ _ _ rfl ⟨0, [], _, rfl, rfl, rfl, rfl, rfl, hp0, by simp, World.ownsRow_nil _ _ _ _, hb0, rfl, rfl⟩))
  · rintro l a w1 ⟨p, acc, v, ha1, ha2, ha3, ha4, ha5, hps, hacc, hown, hbl, rfl, hq⟩
    obtain ⟨f, rfl⟩ := frame41 a ha1 ha2
    replace ha3 : f 0 = .string s := ha3
    replace ha4 : f 3 = v := ha4
    replace ha5 : f 5 = .int .i64 (p : Int) := ha5
    rw [ha3, ha4, ha5]
    clear ha1 ha2 ha3 ha4 ha5
    have hB : w.heap.size ≤ w1.heap.size := hbl.size
    refine ⟨_, rfl, ?_⟩
    have hpi : (p : Int) ≤ (s.size : Int) := by omega
    have hwd := fun u => word (s.extract p s.size) u (by have := ext_size s p; omega)
    rw [ext_data] at hwd
    have hwl := word_le (s.data.toList.drop p)
    rw [List.length_drop, size_len] at hwl
    have hnx := nw_next (s.data.toList.drop p)
    have hct := fun u => cut (str (wordR (s.data.toList.drop p))) u (by rw [str_size]; omega)
    unfold CutE at hct
    rw [str_data] at hct
    have hcl := fun u => sClone (str (wordR (s.data.toList.drop p))) u (by rw [str_size]; omega)
    rw [List.drop_drop] at hnx
    generalize wordR (s.data.toList.drop p) = x at *
    have hxs : (str x).size = x.length := rfl
    have tail : ∀ (acc' : List (List UInt8)) (v' : Value) (w' : World), w'.ownsRow w.heap.size 9 1 v' acc'.length (sc acc') → Below w.heap.size w w' → acc' = nw s.data.toList → acc'.length ≤ 8192 →
        Calls Tryz.prog 171 #[v'] w' fun e w2 => e = .returned (.tuple #[]) ∧ Below w.heap.size w w2 ∧ Calls Tryz.prog 172 #[v'] w2 (NamesE s.data.toList w) := by
      intro acc' v' w' ho hb hn h8
      refine (sortOwn _ _ _ _ (rowS_own ho) h8).mono ?_
      rintro e w2 ⟨rfl, hrow, hb2⟩
      refine ⟨rfl, hb.trans hb2, ?_⟩
      refine (compactOwn _ _ _ _ hrow (by rw [sortR_length]; exact h8)).mono ?_
      rintro e w3 ⟨v3, rfl, hs3, hb3⟩
      exact ⟨v3, rfl, by rw [HF.out, ← hn]; exact hs3, (hb.trans hb2).trans hb3⟩
    cases hnm : namedR x
    · simp only [hnm, Bool.false_eq_true, if_false, List.nil_append] at hct hnx
      rw [hnx] at hq
      clear hnx hnm hcl
      by_cases hlt : p + (x.length + 1) < s.size
      · have hlt' : (p : Int) + ((x.length : Int) + 1) < (s.size : Int) := by omega
        clear tail
        go_wp2_with fail
        refine (hwd _).mono ?_
        rintro e w2 ⟨rfl, hb2⟩
        have ho2 := owns_below hown hb2
        have hb3 : Below w.heap.size w w2 := hbl.trans ⟨hb2.os, hb2.tape, hb2.output, hb2.size, fun k hk => hb2.block k (by omega)⟩
        clear hown hbl hb2
        go_wp2_with fail
        refine (hct _).mono ?_
        rintro e w3 ⟨rfl, n, rfl⟩
        have ho4 : (w2.drewN n).ownsRow w.heap.size 9 1 v acc.length (sc acc) := ho2
        have hb4 := below_drewN hb3 n
        clear ho2 hb3
        generalize w2.drewN n = w4 at *
        go_wp2
        refine wp_goto ⟨⟨p + (x.length + 1), acc, _, rfl, rfl, rfl, rfl, by go_num, hlt, by omega, ho4, hb4, rfl, hq⟩, ?_⟩
        simp [nmM, intOf]
        omega
      · have hlt' : ¬ (p : Int) + ((x.length : Int) + 1) < (s.size : Int) := by omega
        have HN : Hid (acc = nw s.data.toList) := by
          have := hq.out
          rw [drop_end s _ (by omega), nw_nil, List.append_nil] at this
          exact this
        clear hq
        go_wp2_with fail
        refine (hwd _).mono ?_
        rintro e w2 ⟨rfl, hb2⟩
        have ho2 := owns_below hown hb2
        have hb3 : Below w.heap.size w w2 := hbl.trans ⟨hb2.os, hb2.tape, hb2.output, hb2.size, fun k hk => hb2.block k (by omega)⟩
        clear hown hbl hb2
        go_wp2_with fail
        refine (hct _).mono ?_
        rintro e w3 ⟨rfl, n, rfl⟩
        have ho4 : (w2.drewN n).ownsRow w.heap.size 9 1 v acc.length (sc acc) := ho2
        have hb4 := below_drewN hb3 n
        clear ho2 hb3
        generalize w2.drewN n = w4 at *
        have ht := tail acc v w4 ho4 hb4 HN.out (by omega)
        clear tail ho4 hb4
        go_wp2_with fail
        refine ht.mono ?_
        rintro e w5 ⟨rfl, hb5, hcp⟩
        go_wp2_with fail
        refine hcp.mono ?_
        rintro e w6 ⟨v6, rfl, hs6, hb6⟩
        go_wp2
        go_ret
        exact ⟨v6, rfl, hs6, hb6⟩
    · simp only [hnm, if_true] at hct hnx
      rw [hnx, ← List.append_assoc] at hq
      clear hnx hnm
      generalize aheadR x = xa at *
      generalize behindR x = xb at *
      go_wp2_with fail
      refine (hwd _).mono ?_
      rintro e w2 ⟨rfl, hb2⟩
      have ho2 := owns_below hown hb2
      have hb3 : Below w.heap.size w w2 := hbl.trans ⟨hb2.os, hb2.tape, hb2.output, hb2.size, fun k hk => hb2.block k (by omega)⟩
      clear hown hbl hb2
      go_wp2_with fail
      refine (hct _).mono ?_
      rintro e w3 ⟨rfl, n, rfl⟩
      have ho4 : (w2.drewN n).ownsRow w.heap.size 9 1 v acc.length (sc acc) := ho2
      have hb4 := below_drewN hb3 n
      clear ho2 hb3
      generalize w2.drewN n = w4 at *
      have hB4 : w.heap.size ≤ w4.heap.size := hb4.size
      go_wp2_with fail
      refine (hcl _).mono ?_
      rintro e w5 ⟨rfl, hb5⟩
      have ho6 := owns_below ho4 hb5
      have hb6 : Below w.heap.size w w5 := hb4.trans ⟨hb5.os, hb5.tape, hb5.output, hb5.size, fun k hk => hb5.block k (by omega)⟩
      have hB6 : w.heap.size ≤ w5.heap.size := hb6.size
      clear ho4 hb4 hb5
      go_wp2_with (at_builtin; refine append_text rfl (.tmp 23) (.tmp 26) rfl w.heap.size v acc rfl (ho6.alloc _) _ _ x rfl ?src ?len ?hB ?next)
      case src => first | exact cells_new _ _ _ | exact fun j u h => h
      case len => first | omega | (simp; omega)
      case hB => first | omega | (simp; omega)
      case next =>
        intro ad c' w' k1 k2
        have k3 := below_grown (ho6.alloc _) (by simp; omega) (hb6.alloc hB6 _) k2
        clear k2 ho6 hb6
        by_cases hlt : p + (x.length + 1) < s.size
        · have hlt' : (p : Int) + ((x.length : Int) + 1) < (s.size : Int) := by omega
          clear tail
          go_wp2
          refine wp_goto ⟨⟨p + (x.length + 1), acc ++ [x], _, rfl, rfl, rfl, rfl, by go_num, hlt, by simp; omega, by simpa using k1, k3, rfl, hq⟩, ?_⟩
          simp [nmM, intOf]
          omega
        · have hlt' : ¬ (p : Int) + ((x.length : Int) + 1) < (s.size : Int) := by omega
          have HN : Hid (acc ++ [x] = nw s.data.toList) := by
            have := hq.out
            rw [drop_end s _ (by omega), nw_nil, List.append_nil] at this
            exact this
          have ht := tail (acc ++ [x]) (.slice (some ad) (acc.length + 1) c') w' (by rw [List.length_append]; exact k1) k3 HN.out (by simp; omega)
          clear hq tail k1 k3
          go_wp2_with fail
          refine ht.mono ?_
          rintro e w5 ⟨rfl, hb5, hcp⟩
          go_wp2_with fail
          refine hcp.mono ?_
          rintro e w6 ⟨v6, rfl, hs6, hb6⟩
          go_wp2
          go_ret
          exact ⟨v6, rfl, hs6, hb6⟩

set_option maxHeartbeats 1000000 in
set_option maxRecDepth 1000000 in
theorem namesOf (s : ByteArray) (w : World) : Calls Tryz.prog 99 #[.string s] w (NamesE s.data.toList w) := by
  have hrt := right s
  cases h0 : rightR s.data.toList
  · have HF : Hid (namesR s.data.toList = []) := by rw [hid_iff, namesR, h0]; rfl
    rw [h0] at hrt
    clear h0
    go_enter Tryz.func99, Tryz.ntmps99
    go_wp2_with fail
    refine wp_scope_labels (fun _ _ _ => False) (fun _ _ _ => 0) ?_ (fun _ _ _ h => h.elim)
    intro hz
    clear hz
    go_wp2_with (go_at_call 81; refine (hrt _).mono ?_; rintro e w0 ⟨rfl, hb0⟩)
    show bodyPost Tryz.prog Tryz.f99 (NamesE s.data.toList w) Exit.ret _ _
    go_ret
    exact ⟨_, rfl, by rw [HF.out]; exact .inl ⟨rfl, none, 0, rfl⟩, hb0⟩
  · exact names_right s w h0
end Go.Proofs.YtdeckknfolaaeaaGreatDoor

namespace Go.Proofs.YtdeckknfolaaeaaGreatDoor
open Go.RowKit

theorem less_is (a b : List UInt8) : Op.bytesLess (str a).toList (str b).toList = decide (a < b) := by
  rw [Lib.toList_data, Lib.toList_data, str_data, str_data, bytesLess_eq]
theorem geq_is (a b : List UInt8) : (!Op.bytesLess (str a).toList (str b).toList) = decide (b ≤ a) := by
  rw [less_is, ← decide_not, Bool.eq_iff_iff, decide_eq_true_iff, decide_eq_true_iff, List.not_lt]
theorem neq_is (a b : List UInt8) : ((str a).toList != (str b).toList) = decide (a ≠ b) := by
  rw [Lib.toList_data, Lib.toList_data, str_data, str_data, Bool.eq_iff_iff, bne_iff_ne, decide_eq_true_iff]
theorem eq_is (a b : List UInt8) : ((str a).toList == (str b).toList) = decide (a = b) := by
  rw [Lib.toList_data, Lib.toList_data, str_data, str_data, Bool.eq_iff_iff, beq_iff_eq, decide_eq_true_iff]

end Go.Proofs.YtdeckknfolaaeaaGreatDoor
