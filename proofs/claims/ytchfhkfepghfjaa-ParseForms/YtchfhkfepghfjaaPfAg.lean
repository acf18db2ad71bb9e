/-
  Trees in memory: cells of a tree, rows of trees that can be read (TL), rows of the call's own that grow (OwnK), the stack of open brackets (StkM); what each step of memory leaves of them.
  And: What follows of the chapter on types: a type is read alike whatever comes behind it; its parts; what is made of types is one. No program in it. The type of a tree, by a stack of what is begun. No program in it.
-/
import Derived.Deep.AppendLies
import Derived.OneCell
import Derived.Test.YtchfhkfepghfjaaPfAc
import Derived.Test.YtchfhkfepghfjaaPfAf
import Derived.Lib.Join
import Derived.Test.YtchfhkfepghfjaaPfAe
namespace Go.Proofs.Ytchfhkfepghfjaa
open Go.RowKit

structure Kept (S : Nat → Prop) (w w' : World) : Prop where
  os : w'.os = w.os
  tape : w'.tape = w.tape
  output : w'.output = w.output
  size : w.heap.size ≤ w'.heap.size
  block : ∀ k, k < w.heap.size → ¬ S k → w'.heap[k]? = w.heap[k]?
theorem Kept.refl (S : Nat → Prop) (w : World) : Kept S w w := ⟨rfl, rfl, rfl, Nat.le_refl _, fun _ _ _ => rfl⟩
theorem Kept.trans {S T U : Nat → Prop} {a b c : World} (h : Kept S a b) (k : Kept T b c) (hS : ∀ x, x < a.heap.size → S x → U x) (hT : ∀ x, x < a.heap.size → T x → U x) : Kept U a c :=
  ⟨k.os.trans h.os, k.tape.trans h.tape, k.output.trans h.output, Nat.le_trans h.size k.size, fun i hi hu => (k.block i (Nat.lt_of_lt_of_le hi h.size) (fun e => hu (hT i hi e))).trans (h.block i hi (fun e => hu (hS i hi e)))⟩
theorem Kept.mono {S T : Nat → Prop} {a b : World} (h : Kept S a b) (hS : ∀ x, x < a.heap.size → S x → T x) : Kept T a b :=
  ⟨h.os, h.tape, h.output, h.size, fun i hi hu => h.block i hi (fun e => hu (hS i hi e))⟩
theorem Kept.alloc {S : Nat → Prop} {a w : World} (h : Kept S a w) (o : Obj) : Kept S a (w.alloc o) :=
  ⟨h.os, h.tape, h.output, Nat.le_trans h.size (by simp), fun i hi hu => (Below.heap_alloc _ _ _ (Nat.lt_of_lt_of_le hi h.size)).trans (h.block i hi hu)⟩
theorem Kept.drew {S : Nat → Prop} {a w : World} (h : Kept S a w) : Kept S a w.drew := ⟨h.os, h.tape, h.output, h.size, h.block⟩
theorem Kept.setCell {S : Nat → Prop} {a w : World} (h : Kept S a w) {p : Addr} (hp : p.block < a.heap.size → S p.block) (u : Value) : Kept S a (w.setCell p u) :=
  ⟨h.os, h.tape, h.output, by simpa [World.setCell] using h.size, fun i hi hu => (Below.heap_setCell _ _ _ _ (fun e => hu (by subst e; exact hp hi))).trans (h.block i hi hu)⟩
theorem Kept.grown {S : Nat → Prop} {a w w' : World} {row : Option Nat} (h : Kept S a w) (hg : w.grownBy w' row) (hr : ∀ k, row = some k → k < a.heap.size → S k) : Kept S a w' :=
  ⟨hg.os.trans h.os, hg.tape.trans h.tape, hg.output.trans h.output, Nat.le_trans h.size hg.size, fun i hi hu => (hg.block i (Nat.lt_of_lt_of_le hi h.size) (fun e => hu (hr i e.symm hi))).trans (h.block i hi hu)⟩
theorem Kept.below {S : Nat → Prop} {a w : World} {B : Nat} (h : Kept S a w) (hB : B ≤ a.heap.size) (hS : ∀ x, x < B → ¬ S x) : Below B a w :=
  ⟨h.os, h.tape, h.output, h.size, fun k hk => h.block k (by omega) (hS k hk)⟩
theorem Kept.of_below {a w : World} {B : Nat} (h : Below B a w) : Kept (fun k => B ≤ k) a w := ⟨h.os, h.tape, h.output, h.size, fun k _ hn => h.block k (by omega)⟩
theorem Kept.cell {S : Nat → Prop} {a w : World} (h : Kept S a w) {p : Addr} {v : Value} (hc : a.cell? p = some v) (hp : ¬ S p.block) : w.cell? p = some v :=
  (World.cell?_of_block (h.block p.block (World.block_lt_of_cell? a p hc) hp)).trans hc
theorem Kept.own {S : Nat → Prop} {w w' : World} {B e size n : Nat} {v : Value} {xs : List Value} (k : Kept S w w') (h : w.ownsRow B e size v n xs) (hg : ∀ g, v.ownBlock = some g → ¬ S g) : w'.ownsRow B e size v n xs := by
  refine ⟨h.1, ?_⟩
  rcases h.2 with hn | ⟨g, cap, cur, rfl, hb, hgg, rest⟩
  · exact .inl hn
  · exact .inr ⟨g, cap, cur, rfl, hb, (k.block g (Array.getElem?_eq_some_iff.1 hgg).1 (hg g rfl)).trans hgg, rest⟩

/-- A tree's cells; as a value. -/
def trc (t : Tr) (kv : Value) : List Value := [.int .i64 (t.kind : Int), .int .i64 (t.place : Int), .string (str t.text), kv]
def trv (t : Tr) (kv : Value) : Value := .agg #[.int .i64 (t.kind : Int), .int .i64 (t.place : Int), .string (str t.text), kv]
/-- The Kids of a tree can be read through kv, in blocks of F. -/
def TI (F : Nat → Prop) (w : World) : Value → Tr → Prop
  | kv, ⟨_, _, _, l, _⟩ => (kv = .slice none 0 0 ∧ l = []) ∨ ∃ g cap, kv = .slice (some ⟨g, 0, none⟩) l.length cap ∧ F g ∧ l.length ≤ cap ∧
      ∀ i (h : i < l.length), have _hm := List.getElem_mem h; ∃ kv', TI F w kv' l[i] ∧ ∀ j u, (trc l[i] kv')[j]? = some u → w.cell? ⟨g, i * 4 + j, none⟩ = some u
def TL (F : Nat → Prop) (w : World) (kv : Value) (l : List Tr) : Prop := TI F w kv ⟨0, 0, [], l, ⟨0, 0, []⟩⟩
theorem TI_iff (F : Nat → Prop) (w : World) (kv : Value) (t : Tr) : TI F w kv t ↔ TL F w kv t.kids := by
  obtain ⟨k, p, x, l, e⟩ := t
  unfold TL
  rw [TI, TI]
theorem TL_iff (F : Nat → Prop) (w : World) (kv : Value) (l : List Tr) : TL F w kv l ↔ (kv = .slice none 0 0 ∧ l = []) ∨ ∃ g cap, kv = .slice (some ⟨g, 0, none⟩) l.length cap ∧ F g ∧ l.length ≤ cap ∧
      ∀ i (h : i < l.length), ∃ kv', TL F w kv' l[i].kids ∧ ∀ j u, (trc l[i] kv')[j]? = some u → w.cell? ⟨g, i * 4 + j, none⟩ = some u := by
  unfold TL
  rw [TI]
  simp only [TI_iff]
theorem TL.frame {F G : Nat → Prop} {w w' : World} (hF : ∀ g, F g → G g ∧ w'.heap[g]? = w.heap[g]?) {kv : Value} {l : List Tr} (h : TL F w kv l) : TL G w' kv l := by
  have key : ∀ (t : Tr) (kv : Value), TI F w kv t → TI G w' kv t := by
    intro t
    induction t using tr_ind with
    | h t ih =>
      intro kv h
      rw [TI_iff, TL_iff] at h ⊢
      rcases h with h | ⟨g, cap, h1, h2, hc, h3⟩
      · exact .inl h
      · refine .inr ⟨g, cap, h1, (hF g h2).1, hc, fun i hi => ?_⟩
        obtain ⟨kv', h4, h5⟩ := h3 i hi
        refine ⟨kv', (TI_iff _ _ _ _).1 (ih _ (List.getElem_mem hi) kv' ((TI_iff _ _ _ _).2 h4)), fun j u hj => ?_⟩
        rw [World.cell?_of_block (w := w) (hF g h2).2]
        exact h5 j u hj
  exact key _ kv h
theorem TL.mono {F G : Nat → Prop} {w : World} (hF : ∀ g, F g → G g) {kv : Value} {l : List Tr} (h : TL F w kv l) : TL G w kv l := h.frame fun g hg => ⟨hF g hg, rfl⟩
theorem TL.kept {F S : Nat → Prop} {w w' : World} {kv : Value} {l : List Tr} (h : TL F w kv l) (k : Kept S w w') (hF : ∀ g, F g → g < w.heap.size ∧ ¬ S g) : TL F w' kv l := h.frame fun g hg => ⟨hg, k.block g (hF g hg).1 (hF g hg).2⟩
theorem TL.shape {F : Nat → Prop} {w : World} {kv : Value} {l : List Tr} (h : TL F w kv l) : ∃ a c, kv = .slice a l.length c := by
  rcases (TL_iff _ _ _ _).1 h with ⟨rfl, rfl⟩ | ⟨g, cap, rfl, _⟩
  · exact ⟨none, 0, rfl⟩
  · exact ⟨_, _, rfl⟩
theorem TL.cap {F : Nat → Prop} {w : World} {a : Option Addr} {n c : Nat} {l : List Tr} (h : TL F w (.slice a n c) l) : n ≤ c := by
  rcases (TL_iff _ _ _ _).1 h with ⟨e, _⟩ | ⟨g, cap, e, _, hc, _⟩
  · simp only [Value.slice.injEq] at e
    omega
  · simp only [Value.slice.injEq] at e
    omega
theorem TL.nil (F : Nat → Prop) (w : World) : TL F w (.slice none 0 0) [] := (TL_iff _ _ _ _).2 (.inl ⟨rfl, rfl⟩)
/-- One of them. -/
theorem TL.at {F : Nat → Prop} {w : World} {kv : Value} {l : List Tr} (h : TL F w kv l) (i : Nat) (hi : i < l.length) : ∃ g cap kv', kv = .slice (some ⟨g, 0, none⟩) l.length cap ∧ F g ∧ TL F w kv' l[i].kids ∧
    w.cell? ⟨g, i * 4, none⟩ = some (.int .i64 (l[i].kind : Int)) ∧ w.cell? ⟨g, i * 4 + 1, none⟩ = some (.int .i64 (l[i].place : Int)) ∧ w.cell? ⟨g, i * 4 + 2, none⟩ = some (.string (str l[i].text)) ∧ w.cell? ⟨g, i * 4 + 3, none⟩ = some kv' := by
  rcases (TL_iff _ _ _ _).1 h with ⟨rfl, rfl⟩ | ⟨g, cap, rfl, hg, _, h⟩
  · simp at hi
  · obtain ⟨kv', h1, h2⟩ := h i hi
    exact ⟨g, cap, kv', rfl, hg, h1, h2 0 _ rfl, h2 1 _ rfl, h2 2 _ rfl, h2 3 _ rfl⟩

/-- The cells of a row of trees. -/
def rowc : List Tr → List Value → List Value
  | t :: ts, v :: vs => trc t v ++ rowc ts vs
  | _, _ => []
theorem trc_length (t : Tr) (v : Value) : (trc t v).length = 4 := rfl
theorem rowc_length : ∀ {ts : List Tr} {vs : List Value}, vs.length = ts.length → (rowc ts vs).length = ts.length * 4
  | [], [], _ => rfl
  | [], _ :: _, h => by simp at h
  | _ :: _, [], h => by simp at h
  | t :: ts, v :: vs, h => by
    rw [rowc, List.length_append, trc_length, rowc_length (by simpa using h), List.length_cons]
    omega
theorem rowc_append : ∀ {ts : List Tr} {vs : List Value} (ts' : List Tr) (vs' : List Value), vs.length = ts.length → rowc (ts ++ ts') (vs ++ vs') = rowc ts vs ++ rowc ts' vs'
  | [], [], _, _, _ => rfl
  | [], _ :: _, _, _, h => by simp at h
  | _ :: _, [], _, _, h => by simp at h
  | t :: ts, v :: vs, ts', vs', h => by
    rw [List.cons_append, List.cons_append, rowc, rowc, rowc_append ts' vs' (by simpa using h), List.append_assoc]
theorem rowc_one (t : Tr) (v : Value) : rowc [t] [v] = trc t v := by simp [rowc]
theorem rowc_get : ∀ {ts : List Tr} {vs : List Value} {i j : Nat} {t : Tr} {v : Value}, ts[i]? = some t → vs[i]? = some v → j < 4 → (rowc ts vs)[i * 4 + j]? = (trc t v)[j]?
  | [], _, i, _, _, _, h, _, _ => by simp at h
  | _ :: _, [], i, _, _, _, _, h, _ => by simp at h
  | t' :: ts, v' :: vs, 0, j, t, v, h1, h2, hj => by
    simp at h1 h2
    subst h1
    subst h2
    rw [rowc, Nat.zero_mul, Nat.zero_add, List.getElem?_append_left (by rw [trc_length]; exact hj)]
  | t' :: ts, v' :: vs, i + 1, j, t, v, h1, h2, hj => by
    rw [rowc, List.getElem?_append_right (by rw [trc_length]; omega), trc_length, show (i + 1) * 4 + j - 4 = i * 4 + j from by omega]
    exact rowc_get (by simpa using h1) (by simpa using h2) hj
/-- The Kids of one of them are set. -/
theorem rowc_set : ∀ {ts : List Tr} {vs : List Value} {i : Nat} (t' : Tr) (u : Value), vs.length = ts.length → (∀ t, ts[i]? = some t → t'.kind = t.kind ∧ t'.place = t.place ∧ t'.text = t.text) → (rowc ts vs).set (i * 4 + 3) u = rowc (ts.set i t') (vs.set i u)
  | [], [], _, _, _, _, _ => by simp [rowc]
  | [], _ :: _, _, _, _, h, _ => by simp at h
  | _ :: _, [], _, _, _, h, _ => by simp at h
  | t :: ts, v :: vs, 0, t', u, h, ht => by
    obtain ⟨h1, h2, h3⟩ := ht t rfl
    simp [rowc, trc, h1, h2, h3]
  | t :: ts, v :: vs, i + 1, t', u, h, ht => by
    rw [List.set_cons_succ, List.set_cons_succ, rowc, rowc, List.set_append_right _ _ (by rw [trc_length]; omega), trc_length, show (i + 1) * 4 + 3 - 4 = i * 4 + 3 from by omega, rowc_set t' u (by simpa using h) (by simpa using ht)]
theorem trc_one (t : Tr) (v : Value) (hv : v.oneCell' = true) : ∀ u ∈ trc t v, u.oneCell' = true := by
  intro u hu
  simp only [trc, List.mem_cons, List.not_mem_nil, or_false] at hu
  rcases hu with rfl | rfl | rfl | rfl
  · rfl
  · rfl
  · rfl
  · exact hv

/-- A row of trees of the call's own. -/
def OwnK (e : Nat) (B : Nat) (F : Nat → Prop) (w : World) (kv : Value) (l : List Tr) : Prop :=
  ∃ vs : List Value, vs.length = l.length ∧ w.ownsRow B e 4 kv l.length (rowc l vs) ∧ ∀ (i : Nat) (t : Tr) (v : Value), l[i]? = some t → vs[i]? = some v → TL F w v t.kids
theorem OwnK.nil (e B : Nat) (F : Nat → Prop) (w : World) : OwnK e B F w (.slice none 0 0) [] := ⟨[], rfl, World.ownsRow_nil _ _ _ _, by simp⟩
theorem OwnK.kept {e B : Nat} {F S : Nat → Prop} {w w' : World} {kv : Value} {l : List Tr} (h : OwnK e B F w kv l) (k : Kept S w w') (hF : ∀ g, F g → g < w.heap.size ∧ ¬ S g) (hg : ∀ g, kv.ownBlock = some g → ¬ S g) : OwnK e B F w' kv l := by
  obtain ⟨vs, h1, h2, h3⟩ := h
  exact ⟨vs, h1, k.own h2 hg, fun i t v ht hv => (h3 i t v ht hv).kept k hF⟩
theorem OwnK.mono {e B : Nat} {F G : Nat → Prop} {w : World} {kv : Value} {l : List Tr} (h : OwnK e B F w kv l) (hF : ∀ g, F g → G g) : OwnK e B G w kv l := by
  obtain ⟨vs, h1, h2, h3⟩ := h
  exact ⟨vs, h1, h2, fun i t v ht hv => (h3 i t v ht hv).mono hF⟩
theorem OwnK.lt {e B : Nat} {F : Nat → Prop} {w : World} {kv : Value} {l : List Tr} (h : OwnK e B F w kv l) : ∀ g, kv.ownBlock = some g → B ≤ g ∧ g < w.heap.size := by
  obtain ⟨vs, h1, h2, h3⟩ := h
  exact h2.lt
theorem OwnK.shape {e B : Nat} {F : Nat → Prop} {w : World} {kv : Value} {l : List Tr} (h : OwnK e B F w kv l) : ∃ a c, kv = .slice a l.length c := by
  obtain ⟨vs, h1, h2, h3⟩ := h
  rcases h2.2 with ⟨rfl, hn⟩ | ⟨g, cap, cur, rfl, _⟩
  · exact ⟨none, 0, by rw [hn]⟩
  · exact ⟨_, _, rfl⟩
/-- It can be read. -/
theorem OwnK.shut {e B : Nat} {F : Nat → Prop} {w : World} {kv : Value} {l : List Tr} (h : OwnK e B F w kv l) : TL (fun g => F g ∨ kv.ownBlock = some g) w kv l := by
  obtain ⟨vs, h1, h2, h3⟩ := h
  rw [TL_iff]
  rcases h2.2 with ⟨rfl, hn⟩ | ⟨g, cap, cur, rfl, hb, hgg, hcap, _⟩
  · exact .inl ⟨rfl, List.eq_nil_of_length_eq_zero hn⟩
  · refine .inr ⟨g, cap, rfl, .inr rfl, hcap, fun i hi => ?_⟩
    have hi' : i < vs.length := by omega
    refine ⟨vs[i], (h3 i l[i] vs[i] (List.getElem?_eq_getElem hi) (List.getElem?_eq_getElem hi')).mono fun g h => .inl h, fun j u hj => ?_⟩
    have hj4 : j < 4 := by
      rcases Nat.lt_or_ge j 4 with h | h
      · exact h
      · rw [List.getElem?_eq_none (by rw [trc_length]; exact h)] at hj; cases hj
    rw [h2.cellAt _ (by omega), rowc_get (List.getElem?_eq_getElem hi) (List.getElem?_eq_getElem hi') hj4]
    exact hj
/-- A tree is appended: what the law on append gives. -/
theorem OwnK.add {e B : Nat} {F : Nat → Prop} {w w' : World} {kv kv' : Value} {l : List Tr} {t : Tr} {u : Value} {vs : List Value} (h1 : vs.length = l.length) (h3 : ∀ (i : Nat) (t : Tr) (v : Value), l[i]? = some t → vs[i]? = some v → TL F w v t.kids)
    (hF : ∀ g, F g → g < w.heap.size ∧ kv.ownBlock ≠ some g) (hown : w'.ownsRow B e 4 kv' (l.length + 1) (rowc l vs ++ trc t u)) (k : Kept (fun g => kv.ownBlock = some g) w w') (ht : TL F w u t.kids) : OwnK e B F w' kv' (l ++ [t]) := by
  refine ⟨vs ++ [u], by simp [h1], ?_, fun i t' v ht' hv => ?_⟩
  · rw [rowc_append _ _ h1, rowc_one, List.length_append]
    exact hown
  · refine TL.kept ?_ k hF
    rw [List.getElem?_append] at ht' hv
    split at ht'
    · rw [if_pos (by omega)] at hv
      exact h3 i t' v ht' hv
    · rw [if_neg (by omega)] at hv
      rw [h1] at hv
      obtain ⟨hlt, e1⟩ := List.getElem?_eq_some_iff.1 ht'
      have hz : i - l.length = 0 := by simp at hlt; omega
      rw [hz] at ht' hv
      simp at ht' hv
      subst ht'
      subst hv
      exact ht

theorem infoTr : (Try.prog.info? 27).map (fun i => (i.zero.map (fun z => z.cells.size), i.size, i.bytes)) = some (some 4, 4, 56) := by kernel_rfl
end Go.Proofs.Ytchfhkfepghfjaa

namespace Go.Proofs.Ytchfhkfepghfjaa

/-- Behind a word: nothing, or a sign. -/
def okB (l : List UInt8) : Prop := l = [] ∨ ∃ c r, l = c :: r ∧ isSign c = true
theorem gF_suffix : ∀ (f k : Nat) (l r : List UInt8), gF f k l = some r → ∃ x, x ≠ [] ∧ l = x ++ r
  | 0, _, _, _, h => by simp [gF] at h
  | f + 1, 0, [], _, h => by simp [gF] at h
  | f + 1, 0, c :: l, r, h => by
    rw [gF] at h
    split at h
    · obtain ⟨x, h1, h2⟩ := Option.bind_eq_some_iff.1 h
      obtain ⟨z, _, e⟩ := gF_suffix f 0 l x h1
      split at h2
      · cases h2
      · rename_i d y
        split at h2
        · cases h2
          exact ⟨c :: (z ++ [d]), by simp, by simp [e]⟩
        · cases h2
    · split at h
      · split at h
        · rename_i hh
          obtain ⟨d, y, rfl, _⟩ := isHead_pos hh
          obtain ⟨z, _, e⟩ := gF_suffix f 0 y r h
          exact ⟨c :: d :: z, by simp, by simp [e]⟩
        · obtain ⟨x, h1, h2⟩ := Option.bind_eq_some_iff.1 h
          obtain ⟨y, h3, h4⟩ := Option.bind_eq_some_iff.1 h2
          obtain ⟨z1, _, e1⟩ := gF_suffix f 0 _ x h1
          obtain ⟨z2, _, e2⟩ := gF_suffix f 1 x y h3
          obtain ⟨z3, _, e3⟩ := gF_suffix f 0 y r h4
          exact ⟨c :: (z1 ++ z2 ++ z3), by simp, by simp [e1, e2, e3]⟩
      · split at h
        · rename_i hw
          have := wordOk_pos hw
          cases h
          exact ⟨wordR (c :: l), fun e => by rw [e] at this; simp at this, by
            conv => lhs; rw [← List.take_append_drop (wordR (c :: l)).length (c :: l)]
            rw [wordR, take_tw]⟩
        · cases h
  | f + 1, k + 1, [], _, h => by simp [gF] at h
  | f + 1, k + 1, c :: l, r, h => by
    rw [gF] at h
    split at h
    · cases h; exact ⟨[c], by simp, rfl⟩
    · split at h
      · obtain ⟨x, h1, h2⟩ := Option.bind_eq_some_iff.1 h
        obtain ⟨z1, _, e1⟩ := gF_suffix f 0 l x h1
        obtain ⟨z2, _, e2⟩ := gF_suffix f (k + 2) x r h2
        exact ⟨c :: (z1 ++ z2), by simp, by simp [e1, e2]⟩
      · cases h
theorem one_suffix {l r : List UInt8} (h : one l = some r) : ∃ x, x ≠ [] ∧ l = x ++ r := gF_suffix _ _ _ _ h

theorem word_all (l : List UInt8) : ∀ x ∈ wordR l, notSign x = true := fun x hx => List.all_eq_true.1 (List.all_takeWhile (l := l)) x hx
theorem word_stop {x r : List UInt8} (h : ∀ c ∈ x, notSign c = true) (hr : okB r) : wordR (x ++ r) = x := by
  rw [wordR, List.takeWhile_append_of_pos h]
  rcases hr with rfl | ⟨c, r, rfl, hc⟩
  · simp
  · simp [notSign, hc]
theorem sign_of {c : UInt8} (h : c.toNat = 91 ∨ c.toNat = 93 ∨ c.toNat = 40 ∨ c.toNat = 41 ∨ c.toNat = 44) : isSign c = true := by
  rcases h with h | h | h | h | h <;> simp [isSign, h]

/-- What is read of a text hangs on what is read alone. -/
theorem gF_loc : ∀ (f k : Nat) (x r : List UInt8), gF f k (x ++ r) = some r →
    (k = 0 → ∀ r', okB r' → one (x ++ r') = some r') ∧ (∀ j, k = j + 1 → ∀ r', tl j (x ++ r') = some r')
  | 0, _, _, _, h => by simp [gF] at h
  | f + 1, k, [], r, h => by
    have := gF_len _ _ _ _ h
    simp at this
  | f + 1, 0, c :: x, r, h => by
    refine ⟨fun _ r' hr' => ?_, fun j hj => by omega⟩
    rw [List.cons_append] at h ⊢
    rw [gF] at h
    split at h
    · rename_i hc
      obtain ⟨q, h1, h2⟩ := Option.bind_eq_some_iff.1 h
      split at h2
      · cases h2
      · rename_i d y
        split at h2
        · rename_i hd
          simp only [Option.some.injEq] at h2
          subst h2
          obtain ⟨z, _, e⟩ := gF_suffix f 0 _ _ h1
          have e' : x = z ++ [d] := by
            have : x ++ y = (z ++ [d]) ++ y := by rw [e]; simp
            exact List.append_cancel_right this
          subst e'
          rw [e] at h1
          have := (gF_loc f 0 z (d :: y) h1).1 rfl (d :: r') (.inr ⟨d, r', rfl, sign_of (by omega)⟩)
          rw [one_arr _ hc, List.append_assoc, List.singleton_append, this]
          simp [hd]
        · cases h2
    · rename_i h91
      split at h
      · rename_i hc
        split at h
        · rename_i hh
          obtain ⟨d, y, e, hd⟩ := isHead_pos hh
          rw [e, List.tail_cons] at h
          obtain ⟨z, _, e2⟩ := gF_suffix f 0 _ _ h
          have e' : x = d :: z := by
            have : x ++ r = (d :: z) ++ r := by rw [e, e2]; simp
            exact List.append_cancel_right this
          subst e'
          rw [e2] at h
          rw [List.cons_append, one_fn0 _ hc hd]
          exact (gF_loc f 0 z r h).1 rfl r' hr'
        · rename_i hh
          obtain ⟨a, h1, h2⟩ := Option.bind_eq_some_iff.1 h
          obtain ⟨b, h3, h4⟩ := Option.bind_eq_some_iff.1 h2
          obtain ⟨z1, n1, e1⟩ := gF_suffix f 0 _ a h1
          obtain ⟨z2, n2, e2⟩ := gF_suffix f 1 a b h3
          obtain ⟨z3, _, e3⟩ := gF_suffix f 0 b r h4
          have e' : x = z1 ++ z2 ++ z3 := by
            have : x ++ r = (z1 ++ z2 ++ z3) ++ r := by rw [e1, e2, e3]; simp
            exact List.append_cancel_right this
          have i1 := (gF_loc f 0 z1 a (by rw [← e1]; exact h1)).1 rfl
          have i2 := (gF_loc f 1 z2 b (by rw [← e2]; exact h3)).2 0 rfl
          have i3 := (gF_loc f 0 z3 r (by rw [← e3]; exact h4)).1 rfl r' hr'
          have ha : okB (z2 ++ (z3 ++ r')) := by
            cases z2 with
            | nil => exact absurd rfl n2
            | cons d z2 =>
              refine .inr ⟨d, _, rfl, ?_⟩
              rw [e2, List.cons_append] at h3
              cases f with
              | zero => simp [gF] at h3
              | succ f =>
                rw [gF] at h3
                split at h3
                · rename_i hd; exact sign_of (by omega)
                · split at h3
                  · rename_i hd; exact sign_of (by omega)
                  · cases h3
          have hnh : ∀ d y, x ++ r' = d :: y → d.toNat ≠ 41 := by
            intro d y he hd
            refine hh ?_
            cases z1 with
            | nil => exact absurd rfl n1
            | cons d' z1 =>
              rw [e', List.cons_append, List.cons_append, List.cons_append] at he
              simp only [List.cons.injEq] at he
              rw [e1, List.cons_append, isHead_cons]
              exact decide_eq_true (by rw [he.1]; exact hd)
          rw [one_fn _ hc hnh, e', show z1 ++ z2 ++ z3 ++ r' = z1 ++ (z2 ++ (z3 ++ r')) from by simp, i1 _ ha]
          simp only [Option.bind_some]
          rw [i2]
          simp only [Option.bind_some]
          exact i3
      · rename_i h40
        split at h
        · rename_i hw
          simp only [Option.some.injEq] at h
          have hx : wordR (c :: (x ++ r)) = c :: x := by
            have h1 := List.take_append_drop (wordR (c :: (x ++ r))).length (c :: (x ++ r))
            rw [h, wordR, take_tw] at h1
            have h2 : wordR (c :: (x ++ r)) ++ r = (c :: x) ++ r := h1
            exact List.append_cancel_right h2
          rw [hx] at hw
          have hall := word_all (c :: (x ++ r))
          rw [hx] at hall
          rw [one_word _ h91 h40, ← List.cons_append, word_stop hall hr', if_pos hw]
          simp
        · cases h
  | f + 1, k + 1, c :: x, r, h => by
    refine ⟨fun hk => by omega, fun j hj r' => ?_⟩
    obtain rfl : k = j := by omega
    rw [List.cons_append] at h ⊢
    rw [gF] at h
    split at h
    · rename_i hc
      simp only [Option.some.injEq] at h
      have e' : x = [] := by
        have : x ++ r = [] ++ r := h
        exact List.append_cancel_right this
      subst e'
      exact tl_close k r' hc
    · split at h
      · rename_i hc
        obtain ⟨a, h1, h2⟩ := Option.bind_eq_some_iff.1 h
        obtain ⟨z1, _, e1⟩ := gF_suffix f 0 _ a h1
        obtain ⟨z2, n2, e2⟩ := gF_suffix f (k + 2) a r h2
        have e' : x = z1 ++ z2 := by
          have : x ++ r = (z1 ++ z2) ++ r := by rw [e1, e2]; simp
          exact List.append_cancel_right this
        have i1 := (gF_loc f 0 z1 a (by rw [← e1]; exact h1)).1 rfl
        have i2 := (gF_loc f (k + 2) z2 r (by rw [← e2]; exact h2)).2 (k + 1) rfl r'
        have ha : okB (z2 ++ r') := by
          cases z2 with
          | nil => exact absurd rfl n2
          | cons d z2 =>
            refine .inr ⟨d, _, rfl, ?_⟩
            rw [e2, List.cons_append] at h2
            cases f with
            | zero => simp [gF] at h2
            | succ f =>
              rw [gF] at h2
              split at h2
              · rename_i hd; exact sign_of (by omega)
              · split at h2
                · rename_i hd; exact sign_of (by omega)
                · cases h2
        rw [tl_comma k _ hc.1 hc.2, e', List.append_assoc, i1 _ ha]
        simp only [Option.bind_some]
        exact i2
      · cases h
theorem one_loc {x r r' : List UInt8} (h : one (x ++ r) = some r) (hr : okB r') : one (x ++ r') = some r' := (gF_loc _ _ _ _ h).1 rfl r' hr
theorem one_ahead {x r : List UInt8} (h : one x = some []) (hr : okB r) : one (x ++ r) = some r := one_loc (r := []) (by rw [List.append_nil]; exact h) hr
theorem one_piece {x r : List UInt8} (h : one (x ++ r) = some r) : one x = some [] := by
  have := one_loc (r' := []) h (.inl rfl)
  rwa [List.append_nil] at this

/-- Parameters parted by commas. -/
def joinR (ps : List (List UInt8)) : List UInt8 := Lib.join ps [44]
def arrR (x : List UInt8) : List UInt8 := 91 :: (x ++ [93])
def funcR (ps : List (List UInt8)) (r : List UInt8) : List UInt8 := 40 :: (joinR ps ++ 41 :: r)
theorem joinR_nil : joinR [] = [] := rfl
theorem joinR_one (x : List UInt8) : joinR [x] = x := Lib.join_one x [44]
theorem joinR_two (x y : List UInt8) (r : List (List UInt8)) : joinR (x :: y :: r) = x ++ 44 :: joinR (y :: r) := by
  rw [joinR, joinR, Lib.join_cons, Lib.join_cons]
  simp [Lib.joinTail]
theorem one_arrR {x : List UInt8} (h : one x = some []) : one (arrR x) = some [] := by
  rw [arrR, one_arr _ (by rfl), one_ahead h (.inr ⟨93, [], rfl, rfl⟩)]
  simp
/-- From behind k commas on. -/
theorem one_params : ∀ (ps : List (List UInt8)) (p : List UInt8) (k : Nat) (r : List UInt8), (∀ x ∈ p :: ps, one x = some []) → ps.length + k < 6 →
    (one (joinR (p :: ps) ++ 41 :: r)).bind (tl k) = some r
  | [], p, k, r, h, _ => by
    rw [joinR_one, one_ahead (h p (by simp)) (.inr ⟨41, r, rfl, rfl⟩)]
    exact tl_close k r rfl
  | q :: ps, p, k, r, h, hk => by
    simp only [List.length_cons] at hk
    rw [joinR_two, List.append_assoc, List.cons_append, one_ahead (h p (by simp)) (.inr ⟨44, _, rfl, rfl⟩)]
    simp only [Option.bind_some]
    rw [tl_comma k _ rfl (by omega)]
    exact one_params ps q (k + 1) r (fun x hx => h x (List.mem_cons_of_mem _ hx)) (by omega)
theorem right_head {p : List UInt8} (h : one p = some []) : ∀ d y r, p ++ r = d :: y → d.toNat ≠ 41 := by
  intro d y r he hd
  cases p with
  | nil => rw [one_nil] at h; cases h
  | cons c p =>
    rw [List.cons_append] at he
    simp only [List.cons.injEq] at he
    obtain ⟨rfl, _⟩ := he
    have hw : wordR (c :: p) = [] := by simp [wordR, notSign, sign_of (c := c) (by omega)]
    rw [one_word p (by omega) (by omega), hw, wordOk_nil] at h
    simp at h
theorem one_funcR {ps : List (List UInt8)} {r : List UInt8} (h : ∀ x ∈ ps, one x = some []) (hr : one r = some []) (hn : ps.length ≤ 6) : one (funcR ps r) = some [] := by
  cases ps with
  | nil => rw [funcR, joinR_nil, List.nil_append, one_fn0 r rfl rfl, hr]
  | cons p ps =>
    have hh : ∀ d y, joinR (p :: ps) ++ 41 :: r = d :: y → d.toNat ≠ 41 := by
      intro d y he
      cases ps with
      | nil => rw [joinR_one] at he; exact right_head (h p (by simp)) d y _ he
      | cons q ps => rw [joinR_two, List.append_assoc] at he; exact right_head (h p (by simp)) d y _ he
    rw [funcR, one_fn _ rfl hh]
    have := one_params ps p 0 r h (by simp at hn; omega)
    rw [← Option.bind_assoc, this]
    exact hr

/-- The parameters from here on, and what stands behind their bracket. -/
def psF : Nat → List UInt8 → List (List UInt8) × List UInt8
  | 0, _ => ([], [])
  | f + 1, l =>
    match one l with
    | none => ([], [])
    | some [] => ([], [])
    | some (c :: r) => if c.toNat = 44 then (l.take (l.length - (r.length + 1)) :: (psF f r).1, (psF f r).2) else ([l.take (l.length - (r.length + 1))], r)
theorem psF_fuel : ∀ (f g : Nat) (l : List UInt8), l.length < f → l.length < g → psF f l = psF g l
  | 0, _, _, h, _ => by omega
  | _ + 1, 0, _, _, h => by omega
  | f + 1, g + 1, l, hf, hg => by
    rw [psF, psF]
    split
    · rfl
    · rfl
    · rename_i c r h
      have := one_len h
      simp only [List.length_cons] at this
      rw [psF_fuel f g r (by omega) (by omega)]
def psQ (l : List UInt8) : List (List UInt8) × List UInt8 := psF (l.length + 1) l
theorem psQ_some {l r : List UInt8} {c : UInt8} (h : one l = some (c :: r)) : psQ l = if c.toNat = 44 then (l.take (l.length - (r.length + 1)) :: (psQ r).1, (psQ r).2) else ([l.take (l.length - (r.length + 1))], r) := by
  have hl := one_len h
  simp only [List.length_cons] at hl
  rw [psQ, psF, h]
  simp only
  rw [psF_fuel l.length (r.length + 1) r (by omega) (by omega)]
  rfl
theorem psQ_piece {p r : List UInt8} {c : UInt8} (h : one p = some []) (hc : c.toNat = 44 ∨ c.toNat = 41) : psQ (p ++ c :: r) = if c.toNat = 44 then (p :: (psQ r).1, (psQ r).2) else ([p], r) := by
  rw [psQ_some (one_ahead h (.inr ⟨c, r, rfl, sign_of (by omega)⟩))]
  simp
def partsR (l : List UInt8) : List (List UInt8) × List UInt8 := if isHead 41 l.tail then ([], l.tail.tail) else psQ l.tail
theorem psQ_join : ∀ (ps : List (List UInt8)) (p r : List UInt8), (∀ x ∈ p :: ps, one x = some []) → psQ (joinR (p :: ps) ++ 41 :: r) = (p :: ps, r)
  | [], p, r, h => by
    rw [joinR_one, psQ_piece (h p (by simp)) (.inr rfl)]
    rfl
  | q :: ps, p, r, h => by
    rw [joinR_two, List.append_assoc, List.cons_append, psQ_piece (h p (by simp)) (.inl rfl), psQ_join ps q r (fun x hx => h x (List.mem_cons_of_mem _ hx))]
    rfl
theorem partsR_funcR {ps : List (List UInt8)} (r : List UInt8) (h : ∀ x ∈ ps, one x = some []) : partsR (funcR ps r) = (ps, r) := by
  cases ps with
  | nil => rfl
  | cons p ps =>
    have hh : isHead 41 (joinR (p :: ps) ++ 41 :: r) = false := by
      rw [Bool.eq_false_iff]
      intro he
      obtain ⟨d, y, e, hd⟩ := isHead_pos he
      cases ps with
      | nil => rw [joinR_one] at e; exact right_head (h p (by simp)) d y _ e hd
      | cons q ps => rw [joinR_two, List.append_assoc] at e; exact right_head (h p (by simp)) d y _ e hd
    rw [partsR, funcR, List.tail_cons, hh]
    exact psQ_join ps p r h
/-- The parameters go on from here, k of them (and one) being read. -/
def Goes (k : Nat) (l : List UInt8) : Prop := (one l).bind (fun x => (tl k x).bind one) = some []
theorem goes_next {k : Nat} {l : List UInt8} (h : Goes k l) : ∃ c r, one l = some (c :: r) ∧ ((c.toNat = 41 ∧ one r = some []) ∨ (c.toNat = 44 ∧ k + 1 < 6 ∧ Goes (k + 1) r)) := by
  obtain ⟨x, h1, h2⟩ := Option.bind_eq_some_iff.1 h
  obtain ⟨y, h3, h4⟩ := Option.bind_eq_some_iff.1 h2
  cases x with
  | nil => rw [tl_nil] at h3; cases h3
  | cons c r =>
    refine ⟨c, r, h1, ?_⟩
    by_cases c1 : c.toNat = 41
    · rw [tl_close k r c1] at h3
      simp only [Option.some.injEq] at h3
      subst h3
      exact .inl ⟨c1, h4⟩
    · by_cases c2 : c.toNat = 44 ∧ k + 1 < 6
      · rw [tl_comma k r c2.1 c2.2] at h3
        refine .inr ⟨c2.1, c2.2, ?_⟩
        obtain ⟨z, h5, h6⟩ := Option.bind_eq_some_iff.1 h3
        unfold Goes
        rw [h5]
        simp only [Option.bind_some]
        rw [h6]
        exact h4
      · rw [tl_bad k r c1 c2] at h3
        cases h3
theorem goes_first {c : UInt8} {l : List UInt8} (hc : c.toNat = 40) (h : one (c :: l) = some []) (hn : isHead 41 l = false) : Goes 0 l := by
  rw [one_fn l hc (by rintro d y rfl hd; rw [isHead_cons, decide_eq_true hd] at hn; cases hn)] at h
  exact h
theorem goes_text : ∀ (n k : Nat) (l : List UInt8), l.length ≤ n → k < 6 → Goes k l → ∃ p ps r, psQ l = (p :: ps, r) ∧ l = joinR (p :: ps) ++ 41 :: r ∧ (∀ x ∈ p :: ps, one x = some []) ∧ one r = some [] ∧ ps.length + k < 6
  | 0, k, l, hn, _, h => by
    obtain ⟨c, r, h1, _⟩ := goes_next h
    have := one_len h1
    omega
  | n + 1, k, l, hn, hk6, h => by
    obtain ⟨c, r, h1, h2⟩ := goes_next h
    have hl := one_len h1
    simp only [List.length_cons] at hl
    obtain ⟨x, _, e⟩ := one_suffix h1
    have hx : one x = some [] := one_piece (by rw [← e]; exact h1)
    have hp : l.take (l.length - (r.length + 1)) = x := by rw [e]; simp
    have hq := psQ_some h1
    rw [hp] at hq
    rcases h2 with ⟨hc, hr⟩ | ⟨hc, hk, hg⟩
    · rw [if_neg (by omega)] at hq
      have hc' : c = 41 := UInt8.toNat_inj.1 hc
      refine ⟨x, [], r, hq, by rw [joinR_one, e, hc'], by simpa using hx, hr, by simpa using hk6⟩
    · rw [if_pos hc] at hq
      have hc' : c = 44 := UInt8.toNat_inj.1 hc
      obtain ⟨p, ps, r', e1, e2, e3, e4, e5⟩ := goes_text n (k + 1) r (by omega) hk hg
      rw [e1] at hq
      refine ⟨x, p :: ps, r', hq, by rw [joinR_two, e, hc', List.append_assoc, List.cons_append, ← e2], ?_, e4, by simp; omega⟩
      intro y hy
      simp only [List.mem_cons] at hy
      rcases hy with rfl | hy
      · exact hx
      · exact e3 y (by simpa using hy)
end Go.Proofs.Ytchfhkfepghfjaa

namespace Go.Proofs.Ytchfhkfepghfjaa

def arrayL : List UInt8 := [97, 114, 114, 97, 121]
def fnL : List UInt8 := [102, 110]
def isWordR (t : Tr) (x : List UInt8) : Bool := decide (t.kind = 3) && decide (t.text = x)
def noTr : Tr := ⟨0, 0, [], [], ⟨0, 0, []⟩⟩
def kid (t : Tr) (i : Nat) : Tr := t.kids.getD i noTr
/-- What a tree stands for: 1 a word, 2 an array, 3 a function, 0 nothing. -/
def formR (t : Tr) : Nat :=
  if t.kind = 3 then 1 else if t.kind ≠ 1 then 0
  else if t.kids.length = 2 ∧ isWordR (kid t 0) arrayL = true then 2
  else if t.kids.length = 3 ∧ isWordR (kid t 0) fnL = true ∧ (kid t 1).kind = 1 then 3 else 0
/-- The trees that a type is made of. -/
def partsT (t : Tr) : List Tr := if formR t = 2 then [kid t 1] else if formR t = 3 then (kid t 1).kids ++ [kid t 2] else []
/-- The type that a word tells: nothing, if it tells none. -/
def atomR (x m : List UInt8) : List UInt8 := if wordOk x = true then x else if bigR x = true then m ++ 46 :: x else []
def lim (x : List UInt8) : Except Nat (List UInt8) := if x = [] then .error 12 else if 200 < x.length then .error 3 else .ok x
/-- The text of a tree whose parts are read. -/
def madeR (m : List UInt8) (t : Tr) (ys : List (List UInt8)) : Except Nat (List UInt8) :=
  if formR t = 1 then lim (atomR t.text m)
  else if formR t = 2 then lim (arrR (ys.getD 0 []))
  else if formR t = 3 then (if 6 < ys.length - 1 then .error 19 else lim (funcR (ys.take (ys.length - 1)) (ys.getD (ys.length - 1) [])))
  else .error 12
abbrev RR : Type := Except (Nat × Nat) (List UInt8)
def fin (m : List UInt8) (t : Tr) (ys : List (List UInt8)) : RR :=
  match madeR m t ys with
  | .error y => .error (y, t.place)
  | .ok x => .ok x
def seqE : List RR → Except (Nat × Nat) (List (List UInt8))
  | [] => .ok []
  | .error e :: _ => .error e
  | .ok x :: r => match seqE r with | .error e => .error e | .ok l => .ok (x :: l)
def pick (q : List (RR × List RR)) (f : Nat) : List RR :=
  if f = 2 then [(q.getD 1 (.ok [], [])).1] else if f = 3 then (q.getD 1 (.ok [], [])).2 ++ [(q.getD 2 (.ok [], [])).1] else []
def rr (m : List UInt8) : Tr → RR × List RR
  | ⟨k, p, x, l, e⟩ => (match seqE (pick (l.map (rr m)) (formR ⟨k, p, x, l, e⟩)) with | .error e => .error e | .ok ys => fin m ⟨k, p, x, l, e⟩ ys, (l.map (rr m)).map (·.1))
/-- Read. -/
def readR (m : List UInt8) (t : Tr) : RR := (rr m t).1
theorem rr_snd (m : List UInt8) (t : Tr) : (rr m t).2 = t.kids.map (readR m) := by
  obtain ⟨k, p, x, l, e⟩ := t
  rw [rr]
  simp [readR]
theorem form2 {t : Tr} (h : formR t = 2) : t.kids.length = 2 := by
  unfold formR at h
  repeat' split at h
  all_goals first | omega | (rename_i hh; exact hh.1)
theorem form3 {t : Tr} (h : formR t = 3) : t.kids.length = 3 := by
  unfold formR at h
  repeat' split at h
  all_goals first | omega | (rename_i hh; exact hh.1)
theorem readR_eq (m : List UInt8) (t : Tr) : readR m t = match seqE ((partsT t).map (readR m)) with | .error e => .error e | .ok ys => fin m t ys := by
  have key : pick (t.kids.map (rr m)) (formR t) = (partsT t).map (readR m) := by
    unfold pick partsT
    have hg : ∀ i, i < t.kids.length → (t.kids.map (rr m)).getD i (.ok [], []) = rr m (kid t i) := by
      intro i hi
      rw [kid, List.getD_eq_getElem?_getD, List.getD_eq_getElem?_getD, List.getElem?_map, List.getElem?_eq_getElem hi]
      rfl
    split
    · rename_i h
      rw [hg 1 (by have := form2 h; omega)]
      rfl
    · split
      · rename_i h
        rw [hg 1 (by have := form3 h; omega), hg 2 (by have := form3 h; omega), rr_snd]
        simp [readR]
      · rfl
  rw [← key]
  obtain ⟨k, p, x, l, e⟩ := t
  rw [readR, rr]
/-- Something that is begun: its tree, and the texts of its parts so far. -/
structure Fr where
  tree : Tr
  texts : List (List UInt8)
def goF (m : List UInt8) (f : Fr) : RR :=
  match seqE (((partsT f.tree).drop f.texts.length).map (readR m)) with
  | .error e => .error e
  | .ok zs => fin m f.tree (f.texts ++ zs)
def goS (m : List UInt8) : RR → List Fr → RR
  | x, [] => x
  | .error e, _ :: _ => .error e
  | .ok x, g :: r => goS m (goF m ⟨g.tree, g.texts ++ [x]⟩) r
theorem goS_error (m : List UInt8) (e : Nat × Nat) (r : List Fr) : goS m (.error e) r = .error e := by cases r <;> rfl
theorem goF_start (m : List UInt8) (t : Tr) : goF m ⟨t, []⟩ = readR m t := by
  rw [goF, readR_eq]
  rfl
/-- One thing more is begun. -/
theorem goS_push (m : List UInt8) (f : Fr) (r : List Fr) (h : f.texts.length < (partsT f.tree).length) : goS m (goF m ⟨(partsT f.tree)[f.texts.length], []⟩) (f :: r) = goS m (goF m f) r := by
  rw [goF_start]
  have hd : (partsT f.tree).drop f.texts.length = (partsT f.tree)[f.texts.length] :: (partsT f.tree).drop (f.texts.length + 1) := List.drop_eq_getElem_cons h
  cases hx : readR m (partsT f.tree)[f.texts.length] with
  | error e =>
    have : goF m f = .error e := by rw [goF, hd, List.map_cons, hx]; rfl
    rw [this, goS_error, goS_error]
  | ok x =>
    have : goF m f = goF m ⟨f.tree, f.texts ++ [x]⟩ := by
      rw [goF, goF, hd, List.map_cons, hx, seqE]
      simp only [List.length_append, List.length_singleton]
      cases seqE (((partsT f.tree).drop (f.texts.length + 1)).map (readR m)) <;> simp
    rw [this]
    rfl
/-- All its parts are read. -/
theorem goF_end (m : List UInt8) (f : Fr) (h : f.texts.length = (partsT f.tree).length) : goF m f = fin m f.tree f.texts := by
  rw [goF, h, List.drop_length]
  simp [seqE]
theorem goS_pop (m : List UInt8) (f g : Fr) (r : List Fr) (x : List UInt8) (h : f.texts.length = (partsT f.tree).length) (hx : madeR m f.tree f.texts = .ok x) : goS m (goF m f) (g :: r) = goS m (goF m ⟨g.tree, g.texts ++ [x]⟩) r := by
  rw [goF_end m f h, fin, hx]
  rfl
theorem goS_end (m : List UInt8) (f : Fr) (x : List UInt8) (h : f.texts.length = (partsT f.tree).length) (hx : madeR m f.tree f.texts = .ok x) : goS m (goF m f) [] = .ok x := by
  rw [goF_end m f h, fin, hx]
  rfl
theorem goS_bad (m : List UInt8) (f : Fr) (r : List Fr) (y : Nat) (h : f.texts.length = (partsT f.tree).length) (hx : madeR m f.tree f.texts = .error y) : goS m (goF m f) r = .error (y, f.tree.place) := by
  rw [goF_end m f h, fin, hx]
  exact goS_error _ _ _
theorem lim_len {x y : List UInt8} (h : lim x = .ok y) : y.length ≤ 200 ∧ y = x := by
  unfold lim at h
  split at h
  · cases h
  · split at h
    · cases h
    · cases h; exact ⟨by omega, rfl⟩
theorem madeR_len {m : List UInt8} {t : Tr} {ys : List (List UInt8)} {x : List UInt8} (h : madeR m t ys = .ok x) : x.length ≤ 200 := by
  unfold madeR at h
  repeat' split at h
  all_goals first | exact (lim_len h).1 | cases h

/-! How much is still to be done. -/
def nodes : Tr → Nat
  | ⟨_, _, _, l, _⟩ => 1 + (l.map nodes).sum
theorem nodes_eq (t : Tr) : nodes t = 1 + (t.kids.map nodes).sum := by
  obtain ⟨k, p, x, l, e⟩ := t
  rw [nodes]
theorem parts_nodes (t : Tr) : ((partsT t).map nodes).sum + 1 ≤ nodes t := by
  rw [nodes_eq]
  unfold partsT
  split
  · rename_i h
    have h2 := form2 h
    obtain ⟨k, p, x, l, e⟩ := t
    match l, h2 with
    | [a, b], _ => simp [kid]; omega
  · split
    · rename_i h
      have h2 := form3 h
      obtain ⟨k, p, x, l, e⟩ := t
      match l, h2 with
      | [a, b, c], _ =>
        have := nodes_eq b
        simp [kid]
        omega
    · simp
def left (f : Fr) (k : Nat) : Nat := 1 + 2 * (((partsT f.tree).drop (f.texts.length + k)).map nodes).sum
def todo : List Fr → Nat
  | [] => 0
  | f :: r => left f 0 + (r.map (fun g => left g 1)).sum
theorem todo_push (f : Fr) (r : List Fr) (h : f.texts.length < (partsT f.tree).length) : todo (⟨(partsT f.tree)[f.texts.length], []⟩ :: f :: r) < todo (f :: r) := by
  have hd : (partsT f.tree).drop f.texts.length = (partsT f.tree)[f.texts.length] :: (partsT f.tree).drop (f.texts.length + 1) := List.drop_eq_getElem_cons h
  have hn := parts_nodes (partsT f.tree)[f.texts.length]
  simp only [todo, left, List.map_cons, List.sum_cons, List.length_nil, Nat.add_zero, List.drop_zero, hd]
  omega
theorem todo_pop (f g : Fr) (r : List Fr) (x : List UInt8) : todo (⟨g.tree, g.texts ++ [x]⟩ :: r) < todo (f :: g :: r) := by
  simp only [todo, left, List.map_cons, List.sum_cons, List.length_append, List.length_singleton, Nat.add_zero]
  omega
end Go.Proofs.Ytchfhkfepghfjaa
