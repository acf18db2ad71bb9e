/-
  The statements' 'same': two rows of the same tokens are the same.
  And: The stack of open brackets in memory: a bracket more, one that is shut, a tree more in the topmost. The package's take: a token is put to the stack. The package's take at an Atom or a Quoted.
-/
import Derived.Deep.Upon
import Derived.Deep.LoopGhost
import Derived.Test.YtchfhkfepghfjaaPfAc
import Derived.Test.YtchfhkfepghfjaaPfAg
import Derived.Deep.RegionLaw
import Derived.Deep.CutRange
namespace Go.Proofs.Ytchfhkfepghfjaa
open Go.RowKit

/-- A row of tokens that can be read. -/
def RdT (w : World) (v : Value) (l : List Tok) : Prop := (v = .slice none 0 0 ∧ l = []) ∨ ∃ g cap, v = .slice (some ⟨g, 0, none⟩) l.length cap ∧ ∀ j u, (tcs l)[j]? = some u → w.cell? ⟨g, j, none⟩ = some u
theorem RdT.own {w : World} {B e : Nat} {v : Value} {l : List Tok} (h : w.ownsRow B e 3 v l.length (tcs l)) : RdT w v l := by
  rcases owns_shape h with ⟨rfl, hn⟩ | ⟨g, cap, rfl, _, _, hc⟩
  · exact .inl ⟨rfl, List.eq_nil_of_length_eq_zero hn⟩
  · exact .inr ⟨g, cap, rfl, fun j u hj => by have := hc j u hj; rwa [add_at] at this⟩
theorem RdT.new (w : World) (e : TypeId) (l : List Tok) : RdT (w.alloc (.cells (tcs l).toArray e)) (.slice (some ⟨w.heap.size, 0, none⟩) l.length l.length) l :=
  .inr ⟨_, _, rfl, fun j u hj => by have := cells_new w (tcs l) e j u hj; rwa [add_at] at this⟩
theorem RdT.below {w w' : World} {v : Value} {l : List Tok} (h : RdT w v l) (k : Below w.heap.size w w') : RdT w' v l := by
  rcases h with h | ⟨g, cap, rfl, hc⟩
  · exact .inl h
  · refine .inr ⟨g, cap, rfl, fun j u hj => ?_⟩
    have := hc j u hj
    rw [k.cell (World.block_lt_of_cell? w _ this)]
    exact this
theorem RdT.shape {w : World} {v : Value} {l : List Tok} (h : RdT w v l) : ∃ a c, v = .slice a l.length c := by
  rcases h with ⟨rfl, rfl⟩ | ⟨g, cap, rfl, _⟩
  · exact ⟨_, _, rfl⟩
  · exact ⟨_, _, rfl⟩
theorem tcs_get : ∀ (l : List Tok) (k : Nat) (hk : k < l.length), (tcs l)[k * 3]? = some (.int .i64 (l[k].kind : Int)) ∧ (tcs l)[k * 3 + 1]? = some (.int .i64 (l[k].place : Int)) ∧ (tcs l)[k * 3 + 2]? = some (.string (str l[k].text))
  | [], k, hk => by simp at hk
  | t :: r, 0, _ => by simp [tcs, tc]
  | t :: r, k + 1, hk => by
    have := tcs_get r k (by simpa using hk)
    have e : tcs (t :: r) = tc t ++ tcs r := by simp [tcs]
    rw [e]
    have h3 : (tc t).length = 3 := rfl
    rw [List.getElem?_append_right (by omega), List.getElem?_append_right (by omega), List.getElem?_append_right (by omega), h3, show (k + 1) * 3 - 3 = k * 3 from by omega, show (k + 1) * 3 + 1 - 3 = k * 3 + 1 from by omega, show (k + 1) * 3 + 2 - 3 = k * 3 + 2 from by omega]
    exact this

end Go.Proofs.Ytchfhkfepghfjaa

namespace Go.Proofs.Ytchfhkfepghfjaa
open Go.RowKit

/-- The stack, the lowest first: a row of the call's own whose trees have rows of Kids of the call's own, all apart; what is shut lies in F. -/
structure StkM (F : Nat → Prop) (B : Nat) (w : World) (sv : Value) (ts : List Tr) (vs : List Value) : Prop where
  len : vs.length = ts.length
  own : w.ownsRow B 27 4 sv ts.length (rowc ts vs)
  kids : ∀ (i : Nat) (t : Tr) (v : Value), ts[i]? = some t → vs[i]? = some v → OwnK 27 B F w v t.kids
  far : ∀ (i : Nat) (v : Value) (g : Nat), vs[i]? = some v → v.ownBlock = some g → ¬ F g ∧ sv.ownBlock ≠ some g
  apart : ∀ (i j : Nat) (v v' : Value) (g : Nat), vs[i]? = some v → vs[j]? = some v' → v.ownBlock = some g → v'.ownBlock = some g → i = j
  lies : ∀ g, F g → B ≤ g ∧ g < w.heap.size
  sfar : ∀ g, sv.ownBlock = some g → ¬ F g
theorem StkM.kept {F S : Nat → Prop} {B : Nat} {w w' : World} {sv : Value} {ts : List Tr} {vs : List Value} (h : StkM F B w sv ts vs) (k : Kept S w w') (hS : ∀ g, S g → w.heap.size ≤ g ∨ g < B) : StkM F B w' sv ts vs := by
  have hn : ∀ g, B ≤ g → g < w.heap.size → ¬ S g := fun g h1 h2 hs => by have := hS g hs; omega
  have hF : ∀ g, F g → g < w.heap.size ∧ ¬ S g := fun g hg => ⟨(h.lies g hg).2, hn g (h.lies g hg).1 (h.lies g hg).2⟩
  refine ⟨h.len, k.own h.own (fun g hg => hn g (h.own.lt g hg).1 (h.own.lt g hg).2), fun i t v ht hv => (h.kids i t v ht hv).kept k hF (fun g hg => hn g ((h.kids i t v ht hv).lt g hg).1 ((h.kids i t v ht hv).lt g hg).2), h.far, h.apart, fun g hg => ⟨(h.lies g hg).1, Nat.lt_of_lt_of_le (h.lies g hg).2 k.size⟩, h.sfar⟩
theorem StkM.alloc {F : Nat → Prop} {B : Nat} {w : World} {sv : Value} {ts : List Tr} {vs : List Value} (h : StkM F B w sv ts vs) (o : Obj) : StkM F B (w.alloc o) sv ts vs := h.kept ((Kept.refl (fun _ => False) w).alloc o) (fun _ h => h.elim)
theorem StkM.drew {F : Nat → Prop} {B : Nat} {w : World} {sv : Value} {ts : List Tr} {vs : List Value} (h : StkM F B w sv ts vs) : StkM F B w.drew sv ts vs := h.kept ((Kept.refl (fun _ => False) w).drew) (fun _ h => h.elim)
theorem StkM.shape {F : Nat → Prop} {B : Nat} {w : World} {sv : Value} {ts : List Tr} {vs : List Value} (h : StkM F B w sv ts vs) (hn : 0 < ts.length) : ∃ g cap, sv = .slice (some ⟨g, 0, none⟩) ts.length cap ∧ B ≤ g ∧ g < w.heap.size ∧ ts.length ≤ cap ∧ cap ≤ maxLen := by
  rcases h.own.2 with ⟨_, h0⟩ | ⟨g, cap, cur, hv, hb, hg, h1, h2, _⟩
  · omega
  · exact ⟨g, cap, hv, hb, (Array.getElem?_eq_some_iff.1 hg).1, h1, h2⟩
/-- The cells of one of them. -/
theorem StkM.cells {F : Nat → Prop} {B g cap : Nat} {w : World} {ts : List Tr} {vs : List Value} (h : StkM F B w (.slice (some ⟨g, 0, none⟩) ts.length cap) ts vs) {i : Nat} {t : Tr} (ht : ts[i]? = some t) : ∃ kv, vs[i]? = some kv ∧ OwnK 27 B F w kv t.kids ∧
    w.cell? ⟨g, i * 4, none⟩ = some (.int .i64 (t.kind : Int)) ∧ w.cell? ⟨g, i * 4 + 1, none⟩ = some (.int .i64 (t.place : Int)) ∧ w.cell? ⟨g, i * 4 + 2, none⟩ = some (.string (str t.text)) ∧ w.cell? ⟨g, i * 4 + 3, none⟩ = some kv ∧ ∀ j, w.frozen? ⟨g, j, none⟩ = false := by
  obtain ⟨hi, _⟩ := List.getElem?_eq_some_iff.1 ht
  have hl := h.len
  have hv : vs[i]? = some vs[i] := List.getElem?_eq_getElem (by omega)
  have hc : ∀ j, j < 4 → w.cell? ⟨g, i * 4 + j, none⟩ = (trc t vs[i])[j]? := fun j hj => by rw [h.own.cellAt _ (by omega), rowc_get ht hv hj]
  exact ⟨vs[i], hv, h.kids i t _ ht hv, hc 0 (by omega), hc 1 (by omega), hc 2 (by omega), hc 3 (by omega), fun j => h.own.frozenAt j⟩

/-- An open bracket more. -/
theorem StkM.push {F : Nat → Prop} {B H : Nat} {w w' : World} {sv sv' : Value} {ts : List Tr} {vs : List Value} {t : Tr} (h : StkM F B w sv ts vs) (ht : t.kids = []) (hown : w'.ownsRow B 27 4 sv' (ts.length + 1) (rowc ts vs ++ trc t (.slice none 0 0)))
    (hg : w.grownBy w' sv.ownBlock) (hat : sv'.ownBlock = sv.ownBlock ∨ sv'.ownBlock = some H) (hH : H = w.heap.size) : StkM F B w' sv' (ts ++ [t]) (vs ++ [.slice none 0 0]) := by
  have k : Kept (fun g => sv.ownBlock = some g) w w' := (Kept.refl _ w).grown hg (fun k e _ => e)
  have hF : ∀ g, F g → g < w.heap.size ∧ ¬ sv.ownBlock = some g := fun g hg => ⟨(h.lies g hg).2, fun e => h.sfar g e hg⟩
  have hl := h.len
  have get : ∀ (i : Nat) (v : Value), (vs ++ [.slice none 0 0])[i]? = some v → vs[i]? = some v ∨ (i = vs.length ∧ v = .slice none 0 0) := by
    intro i v hv
    rw [List.getElem?_append] at hv
    split at hv
    · exact .inl hv
    · right
      obtain ⟨hlt, e1⟩ := List.getElem?_eq_some_iff.1 hv
      simp at hlt e1
      exact ⟨by omega, e1.symm⟩
  have hs' : ∀ (i : Nat) (v : Value) (g : Nat), vs[i]? = some v → v.ownBlock = some g → sv'.ownBlock ≠ some g := by
    intro i v g hv hgv e
    rcases hat with q | q
    · exact (h.far i v g hv hgv).2 (by rw [← q]; exact e)
    · rw [q] at e
      simp at e
      have hil : i < ts.length := by have := (List.getElem?_eq_some_iff.1 hv).1; omega
      have ht' : ts[i]? = some ts[i] := List.getElem?_eq_getElem hil
      have := ((h.kids i _ v ht' hv).lt g hgv).2
      omega
  refine ⟨by simp [hl], ?_, fun i t' v ht' hv => ?_, fun i v g hv hgv => ?_, fun i j v v' g hv hv' h1 h2 => ?_, fun g hg => ⟨(h.lies g hg).1, Nat.lt_of_lt_of_le (h.lies g hg).2 k.size⟩, fun g hgs => ?_⟩
  · rw [rowc_append _ _ hl, rowc_one, List.length_append]
    exact hown
  · rcases get i v hv with hv1 | ⟨rfl, rfl⟩
    · have hi := (List.getElem?_eq_some_iff.1 hv1).1
      rw [List.getElem?_append_left (by omega)] at ht'
      exact (h.kids i t' v ht' hv1).kept k hF (fun g hg => fun e => (h.far i v g hv1 hg).2 e)
    · rw [List.getElem?_append_right (by omega), hl] at ht'
      simp at ht'
      subst ht'
      rw [ht]
      exact OwnK.nil _ _ _ _
  · rcases get i v hv with hv1 | ⟨_, rfl⟩
    · exact ⟨(h.far i v g hv1 hgv).1, hs' i v g hv1 hgv⟩
    · simp [Value.ownBlock] at hgv
  · rcases get i v hv with hv1 | ⟨_, rfl⟩
    · rcases get j v' hv' with hv2 | ⟨_, rfl⟩
      · exact h.apart i j v v' g hv1 hv2 h1 h2
      · simp [Value.ownBlock] at h2
    · simp [Value.ownBlock] at h1
  · rcases hat with q | q
    · exact h.sfar g (by rw [← q]; exact hgs)
    · rw [q] at hgs
      simp at hgs
      intro hf
      have := (h.lies g hf).2
      omega
/-- The topmost is shut: its Kids can be read from now on. -/
theorem StkM.pop {F : Nat → Prop} {B g cap : Nat} {w : World} {ts : List Tr} {x : Tr} {vs : List Value} {kv : Value} (h : StkM F B w (.slice (some ⟨g, 0, none⟩) (ts.length + 1) cap) (ts ++ [x]) (vs ++ [kv])) :
    StkM (fun b => F b ∨ kv.ownBlock = some b) B w (.slice (some ⟨g, 0, none⟩) ts.length cap) ts vs ∧ TL (fun b => F b ∨ kv.ownBlock = some b) w kv x.kids := by
  have hl : vs.length = ts.length := by have := h.len; simpa using this
  have hx : (ts ++ [x])[ts.length]? = some x := by simp
  have hv : (vs ++ [kv])[ts.length]? = some kv := by rw [← hl]; simp
  have hk := h.kids _ _ _ hx hv
  have up : ∀ (i : Nat) (v : Value), vs[i]? = some v → (vs ++ [kv])[i]? = some v ∧ i < ts.length := fun i v hv => by
    have := (List.getElem?_eq_some_iff.1 hv).1
    exact ⟨by rw [List.getElem?_append_left this]; exact hv, by omega⟩
  refine ⟨⟨hl, ?_, fun i t v ht hv' => ?_, fun i v b hv' hb => ?_, fun i j v v' b hv1 hv2 => h.apart i j v v' b (up i v hv1).1 (up j v' hv2).1, fun b hb => ?_, fun b hb => ?_⟩, hk.shut⟩
  · have := h.own
    rw [rowc_append _ _ hl, rowc_one] at this
    exact ownsRow_pop (rowc_length hl) (by simpa using this)
  · refine (h.kids i t v ?_ (up i v hv').1).mono (fun _ h => .inl h)
    rw [List.getElem?_append_left (up i v hv').2]
    exact ht
  · refine ⟨fun hh => ?_, (h.far i v b (up i v hv').1 hb).2⟩
    rcases hh with hh | hh
    · exact (h.far i v b (up i v hv').1 hb).1 hh
    · have := h.apart i ts.length v kv b (up i v hv').1 hv hb hh
      have := (up i v hv').2
      omega
  · rcases hb with hb | hb
    · exact h.lies b hb
    · exact hk.lt b hb
  · rintro (hh | hh)
    · exact h.sfar b hb hh
    · exact (h.far _ kv b hv hh).2 hb

theorem set4 (xs : List Value) (n : Nat) (hx : xs.length = n * 4) (z a b c d : Value) (y1 y2 y3 : Value) : ((((xs ++ [z, y1, y2, y3]).set (n * 4) a).set (n * 4 + 1) b).set (n * 4 + 2) c).set (n * 4 + 3) d = xs ++ [a, b, c, d] := by
  rw [List.set_append_right _ _ (by omega), List.set_append_right _ _ (by omega), List.set_append_right _ _ (by omega), List.set_append_right _ _ (by omega), hx, show n * 4 - n * 4 = 0 from by omega, show n * 4 + 1 - n * 4 = 1 from by omega, show n * 4 + 2 - n * 4 = 2 from by omega, show n * 4 + 3 - n * 4 = 3 from by omega]
  rfl
/-- A tree more among the Kids of one of them (the append, then the cells). -/
theorem StkM.add {F : Nat → Prop} {B H g gs cap caps : Nat} {w w' w2 : World} {ts : List Tr} {vs : List Value} {i : Nat} {t x : Tr} {v u : Value} {us : List Value} (h : StkM F B w (.slice (some ⟨gs, 0, none⟩) ts.length caps) ts vs) (ht : ts[i]? = some t) (hv : vs[i]? = some v)
    (hul : us.length = t.kids.length) (hu3 : ∀ (i : Nat) (t' : Tr) (v : Value), t.kids[i]? = some t' → us[i]? = some v → TL F w v t'.kids) (hx : TL F w u x.kids)
    (hgr : w.grownBy w' v.ownBlock) (hat : v.ownBlock = some g ∨ g = H) (hH : H = w.heap.size) (hlt : g < w'.heap.size)
    (hown : w2.ownsRow B 27 4 (.slice (some ⟨g, 0, none⟩) (t.kids.length + 1) cap) (t.kids.length + 1) (rowc t.kids us ++ trc x u)) (k2 : Kept (fun b => b = g) w' w2) :
    StkM F B (w2.setCell ⟨gs, i * 4 + 3, none⟩ (.slice (some ⟨g, 0, none⟩) (t.kids.length + 1) cap)) (.slice (some ⟨gs, 0, none⟩) ts.length caps) (ts.set i (addKid t x)) (vs.set i (.slice (some ⟨g, 0, none⟩) (t.kids.length + 1) cap)) ∧
    Kept (fun b => b = g ∨ v.ownBlock = some b ∨ b = gs) w (w2.setCell ⟨gs, i * 4 + 3, none⟩ (.slice (some ⟨g, 0, none⟩) (t.kids.length + 1) cap)) := by
  have hi := (List.getElem?_eq_some_iff.1 ht).1
  have hvi := (List.getElem?_eq_some_iff.1 hv).1
  have hkt := h.kids i t v ht hv
  have hgs := h.own.lt gs rfl
  have hg1 : g ≠ gs := by
    rcases hat with q | q
    · intro e; subst e; exact (h.far i v g hv q).2 rfl
    · omega
  have hgB : B ≤ g := (hown.lt g rfl).1
  have hgF : ¬ F g := by
    rcases hat with q | q
    · exact (h.far i v g hv q).1
    · intro hf; have := (h.lies g hf).2; omega
  have k1 : Kept (fun b => v.ownBlock = some b) w w' := (Kept.refl _ w).grown hgr (fun k e _ => e)
  have kk : Kept (fun b => b = g ∨ v.ownBlock = some b) w w2 := k1.trans k2 (fun _ _ h => .inr h) (fun _ _ h => .inl h)
  have hgs2 : w2.ownsRow B 27 4 (.slice (some ⟨gs, 0, none⟩) ts.length caps) ts.length (rowc ts vs) := kk.own h.own (fun b hb => by
    simp [Value.ownBlock] at hb
    subst hb
    rintro (e | e)
    · exact hg1 e.symm
    · exact (h.far i v gs hv e).2 rfl)
  have hF : ∀ b, F b → b < w.heap.size ∧ ¬ (b = g ∨ v.ownBlock = some b) := fun b hb => ⟨(h.lies b hb).2, fun e => by
    rcases e with rfl | e
    · exact hgF hb
    · exact (h.far i v b hv e).1 hb⟩
  have ks : Kept (fun b => b = gs) w2 (w2.setCell ⟨gs, i * 4 + 3, none⟩ (.slice (some ⟨g, 0, none⟩) (t.kids.length + 1) cap)) := (Kept.refl (fun b => b = gs) w2).setCell (p := ⟨gs, i * 4 + 3, none⟩) (fun _ => rfl) _
  have kall : Kept (fun b => b = g ∨ v.ownBlock = some b ∨ b = gs) w (w2.setCell ⟨gs, i * 4 + 3, none⟩ (.slice (some ⟨g, 0, none⟩) (t.kids.length + 1) cap)) := kk.trans ks (fun _ _ h => by rcases h with h | h; exact .inl h; exact .inr (.inl h)) (fun _ _ h => .inr (.inr h))
  have hFa : ∀ b, F b → b < w.heap.size ∧ ¬ (b = g ∨ v.ownBlock = some b ∨ b = gs) := fun b hb => ⟨(h.lies b hb).2, fun e => by
    rcases e with rfl | e | rfl
    · exact hgF hb
    · exact (h.far i v b hv e).1 hb
    · exact h.sfar b rfl hb⟩
  have get : ∀ (j : Nat) (v' : Value), (vs.set i (.slice (some ⟨g, 0, none⟩) (t.kids.length + 1) cap))[j]? = some v' → (j ≠ i ∧ vs[j]? = some v') ∨ (j = i ∧ v' = .slice (some ⟨g, 0, none⟩) (t.kids.length + 1) cap) := by
    intro j v' hj
    rw [List.getElem?_set] at hj
    split at hj
    · rename_i e
      subst e
      first | rw [if_pos hvi] at hj | skip
      cases hj
      exact .inr ⟨rfl, rfl⟩
    · rename_i e
      exact .inl ⟨fun e' => e e'.symm, hj⟩
  have off : ∀ (j : Nat) (v' : Value) (b : Nat), j ≠ i → vs[j]? = some v' → v'.ownBlock = some b → b ≠ g ∧ v.ownBlock ≠ some b ∧ b ≠ gs := by
    intro j v' b hj hv' hb
    have hjl : j < ts.length := by have := (List.getElem?_eq_some_iff.1 hv').1; have := h.len; omega
    have htj : ts[j]? = some ts[j] := List.getElem?_eq_getElem hjl
    have hlt' := ((h.kids j _ v' htj hv').lt b hb).2
    refine ⟨fun e => ?_, fun e => hj (h.apart j i v' v b hv' hv hb e), fun e => ?_⟩
    · subst e
      rcases hat with q | q
      · exact hj (h.apart j i v' v b hv' hv hb q)
      · omega
    · subst e
      exact (h.far j v' b hv' hb).2 rfl
  refine ⟨⟨by simp [h.len], ?_, fun j t' v' ht' hv' => ?_, fun j v' b hv' hb => ?_, fun j j' v' v'' b hv' hv'' hb hb' => ?_, fun b hb => ⟨(h.lies b hb).1, Nat.lt_of_lt_of_le (h.lies b hb).2 kall.size⟩, fun b hb => h.sfar b hb⟩, kall⟩
  · rw [List.length_set, ← rowc_set (addKid t x) _ h.len (fun t' ht' => by rw [ht] at ht'; cases ht'; exact ⟨rfl, rfl, rfl⟩)]
    exact (hgs2.stored (i * 4 + 3) _).1
  · rcases get j v' hv' with ⟨hj, hvj⟩ | ⟨rfl, rfl⟩
    · rw [List.getElem?_set_ne (fun e => hj e.symm)] at ht'
      exact (h.kids j t' v' ht' hvj).kept kall hFa (fun b hb e => by
        have := off j v' b hj hvj hb
        rcases e with e | e | e
        · exact this.1 e
        · exact this.2.1 e
        · exact this.2.2 e)
    · rw [List.getElem?_set_self hi] at ht'
      cases ht'
      refine ⟨us ++ [u], by simp [hul, addKid], ?_, fun j' t' v' ht' hv' => ?_⟩
      · have e : rowc (addKid t x).kids (us ++ [u]) = rowc t.kids us ++ trc x u := by
          show rowc (t.kids ++ [x]) (us ++ [u]) = _
          rw [rowc_append _ _ hul, rowc_one]
        rw [e, show (addKid t x).kids.length = t.kids.length + 1 from by simp [addKid]]
        exact ks.own hown (fun b hb => by simp [Value.ownBlock] at hb; omega)
      · refine TL.kept ?_ kall hFa
        simp only [addKid] at ht'
        rw [List.getElem?_append] at ht' hv'
        split at ht'
        · rw [if_pos (by omega)] at hv'
          exact hu3 j' t' v' ht' hv'
        · rw [if_neg (by omega), hul] at hv'
          obtain ⟨hlt', e1⟩ := List.getElem?_eq_some_iff.1 ht'
          have hz : j' - t.kids.length = 0 := by simp at hlt'; omega
          rw [hz] at ht' hv'
          simp at ht' hv'
          subst ht'
          subst hv'
          exact hx
  · rcases get j v' hv' with ⟨hj, hvj⟩ | ⟨rfl, rfl⟩
    · exact h.far j v' b hvj hb
    · simp [Value.ownBlock] at hb
      subst hb
      exact ⟨hgF, by simp [Value.ownBlock]; exact fun e => hg1 e.symm⟩
  · rcases get j v' hv' with ⟨hj, hvj⟩ | ⟨rfl, rfl⟩
    · rcases get j' v'' hv'' with ⟨hj', hvj'⟩ | ⟨rfl, rfl⟩
      · exact h.apart j j' v' v'' b hvj hvj' hb hb'
      · simp [Value.ownBlock] at hb'
        exact absurd hb'.symm (off j v' b hj hvj hb).1
    · rcases get j' v'' hv'' with ⟨hj', hvj'⟩ | ⟨rfl, rfl⟩
      · simp [Value.ownBlock] at hb
        exact absurd hb.symm (off j' v'' b hj' hvj' hb').1
      · rfl
end Go.Proofs.Ytchfhkfepghfjaa

namespace Go.Proofs.Ytchfhkfepghfjaa
open Go.RowKit

theorem append_tree {w : World} {ops : Array Oper} {rest : List Oper} {o : Oper} {a : Act} {Q : Exit → Act → World → Prop} (hgd : o.guard = none) (s x : Operand)
    (ho : o.op = .call { callee := .builtin .append, args := #[s, x], argTypes := #[25, 25] })
    (B : Nat) (v : Value) (n : Nat) (xs : List Value) (hs : a.eval s = v) (hown : w.ownsRow B 27 4 v n xs)
    (ad : Addr) (c : Nat) (news : List Value) (hx : a.eval x = .slice (some ad) 1 c) (hl : news.length = 4) (hnews : ∀ j u, news[j]? = some u → w.cell? (ad.add j) = some u) (h1 : ∀ u ∈ news, u.oneCell' = true)
    (hlen : n ≤ 100000) (hB : B ≤ w.heap.size) (H : Nat) (hH : w.heap.size = H)
    (h : ∀ g cap w', w'.ownsRow B 27 4 (.slice (some ⟨g, 0, none⟩) (n + 1) cap) (n + 1) (xs ++ news) → w.grownBy w' v.ownBlock → (v.ownBlock = some g ∨ g = H) → g < w'.heap.size → wpList Try.prog ops Q rest (a.put o.dst (.slice (some ⟨g, 0, none⟩) (n + 1) cap)) w') :
    wpList Try.prog ops Q (o :: rest) a w := by
  obtain ⟨i, z, hi, hz, k1, k2, k3⟩ := info_z infoTr
  exact wpList_append_lies w hgd s x 25 ho B 27 i z 4 56 Try.underlying25 hi hz k1 k2 k3 (by decide) v n xs hs hown ad 1 c news hx hl hnews h1 (by decide) (by unfold maxLen; omega) (by omega) hB H hH h
theorem step_tree {w : World} {ops : Array Oper} {o : Oper} {a : Act} {K : Act → World → Prop} {Q : Exit → Act → World → Prop} {E : Prop} (hgd : o.guard = none) (s x : Operand)
    (ho : o.op = .call { callee := .builtin .append, args := #[s, x], argTypes := #[25, 25] })
    (B : Nat) (v : Value) (n : Nat) (xs : List Value) (hs : a.eval s = v) (hown : w.ownsRow B 27 4 v n xs)
    (ad : Addr) (c : Nat) (news : List Value) (hx : a.eval x = .slice (some ad) 1 c) (hl : news.length = 4) (hnews : ∀ j u, news[j]? = some u → w.cell? (ad.add j) = some u) (h1 : ∀ u ∈ news, u.oneCell' = true)
    (hlen : n ≤ 100000) (hB : B ≤ w.heap.size) (H : Nat) (hH : w.heap.size = H)
    (h : ∀ g cap w', w'.ownsRow B 27 4 (.slice (some ⟨g, 0, none⟩) (n + 1) cap) (n + 1) (xs ++ news) → w.grownBy w' v.ownBlock → (v.ownBlock = some g ∨ g = H) → g < w'.heap.size → K (a.put o.dst (.slice (some ⟨g, 0, none⟩) (n + 1) cap)) w') :
    if Region.wanted o (yielded ops a.tmps) = true then Oper.wp Try.prog o a w K Q else E := by
  obtain ⟨i, z, hi, hz, k1, k2, k3⟩ := info_z infoTr
  exact step_append_lies w hgd s x 25 ho B 27 i z 4 56 Try.underlying25 hi hz k1 k2 k3 (by decide) v n xs hs hown ad 1 c news hx hl hnews h1 (by decide) (by unfold maxLen; omega) (by omega) hB H hH h

theorem cells_at (w : World) (xs : List Value) (t : TypeId) {g : Nat} (hg : g = w.heap.size) : ∀ j u, xs[j]? = some u → (w.alloc (.cells xs.toArray t)).cell? ((⟨g, 0, none⟩ : Addr).add j) = some u := by
  subst hg
  exact cells_new w xs t
def tkv (t : Tok) : Value := .agg #[.int .i64 (t.kind : Int), .int .i64 (t.place : Int), .string (str t.text)]
def TakeE (B : Nat) (w : World) (rs : List Tr) (e : Ending) (w' : World) : Prop := ∃ F sv vs, e = .returned sv ∧ StkM F B w' sv rs.reverse vs ∧ Below B w w'

set_option maxHeartbeats 1600000 in
set_option maxRecDepth 1000000 in
theorem take_open (F : Nat → Prop) (B : Nat) (w : World) (sv : Value) (rs : List Tr) (vs : List Value) (tok : Tok) (h : StkM F B w sv rs.reverse vs) (hB : B ≤ w.heap.size) (hn : rs ≠ []) (hlen : rs.length ≤ 41) (hk : tok.kind = 1) :
    Calls Try.prog 10 #[sv, tkv tok] w (TakeE B w (put rs tok)) := by
  have hrl : 0 < rs.reverse.length := by simp; exact List.length_pos_iff.2 hn
  obtain ⟨gs, caps, rfl, hgb, hgl, hc1, hc2⟩ := h.shape hrl
  have hp : (put rs tok).reverse = rs.reverse ++ [leaf tok] := by
    cases rs with
    | nil => exact absurd rfl hn
    | cons x r => simp [put, hk]
  obtain ⟨tk, tp, tx⟩ := tok
  simp only at hk
  subst hk
  unfold tkv
  go_enter Try.func10, Try.ntmps10
  go_wp2_with (at_builtin; refine append_tree rfl (.tmp 17) (.tmp 19) rfl B _ _ _ rfl ((h.alloc _).alloc _ |>.alloc _).own _ _ (trc (leaf ⟨1, tp, tx⟩) (.slice none 0 0)) rfl rfl ?src (trc_one _ _ rfl) ?len ?hB _ rfl ?next)
  case src => exact cells_at _ _ _ (by simp)
  case len => simp; omega
  case hB => simp; omega
  case next =>
    intro g cap w' k1 k2 k3 k4
    go_wp2
    go_ret
    have hs := StkM.push (sv' := .slice (some ⟨g, 0, none⟩) (rs.length + 1) cap) (H := w.heap.size + 1 + 1 + 1) (((h.alloc _).alloc _).alloc _) (t := leaf ⟨1, tp, tx⟩) rfl (by rw [List.length_reverse]; exact k1) k2 (by rcases k3 with q | q; exact .inl q.symm; exact .inr (congrArg some q)) (by simp)
    refine ⟨F, _, _, rfl, by rw [hp]; exact hs, ?_⟩
    exact Below.grown ((((Below.refl B w).alloc hB _).alloc (by simp; omega) _).alloc (by simp; omega) _) k2 (by simp; omega) (fun k hk => by simp [Value.ownBlock] at hk; omega)

theorem StkM.top {F : Nat → Prop} {B g cap n : Nat} {w : World} {ts : List Tr} {x : Tr} {vs : List Value} (h : StkM F B w (.slice (some ⟨g, 0, none⟩) (n + 1) cap) (ts ++ [x]) vs) (hn : ts.length = n) : ∃ kv, vs[n]? = some kv ∧ OwnK 27 B F w kv x.kids ∧
    w.cell? ⟨g, n * 4, none⟩ = some (.int .i64 (x.kind : Int)) ∧ w.cell? ⟨g, n * 4 + 1, none⟩ = some (.int .i64 (x.place : Int)) ∧ w.cell? ⟨g, n * 4 + 2, none⟩ = some (.string (str x.text)) ∧ w.cell? ⟨g, n * 4 + 3, none⟩ = some kv ∧ ∀ j, w.frozen? ⟨g, j, none⟩ = false := by
  have e : (ts ++ [x]).length = n + 1 := by simp [hn]
  have h' := h
  rw [← e] at h'
  exact h'.cells (i := n) (by rw [← hn]; simp)

theorem zone : ∀ u ∈ ([.int .i64 0, .int .i64 0, .string ⟨#[]⟩, .slice none 0 0] : List Value), u.oneCell' = true := by
  intro u hu
  simp only [List.mem_cons, List.not_mem_nil, or_false] at hu
  rcases hu with rfl | rfl | rfl | rfl <;> rfl
theorem add_facts {F : Nat → Prop} {B g gs cap caps n m b5 : Nat} {W3 w' : World} {ts : List Tr} {vs : List Value} {v : Value} {xs : List Value} {Z : Obj} {a0 a1 a2 a3 z0 z1 z2 z3 : Value} (hS : StkM F B W3 (.slice (some ⟨gs, 0, none⟩) (n + 1) caps) ts vs) (hx : xs.length = m * 4)
    (t0 : vs[n]? = some v) (hb1 : b5 < W3.heap.size) (hb2 : b5 ≠ gs) (hb3 : v.ownBlock ≠ some b5)
    (c0 : W3.cell? ⟨b5, 0, none⟩ = some a0) (c1 : W3.cell? ⟨b5, 1, none⟩ = some a1) (c2 : W3.cell? ⟨b5, 2, none⟩ = some a2) (c3 : W3.cell? ⟨b5, 3, none⟩ = some a3) (t5 : W3.cell? ⟨gs, n * 4 + 3, none⟩ = some v) (t6 : W3.frozen? ⟨gs, n * 4 + 3, none⟩ = false)
    (k1 : w'.ownsRow B 27 4 (.slice (some ⟨g, 0, none⟩) (m + 1) cap) (m + 1) (xs ++ [z0, z1, z2, z3])) (k2 : (W3.alloc Z).drew.grownBy w' v.ownBlock) (k3 : v.ownBlock = some g ∨ g = W3.heap.size + 1) :
    w'.cell? ⟨b5, 0, none⟩ = some a0 ∧ w'.cell? ⟨b5, 1, none⟩ = some a1 ∧ w'.cell? ⟨b5, 2, none⟩ = some a2 ∧ w'.cell? ⟨b5, 3, none⟩ = some a3 ∧ w'.cell? ⟨gs, n * 4 + 3, none⟩ = some v ∧ w'.frozen? ⟨gs, n * 4 + 3, none⟩ = false ∧
    w'.cell? ⟨g, m * 4, none⟩ = some z0 ∧ w'.cell? ⟨g, m * 4 + 1, none⟩ = some z1 ∧ w'.cell? ⟨g, m * 4 + 2, none⟩ = some z2 ∧ w'.cell? ⟨g, m * 4 + 3, none⟩ = some z3 ∧ w'.frozen? ⟨g, m * 4, none⟩ = false ∧ w'.frozen? ⟨g, m * 4 + 1, none⟩ = false ∧ w'.frozen? ⟨g, m * 4 + 2, none⟩ = false ∧ w'.frozen? ⟨g, m * 4 + 3, none⟩ = false ∧
    g ≠ gs ∧ gs ≠ g ∧ g ≠ b5 ∧ b5 ≠ g ∧ m + 1 ≤ cap := by
  have hgs := hS.own.lt gs rfl
  have hvg : v.ownBlock ≠ some gs := fun e => (hS.far n v gs t0 e).2 rfl
  have K : Kept (fun b => v.ownBlock = some b) W3 w' := (((Kept.refl _ W3).alloc Z).drew).grown k2 (fun k e _ => e)
  have hg1 : g ≠ gs := by
    rcases k3 with q | q
    · intro e; subst e; exact hvg q
    · omega
  have hg2 : g ≠ b5 := by
    rcases k3 with q | q
    · intro e; subst e; exact hb3 q
    · omega
  have hc : ∀ j, j < 4 → w'.cell? ⟨g, m * 4 + j, none⟩ = ([z0, z1, z2, z3] : List Value)[j]? := fun j hj => by
    rw [k1.cellAt _ (by omega), List.getElem?_append_right (by omega), hx, show m * 4 + j - m * 4 = j from by omega]
  have hcap : m + 1 ≤ cap := by
    rcases k1.2 with ⟨_, h0⟩ | ⟨g', cap', cur, e, _, _, h1, _⟩
    · omega
    · cases e; exact h1
  refine ⟨K.cell c0 hb3, K.cell c1 hb3, K.cell c2 hb3, K.cell c3 hb3, K.cell t5 hvg, ?_, hc 0 (by omega), hc 1 (by omega), hc 2 (by omega), hc 3 (by omega), k1.frozenAt _, k1.frozenAt _, k1.frozenAt _, k1.frozenAt _, hg1, fun e => hg1 e.symm, hg2, fun e => hg2 e.symm, hcap⟩
  rw [World.frozen?_of_block (w := W3) (K.block gs hgs.2 hvg)]
  exact t6

theorem setCell_comm (w : World) {a b : Addr} (h : a.block ≠ b.block) (u v : Value) : (w.setCell a u).setCell b v = (w.setCell b v).setCell a u := by
  unfold World.setCell
  simp only [World.mk.injEq, and_true]
  apply Array.ext
  · simp
  · intro i h1 h2
    simp only [Array.getElem_modify]
    by_cases ha : a.block = i
    · by_cases hb : b.block = i
      · exact absurd (ha.trans hb.symm) h
      · simp [ha, hb]
    · by_cases hb : b.block = i
      · simp [ha, hb]
      · simp [ha, hb]
def AddE (B gs caps n : Nat) (W3 : World) (ts : List Tr) (w' : World) : Prop := ∃ F vs, StkM F B w' (.slice (some ⟨gs, 0, none⟩) (n + 1) caps) ts vs ∧ Below B W3 w'
theorem add_done {F : Nat → Prop} {B g gs cap caps n m : Nat} {W3 w' : World} {ts : List Tr} {x t : Tr} {vs us : List Value} {v u : Value} {Z : Obj} {z0 z1 z2 z3 : Value} (hS : StkM F B W3 (.slice (some ⟨gs, 0, none⟩) (n + 1) caps) (ts ++ [x]) vs) (hn : ts.length = n) (hm : x.kids.length = m) (hB : B ≤ W3.heap.size)
    (t0 : vs[n]? = some v) (u1 : us.length = x.kids.length) (u3 : ∀ (i : Nat) (t : Tr) (v : Value), x.kids[i]? = some t → us[i]? = some v → TL F W3 v t.kids) (hxt : TL F W3 u t.kids)
    (k1 : w'.ownsRow B 27 4 (.slice (some ⟨g, 0, none⟩) (m + 1) cap) (m + 1) (rowc x.kids us ++ [z0, z1, z2, z3])) (k2 : (W3.alloc Z).drew.grownBy w' v.ownBlock) (k3 : v.ownBlock = some g ∨ g = W3.heap.size + 1) (k4 : g < w'.heap.size) :
    AddE B gs caps n W3 (ts ++ [addKid x t]) (((((w'.setCell ⟨g, m * 4, none⟩ (.int .i64 (t.kind : Int))).setCell ⟨g, m * 4 + 1, none⟩ (.int .i64 (t.place : Int))).setCell ⟨g, m * 4 + 2, none⟩ (.string (str t.text))).setCell ⟨g, m * 4 + 3, none⟩ u).setCell ⟨gs, n * 4 + 3, none⟩ (.slice (some ⟨g, 0, none⟩) (m + 1) cap)) := by
  have hl : (ts ++ [x]).length = n + 1 := by simp [hn]
  have hS2 := (hS.alloc Z).drew
  have hS3 := hS2
  rw [← hl] at hS3
  have hx : (ts ++ [x])[n]? = some x := by rw [← hn]; simp
  have KZ : Kept (fun _ => False) W3 (W3.alloc Z).drew := ((Kept.refl _ W3).alloc Z).drew
  have hF : ∀ b, F b → b < W3.heap.size ∧ ¬ False := fun b hb => ⟨(hS.lies b hb).2, fun h => h⟩
  have o1 := ((k1.stored (m * 4) (.int .i64 (t.kind : Int))).1.stored (m * 4 + 1) (.int .i64 (t.place : Int))).1
  have o2 := ((o1.stored (m * 4 + 2) (.string (str t.text))).1.stored (m * 4 + 3) u).1
  rw [set4 _ m (by rw [← hm]; exact rowc_length u1)] at o2
  have K2 : Kept (fun b => b = g) w' ((((w'.setCell ⟨g, m * 4, none⟩ (.int .i64 (t.kind : Int))).setCell ⟨g, m * 4 + 1, none⟩ (.int .i64 (t.place : Int))).setCell ⟨g, m * 4 + 2, none⟩ (.string (str t.text))).setCell ⟨g, m * 4 + 3, none⟩ u) :=
    ((((Kept.refl (fun b => b = g) w').setCell (p := ⟨g, m * 4, none⟩) (fun _ => rfl) _).setCell (p := ⟨g, m * 4 + 1, none⟩) (fun _ => rfl) _).setCell (p := ⟨g, m * 4 + 2, none⟩) (fun _ => rfl) _).setCell (p := ⟨g, m * 4 + 3, none⟩) (fun _ => rfl) _
  subst hm
  have hd := hS3.add (H := W3.heap.size + 1) (x := t) (u := u) (us := us) hx t0 u1 (fun i t v a b => (u3 i t v a b).kept KZ hF) (hxt.kept KZ hF) k2 k3 (by simp) k4 o2 K2
  obtain ⟨h1, h2⟩ := hd
  have e : (ts ++ [x]).set n (addKid x t) = ts ++ [addKid x t] := by rw [← hn]; simp
  rw [e, hl] at h1
  have hgs := (hS.own.lt gs rfl).1
  have hg : B ≤ g := (k1.lt g rfl).1
  refine ⟨F, _, h1, ?_⟩
  refine (KZ.below hB (fun _ _ h => h)).trans (h2.below (by simp; omega) (fun b hb hh => ?_))
  rcases hh with rfl | hh | rfl
  · omega
  · rcases k3 with q | q
    · have : b = g := by rw [hh] at q; simpa using q
      omega
    · have hv := (hS.kids n x v hx t0).lt b hh
      omega
  · omega

theorem AddE.swap {B gs caps n n' m g : Nat} {W3 w' : World} {ts : List Tr} {a b c d e : Value} (h : AddE B gs caps n W3 ts (((((w'.setCell ⟨g, m, none⟩ a).setCell ⟨g, m + 1, none⟩ b).setCell ⟨g, m + 2, none⟩ c).setCell ⟨g, m + 3, none⟩ d).setCell ⟨gs, n', none⟩ e)) (hg : g ≠ gs) :
    AddE B gs caps n W3 ts (((((w'.setCell ⟨gs, n', none⟩ e).setCell ⟨g, m, none⟩ a).setCell ⟨g, m + 1, none⟩ b).setCell ⟨g, m + 2, none⟩ c).setCell ⟨g, m + 3, none⟩ d) := by
  rw [setCell_comm (a := ⟨gs, n', none⟩) (b := ⟨g, m, none⟩) _ (fun e => hg e.symm), setCell_comm (a := ⟨gs, n', none⟩) (b := ⟨g, m + 1, none⟩) _ (fun e => hg e.symm), setCell_comm (a := ⟨gs, n', none⟩) (b := ⟨g, m + 2, none⟩) _ (fun e => hg e.symm), setCell_comm (a := ⟨gs, n', none⟩) (b := ⟨g, m + 3, none⟩) _ (fun e => hg e.symm)]
  exact h
theorem AddE.took {B gs caps n : Nat} {w W3 w1 w' : World} {ts rs : List Tr} {e : Ending} (h : AddE B gs caps n W3 ts w1) (hp : rs.reverse = ts) (hBl : Below B w W3) (he : e = .returned (.slice (some ⟨gs, 0, none⟩) (n + 1) caps)) (hw : w' = w1) : TakeE B w rs e w' := by
  subst hw
  obtain ⟨F2, vs2, h1, h2⟩ := h
  exact ⟨F2, _, vs2, he, by rw [hp]; exact h1, hBl.trans h2⟩

end Go.Proofs.Ytchfhkfepghfjaa

namespace Go.Proofs.Ytchfhkfepghfjaa
open Go.RowKit

set_option maxHeartbeats 1600000 in
set_option maxRecDepth 1000000 in
theorem take_leaf (F : Nat → Prop) (B : Nat) (w : World) (sv : Value) (x : Tr) (r : List Tr) (vs : List Value) (tok : Tok) (h : StkM F B w sv (r.reverse ++ [x]) vs) (hB : B ≤ w.heap.size) (hlen : r.length ≤ 41) (hkl : x.kids.length ≤ 8192) (hk1 : tok.kind ≠ 1) (hk2 : tok.kind ≠ 2) :
    Calls Try.prog 10 #[sv, tkv tok] w (TakeE B w (put (x :: r) tok)) := by
  obtain ⟨gs, caps, rfl, hgb, hgl, hc1, hc2⟩ := h.shape (by simp)
  have hln : (r.reverse ++ [x]).length = r.length + 1 := by simp
  rw [hln] at h hc1 ⊢
  obtain ⟨kv, t0, t1, t2, t3, t4, t5, t6⟩ := h.top (by simp : r.reverse.length = r.length)
  have t6' := t6 (r.length * 4 + 3)
  have hp : (put (x :: r) tok).reverse = r.reverse ++ [addKid x (leaf tok)] := by simp [put, hk1, hk2]
  have ht1 : ((tok.kind : Int) == 1) = false := by rw [beq_eq_false_iff_ne]; omega
  have ht2 : ((tok.kind : Int) == 2) = false := by rw [beq_eq_false_iff_ne]; omega
  obtain ⟨ka, kc, rfl⟩ := t1.shape
  obtain ⟨us, u1, u2, u3⟩ := t1
  obtain ⟨tk, tp, tx⟩ := tok
  simp only at hk1 hk2 ht1 ht2
  unfold tkv
  clear hk1 hk2
  go_enter Try.func10, Try.ntmps10
  go_wp2
  have hS := (h.alloc (.cells #[.int .i64 (tk : Int), .int .i64 (tp : Int), .string (str tx)] 45)).alloc (.cells #[.int .i64 (tk : Int), .int .i64 (tp : Int), .string (str tx), .slice none 0 0] 27)
  have hBl : Below B w ((w.alloc (.cells #[.int .i64 (tk : Int), .int .i64 (tp : Int), .string (str tx)] 45)).alloc (.cells #[.int .i64 (tk : Int), .int .i64 (tp : Int), .string (str tx), .slice none 0 0] 27)) := (((Below.refl B w).alloc hB _).alloc (by simp; omega) _)
  have hsz : ((w.alloc (.cells #[.int .i64 (tk : Int), .int .i64 (tp : Int), .string (str tx)] 45)).alloc (.cells #[.int .i64 (tk : Int), .int .i64 (tp : Int), .string (str tx), .slice none 0 0] 27)).heap.size = w.heap.size + 2 := by simp
  have hc : ∀ j u, ([.int .i64 (tk : Int), .int .i64 (tp : Int), .string (str tx), .slice none 0 0] : List Value)[j]? = some u → ((w.alloc (.cells #[.int .i64 (tk : Int), .int .i64 (tp : Int), .string (str tx)] 45)).alloc (.cells #[.int .i64 (tk : Int), .int .i64 (tp : Int), .string (str tx), .slice none 0 0] 27)).cell? ⟨w.heap.size + 1, j, none⟩ = some u := fun j u hj => by
    have := cells_at (w.alloc (.cells #[.int .i64 (tk : Int), .int .i64 (tp : Int), .string (str tx)] 45)) _ 27 (g := w.heap.size + 1) (by simp) j u hj
    rwa [add_at] at this
  have hxt : TL F ((w.alloc (.cells #[.int .i64 (tk : Int), .int .i64 (tp : Int), .string (str tx)] 45)).alloc (.cells #[.int .i64 (tk : Int), .int .i64 (tp : Int), .string (str tx), .slice none 0 0] 27)) (.slice none 0 0) [] := TL.nil _ _
  have hvl : ∀ g, (Value.slice ka x.kids.length kc).ownBlock = some g → g < w.heap.size := fun g hg => (u2.lt g hg).2
  clear t2 t3 t4 t5 t6 t6' u2 u3 u1
  generalize hW3 : (w.alloc (.cells #[.int .i64 (tk : Int), .int .i64 (tp : Int), .string (str tx)] 45)).alloc (.cells #[.int .i64 (tk : Int), .int .i64 (tp : Int), .string (str tx), .slice none 0 0] 27) = W3 at *
  have hb1 : w.heap.size + 1 < W3.heap.size := by omega
  have hb2 : w.heap.size + 1 ≠ gs := by omega
  have hb3 : (Value.slice ka x.kids.length kc).ownBlock ≠ some (w.heap.size + 1) := fun e => by have := hvl _ e; omega
  generalize w.heap.size + 1 = b5 at *
  have c0 := hc 0 _ rfl
  have c1 := hc 1 _ rfl
  have c2 := hc 2 _ rfl
  have c3 := hc 3 _ rfl
  clear hc hvl
  obtain ⟨kv, t0', t1, t2, t3, t4, t5, t6⟩ := hS.top (by simp : r.reverse.length = r.length)
  rw [t0] at t0'
  cases t0'
  have t6' := t6 (r.length * 4 + 3)
  obtain ⟨us, u1, u2, u3⟩ := t1
  have hzB : B ≤ (W3.alloc (.cells #[.int .i64 0, .int .i64 0, .string ⟨#[]⟩, .slice none 0 0] 27)).drew.heap.size := by simp; omega
  have hO : (W3.alloc (.cells #[.int .i64 0, .int .i64 0, .string ⟨#[]⟩, .slice none 0 0] 27)).drew.ownsRow B 27 4 (.slice ka x.kids.length kc) x.kids.length (rowc x.kids us) := (u2.alloc _).drew
  have hi1 : (r.length : Int) < (r.length : Int) + 1 := by omega
  have hi2 : (x.kids.length : Int) < (x.kids.length : Int) + 1 := by omega
  have KZ : Kept (fun _ => False) W3 (W3.alloc (.cells #[.int .i64 0, .int .i64 0, .string ⟨#[]⟩, .slice none 0 0] 27)) := (Kept.refl _ W3).alloc _
  have d0 := KZ.cell c0 (fun h => h)
  have d1 := KZ.cell c1 (fun h => h)
  have d2 := KZ.cell c2 (fun h => h)
  have d3 := KZ.cell c3 (fun h => h)
  have d5 := KZ.cell t5 (fun h => h)
  have hsz1 : B ≤ W3.heap.size := by omega
  clear t2 t3 t4 t6 hW3 hsz KZ
  go_region_law (refine step_tree rfl (.tmp 40) (.tmp 43) rfl B (.slice ka x.kids.length kc) x.kids.length (rowc x.kids us) (by rfl) hO ⟨W3.heap.size, 0, none⟩ 1 [.int .i64 0, .int .i64 0, .string ⟨#[]⟩, .slice none 0 0] (by rfl) rfl (cells_new _ _ _) zone (by omega) hzB (W3.heap.size + 1) (by simp) ?_; intro g cap w' k1 k2 k3 k4; obtain ⟨f0, f1, f2, f3, f4, f5, e0, e1, e2, e3, q0, q1, q2, q3, g1, g2, g3, g4, g5⟩ := add_facts hS (rowc_length u1) t0 hb1 hb2 hb3 c0 c1 c2 c3 t5 t6' k1 k2 k3; have hD : AddE B gs caps r.length W3 (r.reverse ++ [addKid x (leaf ⟨tk, tp, tx⟩)]) (((((w'.setCell ⟨g, x.kids.length * 4, none⟩ (.int .i64 (tk : Int))).setCell ⟨g, x.kids.length * 4 + 1, none⟩ (.int .i64 (tp : Int))).setCell ⟨g, x.kids.length * 4 + 2, none⟩ (.string (str tx))).setCell ⟨g, x.kids.length * 4 + 3, none⟩ (.slice none 0 0)).setCell ⟨gs, r.length * 4 + 3, none⟩ (.slice (some ⟨g, 0, none⟩) (x.kids.length + 1) cap)) := add_done (t := leaf ⟨tk, tp, tx⟩) hS (by simp) rfl hsz1 t0 u1 u3 hxt k1 k2 k3 k4; have hD2 := hD.swap g1)
  all_goals (
    clear hO hzB hi1 hi2 d0 d1 d2 d3 d5 t5 t6' c0 c1 c2 c3 f0 f1 f2 f3 f4 f5 e0 e1 e2 e3 q0 q1 q2 q3 k1 k2 k3 k4 u2 u3 hS
    go_wp2
    go_ret
    first
      | (exact hD.took hp hBl rfl (by with_reducible rfl))
      | (exact hD2.took hp hBl rfl (by with_reducible rfl)))
end Go.Proofs.Ytchfhkfepghfjaa
