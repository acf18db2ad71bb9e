/-
  The stack of open brackets in memory: a bracket more, one that is shut, a tree more in the topmost.
-/
import Derived.Test.YtcjlifhehiolkaaGreatTreeMem
namespace Go.Proofs.YtcjlifhehiolkaaGreat
open Go.RowKit

/-- The stack, the lowest first: a row of the call's own whose trees have rows of Kids of the call's own, all apart; what is shut lies in F. -/
structure StkM (F : Nat → Prop) (B : Nat) (w : World) (sv : Value) (ts : List Tr) (vs : List Value) : Prop where
  len : vs.length = ts.length
  own : w.ownsRow B 34 4 sv ts.length (rowc ts vs)
  kids : ∀ (i : Nat) (t : Tr) (v : Value), ts[i]? = some t → vs[i]? = some v → OwnK 34 B F w v t.kids
  far : ∀ (i : Nat) (v : Value) (g : Nat), vs[i]? = some v → v.ownBlock = some g → ¬ F g ∧ sv.ownBlock ≠ some g
  apart : ∀ (i j : Nat) (v v' : Value) (g : Nat), vs[i]? = some v → vs[j]? = some v' → v.ownBlock = some g → v'.ownBlock = some g → i = j
  lies : ∀ g, F g → B ≤ g ∧ g < w.heap.size
  sfar : ∀ g, sv.ownBlock = some g → ¬ F g
theorem StkM.kept {F S : Nat → Prop} {B : Nat} {w w' : World} {sv : Value} {ts : List Tr} {vs : List Value} (h : StkM F B w sv ts vs) (k : Kept S w w') (hS : ∀ g, S g → w.heap.size ≤ g ∨ g < B) : StkM F B w' sv ts vs := by
  have hn : ∀ g, B ≤ g → g < w.heap.size → ¬ S g := fun g h1 h2 hs => by have := hS g hs; omega
  have hF : ∀ g, F g → g < w.heap.size ∧ ¬ S g := fun g hg => ⟨(h.lies g hg).2, hn g (h.lies g hg).1 (h.lies g hg).2⟩
  refine ⟨h.len, k.own h.own (fun g hg => hn g (h.own.lt g hg).1 (h.own.lt g hg).2), fun i t v ht hv => (h.kids i t v ht hv).kept k hF (fun g hg => hn g ((h.kids i t v ht hv).lt g hg).1 ((h.kids i t v ht hv).lt g hg).2), h.far, h.apart, fun g hg => ⟨(h.lies g hg).1, Nat.lt_of_lt_of_le (h.lies g hg).2 k.size⟩, h.sfar⟩
theorem StkM.alloc {F : Nat → Prop} {B : Nat} {w : World} {sv : Value} {ts : List Tr} {vs : List Value} (h : StkM F B w sv ts vs) (o : Obj) : StkM F B (w.alloc o) sv ts vs := h.kept ((Kept.refl (fun _ => False) w).alloc o) (fun _ h => h.elim)
theorem StkM.drew {F : Nat → Prop} {B : Nat} {w : World} {sv : Value} {ts : List Tr} {vs : List Value} (h : StkM F B w sv ts vs) : StkM F B w.drew sv ts vs := h.kept ((Kept.refl (fun _ => False) w).drew) (fun _ h => h.elim)
theorem StkM.shape {F : Nat → Prop} {B : Nat} {w : World} {sv : Value} {ts : List Tr} {vs : List Value} (h : StkM F B w sv ts vs) (hn : 0 < ts.length) : ∃ g cap, sv = .slice (some ⟨g, 0, none⟩) ts.length cap ∧ B ≤ g ∧ g < w.heap.size ∧ ts.length ≤ cap ∧ cap ≤ maxLen := by
  rcases h.own.2 with ⟨_, h0⟩ | ⟨g, cap, cur, hv, hb, hg, h1, h2, _⟩
  · omega
  · exact ⟨g, cap, hv, hb, (Array.getElem?_eq_some_iff.1 hg).1, h1, h2⟩
/-- The cells of one of them. -/
theorem StkM.cells {F : Nat → Prop} {B g cap : Nat} {w : World} {ts : List Tr} {vs : List Value} (h : StkM F B w (.slice (some ⟨g, 0, none⟩) ts.length cap) ts vs) {i : Nat} {t : Tr} (ht : ts[i]? = some t) : ∃ kv, vs[i]? = some kv ∧ OwnK 34 B F w kv t.kids ∧
    w.cell? ⟨g, i * 4, none⟩ = some (.int .i64 (t.kind : Int)) ∧ w.cell? ⟨g, i * 4 + 1, none⟩ = some (.int .i64 (t.place : Int)) ∧ w.cell? ⟨g, i * 4 + 2, none⟩ = some (.string (str t.text)) ∧ w.cell? ⟨g, i * 4 + 3, none⟩ = some kv ∧ ∀ j, w.frozen? ⟨g, j, none⟩ = false := by
  obtain ⟨hi, _⟩ := List.getElem?_eq_some_iff.1 ht
  have hl := h.len
  have hv : vs[i]? = some vs[i] := List.getElem?_eq_getElem (by omega)
  have hc : ∀ j, j < 4 → w.cell? ⟨g, i * 4 + j, none⟩ = (trc t vs[i])[j]? := fun j hj => by rw [h.own.cellAt _ (by omega), rowc_get ht hv hj]
  exact ⟨vs[i], hv, h.kids i t _ ht hv, hc 0 (by omega), hc 1 (by omega), hc 2 (by omega), hc 3 (by omega), fun j => h.own.frozenAt j⟩

/-- An open bracket more. -/
theorem StkM.push {F : Nat → Prop} {B H : Nat} {w w' : World} {sv sv' : Value} {ts : List Tr} {vs : List Value} {t : Tr} (h : StkM F B w sv ts vs) (ht : t.kids = []) (hown : w'.ownsRow B 34 4 sv' (ts.length + 1) (rowc ts vs ++ trc t (.slice none 0 0)))
    (hg : w.grownBy w' sv.ownBlock) (hat : sv'.ownBlock = sv.ownBlock ∨ sv'.ownBlock = some H) (hH : H = w.heap.size) : StkM F B w' sv' (ts ++ [t]) (vs ++ [.slice none 0 0]) := by
  have k : Kept (fun g => sv.ownBlock = some g) w w' := (Kept.refl _ w).grown hg (fun k e _ => e)
  have hF : ∀ g, F g → g < w.heap.size ∧ ¬ sv.ownBlock = some g := fun g hg => ⟨(h.lies g hg).2, fun e => h.sfar g e hg⟩
  have hl := h.len
  have get : ∀ (i : Nat) (v : Value), (vs ++ [.slice none 0 0])[i]? = some v → vs[i]? = some v ∨ (i = vs.length ∧ v = .slice none 0 0) := by
    intro i v hv
    rw [List.getElem?_append] at hv
    split at hv
    · exact .inl hv
    · right
      obtain ⟨hlt, e1⟩ := List.getElem?_eq_some_iff.1 hv
      simp at hlt e1
      exact ⟨by omega, e1.symm⟩
  have hs' : ∀ (i : Nat) (v : Value) (g : Nat), vs[i]? = some v → v.ownBlock = some g → sv'.ownBlock ≠ some g := by
    intro i v g hv hgv e
    rcases hat with q | q
    · exact (h.far i v g hv hgv).2 (by rw [← q]; exact e)
    · rw [q] at e
      simp at e
      have hil : i < ts.length := by have := (List.getElem?_eq_some_iff.1 hv).1; omega
      have ht' : ts[i]? = some ts[i] := List.getElem?_eq_getElem hil
      have := ((h.kids i _ v ht' hv).lt g hgv).2
      omega
  refine ⟨by simp [hl], ?_, fun i t' v ht' hv => ?_, fun i v g hv hgv => ?_, fun i j v v' g hv hv' h1 h2 => ?_, fun g hg => ⟨(h.lies g hg).1, Nat.lt_of_lt_of_le (h.lies g hg).2 k.size⟩, fun g hgs => ?_⟩
  · rw [rowc_append _ _ hl, rowc_one, List.length_append]
    exact hown
  · rcases get i v hv with hv1 | ⟨rfl, rfl⟩
    · have hi := (List.getElem?_eq_some_iff.1 hv1).1
      rw [List.getElem?_append_left (by omega)] at ht'
      exact (h.kids i t' v ht' hv1).kept k hF (fun g hg => fun e => (h.far i v g hv1 hg).2 e)
    · rw [List.getElem?_append_right (by omega), hl] at ht'
      simp at ht'
      subst ht'
      rw [ht]
      exact OwnK.nil _ _ _ _
  · rcases get i v hv with hv1 | ⟨_, rfl⟩
    · exact ⟨(h.far i v g hv1 hgv).1, hs' i v g hv1 hgv⟩
    · simp [Value.ownBlock] at hgv
  · rcases get i v hv with hv1 | ⟨_, rfl⟩
    · rcases get j v' hv' with hv2 | ⟨_, rfl⟩
      · exact h.apart i j v v' g hv1 hv2 h1 h2
      · simp [Value.ownBlock] at h2
    · simp [Value.ownBlock] at h1
  · rcases hat with q | q
    · exact h.sfar g (by rw [← q]; exact hgs)
    · rw [q] at hgs
      simp at hgs
      intro hf
      have := (h.lies g hf).2
      omega
/-- The topmost is shut: its Kids can be read from now on. -/
theorem StkM.pop {F : Nat → Prop} {B g cap : Nat} {w : World} {ts : List Tr} {x : Tr} {vs : List Value} {kv : Value} (h : StkM F B w (.slice (some ⟨g, 0, none⟩) (ts.length + 1) cap) (ts ++ [x]) (vs ++ [kv])) :
    StkM (fun b => F b ∨ kv.ownBlock = some b) B w (.slice (some ⟨g, 0, none⟩) ts.length cap) ts vs ∧ TL (fun b => F b ∨ kv.ownBlock = some b) w kv x.kids := by
  have hl : vs.length = ts.length := by have := h.len; simpa using this
  have hx : (ts ++ [x])[ts.length]? = some x := by simp
  have hv : (vs ++ [kv])[ts.length]? = some kv := by rw [← hl]; simp
  have hk := h.kids _ _ _ hx hv
  have up : ∀ (i : Nat) (v : Value), vs[i]? = some v → (vs ++ [kv])[i]? = some v ∧ i < ts.length := fun i v hv => by
    have := (List.getElem?_eq_some_iff.1 hv).1
    exact ⟨by rw [List.getElem?_append_left this]; exact hv, by omega⟩
  refine ⟨⟨hl, ?_, fun i t v ht hv' => ?_, fun i v b hv' hb => ?_, fun i j v v' b hv1 hv2 => h.apart i j v v' b (up i v hv1).1 (up j v' hv2).1, fun b hb => ?_, fun b hb => ?_⟩, hk.shut⟩
  · have := h.own
    rw [rowc_append _ _ hl, rowc_one] at this
    exact ownsRow_pop (rowc_length hl) (by simpa using this)
  · refine (h.kids i t v ?_ (up i v hv').1).mono (fun _ h => .inl h)
    rw [List.getElem?_append_left (up i v hv').2]
    exact ht
  · refine ⟨fun hh => ?_, (h.far i v b (up i v hv').1 hb).2⟩
    rcases hh with hh | hh
    · exact (h.far i v b (up i v hv').1 hb).1 hh
    · have := h.apart i ts.length v kv b (up i v hv').1 hv hb hh
      have := (up i v hv').2
      omega
  · rcases hb with hb | hb
    · exact h.lies b hb
    · exact hk.lt b hb
  · rintro (hh | hh)
    · exact h.sfar b hb hh
    · exact (h.far _ kv b hv hh).2 hb

theorem set4 (xs : List Value) (n : Nat) (hx : xs.length = n * 4) (z a b c d : Value) (y1 y2 y3 : Value) : ((((xs ++ [z, y1, y2, y3]).set (n * 4) a).set (n * 4 + 1) b).set (n * 4 + 2) c).set (n * 4 + 3) d = xs ++ [a, b, c, d] := by
  rw [List.set_append_right _ _ (by omega), List.set_append_right _ _ (by omega), List.set_append_right _ _ (by omega), List.set_append_right _ _ (by omega), hx, show n * 4 - n * 4 = 0 from by omega, show n * 4 + 1 - n * 4 = 1 from by omega, show n * 4 + 2 - n * 4 = 2 from by omega, show n * 4 + 3 - n * 4 = 3 from by omega]
  rfl
/-- A tree more among the Kids of one of them (the append, then the cells). -/
theorem StkM.add {F : Nat → Prop} {B H g gs cap caps : Nat} {w w' w2 : World} {ts : List Tr} {vs : List Value} {i : Nat} {t x : Tr} {v u : Value} {us : List Value} (h : StkM F B w (.slice (some ⟨gs, 0, none⟩) ts.length caps) ts vs) (ht : ts[i]? = some t) (hv : vs[i]? = some v)
    (hul : us.length = t.kids.length) (hu3 : ∀ (i : Nat) (t' : Tr) (v : Value), t.kids[i]? = some t' → us[i]? = some v → TL F w v t'.kids) (hx : TL F w u x.kids)
    (hgr : w.grownBy w' v.ownBlock) (hat : v.ownBlock = some g ∨ g = H) (hH : H = w.heap.size) (hlt : g < w'.heap.size)
    (hown : w2.ownsRow B 34 4 (.slice (some ⟨g, 0, none⟩) (t.kids.length + 1) cap) (t.kids.length + 1) (rowc t.kids us ++ trc x u)) (k2 : Kept (fun b => b = g) w' w2) :
    StkM F B (w2.setCell ⟨gs, i * 4 + 3, none⟩ (.slice (some ⟨g, 0, none⟩) (t.kids.length + 1) cap)) (.slice (some ⟨gs, 0, none⟩) ts.length caps) (ts.set i (addKid t x)) (vs.set i (.slice (some ⟨g, 0, none⟩) (t.kids.length + 1) cap)) ∧
    Kept (fun b => b = g ∨ v.ownBlock = some b ∨ b = gs) w (w2.setCell ⟨gs, i * 4 + 3, none⟩ (.slice (some ⟨g, 0, none⟩) (t.kids.length + 1) cap)) := by
  have hi := (List.getElem?_eq_some_iff.1 ht).1
  have hvi := (List.getElem?_eq_some_iff.1 hv).1
  have hkt := h.kids i t v ht hv
  have hgs := h.own.lt gs rfl
  have hg1 : g ≠ gs := by
    rcases hat with q | q
    · intro e; subst e; exact (h.far i v g hv q).2 rfl
    · omega
  have hgB : B ≤ g := (hown.lt g rfl).1
  have hgF : ¬ F g := by
    rcases hat with q | q
    · exact (h.far i v g hv q).1
    · intro hf; have := (h.lies g hf).2; omega
  have k1 : Kept (fun b => v.ownBlock = some b) w w' := (Kept.refl _ w).grown hgr (fun k e _ => e)
  have kk : Kept (fun b => b = g ∨ v.ownBlock = some b) w w2 := k1.trans k2 (fun _ _ h => .inr h) (fun _ _ h => .inl h)
  have hgs2 : w2.ownsRow B 34 4 (.slice (some ⟨gs, 0, none⟩) ts.length caps) ts.length (rowc ts vs) := kk.own h.own (fun b hb => by
    simp [Value.ownBlock] at hb
    subst hb
    rintro (e | e)
    · exact hg1 e.symm
    · exact (h.far i v gs hv e).2 rfl)
  have hF : ∀ b, F b → b < w.heap.size ∧ ¬ (b = g ∨ v.ownBlock = some b) := fun b hb => ⟨(h.lies b hb).2, fun e => by
    rcases e with rfl | e
    · exact hgF hb
    · exact (h.far i v b hv e).1 hb⟩
  have ks : Kept (fun b => b = gs) w2 (w2.setCell ⟨gs, i * 4 + 3, none⟩ (.slice (some ⟨g, 0, none⟩) (t.kids.length + 1) cap)) := (Kept.refl (fun b => b = gs) w2).setCell (p := ⟨gs, i * 4 + 3, none⟩) (fun _ => rfl) _
  have kall : Kept (fun b => b = g ∨ v.ownBlock = some b ∨ b = gs) w (w2.setCell ⟨gs, i * 4 + 3, none⟩ (.slice (some ⟨g, 0, none⟩) (t.kids.length + 1) cap)) := kk.trans ks (fun _ _ h => by rcases h with h | h; exact .inl h; exact .inr (.inl h)) (fun _ _ h => .inr (.inr h))
  have hFa : ∀ b, F b → b < w.heap.size ∧ ¬ (b = g ∨ v.ownBlock = some b ∨ b = gs) := fun b hb => ⟨(h.lies b hb).2, fun e => by
    rcases e with rfl | e | rfl
    · exact hgF hb
    · exact (h.far i v b hv e).1 hb
    · exact h.sfar b rfl hb⟩
  have get : ∀ (j : Nat) (v' : Value), (vs.set i (.slice (some ⟨g, 0, none⟩) (t.kids.length + 1) cap))[j]? = some v' → (j ≠ i ∧ vs[j]? = some v') ∨ (j = i ∧ v' = .slice (some ⟨g, 0, none⟩) (t.kids.length + 1) cap) := by
    intro j v' hj
    rw [List.getElem?_set] at hj
    split at hj
    · rename_i e
      subst e
      first | rw [if_pos hvi] at hj | skip
      cases hj
      exact .inr ⟨rfl, rfl⟩
    · rename_i e
      exact .inl ⟨fun e' => e e'.symm, hj⟩
  have off : ∀ (j : Nat) (v' : Value) (b : Nat), j ≠ i → vs[j]? = some v' → v'.ownBlock = some b → b ≠ g ∧ v.ownBlock ≠ some b ∧ b ≠ gs := by
    intro j v' b hj hv' hb
    have hjl : j < ts.length := by have := (List.getElem?_eq_some_iff.1 hv').1; have := h.len; omega
    have htj : ts[j]? = some ts[j] := List.getElem?_eq_getElem hjl
    have hlt' := ((h.kids j _ v' htj hv').lt b hb).2
    refine ⟨fun e => ?_, fun e => hj (h.apart j i v' v b hv' hv hb e), fun e => ?_⟩
    · subst e
      rcases hat with q | q
      · exact hj (h.apart j i v' v b hv' hv hb q)
      · omega
    · subst e
      exact (h.far j v' b hv' hb).2 rfl
  refine ⟨⟨by simp [h.len], ?_, fun j t' v' ht' hv' => ?_, fun j v' b hv' hb => ?_, fun j j' v' v'' b hv' hv'' hb hb' => ?_, fun b hb => ⟨(h.lies b hb).1, Nat.lt_of_lt_of_le (h.lies b hb).2 kall.size⟩, fun b hb => h.sfar b hb⟩, kall⟩
  · rw [List.length_set, ← rowc_set (addKid t x) _ h.len (fun t' ht' => by rw [ht] at ht'; cases ht'; exact ⟨rfl, rfl, rfl⟩)]
    exact (hgs2.stored (i * 4 + 3) _).1
  · rcases get j v' hv' with ⟨hj, hvj⟩ | ⟨rfl, rfl⟩
    · rw [List.getElem?_set_ne (fun e => hj e.symm)] at ht'
      exact (h.kids j t' v' ht' hvj).kept kall hFa (fun b hb e => by
        have := off j v' b hj hvj hb
        rcases e with e | e | e
        · exact this.1 e
        · exact this.2.1 e
        · exact this.2.2 e)
    · rw [List.getElem?_set_self hi] at ht'
      cases ht'
      refine ⟨us ++ [u], by simp [hul, addKid], ?_, fun j' t' v' ht' hv' => ?_⟩
      · have e : rowc (addKid t x).kids (us ++ [u]) = rowc t.kids us ++ trc x u := by
          show rowc (t.kids ++ [x]) (us ++ [u]) = _
          rw [rowc_append _ _ hul, rowc_one]
        rw [e, show (addKid t x).kids.length = t.kids.length + 1 from by simp [addKid]]
        exact ks.own hown (fun b hb => by simp [Value.ownBlock] at hb; omega)
      · refine TL.kept ?_ kall hFa
        simp only [addKid] at ht'
        rw [List.getElem?_append] at ht' hv'
        split at ht'
        · rw [if_pos (by omega)] at hv'
          exact hu3 j' t' v' ht' hv'
        · rw [if_neg (by omega), hul] at hv'
          obtain ⟨hlt', e1⟩ := List.getElem?_eq_some_iff.1 ht'
          have hz : j' - t.kids.length = 0 := by simp at hlt'; omega
          rw [hz] at ht' hv'
          simp at ht' hv'
          subst ht'
          subst hv'
          exact hx
  · rcases get j v' hv' with ⟨hj, hvj⟩ | ⟨rfl, rfl⟩
    · exact h.far j v' b hvj hb
    · simp [Value.ownBlock] at hb
      subst hb
      exact ⟨hgF, by simp [Value.ownBlock]; exact fun e => hg1 e.symm⟩
  · rcases get j v' hv' with ⟨hj, hvj⟩ | ⟨rfl, rfl⟩
    · rcases get j' v'' hv'' with ⟨hj', hvj'⟩ | ⟨rfl, rfl⟩
      · exact h.apart j j' v' v'' b hvj hvj' hb hb'
      · simp [Value.ownBlock] at hb'
        exact absurd hb'.symm (off j v' b hj hvj hb).1
    · rcases get j' v'' hv'' with ⟨hj', hvj'⟩ | ⟨rfl, rfl⟩
      · simp [Value.ownBlock] at hb
        exact absurd hb.symm (off j' v'' b hj' hvj' hb').1
      · rfl
end Go.Proofs.YtcjlifhehiolkaaGreat
