/-
  The book's Keep at bytes: a list more is kept, older ones may be let go.
-/
import Derived.Test.YtbheccioeiemfaaStays
import Derived.Deep.RegionLaw
import Derived.Deep.CutRange
namespace Go.Proofs.Ytbheccioeiemfaa
open Go.RowKit

def KeepE (w : World) (bb M n : Nat) (e : Ending) (w' : World) : Prop :=
  e = .returned (.tuple #[]) ∧ ∃ N' lv' wv' held' es', BookIs w' bb M N' lv' wv' held' es' ∧ es'.length ≤ n + 1 ∧ Kept (fun k => k = bb ∨ M ≤ k) w w'

theorem Try.info24' : (Try.prog.info? 24).map (fun i => (i.zero, i.size, i.bytes)) = some (some (.slice none 0 0), 1, 24) := by kernel_rfl
theorem Cols.shape3 {w : World} {v : Value} {vs : List Value} (h : Cols w v vs) : ∃ a n c, v = .slice a n c := by
  rcases h with ⟨rfl, _⟩ | ⟨g, off, cap, cur, rfl, _⟩
  · exact ⟨none, 0, 0, rfl⟩
  · exact ⟨_, _, _, rfl⟩

/-- The copy is made and kept. -/
def StageB (wC : World) (bb : Nat) (lv1 wv : Value) (held : Int) (ls ws : List Value) (l : List Nat) (wx : World) : Prop :=
  ∃ wv1 u gu, Box wx bb #[lv1, wv1, .int .i64 held, .bool false] ∧ Cols wx lv1 ls ∧ Cols wx wv1 (ws ++ [u]) ∧ Row wx gu u l ∧ (∀ x, u.ownBlock = some x → wC.heap.size ≤ x ∧ x < wx.heap.size ∧ wv1.ownBlock ≠ some x) ∧
    (wv1.ownBlock = wv.ownBlock ∨ ∃ y, wv1.ownBlock = some y ∧ wC.heap.size ≤ y ∧ y < wx.heap.size) ∧ Kept (fun k => k = bb ∨ wv.ownBlock = some k) wC wx

theorem stageB {wC wD wE : World} {bb : Nat} {lv1 wv wv1 u : Value} {held : Int} {ls ws : List Value} {l : List Nat} {gu : Nat} (hbx : Box wC bb #[lv1, wv, .int .i64 held, .bool false]) (hl1 : Cols wC lv1 ls) (hl1b : ∀ k, lv1.ownBlock = some k → k ≠ bb ∧ wv.ownBlock ≠ some k)
    (hwbb : ∀ k, wv.ownBlock = some k → k ≠ bb ∧ k < wC.heap.size) (hru : Row wD gu u l) (hatu : u.ownBlock = none ∨ u.ownBlock = some wC.heap.size) (hkD : Kept (fun _ => False) wC wD)
    (hcE : Cols wE wv1 (ws ++ [u])) (hatE : wv1.ownBlock = wv.ownBlock ∨ wv1.ownBlock = some (wD.alloc (.cells #[u] 24)).heap.size) (hgrE : (wD.alloc (.cells #[u] 24)).grownBy wE wv.ownBlock) : StageB wC bb lv1 wv held ls ws l (wE.setCell ⟨bb, 1, none⟩ wv1) := by
  have hbl := hbx.lt
  have hsD := hkD.size
  rw [show (wD.alloc (.cells #[u] 24)).heap.size = wD.heap.size + 1 by simp] at hatE
  have hDE : Kept (fun k => wv.ownBlock = some k) wD wE := ((Kept.refl _ wD).alloc _).grown hgrE (fun k e _ => e)
  have hCE : Kept (fun k => wv.ownBlock = some k) wC wE := hkD.trans hDE (fun _ _ h => h.elim) (fun _ _ h => h)
  have hsE := hDE.size
  have hbE := hbx.kept hCE (fun h => (hwbb bb h).1 rfl)
  have hk := kept_set wE bb 1 wv1
  have hux : ∀ x, u.ownBlock = some x → x = wC.heap.size ∧ x < wD.heap.size := by
    intro x hx
    rcases hatu with e | e
    · rw [e] at hx; simp at hx
    · have := hru.lt hx
      rw [e] at hx; simp at hx; omega
  refine ⟨wv1, u, gu, hbE.set 1 wv1, (hl1.kept hCE (fun k hk h => (hl1b k hk).2 h)).kept hk (fun k hk h => (hl1b k hk).1 h), hcE.kept hk (fun k hk h => ?_), (hru.kept hDE (fun e h => ?_)).kept hk (fun e h => ?_), fun x hx => ⟨?_, set_size ?_ _ _, fun e => ?_⟩, ?_, (hCE.mono (fun _ _ h => .inr h)).setCell (p := ⟨bb, 1, none⟩) (fun _ => .inl rfl) _⟩
  · rcases hatE with e | e
    · rw [e] at hk; exact (hwbb k hk).1 h
    · rw [e] at hk; simp at hk; omega
  · have := hux gu e
    have := (hwbb gu h).2
    omega
  · have := hux gu e
    omega
  · have := hux x hx
    omega
  · have := hux x hx
    omega
  · have h1 := hux x hx
    rcases hatE with h | h
    · rw [h] at e
      have := (hwbb x e).2
      omega
    · rw [h] at e; simp at e; omega
  · rcases hatE with e | e
    · exact .inl e
    · exact .inr ⟨_, e, by omega, set_size (hcE.lt e) _ _⟩

/-- A cell of the book's own block is set, and what it tells stays the book of some lists. -/
theorem BookIs.cut {w : World} {bb M N : Nat} {lv wv lv' wv' : Value} {held held' : Int} {es es' : List Ent} (h : BookIs w bb M N lv wv held es) (i : Nat) (x : Value) (hx : (#[lv, wv, .int .i64 held, .bool false] : Array Value).setIfInBounds i x = #[lv', wv', .int .i64 held', .bool false])
    (hl : Cols w lv' (es'.map (·.1))) (hw : Cols w wv' (es'.map (·.2.1))) (el : lv'.ownBlock = lv.ownBlock) (ew : wv'.ownBlock = wv.ownBlock) (hs : es'.Sublist es) : BookIs (w.setCell ⟨bb, i, none⟩ x) bb M N lv' wv' held' es' := by
  obtain ⟨h1, h2, h3, h4, h5, h6, h7, h8, h9⟩ := h
  have k := kept_set w bb i x
  have hbx := h1.set i x
  rw [hx] at hbx
  refine ⟨hbx, hl.kept k (fun i hi hs => ?_), hw.kept k (fun i hi hs => ?_), fun e he => ?_, h5, Nat.le_trans h6 k.size, by rw [el, ew]; exact h7, by rw [ew]; exact h8, h9.sublist hs⟩
  · rw [el] at hi
    have := h7 i hi
    omega
  · rw [ew] at hi
    have := h8 i hi
    omega
  · have := (h4 e (hs.subset he)).kept k (fun i hs => by omega)
    unfold EntOk at this ⊢
    rw [el, ew]
    exact this
theorem Cols.tail {w : World} {g off n cap : Nat} {v : Value} {vs : List Value} (h : Cols w (.slice (some ⟨g, off, none⟩) n cap) (v :: vs)) : Cols w (.slice (some ⟨g, off + 1, none⟩) (n - 1) (cap - 1)) vs := by
  rcases h with ⟨h, _⟩ | ⟨g', off', cap', cur, h, hg, hn, hc, hs, ht⟩
  · simp at h
  · simp at h
    obtain ⟨⟨rfl, rfl⟩, rfl, rfl⟩ := h
    simp at hn
    refine .inr ⟨g, off + 1, cap - 1, cur, by simp, hg, by omega, by omega, by omega, ?_⟩
    have e : ((cur.toList.drop off).take (v :: vs).length).drop 1 = vs := by rw [ht]; rfl
    rw [List.drop_take, List.drop_drop] at e
    simpa using e

/-- The first list is let go. -/
theorem BookIs.evict {w : World} {bb M N gl ol nl cl gw ow nw cw : Nat} {held : Int} {es : List Ent} (h : BookIs w bb M N (.slice (some ⟨gl, ol, none⟩) nl cl) (.slice (some ⟨gw, ow, none⟩) nw cw) held es) (hes : 0 < es.length) :
    BookIs ((w.setCell ⟨bb, 0, none⟩ (.slice (some ⟨gl, ol + 1, none⟩) (nl - 1) (cl - 1))).setCell ⟨bb, 1, none⟩ (.slice (some ⟨gw, ow + 1, none⟩) (nw - 1) (cw - 1))) bb M N (.slice (some ⟨gl, ol + 1, none⟩) (nl - 1) (cl - 1)) (.slice (some ⟨gw, ow + 1, none⟩) (nw - 1) (cw - 1)) held es.tail := by
  obtain ⟨e0, es, rfl⟩ : ∃ e r, es = e :: r := by
    cases es with
    | nil => simp at hes
    | cons e r => exact ⟨e, r, rfl⟩
  obtain ⟨h1, h2, h3, h4, h5, h6, h7, h8, h9⟩ := h
  have k : Kept (fun k => k = bb) w ((w.setCell ⟨bb, 0, none⟩ (.slice (some ⟨gl, ol + 1, none⟩) (nl - 1) (cl - 1))).setCell ⟨bb, 1, none⟩ (.slice (some ⟨gw, ow + 1, none⟩) (nw - 1) (cw - 1))) := (kept_set w bb 0 _).trans (kept_set _ bb 1 _) (fun _ _ h => h) (fun _ _ h => h)
  have hbx := (h1.set 0 (.slice (some ⟨gl, ol + 1, none⟩) (nl - 1) (cl - 1))).set 1 (.slice (some ⟨gw, ow + 1, none⟩) (nw - 1) (cw - 1))
  refine ⟨hbx, (Cols.tail h2).kept k (fun i hi hs => ?_), (Cols.tail h3).kept k (fun i hi hs => ?_), fun e he => (h4 e (List.mem_cons_of_mem _ he)).kept k (fun i hs => by omega), h5, Nat.le_trans h6 k.size, h7, h8, h9.of_cons⟩
  · have := h7 i hi
    omega
  · have := h8 i hi
    omega

/-- What is kept behind the first three rows. -/
theorem keep_join {w wC wx : World} {bb M N g : Nat} {lv wv lv1 v : Value} {held : Int} {es : List Ent} {l : List Nat} (hB : BookIs w bb M N lv wv held es) (hl : l.length ≤ 140737488355328) (hv : Row w g v l) (hfr : ∀ k, v.ownBlock = some k → M ≤ k ∧ N ≤ k) (hM : M ≤ w.heap.size)
    (hkC : Kept (fun k => k = bb ∨ lv.ownBlock = some k) w wC) (hatC : lv1.ownBlock = lv.ownBlock ∨ ∃ x, lv1.ownBlock = some x ∧ w.heap.size ≤ x ∧ x < wC.heap.size) (hS : StageB wC bb lv1 wv held (es.map (·.1) ++ [v]) (es.map (·.2.1)) l wx) :
    ∃ wv1 u, BookIs wx bb M wx.heap.size lv1 wv1 held (es ++ [(v, u, l)]) ∧ Kept (fun k => k = bb ∨ M ≤ k) w wx := by
  obtain ⟨wv1, u, gu, s1, s2, s3, s4, s5, s6, s7⟩ := hS
  obtain ⟨h1, h2, h3, h4, h5, h6, h7, h8, h9⟩ := hB
  have hk : Kept (fun k => k = bb ∨ lv.ownBlock = some k ∨ wv.ownBlock = some k) w wx := hkC.trans s7 (fun _ _ h => by rcases h with h | h; exact .inl h; exact .inr (.inl h)) (fun _ _ h => by rcases h with h | h; exact .inl h; exact .inr (.inr h))
  have hsz := hkC.size
  have hsz2 := s7.size
  have hL : ∀ k, lv1.ownBlock = some k → M ≤ k ∧ k < wC.heap.size ∧ (k < N ∨ w.heap.size ≤ k) ∧ wv.ownBlock ≠ some k := by
    intro k hk
    rcases hatC with e | ⟨x, e, e1, e2⟩
    · rw [e] at hk
      have := h7 k hk
      exact ⟨this.1, by omega, .inl this.2.1, this.2.2⟩
    · rw [e] at hk
      simp at hk
      subst hk
      refine ⟨by omega, e2, .inr e1, fun h => ?_⟩
      have := (h8 _ h).2
      omega
  have hW : ∀ k, wv1.ownBlock = some k → M ≤ k ∧ k < wx.heap.size ∧ (k < N ∧ wv.ownBlock = some k ∨ wC.heap.size ≤ k) := by
    intro k hk
    rcases s6 with e | ⟨x, e, e1, e2⟩
    · rw [e] at hk
      have := h8 k hk
      exact ⟨this.1, by omega, .inl ⟨this.2, hk⟩⟩
    · rw [e] at hk
      simp at hk
      subst hk
      exact ⟨by omega, e2, .inr e1⟩
  have hvlt : ∀ k, v.ownBlock = some k → k < w.heap.size := fun k hk => hv.lt hk
  refine ⟨wv1, u, ⟨s1, by simpa using s2, by simpa using s3, fun e he => ?_, h5, Nat.le_refl _, fun k hk => ?_, fun k hk => ⟨(hW k hk).1, (hW k hk).2.1⟩, ?_⟩, hk.mono (fun x hx h => ?_)⟩
  · rcases List.mem_append.1 he with he | he
    · obtain ⟨⟨g1, r1⟩, ⟨g2, r2⟩, r3, r4, r5⟩ := (h4 e he).kept hk (fun i hs => by
        rcases hs with h | h | h
        · left; omega
        · exact .inr (.inr (.inl h))
        · exact .inr (.inr (.inr h)))
      refine ⟨⟨g1, r1⟩, ⟨g2, r2⟩, r3, fun k hk => ?_, fun k hk => ?_⟩
      · have := r4 k hk
        refine ⟨this.1, by omega, fun h => ?_, fun h => ?_⟩
        · rcases hatC with q | ⟨x, q, q1, q2⟩
          · rw [q] at h; exact this.2.2.1 h
          · rw [q] at h; simp at h; omega
        · have q := (hW k h).2.2
          rcases q with q | q
          · exact this.2.2.2 q.2
          · omega
      · have := r5 k hk
        refine ⟨this.1, by omega, fun h => ?_, fun h => ?_⟩
        · rcases hatC with q | ⟨x, q, q1, q2⟩
          · rw [q] at h; exact this.2.2.1 h
          · rw [q] at h; simp at h; omega
        · have q := (hW k h).2.2
          rcases q with q | q
          · exact this.2.2.2 q.2
          · omega
    · simp at he
      subst he
      refine ⟨⟨g, hv.kept hk (fun e h => ?_)⟩, ⟨gu, s4⟩, hl, fun k hk => ?_, fun k hk => ?_⟩
      · have := hfr g e
        rcases h with h | h | h
        · omega
        · have := (h7 g h).2.1
          omega
        · have := (h8 g h).2
          omega
      · have q1 := hfr k hk
        have q2 := hvlt k hk
        refine ⟨q1.1, by omega, fun h => ?_, fun h => ?_⟩
        · have := (hL k h).2.2.1
          omega
        · have := (hW k h).2.2
          omega
      · have q1 := s5 k hk
        refine ⟨by omega, q1.2.1, fun h => ?_, q1.2.2⟩
        have := (hL k h).2.1
        omega
  · have q := hL k hk
    refine ⟨q.1, by omega, fun h => ?_⟩
    rcases (hW k h).2.2 with r | r
    · exact q.2.2.2 r.2
    · omega
  · refine List.pairwise_append.2 ⟨h9, by simp, fun a ha b hb k hk hkb => ?_⟩
    simp at hb
    subst hb
    have := (h4 a ha).2.2.2.1 k hk
    have := hfr k hkb
    omega
  · rcases h with h | h | h
    · exact .inl h
    · exact .inr (h7 x h).1
    · exact .inr (h8 x h).1

set_option maxHeartbeats 1600000 in
set_option maxRecDepth 1000000 in
theorem keep (w : World) (bb M N : Nat) (lv wv : Value) (held : Int) (es : List Ent) (hes : es.length ≤ 1000) (hB : BookIs w bb M N lv wv held es) (v : Value) (g : Nat) (l : List Nat) (hl : l.length ≤ 140737488355328) (hv : Row w g v l)
    (hfr : ∀ k, v.ownBlock = some k → M ≤ k ∧ N ≤ k) (hM : M ≤ w.heap.size) : Calls Try.prog 36 #[.pointer (some ⟨bb, 0, none⟩), v] w (KeepE w bb M es.length) := by
  obtain ⟨c0, c1, c2, c3, hf⟩ := hB.cells
  have hcl := hB.2.1
  have hcw := hB.2.2.1
  obtain ⟨va, vn, vc, hva⟩ := hv.shape3
  obtain ⟨la, ln, lc, hla⟩ := hcl.shape3
  obtain ⟨wa, wn, wc, hwa⟩ := hcw.shape3
  have f0 := hf 0
  have f1 := hf 1
  have f2 := hf 2
  have hA := (Kept.refl (fun _ => False) w).alloc (.cells #[v] 24)
  have hclA := hcl.kept hA (fun _ _ h => h)
  have hsA : Src Try.prog 1 60 (.slice (some ⟨w.heap.size, 0, none⟩) 1 1) 1 [v] (w.alloc (.cells #[v] 24)) := src_col Try.underlying60 v (by rw [hva]; rfl) 1 (heap_alloc_new w _)
  subst hva hla hwa
  go_enter Try.func36, Try.ntmps36
  go_wp2_with (refine wpList_append_col _ rfl (.tmp 8) (.tmp 10) rfl Try.underlying60 Try.info24' _ _ rfl hclA _ _ rfl hsA (by simp; omega) ?_)
  intro lv1 wB hcB hatB hgrB
  obtain ⟨l1a, l1n, l1c, hl1⟩ := hcB.shape3
  have hkB : Kept (fun k => (Value.slice la ln lc).ownBlock = some k) w wB := ((Kept.refl _ w).alloc _).grown hgrB (fun k e _ => e)
  have hlbb : ∀ k, (Value.slice la ln lc).ownBlock = some k → k ≠ bb := fun k e h => by have := (hB.2.2.2.2.2.2.1 k e).1; have := hB.2.2.2.2.1; omega
  have hwbb : ∀ k, (Value.slice wa wn wc).ownBlock = some k → k ≠ bb := fun k e h => by have := (hB.2.2.2.2.2.2.2.1 k e).1; have := hB.2.2.2.2.1; omega
  have hbbw := hB.1.lt
  have hbxB := hB.1.kept hkB (fun h => hlbb bb h rfl)
  have hbxC := hbxB.set 0 lv1
  have hl1C : Cols (wB.setCell ⟨bb, 0, none⟩ lv1) lv1 (es.map (·.1) ++ [.slice va vn vc]) := hcB.kept (kept_set wB bb 0 lv1) (fun k hk hs => by
    rcases hatB with e | e
    · rw [e] at hk; exact hlbb k hk hs
    · rw [e] at hk; simp at hk; omega)
  have hatC : lv1.ownBlock = (Value.slice la ln lc).ownBlock ∨ ∃ x, lv1.ownBlock = some x ∧ w.heap.size ≤ x ∧ x < (wB.setCell ⟨bb, 0, none⟩ lv1).heap.size := by
    rcases hatB with e | e
    · exact .inl e
    · exact .inr ⟨_, e, by simp, set_size (hcB.lt e) _ _⟩
  have hkC : Kept (fun k => k = bb ∨ (Value.slice la ln lc).ownBlock = some k) w (wB.setCell ⟨bb, 0, none⟩ lv1) := (hkB.mono (fun _ _ h => .inr h)).setCell (p := ⟨bb, 0, none⟩) (fun _ => .inl rfl) _
  have hd0 := hbxB.cell 0
  have hf0 := hbxB.frozen 0
  simp only [List.getElem?_toArray, List.getElem?_cons_zero] at hd0
  have hsetw : (#[Value.slice la ln lc, .slice wa wn wc, .int .i64 held, .bool false] : Array Value).setIfInBounds 0 lv1 = #[lv1, .slice wa wn wc, .int .i64 held, .bool false] := rfl
  rw [hsetw] at hbxC
  clear hsetw hbxB hatB hgrB hcB hclA hsA hA hkB c0 c1 c2 c3 f0 f1 f2 hf
  generalize hwC : wB.setCell ⟨bb, 0, none⟩ lv1 = wC at hbxC hl1C hatC hkC
  subst hl1
  go_wp2
  clear hwC hd0 hf0
  have hvC : Row wC g (.slice va vn vc) l := hv.kept hkC (fun e h => by
    have := hfr g e
    have := hB.2.2.2.2.1
    rcases h with h | h
    · omega
    · have := (hB.2.2.2.2.2.2.1 g h).2.1
      omega)
  have hcwC : Cols wC (.slice wa wn wc) (es.map (·.2.1)) := hcw.kept hkC (fun k hk h => by
    rcases h with h | h
    · exact hwbb k hk h
    · exact (hB.2.2.2.2.2.2.1 k h).2.2 hk)
  have d1 := hbxC.cell 1
  simp only [List.getElem?_toArray, List.getElem?_cons_succ, List.getElem?_cons_zero] at d1
  have hsrc : Src Try.prog 1 24 (.slice va vn vc) l.length (bs l) wC.drew := (hvC.rd.kept ((Kept.refl (fun _ => False) wC).drew) (fun h => h)).src Try.underlying24
  have hrow0 : Row wC.drew 0 (.slice none 0 0) [] := Row.nil _ _
  have hlen0 : ([] : List Nat).length + l.length ≤ 140737488355328 := by simpa using hl
  have hlen2 : (es.map (·.2.1)).length ≤ 1000000 := by simp; omega
  have hl1b : ∀ k, (Value.slice l1a l1n l1c).ownBlock = some k → k ≠ bb ∧ (Value.slice wa wn wc).ownBlock ≠ some k := by
    intro k hk
    rcases hatC with e | ⟨x, e, h1, h2⟩
    · rw [e] at hk
      exact ⟨hlbb k hk, (hB.2.2.2.2.2.2.1 k hk).2.2⟩
    · rw [e] at hk
      simp at hk
      subst hk
      refine ⟨by omega, fun h => ?_⟩
      have := (hB.2.2.2.2.2.2.2.1 _ h).2
      have := hB.2.2.2.2.2.1
      omega
  have hwb2 : ∀ k, (Value.slice wa wn wc).ownBlock = some k → k ≠ bb ∧ k < wC.heap.size := fun k hk => ⟨hwbb k hk, hcwC.lt hk⟩
  go_cut [] from 14 to 24 (fun wx => StageB wC bb (.slice l1a l1n l1c) (.slice wa wn wc) held (es.map (·.1) ++ [.slice va vn vc]) (es.map (·.2.1)) l wx)
  case first =>
    go_region_law (first
      | (refine step_append_row _ (by rfl) (.const (.slice none 0 0)) (.tmp 19) 24 24 (by rfl) Try.underlying24 Try.info5 _ _ [] (by rfl) hrow0 _ _ l (by rfl) hsrc hlen0 ?_; intro u wD gu hru hgu hatu hgru hnilu; obtain ⟨ua, un, uc, hu⟩ := hru.shape3; subst hu; have hkD : Kept (fun _ => False) wC wD := ((Kept.refl _ wC).drew).grown hgru (fun k hk => by simp [Value.ownBlock] at hk); have hkD2 := hkD.alloc (.cells #[.slice ua un uc] 24); have hcw2 := hcwC.kept hkD2 (fun _ _ h => h); have hs2 : Src Try.prog 1 60 (.slice (some ⟨wD.heap.size, 0, none⟩) 1 1) 1 [.slice ua un uc] (wD.alloc (.cells #[.slice ua un uc] 24)) := src_col Try.underlying60 _ rfl 1 (heap_alloc_new wD _); have d1D := hkD.cell d1 (fun h => h); have d1D2 := hkD2.cell d1 (fun h => h))
      | (refine step_append_col _ (by rfl) (.tmp 18) (.tmp 21) (by rfl) Try.underlying60 Try.info24' _ _ (by rfl) hcw2 _ _ (by rfl) hs2 hlen2 ?_; intro wv1 wE hcE hatE hgrE; obtain ⟨w1a, w1n, w1c, hw1⟩ := hcE.shape3; subst hw1; have hkE : Kept (fun k => (Value.slice wa wn wc).ownBlock = some k) wC wE := (hkD2.mono (fun _ _ h => h.elim)).grown hgrE (fun k e _ => e); have d1E := hkE.cell d1 (fun h => hwbb bb h rfl); have f1E := (hbxC.kept hkE (fun h => hwbb bb h rfl)).frozen 1; have hSB := stageB hbxC hl1C hl1b hwb2 hru hatu hkD hcE hatE hgrE))
    all_goals (go_wp2_with fail; go_meet; exact hSB)
  case rest =>
    obtain ⟨wv1, u, hb1, hk1⟩ := keep_join hB hl hv hfr hM hkC hatC hcut
    clear hB hl hv hfr hM hkC hatC hcut hbxC hl1C hl1b hwb2 hlbb hwbb hbbw hcl hcw hvC hcwC d1 hsrc hrow0 hlen0 hlen2
    obtain ⟨c0, c1, c2, c3, hf⟩ := hb1.cells
    have f2 := hf 2
    clear hf
    have hb2 : ∀ held', BookIs (wc.setCell ⟨bb, 2, none⟩ (.int .i64 held')) bb M wc.heap.size (.slice l1a l1n l1c) wv1 held' (es ++ [(.slice va vn vc, u, l)]) := fun held' => hb1.cut 2 _ rfl hb1.2.1 hb1.2.2.1 rfl rfl (List.Sublist.refl _)
    have hk2 : ∀ held' : Int, Kept (fun k => k = bb ∨ M ≤ k) w (wc.setCell ⟨bb, 2, none⟩ (.int .i64 held')) := fun held' => hk1.setCell (p := ⟨bb, 2, none⟩) (fun _ => .inl rfl) _
    clear hb1 hk1
    go_wp2
    clear c0 c1 c2 c3 f2
    go_loopg [] (es.length + 1) (fun gk wr => ∃ N' lv' wv' held' es', gk = es'.length ∧ BookIs wr bb M N' lv' wv' held' es' ∧ es'.length ≤ es.length + 1 ∧ Kept (fun k => k = bb ∨ M ≤ k) w wr)
    case atStart => exact ⟨_, _, _, _, _, by simp, hb2 _, by simp, hk2 _⟩
    case round =>
      obtain ⟨N', lv', wv', held', es', hgk, hb, hle, hK⟩ := hrel
      clear hb2 hk2
      obtain ⟨c0, c1, c2, c3, hf⟩ := hb.cells
      by_cases hc1 : 1 < es'.length
      · by_cases hc2 : 1000000 < held'
        · have h0 : 0 < es'.length := by omega
          obtain ⟨gl, ol, cl, gw, ow, cw, rfl, rfl, hcl1, hcl2, hcw1, hcw2, d1, d2, hgl, hgw⟩ := hb.at 0 h0
          have hS := hb.same 0 h0
          obtain ⟨⟨x1, y1, z1, h1⟩, ⟨x2, y2, z2, h2⟩⟩ := hb.shapes 0 h0
          rw [h1, h2] at hS
          rw [h1] at d1
          rw [h2] at d2
          clear h1 h2
          rw [Nat.add_zero] at d1 d2
          have hS0 : Calls Try.prog 44 #[.slice x1 y1 z1, .slice x2 y2 z2] wr.drew (SameQ wr.drew) := hS 1
          clear hS
          have hcm1 : cl ≤ 9223372036854775807 := hcl2
          have hcm2 : cw ≤ 9223372036854775807 := hcw2
          have hbD : ∀ n, BookIs ((wr.drewN n).setCell ⟨bb, 3, none⟩ (.bool false)) bb M N' (.slice (some ⟨gl, ol, none⟩) es'.length cl) (.slice (some ⟨gw, ow, none⟩) es'.length cw) held' es' := fun n => (hb.kept (kept_drewN wr n) (fun _ h => h.elim)).bad
          have hKD : ∀ n, Kept (fun k => k = bb) wr ((wr.drewN n).setCell ⟨bb, 3, none⟩ (.bool false)) := fun n => (kept_drewN wr n).trans (kept_set _ bb 3 _) (fun _ _ h => h.elim) (fun _ _ h => h)
          have hSet : ∀ n, ((wr.drewN n).setCell ⟨bb, 3, none⟩ (.bool false)).cell? ⟨bb, 0, none⟩ = some (.slice (some ⟨gl, ol, none⟩) es'.length cl) ∧ ((wr.drewN n).setCell ⟨bb, 3, none⟩ (.bool false)).cell? ⟨bb, 1, none⟩ = some (.slice (some ⟨gw, ow, none⟩) es'.length cw) ∧ ((wr.drewN n).setCell ⟨bb, 3, none⟩ (.bool false)).cell? ⟨bb, 3, none⟩ = some (.bool false) ∧ ((wr.drewN n).setCell ⟨bb, 3, none⟩ (.bool false)).cell? ⟨gl, ol, none⟩ = some (.slice x1 y1 z1) ∧ ((wr.drewN n).setCell ⟨bb, 3, none⟩ (.bool false)).cell? ⟨gw, ow, none⟩ = some (.slice x2 y2 z2) :=
            fun n => ⟨(hbD n).cells.1, (hbD n).cells.2.1, (hbD n).cells.2.2.2.1, (hKD n).cell d1 hgl, (hKD n).cell d2 hgw⟩
          have f3 := hf 3
          go_wp2
          go_region_held3 (fun u => u.cell? ⟨bb, 0, none⟩ = some (.slice (some ⟨gl, ol, none⟩) es'.length cl) ∧ u.cell? ⟨bb, 1, none⟩ = some (.slice (some ⟨gw, ow, none⟩) es'.length cw) ∧ u.cell? ⟨bb, 3, none⟩ = some (.bool false) ∧ u.cell? ⟨gl, ol, none⟩ = some (.slice x1 y1 z1) ∧ u.cell? ⟨gw, ow, none⟩ = some (.slice x2 y2 z2)) (first | go_keep | exact hSet _ | exact ⟨by assumption, by assumption, by assumption, by assumption, by assumption⟩) ((go_at_call 44; refine hS0.mono ?_; rintro e wa ⟨rfl, na, rfl⟩))
          clear hS0
          have hb4 := hbD (1 + na)
          have hK4 := hK.trans (hKD (1 + na)) (U := fun k => k = bb ∨ M ≤ k) (fun _ _ h => h) (fun _ _ h => .inl h)
          have d1' := (hSet (1 + na)).2.2.2.1
          clear hbD hKD hSet hb hK c0 c1 c2 c3 d1 d2 f3 hf
          generalize (wr.drewN (1 + na)).setCell ⟨bb, 3, none⟩ (.bool false) = w4 at hb4 hK4 d1'
          obtain ⟨c0, c1, c2, c3, hf⟩ := hb4.cells
          have f2 := hf 2
          go_wp2
          go_cut [] from 36 to 111 (fun wx => ∃ h5, BookIs wx bb M N' (.slice (some ⟨gl, ol, none⟩) es'.length cl) (.slice (some ⟨gw, ow, none⟩) es'.length cw) h5 es' ∧ Kept (fun k => k = bb ∨ M ≤ k) w wx)
          case first =>
            have hb5 : ∀ n held', BookIs ((w4.drewN n).setCell ⟨bb, 2, none⟩ (.int .i64 held')) bb M N' (.slice (some ⟨gl, ol, none⟩) es'.length cl) (.slice (some ⟨gw, ow, none⟩) es'.length cw) held' es' := fun n held' => (hb4.kept (kept_drewN w4 n) (fun _ h => h.elim)).cut 2 _ rfl hb4.2.1 hb4.2.2.1 rfl rfl (List.Sublist.refl _)
            have hK5 : ∀ n (held' : Int), Kept (fun k => k = bb ∨ M ≤ k) w ((w4.drewN n).setCell ⟨bb, 2, none⟩ (.int .i64 held')) := fun n held' => (hK4.trans (kept_drewN w4 n) (U := fun k => k = bb ∨ M ≤ k) (fun _ _ h => h) (fun _ _ h => h.elim)).setCell (p := ⟨bb, 2, none⟩) (fun _ => .inl rfl) _
            clear hb4 hK4 hf c1 c3
            go_region
            all_goals (go_wp2_with fail; go_meet; exact ⟨_, hb5 1 _, hK5 1 _⟩)
          case rest =>
            obtain ⟨h5, hb5, hK5⟩ := hcut
            clear hb4 hK4 c0 c1 c2 c3 hf f2
            obtain ⟨c0, c1, c2, c3, hf⟩ := hb5.cells
            have f0 := hf 0
            have f1 := hf 1
            have hb6 := hb5.evict h0
            have hK6 := (hK5.setCell (p := ⟨bb, 0, none⟩) (fun _ => .inl rfl) (.slice (some ⟨gl, ol + 1, none⟩) (es'.length - 1) (cl - 1))).setCell (p := ⟨bb, 1, none⟩) (fun _ => .inl rfl) (.slice (some ⟨gw, ow + 1, none⟩) (es'.length - 1) (cw - 1))
            clear hb5 hK5 hf
            go_wp2
            go_roundg (es'.length - 1)
            case measure => omega
            case rel => exact ⟨_, _, _, _, _, by simp, hb6, by simp; omega, hK6⟩
        · obtain ⟨a, c, rfl⟩ := hb.len
          go_wp2
          go_end0
          exact ⟨rfl, _, _, _, _, _, hb, hle, hK⟩
      · obtain ⟨a, c, rfl⟩ := hb.len
        go_wp2
        go_end0
        exact ⟨rfl, _, _, _, _, _, hb, hle, hK⟩

end Go.Proofs.Ytbheccioeiemfaa
