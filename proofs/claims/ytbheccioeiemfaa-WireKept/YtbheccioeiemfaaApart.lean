/-
  The book's Apart at bytes: it answers true where no two lists share a block.
-/
import Derived.Test.YtbheccioeiemfaaMark
import Derived.BigQuiet
namespace Go.Proofs.Ytbheccioeiemfaa
open Go.RowKit

/-- The room of a list: its cells, as many as it has room for. -/
def Area (w : World) (v : Value) (cap : Nat) : Prop :=
  cap ≤ maxLen ∧ ∃ a n, v = .slice a n cap ∧ n ≤ cap ∧ ((a = none ∧ cap = 0) ∨ ∃ g cur, a = some ⟨g, 0, none⟩ ∧ w.heap[g]? = some (.cells cur 5 (0, 0)) ∧ cur.size = cap)
/-- It holds the marks of number i, up to place m. -/
def Marked (w : World) (i m : Nat) (v : Value) : Prop :=
  ∀ g n cap, v = .slice (some ⟨g, 0, none⟩) n cap → ∀ j, j < cap → j < m → w.cell? ⟨g, j, none⟩ = some (.int .u8 (mk i j))

theorem Area.lt {w : World} {v : Value} {c k : Nat} (h : Area w v c) (hk : v.ownBlock = some k) : k < w.heap.size := by
  obtain ⟨hc, a, n, rfl, hn, h⟩ := h
  rcases h with ⟨rfl, _⟩ | ⟨g, cur, rfl, hg, hs⟩
  · simp [Value.ownBlock] at hk
  · simp [Value.ownBlock] at hk
    subst hk
    exact (Array.getElem?_eq_some_iff.1 hg).1
theorem Area.of_block {w w' : World} {v : Value} {c : Nat} (h : Area w v c) (e : ∀ k, v.ownBlock = some k → w'.heap[k]? = w.heap[k]?) : Area w' v c := by
  obtain ⟨hc, a, n, rfl, hn, h⟩ := h
  refine ⟨hc, a, n, rfl, hn, ?_⟩
  rcases h with h | ⟨g, cur, rfl, hg, hs⟩
  · exact .inl h
  · exact .inr ⟨g, cur, rfl, (e g rfl).trans hg, hs⟩
theorem Marked.of_block {w w' : World} {i m : Nat} {v : Value} (h : Marked w i m v) (e : ∀ k, v.ownBlock = some k → w'.heap[k]? = w.heap[k]?) : Marked w' i m v := by
  intro g n cap hv j hj hm
  rw [World.cell?_of_block (a := ⟨g, j, none⟩) (e g (by rw [hv]; rfl))]
  exact h g n cap hv j hj hm
theorem Row.area {w : World} {g : Nat} {v : Value} {l : List Nat} (h : Row w g v l) : ∃ c, Area w v c := by
  rcases h.1.2 with ⟨rfl, hn⟩ | ⟨g', cap, cur, rfl, hb, hgg, h1, h2, h3, h4⟩
  · exact ⟨0, by simp [maxLen], none, 0, rfl, Nat.le_refl _, .inl ⟨rfl, rfl⟩⟩
  · exact ⟨cap, h2, _, _, rfl, h1, .inr ⟨g', cur, rfl, hgg, by omega⟩⟩

/-- Midway: the first k lists hold their marks. -/
def Ap (w : World) (bb M : Nat) (lv wv : Value) (held : Int) (es : List Ent) (k : Nat) : Prop :=
  Box w bb #[lv, wv, .int .i64 held, .bool false] ∧ Cols w lv (es.map (·.1)) ∧ (∀ e ∈ es, ∃ c, Area w e.1 c) ∧ (∀ j (hj : j < es.length), j < k → Marked w j maxLen es[j].1) ∧ (∀ i, lv.ownBlock = some i → M ≤ i) ∧ bb < M ∧
    (∀ e ∈ es, ∀ i, e.1.ownBlock = some i → M ≤ i ∧ lv.ownBlock ≠ some i) ∧ es.Pairwise (fun a b => ∀ k, a.1.ownBlock = some k → b.1.ownBlock ≠ some k)

theorem BookIs.ap {w : World} {bb M N : Nat} {lv wv : Value} {held : Int} {es : List Ent} (h : BookIs w bb M N lv wv held es) : Ap w bb M lv wv held es 0 := by
  obtain ⟨h1, h2, h3, h4, h5, h6, h7, h8, h9⟩ := h
  refine ⟨h1, h2, fun e he => ?_, fun j _ hj => by omega, fun i hi => (h7 i hi).1, h5, fun e he i hi => ?_, h9⟩
  · obtain ⟨⟨g, hg⟩, _⟩ := h4 e he
    exact hg.area
  · have := (h4 e he).2.2.2.1 i hi
    exact ⟨this.1, this.2.2.1⟩
theorem Ap.heap {w w' : World} {bb M : Nat} {lv wv : Value} {held : Int} {es : List Ent} {k : Nat} (h : Ap w bb M lv wv held es k) (e : w'.heap = w.heap) : Ap w' bb M lv wv held es k := by
  obtain ⟨h1, h2, h3, h4, h5, h6, h7, h8⟩ := h
  refine ⟨h1.of_block (by rw [e]), h2.of_block (fun _ _ => by rw [e]), fun x hx => ?_, fun j hj hjk => (h4 j hj hjk).of_block (fun _ _ => by rw [e]), h5, h6, h7, h8⟩
  obtain ⟨c, hc⟩ := h3 x hx
  exact ⟨c, hc.of_block (fun _ _ => by rw [e])⟩
/-- One list more holds its marks. -/
theorem Ap.step {w w' : World} {bb M : Nat} {lv wv : Value} {held : Int} {es : List Ent} {k c : Nat} (h : Ap w bb M lv wv held es k) (hk : k < es.length) (kk : Kept (fun y => es[k].1.ownBlock = some y) w w') (ha : Area w' es[k].1 c) (hm : Marked w' k maxLen es[k].1) : Ap w' bb M lv wv held es (k + 1) := by
  obtain ⟨h1, h2, h3, h4, h5, h6, h7, h8⟩ := h
  have hx : ∀ j (hj : j < es.length), j ≠ k → ∀ i, es[j].1.ownBlock = some i → w'.heap[i]? = w.heap[i]? := by
    intro j hj hjk i hi
    obtain ⟨cj, hcj⟩ := h3 es[j] (List.getElem_mem _)
    refine kk.block i (hcj.lt hi) fun he => ?_
    rcases Nat.lt_or_gt_of_ne hjk with h | h
    · exact (List.pairwise_iff_getElem.1 h8 j k hj hk h) i hi he
    · exact (List.pairwise_iff_getElem.1 h8 k j hk hj h) i he hi
  refine ⟨h1.kept kk (fun he => ?_), h2.kept kk (fun i hi he => ?_), fun x hxm => ?_, fun j hj hjk => ?_, h5, h6, h7, h8⟩
  · have := (h7 es[k] (List.getElem_mem _) bb he).1
    omega
  · exact (h7 es[k] (List.getElem_mem _) i he).2 hi
  · obtain ⟨j, hj, rfl⟩ := List.getElem_of_mem hxm
    by_cases hjk : j = k
    · subst hjk
      exact ⟨c, ha⟩
    · obtain ⟨cj, hcj⟩ := h3 es[j] (List.getElem_mem _)
      exact ⟨cj, hcj.of_block (hx j hj hjk)⟩
  · by_cases e : j = k
    · subst e
      exact hm
    · exact (h4 j hj (by omega)).of_block (hx j hj e)
theorem Ap.at {w : World} {bb M : Nat} {lv wv : Value} {held : Int} {es : List Ent} {k : Nat} (h : Ap w bb M lv wv held es k) (j : Nat) (hj : j < es.length) :
    ∃ gl ol cl, lv = .slice (some ⟨gl, ol, none⟩) es.length cl ∧ es.length ≤ cl ∧ cl ≤ maxLen ∧ w.cell? ⟨gl, ol + j, none⟩ = some es[j].1 := by
  obtain ⟨h1, h2, _⟩ := h
  rcases h2 with ⟨_, h⟩ | ⟨gl, ol, cl, cur, rfl, hg, hn, hc, hs, ht⟩
  · simp at h; subst h; simp at hj
  have e1 := Cols.cell (.inr ⟨gl, ol, cl, cur, rfl, hg, hn, hc, hs, ht⟩) j (by simpa using hj)
  simp only [List.length_map, List.getElem_map] at *
  exact ⟨gl, ol, cl, rfl, hn, hc, e1⟩
theorem Ap.len {w : World} {bb M : Nat} {lv wv : Value} {held : Int} {es : List Ent} {k : Nat} (h : Ap w bb M lv wv held es k) : ∃ a c, lv = .slice a es.length c := by
  obtain ⟨h1, h2, _⟩ := h
  rcases h2 with ⟨rfl, h⟩ | ⟨gl, ol, cl, cur, rfl, hg, hn, hc, hs, ht⟩
  · simp at h; subst h; exact ⟨none, 0, rfl⟩
  · exact ⟨some ⟨gl, ol, none⟩, cl, by simp⟩
theorem Ap.cells {w : World} {bb M : Nat} {lv wv : Value} {held : Int} {es : List Ent} {k : Nat} (h : Ap w bb M lv wv held es k) : w.cell? ⟨bb, 0, none⟩ = some lv ∧ w.cell? ⟨bb, 1, none⟩ = some wv ∧ w.cell? ⟨bb, 2, none⟩ = some (.int .i64 held) ∧ ∀ i, w.frozen? ⟨bb, i, none⟩ = false :=
  ⟨h.1.cell 0, h.1.cell 1, h.1.cell 2, fun i => h.1.frozen i⟩
/-- One mark more. -/
theorem Area.mark {w : World} {v : Value} {a : Option Addr} {n c j i : Nat} (h : Area w v c) (hv : v = .slice a n c) (hj : j < c) (hm : Marked w i j v) : ∃ g u, a = some ⟨g, 0, none⟩ ∧ w.cell? ⟨g, j, none⟩ = some u ∧ w.frozen? ⟨g, j, none⟩ = false ∧
    Area (w.setCell ⟨g, j, none⟩ (.int .u8 (mk i j))) v c ∧ Marked (w.setCell ⟨g, j, none⟩ (.int .u8 (mk i j))) i (j + 1) v := by
  subst hv
  obtain ⟨hc, a', n', e, hn, h⟩ := h
  simp at e
  obtain ⟨rfl, rfl⟩ := e
  rcases h with ⟨rfl, h0⟩ | ⟨g, cur, rfl, hg, hs⟩
  · omega
  · have hh : (w.setCell ⟨g, j, none⟩ (.int .u8 (mk i j))).heap[g]? = some (.cells (cur.setIfInBounds j (.int .u8 (mk i j))) 5 (0, 0)) := by simp [World.setCell, Array.getElem?_modify, hg]
    refine ⟨g, cur[j]'(by omega), rfl, by rw [cell_of_row w g _ cur 5 (0, 0) hg, Array.getElem?_eq_getElem (by omega)], frozen_of_row w g _ cur 5 hg, ⟨hc, _, _, rfl, hn, .inr ⟨g, _, rfl, hh, by simpa using hs⟩⟩, ?_⟩
    intro g' n' cap' e x hx hxj
    simp at e
    obtain ⟨rfl, rfl, rfl⟩ := e
    rw [cell_of_row _ g _ _ 5 (0, 0) hh, Array.getElem?_setIfInBounds]
    by_cases hxe : j = x
    · subst hxe
      rw [if_pos rfl, if_pos (by omega)]
    · rw [if_neg hxe]
      have := hm g _ _ rfl x hx (by omega)
      rw [cell_of_row w g _ cur 5 (0, 0) hg] at this
      exact this

def ApartE (w : World) (bb M : Nat) (e : Ending) (w' : World) : Prop := e = .returned (.bool true) ∧ Kept (fun k => k = bb ∨ M ≤ k) w w'

set_option maxHeartbeats 1600000 in
set_option maxRecDepth 1000000 in
theorem apart (w : World) (bb M N : Nat) (lv wv : Value) (held : Int) (es : List Ent) (hes : es.length ≤ 100000) (hB : BookIs w bb M N lv wv held es) : Calls Try.prog 37 #[.pointer (some ⟨bb, 0, none⟩), .func (.func 38) #[] #[]] w (ApartE w bb M) := by
  go_enter Try.func37, Try.ntmps37
  go_wp2_with fail
  refine (stays w bb M N lv wv held es (by omega) hB).mono ?_
  rintro e w0 ⟨rfl, hb0, hk0⟩
  have hA0 := hb0.ap
  have hK0 : Kept (fun k => k = bb ∨ M ≤ k) w w0 := hk0.mono (fun _ _ h => .inl h)
  clear hB hb0 hk0
  go_wp2
  go_loopg [5, 6, 7] es.length (fun gk i _ _ wr => ∃ k : Nat, gk + k = es.length ∧ i = .int .i64 k ∧ Ap wr bb M lv wv held es k ∧ Kept (fun k => k = bb ∨ M ≤ k) w wr)
  case atStart => exact ⟨0, rfl, rfl, hA0, hK0⟩
  case round =>
    obtain ⟨k, hgk, rfl, hA, hK⟩ := hrel
    clear hA0 hK0
    obtain ⟨c0, c1, c2, hf⟩ := hA.cells
    by_cases hlt : k < es.length
    · obtain ⟨gl, ol, cl, rfl, _, _, d1⟩ := hA.at k hlt
      obtain ⟨cap, hArea⟩ := hA.2.2.1 es[k] (List.getElem_mem _)
      obtain ⟨hcm, a, n, hsh, hnc, _⟩ := id hArea
      rw [hsh] at d1
      have hcm' : cap ≤ 9223372036854775807 := hcm
      go_wp2
      go_quiet (fail)
      have hA1 : Ap (wr.drewN nq) bb M (.slice (some ⟨gl, ol, none⟩) es.length cl) wv held es k := hA.heap rfl
      have hArea1 : Area (wr.drewN nq) es[k].1 cap := hArea.of_block (fun _ _ => rfl)
      have hK1 := hK.trans (kept_drewN wr nq) (U := fun k => k = bb ∨ M ≤ k) (fun _ _ h => h) (fun _ _ h => h.elim)
      have hM1 : Marked (wr.drewN nq) k 0 es[k].1 := fun _ _ _ _ j _ hj => by omega
      generalize wr.drewN nq = w1 at hA1 hArea1 hK1 hM1
      clear hA hArea hK c0 c1 c2 hf d1
      go_wp2
      go_loopg [7] cap (fun gj i wr => ∃ j : Nat, gj + j = cap ∧ i = .int .i64 j ∧ Area wr es[k].1 cap ∧ Marked wr k j es[k].1 ∧ Kept (fun y => es[k].1.ownBlock = some y) w1 wr)
      case atStart => exact ⟨0, rfl, rfl, hArea1, hM1, Kept.refl _ _⟩
      case round =>
        obtain ⟨j, hgj, rfl, hAr, hMr, hKr⟩ := hrel
        clear hArea1 hM1
        by_cases hjc : j < cap
        · obtain ⟨g, u, rfl, e1, e2, hAr', hMr'⟩ := hAr.mark hsh hjc hMr
          have hKr' := hKr.setCell (p := ⟨g, j, none⟩) (fun _ => by rw [hsh]; rfl) (.int .u8 (mk k j))
          clear hAr hMr hKr
          have hb := bytes_mark k j (by omega)
          go_wp2_with fail
          refine (hb _).mono ?_
          rintro e wb ⟨rfl, hwb⟩
          subst hwb
          have hj0 : (0 : Int) ≤ j := by omega
          have hjl : (j : Int) < cap := by omega
          go_wp2
          go_roundg (cap - (j + 1))
          case measure => omega
          case rel => exact ⟨j + 1, by omega, by go_num, hAr', hMr', hKr'⟩
        · have hAp := hA1.step hlt hKr hAr (fun g n' c' e x hx _ => hMr g n' c' e x hx (by rw [hsh] at e; simp at e; omega))
          have hKp := hK1.trans hKr (U := fun k => k = bb ∨ M ≤ k) (fun _ _ h => h) (fun x _ h => .inr (hA1.2.2.2.2.2.2.1 es[k] (List.getElem_mem _) x h).1)
          clear hA1 hAr hMr hKr hK1
          go_wp2
          go_roundg (es.length - (k + 1))
          case measure => omega
          case rel => exact ⟨k + 1, by omega, by go_num, hAp, hKp⟩
    · have hA1 : Ap wr bb M lv wv held es es.length := by
        have : k = es.length := by omega
        subst this
        exact hA
      clear hA
      obtain ⟨al, cl, rfl⟩ := hA1.len
      go_wp2
      clear hf c0 c1 c2
      go_loopg [8, 9, 10] es.length (fun gk i _ _ wq => ∃ k nq : Nat, gk + k = es.length ∧ i = .int .i64 k ∧ wq = wr.drewN nq)
      case atStart => exact ⟨0, 0, rfl, rfl, rfl⟩
      case round =>
        obtain ⟨k, nq, hgk, rfl, rfl⟩ := hrel
        obtain ⟨c0, c1, c2, hf⟩ := hA1.cells
        by_cases hlt : k < es.length
        · obtain ⟨gl, ol, cl', hal, _, _, d1⟩ := hA1.at k hlt
          simp at hal
          obtain ⟨rfl, rfl⟩ := hal
          obtain ⟨cap, hArea⟩ := hA1.2.2.1 es[k] (List.getElem_mem _)
          have hMk := hA1.2.2.2.1 k hlt hlt
          obtain ⟨hcm, a, n, hsh, hnc, _⟩ := id hArea
          rw [hsh] at d1
          have hcm' : cap ≤ 9223372036854775807 := hcm
          go_wp2
          go_quiet (fail)
          go_wp2
          clear d1 c0 c1 c2 hf hArea
          go_loopg [10] cap (fun gj i wq => ∃ j nq : Nat, gj + j = cap ∧ i = .int .i64 j ∧ wq = wr.drewN nq)
          case atStart => exact ⟨0, _, rfl, rfl, World.drewN_drewN ..⟩
          case round =>
            obtain ⟨j, nr, hgj, rfl, rfl⟩ := hrel
            by_cases hjc : j < cap
            · have hj0 : (0 : Int) ≤ j := by omega
              have hjl : (j : Int) < cap := by omega
              obtain ⟨g, rfl, e1⟩ : ∃ g, a = some ⟨g, 0, none⟩ ∧ wr.cell? ⟨g, j, none⟩ = some (.int .u8 (mk k j)) := by
                rcases ‹_ ∨ _› with ⟨rfl, h0⟩ | ⟨g, cur, rfl, _⟩
                · omega
                · exact ⟨g, rfl, hMk g n cap hsh j hjc (by unfold maxLen; omega)⟩
              have hb : ∀ w, Calls Try.prog 38 #[.int .i64 k, .int .i64 j] w fun e w' => e = .returned (.int .u8 (mk k j)) ∧ w' = w := bytes_mark k j (by omega)
              generalize mk k j = m at e1 hb
              clear hMk hsh
              go_wp2
              go_region_held3 (fun u => u.cell? ⟨g, j, none⟩ = some (.int .u8 m)) (first | go_keep | assumption) ((go_at_call 38; refine (hb _).mono ?_; rintro e wb ⟨rfl, hwb⟩; subst hwb))
              go_wp2
              go_roundg (cap - (j + 1))
              case measure => omega
              case rel => exact ⟨j + 1, _, by omega, by go_num, rfl⟩
            · clear hMk hsh
              go_wp2
              go_roundg (es.length - (k + 1))
              case measure => omega
              case rel => exact ⟨k + 1, _, by omega, by go_num, rfl⟩
        · have f0 := hf 0
          have f1 := hf 1
          have f2 := hf 2
          clear hf
          have hset := ((((hK.trans (kept_drewN wr nq) (U := fun k => k = bb ∨ M ≤ k) (fun _ _ h => h) (fun _ _ h => h.elim)).setCell (p := ⟨bb, 0, none⟩) (fun _ => .inl rfl) (.slice none 0 0))).setCell (p := ⟨bb, 1, none⟩) (fun _ => .inl rfl) (.slice none 0 0)).setCell (p := ⟨bb, 2, none⟩) (fun _ => .inl rfl) (.int .i64 0)
          go_wp2
          go_ret
          exact ⟨rfl, hset⟩

end Go.Proofs.Ytbheccioeiemfaa
