/-
  The book's own calls at bytes: Same, with the world that it leaves; Stays.
-/
import Derived.Test.YtbheccioeiemfaaBook
namespace Go.Proofs.Ytbheccioeiemfaa
open Go.RowKit

def SameQ (w : World) (e : Ending) (w' : World) : Prop := e = .returned (.bool true) ∧ ∃ n, w' = w.drewN n

set_option maxHeartbeats 1600000 in
set_option maxRecDepth 1000000 in
theorem sameQ (v1 v2 : Value) (b1 b2 : Nat) (l : List Nat) (w : World) (_hl : l.length ≤ 140737488355328) (h1 : Rd w b1 v1 l) (h2 : Rd w b2 v2 l) : Calls Try.prog 44 #[v1, v2] w (SameQ w) := by
  obtain ⟨x1, y1, e1⟩ := h1.shape
  obtain ⟨x2, y2, e2⟩ := h2.shape
  have haddr : 0 < l.length → ∃ o1 o2, x1 = some ⟨b1, o1, none⟩ ∧ x2 = some ⟨b2, o2, none⟩ ∧ ∀ j, j < l.length → w.cell? ⟨b1, o1 + j, none⟩ = some (.int .u8 ((l.getD j 0 : Nat) : Int)) ∧ w.cell? ⟨b2, o2 + j, none⟩ = some (.int .u8 ((l.getD j 0 : Nat) : Int)) := by
    intro hp
    obtain ⟨o1, c1, f1, _⟩ := h1.addr2 hp
    obtain ⟨o2, c2, f2, _⟩ := h2.addr2 hp
    have g1 : x1 = some ⟨b1, o1, none⟩ := by rw [e1] at f1; simp at f1; exact f1.1
    have g2 : x2 = some ⟨b2, o2, none⟩ := by rw [e2] at f2; simp at f2; exact f2.1
    refine ⟨o1, o2, g1, g2, fun j hj => ⟨?_, ?_⟩⟩
    · exact Rd.at (f1 ▸ h1) j hj
    · exact Rd.at (f2 ▸ h2) j hj
  subst e1
  subst e2
  go_enter Try.func44, Try.ntmps44
  go_wp2
  go_loopg [5] l.length (fun g i wr => ∃ k nq : Nat, g + k = l.length ∧ i = .int .i64 k ∧ wr = w.drewN nq)
  case atStart => exact ⟨0, 0, rfl, rfl, rfl⟩
  case round =>
    obtain ⟨k, nq, hgk, rfl, rfl⟩ := hrel
    by_cases hlt : k < l.length
    · obtain ⟨o1, o2, rfl, rfl, hcell⟩ := haddr (by omega)
      obtain ⟨d1, d2⟩ := hcell k hlt
      generalize l.getD k 0 = x at d1 d2
      clear hcell haddr h1 h2
      have hk0 : (0 : Int) ≤ k := by omega
      have hkl : (k : Int) < l.length := by omega
      go_wp2
      go_quiet (fail)
      go_wp2
      go_roundg (l.length - (k + 1))
      case measure => omega
      case rel => exact ⟨k + 1, _, by omega, by go_num, rfl⟩
    · clear haddr
      go_wp2
      go_ret
      exact ⟨rfl, _, rfl⟩

abbrev Ent := Value × Value × List Nat

/-- One list of the book: it and its copy hold the same bytes. -/
def EntOk (w : World) (lv wv : Value) (M N : Nat) (e : Ent) : Prop :=
  (∃ g, Row w g e.1 e.2.2) ∧ (∃ g, Row w g e.2.1 e.2.2) ∧ e.2.2.length ≤ 140737488355328 ∧ (∀ k, e.1.ownBlock = some k → M ≤ k ∧ k < N ∧ lv.ownBlock ≠ some k ∧ wv.ownBlock ≠ some k) ∧ ∀ k, e.2.1.ownBlock = some k → M ≤ k ∧ k < N ∧ lv.ownBlock ≠ some k ∧ wv.ownBlock ≠ some k

/-- A Book in block bb whose lists, and what it holds of its own, lie in blocks from M on and below N. -/
def BookIs (w : World) (bb M N : Nat) (lv wv : Value) (held : Int) (es : List Ent) : Prop :=
  Box w bb #[lv, wv, .int .i64 held, .bool false] ∧ Cols w lv (es.map (·.1)) ∧ Cols w wv (es.map (·.2.1)) ∧ (∀ e ∈ es, EntOk w lv wv M N e) ∧ bb < M ∧ N ≤ w.heap.size ∧
    (∀ k, lv.ownBlock = some k → M ≤ k ∧ k < N ∧ wv.ownBlock ≠ some k) ∧ (∀ k, wv.ownBlock = some k → M ≤ k ∧ k < N) ∧ es.Pairwise (fun a b => ∀ k, a.1.ownBlock = some k → b.1.ownBlock ≠ some k)

theorem EntOk.kept {S : Nat → Prop} {w w' : World} {lv wv : Value} {M N : Nat} {e : Ent} (h : EntOk w lv wv M N e) (k : Kept S w w') (hS : ∀ i, S i → i < M ∨ N ≤ i ∨ lv.ownBlock = some i ∨ wv.ownBlock = some i) : EntOk w' lv wv M N e := by
  obtain ⟨⟨g, h1⟩, ⟨g', h2⟩, h3, h4, h5⟩ := h
  refine ⟨⟨g, h1.kept k fun e hs => ?_⟩, ⟨g', h2.kept k fun e hs => ?_⟩, h3, h4, h5⟩
  · have := h4 g e
    rcases hS g hs with h | h | h | h
    · omega
    · omega
    · exact this.2.2.1 h
    · exact this.2.2.2 h
  · have := h5 g' e
    rcases hS g' hs with h | h | h | h
    · omega
    · omega
    · exact this.2.2.1 h
    · exact this.2.2.2 h
theorem BookIs.kept {S : Nat → Prop} {w w' : World} {bb M N : Nat} {lv wv : Value} {held : Int} {es : List Ent} (h : BookIs w bb M N lv wv held es) (k : Kept S w w') (hS : ∀ i, S i → i ≠ bb ∧ (i < M ∨ N ≤ i)) : BookIs w' bb M N lv wv held es := by
  obtain ⟨h1, h2, h3, h4, h5, h6, h7, h8, h9⟩ := h
  refine ⟨h1.kept k (fun e => (hS bb e).1 rfl), h2.kept k (fun i hi hs => ?_), h3.kept k (fun i hi hs => ?_), fun e he => (h4 e he).kept k (fun i hs => ?_), h5, Nat.le_trans h6 k.size, h7, h8, h9⟩
  · have := h7 i hi
    have := hS i hs
    omega
  · have := h8 i hi
    have := hS i hs
    omega
  · have := hS i hs
    omega

/-- What the walk reads of a list of the book. -/
theorem BookIs.at {w : World} {bb M N : Nat} {lv wv : Value} {held : Int} {es : List Ent} (h : BookIs w bb M N lv wv held es) (j : Nat) (hj : j < es.length) :
    ∃ gl ol cl gw ow cw, lv = .slice (some ⟨gl, ol, none⟩) es.length cl ∧ wv = .slice (some ⟨gw, ow, none⟩) es.length cw ∧ es.length ≤ cl ∧ cl ≤ maxLen ∧ es.length ≤ cw ∧ cw ≤ maxLen ∧ w.cell? ⟨gl, ol + j, none⟩ = some es[j].1 ∧ w.cell? ⟨gw, ow + j, none⟩ = some es[j].2.1 ∧ gl ≠ bb ∧ gw ≠ bb := by
  obtain ⟨h1, h2, h3, h4, h5, h6, h7, h8, h9⟩ := h
  rcases h2 with ⟨_, h⟩ | ⟨gl, ol, cl, cur, rfl, hg, hn, hc, hs, ht⟩
  · simp at h; subst h; simp at hj
  rcases h3 with ⟨_, h⟩ | ⟨gw, ow, cw, cur', rfl, hg', hn', hc', hs', ht'⟩
  · simp at h; subst h; simp at hj
  have e1 := Cols.cell (.inr ⟨gl, ol, cl, cur, rfl, hg, hn, hc, hs, ht⟩) j (by simpa using hj)
  have e2 := Cols.cell (.inr ⟨gw, ow, cw, cur', rfl, hg', hn', hc', hs', ht'⟩) j (by simpa using hj)
  have := h7 gl rfl
  have := h8 gw rfl
  simp only [List.length_map, List.getElem_map] at *
  exact ⟨gl, ol, cl, gw, ow, cw, rfl, rfl, hn, hc, hn', hc', e1, e2, by omega, by omega⟩
theorem BookIs.len {w : World} {bb M N : Nat} {lv wv : Value} {held : Int} {es : List Ent} (h : BookIs w bb M N lv wv held es) : ∃ a c, lv = .slice a es.length c := by
  obtain ⟨h1, h2, h3, h4, h5, h6, h7, h8, h9⟩ := h
  rcases h2 with ⟨rfl, h⟩ | ⟨gl, ol, cl, cur, rfl, hg, hn, hc, hs, ht⟩
  · simp at h; subst h; exact ⟨none, 0, rfl⟩
  · exact ⟨some ⟨gl, ol, none⟩, cl, by simp⟩
theorem BookIs.cells {w : World} {bb M N : Nat} {lv wv : Value} {held : Int} {es : List Ent} (h : BookIs w bb M N lv wv held es) : w.cell? ⟨bb, 0, none⟩ = some lv ∧ w.cell? ⟨bb, 1, none⟩ = some wv ∧ w.cell? ⟨bb, 2, none⟩ = some (.int .i64 held) ∧ w.cell? ⟨bb, 3, none⟩ = some (.bool false) ∧ ∀ i, w.frozen? ⟨bb, i, none⟩ = false :=
  ⟨h.1.cell 0, h.1.cell 1, h.1.cell 2, h.1.cell 3, fun i => h.1.frozen i⟩
theorem Row.shape3 {w : World} {g : Nat} {v : Value} {l : List Nat} (h : Row w g v l) : ∃ a n c, v = .slice a n c := by
  obtain ⟨a, c, e⟩ := h.rd.shape
  exact ⟨a, _, c, e⟩
theorem BookIs.shapes {w : World} {bb M N : Nat} {lv wv : Value} {held : Int} {es : List Ent} (h : BookIs w bb M N lv wv held es) (j : Nat) (hj : j < es.length) : (∃ a n c, es[j].1 = .slice a n c) ∧ ∃ a n c, es[j].2.1 = .slice a n c := by
  obtain ⟨⟨g, h1⟩, ⟨g', h2⟩, h3, _⟩ := h.2.2.2.1 es[j] (List.getElem_mem _)
  exact ⟨h1.shape3, h2.shape3⟩
theorem BookIs.same {w : World} {bb M N : Nat} {lv wv : Value} {held : Int} {es : List Ent} (h : BookIs w bb M N lv wv held es) (j : Nat) (hj : j < es.length) (n : Nat) : Calls Try.prog 44 #[es[j].1, es[j].2.1] (w.drewN n) (SameQ (w.drewN n)) := by
  obtain ⟨⟨g, h1⟩, ⟨g', h2⟩, h3, _⟩ := h.2.2.2.1 es[j] (List.getElem_mem _)
  exact sameQ _ _ g g' _ _ h3 (h1.rd.kept (kept_drewN w n) (fun h => h)) (h2.rd.kept (kept_drewN w n) (fun h => h))
theorem BookIs.bad {w : World} {bb M N : Nat} {lv wv : Value} {held : Int} {es : List Ent} (h : BookIs w bb M N lv wv held es) : BookIs (w.setCell ⟨bb, 3, none⟩ (.bool false)) bb M N lv wv held es := by
  obtain ⟨h1, h2, h3, h4, h5, h6, h7, h8, h9⟩ := h
  have k := kept_set w bb 3 (.bool false)
  refine ⟨h1.set 3 (.bool false), h2.kept k (fun i hi hs => ?_), h3.kept k (fun i hi hs => ?_), fun e he => (h4 e he).kept k (fun i hs => ?_), h5, Nat.le_trans h6 k.size, h7, h8, h9⟩
  · have := h7 i hi
    omega
  · have := h8 i hi
    omega
  · omega

end Go.Proofs.Ytbheccioeiemfaa
