/-
  The book's Stays at bytes: it answers true, and leaves the book as it is.
-/
import Derived.Test.YtbheccioeiemfaaKeep
namespace Go.Proofs.Ytbheccioeiemfaa
open Go.RowKit

def StaysE (w : World) (bb M N : Nat) (lv wv : Value) (held : Int) (es : List Ent) (e : Ending) (w' : World) : Prop := e = .returned (.bool true) ∧ BookIs w' bb M N lv wv held es ∧ Kept (fun k => k = bb) w w'

set_option maxHeartbeats 1600000 in
set_option maxRecDepth 1000000 in
theorem stays (w : World) (bb M N : Nat) (lv wv : Value) (held : Int) (es : List Ent) (hes : es.length ≤ 1000000) (hB : BookIs w bb M N lv wv held es) : Calls Try.prog 45 #[.pointer (some ⟨bb, 0, none⟩)] w (StaysE w bb M N lv wv held es) := by
  go_enter Try.func45, Try.ntmps45
  go_wp2
  go_loopg [3] es.length (fun gk i wr => ∃ k : Nat, gk + k = es.length ∧ i = .int .i64 k ∧ BookIs wr bb M N lv wv held es ∧ Kept (fun k => k = bb) w wr)
  case atStart => exact ⟨0, rfl, rfl, hB, Kept.refl _ _⟩
  case round =>
    obtain ⟨k, hgk, rfl, hb, hK⟩ := hrel
    clear hB
    obtain ⟨c0, c1, c2, c3, hf⟩ := hb.cells
    have f3 := hf 3
    clear hf
    by_cases hlt : k < es.length
    · obtain ⟨gl, ol, cl, gw, ow, cw, rfl, rfl, _, _, _, _, d1, d2, hgl, hgw⟩ := hb.at k hlt
      have hS := hb.same k hlt
      obtain ⟨⟨x1, y1, z1, h1⟩, ⟨x2, y2, z2, h2⟩⟩ := hb.shapes k hlt
      rw [h1, h2] at hS
      rw [h1] at d1
      rw [h2] at d2
      clear h1 h2
      have hS0 : Calls Try.prog 44 #[.slice x1 y1 z1, .slice x2 y2 z2] wr.drew (SameQ wr.drew) := hS 1
      clear hS
      have hbD : ∀ n, BookIs ((wr.drewN n).setCell ⟨bb, 3, none⟩ (.bool false)) bb M N (.slice (some ⟨gl, ol, none⟩) es.length cl) (.slice (some ⟨gw, ow, none⟩) es.length cw) held es := fun n => (hb.kept (kept_drewN wr n) (fun _ h => h.elim)).bad
      have hKD : ∀ n, Kept (fun k => k = bb) wr ((wr.drewN n).setCell ⟨bb, 3, none⟩ (.bool false)) := fun n => (kept_drewN wr n).trans (kept_set _ bb 3 _) (fun _ _ h => h.elim) (fun _ _ h => h)
      have hSet : ∀ n, ((wr.drewN n).setCell ⟨bb, 3, none⟩ (.bool false)).cell? ⟨bb, 0, none⟩ = some (.slice (some ⟨gl, ol, none⟩) es.length cl) ∧ ((wr.drewN n).setCell ⟨bb, 3, none⟩ (.bool false)).cell? ⟨bb, 1, none⟩ = some (.slice (some ⟨gw, ow, none⟩) es.length cw) ∧ ((wr.drewN n).setCell ⟨bb, 3, none⟩ (.bool false)).cell? ⟨bb, 3, none⟩ = some (.bool false) ∧ ((wr.drewN n).setCell ⟨bb, 3, none⟩ (.bool false)).cell? ⟨gl, ol + k, none⟩ = some (.slice x1 y1 z1) ∧ ((wr.drewN n).setCell ⟨bb, 3, none⟩ (.bool false)).cell? ⟨gw, ow + k, none⟩ = some (.slice x2 y2 z2) :=
        fun n => ⟨(hbD n).cells.1, (hbD n).cells.2.1, (hbD n).cells.2.2.2.1, (hKD n).cell d1 hgl, (hKD n).cell d2 hgw⟩
      go_wp2
      go_region_held3 (fun u => u.cell? ⟨bb, 0, none⟩ = some (.slice (some ⟨gl, ol, none⟩) es.length cl) ∧ u.cell? ⟨bb, 1, none⟩ = some (.slice (some ⟨gw, ow, none⟩) es.length cw) ∧ u.cell? ⟨bb, 3, none⟩ = some (.bool false) ∧ u.cell? ⟨gl, ol + k, none⟩ = some (.slice x1 y1 z1) ∧ u.cell? ⟨gw, ow + k, none⟩ = some (.slice x2 y2 z2)) (first | go_keep | exact hSet _ | exact ⟨by assumption, by assumption, by assumption, by assumption, by assumption⟩) ((go_at_call 44; refine hS0.mono ?_; rintro e wa ⟨rfl, na, rfl⟩))
      clear hSet hS0
      have hbn := hbD (1 + na)
      have hKn := hK.trans (hKD (1 + na)) (U := fun k => k = bb) (fun _ _ h => h) (fun _ _ h => h)
      clear hbD hKD hb hK c0 c1 c2 c3 d1 d2 f3
      go_wp2
      go_roundg (es.length - (k + 1))
      case measure => omega
      case rel => exact ⟨k + 1, by omega, by go_num, hbn, hKn⟩
    · obtain ⟨a, c, rfl⟩ := hb.len
      go_wp2
      go_ret
      exact ⟨rfl, hb, hK⟩

end Go.Proofs.Ytbheccioeiemfaa
