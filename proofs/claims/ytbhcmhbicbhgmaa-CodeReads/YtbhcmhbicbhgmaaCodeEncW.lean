/-
  The small walks of writing: the ways reach, the ways as bytes; instructions in a row that is read.
-/
import Derived.Test.YtbhcmhbicbhgmaaCodeRow
import Derived.Test.YtbhcmhbicbhgmaaCodeEncS
namespace Go.Proofs.Ytbhcmhbicbhgmaa.Wire
open Go.RowKit

/-- Instructions in a row, in blocks of F. -/
def InsR (F : Nat → Prop) (w : World) (v : Value) (l : List Ins) : Prop :=
  (∃ a c, v = .slice a 0 c ∧ l = []) ∨ ∃ g o cap, v = .slice (some ⟨g, o, none⟩) l.length cap ∧ l.length ≤ cap ∧ F g ∧ ∀ (j : Nat) x, l[j]? = some x → ∃ tv, IwR F w tv x.tos ∧ ∀ k u, (insC x tv)[k]? = some u → w.cell? ⟨g, o + j * 7 + k, none⟩ = some u
theorem InsR.frame {F G : Nat → Prop} {w w' : World} (hF : ∀ g, F g → G g ∧ w'.heap[g]? = w.heap[g]?) {v : Value} {l : List Ins} (h : InsR F w v l) : InsR G w' v l := by
  rcases h with h | ⟨g, o, cap, h1, h1', h2, h3⟩
  · exact .inl h
  · refine .inr ⟨g, o, cap, h1, h1', (hF g h2).1, fun j x hj => ?_⟩
    obtain ⟨tv, h4, h5⟩ := h3 j x hj
    exact ⟨tv, h4.frame hF, fun k u hu => by rw [World.cell?_of_block (w := w) (hF g h2).2]; exact h5 k u hu⟩
theorem InsR.shape {F : Nat → Prop} {w : World} {v : Value} {l : List Ins} (h : InsR F w v l) : ∃ a c, v = .slice a l.length c := by
  rcases h with ⟨a, c, rfl, rfl⟩ | ⟨g, o, cap, rfl, _⟩
  · exact ⟨a, c, rfl⟩
  · exact ⟨_, _, rfl⟩
theorem InsR.kept {S : Nat → Prop} {F : Nat → Prop} {w w' : World} {v : Value} {l : List Ins} (h : InsR F w v l) (k : Kept S w w') (hF : ∀ g, F g → g < w.heap.size ∧ ¬ S g) : InsR F w' v l := h.frame fun g hg => ⟨hg, k.block g (hF g hg).1 (hF g hg).2⟩
theorem InsR.at {F : Nat → Prop} {w : World} {v : Value} {l : List Ins} (h : InsR F w v l) (k : Nat) (hk : k < l.length) : ∃ g o cap tv, v = .slice (some ⟨g, o, none⟩) l.length cap ∧ l.length ≤ cap ∧ IwR F w tv l[k].tos ∧
    w.cell? ⟨g, o + k * 7, none⟩ = some (.int .i64 l[k].pl) ∧ w.cell? ⟨g, o + k * 7 + 1, none⟩ = some (.int .i64 l[k].op) ∧ w.cell? ⟨g, o + k * 7 + 2, none⟩ = some (.int .i64 l[k].a) ∧ w.cell? ⟨g, o + k * 7 + 3, none⟩ = some (.int .i64 l[k].b) ∧ w.cell? ⟨g, o + k * 7 + 4, none⟩ = some (.complex .f64 (floatOfInt .f64 l[k].x) (floatOfInt .f64 l[k].y)) ∧ w.cell? ⟨g, o + k * 7 + 5, none⟩ = some (.string (toStr l[k].tx)) ∧ w.cell? ⟨g, o + k * 7 + 6, none⟩ = some tv := by
  rcases h with ⟨a, c, _, rfl⟩ | ⟨g, o, cap, rfl, hc, hg, h⟩
  · simp at hk
  · obtain ⟨tv, h1, h2⟩ := h k _ (List.getElem?_eq_getElem hk)
    exact ⟨g, o, cap, tv, rfl, hc, h1, h2 0 _ rfl, h2 1 _ rfl, h2 2 _ rfl, h2 3 _ rfl, h2 4 _ rfl, h2 5 _ rfl, h2 6 _ rfl⟩
theorem IwR.at {F : Nat → Prop} {w : World} {v : Value} {xs : List Int} (h : IwR F w v xs) (k : Nat) (hk : k < xs.length) : ∃ g o cap, v = .slice (some ⟨g, o, none⟩) xs.length cap ∧ xs.length ≤ cap ∧ F g ∧ w.cell? ⟨g, o + k, none⟩ = some (.int .i64 xs[k]) := by
  rcases h with ⟨a, c, _, rfl⟩ | ⟨g, o, cap, rfl, hc, hg, h⟩
  · simp at hk
  · exact ⟨g, o, cap, rfl, hc, hg, h k _ (List.getElem?_eq_getElem hk)⟩
/-- A row of instructions of the call's own, as it is read. -/
theorem RowG.insR {B : Nat} {w : World} {v : Value} {l : List Ins} (h : RowG cIns 34 7 B w v l) : InsR (fun g => B ≤ g ∧ g < w.heap.size) w v l := by
  by_cases h0 : l.length = 0
  · obtain ⟨a, c, rfl⟩ := h.shape
    refine .inl ⟨a, c, by rw [h0], List.eq_nil_of_length_eq_zero h0⟩
  · obtain ⟨g, cap, _, hv, hc, hg, _⟩ := h.at cIns_ok 0 (by omega)
    refine .inr ⟨g, 0, cap, hv, hc, hg, fun j x hj => ?_⟩
    obtain ⟨hjl, rfl⟩ := List.getElem?_eq_some_iff.1 hj
    obtain ⟨g2, cap2, c, hv2, _, _, ⟨tv, hc1, hc2⟩, hcell⟩ := h.at cIns_ok j hjl
    rw [hv] at hv2
    simp only [Value.slice.injEq, Option.some.injEq, Addr.mk.injEq, and_true, true_and] at hv2
    obtain ⟨rfl, rfl⟩ := hv2
    refine ⟨tv, hc2, fun k u hu => ?_⟩
    rw [Nat.zero_add]
    refine hcell k u ?_
    rw [hc1]
    simpa using hu

theorem reach_drop (bh : Int) (to : List Int) (k : Nat) (hk : k < to.length) : reachR bh (to.drop k) = (decide (bh ≤ to[k] ∧ to[k] ≤ bh + 65535) && reachR bh (to.drop (k + 1))) := by
  rw [List.drop_eq_getElem_cons hk]
  rfl
set_option maxHeartbeats 1000000 in
set_option maxRecDepth 1000000 in
theorem creaches (F : Nat → Prop) (bh : Int) (v : Value) (to : List Int) (w : World) (h0 : 0 ≤ bh) (h1 : bh ≤ 1000000000000) (hl : to.length ≤ 1000000) (hT : IwR F w v to) :
    Calls Try.prog 24 #[.int .i64 bh, v] w fun e w' => e = .returned (.bool (reachR bh to)) ∧ w' = w := by
  obtain ⟨va, vc, rfl⟩ := hT.shape
  go_enter Try.func24, Try.ntmps24
  go_wp2
  go_loopg [9] to.length (fun gk i wr => ∃ k : Nat, gk + k = to.length ∧ i = .int .i64 k ∧ wr = w ∧ reachR bh to = reachR bh (to.drop k))
  case atStart => exact ⟨0, rfl, rfl, rfl, rfl⟩
  case round =>
    obtain ⟨k, hgk, rfl, rfl, hE⟩ := hrel
    by_cases hk : k < to.length
    · obtain ⟨g, o, cap, hv, hcap, _, hc⟩ := hT.at k hk
      simp only [Value.slice.injEq, true_and] at hv
      obtain ⟨rfl, rfl⟩ := hv
      rw [reach_drop bh to k hk] at hE
      have HE := hidden hE
      clear hE
      generalize to[k] = x at *
      by_cases hx1 : x < bh
      · have HX : Hid (decide (bh ≤ x ∧ x ≤ bh + 65535) = false) := by unfold Hid; rw [decide_eq_false (by omega)]
        go_wp2
        go_ret
        rw [HE.out, HX.out]
        exact ⟨rfl, rfl⟩
      · by_cases hx2 : bh + 65535 < x
        · have HX : Hid (decide (bh ≤ x ∧ x ≤ bh + 65535) = false) := by unfold Hid; rw [decide_eq_false (by omega)]
          go_wp2
          go_ret
          rw [HE.out, HX.out]
          exact ⟨rfl, rfl⟩
        · have HX : Hid (decide (bh ≤ x ∧ x ≤ bh + 65535) = true) := by unfold Hid; rw [decide_eq_true (by omega)]
          have HG := hidden hgk
          clear hgk
          go_wp2
          go_roundg (to.length - (k + 1))
          case measure => have := HG.out; omega
          case rel => exact ⟨k + 1, by omega, by go_num, rfl, by rw [HE.out, HX.out]; rfl⟩
    · have HE := hidden hE
      have hk2 : to.length ≤ k := by omega
      clear hE hgk
      go_wp2
      go_ret
      rw [HE.out, List.drop_eq_nil_of_le hk2]
      exact ⟨rfl, rfl⟩
end Go.Proofs.Ytbhcmhbicbhgmaa.Wire
