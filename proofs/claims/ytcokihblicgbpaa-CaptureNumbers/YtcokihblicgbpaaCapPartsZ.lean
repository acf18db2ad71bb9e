/-
  Captures: the package's parts: an iterator over what stands in an expression, each part with the names that are bound in it.
-/
import Derived.RangeFuncNested
import Derived.RangeFuncBound
import Derived.RangeFuncCalls
import Derived.RangeFuncLeaves
import Derived.RangeFuncBox
import Derived.Shelf.Abstract
import Derived.Shelf.RegionOpen
import Derived.WalkKit
import Derived.WalkArith
import Derived.OwnWalkIn
import Derived.TacticsInMore
import Derived.LoopNIn
import Derived.LoopIn
import Derived.Test.YtcokihblicgbpaaCapRangeZ
import Derived.Test.YtcokihblicgbpaaCapAZ
namespace Go.Proofs.Ytcokihblicgbpaa
open Go.RowKit Go.Shelf
attribute [local go_sem] Oper.semAt_some

/-- What a call of yield leaves: it goes on, or a round has left. -/
def YldE (Jn Jx : World → Prop) (r : Ending) (W : World) : Prop := ∃ bb : Bool, r = .returned (.bool bb) ∧ (bb = true → Jn W) ∧ (bb = false → Jx W)
theorem ea_kid {G : Nat → Prop} {W : World} {b o : Nat} {e : Ex} {kv pv av : Value} (h : EA G W b o e kv pv av) (k : Nat) (hk : k < e.kids.length) : ∃ g q c k' p' a', kv = .slice (some ⟨g, q, none⟩) e.kids.length c ∧ EA G W g (q + k * 9) e.kids[k] k' p' a' := by
  rcases ((XI_iff _ _ _ _ _ _).1 h.xi).1 with ⟨a, c, _, e2⟩ | ⟨g, q, c, e1, hg, hh⟩
  · rw [e2] at hk
    simp at hk
  · obtain ⟨k', p', a', h1, h2⟩ := hh k hk
    exact ⟨g, q, c, k', p', a', e1, hg, h1, fun j u hj => by rw [Nat.add_assoc]; exact h2 j u hj⟩
theorem ea_bod {G : Nat → Prop} {W : World} {b o : Nat} {e : Ex} {kv pv av : Value} (h : EA G W b o e kv pv av) (k : Nat) (hk : k < e.bods.length) : ∃ g q c vv k' p' a', av = .slice (some ⟨g, q, none⟩) e.bods.length c ∧ EA G W g (q + k * 11 + 2) e.bods[k] k' p' a' ∧ TxR G W vv (e.arms.getD k ([], [])).2 ∧ W.cell? ⟨g, q + k * 11 + 1, none⟩ = some vv := by
  rcases ((XI_iff _ _ _ _ _ _).1 h.xi).2.2.2 with ⟨a, c, _, e2⟩ | ⟨g, q, c, e1, hg, hh⟩
  · rw [e2] at hk
    simp at hk
  · obtain ⟨vv, k', p', a', h1, hv, h2⟩ := hh k hk
    refine ⟨g, q, c, vv, k', p', a', e1, ⟨hg, h1, fun j u hj => ?_⟩, hv, by rw [Nat.add_assoc]; exact h2 1 _ rfl⟩
    have h3 := h2 (j + 2) u (by simpa using hj)
    rw [show q + k * 11 + 2 + j = q + (k * 11 + (j + 2)) by omega]
    exact h3
set_option maxHeartbeats 1000000 in
theorem parts0 (p : Option Addr) (w : World) : Calls Try.prog 26 #[.pointer p] w fun r w' => r = .returned (.func (.func 40) #[] #[.pointer (some ⟨w.heap.size, 0, none⟩)]) ∧ w' = w.alloc (.cells #[.pointer p] 50) := by
  go_enter Try.func26, Try.ntmps26
  go_wp2
  go_ret
  exact ⟨rfl, rfl⟩
set_option maxRecDepth 1000000 in
set_option maxHeartbeats 4000000 in
theorem parts1 (l Be : Nat) (G : Nat → Prop) (e : Ex) (b o : Nat) (ka : Option Addr) (kc : Nat) (pv : Value) (aa : Option Addr) (ac : Nat) (J : Nat → World → Prop) (Jx : World → Prop)
    (hkl : e.kids.length ≤ 20000) (hpl : e.params.length ≤ 20000) (hbl : e.bods.length ≤ 20000)
    (hJE : ∀ k W, J k W → W.cell? ⟨Be, 0, none⟩ = some (.pointer (some ⟨b, o, none⟩)) ∧ Be < W.heap.size ∧ EA G W b o e (.slice ka e.kids.length kc) pv (.slice aa e.bods.length ac) ∧ ∀ g, G g → g < W.heap.size)
    (hY1 : ∀ k (hk : k < e.kids.length) W0 W pb po k' p' a' nv, J k W0 → Below W0.heap.size W0 W → EA G W pb po e.kids[k] k' p' a' → TxR (fun g => G g ∨ Fq W0 W g) W nv (bindN e k) → YieldAt Fence.wide 7 Try.prog l #[.pointer (some ⟨pb, po, none⟩), nv] W (YldE (J (k + 1)) Jx))
    (hY2 : ∀ k (hk : k < e.bods.length) W0 W pb po k' p' a' nv, J (e.kids.length + k) W0 → Below W0.heap.size W0 W → EA G W pb po e.bods[k] k' p' a' → TxR (fun g => G g ∨ Fq W0 W g) W nv (e.arms.getD k ([], [])).2 → YieldAt Fence.wide 7 Try.prog l #[.pointer (some ⟨pb, po, none⟩), nv] W (YldE (J (e.kids.length + k + 1)) Jx))
    (W : World) (h0 : J 0 W) :
    CallsIn Fence.wide 8 Try.prog 40 #[.func (.yield l) #[] #[], .pointer (some ⟨Be, 0, none⟩)] W fun r W' => (∃ v, r = .returned v) ∧ (J (e.kids.length + e.bods.length) W' ∨ Jx W') := by
  refine callsIn_of_wp Try.func40 rfl trivial ?_ rfl
  simp only [Try.ntmps40, List.size_toArray, List.length_cons, List.length_nil, Nat.reduceAdd, Nat.reduceSub, Array.replicate_succ, Array.replicate_zero, List.push_toArray, List.append_toArray, List.nil_append, List.cons_append]
  have hmx : Try.prog.follows .mixedOrders = true := by kernel_rfl
  obtain ⟨c0, lB0, hE0, hG0⟩ := hJE 0 W h0
  have c6 : W.cell? ⟨b, o + 6, none⟩ = some (.slice ka e.kids.length kc) := hE0.ce 6 _ rfl
  clear hE0
  gi_wp2
  gi_loopw [10] (fun i wr => ∃ k : Nat, k ≤ e.kids.length ∧ i = .int .i64 (k : Int) ∧ J k wr) (fun i _ => (e.kids.length - (intOf i).toNat))
  case atStart => exact ⟨0, Nat.zero_le _, rfl, h0⟩
  case round =>
    obtain ⟨k, hkle, rfl, hJk⟩ := hrel
    clear c0 c6 h0 lB0 hG0
    obtain ⟨d0, lB, hE, hG⟩ := hJE k wr hJk
    by_cases hk : k < e.kids.length
    · have hki : (k : Int) < (e.kids.length : Int) := by omega
      have d6 : wr.cell? ⟨b, o + 6, none⟩ = some (.slice ka e.kids.length kc) := hE.ce 6 _ rfl
      have hbd : Below wr.heap.size wr wr.drew := ⟨rfl, rfl, rfl, Nat.le_refl _, fun _ _ => rfl⟩
      have hEd : EA G wr.drew b o e (.slice ka e.kids.length kc) pv (.slice aa e.bods.length ac) := hE.below hbd hG
      obtain ⟨kg, kq, kc', k', p', a', e1, hEk⟩ := ea_kid hEd k hk
      simp only [Value.slice.injEq, true_and] at e1
      obtain ⟨rfl, rfl⟩ := e1
      have hbk := boundInKid G e b o k _ _ _ wr.drew hEd hG hkl hpl
      have hbG := hE.fb
      gi_wp2
      gi_region_with_o (first
        | (refine ⟨trivial, ?_⟩
           gi_at_call 41
           refine (callsIn_wide.2 hbk).mono ?_
           rintro r w9 ⟨nv, rfl, ⟨na, nn, nc, rfl⟩, htx, hb9⟩
           have hb10 : Below wr.heap.size wr w9 := hbd.trans hb9
           have y0 : w9.cell? ⟨Be, 0, none⟩ = some (.pointer (some ⟨b, o, none⟩)) := (hb10.cell (p := ⟨Be, 0, none⟩) lB).trans d0
           have y6 : w9.cell? ⟨b, o + 6, none⟩ = some (.slice (some ⟨kg, kq, none⟩) e.kids.length kc) := (hb10.cell (p := ⟨b, o + 6, none⟩) (hG _ hbG)).trans d6
           obtain ⟨fn, tmps, assign, body, hy, hR⟩ := hY1 k hk wr w9 kg (kq + k * 9) k' p' a' _ hJk hb10 (hEk.below hb9 hG) (htx.frame fun g hg => ⟨.inr hg, rfl⟩))
        | (refine hR.mono ?_
           rintro r W3 ⟨bb, rfl, hor⟩))
      all_goals
        clear hy hR hY1 hY2 hJE hEk hEd hE htx
        cases bb
        · have hx := hor.2 rfl
          clear hor
          gi_wp2
          refine bodyPost_ret (results_none rfl _ _ _) rfl ?_
          exact ⟨⟨_, rfl⟩, .inr hx⟩
        · have hn := hor.1 rfl
          clear hor
          gi_wp2
          go_roundw
          case rel => exact ⟨k + 1, by omega, by go_num, hn⟩
          case measure => simp [intOf]; omega
    · have hke : k = e.kids.length := by omega
      have hki : ¬ (k : Int) < (e.kids.length : Int) := by omega
      have d8 : wr.cell? ⟨b, o + 8, none⟩ = some (.slice aa e.bods.length ac) := hE.ce 8 _ rfl
      have hJe : J (e.kids.length + 0) wr := by rw [Nat.add_zero, ← hke]; exact hJk
      clear hY1 hE hke hJk
      gi_wp2
      gi_loopw [31] (fun i w2 => ∃ j : Nat, j ≤ e.bods.length ∧ i = .int .i64 (j : Int) ∧ J (e.kids.length + j) w2) (fun i _ => (e.bods.length - (intOf i).toNat))
      case atStart => exact ⟨0, Nat.zero_le _, rfl, hJe⟩
      case round =>
        obtain ⟨j, hjle, rfl, hJj⟩ := hrel
        clear hJe d0 d8 lB hG hki
        obtain ⟨d0, lB, hE, hG⟩ := hJE _ _ hJj
        by_cases hj : j < e.bods.length
        · have hji : (j : Int) < (e.bods.length : Int) := by omega
          have d8 := hE.ce 8 _ rfl
          obtain ⟨kg, kq, kc', vv, k', p', a', e1, hEk, htx, hv⟩ := ea_bod hE j hj
          simp only [Value.slice.injEq, true_and] at e1
          obtain ⟨rfl, rfl⟩ := e1
          have hbd : Below wr.heap.size wr wr.drew := ⟨rfl, rfl, rfl, Nat.le_refl _, fun _ _ => rfl⟩
          obtain ⟨fn, tmps, assign, body, hy, hR⟩ := hY2 j hj wr wr.drew kg (kq + j * 11 + 2) k' p' a' vv hJj hbd (hEk.below hbd hG) (htx.frame fun g hg => ⟨.inl hg, rfl⟩)
          clear hY2 hJE hEk hE htx
          gi_wp2
          gi_region_with_o (refine hR.mono ?_; rintro r W3 ⟨bb, rfl, hor⟩)
          all_goals
            clear hy hR
            cases bb
            · have hx := hor.2 rfl
              clear hor
              gi_wp2
              refine bodyPost_ret (results_none rfl _ _ _) rfl ?_
              exact ⟨⟨_, rfl⟩, .inr hx⟩
            · have hn := hor.1 rfl
              clear hor
              gi_wp2
              go_roundw
              case rel => exact ⟨j + 1, by omega, by go_num, hn⟩
              case measure => simp [intOf]; omega
        · have hji : ¬ (j : Int) < (e.bods.length : Int) := by omega
          have hje : j = e.bods.length := by omega
          have hJf : J (e.kids.length + e.bods.length) wr := by rw [← hje]; exact hJj
          clear hY2 hJE hE hJj hje
          gi_wp2
          go_end0
          exact ⟨⟨_, rfl⟩, .inl hJf⟩
end Go.Proofs.Ytcokihblicgbpaa
