/-
  The statement on names in another order: for all cases, names and turns what lacks and what is too much, and how many are there twice, is the same. No condition.
-/
import Derived.ProofKit
import Derived.OpenShut
import Derived.SizedLaws
import Derived.ChangeShapes
import Derived.WideShapes
import Derived.ChangeMaps
import Derived.Test.YtmomapnafhppcaaRows
import Derived.Test.YtmomapnafhppcaaCovOpen
import Derived.Test.YtmomapnafhppcaaLawCoverTurned
namespace Go.Proofs.Ytmomapnafhppcaa
open Go.ChangeShapes Go.WideShapes Go.ChangeAt Go.RowKit Go.Deep
open Go.ChangeMaps (open_string shut_string)

theorem ownCoverTurned : ownKnob Try.prog.godebug = none := by kernel_rfl
theorem laidCoverTurned : laidOutB Try.prog = true := by kernel_rfl
set_option maxRecDepth 100000 in
theorem coverTurned_lifted (os : Os) (started : os.Started) (H : Type) (enc : TypeId × Value → H) :
    ReturnsInHanded {} Try.checked os 6 .any (Rows.coverTurnedSpec.pre6 enc Try.prog Try.f6 Rows.coverTurnedRow.domain false) (Rows.coverTurnedSpec.post enc Try.prog Try.f6 false true false false) := by
  refine returnsInHanded_of_change_sized (C := Try.checked) ownCoverTurned started (by kernel_rfl) Try.func6
    (ChangeSpec.witness6 (enc := enc) (C := Try.checked) false ⟨#[], #[.slice none 0 0, .slice none 0 0, .int .i64 0], []⟩ 8 (by kernel_rfl) (by kernel_rfl) (by kernel_rfl) (by kernel_rfl)) ?_
  intro W base args ds gs before hval0 hW hcnd hsz0 _
  have hval : ∀ (j : Nat) t v, Try.f6.params[j]? = some t → args[j]? = some v → Value.okWide Try.prog W .any base t v := hval0
  have hsz : (DataW.weightsEach Try.prog (Try.f6.params.toList ++ Rows.coverTurnedSpec.plain.varTypes Try.prog) (ds ++ gs)).all (· ≤ reachBytes) = true := hsz0
  have hW' := hW
  obtain ⟨p, q, hA0, hV, rfl, hfz, hnd⟩ := hW
  have hA : DataW.TrodAll enc Try.prog W 0 (fun _ => true) true Try.f6.params.toList args.toList ds p := hA0
  rw [Try.params6] at hA hval hsz
  obtain ⟨v0, vs0, d0, ds0, p0, q0, hargs, rfl, rfl, h0, r0⟩ := trodAll_cons hA
  obtain ⟨v1, vs1, d1, ds1, p1, q1, rfl, rfl, rfl, h1, r1⟩ := trodAll_cons r0
  obtain ⟨v2, vs2, d2, ds2, p2, q2, rfl, rfl, rfl, h2, r2⟩ := trodAll_cons r1
  obtain ⟨rfl, rfl, rfl⟩ := trodAll_nil r2
  obtain rfl : args = #[v0, v1, v2] := by cases args; simp_all
  obtain ⟨rfl, rfl⟩ := trodVars_none hV
  have hw0 : WOk 24 d0 := fun n hn => by simpa using List.all_eq_true.1 hsz _ (DataW.weights_mem_each (j := 0) (t := 24) (d := d0) rfl rfl n hn)
  have k0 := h0
  have lt0 : ∀ x ∈ p0, x.block < W.heap.size := by obtain ⟨m, hm⟩ := k0; exact DataW.trod_lt m _ _ _ hm
  obtain ⟨a0, len0, cap0, rfl⟩ := okWide_slice Try.underlying24 (hval 0 24 v0 rfl rfl)
  obtain ⟨f0, hf0⟩ := h0
  obtain ⟨xs0, e0, s0, l0, t0⟩ := texts_in (by simpa [Value.cells] using hf0) hw0
  subst e0
  have hw1 : WOk 24 d1 := fun n hn => by simpa using List.all_eq_true.1 hsz _ (DataW.weights_mem_each (j := 1) (t := 24) (d := d1) rfl rfl n hn)
  have k1 := h1
  have lt1 : ∀ x ∈ p1, x.block < W.heap.size := by obtain ⟨m, hm⟩ := k1; exact DataW.trod_lt m _ _ _ hm
  obtain ⟨a1, len1, cap1, rfl⟩ := okWide_slice Try.underlying24 (hval 1 24 v1 rfl rfl)
  obtain ⟨f1, hf1⟩ := h1
  obtain ⟨xs1, e1, s1, l1, t1⟩ := texts_in (by simpa [Value.cells] using hf1) hw1
  subst e1
  obtain ⟨a2, rfl, rfl, rfl, w2⟩ := open_int Try.underlying3 (hval 2 3 v2 rfl rfl) h2
  have b2 := bounds_i64 w2
  have hwalk : Calls Try.prog 6 #[.slice a0 xs0.length cap0, .slice a1 xs1.length cap1, .int .i64 a2] W (BoolW true W) := by
    rcases s1 with ⟨rfl, hv⟩ | ⟨rfl, ad, c, hv⟩ | ⟨bk, o, c, hv, hp, hb, hc, hx⟩
    · rw [hv]
      exact turned_nil _ xs0 () a2 W s0.row t0
    · rw [hv]
      exact turned_none _ xs0 ad c a2 W s0.row t0
    · rw [hv]
      by_cases h12 : xs1.length ≤ 12
      · exact turned_few _ xs0 xs1 bk o c a2 W s0.row t0 hp h12 hc (.inr (.inr ⟨bk, o, c, rfl, hp, hb, hc, hx⟩)) t1 b2.1 b2.2
      · exact turned_many _ xs0 (xs1.take 12) bk o c xs1.length a2 W s0.row t0 (by omega) (by rw [List.length_take]; omega) hc l1 (SrcR.cut (k := 0) (m := 12) (.inr (.inr ⟨bk, o, c, rfl, hp, hb, hc, hx⟩)) hp (by omega) (by decide)) (fun x hx' => t1 x (List.mem_of_mem_take hx')) b2.1 b2.2
  clear hA0 hval0
  simp only [List.append_nil] at hW'
  refine hwalk.mono fun e W' ⟨he, bel⟩ => ?_
  subst he
  exact ⟨_, rfl, _, _, _, [], _, [], hW', trodAll_mk1 (shut_bool Try.underlying4 _), (trodAll_cons_mk (Below.trod laidCoverTurned (by kernel_rfl) (of_decide_eq_true (by kernel_rfl)) k0 bel lt0) (trodAll_cons_mk (Below.trod laidCoverTurned (by kernel_rfl) (of_decide_eq_true (by kernel_rfl)) k1 bel lt1) (trodAll_cons_mk (shut_int Try.underlying3 w2) trodAll_mk0))), rfl, bel.frame _, fun h => by cases h⟩

theorem coverTurned_holds : Rows.CoverTurnedSaid :=
  OpenClaim.holds_of_wide 6 Try.f6 rfl rfl rfl rfl rfl rfl rfl ⟨rfl, rfl, rfl, rfl, rfl⟩ rfl rfl rfl rfl rfl (by kernel_rfl) Try.func6 (by kernel_rfl)
    (of_decide_eq_true (by kernel_rfl)) (by unfold Func.isWrapper; first | (rw [if_pos (by decide +kernel)]; kernel_rfl) | (rw [if_neg (by decide +kernel)]; exact ⟨rfl, rfl⟩))
    (fun os started H enc _ => coverTurned_lifted os started H enc)
#print axioms coverTurned_holds
end Go.Proofs.Ytmomapnafhppcaa
