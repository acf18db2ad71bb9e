/-
  Proved: for every two integers the law NumEdges answers true: at the greatest parts a sum is a number just as long as it is no greater. The package-level tables of the library that strconv.Itoa reads start as the program's text lays them (the card ties them); no other condition.
-/
import Derived.Test.YtldbfldonkcjmabDoorLaid
import Derived.Test.YtldbfldonkcjmabDoorOps
import Derived.Test.YtldbfldonkcjmabDoorTie
import Derived.Test.YtldbfldonkcjmabDoorCards
namespace Go.Proofs.YtldbfldonkcjmabDoor
open Go.ChangeShapes Go.WideShapes Go.ChangeAt Go.RowKit

set_option maxHeartbeats 1600000 in
set_option maxRecDepth 1000000 in
theorem numEdges_go (n1 n2 x y : Int) (hx : -1048576 ≤ x ∧ x ≤ 1048576) (hy : -1048576 ≤ y ∧ y ≤ 1048576)
    (wa : ∀ w : World, Calls Tryd.prog 5 #[.int .i64 n1, .int .i64 0, .int .i64 2097152] w (Pu (.int .i64 (x + 1048576)) w)) (wb : ∀ w : World, Calls Tryd.prog 5 #[.int .i64 n2, .int .i64 0, .int .i64 2097152] w (Pu (.int .i64 (y + 1048576)) w))
    (w : World) (ht : Tab w) : Calls Tryd.prog 3 #[.int .i64 n1, .int .i64 n2] w (KnownE w) := by
  have of1 := ofC x (-x)
  have of2 := ofC y (-y)
  have of3 := ofC (x + y) (-(x + y))
  have tw := two_right ⟨#[97, 100, 100]⟩ _ _ _ _ x (-x) y (-y) (fl_lt _) (fl_lt _) (fl_lt _) (fl_lt _) (flRt x (by omega)) (flRt (-x) (by omega)) (flRt y (by omega)) (flRt (-y) (by omega))
  rw [two_addS, show -x + -y = -(x + y) by omega] at tw
  have ex : x + 1048576 - 1048576 = x := by omega
  have ey : y + 1048576 - 1048576 = y := by omega
  by_cases hs : (x + y).natAbs ≤ 1048576
  · rw [fit_in _ _ hs (by omega)] at tw
    have g1 : x + y ≤ 1048576 := by omega
    have g2 : -1048576 ≤ x + y := by omega
    have fs := Fl.mk (x + y) (by omega)
    have fn := Fl.mk (-(x + y)) (by omega)
    clear hs
    go_enter Tryd.func3, Tryd.ntmps3
    go_wp2_with fail
    refine (wa _).mono ?_
    rintro e w1 ⟨rfl, rfl⟩
    go_wp2_with fail
    refine (wb _).mono ?_
    rintro e w1 ⟨rfl, rfl⟩
    go_wp2_with fail
    refine (of1 _).mono ?_
    rintro e w1 ⟨rfl, rfl⟩
    go_wp2_with fail
    refine (of2 _).mono ?_
    rintro e w1 ⟨rfl, rfl⟩
    go_wp2_with fail
    refine (tw _).mono ?_
    rintro e w1 ⟨r1, r2, rfl, f1, f2, -, -, -, -, rfl⟩
    have q1 := eqF f1 fs
    have q2 := eqF f2 fn
    clear f1 f2
    go_wp2_with fail
    refine (of3 _).mono ?_
    rintro e w1 ⟨rfl, rfl⟩
    go_wp2_with fail
    refine (known_true _ ht).mono ?_
    rintro e w5 ⟨rfl, k5⟩
    go_wp2
    go_ret
    exact ⟨rfl, k5⟩
  · have hf : fit (x + y) (-(x + y)) = (0, 0, 44) := if_neg (by omega)
    rw [hf] at tw
    have g : 1048576 < x + y ∨ (x + y ≤ 1048576 ∧ x + y < -1048576) := by omega
    clear hs hf
    rcases g with g1 | ⟨g1, g2⟩
    all_goals
      go_enter Tryd.func3, Tryd.ntmps3
      go_wp2_with fail
      refine (wa _).mono ?_
      rintro e w1 ⟨rfl, rfl⟩
      go_wp2_with fail
      refine (wb _).mono ?_
      rintro e w1 ⟨rfl, rfl⟩
      go_wp2_with fail
      refine (of1 _).mono ?_
      rintro e w1 ⟨rfl, rfl⟩
      go_wp2_with fail
      refine (of2 _).mono ?_
      rintro e w1 ⟨rfl, rfl⟩
      go_wp2_with fail
      refine (tw _).mono ?_
      rintro e w1 ⟨r1, r2, rfl, f1, f2, z1, z2, -, -, rfl⟩
      have q1 := eqF f1 Fl.zero
      have q2 := eqF f2 Fl.zero
      clear f1 f2 z1 z2
      go_wp2_with fail
      refine (known_true _ ht).mono ?_
      rintro e w5 ⟨rfl, k5⟩
      go_wp2
      go_ret
      exact ⟨rfl, k5⟩
theorem numEdges_walk (n1 n2 : Int) (b1 : -9223372036854775808 ≤ n1 ∧ n1 ≤ 9223372036854775807) (b2 : -9223372036854775808 ≤ n2 ∧ n2 ≤ 9223372036854775807) (w : World) (ht : Tab w) :
    Calls Tryd.prog 3 #[.int .i64 n1, .int .i64 n2] w (KnownE w) := by
  have key : ∀ n : Int, n % (((2097152 : Nat) : Int) + 1) = (n % 2097153 - 1048576) + 1048576 := fun n => by
    show n % 2097153 = _
    omega
  have a1 := within n1 2097152 b1.1 b1.2 (by decide)
  have a2 := within n2 2097152 b2.1 b2.2 (by decide)
  rw [key] at a1 a2
  exact numEdges_go n1 n2 _ _ (by omega) (by omega) a1 a2 w ht

set_option maxRecDepth 100000 in
theorem numEdges_lifted (os : Os) (started : os.Started) (H : Type) (enc : TypeId × Value → H) :
    ReturnsInHanded {} Tryd.checked os 3 .any (fun w args => (Rows.numEdgesSpec.pre enc Tryd.prog Tryd.f3 [] false w args ∧ laidMetH Tryd.prog laid3 w) ∧ sizedMet enc Tryd.prog Tryd.f3 (OpenSpec.ofChange Rows.numEdgesSpec) false w args)
      (Rows.numEdgesSpec.post enc Tryd.prog Tryd.f3 false true false false) := by
  refine returnsInHanded_of_change_and (C := Tryd.checked) (X := fun w _ => laidMetH Tryd.prog laid3 w) (fun _ _ _ hh h => h.of_heap hh) own started (by kernel_rfl) Tryd.func3
    (ChangeSpec.witness_shaped (enc := enc) (C := Tryd.checked) (os := os) (X := fun w _ => laidMetH Tryd.prog laid3 w) false (World.doorLaid Tryd.prog 400 os) #[.int .i64 0, .int .i64 0] 8 rfl (World.shaped_of_RefB (by kernel_rfl) (by kernel_rfl)) (by kernel_rfl) (by kernel_rfl) (by kernel_rfl) (door_met os _)) ?_
  intro W base args ds gs before hval0 hW _ _ hL _
  have hval : ∀ (j : Nat) t v, Tryd.f3.params[j]? = some t → args[j]? = some v → Value.okWide Tryd.prog W .any base t v := hval0
  have hW' := hW
  obtain ⟨p, q, hA0, hV, rfl, hfz, hnd⟩ := hW
  have hA : DataW.TrodAll enc Tryd.prog W 0 (fun _ => true) true Tryd.f3.params.toList args.toList ds p := hA0
  rw [Tryd.params3] at hA hval
  obtain ⟨v0, vs0, d0, ds0, p0, q0, hargs, rfl, rfl, h0, r0⟩ := trodAll_cons hA
  obtain ⟨v1, vs1, d1, ds1, p1, q1, rfl, rfl, rfl, h1, r1⟩ := trodAll_cons r0
  obtain ⟨rfl, rfl, rfl⟩ := trodAll_nil r1
  obtain rfl : args = #[v0, v1] := by cases args; simp_all
  obtain ⟨rfl, rfl⟩ := trodVars_none hV
  obtain ⟨a0, rfl, rfl, rfl, w0⟩ := open_int Tryd.underlying3 (hval 0 3 v0 rfl rfl) h0
  have b0 := bounds_i64 w0
  obtain ⟨a1, rfl, rfl, rfl, w1⟩ := open_int Tryd.underlying3 (hval 1 3 v1 rfl rfl) h1
  have b1 := bounds_i64 w1
  clear hA0 hval0
  simp only [List.append_nil] at hW'
  refine (numEdges_walk a0 a1 b0 b1 W (of_laid hL)).mono fun e W' ⟨he, bel⟩ => ?_
  subst he
  exact ⟨_, rfl, _, _, _, [], _, [], hW', trodAll_mk1 (shut_bool Tryd.underlying4 _), (trodAll_cons_mk (shut_int Tryd.underlying3 w0) (trodAll_cons_mk (shut_int Tryd.underlying3 w1) trodAll_mk0)), rfl, bel.frame _, fun h => by cases h⟩

theorem numEdges_row : Rows.NumEdgesSaid :=
  OpenClaim.holds_of_wide 3 Tryd.f3 rfl rfl rfl rfl rfl rfl rfl ⟨rfl, rfl, rfl, rfl, rfl⟩ rfl rfl rfl rfl rfl (by kernel_rfl) Tryd.func3 (by kernel_rfl)
    (of_decide_eq_true (by kernel_rfl)) (by unfold Func.isWrapper; first | (rw [if_pos (by decide +kernel)]; kernel_rfl) | (rw [if_neg (by decide +kernel)]; exact ⟨rfl, rfl⟩))
    (fun os started H enc _ => numEdges_lifted os started H enc)

theorem numEdges_holds : Rows.NumEdgesCardSaid :=
  Claim7.holds_tied_plain_at .later [] [.data, .data, .data] true (true, "2632e0bcf1344dcbc0a0becf8354e78d7d64663f7421b83d91ad847bbe72fecb") false
    numEdges_row (fun _ h => by cases h) (by kernel_rfl) (fun _ h => by cases h) numEdges_row_tie rfl ⟨rfl, rfl⟩ (by kernel_rfl) rfl
    (fun f fn hf hfn => by
      obtain rfl : f = 3 := Option.some.inj ((show Tryd.prog.funcNamed "hawser/hawserlaw2.NumEdges" = some 3 by kernel_rfl).symm.trans hf) |>.symm
      obtain rfl : fn = Tryd.f3 := (Option.some.inj (Tryd.func3.symm.trans hfn)).symm
      exact ⟨by kernel_rfl, fun j t ht => by
        rw [Tryd.params3] at ht
        have hm : t ∈ [3, 3] := by simpa using Array.mem_of_getElem? ht
        have hall : ([3, 3].all fun u => !Tryd.prog.wantsStandIn u) = true := by kernel_rfl
        exact (show Tryd.prog.wantsStandIn t = false by simpa using List.all_eq_true.1 hall t hm)⟩)
    (by kernel_rfl)
#print axioms numEdges_holds
end Go.Proofs.YtldbfldonkcjmabDoor
