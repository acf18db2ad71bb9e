/-
  Proved: for every two integers the law NumBack answers true: a number's text is read as it. The package-level tables of the library that strconv.Itoa reads start as the program's text lays them (the card ties them); no other condition.
-/
import Derived.Test.YtldbfldonkcjmaaDoorLaid
import Derived.Test.YtldbfldonkcjmaaDoorBack
import Derived.Test.YtldbfldonkcjmaaDoorTie
import Derived.Test.YtldbfldonkcjmaaDoorCards
namespace Go.Proofs.YtldbfldonkcjmaaDoor
open Go.ChangeShapes Go.WideShapes Go.ChangeAt Go.RowKit

set_option maxHeartbeats 800000 in
set_option maxRecDepth 1000000 in
theorem numBack_walk (a b : Int) (h0 : -9223372036854775808 ≤ a) (h1 : a ≤ 9223372036854775807) (h2 : -9223372036854775808 ≤ b) (h3 : b ≤ 9223372036854775807) (w : World) (ht : Tab w) : Calls Tryd.prog 6 #[.int .i64 a, .int .i64 b] w (KnownE w) := by
  have hn := near a b h0 h1 h2 h3
  have bx := nr_le a
  have bY := nr_le b
  generalize nr a = x at *
  generalize nr b = y at *
  have f1 := Fl.mk x (by omega)
  have f2 := Fl.mk y (by omega)
  by_cases hr : x.natAbs ≤ 1048576 ∧ y.natAbs ≤ 1048576
  · have t1 := text_right _ _ x y (fl_lt x) (fl_lt y) ⟨f1, hr.1⟩ ⟨f2, hr.2⟩ w ht
    have t2 := parse (text x y) (text_size x y hr.1 hr.2)
    rw [parse_text x y hr.1 hr.2] at t2
    have t3 := right_yes _ _ x y (fl_lt x) (fl_lt y) ⟨f1, hr.1⟩ ⟨f2, hr.2⟩
    have e1 : (FloatKind.f64.format.order (floatOfInt .f64 x) (floatOfInt .f64 x) == some .eq) = true := (Fl.eq f1 f1).trans (decide_eq_true rfl)
    have e2 : (FloatKind.f64.format.order (floatOfInt .f64 y) (floatOfInt .f64 y) == some .eq) = true := (Fl.eq f2 f2).trans (decide_eq_true rfl)
    generalize text x y = t at *
    clear f1 f2 hr bx bY
    go_enter Tryd.func6, Tryd.ntmps6
    go_wp2_with fail
    refine (hn _).mono ?_
    rintro e w1 ⟨rfl, rfl⟩
    go_wp2_with fail
    refine t1.mono ?_
    rintro e w2 ⟨rfl, k2⟩
    go_wp2_with fail
    refine (t2 _).mono ?_
    rintro e w3 ⟨rfl, n3, hw3⟩
    have k3 := k2.trans ((show Below w2.heap.size w2 w3 by rw [hw3]; exact below_drewN w2 n3).mono k2.size)
    clear hw3 k2
    go_wp2_with fail
    refine (t3 _).mono ?_
    rintro e w4 ⟨rfl, rfl⟩
    go_wp2_with fail
    refine (known_true _ (ht.below k3)).mono ?_
    rintro e w5 ⟨rfl, k5⟩
    have k6 := k3.trans (k5.mono k3.size)
    go_wp2
    go_ret
    exact ⟨rfl, k6⟩
  · have hN : NotRt (floatOfInt .f64 x) ∨ NotRt (floatOfInt .f64 y) := by
      by_cases h : x.natAbs ≤ 1048576
      · exact .inr (not_rt f2 (fun h' => hr ⟨h, h'⟩))
      · exact .inl (not_rt f1 h)
    have t1 := text_no _ _ (fl_lt x) (fl_lt y) hN w
    have t2 := parse ⟨#[]⟩ (by decide)
    rw [parse_empty] at t2
    have t3 := right_no _ _ (fl_lt x) (fl_lt y) hN
    clear f1 f2 hr bx bY hN
    go_enter Tryd.func6, Tryd.ntmps6
    go_wp2_with fail
    refine (hn _).mono ?_
    rintro e w1 ⟨rfl, rfl⟩
    go_wp2_with fail
    refine t1.mono ?_
    rintro e w2 ⟨rfl, k2⟩
    go_wp2_with fail
    refine (t2 _).mono ?_
    rintro e w3 ⟨rfl, n3, hw3⟩
    have k3 := k2.trans ((show Below w2.heap.size w2 w3 by rw [hw3]; exact below_drewN w2 n3).mono k2.size)
    clear hw3 k2
    go_wp2_with fail
    refine (t3 _).mono ?_
    rintro e w4 ⟨rfl, rfl⟩
    go_wp2_with fail
    refine (known_true _ (ht.below k3)).mono ?_
    rintro e w5 ⟨rfl, k5⟩
    have k6 := k3.trans (k5.mono k3.size)
    go_wp2
    go_ret
    exact ⟨rfl, k6⟩

set_option maxRecDepth 100000 in
theorem numBack_lifted (os : Os) (started : os.Started) (H : Type) (enc : TypeId × Value → H) :
    ReturnsInHanded {} Tryd.checked os 6 .any (fun w args => (Rows.numBackSpec.pre enc Tryd.prog Tryd.f6 [] false w args ∧ laidMetH Tryd.prog laid3 w) ∧ sizedMet enc Tryd.prog Tryd.f6 (OpenSpec.ofChange Rows.numBackSpec) false w args)
      (Rows.numBackSpec.post enc Tryd.prog Tryd.f6 false true false false) := by
  refine returnsInHanded_of_change_and (C := Tryd.checked) (X := fun w _ => laidMetH Tryd.prog laid3 w) (fun _ _ _ hh h => h.of_heap hh) own started (by kernel_rfl) Tryd.func6
    (ChangeSpec.witness_shaped (enc := enc) (C := Tryd.checked) (os := os) (X := fun w _ => laidMetH Tryd.prog laid3 w) false (World.doorLaid Tryd.prog 400 os) #[.int .i64 0, .int .i64 0] 8 rfl (World.shaped_of_RefB (by kernel_rfl) (by kernel_rfl)) (by kernel_rfl) (by kernel_rfl) (by kernel_rfl) (door_met os _)) ?_
  intro W base args ds gs before hval0 hW _ _ hL _
  have hval : ∀ (j : Nat) t v, Tryd.f6.params[j]? = some t → args[j]? = some v → Value.okWide Tryd.prog W .any base t v := hval0
  have hW' := hW
  obtain ⟨p, q, hA0, hV, rfl, hfz, hnd⟩ := hW
  have hA : DataW.TrodAll enc Tryd.prog W 0 (fun _ => true) true Tryd.f6.params.toList args.toList ds p := hA0
  rw [Tryd.params6] at hA hval
  obtain ⟨v0, vs0, d0, ds0, p0, q0, hargs, rfl, rfl, h0, r0⟩ := trodAll_cons hA
  obtain ⟨v1, vs1, d1, ds1, p1, q1, rfl, rfl, rfl, h1, r1⟩ := trodAll_cons r0
  obtain ⟨rfl, rfl, rfl⟩ := trodAll_nil r1
  obtain rfl : args = #[v0, v1] := by cases args; simp_all
  obtain ⟨rfl, rfl⟩ := trodVars_none hV
  obtain ⟨a0, rfl, rfl, rfl, w0⟩ := open_int Tryd.underlying3 (hval 0 3 v0 rfl rfl) h0
  have b0 := bounds_i64 w0
  obtain ⟨a1, rfl, rfl, rfl, w1⟩ := open_int Tryd.underlying3 (hval 1 3 v1 rfl rfl) h1
  have b1 := bounds_i64 w1
  clear hA0 hval0
  simp only [List.append_nil] at hW'
  refine (numBack_walk a0 a1 b0.1 b0.2 b1.1 b1.2 W (of_laid hL)).mono fun e W' ⟨he, bel⟩ => ?_
  subst he
  exact ⟨_, rfl, _, _, _, [], _, [], hW', trodAll_mk1 (shut_bool Tryd.underlying4 _), (trodAll_cons_mk (shut_int Tryd.underlying3 w0) (trodAll_cons_mk (shut_int Tryd.underlying3 w1) trodAll_mk0)), rfl, bel.frame _, fun h => by cases h⟩

theorem numBack_row : Rows.NumBackSaid :=
  OpenClaim.holds_of_wide 6 Tryd.f6 rfl rfl rfl rfl rfl rfl rfl ⟨rfl, rfl, rfl, rfl, rfl⟩ rfl rfl rfl rfl rfl (by kernel_rfl) Tryd.func6 (by kernel_rfl)
    (of_decide_eq_true (by kernel_rfl)) (by unfold Func.isWrapper; first | (rw [if_pos (by decide +kernel)]; kernel_rfl) | (rw [if_neg (by decide +kernel)]; exact ⟨rfl, rfl⟩))
    (fun os started H enc _ => numBack_lifted os started H enc)

theorem numBack_holds : Rows.NumBackCardSaid :=
  Claim7.holds_tied_plain_at .later [] [.data, .data, .data] true (true, "560217b44383308e6c58264b02c7de48a200efba491b2156d91fae7b25f154b9") false
    numBack_row (fun _ h => by cases h) (by kernel_rfl) (fun _ h => by cases h) numBack_row_tie rfl ⟨rfl, rfl⟩ (by kernel_rfl) rfl
    (fun f fn hf hfn => by
      obtain rfl : f = 6 := Option.some.inj ((show Tryd.prog.funcNamed "hawser/hawserlaw2.NumBack" = some 6 by kernel_rfl).symm.trans hf) |>.symm
      obtain rfl : fn = Tryd.f6 := (Option.some.inj (Tryd.func6.symm.trans hfn)).symm
      exact ⟨by kernel_rfl, fun j t ht => by
        rw [Tryd.params6] at ht
        have hm : t ∈ [3, 3] := by simpa using Array.mem_of_getElem? ht
        have hall : ([3, 3].all fun u => !Tryd.prog.wantsStandIn u) = true := by kernel_rfl
        exact (show Tryd.prog.wantsStandIn t = false by simpa using List.all_eq_true.1 hall t hm)⟩)
    (by kernel_rfl)
#print axioms numBack_holds
end Go.Proofs.YtldbfldonkcjmaaDoor
