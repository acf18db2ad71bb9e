/-
  Proved: for every four integers the law NumRules answers true: sums and products go either way, what is taken away comes back, conj twice is nothing, a number is its parts. The package-level tables of the library that strconv.Itoa reads start as the program's text lays them (the card ties them); no other condition.
-/
import Derived.Test.YtldbfldonkcjmaaDoorLaid
import Derived.Test.YtldbfldonkcjmaaDoorLessOrder
import Derived.Test.YtldbfldonkcjmaaDoorTie
import Derived.Test.YtldbfldonkcjmaaDoorCards
namespace Go.Proofs.YtldbfldonkcjmaaDoor
open Go.ChangeShapes Go.WideShapes Go.ChangeAt Go.RowKit

theorem mulI (p1 p2 : Nat) (y : Int) (h1 : p1 < 18446744073709551616) (h2 : p2 < 18446744073709551616) (hy : Fl p1 y) (h0 : Fl p2 0) (b : y.natAbs ≤ 1048576) (w : World) : Calls Tryd.prog 11 #[.string ⟨#[109, 117, 108]⟩, .complex .f64 p1 p2, .complex .f64 (floatOfInt .f64 0) (floatOfInt .f64 1)] w (NumE (0, y, 0) w) :=
  mulF (a := y) (b := 0) (c := 0) (d := 1) (x := 0) (y := y) h1 h2 (fl_lt 0) (fl_lt 1) hy h0 (Fl.mk 0 (by decide)) (Fl.mk 1 (by decide)) b (by decide) (by decide) (by decide) (by omega) (by omega) (by decide) b w

set_option maxHeartbeats 1600000 in
set_option maxRecDepth 1000000 in
theorem numRules_go (n1 n2 n3 n4 x y u v : Int) (hx : -500 ≤ x ∧ x ≤ 500) (hy : -500 ≤ y ∧ y ≤ 500) (hu : -500 ≤ u ∧ u ≤ 500) (hv : -500 ≤ v ∧ v ≤ 500)
    (w1a : ∀ w : World, Calls Tryd.prog 27 #[.int .i64 n1, .int .i64 0, .int .i64 1000] w (Pu (.int .i64 (x + 500)) w)) (w1b : ∀ w : World, Calls Tryd.prog 27 #[.int .i64 n2, .int .i64 0, .int .i64 1000] w (Pu (.int .i64 (y + 500)) w))
    (w1c : ∀ w : World, Calls Tryd.prog 27 #[.int .i64 n3, .int .i64 0, .int .i64 1000] w (Pu (.int .i64 (u + 500)) w)) (w1d : ∀ w : World, Calls Tryd.prog 27 #[.int .i64 n4, .int .i64 0, .int .i64 1000] w (Pu (.int .i64 (v + 500)) w))
    (w : World) (ht : Tab w) : Calls Tryd.prog 7 #[.int .i64 n1, .int .i64 n2, .int .i64 n3, .int .i64 n4] w (KnownE w) := by
  have of1 := ofC (x + 500 - 500) (y + 500 - 500)
  have of2 := ofC (u + 500 - 500) (v + 500 - 500)
  rw [show x + 500 - 500 = x by omega, show y + 500 - 500 = y by omega] at of1
  rw [show u + 500 - 500 = u by omega, show v + 500 - 500 = v by omega] at of2
  have of3 := ofC 0 1
  have fp1 := Fl.mk x (by omega)
  have fp2 := Fl.mk y (by omega)
  have fq1 := Fl.mk u (by omega)
  have fq2 := Fl.mk v (by omega)
  have m1 := mul500 x u (by omega) (by omega)
  have m2 := mul500 y v (by omega) (by omega)
  have m3 := mul500 x v (by omega) (by omega)
  have m4 := mul500 y u (by omega) (by omega)
  have m5 := mul500 x x (by omega) (by omega)
  have m6 := mul500 y y (by omega) (by omega)
  have m7 := mul500 x y (by omega) (by omega)
  have ex2 : u * x - v * y = x * u - y * v := by rw [Int.mul_comm u, Int.mul_comm v]
  have ey2 : u * y + v * x = x * v + y * u := by rw [Int.mul_comm u, Int.mul_comm v]; omega
  have ex3 : x * x - y * -y = x * x + y * y := by rw [Int.mul_neg]; omega
  have ey3 : x * -y + y * x = 0 := by rw [Int.mul_neg, Int.mul_comm y]; omega
  have hl1 := less_right _ _ _ _ x y u v (fl_lt x) (fl_lt y) (fl_lt u) (fl_lt v) (flRt x (by omega)) (flRt y (by omega)) (flRt u (by omega)) (flRt v (by omega))
  have hl2 := less_right _ _ _ _ u v x y (fl_lt u) (fl_lt v) (fl_lt x) (fl_lt y) (flRt u (by omega)) (flRt v (by omega)) (flRt x (by omega)) (flRt y (by omega))
  go_enter Tryd.func7, Tryd.ntmps7
  go_wp2_with fail
  refine (w1a _).mono ?_
  rintro e w1 ⟨rfl, rfl⟩
  go_wp2_with fail
  refine (w1b _).mono ?_
  rintro e w1 ⟨rfl, rfl⟩
  go_wp2_with fail
  refine (of1 _).mono ?_
  rintro e w1 ⟨rfl, rfl⟩
  go_wp2_with fail
  refine (w1c _).mono ?_
  rintro e w1 ⟨rfl, rfl⟩
  go_wp2_with fail
  refine (w1d _).mono ?_
  rintro e w1 ⟨rfl, rfl⟩
  go_wp2_with fail
  refine (of2 _).mono ?_
  rintro e w1 ⟨rfl, rfl⟩
  go_wp2_with fail
  refine (addF (x := x + u) (y := y + v) (fl_lt x) (fl_lt y) (fl_lt u) (fl_lt v) fp1 fp2 fq1 fq2 (by omega) (by omega) (by omega) (by omega) (by omega) (by omega) (by omega) (by omega) _).mono ?_
  rintro e w1 ⟨a1, a2, rfl, fa1, fa2, -, -, la1, la2, rfl⟩
  go_wp2_with fail
  refine (addF (x := x + u) (y := y + v) (fl_lt u) (fl_lt v) (fl_lt x) (fl_lt y) fq1 fq2 fp1 fp2 (by omega) (by omega) (by omega) (by omega) (by omega) (by omega) (by omega) (by omega) _).mono ?_
  rintro e w1 ⟨b1, b2, rfl, fb1, fb2, -, -, lb1, lb2, rfl⟩
  go_wp2_with fail
  refine (subF (x := x) (y := y) la1 la2 (fl_lt u) (fl_lt v) fa1 fa2 fq1 fq2 (by omega) (by omega) (by omega) (by omega) (by omega) (by omega) (by omega) (by omega) _).mono ?_
  rintro e w1 ⟨c1, c2, rfl, fc1, fc2, -, -, lc1, lc2, rfl⟩
  go_wp2_with fail
  refine (mulF (x := x * u - y * v) (y := x * v + y * u) (fl_lt x) (fl_lt y) (fl_lt u) (fl_lt v) fp1 fp2 fq1 fq2 (by omega) (by omega) (by omega) (by omega) (by exact rfl) (by exact rfl) (by omega) (by omega) _).mono ?_
  rintro e w1 ⟨d1, d2, rfl, fd1, fd2, -, -, ld1, ld2, rfl⟩
  go_wp2_with fail
  refine (mulF (x := x * u - y * v) (y := x * v + y * u) (fl_lt u) (fl_lt v) (fl_lt x) (fl_lt y) fq1 fq2 fp1 fp2 (by omega) (by omega) (by omega) (by omega) ex2 ey2 (by omega) (by omega) _).mono ?_
  rintro e w1 ⟨g1, g2, rfl, fg1, fg2, -, -, lg1, lg2, rfl⟩
  have t1 := eqF fa1 fb1
  have t2 := eqF fa2 fb2
  have t3 := eqF fc1 fp1
  have t4 := eqF fc2 fp2
  have t5 := eqF fd1 fg1
  have t6 := eqF fd2 fg2
  clear fa1 fa2 fb1 fb2 fc1 fc2 fd1 fd2 fg1 fg2 la1 la2 lb1 lb2 lc1 lc2 ld1 ld2 lg1 lg2
  go_wp2_with fail
  refine (conjF (fl_lt x) (fl_lt y) fp1 fp2 (by omega) (by omega) _).mono ?_
  rintro e w1 ⟨h1, h2, rfl, fh1, fh2, -, -, lh1, lh2, rfl⟩
  go_wp2_with fail
  refine (conjF lh1 lh2 fh1 fh2 (by omega) (by omega) _).mono ?_
  rintro e w1 ⟨i1, i2, rfl, fi1, fi2, -, -, li1, li2, rfl⟩
  go_wp2_with fail
  refine (reF (fl_lt x) (fl_lt y) fp1 fp2 (by omega) (by omega) _).mono ?_
  rintro e w1 ⟨j1, j2, rfl, fj1, fj2, -, -, lj1, lj2, rfl⟩
  go_wp2_with fail
  refine (imF (fl_lt x) (fl_lt y) fp1 fp2 (by omega) (by omega) _).mono ?_
  rintro e w1 ⟨k1, k2, rfl, fk1, fk2, -, -, lk1, lk2, rfl⟩
  go_wp2_with fail
  refine (of3 _).mono ?_
  rintro e w1 ⟨rfl, rfl⟩
  go_wp2_with fail
  refine (mulI k1 k2 y lk1 lk2 fk1 fk2 (by omega) _).mono ?_
  rintro e w1 ⟨m1_, m2_, rfl, fm1, fm2, -, -, lm1, lm2, rfl⟩
  go_wp2_with fail
  refine (addF (x := x) (y := y) lj1 lj2 lm1 lm2 fj1 fj2 fm1 fm2 (by omega) (by omega) (by omega) (by omega) (by omega) (by omega) (by omega) (by omega) _).mono ?_
  rintro e w1 ⟨n1, n2, rfl, fn1, fn2, -, -, ln1, ln2, rfl⟩
  go_wp2_with fail
  refine (mulF (x := x * x + y * y) (y := 0) (fl_lt x) (fl_lt y) lh1 lh2 fp1 fp2 fh1 fh2 (by omega) (by omega) (by omega) (by omega) ex3 ey3 (by omega) (by omega) _).mono ?_
  rintro e w1 ⟨o1, o2, rfl, fo1, fo2, -, -, lo1, lo2, rfl⟩
  go_wp2_with fail
  refine (imF lo1 lo2 fo1 fo2 (by omega) (by omega) _).mono ?_
  rintro e w1 ⟨r1, r2, rfl, fr1, fr2, -, -, lr1, lr2, rfl⟩
  have s1 := eqF fi1 fp1
  have s2 := eqF fi2 (show Fl (floatOfInt .f64 y) (- -y) by rw [Int.neg_neg]; exact fp2)
  have s3 := eqF fn1 fp1
  have s4 := eqF fn2 fp2
  have s5 := eqF fr1 Fl.zero
  have s6 := eqF fr2 Fl.zero
  have htri := less_tri x y u v
  have N1 := fun h => neqF fp1 fp2 fq1 fq2 h
  have N2 : x = u → (FloatKind.f64.format.order (floatOfInt .f64 x) (floatOfInt .f64 u) == some .eq) = true := fun h => eqF fp1 (show Fl (floatOfInt .f64 u) x by rw [h]; exact fq1)
  have N3 : y = v → (FloatKind.f64.format.order (floatOfInt .f64 y) (floatOfInt .f64 v) == some .eq) = true := fun h => eqF fp2 (show Fl (floatOfInt .f64 v) y by rw [h]; exact fq2)
  clear fp1 fp2 fq1 fq2 fi1 fi2 fn1 fn2 fr1 fr2 fh1 fh2 fj1 fj2 fk1 fk2 fm1 fm2 fo1 fo2 lh1 lh2 li1 li2 lj1 lj2 lk1 lk2 lm1 lm2 ln1 ln2 lo1 lo2 lr1 lr2 m1 m2 m3 m4 m5 m6 m7 ex2 ey2 ex3 ey3 hx hy hu hv of1 of2 of3 w1a w1b w1c w1d t1 t2 t3 t4 t5 t6
  rcases htri with ⟨k1, k2, hne⟩ | ⟨k1, k2, hne⟩ | ⟨k1, k2, e1, e2⟩
  · have ne := N1 hne
    clear N1 N2 N3 hne
    rw [k1] at hl1
    rw [k2] at hl2
    go_wp2_with fail
    refine (hl1 _).mono ?_
    rintro e w1 ⟨rfl, rfl⟩
    go_wp2_with fail
    refine (hl2 _).mono ?_
    rintro e w1 ⟨rfl, rfl⟩
    go_wp2_with fail
    refine (known_true _ ht).mono ?_
    rintro e w5 ⟨rfl, k5⟩
    go_wp2
    go_ret
    exact ⟨rfl, k5⟩
  · clear N1 N2 N3 hne
    rw [k1] at hl1
    rw [k2] at hl2
    go_wp2_with fail
    refine (hl1 _).mono ?_
    rintro e w1 ⟨rfl, rfl⟩
    go_wp2_with fail
    refine (hl2 _).mono ?_
    rintro e w1 ⟨rfl, rfl⟩
    go_wp2_with fail
    refine (known_true _ ht).mono ?_
    rintro e w5 ⟨rfl, k5⟩
    go_wp2
    go_ret
    exact ⟨rfl, k5⟩
  · have q1 := N2 e1
    have q2 := N3 e2
    clear N1 N2 N3 e1 e2
    rw [k1] at hl1
    rw [k2] at hl2
    go_wp2_with fail
    refine (hl1 _).mono ?_
    rintro e w1 ⟨rfl, rfl⟩
    go_wp2_with fail
    refine (hl2 _).mono ?_
    rintro e w1 ⟨rfl, rfl⟩
    go_wp2_with fail
    refine (known_true _ ht).mono ?_
    rintro e w5 ⟨rfl, k5⟩
    go_wp2
    go_ret
    exact ⟨rfl, k5⟩

theorem numRules_walk (n1 n2 n3 n4 : Int) (b1 : -9223372036854775808 ≤ n1 ∧ n1 ≤ 9223372036854775807) (b2 : -9223372036854775808 ≤ n2 ∧ n2 ≤ 9223372036854775807) (b3 : -9223372036854775808 ≤ n3 ∧ n3 ≤ 9223372036854775807) (b4 : -9223372036854775808 ≤ n4 ∧ n4 ≤ 9223372036854775807) (w : World) (ht : Tab w) :
    Calls Tryd.prog 7 #[.int .i64 n1, .int .i64 n2, .int .i64 n3, .int .i64 n4] w (KnownE w) := by
  have key : ∀ n : Int, n % (((1000 : Nat) : Int) + 1) = (n % 1001 - 500) + 500 := fun n => by
    show n % 1001 = _
    omega
  have a1 := within n1 1000 b1.1 b1.2 (by decide)
  have a2 := within n2 1000 b2.1 b2.2 (by decide)
  have a3 := within n3 1000 b3.1 b3.2 (by decide)
  have a4 := within n4 1000 b4.1 b4.2 (by decide)
  rw [key] at a1 a2 a3 a4
  exact numRules_go n1 n2 n3 n4 _ _ _ _ (by omega) (by omega) (by omega) (by omega) a1 a2 a3 a4 w ht

set_option maxRecDepth 100000 in
theorem numRules_lifted (os : Os) (started : os.Started) (H : Type) (enc : TypeId × Value → H) :
    ReturnsInHanded {} Tryd.checked os 7 .any (fun w args => (Rows.numRulesSpec.pre enc Tryd.prog Tryd.f7 [] false w args ∧ laidMetH Tryd.prog laid3 w) ∧ sizedMet enc Tryd.prog Tryd.f7 (OpenSpec.ofChange Rows.numRulesSpec) false w args)
      (Rows.numRulesSpec.post enc Tryd.prog Tryd.f7 false true false false) := by
  refine returnsInHanded_of_change_and (C := Tryd.checked) (X := fun w _ => laidMetH Tryd.prog laid3 w) (fun _ _ _ hh h => h.of_heap hh) own started (by kernel_rfl) Tryd.func7
    (ChangeSpec.witness_shaped (enc := enc) (C := Tryd.checked) (os := os) (X := fun w _ => laidMetH Tryd.prog laid3 w) false (World.doorLaid Tryd.prog 400 os) #[.int .i64 0, .int .i64 0, .int .i64 0, .int .i64 0] 8 rfl (World.shaped_of_RefB (by kernel_rfl) (by kernel_rfl)) (by kernel_rfl) (by kernel_rfl) (by kernel_rfl) (door_met os _)) ?_
  intro W base args ds gs before hval0 hW _ _ hL _
  have hval : ∀ (j : Nat) t v, Tryd.f7.params[j]? = some t → args[j]? = some v → Value.okWide Tryd.prog W .any base t v := hval0
  have hW' := hW
  obtain ⟨p, q, hA0, hV, rfl, hfz, hnd⟩ := hW
  have hA : DataW.TrodAll enc Tryd.prog W 0 (fun _ => true) true Tryd.f7.params.toList args.toList ds p := hA0
  rw [Tryd.params7] at hA hval
  obtain ⟨v0, vs0, d0, ds0, p0, q0, hargs, rfl, rfl, h0, r0⟩ := trodAll_cons hA
  obtain ⟨v1, vs1, d1, ds1, p1, q1, rfl, rfl, rfl, h1, r1⟩ := trodAll_cons r0
  obtain ⟨v2, vs2, d2, ds2, p2, q2, rfl, rfl, rfl, h2, r2⟩ := trodAll_cons r1
  obtain ⟨v3, vs3, d3, ds3, p3, q3, rfl, rfl, rfl, h3, r3⟩ := trodAll_cons r2
  obtain ⟨rfl, rfl, rfl⟩ := trodAll_nil r3
  obtain rfl : args = #[v0, v1, v2, v3] := by cases args; simp_all
  obtain ⟨rfl, rfl⟩ := trodVars_none hV
  obtain ⟨a0, rfl, rfl, rfl, w0⟩ := open_int Tryd.underlying3 (hval 0 3 v0 rfl rfl) h0
  have b0 := bounds_i64 w0
  obtain ⟨a1, rfl, rfl, rfl, w1⟩ := open_int Tryd.underlying3 (hval 1 3 v1 rfl rfl) h1
  have b1 := bounds_i64 w1
  obtain ⟨a2, rfl, rfl, rfl, w2⟩ := open_int Tryd.underlying3 (hval 2 3 v2 rfl rfl) h2
  have b2 := bounds_i64 w2
  obtain ⟨a3, rfl, rfl, rfl, w3⟩ := open_int Tryd.underlying3 (hval 3 3 v3 rfl rfl) h3
  have b3 := bounds_i64 w3
  clear hA0 hval0
  simp only [List.append_nil] at hW'
  refine (numRules_walk a0 a1 a2 a3 b0 b1 b2 b3 W (of_laid hL)).mono fun e W' ⟨he, bel⟩ => ?_
  subst he
  exact ⟨_, rfl, _, _, _, [], _, [], hW', trodAll_mk1 (shut_bool Tryd.underlying4 _), (trodAll_cons_mk (shut_int Tryd.underlying3 w0) (trodAll_cons_mk (shut_int Tryd.underlying3 w1) (trodAll_cons_mk (shut_int Tryd.underlying3 w2) (trodAll_cons_mk (shut_int Tryd.underlying3 w3) trodAll_mk0)))), rfl, bel.frame _, fun h => by cases h⟩

theorem numRules_row : Rows.NumRulesSaid :=
  OpenClaim.holds_of_wide 7 Tryd.f7 rfl rfl rfl rfl rfl rfl rfl ⟨rfl, rfl, rfl, rfl, rfl⟩ rfl rfl rfl rfl rfl (by kernel_rfl) Tryd.func7 (by kernel_rfl)
    (of_decide_eq_true (by kernel_rfl)) (by unfold Func.isWrapper; first | (rw [if_pos (by decide +kernel)]; kernel_rfl) | (rw [if_neg (by decide +kernel)]; exact ⟨rfl, rfl⟩))
    (fun os started H enc _ => numRules_lifted os started H enc)

theorem numRules_holds : Rows.NumRulesCardSaid :=
  Claim7.holds_tied_plain_at .later [] [.data, .data, .data] true (true, "560217b44383308e6c58264b02c7de48a200efba491b2156d91fae7b25f154b9") false
    numRules_row (fun _ h => by cases h) (by kernel_rfl) (fun _ h => by cases h) numRules_row_tie rfl ⟨rfl, rfl⟩ (by kernel_rfl) rfl
    (fun f fn hf hfn => by
      obtain rfl : f = 7 := Option.some.inj ((show Tryd.prog.funcNamed "hawser/hawserlaw2.NumRules" = some 7 by kernel_rfl).symm.trans hf) |>.symm
      obtain rfl : fn = Tryd.f7 := (Option.some.inj (Tryd.func7.symm.trans hfn)).symm
      exact ⟨by kernel_rfl, fun j t ht => by
        rw [Tryd.params7] at ht
        have hm : t ∈ [3, 3, 3, 3] := by simpa using Array.mem_of_getElem? ht
        have hall : ([3, 3, 3, 3].all fun u => !Tryd.prog.wantsStandIn u) = true := by kernel_rfl
        exact (show Tryd.prog.wantsStandIn t = false by simpa using List.all_eq_true.1 hall t hm)⟩)
    (by kernel_rfl)
#print axioms numRules_holds
end Go.Proofs.YtldbfldonkcjmaaDoor
