/-
  Proved: for every six integers the law NumOrder answers true: Less is an order. The package-level tables of the library that strconv.Itoa reads start as the program's text lays them (the card ties them); no other condition.
-/
import Derived.Test.YtldbfldonkcjmaaDoorLaid
import Derived.Test.YtldbfldonkcjmaaDoorLessOrder
import Derived.Test.YtldbfldonkcjmaaDoorTie
import Derived.Test.YtldbfldonkcjmaaDoorCards
namespace Go.Proofs.YtldbfldonkcjmaaDoor
open Go.ChangeShapes Go.WideShapes Go.ChangeAt Go.RowKit

theorem tmod4 (a : Int) : -3 ≤ a.tmod 4 ∧ a.tmod 4 ≤ 3 := by
  have h1 := Int.lt_tmod_of_pos a (b := 4) (by decide)
  have h2 := Int.tmod_lt_of_pos a (b := 4) (by decide)
  omega

set_option maxHeartbeats 1600000 in
set_option maxRecDepth 1000000 in
theorem numOrder_walk (n1 n2 n3 n4 n5 n6 : Int) (w : World) (ht : Tab w) : Calls Tryd.prog 8 #[.int .i64 n1, .int .i64 n2, .int .i64 n3, .int .i64 n4, .int .i64 n5, .int .i64 n6] w (KnownE w) := by
  have t1 := tmod4 n1
  have t2 := tmod4 n2
  have t3 := tmod4 n3
  have t4 := tmod4 n4
  have t5 := tmod4 n5
  have t6 := tmod4 n6
  generalize g1 : n1.tmod 4 = a at *
  generalize g2 : n2.tmod 4 = b at *
  generalize g3 : n3.tmod 4 = c at *
  generalize g4 : n4.tmod 4 = d at *
  generalize g5 : n5.tmod 4 = x at *
  generalize g6 : n6.tmod 4 = y at *
  have o1 := ofC a b
  have o2 := ofC c d
  have o3 := ofC x y
  have pp := less_right _ _ _ _ a b a b (fl_lt a) (fl_lt b) (fl_lt a) (fl_lt b) (flRt a (by omega)) (flRt b (by omega)) (flRt a (by omega)) (flRt b (by omega))
  have pq := less_right _ _ _ _ a b c d (fl_lt a) (fl_lt b) (fl_lt c) (fl_lt d) (flRt a (by omega)) (flRt b (by omega)) (flRt c (by omega)) (flRt d (by omega))
  have qp := less_right _ _ _ _ c d a b (fl_lt c) (fl_lt d) (fl_lt a) (fl_lt b) (flRt c (by omega)) (flRt d (by omega)) (flRt a (by omega)) (flRt b (by omega))
  have qr := less_right _ _ _ _ c d x y (fl_lt c) (fl_lt d) (fl_lt x) (fl_lt y) (flRt c (by omega)) (flRt d (by omega)) (flRt x (by omega)) (flRt y (by omega))
  have pr := less_right _ _ _ _ a b x y (fl_lt a) (fl_lt b) (fl_lt x) (fl_lt y) (flRt a (by omega)) (flRt b (by omega)) (flRt x (by omega)) (flRt y (by omega))
  rw [less_self] at pp
  have fa := Fl.mk a (by omega)
  have fb := Fl.mk b (by omega)
  have fc := Fl.mk c (by omega)
  have fd := Fl.mk d (by omega)
  clear t1 t2 t3 t4 t5 t6
  rcases less_tri a b c d with ⟨l1, l2, hne⟩ | ⟨l1, l2, hne⟩ | ⟨l1, l2, e1, e2⟩
  · have ne := neqF fa fb fc fd hne
    rw [l1] at pq
    rw [l2] at qp
    by_cases l3 : less c d x y = true
    · have l4 := less_trans a b c d x y l1 l3
      rw [l3] at qr
      rw [l4] at pr
      clear fa fb fc fd hne l1 l2 l3 l4
      go_enter Tryd.func8, Tryd.ntmps8
      go_wp2_with fail
      refine (o1 _).mono ?_
      rintro e w1 ⟨rfl, rfl⟩
      go_wp2_with fail
      refine (o2 _).mono ?_
      rintro e w1 ⟨rfl, rfl⟩
      go_wp2_with fail
      refine (o3 _).mono ?_
      rintro e w1 ⟨rfl, rfl⟩
      go_wp2_with fail
      refine (pp _).mono ?_
      rintro e w1 ⟨rfl, rfl⟩
      go_wp2_with fail
      refine (pq _).mono ?_
      rintro e w1 ⟨rfl, rfl⟩
      go_wp2_with fail
      refine (qp _).mono ?_
      rintro e w1 ⟨rfl, rfl⟩
      go_wp2_with fail
      refine (pq _).mono ?_
      rintro e w1 ⟨rfl, rfl⟩
      go_wp2_with fail
      refine (pq _).mono ?_
      rintro e w1 ⟨rfl, rfl⟩
      go_wp2_with fail
      refine (qr _).mono ?_
      rintro e w1 ⟨rfl, rfl⟩
      go_wp2_with fail
      refine (pr _).mono ?_
      rintro e w1 ⟨rfl, rfl⟩
      go_wp2_with fail
      refine (known_true _ ht).mono ?_
      rintro e w5 ⟨rfl, k5⟩
      go_wp2
      go_ret
      exact ⟨rfl, k5⟩
    · have l3' := Bool.eq_false_iff.2 l3
      rw [l3'] at qr
      clear fa fb fc fd hne l1 l2 l3 l3' pr
      go_enter Tryd.func8, Tryd.ntmps8
      go_wp2_with fail
      refine (o1 _).mono ?_
      rintro e w1 ⟨rfl, rfl⟩
      go_wp2_with fail
      refine (o2 _).mono ?_
      rintro e w1 ⟨rfl, rfl⟩
      go_wp2_with fail
      refine (o3 _).mono ?_
      rintro e w1 ⟨rfl, rfl⟩
      go_wp2_with fail
      refine (pp _).mono ?_
      rintro e w1 ⟨rfl, rfl⟩
      go_wp2_with fail
      refine (pq _).mono ?_
      rintro e w1 ⟨rfl, rfl⟩
      go_wp2_with fail
      refine (qp _).mono ?_
      rintro e w1 ⟨rfl, rfl⟩
      go_wp2_with fail
      refine (pq _).mono ?_
      rintro e w1 ⟨rfl, rfl⟩
      go_wp2_with fail
      refine (pq _).mono ?_
      rintro e w1 ⟨rfl, rfl⟩
      go_wp2_with fail
      refine (qr _).mono ?_
      rintro e w1 ⟨rfl, rfl⟩
      go_wp2_with fail
      refine (known_true _ ht).mono ?_
      rintro e w5 ⟨rfl, k5⟩
      go_wp2
      go_ret
      exact ⟨rfl, k5⟩
  · have ne := neqF fa fb fc fd hne
    rw [l1] at pq
    rw [l2] at qp
    clear fa fb fc fd hne l1 l2 qr pr
    go_enter Tryd.func8, Tryd.ntmps8
    go_wp2_with fail
    refine (o1 _).mono ?_
    rintro e w1 ⟨rfl, rfl⟩
    go_wp2_with fail
    refine (o2 _).mono ?_
    rintro e w1 ⟨rfl, rfl⟩
    go_wp2_with fail
    refine (o3 _).mono ?_
    rintro e w1 ⟨rfl, rfl⟩
    go_wp2_with fail
    refine (pp _).mono ?_
    rintro e w1 ⟨rfl, rfl⟩
    go_wp2_with fail
    refine (pq _).mono ?_
    rintro e w1 ⟨rfl, rfl⟩
    go_wp2_with fail
    refine (pq _).mono ?_
    rintro e w1 ⟨rfl, rfl⟩
    go_wp2_with fail
    refine (qp _).mono ?_
    rintro e w1 ⟨rfl, rfl⟩
    go_wp2_with fail
    refine (pq _).mono ?_
    rintro e w1 ⟨rfl, rfl⟩
    go_wp2_with fail
    refine (known_true _ ht).mono ?_
    rintro e w5 ⟨rfl, k5⟩
    go_wp2
    go_ret
    exact ⟨rfl, k5⟩
  · have q1 := eqF fa (show Fl (floatOfInt .f64 c) a by rw [e1]; exact fc)
    have q2 := eqF fb (show Fl (floatOfInt .f64 d) b by rw [e2]; exact fd)
    rw [l1] at pq
    rw [l2] at qp
    clear fa fb fc fd l1 l2 qr pr e1 e2
    go_enter Tryd.func8, Tryd.ntmps8
    go_wp2_with fail
    refine (o1 _).mono ?_
    rintro e w1 ⟨rfl, rfl⟩
    go_wp2_with fail
    refine (o2 _).mono ?_
    rintro e w1 ⟨rfl, rfl⟩
    go_wp2_with fail
    refine (o3 _).mono ?_
    rintro e w1 ⟨rfl, rfl⟩
    go_wp2_with fail
    refine (pp _).mono ?_
    rintro e w1 ⟨rfl, rfl⟩
    go_wp2_with fail
    refine (pq _).mono ?_
    rintro e w1 ⟨rfl, rfl⟩
    go_wp2_with fail
    refine (pq _).mono ?_
    rintro e w1 ⟨rfl, rfl⟩
    go_wp2_with fail
    refine (known_true _ ht).mono ?_
    rintro e w5 ⟨rfl, k5⟩
    go_wp2
    go_ret
    exact ⟨rfl, k5⟩

set_option maxRecDepth 100000 in
theorem numOrder_lifted (os : Os) (started : os.Started) (H : Type) (enc : TypeId × Value → H) :
    ReturnsInHanded {} Tryd.checked os 8 .any (fun w args => (Rows.numOrderSpec.pre enc Tryd.prog Tryd.f8 [] false w args ∧ laidMetH Tryd.prog laid3 w) ∧ sizedMet enc Tryd.prog Tryd.f8 (OpenSpec.ofChange Rows.numOrderSpec) false w args)
      (Rows.numOrderSpec.post enc Tryd.prog Tryd.f8 false true false false) := by
  refine returnsInHanded_of_change_and (C := Tryd.checked) (X := fun w _ => laidMetH Tryd.prog laid3 w) (fun _ _ _ hh h => h.of_heap hh) own started (by kernel_rfl) Tryd.func8
    (ChangeSpec.witness_shaped (enc := enc) (C := Tryd.checked) (os := os) (X := fun w _ => laidMetH Tryd.prog laid3 w) false (World.doorLaid Tryd.prog 400 os) #[.int .i64 0, .int .i64 0, .int .i64 0, .int .i64 0, .int .i64 0, .int .i64 0] 8 rfl (World.shaped_of_RefB (by kernel_rfl) (by kernel_rfl)) (by kernel_rfl) (by kernel_rfl) (by kernel_rfl) (door_met os _)) ?_
  intro W base args ds gs before hval0 hW _ _ hL _
  have hval : ∀ (j : Nat) t v, Tryd.f8.params[j]? = some t → args[j]? = some v → Value.okWide Tryd.prog W .any base t v := hval0
  have hW' := hW
  obtain ⟨p, q, hA0, hV, rfl, hfz, hnd⟩ := hW
  have hA : DataW.TrodAll enc Tryd.prog W 0 (fun _ => true) true Tryd.f8.params.toList args.toList ds p := hA0
  rw [Tryd.params8] at hA hval
  obtain ⟨v0, vs0, d0, ds0, p0, q0, hargs, rfl, rfl, h0, r0⟩ := trodAll_cons hA
  obtain ⟨v1, vs1, d1, ds1, p1, q1, rfl, rfl, rfl, h1, r1⟩ := trodAll_cons r0
  obtain ⟨v2, vs2, d2, ds2, p2, q2, rfl, rfl, rfl, h2, r2⟩ := trodAll_cons r1
  obtain ⟨v3, vs3, d3, ds3, p3, q3, rfl, rfl, rfl, h3, r3⟩ := trodAll_cons r2
  obtain ⟨v4, vs4, d4, ds4, p4, q4, rfl, rfl, rfl, h4, r4⟩ := trodAll_cons r3
  obtain ⟨v5, vs5, d5, ds5, p5, q5, rfl, rfl, rfl, h5, r5⟩ := trodAll_cons r4
  obtain ⟨rfl, rfl, rfl⟩ := trodAll_nil r5
  obtain rfl : args = #[v0, v1, v2, v3, v4, v5] := by cases args; simp_all
  obtain ⟨rfl, rfl⟩ := trodVars_none hV
  obtain ⟨a0, rfl, rfl, rfl, w0⟩ := open_int Tryd.underlying3 (hval 0 3 v0 rfl rfl) h0
  have b0 := bounds_i64 w0
  obtain ⟨a1, rfl, rfl, rfl, w1⟩ := open_int Tryd.underlying3 (hval 1 3 v1 rfl rfl) h1
  have b1 := bounds_i64 w1
  obtain ⟨a2, rfl, rfl, rfl, w2⟩ := open_int Tryd.underlying3 (hval 2 3 v2 rfl rfl) h2
  have b2 := bounds_i64 w2
  obtain ⟨a3, rfl, rfl, rfl, w3⟩ := open_int Tryd.underlying3 (hval 3 3 v3 rfl rfl) h3
  have b3 := bounds_i64 w3
  obtain ⟨a4, rfl, rfl, rfl, w4⟩ := open_int Tryd.underlying3 (hval 4 3 v4 rfl rfl) h4
  have b4 := bounds_i64 w4
  obtain ⟨a5, rfl, rfl, rfl, w5⟩ := open_int Tryd.underlying3 (hval 5 3 v5 rfl rfl) h5
  have b5 := bounds_i64 w5
  clear hA0 hval0
  simp only [List.append_nil] at hW'
  refine (numOrder_walk a0 a1 a2 a3 a4 a5 W (of_laid hL)).mono fun e W' ⟨he, bel⟩ => ?_
  subst he
  exact ⟨_, rfl, _, _, _, [], _, [], hW', trodAll_mk1 (shut_bool Tryd.underlying4 _), (trodAll_cons_mk (shut_int Tryd.underlying3 w0) (trodAll_cons_mk (shut_int Tryd.underlying3 w1) (trodAll_cons_mk (shut_int Tryd.underlying3 w2) (trodAll_cons_mk (shut_int Tryd.underlying3 w3) (trodAll_cons_mk (shut_int Tryd.underlying3 w4) (trodAll_cons_mk (shut_int Tryd.underlying3 w5) trodAll_mk0)))))), rfl, bel.frame _, fun h => by cases h⟩

theorem numOrder_row : Rows.NumOrderSaid :=
  OpenClaim.holds_of_wide 8 Tryd.f8 rfl rfl rfl rfl rfl rfl rfl ⟨rfl, rfl, rfl, rfl, rfl⟩ rfl rfl rfl rfl rfl (by kernel_rfl) Tryd.func8 (by kernel_rfl)
    (of_decide_eq_true (by kernel_rfl)) (by unfold Func.isWrapper; first | (rw [if_pos (by decide +kernel)]; kernel_rfl) | (rw [if_neg (by decide +kernel)]; exact ⟨rfl, rfl⟩))
    (fun os started H enc _ => numOrder_lifted os started H enc)

theorem numOrder_holds : Rows.NumOrderCardSaid :=
  Claim7.holds_tied_plain_at .later [] [.data, .data, .data] true (true, "560217b44383308e6c58264b02c7de48a200efba491b2156d91fae7b25f154b9") false
    numOrder_row (fun _ h => by cases h) (by kernel_rfl) (fun _ h => by cases h) numOrder_row_tie rfl ⟨rfl, rfl⟩ (by kernel_rfl) rfl
    (fun f fn hf hfn => by
      obtain rfl : f = 8 := Option.some.inj ((show Tryd.prog.funcNamed "hawser/hawserlaw2.NumOrder" = some 8 by kernel_rfl).symm.trans hf) |>.symm
      obtain rfl : fn = Tryd.f8 := (Option.some.inj (Tryd.func8.symm.trans hfn)).symm
      exact ⟨by kernel_rfl, fun j t ht => by
        rw [Tryd.params8] at ht
        have hm : t ∈ [3, 3, 3, 3, 3, 3] := by simpa using Array.mem_of_getElem? ht
        have hall : ([3, 3, 3, 3, 3, 3].all fun u => !Tryd.prog.wantsStandIn u) = true := by kernel_rfl
        exact (show Tryd.prog.wantsStandIn t = false by simpa using List.all_eq_true.1 hall t hm)⟩)
    (by kernel_rfl)
#print axioms numOrder_holds
end Go.Proofs.YtldbfldonkcjmaaDoor
