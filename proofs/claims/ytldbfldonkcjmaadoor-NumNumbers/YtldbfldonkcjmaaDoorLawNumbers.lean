/-
  Proved: the law NumNumbers, chapter 2's runs, answers true. It has no argument. The package-level tables of the library that strconv.Itoa reads start as the program's text lays them (the card ties them); no other condition.
-/
import Derived.Test.YtldbfldonkcjmaaDoorLaid
import Derived.Test.YtldbfldonkcjmaaDoorOps
import Derived.Test.YtldbfldonkcjmaaDoorBack
import Derived.Test.YtldbfldonkcjmaaDoorTie
import Derived.Test.YtldbfldonkcjmaaDoorCards
namespace Go.Proofs.YtldbfldonkcjmaaDoor
open Go.ChangeShapes Go.WideShapes Go.ChangeAt Go.RowKit

def bad : List ByteArray := [⟨#[51, 43]⟩, ⟨#[105]⟩, ⟨#[43, 49]⟩, ⟨#[]⟩, ⟨#[45]⟩, ⟨#[49, 43, 50]⟩, ⟨#[49, 43, 50, 105, 51]⟩, ⟨#[50, 48, 57, 55, 49, 53, 50]⟩, ⟨#[49, 105, 50]⟩, ⟨#[45, 45, 49]⟩, ⟨#[49, 46, 53]⟩, ⟨#[51, 43, 45, 50, 105]⟩]
theorem bad_len : bad.length = 12 := rfl
theorem bad_no : ∀ k : Fin 12, (parseW numA (bad.getD k.val ⟨#[]⟩)) = (0, 0, false) := by decide +kernel
theorem bad_sz : ∀ k : Fin 12, (bad.getD k.val ⟨#[]⟩).size ≤ 9223372036854775806 := by decide +kernel
theorem p007 : parseW numA ⟨#[48, 48, 55]⟩ = (7, 0, true) := by decide +kernel
theorem pm0 : parseW numA ⟨#[45, 48]⟩ = (0, 0, true) := by decide +kernel
theorem p21 : parseW numA ⟨#[50, 45, 49, 105]⟩ = (2, -1, true) := by decide +kernel
theorem half_no : NotRt 4602678819172646912 := by
  intro v hv
  have h1 := (Is.toInt hv.1).1
  have h2 : (Ieee.double.read 4602678819172646912).toInt .zero = some 0 := by decide +kernel
  have h3 : v = 0 := by rw [h2] at h1; simpa using h1.symm
  have h4 := Fl.order hv.1 Fl.zero
  have h5 : Ieee.double.order 4602678819172646912 0 = some .gt := by decide +kernel
  rw [h5, h3] at h4
  exact absurd h4 (by decide)
theorem m1Rt : Rt 13830554455654793216 (-1) := by
  have e : floatOfInt .f64 (-1) = 13830554455654793216 := by decide +kernel
  rw [← e]
  exact flRt (-1) (by decide)
theorem fl7 : floatOfInt .f64 7 = 4619567317775286272 := by decide +kernel
theorem t21 : text 2 1 = ⟨#[50, 43, 49, 105]⟩ := by
  have e1 : itoaS 2 = ⟨#[50]⟩ := by
    unfold itoaS Lib.itoa
    rw [if_neg (by decide), show (2 : Int).toNat = 2 from rfl, dec_small (by decide)]
    rfl
  have e2 : itoaS 1 = ⟨#[49]⟩ := by
    unfold itoaS Lib.itoa
    rw [if_neg (by decide), show (1 : Int).toNat = 1 from rfl, dec_small (by decide)]
    rfl
  unfold text
  rw [if_neg (by decide), if_neg (by decide), if_pos (by decide), e1, e2]
  rfl
theorem t0 : text 0 0 = ⟨#[48]⟩ := by
  have e1 : itoaS 0 = ⟨#[48]⟩ := by
    unfold itoaS Lib.itoa
    rw [if_neg (by decide), show (0 : Int).toNat = 0 from rfl, dec_small (by decide)]
    rfl
  unfold text
  rw [if_pos rfl, e1]
def badCells : Array Value := (bad.map Value.string).toArray
theorem bad_cell (w : World) (t : TypeId) (k : Nat) (hk : k < 12) : (w.alloc (.cells badCells t)).cell? ⟨w.heap.size, k, none⟩ = some (.string (bad.getD k ⟨#[]⟩)) := by
  have h : (w.alloc (.cells badCells t)).heap[w.heap.size]? = some (.cells badCells t) := heap_alloc_new w _
  have e : (w.alloc (.cells badCells t)).cell? ⟨w.heap.size, k, none⟩ = badCells[k]? := cell_of_row _ _ _ _ _ _ h
  rw [e]
  have : ∀ k : Fin 12, badCells[k.val]? = some (.string (bad.getD k.val ⟨#[]⟩)) := by
    intro k
    match k with
    | ⟨0, _⟩ => rfl | ⟨1, _⟩ => rfl | ⟨2, _⟩ => rfl | ⟨3, _⟩ => rfl | ⟨4, _⟩ => rfl | ⟨5, _⟩ => rfl | ⟨6, _⟩ => rfl | ⟨7, _⟩ => rfl | ⟨8, _⟩ => rfl | ⟨9, _⟩ => rfl | ⟨10, _⟩ => rfl | ⟨11, _⟩ => rfl
  exact this ⟨k, hk⟩

set_option maxHeartbeats 3200000 in
set_option maxRecDepth 1000000 in
theorem numNumbers_walk (w : World) (ht : Tab w) : Calls Tryd.prog 3 #[] w (KnownE w) := by
  go_enter Tryd.func3, Tryd.ntmps3
  go_wp2
  go_loopg [31] 12 (fun g i wr => ∃ k : Nat, g + k = 12 ∧ i = .int .i64 k ∧ (∀ j, j < 12 → wr.cell? ⟨w.heap.size, j, none⟩ = some (.string (bad.getD j ⟨#[]⟩))) ∧ Below w.heap.size w wr)
  case atStart => exact ⟨0, rfl, rfl, fun j hj => bad_cell w 9 j hj, (Below.refl _ w).alloc (Nat.le_refl _) _⟩
  case round =>
    obtain ⟨k, hg, rfl, hcell, bel⟩ := hrel
    by_cases hk : k < 12
    · have hc := hcell k hk
      have hp := parse (bad.getD k ⟨#[]⟩) (bad_sz ⟨k, hk⟩)
      have hno : parseW numA (bad.getD k ⟨#[]⟩) = (0, 0, false) := bad_no ⟨k, hk⟩
      rw [hno] at hp
      clear hno
      generalize bad.getD k ⟨#[]⟩ = s at hc hp
      have HC : Hid (∀ j, j < 12 → wr.cell? ⟨w.heap.size, j, none⟩ = some (.string (bad.getD j ⟨#[]⟩))) := hcell
      clear hcell
      go_wp2_with fail
      refine (hp _).mono ?_
      rintro e w1 ⟨rfl, n1, rfl⟩
      go_wp2
      go_roundg (12 - (k + 1))
      case measure => omega
      case rel => exact ⟨k + 1, by omega, by go_num, fun j hj => HC.out j hj, bel.trans (show Below w.heap.size wr (wr.drewN n1) from ⟨rfl, rfl, rfl, Nat.le_refl _, fun _ _ => rfl⟩)⟩
    · clear hcell
      have hB : ∀ n, Below w.heap.size w (wr.drewN n) := fun n => bel.trans (show Below w.heap.size wr (wr.drewN n) from ⟨rfl, rfl, rfl, Nat.le_refl _, fun _ _ => rfl⟩)
      have hT : ∀ n, Tab (wr.drewN n) := fun n => ht.below (hB n)
      have P1 := parse ⟨#[48, 48, 55]⟩ (by decide)
      have P2 := parse ⟨#[45, 48]⟩ (by decide)
      have P3 := parse ⟨#[50, 45, 49, 105]⟩ (by decide)
      rw [p007] at P1
      rw [pm0] at P2
      rw [p21] at P3
      have O1 := one_right ⟨#[110, 101, 103]⟩ 0 0 0 0 (by decide) (by decide) zeroRt zeroRt
      rw [show one ⟨#[110, 101, 103]⟩ 0 0 = (0, 0, 0) by decide +kernel] at O1
      have M1 := two_right ⟨#[109, 117, 108]⟩ (floatOfInt .f64 0) (floatOfInt .f64 3) (floatOfInt .f64 0) (floatOfInt .f64 0) 0 3 0 0 (fl_lt _) (fl_lt _) (fl_lt _) (fl_lt _) (flRt _ (by decide)) (flRt _ (by decide)) (flRt _ (by decide)) (flRt _ (by decide))
      rw [show two ⟨#[109, 117, 108]⟩ 0 3 0 0 = (0, 0, 0) by decide +kernel] at M1
      have M2 := two_right ⟨#[109, 117, 108]⟩ 0 0 (floatOfInt .f64 (-5)) (floatOfInt .f64 0) 0 0 (-5) 0 (by decide) (by decide) (fl_lt _) (fl_lt _) zeroRt zeroRt (flRt _ (by decide)) (flRt _ (by decide))
      rw [show two ⟨#[109, 117, 108]⟩ 0 0 (-5) 0 = (0, 0, 0) by decide +kernel] at M2
      have O2 := one_right ⟨#[97, 100, 100]⟩ 4607182418800017408 0 1 0 (by decide) (by decide) oneRt zeroRt
      rw [show one ⟨#[97, 100, 100]⟩ 1 0 = (0, 0, 1) by decide +kernel] at O2
      have M3 := two_right ⟨#[110, 101, 103]⟩ 4607182418800017408 0 4607182418800017408 0 1 0 1 0 (by decide) (by decide) (by decide) (by decide) oneRt zeroRt oneRt zeroRt
      rw [show two ⟨#[110, 101, 103]⟩ 1 0 1 0 = (0, 0, 1) by decide +kernel] at M3
      have M4 := two_arg ⟨#[97, 100, 100]⟩ 4602678819172646912 0 4607182418800017408 0 (by decide) (by decide) (by decide) (by decide) (.inl (.inl half_no))
      have I1 := index_right (floatOfInt .f64 3) (floatOfInt .f64 0) 3 0 (fl_lt _) (fl_lt _) (flRt _ (by decide)) (flRt _ (by decide))
      rw [show index 3 0 = (3, true) by decide] at I1
      have I2 := index_right (floatOfInt .f64 3) (floatOfInt .f64 1) 3 1 (fl_lt _) (fl_lt _) (flRt _ (by decide)) (flRt _ (by decide))
      rw [show index 3 1 = (0, false) by decide] at I2
      have I3 := index_right 13830554455654793216 0 (-1) 0 (by decide) (by decide) m1Rt zeroRt
      rw [show index (-1) 0 = (0, false) by decide] at I3
      have T1 := text_right (floatOfInt .f64 2) (floatOfInt .f64 1) 2 1 (fl_lt _) (fl_lt _) (flRt _ (by decide)) (flRt _ (by decide))
      rw [t21] at T1
      have T2 := text_right 0 0 0 0 (by decide) (by decide) zeroRt zeroRt
      rw [t0] at T2
      have T3 := text_no 4602678819172646912 0 (by decide) (by decide) (.inl half_no)
      have R1 := right_no 4602678819172646912 0 (by decide) (by decide) (.inl half_no)
      have R2 := right_yes (floatOfInt .f64 (-1048576)) (floatOfInt .f64 1048576) (-1048576) 1048576 (fl_lt _) (fl_lt _) (flRt _ (by decide)) (flRt _ (by decide))
      have R3 := right_no (floatOfInt .f64 1048577) (floatOfInt .f64 0) (fl_lt _) (fl_lt _) (.inl (not_rt (Fl.mk 1048577 (by decide)) (by decide)))
      have hq : ∀ w : World, (binOp .quo 31 (.float .f64 4607182418800017408) (.float .f64 0)).run Tryd.prog w = .ok (.float .f64 9218868437227405312) w := fun w => run_float_arith w .quo 31 .f64 _ _ _ (by decide +kernel)
      have hinf : (FloatKind.f64.format.order 9218868437227405312 0 == some .gt) = true := by decide +kernel
      have e7 : (FloatKind.f64.format.order (floatOfInt .f64 7) 4619567317775286272 == some .eq) = true := by rw [fl7]; decide +kernel
      have e0 : (FloatKind.f64.format.order 0 0 == some .eq) = true := by decide +kernel
      have e2 : (FloatKind.f64.format.order (floatOfInt .f64 2) (floatOfInt .f64 2) == some .eq) = true := eqF (Fl.mk 2 (by decide)) (Fl.mk 2 (by decide))
      have em1 : (FloatKind.f64.format.order (floatOfInt .f64 (-1)) (floatOfInt .f64 (-1)) == some .eq) = true := eqF (Fl.mk (-1) (by decide)) (Fl.mk (-1) (by decide))
      unfold ParseE at P1 P2 P3
      simp only [fl_zero] at P1 P2 P3
      go_wp2_with fail
      refine (P1 _).mono ?_
      rintro e w9 ⟨rfl, n1, rfl⟩
      go_wp2_with fail
      refine (P2 _).mono ?_
      rintro e w9 ⟨rfl, n2, rfl⟩
      go_wp2_with fail
      refine (P3 _).mono ?_
      rintro e w9 ⟨rfl, n3, rfl⟩
      go_wp2_with fail
      refine (O1 _).mono ?_
      rintro e w9 ⟨r1, r2, rfl, -, -, z1, z2, -, -, rfl⟩
      obtain rfl : r1 = 0 := z1 rfl
      obtain rfl : r2 = 0 := z2 rfl
      clear z1 z2
      go_wp2_with fail
      refine (ofC (0) (3) _).mono ?_
      rintro e w9 ⟨rfl, rfl⟩
      go_wp2_with fail
      refine (ofC (0) (0) _).mono ?_
      rintro e w9 ⟨rfl, rfl⟩
      go_wp2_with fail
      refine (M1 _).mono ?_
      rintro e w9 ⟨r3, r4, rfl, -, -, z1, z2, -, -, rfl⟩
      obtain rfl : r3 = 0 := z1 rfl
      obtain rfl : r4 = 0 := z2 rfl
      clear z1 z2
      go_wp2_with fail
      refine (ofC (-5) (0) _).mono ?_
      rintro e w9 ⟨rfl, rfl⟩
      go_wp2_with fail
      refine (M2 _).mono ?_
      rintro e w9 ⟨r5, r6, rfl, -, -, z1, z2, -, -, rfl⟩
      obtain rfl : r5 = 0 := z1 rfl
      obtain rfl : r6 = 0 := z2 rfl
      clear z1 z2
      go_wp2_with fail
      refine (O2 _).mono ?_
      rintro e w9 ⟨r7, r8, rfl, -, -, z1, z2, -, -, rfl⟩
      obtain rfl : r7 = 0 := z1 rfl
      obtain rfl : r8 = 0 := z2 rfl
      clear z1 z2
      go_wp2_with fail
      refine (M3 _).mono ?_
      rintro e w9 ⟨r9, ra, rfl, -, -, z1, z2, -, -, rfl⟩
      obtain rfl : r9 = 0 := z1 rfl
      obtain rfl : ra = 0 := z2 rfl
      clear z1 z2
      go_wp2_with fail
      refine (M4 _).mono ?_
      rintro e w9 ⟨rb, rc, rfl, -, -, z1, z2, -, -, rfl⟩
      obtain rfl : rb = 0 := z1 rfl
      obtain rfl : rc = 0 := z2 rfl
      clear z1 z2
      go_wp2_with fail
      refine (ofC (3) (0) _).mono ?_
      rintro e w9 ⟨rfl, rfl⟩
      go_wp2_with fail
      refine (I1 _).mono ?_
      rintro e w9 ⟨rfl, rfl⟩
      go_wp2_with fail
      refine (ofC (3) (1) _).mono ?_
      rintro e w9 ⟨rfl, rfl⟩
      go_wp2_with fail
      refine (I2 _).mono ?_
      rintro e w9 ⟨rfl, rfl⟩
      go_wp2_with fail
      refine (I3 _).mono ?_
      rintro e w9 ⟨rfl, rfl⟩
      go_wp2_with fail
      refine (ofC (2) (-1) _).mono ?_
      rintro e w9 ⟨rfl, rfl⟩
      go_wp2_with fail
      refine (ofC (2) (1) _).mono ?_
      rintro e w9 ⟨rfl, rfl⟩
      go_wp2_with fail
      refine (T1 _ (hT _)).mono ?_
      rintro e w2 ⟨rfl, k2⟩
      have b2 := (hB _).trans (k2.mono (hB _).size)
      clear k2
      go_wp2_with fail
      refine (T2 _ (ht.below b2)).mono ?_
      rintro e w3 ⟨rfl, k3⟩
      have b3 := b2.trans (k3.mono b2.size)
      clear k3
      go_wp2_with fail
      refine (T3 _).mono ?_
      rintro e w4 ⟨rfl, k4⟩
      have b4 := b3.trans (k4.mono b3.size)
      clear k4
      go_wp2_with fail
      refine (R1 _).mono ?_
      rintro e w9 ⟨rfl, rfl⟩
      go_wp2_with fail
      refine (ofC (-1048576) (1048576) _).mono ?_
      rintro e w9 ⟨rfl, rfl⟩
      go_wp2_with fail
      refine (R2 _).mono ?_
      rintro e w9 ⟨rfl, rfl⟩
      go_wp2_with fail
      refine (ofC (1048577) (0) _).mono ?_
      rintro e w9 ⟨rfl, rfl⟩
      go_wp2_with fail
      refine (R3 _).mono ?_
      rintro e w9 ⟨rfl, rfl⟩
      go_wp2_with fail
      refine (known_true _ (ht.below b4)).mono ?_
      rintro e w5 ⟨rfl, k5⟩
      have b5 := b4.trans (k5.mono b4.size)
      go_wp2
      go_ret
      exact ⟨rfl, b5⟩

set_option maxRecDepth 100000 in
theorem numNumbers_lifted (os : Os) (started : os.Started) (H : Type) (enc : TypeId × Value → H) :
    ReturnsInHanded {} Tryd.checked os 3 .any (fun w args => (Rows.numNumbersSpec.pre enc Tryd.prog Tryd.f3 [] false w args ∧ laidMetH Tryd.prog laid3 w) ∧ sizedMet enc Tryd.prog Tryd.f3 (OpenSpec.ofChange Rows.numNumbersSpec) false w args)
      (Rows.numNumbersSpec.post enc Tryd.prog Tryd.f3 false true false false) := by
  refine returnsInHanded_of_change_and (C := Tryd.checked) (X := fun w _ => laidMetH Tryd.prog laid3 w) (fun _ _ _ hh h => h.of_heap hh) own started (by kernel_rfl) Tryd.func3
    (ChangeSpec.witness_shaped (enc := enc) (C := Tryd.checked) (os := os) (X := fun w _ => laidMetH Tryd.prog laid3 w) false (World.doorLaid Tryd.prog 400 os) #[] 8 rfl (World.shaped_of_RefB (by kernel_rfl) (by kernel_rfl)) (by kernel_rfl) (by kernel_rfl) (by kernel_rfl) (door_met os _)) ?_
  intro W base args ds gs before hval0 hW _ _ hL _
  have hval : ∀ (j : Nat) t v, Tryd.f3.params[j]? = some t → args[j]? = some v → Value.okWide Tryd.prog W .any base t v := hval0
  have hW' := hW
  obtain ⟨p, q, hA0, hV, rfl, hfz, hnd⟩ := hW
  have hA : DataW.TrodAll enc Tryd.prog W 0 (fun _ => true) true Tryd.f3.params.toList args.toList ds p := hA0
  rw [Tryd.params3] at hA hval
  obtain ⟨h0a, h0b, h0c⟩ := trodAll_nil hA
  obtain rfl : args = #[] := by cases args; simp_all
  subst h0b h0c
  obtain ⟨rfl, rfl⟩ := trodVars_none hV
  clear hA0 hval0
  simp only [List.append_nil] at hW'
  refine (numNumbers_walk W (of_laid hL)).mono fun e W' ⟨he, bel⟩ => ?_
  subst he
  exact ⟨_, rfl, _, _, _, [], _, [], hW', trodAll_mk1 (shut_bool Tryd.underlying4 _), trodAll_mk0, rfl, bel.frame _, fun h => by cases h⟩

theorem numNumbers_row : Rows.NumNumbersSaid :=
  OpenClaim.holds_of_wide 3 Tryd.f3 rfl rfl rfl rfl rfl rfl rfl ⟨rfl, rfl, rfl, rfl, rfl⟩ rfl rfl rfl rfl rfl (by kernel_rfl) Tryd.func3 (by kernel_rfl)
    (of_decide_eq_true (by kernel_rfl)) (by unfold Func.isWrapper; first | (rw [if_pos (by decide +kernel)]; kernel_rfl) | (rw [if_neg (by decide +kernel)]; exact ⟨rfl, rfl⟩))
    (fun os started H enc _ => numNumbers_lifted os started H enc)

theorem numNumbers_holds : Rows.NumNumbersCardSaid :=
  Claim7.holds_tied_plain_at .later [] [.data, .data, .data] true (true, "560217b44383308e6c58264b02c7de48a200efba491b2156d91fae7b25f154b9") false
    numNumbers_row (fun _ h => by cases h) (by kernel_rfl) (fun _ h => by cases h) numNumbers_row_tie rfl ⟨rfl, rfl⟩ (by kernel_rfl) rfl
    (fun f fn hf hfn => by
      obtain rfl : f = 3 := Option.some.inj ((show Tryd.prog.funcNamed "hawser/hawserlaw2.NumNumbers" = some 3 by kernel_rfl).symm.trans hf) |>.symm
      obtain rfl : fn = Tryd.f3 := (Option.some.inj (Tryd.func3.symm.trans hfn)).symm
      exact ⟨by kernel_rfl, fun j t ht => by
        rw [Tryd.params3] at ht
        simp at ht⟩)
    (by kernel_rfl)
#print axioms numNumbers_holds
end Go.Proofs.YtldbfldonkcjmaaDoor
