/-
  The statement of chapter 11's runs: it is true. No condition.
-/
import Derived.ProofKit
import Derived.OpenShut
import Derived.SizedLaws
import Derived.ChangeShapes
import Derived.WideShapes
import Derived.ChangeMaps
import Derived.Test.YtcokihblicgbpaaRows
import Derived.Test.YtcokihblicgbpaaCapKnownZ
namespace Go.Proofs.Ytcokihblicgbpaa
open Go.ChangeShapes Go.WideShapes Go.ChangeAt Go.RowKit
open Go.ChangeMaps (open_string shut_string)

theorem ce_A (u : World) : Calls Try.prog 6 #[.string ⟨#[40, 102, 110, 32, 40, 40, 120, 32, 110, 117, 109, 41, 41, 32, 110, 117, 109, 32, 120, 41]⟩] u (ExA (runE sA) u) := exprW_ok _ _ _ run_A.1 run_A.2.1 u
theorem ce_B (u : World) : Calls Try.prog 6 #[.string ⟨#[110, 46, 120]⟩] u (ExA (runE sB) u) := exprW_ok _ _ _ run_B.1 run_B.2.1 u
theorem ce_C (u : World) : Calls Try.prog 6 #[.string ⟨#[40, 109, 97, 116, 99, 104, 32, 116, 32, 40, 40, 65, 32, 117, 41, 32, 117, 41, 32, 40, 40, 66, 32, 118, 32, 119, 41, 32, 40, 108, 101, 116, 32, 122, 32, 118, 32, 117, 41, 41, 41]⟩] u (ExA (runE sC) u) := exprW_ok _ _ _ run_C.1 run_C.2.1 u
theorem ce_D (u : World) : Calls Try.prog 6 #[.string ⟨#[40, 108, 101, 116, 32, 120, 32, 120, 32, 40, 102, 110, 32, 40, 40, 121, 32, 110, 117, 109, 41, 41, 32, 110, 117, 109, 32, 40, 97, 100, 100, 32, 120, 32, 40, 97, 100, 100, 32, 121, 32, 122, 41, 41, 41, 41]⟩] u (ExA (runE sD) u) := exprW_ok _ _ _ run_D.1 run_D.2.1 u
set_option maxRecDepth 1000000 in
set_option maxHeartbeats 4000000 in
theorem captureNumbers_walk (w : World) : Calls Try.prog 3 #[] w (KnE w) := by
  have hB0 : Below w.heap.size w w := Below.refl _ _
  go_enter Try.func3, Try.ntmps3
  go_wp2_with fail
  refine (ce_A w).mono ?_
  rintro r w1 ⟨kA, pA, aA, rfl, hx, hb⟩
  have hn := heap_alloc_new w1 (.cells z9 27)
  have hsh := xi_shapes hx
  simp only [z9] at hn
  go_wp2_with (refine store_ex rfl (.tmp 1) (.tmp 11) rfl w1.heap.size (runE sA) kA pA aA rfl rfl hsh _ hn rfl ?_; intro w2 hB hK)
  obtain ⟨HA, hb2⟩ := EB.put hx hB hK
  replace hB0 := (hB0.trans (hb.mono hB0.size)).trans (hb2.mono (hB0.trans (hb.mono hB0.size)).size)
  clear hn hsh hx hB hK hb hb2
  refine (ce_B w2).mono ?_
  rintro r w3 ⟨kB, pB, aB, rfl, hx, hb⟩
  have hn := heap_alloc_new w3 (.cells z9 27)
  have hsh := xi_shapes hx
  simp only [z9] at hn
  go_wp2_with (refine store_ex rfl (.tmp 3) (.tmp 15) rfl w3.heap.size (runE sB) kB pB aB rfl rfl hsh _ hn rfl ?_; intro w4 hB hK)
  obtain ⟨HB, hb2⟩ := EB.put hx hB hK
  replace HA := (HA.below hb).below hb2
  replace hB0 := (hB0.trans (hb.mono hB0.size)).trans (hb2.mono (hB0.trans (hb.mono hB0.size)).size)
  clear hn hsh hx hB hK hb hb2
  refine (ce_C w4).mono ?_
  rintro r w5 ⟨kC, pC, aC, rfl, hx, hb⟩
  have hn := heap_alloc_new w5 (.cells z9 27)
  have hsh := xi_shapes hx
  simp only [z9] at hn
  go_wp2_with (refine store_ex rfl (.tmp 5) (.tmp 19) rfl w5.heap.size (runE sC) kC pC aC rfl rfl hsh _ hn rfl ?_; intro w6 hB hK)
  obtain ⟨HC, hb2⟩ := EB.put hx hB hK
  replace HA := (HA.below hb).below hb2
  replace HB := (HB.below hb).below hb2
  replace hB0 := (hB0.trans (hb.mono hB0.size)).trans (hb2.mono (hB0.trans (hb.mono hB0.size)).size)
  clear hn hsh hx hB hK hb hb2
  refine (ce_D w6).mono ?_
  rintro r w7 ⟨kD, pD, aD, rfl, hx, hb⟩
  have hn := heap_alloc_new w7 (.cells z9 27)
  have hsh := xi_shapes hx
  simp only [z9] at hn
  go_upto_region 5 with (refine store_ex rfl (.tmp 7) (.tmp 23) rfl w7.heap.size (runE sD) kD pD aD rfl rfl hsh _ hn rfl ?_; intro w8 hB hK)
  obtain ⟨HD, hb2⟩ := EB.put hx hB hK
  replace HA := (HA.below hb).below hb2
  replace HB := (HB.below hb).below hb2
  replace HC := (HC.below hb).below hb2
  replace hB0 := (hB0.trans (hb.mono hB0.size)).trans (hb2.mono (hB0.trans (hb.mono hB0.size)).size)
  clear hn hsh hx hB hK hb hb2
  go_wp2_with (refine load_ex rfl (.tmp 1) rfl w1.heap.size (runE sA) kA pA aA rfl HA.bx ?_)
  refine (HA.free run_A.2.2 _ free_A).mono ?_
  rintro r w9 ⟨v, rfl, ho, hb⟩
  obtain ⟨vs, vc, rfl⟩ : ∃ vs vc, v = .slice vs 0 vc := by rcases ho.2 with ⟨rfl, _⟩ | ⟨g, cap, cur, rfl, _⟩; exact ⟨_, _, rfl⟩; exact ⟨_, _, rfl⟩
  clear ho
  replace HA := HA.below hb
  replace HB := HB.below hb
  replace HC := HC.below hb
  replace HD := HD.below hb
  replace hB0 := hB0.trans (hb.mono hB0.size)
  clear hb
  go_wp2_with (refine load_exG (by rfl) (.tmp 3) rfl w3.heap.size (runE sB) kB pB aB rfl HB.bx ?_)
  refine (HB.free run_B.2.2 _ free_B).mono ?_
  rintro r w10 ⟨v, rfl, ho, hb⟩
  obtain ⟨vs, vc, rfl⟩ : ∃ vs vc, v = .slice vs 0 vc := by rcases ho.2 with ⟨rfl, _⟩ | ⟨g, cap, cur, rfl, _⟩; exact ⟨_, _, rfl⟩; exact ⟨_, _, rfl⟩
  clear ho
  replace HA := HA.below hb
  replace HB := HB.below hb
  replace HC := HC.below hb
  replace HD := HD.below hb
  replace hB0 := hB0.trans (hb.mono hB0.size)
  clear hb
  go_wp2_with (refine load_exG (by rfl) (.tmp 5) rfl w5.heap.size (runE sC) kC pC aC rfl HC.bx ?_)
  refine (HC.free run_C.2.2 _ free_C).mono ?_
  rintro r w11 ⟨v, rfl, ho, hb⟩
  obtain ⟨gv, cv, rfl⟩ := ownsRow_succ (k := 1) ho
  have hsa := same2 _ 116 117 w10 w11 ho
  clear ho
  replace HA := HA.below hb
  replace HB := HB.below hb
  replace HC := HC.below hb
  replace HD := HD.below hb
  replace hB0 := hB0.trans (hb.mono hB0.size)
  clear hb
  have hb6 : Below w11.heap.size w11 (w11.alloc (.cells #[.string ⟨#[116]⟩, .string ⟨#[117]⟩] 9)) := (Below.refl _ w11).alloc (Nat.le_refl _) _
  go_wp2_with fail
  refine hsa.mono ?_
  rintro r w12 ⟨rfl, hw6⟩
  have hb : Below w11.heap.size w11 w12 := by
    obtain ⟨n, rfl⟩ := hw6
    exact ⟨hb6.os, hb6.tape, hb6.output, hb6.size, hb6.block⟩
  clear hsa hw6 hb6
  replace HA := HA.below hb
  replace HB := HB.below hb
  replace HC := HC.below hb
  replace HD := HD.below hb
  replace hB0 := hB0.trans (hb.mono hB0.size)
  clear hb
  go_wp2_with (refine load_exG (by rfl) (.tmp 5) rfl w5.heap.size (runE sC) kC pC aC rfl HC.bx ?_)
  refine (HC.loc run_C.2.2 _ loc_C).mono ?_
  rintro r w13 ⟨rfl, hb⟩
  replace HA := HA.below hb
  replace HB := HB.below hb
  replace HC := HC.below hb
  replace HD := HD.below hb
  replace hB0 := hB0.trans (hb.mono hB0.size)
  clear hb
  go_wp2_with (refine load_exG (by rfl) (.tmp 7) rfl w7.heap.size (runE sD) kD pD aD rfl HD.bx ?_)
  refine (HD.free run_D.2.2 _ free_D).mono ?_
  rintro r w14 ⟨v, rfl, ho, hb⟩
  obtain ⟨gv, cv, rfl⟩ := ownsRow_succ (k := 1) ho
  have hsa := same2 _ 120 122 w13 w14 ho
  clear ho
  replace HA := HA.below hb
  replace HB := HB.below hb
  replace HC := HC.below hb
  replace HD := HD.below hb
  replace hB0 := hB0.trans (hb.mono hB0.size)
  clear hb
  have hb6 : Below w14.heap.size w14 (w14.alloc (.cells #[.string ⟨#[120]⟩, .string ⟨#[122]⟩] 9)) := (Below.refl _ w14).alloc (Nat.le_refl _) _
  go_wp2_with fail
  refine hsa.mono ?_
  rintro r w15 ⟨rfl, hw6⟩
  have hb : Below w14.heap.size w14 w15 := by
    obtain ⟨n, rfl⟩ := hw6
    exact ⟨hb6.os, hb6.tape, hb6.output, hb6.size, hb6.block⟩
  clear hsa hw6 hb6
  replace HA := HA.below hb
  replace HB := HB.below hb
  replace HC := HC.below hb
  replace HD := HD.below hb
  replace hB0 := hB0.trans (hb.mono hB0.size)
  clear hb
  go_wp2_with (refine load_exG (by rfl) (.tmp 7) rfl w7.heap.size (runE sD) kD pD aD rfl HD.bx ?_)
  refine (HD.loc run_D.2.2 _ loc_D).mono ?_
  rintro r w16 ⟨rfl, hb⟩
  replace HA := HA.below hb
  replace HB := HB.below hb
  replace HC := HC.below hb
  replace HD := HD.below hb
  replace hB0 := hB0.trans (hb.mono hB0.size)
  clear hb
  go_wp2_with (refine load_exG (by rfl) (.tmp 3) rfl w3.heap.size (runE sB) kB pB aB rfl HB.bx ?_)
  refine (HB.dep run_B.2.2 _ dep_B).mono ?_
  rintro r w17 ⟨rfl, hb⟩
  replace HA := HA.below hb
  replace HB := HB.below hb
  replace HC := HC.below hb
  replace HD := HD.below hb
  replace hB0 := hB0.trans (hb.mono hB0.size)
  clear hb
  go_wp2_with (refine load_exG (by rfl) (.tmp 3) rfl w3.heap.size (runE sB) kB pB aB rfl HB.bx ?_)
  refine (HB.cnt run_B.2.2 _ cnt_B).mono ?_
  rintro r w18 ⟨rfl, hb⟩
  replace HA := HA.below hb
  replace HB := HB.below hb
  replace HC := HC.below hb
  replace HD := HD.below hb
  replace hB0 := hB0.trans (hb.mono hB0.size)
  clear hb
  go_wp2_with (refine load_exG (by rfl) (.tmp 5) rfl w5.heap.size (runE sC) kC pC aC rfl HC.bx ?_)
  refine (HC.dep run_C.2.2 _ dep_C).mono ?_
  rintro r w19 ⟨rfl, hb⟩
  replace HA := HA.below hb
  replace HB := HB.below hb
  replace HC := HC.below hb
  replace HD := HD.below hb
  replace hB0 := hB0.trans (hb.mono hB0.size)
  clear hb
  go_wp2_with (refine load_exG (by rfl) (.tmp 5) rfl w5.heap.size (runE sC) kC pC aC rfl HC.bx ?_)
  refine (HC.cnt run_C.2.2 _ cnt_C).mono ?_
  rintro r w20 ⟨rfl, hb⟩
  replace HA := HA.below hb
  replace HB := HB.below hb
  replace HC := HC.below hb
  replace HD := HD.below hb
  replace hB0 := hB0.trans (hb.mono hB0.size)
  clear hb
  go_wp2_with fail
  refine (known11 w20).mono ?_
  rintro r w21 ⟨rfl, hb⟩
  replace hB0 := hB0.trans (hb.mono hB0.size)
  clear hb HA HB HC HD
  go_wp2
  go_ret
  exact ⟨rfl, hB0⟩

theorem ownCaptureNumbers : ownKnob Try.prog.godebug = none := by kernel_rfl
set_option maxRecDepth 100000 in
theorem captureNumbers_lifted (os : Os) (started : os.Started) (H : Type) (enc : TypeId × Value → H) :
    ReturnsInHanded {} Try.checked os 3 .any (Rows.captureNumbersSpec.pre6 enc Try.prog Try.f3 Rows.captureNumbersRow.domain false) (Rows.captureNumbersSpec.post enc Try.prog Try.f3 false true false false) := by
  refine returnsInHanded_of_change (C := Try.checked) ownCaptureNumbers started (by kernel_rfl) Try.func3
    (ChangeSpec.witness6 (enc := enc) (C := Try.checked) false ⟨#[], #[], []⟩ 8 (by kernel_rfl) (by kernel_rfl) (by kernel_rfl) (by kernel_rfl)) ?_
  intro W base args ds gs before hval0 hW hcnd _
  have hval : ∀ (j : Nat) t v, Try.f3.params[j]? = some t → args[j]? = some v → Value.okWide Try.prog W .any base t v := hval0
  have hW' := hW
  obtain ⟨p, q, hA0, hV, rfl, hfz, hnd⟩ := hW
  have hA : DataW.TrodAll enc Try.prog W 0 (fun _ => true) true Try.f3.params.toList args.toList ds p := hA0
  rw [Try.params3] at hA
  obtain ⟨hargs, rfl, rfl⟩ := trodAll_nil hA
  obtain rfl : args = #[] := by cases args; simp_all
  obtain ⟨rfl, rfl⟩ := trodVars_none hV
  clear hA0 hval0
  refine (captureNumbers_walk W).mono fun e W' ⟨he, bel⟩ => ?_
  subst he
  exact ⟨_, rfl, _, _, _, [], _, [], hW', trodAll_mk1 (shut_bool Try.underlying4 _), trodAll_mk0, rfl, bel.frame _, fun h => by cases h⟩

theorem captureNumbers_holds : Rows.CaptureNumbersSaid :=
  OpenClaim.holds_of_wide 3 Try.f3 rfl rfl rfl rfl rfl rfl rfl ⟨rfl, rfl, rfl, rfl, rfl⟩ rfl rfl rfl rfl rfl (by kernel_rfl) Try.func3 (by kernel_rfl)
    (of_decide_eq_true (by kernel_rfl)) (by unfold Func.isWrapper; first | (rw [if_pos (by decide +kernel)]; kernel_rfl) | (rw [if_neg (by decide +kernel)]; exact ⟨rfl, rfl⟩))
    (fun os started H enc _ => captureNumbers_lifted os started H enc)
#print axioms captureNumbers_holds
end Go.Proofs.Ytcokihblicgbpaa
