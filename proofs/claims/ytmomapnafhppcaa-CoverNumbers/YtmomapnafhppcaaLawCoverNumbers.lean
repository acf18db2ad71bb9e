/-
  The statement of chapter 10's runs: it is true. No condition.
-/
import Derived.ProofKit
import Derived.OpenShut
import Derived.SizedLaws
import Derived.ChangeShapes
import Derived.WideShapes
import Derived.ChangeMaps
import Derived.Test.YtmomapnafhppcaaRows
import Derived.Test.YtmomapnafhppcaaCovKnown
namespace Go.Proofs.Ytmomapnafhppcaa
open Go.ChangeShapes Go.WideShapes Go.ChangeAt Go.RowKit
open Go.ChangeMaps (open_string shut_string)

theorem kMiss0 (u : World) (t : TypeId) : Calls Try.prog 8 #[.slice none 0 0, .slice (some ⟨u.heap.size, 0, none⟩) 1 1] (u.alloc (.cells #[.string ⟨#[65]⟩] t)) (TxsE [] u) := missAt [] [[65]] _ u t 1 rfl (CaR.nil _) (by decide) (by decide) (by decide) (by decide)
theorem kExtraA (v : Value) (u : World) (t : TypeId) (hv : CaR u v [[65], [66]]) : Calls Try.prog 9 #[v, .slice (some ⟨u.heap.size, 0, none⟩) 1 1] (u.alloc (.cells #[.string ⟨#[65]⟩] t)) (TxsE [] u) := extraAt [[65], [66]] [[65]] v u t 1 rfl hv (by decide) (by decide) (by decide) (by decide)
theorem kExtraC (v : Value) (u : World) (t : TypeId) (hv : CaR u v [[65], [66]]) : Calls Try.prog 9 #[v, .slice (some ⟨u.heap.size, 0, none⟩) 2 2] (u.alloc (.cells #[.string ⟨#[109, 46, 67]⟩, .string ⟨#[66]⟩] t)) (TxsE [[109, 46, 67]] u) := extraAt [[65], [66]] [[109, 46, 67], [66]] v u t 2 rfl hv (by decide) (by decide) (by decide) (by decide)
theorem kSameMC (v : Value) (u : World) (t : TypeId) (hv : StrRow u v [[109, 46, 67]]) : Calls Try.prog 10 #[v, .slice (some ⟨u.heap.size, 0, none⟩) 1 1] (u.alloc (.cells #[.string ⟨#[109, 46, 67]⟩] t)) (BoolW true u) := sameAt v [[109, 46, 67]] u t 1 rfl hv (by decide)
theorem kNumC (v : Value) (u : World) (hv : CaR u v [[65], [66]]) : Calls Try.prog 11 #[v, .string ⟨#[67]⟩] u (NumW (-1) u) := numAt [[65], [66]] [67] (-1) rfl v u hv (by decide) (by decide)
theorem kNumMA (v : Value) (u : World) (hv : CaR u v [[65], [66]]) : Calls Try.prog 11 #[v, .string ⟨#[109, 46, 65]⟩] u (NumW 0 u) := numAt [[65], [66]] [109, 46, 65] 0 rfl v u hv (by decide) (by decide)
theorem kTw0 (u : World) : Calls Try.prog 12 #[.slice none 0 0] u (TxsE [] u) := by
  refine (covTwice [] _ u (.inl ⟨rfl, none, 0, rfl⟩) (by simp) (by simp)).mono ?_
  rintro e w' ⟨v', rfl, h1, h2⟩
  obtain ⟨va, vc, rfl⟩ := h1.shape
  exact ⟨va, vc, rfl, h1, h2⟩
set_option maxHeartbeats 4000000 in
set_option maxRecDepth 1000000 in
theorem coverNumbers_walk (w : World) : Calls Try.prog 3 #[] w (BoolW true w) := by
  go_enter Try.func3, Try.ntmps3
  go_wp2_with fail
  refine (kCas _ _).mono ?_
  rintro e w1 ⟨va, vc, rfl, h1, B1⟩
  go_wp2_with fail
  refine (kMiss0 _ _).mono ?_
  rintro e w2 ⟨va2, vc2, rfl, g2, b2⟩
  have B2 := B1.trans (b2.mono B1.size)
  have h2 := h1.below b2
  clear B1 h1 b2
  clear g2
  go_wp2_with fail
  refine (kExtraA _ _ _ h2).mono ?_
  rintro e w3 ⟨va3, vc3, rfl, g3, b3⟩
  have B3 := B2.trans (b3.mono B2.size)
  have h3 := h2.below b3
  clear B2 h2 b3
  clear g3
  go_wp2_with fail
  refine (kExtraC _ _ _ h3).mono ?_
  rintro e w4 ⟨va4, vc4, rfl, g4, b4⟩
  have B4 := B3.trans (b4.mono B3.size)
  have h4 := h3.below b4
  clear B3 h3 b4
  go_wp2_with fail
  refine (kSameMC _ _ _ g4).mono ?_
  rintro e w5 ⟨rfl, b5⟩
  have B5 := B4.trans (b5.mono B4.size)
  have h5 := h4.below b5
  clear B4 h4 b5
  clear g4
  go_wp2_with fail
  refine (kNumC _ _ h5).mono ?_
  rintro e w6 ⟨rfl, b6⟩
  have B6 := B5.trans (b6.mono B5.size)
  have h6 := h5.below b6
  clear B5 h5 b6
  go_wp2_with fail
  refine (kNumMA _ _ h6).mono ?_
  rintro e w7 ⟨rfl, b7⟩
  have B7 := B6.trans (b7.mono B6.size)
  have h7 := h6.below b7
  clear B6 h6 b7
  go_wp2_with fail
  refine (kTw0 _).mono ?_
  rintro e w8 ⟨va8, vc8, rfl, g8, b8⟩
  have B8 := B7.trans (b8.mono B7.size)
  have h8 := h7.below b8
  clear B7 h7 b8
  clear g8
  go_wp2_with fail
  refine (known10 _).mono ?_
  rintro e w9 ⟨rfl, b9⟩
  have B9 := B8.trans (b9.mono B8.size)
  have h9 := h8.below b9
  clear B8 h8 b9
  go_wp2
  go_ret
  exact ⟨rfl, B9⟩

theorem ownCoverNumbers : ownKnob Try.prog.godebug = none := by kernel_rfl
set_option maxRecDepth 100000 in
theorem coverNumbers_lifted (os : Os) (started : os.Started) (H : Type) (enc : TypeId × Value → H) :
    ReturnsInHanded {} Try.checked os 3 .any (Rows.coverNumbersSpec.pre6 enc Try.prog Try.f3 Rows.coverNumbersRow.domain false) (Rows.coverNumbersSpec.post enc Try.prog Try.f3 false true false false) := by
  refine returnsInHanded_of_change (C := Try.checked) ownCoverNumbers started (by kernel_rfl) Try.func3
    (ChangeSpec.witness6 (enc := enc) (C := Try.checked) false ⟨#[], #[], []⟩ 8 (by kernel_rfl) (by kernel_rfl) (by kernel_rfl) (by kernel_rfl)) ?_
  intro W base args ds gs before hval0 hW hcnd _
  have hval : ∀ (j : Nat) t v, Try.f3.params[j]? = some t → args[j]? = some v → Value.okWide Try.prog W .any base t v := hval0
  have hW' := hW
  obtain ⟨p, q, hA0, hV, rfl, hfz, hnd⟩ := hW
  have hA : DataW.TrodAll enc Try.prog W 0 (fun _ => true) true Try.f3.params.toList args.toList ds p := hA0
  rw [Try.params3] at hA
  obtain ⟨hargs, rfl, rfl⟩ := trodAll_nil hA
  obtain rfl : args = #[] := by cases args; simp_all
  obtain ⟨rfl, rfl⟩ := trodVars_none hV
  clear hA0 hval0
  refine (coverNumbers_walk W).mono fun e W' ⟨he, bel⟩ => ?_
  subst he
  exact ⟨_, rfl, _, _, _, [], _, [], hW', trodAll_mk1 (shut_bool Try.underlying4 _), trodAll_mk0, rfl, bel.frame _, fun h => by cases h⟩

theorem coverNumbers_holds : Rows.CoverNumbersSaid :=
  OpenClaim.holds_of_wide 3 Try.f3 rfl rfl rfl rfl rfl rfl rfl ⟨rfl, rfl, rfl, rfl, rfl⟩ rfl rfl rfl rfl rfl (by kernel_rfl) Try.func3 (by kernel_rfl)
    (of_decide_eq_true (by kernel_rfl)) (by unfold Func.isWrapper; first | (rw [if_pos (by decide +kernel)]; kernel_rfl) | (rw [if_neg (by decide +kernel)]; exact ⟨rfl, rfl⟩))
    (fun os started H enc _ => coverNumbers_lifted os started H enc)
#print axioms coverNumbers_holds
end Go.Proofs.Ytmomapnafhppcaa
