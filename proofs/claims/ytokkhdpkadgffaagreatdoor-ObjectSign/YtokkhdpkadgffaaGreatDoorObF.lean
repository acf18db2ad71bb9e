/-
  The listed tables: a start that fits; whole numbers that are handed in.
  And: Proved: for every slice of integers and every integer the law ObjectSign answers true: a function's sign has the parameters behind what it takes along, and its result. The package-level tables of Go's own library that the program lists start as the program's text lays them (the card ties them); no other condition.
-/
import Derived.Test.YtokkhdpkadgffaaGreatDoorRows
import Derived.Test.YtokkhdpkadgffaaGreatDoorCards
import Derived.Test.YtokkhdpkadgffaaGreatDoorTie
import Derived.Test.YtokkhdpkadgffaaGreatDoorIfaceRows
import Derived.ProofKit
import Derived.LaidMore
import Derived.OpenShut
import Derived.Stop.Joined
import Derived.Stop.LaidErr
import Derived.Lib.LaidTab
import Derived.SizedLaws
import Derived.MakeChecks
import Derived.ChangeShapes
import Derived.WideShapes
import Derived.Deep.Slices
import Derived.Test.YtokkhdpkadgffaaGreatDoorObL
namespace Go.Proofs.YtokkhdpkadgffaaGreatDoor
open Go.ChangeShapes Go.WideShapes Go.ChangeAt Go.RowKit Go.Deep

def laid3 : List (String × DataW Unit) := [("math/bits.deBruijn32tab", Rows.laid_math_bits_deBruijn32tab), ("math/bits.deBruijn64tab", Rows.laid_math_bits_deBruijn64tab), ("internal/strconv.uint64pow10", Rows.laid_internal_strconv_uint64pow10)]
theorem own : ownKnob Tryz.prog.godebug = none := by kernel_rfl
theorem door_met (os : Os) (args : Array Value) : laidMetH Tryz.prog laid3 ((World.doorLaid Tryz.prog 400 os).forCall (fun _ _ => 0) ⟨#[], args, []⟩).memory :=
  laidMetH_of_parts3 (fuel := 8) (laidMet_of_run' 8 (by kernel_rfl) (by kernel_rfl)) (by kernel_rfl) (by kernel_rfl)
theorem laidO : laidOutB Tryz.prog = true := by kernel_rfl
theorem ints_rows {H : Type} {enc : TypeId × Value → H} {W : World} {fuel : Nat} {a0 : Option Addr} {len0 cap0 : Nat} {x : DataW H × List MemPlace} (hf : DataW.trod enc Tryz.prog W 0 (fun _ => true) true fuel 78 [.slice a0 len0 cap0] = some x) :
    ∃ zs : List Int, zs.length = len0 ∧ len0 ≤ cap0 ∧ cap0 ≤ maxLen ∧ (∀ z ∈ zs, -9223372036854775808 ≤ z ∧ z ≤ 9223372036854775807) ∧ (0 < len0 → ∃ b, a0 = some b) ∧ ∀ b, a0 = some b → 0 < len0 → b.block < W.heap.size ∧ ∀ (j : Nat) z, zs[j]? = some z → W.cell? (b.add j) = some (.int .i64 z) := by
  rcases open_ints Tryz.underlying78 Tryz.underlying3 (by kernel_rfl) hf with ⟨hcs, _⟩ | ⟨a, ln, c, zs, hcs, _, hl, hm, hz, _, hcell, hwz⟩
  · simp at hcs
    obtain ⟨rfl, rfl, rfl⟩ := hcs
    exact ⟨[], rfl, Nat.le_refl _, by unfold maxLen; omega, by simp, by simp, by simp⟩
  · simp at hcs
    obtain ⟨rfl, rfl, rfl⟩ := hcs
    simp at hz
    have hc : ∀ (j : Nat) z, (zs.take len0)[j]? = some z → W.cell? (a.add j) = some (.int .i64 z) := by
      intro j z hj
      rw [List.getElem?_take] at hj
      split at hj
      · have hlt : j < zs.length := (List.getElem?_eq_some_iff.1 hj).1
        rw [hcell j hlt]
        simp [List.getD, hj]
      · cases hj
    refine ⟨zs.take len0, by rw [List.length_take]; omega, hl, hm, fun z h => bounds_i64 (hwz z (List.mem_of_mem_take h)), fun _ => ⟨a, rfl⟩, fun b hb h0 => ?_⟩
    cases hb
    refine ⟨?_, hc⟩
    have h1 : 0 < (zs.take len0).length := by rw [List.length_take]; omega
    have := World.block_lt_of_cell? W _ (hc 0 _ (List.getElem?_eq_getElem h1))
    simpa [Addr.add] using this
end Go.Proofs.YtokkhdpkadgffaaGreatDoor

namespace Go.Proofs.YtokkhdpkadgffaaGreatDoor
open Go.ChangeShapes Go.WideShapes Go.ChangeAt Go.RowKit Go.Deep

set_option maxRecDepth 100000 in
theorem objectSign_lifted (os : Os) (started : os.Started) (H : Type) (enc : TypeId × Value → H) :
    ReturnsInHanded {} Tryz.checked os 8 .any (fun w args => (Rows.objectSignSpec.pre enc Tryz.prog Tryz.f8 [] false w args ∧ laidMetH Tryz.prog laid3 w) ∧ sizedMet enc Tryz.prog Tryz.f8 (OpenSpec.ofChange Rows.objectSignSpec) false w args)
      (Rows.objectSignSpec.post enc Tryz.prog Tryz.f8 false true false false) := by
  refine returnsInHanded_of_change_and (C := Tryz.checked) (X := fun w _ => laidMetH Tryz.prog laid3 w) (fun _ _ _ hh h => h.of_heap hh) own started (by kernel_rfl) Tryz.func8
    (ChangeSpec.witness_shaped (enc := enc) (C := Tryz.checked) (os := os) (X := fun w _ => laidMetH Tryz.prog laid3 w) false (World.doorLaid Tryz.prog 400 os) #[.slice none 0 0, .int .i64 0] 8 rfl (World.shaped_of_RefB (by kernel_rfl) (by kernel_rfl)) (by kernel_rfl) (by kernel_rfl) (by kernel_rfl) (door_met os _)) ?_
  intro W base args ds gs before hval0 hW _ _ hL _
  have hval : ∀ (j : Nat) t v, Tryz.f8.params[j]? = some t → args[j]? = some v → Value.okWide Tryz.prog W .any base t v := hval0
  have hW' := hW
  obtain ⟨p, q, hA0, hV, rfl, hfz, hnd⟩ := hW
  have hA : DataW.TrodAll enc Tryz.prog W 0 (fun _ => true) true Tryz.f8.params.toList args.toList ds p := hA0
  rw [Tryz.params8] at hA hval
  obtain ⟨v0, vs0, d0, ds0, p0, q0, hargs, rfl, rfl, h0, r0⟩ := trodAll_cons hA
  obtain ⟨v1, vs1, d1, ds1, p1, q1, rfl, rfl, rfl, h1, r1⟩ := trodAll_cons r0
  obtain ⟨rfl, rfl, rfl⟩ := trodAll_nil r1
  obtain rfl : args = #[v0, v1] := by cases args; simp_all
  obtain ⟨rfl, rfl⟩ := trodVars_none hV
  obtain ⟨a1, len1, cap1, rfl⟩ := okWide_slice Tryz.underlying78 (hval 0 78 v0 rfl rfl)
  obtain ⟨a2, rfl, rfl, rfl, w2⟩ := open_int Tryz.underlying3 (hval 1 3 v1 rfl rfl) h1
  have b2 := bounds_i64 w2
  have k0 := h0
  have lt0 : ∀ x ∈ p0, x.block < W.heap.size := by obtain ⟨m, hm⟩ := k0; exact DataW.trod_lt m _ _ _ hm
  obtain ⟨f0, hf0⟩ := h0
  obtain ⟨zs, z1, z2, z3, z4, z5, z6⟩ := ints_rows (by simpa [Value.cells] using hf0)
  unfold maxLen at z3
  have hIz : IzR W (.slice a1 len1 cap1) zs := by
    by_cases hz0 : len1 = 0
    · exact .inl ⟨a1, cap1, by rw [hz0], List.eq_nil_of_length_eq_zero (by omega)⟩
    · obtain ⟨bb, rfl⟩ := z5 (by omega)
      obtain ⟨ab, ao, asp⟩ := bb
      obtain ⟨y1, y2⟩ := z6 _ rfl (by omega)
      have y3 := y2 0 _ (List.getElem?_eq_getElem (by omega))
      obtain rfl := spot_none y3
      refine .inr ⟨ab, ao, cap1, by rw [z1], y1, fun j z hj => ?_⟩
      have := y2 j z hj
      rwa [add_none] at this
  clear hA0 hval0
  simp only [List.append_nil] at hW'
  refine (sign_walk (.slice a1 len1 cap1) zs a2 W hIz z4 b2 (by omega)).mono fun e W' ⟨he, bel⟩ => ?_
  subst he
  exact ⟨_, rfl, _, _, _, [], _, [], hW', trodAll_mk1 (shut_bool Tryz.underlying4 _), (trodAll_cons_mk (Below.trod laidO (by kernel_rfl) (of_decide_eq_true (by kernel_rfl)) k0 bel lt0) (trodAll_cons_mk (shut_int Tryz.underlying3 w2) trodAll_mk0)), rfl, bel.frame _, fun h => by cases h⟩

theorem objectSign_row : Rows.ObjectSignSaid :=
  OpenClaim.holds_of_wide 8 Tryz.f8 rfl rfl rfl rfl rfl rfl rfl ⟨rfl, rfl, rfl, rfl, rfl⟩ rfl rfl rfl rfl rfl (by kernel_rfl) Tryz.func8 (by kernel_rfl)
    (of_decide_eq_true (by kernel_rfl)) (by unfold Func.isWrapper; first | (rw [if_pos (by decide +kernel)]; kernel_rfl) | (rw [if_neg (by decide +kernel)]; exact ⟨rfl, rfl⟩))
    (fun os started H enc _ => objectSign_lifted os started H enc)

theorem objectSign_holds : Rows.ObjectSignCardSaid :=
  Claim7.holds_tied_plain_at .later [] [.data, .data, .data] true (true, "b0cbca2835c6b604e9bfbbf3c518b1b2469ff7db56e2f10dca8ede91b2882873") false
    objectSign_row (fun _ h => by cases h) (by kernel_rfl) (fun _ h => by cases h) objectSign_row_tie rfl ⟨rfl, rfl⟩ (by kernel_rfl) rfl
    (fun f fn hf hfn => by
      obtain rfl : f = 8 := Option.some.inj ((show Tryz.prog.funcNamed "hawser/hawserlaw14.ObjectSign" = some 8 by kernel_rfl).symm.trans hf) |>.symm
      obtain rfl : fn = Tryz.f8 := (Option.some.inj (Tryz.func8.symm.trans hfn)).symm
      exact ⟨by kernel_rfl, fun j t ht => by
        rw [Tryz.params8] at ht
        have hm : t ∈ [78, 3] := by simpa using Array.mem_of_getElem? ht
        have hall : ([78, 3].all fun u => !Tryz.prog.wantsStandIn u) = true := by kernel_rfl
        exact (show Tryz.prog.wantsStandIn t = false by simpa using List.all_eq_true.1 hall t hm)⟩)
    (by kernel_rfl)
#print axioms objectSign_holds
end Go.Proofs.YtokkhdpkadgffaaGreatDoor
