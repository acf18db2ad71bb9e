/-
  For any texts: the law TreeKids answers true: trees within brackets are the Kids, in their order; what is printed of them stands in what is printed of all. No condition but those of the row.
-/
import Derived.Test.YtmekjbplodnldaaRows
import Derived.Test.YtmekjbplodnldaaTreeKids1
import Derived.ProofKit
import Derived.OpenShut
import Derived.SliceStrings
import Derived.Deep.Slices
namespace Go.Proofs.Ytmekjbplodnldaa
open Go.ChangeShapes Go.WideShapes Go.ChangeAt Go.RowKit Go.Deep

theorem kid_rows {H : Type} {enc : TypeId × Value → H} {W : World} {fuel : Nat} {a0 : Option Addr} {len0 cap0 : Nat} {x : DataW H × List MemPlace} (hf : DataW.trod enc Try.prog W 0 (fun _ => true) true fuel 39 [.slice a0 len0 cap0] = some x) :
    ∃ zs : List ByteArray, zs.length = len0 ∧ len0 ≤ cap0 ∧ cap0 ≤ maxLen ∧ (0 < len0 → ∃ b, a0 = some b) ∧ ∀ b, a0 = some b → 0 < len0 → b.block < W.heap.size ∧ ∀ (j : Nat) z, zs[j]? = some z → W.cell? (b.add j) = some (.string z) := by
  rcases open_strings Try.underlying39 Try.underlying9 (by kernel_rfl) hf with ⟨hcs, _⟩ | ⟨a, ln, c, zs, hcs, _, hl, hm, hz, _, hcell, hwz⟩
  · simp at hcs
    obtain ⟨rfl, rfl, rfl⟩ := hcs
    exact ⟨[], rfl, Nat.le_refl _, by unfold maxLen; omega, by simp, by simp⟩
  · simp at hcs
    obtain ⟨rfl, rfl, rfl⟩ := hcs
    simp at hz
    have hc : ∀ (j : Nat) z, (zs.take len0)[j]? = some z → W.cell? (a.add j) = some (.string z) := by
      intro j z hj
      rw [List.getElem?_take] at hj
      split at hj
      · have hlt : j < zs.length := (List.getElem?_eq_some_iff.1 hj).1
        rw [hcell j hlt]
        simp [List.getD, hj]
      · cases hj
    refine ⟨zs.take len0, by rw [List.length_take]; omega, hl, hm, fun _ => ⟨a, rfl⟩, fun b hb h0 => ?_⟩
    cases hb
    refine ⟨?_, hc⟩
    have h1 : 0 < (zs.take len0).length := by rw [List.length_take]; omega
    have := World.block_lt_of_cell? W _ (hc 0 _ (List.getElem?_eq_getElem h1))
    rwa [add_block] at this

theorem ownTreeKids : ownKnob Try.prog.godebug = none := by kernel_rfl
theorem laidTreeKids : laidOutB Try.prog = true := by kernel_rfl
set_option maxRecDepth 100000 in
theorem treeKids_lifted (os : Os) (started : os.Started) (H : Type) (enc : TypeId × Value → H) :
    ReturnsInHanded {} Try.checked os 7 .any (Rows.treeKidsSpec.pre6 enc Try.prog Try.f7 Rows.treeKidsRow.domain false) (Rows.treeKidsSpec.post enc Try.prog Try.f7 false true false false) := by
  refine returnsInHanded_of_change (C := Try.checked) ownTreeKids started (by kernel_rfl) Try.func7
    (ChangeSpec.witness6 (enc := enc) (C := Try.checked) false ⟨#[], #[.slice none 0 0], []⟩ 8 (by kernel_rfl) (by kernel_rfl) (by kernel_rfl) (by kernel_rfl)) ?_
  intro W base args ds gs before hval0 hW hcnd _
  have hval : ∀ (j : Nat) t v, Try.f7.params[j]? = some t → args[j]? = some v → Value.okWide Try.prog W .any base t v := hval0
  have hW' := hW
  obtain ⟨p, q, hA0, hV, rfl, hfz, hnd⟩ := hW
  have hA : DataW.TrodAll enc Try.prog W 0 (fun _ => true) true Try.f7.params.toList args.toList ds p := hA0
  rw [Try.params7] at hA hval
  obtain ⟨v0, vs0, d0, ds0, p0, q0, hargs, rfl, rfl, h0, r0⟩ := trodAll_cons hA
  obtain ⟨rfl, rfl, rfl⟩ := trodAll_nil r0
  obtain rfl : args = #[v0] := by cases args; simp_all
  obtain ⟨rfl, rfl⟩ := trodVars_none hV
  obtain ⟨a1, len1, cap1, rfl⟩ := okWide_slice Try.underlying39 (hval 0 39 v0 rfl rfl)
  have k0 := h0
  have lt0 : ∀ x ∈ p0, x.block < W.heap.size := by obtain ⟨m, hm⟩ := k0; exact DataW.trod_lt m _ _ _ hm
  obtain ⟨f0, hf0⟩ := h0
  obtain ⟨xs, y1, y2, y3, y5, y6⟩ := kid_rows (by simpa [Value.cells] using hf0)
  unfold maxLen at y3
  have hwalk : Calls Try.prog 7 #[.slice a1 len1 cap1] W (KnownE W) := kids_walk len1 cap1 a1 xs W (by omega) y1 y5 y6
  clear hA0 hval0
  simp only [List.append_nil] at hW'
  refine hwalk.mono fun e W' ⟨he, bel⟩ => ?_
  subst he
  exact ⟨_, rfl, _, _, _, [], _, [], hW', trodAll_mk1 (shut_bool Try.underlying4 _), (trodAll_cons_mk (Below.trod laidTreeKids (by kernel_rfl) (of_decide_eq_true (by kernel_rfl)) k0 bel lt0) trodAll_mk0), rfl, bel.frame _, fun h => by cases h⟩

theorem treeKids_holds : Rows.TreeKidsSaid :=
  OpenClaim.holds_of_wide 7 Try.f7 rfl rfl rfl rfl rfl rfl rfl ⟨rfl, rfl, rfl, rfl, rfl⟩ rfl rfl rfl rfl rfl (by kernel_rfl) Try.func7 (by kernel_rfl)
    (of_decide_eq_true (by kernel_rfl)) (by unfold Func.isWrapper; first | (rw [if_pos (by decide +kernel)]; kernel_rfl) | (rw [if_neg (by decide +kernel)]; exact ⟨rfl, rfl⟩))
    (fun os started H enc _ => treeKids_lifted os started H enc)
#print axioms treeKids_holds
end Go.Proofs.Ytmekjbplodnldaa
