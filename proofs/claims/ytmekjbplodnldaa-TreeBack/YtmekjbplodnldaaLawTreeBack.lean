/-
  For any numbers and texts: the law TreeBack answers true: a tree that is printed is read as itself, but for places; printed again it is the same text. No condition but those of the row.
-/
import Derived.Test.YtmekjbplodnldaaRows
import Derived.Test.YtmekjbplodnldaaTreeBackWalk
import Derived.Test.YtmekjbplodnldaaTreeMade4
import Derived.ProofKit
import Derived.OpenShut
import Derived.SliceStrings
import Derived.Deep.Slices
namespace Go.Proofs.Ytmekjbplodnldaa
open Go.ChangeShapes Go.WideShapes Go.ChangeAt Go.RowKit Go.Deep

theorem ints_rows {H : Type} {enc : TypeId × Value → H} {W : World} {fuel : Nat} {a0 : Option Addr} {len0 cap0 : Nat} {x : DataW H × List MemPlace} (hf : DataW.trod enc Try.prog W 0 (fun _ => true) true fuel 38 [.slice a0 len0 cap0] = some x) :
    ∃ zs : List Int, zs.length = len0 ∧ len0 ≤ cap0 ∧ cap0 ≤ maxLen ∧ (∀ z ∈ zs, -9223372036854775808 ≤ z ∧ z ≤ 9223372036854775807) ∧ (0 < len0 → ∃ b, a0 = some b) ∧ ∀ b, a0 = some b → 0 < len0 → b.block < W.heap.size ∧ ∀ (j : Nat) z, zs[j]? = some z → W.cell? (b.add j) = some (.int .i64 z) := by
  rcases open_ints Try.underlying38 Try.underlying3 (by kernel_rfl) hf with ⟨hcs, _⟩ | ⟨a, ln, c, zs, hcs, _, hl, hm, hz, _, hcell, hwz⟩
  · simp at hcs
    obtain ⟨rfl, rfl, rfl⟩ := hcs
    exact ⟨[], rfl, Nat.le_refl _, by unfold maxLen; omega, by simp, by simp, by simp⟩
  · simp at hcs
    obtain ⟨rfl, rfl, rfl⟩ := hcs
    simp at hz
    have hc : ∀ (j : Nat) z, (zs.take len0)[j]? = some z → W.cell? (a.add j) = some (.int .i64 z) := by
      intro j z hj
      rw [List.getElem?_take] at hj
      split at hj
      · have hlt : j < zs.length := (List.getElem?_eq_some_iff.1 hj).1
        rw [hcell j hlt]
        simp [List.getD, hj]
      · cases hj
    refine ⟨zs.take len0, by rw [List.length_take]; omega, hl, hm, fun z h => bounds_i64 (hwz z (List.mem_of_mem_take h)), fun _ => ⟨a, rfl⟩, fun b hb h0 => ?_⟩
    cases hb
    refine ⟨?_, hc⟩
    have h1 : 0 < (zs.take len0).length := by rw [List.length_take]; omega
    have := World.block_lt_of_cell? W _ (hc 0 _ (List.getElem?_eq_getElem h1))
    rwa [add_block] at this
theorem strs_rows {H : Type} {enc : TypeId × Value → H} {W : World} {fuel : Nat} {a0 : Option Addr} {len0 cap0 : Nat} {x : DataW H × List MemPlace} (hf : DataW.trod enc Try.prog W 0 (fun _ => true) true fuel 39 [.slice a0 len0 cap0] = some x) :
    ∃ zs : List ByteArray, zs.length = len0 ∧ len0 ≤ cap0 ∧ cap0 ≤ maxLen ∧ (0 < len0 → ∃ b, a0 = some b) ∧ ∀ b, a0 = some b → 0 < len0 → b.block < W.heap.size ∧ ∀ (j : Nat) z, zs[j]? = some z → W.cell? (b.add j) = some (.string z) := by
  rcases open_strings Try.underlying39 Try.underlying9 (by kernel_rfl) hf with ⟨hcs, _⟩ | ⟨a, ln, c, zs, hcs, _, hl, hm, hz, _, hcell, hwz⟩
  · simp at hcs
    obtain ⟨rfl, rfl, rfl⟩ := hcs
    exact ⟨[], rfl, Nat.le_refl _, by unfold maxLen; omega, by simp, by simp⟩
  · simp at hcs
    obtain ⟨rfl, rfl, rfl⟩ := hcs
    simp at hz
    have hc : ∀ (j : Nat) z, (zs.take len0)[j]? = some z → W.cell? (a.add j) = some (.string z) := by
      intro j z hj
      rw [List.getElem?_take] at hj
      split at hj
      · have hlt : j < zs.length := (List.getElem?_eq_some_iff.1 hj).1
        rw [hcell j hlt]
        simp [List.getD, hj]
      · cases hj
    refine ⟨zs.take len0, by rw [List.length_take]; omega, hl, hm, fun _ => ⟨a, rfl⟩, fun b hb h0 => ?_⟩
    cases hb
    refine ⟨?_, hc⟩
    have h1 : 0 < (zs.take len0).length := by rw [List.length_take]; omega
    have := World.block_lt_of_cell? W _ (hc 0 _ (List.getElem?_eq_getElem h1))
    rwa [add_block] at this

theorem ownTreeBack : ownKnob Try.prog.godebug = none := by kernel_rfl
theorem laidTreeBack : laidOutB Try.prog = true := by kernel_rfl
set_option maxRecDepth 100000 in
theorem treeBack_lifted (os : Os) (started : os.Started) (H : Type) (enc : TypeId × Value → H) :
    ReturnsInHanded {} Try.checked os 5 .any (Rows.treeBackSpec.pre6 enc Try.prog Try.f5 Rows.treeBackRow.domain false) (Rows.treeBackSpec.post enc Try.prog Try.f5 false true false false) := by
  refine returnsInHanded_of_change (C := Try.checked) ownTreeBack started (by kernel_rfl) Try.func5
    (ChangeSpec.witness6 (enc := enc) (C := Try.checked) false ⟨#[], #[.slice none 0 0, .slice none 0 0], []⟩ 8 (by kernel_rfl) (by kernel_rfl) (by kernel_rfl) (by kernel_rfl)) ?_
  intro W base args ds gs before hval0 hW hcnd _
  have hval : ∀ (j : Nat) t v, Try.f5.params[j]? = some t → args[j]? = some v → Value.okWide Try.prog W .any base t v := hval0
  have hW' := hW
  obtain ⟨p, q, hA0, hV, rfl, hfz, hnd⟩ := hW
  have hA : DataW.TrodAll enc Try.prog W 0 (fun _ => true) true Try.f5.params.toList args.toList ds p := hA0
  rw [Try.params5] at hA hval
  obtain ⟨v0, vs0, d0, ds0, p0, q0, hargs, rfl, rfl, h0, r0⟩ := trodAll_cons hA
  obtain ⟨v1, vs1, d1, ds1, p1, q1, rfl, rfl, rfl, h1, r1⟩ := trodAll_cons r0
  obtain ⟨rfl, rfl, rfl⟩ := trodAll_nil r1
  obtain rfl : args = #[v0, v1] := by cases args; simp_all
  obtain ⟨rfl, rfl⟩ := trodVars_none hV
  obtain ⟨a1, len1, cap1, rfl⟩ := okWide_slice Try.underlying38 (hval 0 38 v0 rfl rfl)
  obtain ⟨a2, len2, cap2, rfl⟩ := okWide_slice Try.underlying39 (hval 1 39 v1 rfl rfl)
  have k0 := h0
  have k1 := h1
  have lt0 : ∀ x ∈ p0, x.block < W.heap.size := by obtain ⟨m, hm⟩ := k0; exact DataW.trod_lt m _ _ _ hm
  have lt1 : ∀ x ∈ p1, x.block < W.heap.size := by obtain ⟨m, hm⟩ := k1; exact DataW.trod_lt m _ _ _ hm
  obtain ⟨f0, hf0⟩ := h0
  obtain ⟨f1, hf1⟩ := h1
  obtain ⟨zs, z1, z2, z3, z4, z5, z6⟩ := ints_rows (by simpa [Value.cells] using hf0)
  obtain ⟨xs, y1, y2, y3, y5, y6⟩ := strs_rows (by simpa [Value.cells] using hf1)
  unfold maxLen at z3 y3
  have hwalk : Calls Try.prog 5 #[.slice a1 len1 cap1, .slice a2 len2 cap2] W (KnownE W) := by
    by_cases h60 : len1 ≤ 60
    · exact back_short (made 30 (by decide)) len1 len2 cap1 cap2 a1 a2 (zs.take len1) xs W (back_rows len1 (Nat.le_refl _) h60 zs xs z1 y1 (by omega) z4 z5 y5 z6 y6) h60 (by omega) (by omega)
    · exact back_long (made 30 (by decide)) len1 len2 cap1 cap2 a1 a2 (zs.take 60) xs W (back_rows 60 (by omega) (Nat.le_refl _) zs xs z1 y1 (by omega) z4 z5 y5 z6 y6) (by omega) (by omega) (by omega) (by omega)
  clear hA0 hval0
  simp only [List.append_nil] at hW'
  refine hwalk.mono fun e W' ⟨he, bel⟩ => ?_
  subst he
  exact ⟨_, rfl, _, _, _, [], _, [], hW', trodAll_mk1 (shut_bool Try.underlying4 _), (trodAll_cons_mk (Below.trod laidTreeBack (by kernel_rfl) (of_decide_eq_true (by kernel_rfl)) k0 bel lt0) (trodAll_cons_mk (Below.trod laidTreeBack (by kernel_rfl) (of_decide_eq_true (by kernel_rfl)) k1 bel lt1) trodAll_mk0)), rfl, bel.frame _, fun h => by cases h⟩

theorem treeBack_holds : Rows.TreeBackSaid :=
  OpenClaim.holds_of_wide 5 Try.f5 rfl rfl rfl rfl rfl rfl rfl ⟨rfl, rfl, rfl, rfl, rfl⟩ rfl rfl rfl rfl rfl (by kernel_rfl) Try.func5 (by kernel_rfl)
    (of_decide_eq_true (by kernel_rfl)) (by unfold Func.isWrapper; first | (rw [if_pos (by decide +kernel)]; kernel_rfl) | (rw [if_neg (by decide +kernel)]; exact ⟨rfl, rfl⟩))
    (fun os started H enc _ => treeBack_lifted os started H enc)
#print axioms treeBack_holds
end Go.Proofs.Ytmekjbplodnldaa
