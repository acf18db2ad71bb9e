/-
  Proved: the law VerifyDeep answers true for every whole number that is handed in: as many numbers as may be left on the stack are let by, one more is not, and each must be taken off again. The package-level variables of Go's own library that the program lists (three tables and two errors) start as the program's text lays them (the card ties them); no other condition.
-/
import Derived.Test.YtdeckknfolaaeaaGreatDoorVerDeepLZ
namespace Go.Proofs.YtdeckknfolaaeaaGreatDoor
open Go.ChangeShapes Go.WideShapes Go.ChangeAt Go.RowKit Go.Deep

theorem verifyDeep_f : Tryz.pinned.checked.prog.funcNamed Rows.verifyDeepRow.func = some 7 := by kernel_rfl
theorem verifyDeep_j : joinedFacts Tryz.pinned.checked.prog 7 Tryz.f7 Rows.verifyDeepSpec Rows.verifyDeepRow = true := by kernel_rfl
theorem verifyDeep_i : Tryz.f7.isInstance Tryz.pinned.checked.prog Rows.verifyDeepRow.origin Rows.verifyDeepRow.targs := of_decide_eq_true (by kernel_rfl)
theorem verifyDeep_w : Tryz.f7.isWrapper Tryz.pinned.checked.prog Rows.verifyDeepRow.wrapper Rows.verifyDeepRow.mainSum := by
  unfold Func.isWrapper
  first | (rw [if_pos (by decide +kernel)]; kernel_rfl) | (rw [if_neg (by decide +kernel)]; exact ⟨rfl, rfl⟩)
theorem verifyDeep_row : Rows.VerifyDeepSaid :=
  OpenClaim.holds_of_wide 7 Tryz.f7 rfl rfl rfl rfl rfl rfl rfl ⟨rfl, rfl, rfl, rfl, rfl⟩ rfl rfl rfl rfl rfl verifyDeep_f Tryz.func7 verifyDeep_j verifyDeep_i verifyDeep_w
    (fun os started H enc _ => verifyDeep_lifted os started H enc)

theorem verifyDeep_holds : Rows.VerifyDeepCardSaid :=
  Claim7.holds_tied_plain_at .later [] [.data, .data, .data, .sentinel, .sentinel] true (true, "79c73b9d20ca157e8b98face65af9b8e31db35c54815f0a8be2043d0d1ba1660") true
    verifyDeep_row (fun _ h => by cases h) (by kernel_rfl) (fun _ h => by cases h) verifyDeep_row_tie rfl ⟨rfl, rfl⟩ (by kernel_rfl) rfl
    (fun f fn hf hfn => by
      obtain rfl : f = 7 := Option.some.inj ((show Tryz.prog.funcNamed "hawser/hawserlaw15.VerifyDeep" = some 7 by kernel_rfl).symm.trans hf) |>.symm
      obtain rfl : fn = Tryz.f7 := (Option.some.inj (Tryz.func7.symm.trans hfn)).symm
      exact ⟨by kernel_rfl, fun j t ht => by
        rw [Tryz.params7] at ht
        have hm : t ∈ [3] := by simpa using Array.mem_of_getElem? ht
        have hall : ([3].all fun u => !Tryz.prog.wantsStandIn u) = true := by kernel_rfl
        exact (show Tryz.prog.wantsStandIn t = false by simpa using List.all_eq_true.1 hall t hm)⟩)
    (by kernel_rfl)
#print axioms verifyDeep_holds
end Go.Proofs.YtdeckknfolaaeaaGreatDoor
