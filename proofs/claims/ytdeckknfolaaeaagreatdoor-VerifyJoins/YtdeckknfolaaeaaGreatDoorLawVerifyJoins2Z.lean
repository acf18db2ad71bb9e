/-
  Proved: the law VerifyJoins answers true for all that is handed in: a local that is set on one way alone is unset where the ways meet; one that is set alike on both is set. The package-level variables of Go's own library that the program lists (three tables and two errors) start as the program's text lays them (the card ties them); no other condition.
-/
import Derived.Test.YtdeckknfolaaeaaGreatDoorVerJoinLZ
namespace Go.Proofs.YtdeckknfolaaeaaGreatDoor
open Go.ChangeShapes Go.WideShapes Go.ChangeAt Go.RowKit Go.Deep

theorem verifyJoins_f : Tryz.pinned.checked.prog.funcNamed Rows.verifyJoinsRow.func = some 8 := by kernel_rfl
theorem verifyJoins_j : joinedFacts Tryz.pinned.checked.prog 8 Tryz.f8 Rows.verifyJoinsSpec Rows.verifyJoinsRow = true := by kernel_rfl
theorem verifyJoins_i : Tryz.f8.isInstance Tryz.pinned.checked.prog Rows.verifyJoinsRow.origin Rows.verifyJoinsRow.targs := of_decide_eq_true (by kernel_rfl)
theorem verifyJoins_w : Tryz.f8.isWrapper Tryz.pinned.checked.prog Rows.verifyJoinsRow.wrapper Rows.verifyJoinsRow.mainSum := by
  unfold Func.isWrapper
  first | (rw [if_pos (by decide +kernel)]; kernel_rfl) | (rw [if_neg (by decide +kernel)]; exact ⟨rfl, rfl⟩)
theorem verifyJoins_row : Rows.VerifyJoinsSaid :=
  OpenClaim.holds_of_wide 8 Tryz.f8 rfl rfl rfl rfl rfl rfl rfl ⟨rfl, rfl, rfl, rfl, rfl⟩ rfl rfl rfl rfl rfl verifyJoins_f Tryz.func8 verifyJoins_j verifyJoins_i verifyJoins_w
    (fun os started H enc _ => verifyJoins_lifted os started H enc)

theorem verifyJoins_holds : Rows.VerifyJoinsCardSaid :=
  Claim7.holds_tied_plain_at .later [] [.data, .data, .data, .sentinel, .sentinel] true (true, "79c73b9d20ca157e8b98face65af9b8e31db35c54815f0a8be2043d0d1ba1660") true
    verifyJoins_row (fun _ h => by cases h) (by kernel_rfl) (fun _ h => by cases h) verifyJoins_row_tie rfl ⟨rfl, rfl⟩ (by kernel_rfl) rfl
    (fun f fn hf hfn => by
      obtain rfl : f = 8 := Option.some.inj ((show Tryz.prog.funcNamed "hawser/hawserlaw15.VerifyJoins" = some 8 by kernel_rfl).symm.trans hf) |>.symm
      obtain rfl : fn = Tryz.f8 := (Option.some.inj (Tryz.func8.symm.trans hfn)).symm
      exact ⟨by kernel_rfl, fun j t ht => by
        rw [Tryz.params8] at ht
        have hm : t ∈ [3, 3, 4] := by simpa using Array.mem_of_getElem? ht
        have hall : ([3, 3, 4].all fun u => !Tryz.prog.wantsStandIn u) = true := by kernel_rfl
        exact (show Tryz.prog.wantsStandIn t = false by simpa using List.all_eq_true.1 hall t hm)⟩)
    (by kernel_rfl)
#print axioms verifyJoins_holds
end Go.Proofs.YtdeckknfolaaeaaGreatDoor
