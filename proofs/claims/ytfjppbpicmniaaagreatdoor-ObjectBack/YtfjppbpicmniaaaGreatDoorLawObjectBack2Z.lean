/-
  Proved: for every object and all bytes the law ObjectBack answers true: what is written of an object is read as it was, what is read is written as its bytes. The package-level tables of Go's own library that the program lists start as the program's text lays them (the card ties them); no other condition.
-/
import Derived.Test.YtfjppbpicmniaaaGreatDoorObjBackLZ
namespace Go.Proofs.YtfjppbpicmniaaaGreatDoor
open Go.ChangeShapes Go.WideShapes Go.ChangeAt Go.RowKit Go.Deep

theorem objectBack_f : Tryz.pinned.checked.prog.funcNamed Rows.objectBackRow.func = some 5 := by kernel_rfl
theorem objectBack_j : joinedFacts Tryz.pinned.checked.prog 5 Tryz.f5 Rows.objectBackSpec Rows.objectBackRow = true := by kernel_rfl
theorem objectBack_i : Tryz.f5.isInstance Tryz.pinned.checked.prog Rows.objectBackRow.origin Rows.objectBackRow.targs := of_decide_eq_true (by kernel_rfl)
theorem objectBack_w : Tryz.f5.isWrapper Tryz.pinned.checked.prog Rows.objectBackRow.wrapper Rows.objectBackRow.mainSum := by
  unfold Func.isWrapper
  first | (rw [if_pos (by decide +kernel)]; kernel_rfl) | (rw [if_neg (by decide +kernel)]; exact ⟨rfl, rfl⟩)
theorem objectBack_row : Rows.ObjectBackSaid :=
  OpenClaim.holds_of_wide 5 Tryz.f5 rfl rfl rfl rfl rfl rfl rfl ⟨rfl, rfl, rfl, rfl, rfl⟩ rfl rfl rfl rfl rfl objectBack_f Tryz.func5 objectBack_j objectBack_i objectBack_w
    (fun os started H enc _ => objectBack_lifted os started H enc)

theorem objectBack_holds : Rows.ObjectBackCardSaid :=
  Claim7.holds_tied_plain_at .later [] [.data, .data, .data] true (true, "f82506682087d7580f2f8b6a3ff5466a769d030e23fd3d8d3bae14ccceefd0a5") false
    objectBack_row (fun _ h => by cases h) (by kernel_rfl) (fun _ h => by cases h) objectBack_row_tie rfl ⟨rfl, rfl⟩ (by kernel_rfl) rfl
    (fun f fn hf hfn => by
      obtain rfl : f = 5 := Option.some.inj ((show Tryz.prog.funcNamed "hawser/hawserlaw14.ObjectBack" = some 5 by kernel_rfl).symm.trans hf) |>.symm
      obtain rfl : fn = Tryz.f5 := (Option.some.inj (Tryz.func5.symm.trans hfn)).symm
      exact ⟨by kernel_rfl, fun j t ht => by
        rw [Tryz.params5] at ht
        have hm : t ∈ [29, 42] := by simpa using Array.mem_of_getElem? ht
        have hall : ([29, 42].all fun u => !Tryz.prog.wantsStandIn u) = true := by kernel_rfl
        exact (show Tryz.prog.wantsStandIn t = false by simpa using List.all_eq_true.1 hall t hm)⟩)
    (by kernel_rfl)
#print axioms objectBack_holds
end Go.Proofs.YtfjppbpicmniaaaGreatDoor
