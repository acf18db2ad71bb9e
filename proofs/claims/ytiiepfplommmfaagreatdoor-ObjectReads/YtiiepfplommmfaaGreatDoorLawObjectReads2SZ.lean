/-
  Proved: for all bytes, every object, any place and byte: what the package reads of the bytes, or of the object's own bytes with one turned, is as the chapter says, and the bytes stay. The package-level tables of Go's own library that the program lists start as the program's text lays them (the card ties them); no other condition.
-/
import Derived.Test.YtiiepfplommmfaaGreatDoorG44
namespace Go.Proofs.YtiiepfplommmfaaGreatDoor
open Go.ChangeShapes Go.WideShapes Go.ChangeAt Go.RowKit Go.Deep

theorem objectReads_f:Tryz.pinned.checked.prog.funcNamed Rows.objectReadsRow.func = some 4:=by kernel_rfl
theorem objectReads_j:joinedFacts Tryz.pinned.checked.prog 4 Tryz.f4 Rows.objectReadsSpec Rows.objectReadsRow = true:=by kernel_rfl
theorem objectReads_i:Tryz.f4.isInstance Tryz.pinned.checked.prog Rows.objectReadsRow.origin Rows.objectReadsRow.targs:=of_decide_eq_true (by kernel_rfl)
theorem objectReads_w:Tryz.f4.isWrapper Tryz.pinned.checked.prog Rows.objectReadsRow.wrapper Rows.objectReadsRow.mainSum:=by
 unfold Func.isWrapper
 first | (rw [if_pos (by decide +kernel)]; kernel_rfl) | (rw [if_neg (by decide +kernel)]; exact ⟨rfl,rfl⟩)
theorem objectReads_row:Rows.ObjectReadsSaid :=
 OpenClaim.holds_of_wide 4 Tryz.f4 rfl rfl rfl rfl rfl rfl rfl ⟨rfl,rfl,rfl,rfl,rfl⟩ rfl rfl rfl rfl rfl objectReads_f Tryz.func4 objectReads_j objectReads_i objectReads_w
  (fun os started H enc _=>objectReads_lifted os started H enc)
theorem objectReads_holds:Rows.ObjectReadsCardSaid :=
 Claim7.holds_tied_plain_at .later [] [.data, .data, .data] true (true, "4c3d3817bdf02bff059bd003e6e651e94b261da97285b360d824486385baa92f") false
  objectReads_row (fun _ h=>by cases h) (by kernel_rfl) (fun _ h=>by cases h) objectReads_row_tie rfl ⟨rfl,rfl⟩ (by kernel_rfl) rfl
  (fun f fn hf hfn=>by
   obtain rfl : f = 4 := Option.some.inj ((show Tryz.prog.funcNamed "hawser/hawserlaw14.ObjectReads" = some 4 by kernel_rfl).symm.trans hf) |>.symm
   obtain rfl:fn = Tryz.f4:=(Option.some.inj (Tryz.func4.symm.trans hfn)).symm
   exact ⟨by kernel_rfl,fun j t ht=>by
    rw [Tryz.params4] at ht
    have hm:t ∈ [42,29,3,5]:=by simpa using Array.mem_of_getElem? ht
    have hall:([42,29,3,5].all fun u => !Tryz.prog.wantsStandIn u) = true:=by kernel_rfl
    exact (show Tryz.prog.wantsStandIn t = false by simpa using List.all_eq_true.1 hall t hm)⟩)
  (by kernel_rfl)
#print axioms objectReads_holds
end Go.Proofs.YtiiepfplommmfaaGreatDoor
