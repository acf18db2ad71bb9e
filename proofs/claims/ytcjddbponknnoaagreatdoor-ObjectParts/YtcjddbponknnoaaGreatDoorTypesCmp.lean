/-
  How texts compare. No program in it.
-/
import Derived.Sort.Walk0
import Derived.Test.YtcjddbponknnoaaGreatDoorTypesNames
namespace Go.Proofs.YtcjddbponknnoaaGreatDoor
open Go.RowKit

theorem less_is (a b : List UInt8) : Op.bytesLess (str a).toList (str b).toList = decide (a < b) := by
  rw [Lib.toList_data, Lib.toList_data, str_data, str_data, bytesLess_eq]
theorem geq_is (a b : List UInt8) : (!Op.bytesLess (str a).toList (str b).toList) = decide (b ≤ a) := by
  rw [less_is, ← decide_not, Bool.eq_iff_iff, decide_eq_true_iff, decide_eq_true_iff, List.not_lt]
theorem neq_is (a b : List UInt8) : ((str a).toList != (str b).toList) = decide (a ≠ b) := by
  rw [Lib.toList_data, Lib.toList_data, str_data, str_data, Bool.eq_iff_iff, bne_iff_ne, decide_eq_true_iff]
theorem eq_is (a b : List UInt8) : ((str a).toList == (str b).toList) = decide (a = b) := by
  rw [Lib.toList_data, Lib.toList_data, str_data, str_data, Bool.eq_iff_iff, beq_iff_eq, decide_eq_true_iff]

end Go.Proofs.YtcjddbponknnoaaGreatDoor
