/-
  'known', the law's own run of the chapter's examples: it answers true.
-/
import Derived.Test.YtbhcmhbicbhgmaaWireReads
namespace Go.Proofs.Ytbhcmhbicbhgmaa.Wire
open Go.RowKit

theorem Kept.on {S : Nat → Prop} {w a b : World} (h : Kept (fun _ => False) w a) (k : Kept S a b) (hS : ∀ x, S x → w.heap.size ≤ x) : Kept (fun _ => False) w b :=
  h.trans k (fun _ _ h => h) (fun x hx hs => by have := hS x hs; omega)
theorem enc300 : enc 300 = [172, 2] := by rw [enc_big (by omega), enc_small (by omega)]
theorem enc1 : enc (zig (-1)) = [1] := by rw [enc_small (by decide)]; rfl
theorem dec_80_00 : dec [128, 0] 0 0 = (0, 0, 12) := by
  rw [dec_on (x := 128) (by omega) rfl (by omega), dec_bad (x := 0) (by omega) rfl (by omega) (by omega)]
theorem rNum_80_00 : rNum [128, 0] 0 0 9 = (0, 0, 12) := by simp [rNum, dec_80_00]
theorem rEnd_80_00 : rEnd [128, 0] 0 12 = (12, 0) := by simp [rEnd]

end Go.Proofs.Ytbhcmhbicbhgmaa.Wire
