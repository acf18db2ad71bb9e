/-
  The book's marks of bytes: each is a byte that hangs on the two numbers alone.
-/
import Derived.Test.YtbheccioeiemfaaStays
namespace Go.Proofs.Ytbheccioeiemfaa
open Go.RowKit

def MarkE (m : Int) (w : World) (e : Ending) (w' : World) : Prop := e = .returned (.int .u8 m) ∧ w' = w
def mk (i j : Nat) : Int := ((i : Int) + 1) / 2 ^ (8 * (j % 3)) % 256

set_option maxHeartbeats 1600000 in
set_option maxRecDepth 1000000 in
theorem bytes_mark (i j : Nat) (hi : i < 1000000) (w : World) : Calls Try.prog 38 #[.int .i64 i, .int .i64 j] w (MarkE (mk i j) w) := by
  have hz : (j : Int).tmod 3 = ((j % 3 : Nat) : Int) := rfl
  have h3 : j % 3 = 0 ∨ j % 3 = 1 ∨ j % 3 = 2 := by omega
  go_enter Try.func38, Try.ntmps38
  go_wp2
  go_ret
  exact ⟨rfl, rfl⟩
end Go.Proofs.Ytbheccioeiemfaa
