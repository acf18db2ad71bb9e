/-
  The reference's writers: what each call does.
-/
import Derived.Test.YtbhcmhbicbhgmaaWireMath
import Derived.Deep.LoopGhost
namespace Go.Proofs.Ytbhcmhbicbhgmaa.Wire
open Go.RowKit

end Go.Proofs.Ytbhcmhbicbhgmaa.Wire
