/-
  Nothing of its own.
-/
import Derived.Test.YtibgmflamnonoaaGreatShelf
namespace Go.Proofs
end Go.Proofs
