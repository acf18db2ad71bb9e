/-
  Nothing more.
-/
import Derived.Test.YtibgmflamnonoabGreatShelf
namespace Go.Proofs
end Go.Proofs
