/-
  Contracts of the library, further.
-/
import Derived.Test.YtokkhdpkadgffaaGreatDoorShelf
