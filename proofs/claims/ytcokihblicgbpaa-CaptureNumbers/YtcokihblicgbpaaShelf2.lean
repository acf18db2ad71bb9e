/-
  The shelf.
-/
import Derived.Test.YtcokihblicgbpaaShelf
