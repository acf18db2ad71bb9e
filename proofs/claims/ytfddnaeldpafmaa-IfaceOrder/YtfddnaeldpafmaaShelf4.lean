/-
  Nothing more.
-/
import Derived.Test.YtfddnaeldpafmaaShelf
