/-
  Nothing more.
-/
import Derived.Test.YtfddnaeldpafmaaGreatShelf
