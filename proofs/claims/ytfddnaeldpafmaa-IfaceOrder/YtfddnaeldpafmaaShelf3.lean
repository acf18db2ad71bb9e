/-
  Nothing more.
-/
import Derived.Sort.EncStr
import Derived.Shelf.SlSortCmp.WholeK
import Derived.Test.YtfddnaeldpafmaaShelf
