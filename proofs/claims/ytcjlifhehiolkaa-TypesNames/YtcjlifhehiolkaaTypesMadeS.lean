/-
  The statements' 'made': a type of numbers.
-/
import Derived.Test.YtcjlifhehiolkaaTypesMadeA
import Derived.Test.YtcjlifhehiolkaaTypesMadeF
namespace Go.Proofs.Ytcjlifhehiolkaa
open Go.RowKit

theorem made_succ (d L : Nat) (hd1 : d ≤ 100) (hL : 5 ≤ L) (hL2 : L ≤ 1000) (hIH : MadeAll (d : Int) L) : MadeAll ((d : Int) + 1) (7 * L + 8) := by
  intro w lv zs ba p P hI hA hp hz hP
  by_cases hlt : p < zs.length
  · have hII := hI
    obtain ⟨hb, ⟨h1, _⟩ | ⟨b, c, rfl, h2, h3, h4⟩⟩ := hI
    · subst h1; simp at hlt
    have hq : zs[p]? = some zs[p] := List.getElem?_eq_getElem hlt
    have hzb := hb zs[p] (List.getElem_mem _)
    generalize zs[p] = z at *
    by_cases hz0 : z < 0
    · obtain ⟨N, rfl⟩ : ∃ N : Nat, z = -(N : Int) - 1 := ⟨(-(z + 1)).toNat, by omega⟩
      rcases (by omega : (N % 5 = 0 ∨ N % 5 = 1 ∨ N % 5 = 2) ∨ N % 5 = 3 ∨ N % 5 = 4) with h5 | h5 | h5
      · exact made_B_leaf d L hd1 hL w b zs c ba p P N hII hA hz hP hq (by omega) h5
      · exact made_B_arr d L hd1 hL hL2 hIH w b zs c ba p P N hII hA hz hP hq (by omega) h5
      · exact made_B_fun d L hd1 hL hL2 hIH w b zs c ba p P N hII hA hz hP hq (by omega) h5
    · obtain ⟨N, rfl⟩ : ∃ N : Nat, z = (N : Int) := ⟨z.toNat, by omega⟩
      rcases (by omega : (N % 5 = 0 ∨ N % 5 = 1 ∨ N % 5 = 2) ∨ N % 5 = 3 ∨ N % 5 = 4) with h5 | h5 | h5
      · exact made_A_leaf d L hd1 hL w b zs c ba p P N hII hA hz hP hq (by omega) h5
      · exact made_A_arr d L hd1 hL hL2 hIH w b zs c ba p P N hII hA hz hP hq (by omega) h5
      · exact made_A_fun d L hd1 hL hL2 hIH w b zs c ba p P N hII hA hz hP hq (by omega) h5
  · exact made_C d L hd1 hL w lv zs ba p P hI hA hp hlt
theorem made_two : MadeAll 2 309 := made_succ 1 43 (by decide) (by decide) (by decide) (made_succ 0 5 (by decide) (by decide) (by decide) made_zero)
end Go.Proofs.Ytcjlifhehiolkaa
