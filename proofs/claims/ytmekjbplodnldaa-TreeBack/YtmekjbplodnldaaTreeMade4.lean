/-
  The statements' 'made', in all.
-/
import Derived.Test.YtmekjbplodnldaaTreeMade2
import Derived.Test.YtmekjbplodnldaaTreeMade3
namespace Go.Proofs.Ytmekjbplodnldaa
open Go.RowKit
theorem made (d : Nat) (hd : d ≤ 1000) : madeIH d := by
  induction d with
  | zero =>
    intro at0 ba n tn c tc' la ta zs xs w hR hat h60
    exact made_end 0 at0 ba n c tn tc' la ta w hat h60 (.inr rfl)
  | succ d ih0 =>
    have ih := ih0 (by omega)
    intro at0 ba n tn c tc' la ta zs xs w hR hat h60
    by_cases hlt : at0 < n
    · obtain ⟨a, rfl⟩ := hR.l1 (by omega)
      have hl : at0 < zs.length := by rw [hR.n1]; exact hlt
      have hzz : zs[at0]? = some zs[at0] := List.getElem?_eq_getElem hl
      have hrz := hR.rng zs[at0] (List.getElem_mem hl)
      generalize zs[at0] = z at *
      show Calls Try.prog 14 #[.slice (some a) n c, .slice ta tn tc', .pointer (some ⟨ba, 0, none⟩), .int .i64 ((d : Int) + 1)] w (MadeE (d + 1) at0 ba w)
      rcases Int.lt_or_le z 0 with hz | hz
      · have h3 : (-(z + 1)).toNat % 3 = 0 ∨ (-(z + 1)).toNat % 3 = 1 ∨ (-(z + 1)).toNat % 3 = 2 := by omega
        rcases h3 with h | h | h
        · exact made_n0 d at0 ba n tn c tc' a ta zs xs z w hR hat h60 hlt hzz hrz hz h
        · exact made_n1 d at0 ba n tn c tc' a ta zs xs z w hR hat h60 hlt hzz hrz hz h
        · exact made_n2 d (by omega) ih at0 ba n tn c tc' a ta zs xs z w hR hat h60 hlt hzz hrz hz h
      · have h3 : z.toNat % 3 = 0 ∨ z.toNat % 3 = 1 ∨ z.toNat % 3 = 2 := by omega
        rcases h3 with h | h | h
        · exact made_p0 d at0 ba n tn c tc' a ta zs xs z w hR hat h60 hlt hzz hrz hz h
        · exact made_p1 d at0 ba n tn c tc' a ta zs xs z w hR hat h60 hlt hzz hrz hz h
        · exact made_p2 d (by omega) ih at0 ba n tn c tc' a ta zs xs z w hR hat h60 hlt hzz hrz hz h
    · exact made_end (d + 1) at0 ba n c tn tc' la ta w hat h60 (.inl (by omega))
end Go.Proofs.Ytmekjbplodnldaa
