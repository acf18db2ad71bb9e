/-
  The package's Find.
-/
import Derived.Test.YtfddnaeldpafmaaIfaceFind
namespace Go.Proofs.Ytfddnaeldpafmaa
open Go.RowKit

def it0 : It := ⟨0, [], [], []⟩
def FindE (l : List It) (q : List UInt8) (w : World) (e : Ending) (w' : World) : Prop := ∃ x cv, e = .returned (.tuple #[itv x cv, .bool (findI l q).isSome]) ∧ x = (findI l q).getD it0 ∧ CsR (Fr w w') w' cv x.cases ∧ Below w.heap.size w w'
theorem findI_at (l : List It) (q : List UInt8) (k : Nat) (h : k < l.length) : findI (l.drop k) q = if l[k].name = q then some l[k] else findI (l.drop (k + 1)) q := by
  rw [List.drop_eq_getElem_cons h, findI, List.find?_cons]
  by_cases e : l[k].name = q
  · simp [e]
  · simp [e, findI]
end Go.Proofs.Ytfddnaeldpafmaa
