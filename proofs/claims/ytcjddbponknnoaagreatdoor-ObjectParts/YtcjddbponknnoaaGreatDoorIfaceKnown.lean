/-
  The package's Of where nothing is defined; the statements' 'known': some of chapter 7's runs.
-/
import Derived.Deep.LoopGhost
import Derived.Laws.Rows
import Derived.Laws.Tables
import Derived.Test.YtcjddbponknnoaaGreatDoorIfaceEncode
import Derived.Test.YtcjddbponknnoaaGreatDoorWireStr
import Derived.Test.YtcjddbponknnoaaGreatDoorLexSplit
namespace Go.Proofs.YtcjddbponknnoaaGreatDoor
open Go.RowKit

theorem res7 {P : Program} {fn : Func} {p u : Tmp} {ty : TypeId} (h : fn.results = #[.cell p ty, .tmp u]) (tmps : Array Value) (w : World) (g : Nat) (t : TypeId) (cs : Array Value) (fr : Nat × Nat) (d : TypeDesc)
    (hp : tmps.getD p undef = .pointer (some ⟨g, 0, none⟩)) (hg : w.heap[g]? = some (.cells cs t fr))
    (hu : P.underlying ty = some d) (hd : (match d with | .struct _ | .array _ _ => true | _ => false) = true) (hi : (P.info? ty).map (·.size) = some cs.size) :
    (results fn tmps).run P w = .ok (.tuple #[.agg cs, tmps.getD u undef]) w := by
  have hp' : tmps[p]?.getD undef = .pointer (some ⟨g, 0, none⟩) := by simpa using hp
  simp [results, h, hp', asAddr, run_loadVar_row w g t ty cs fr d hg hu hd hi]
theorem sizeIt : (Tryz.prog.info? 75).map (·.size) = some 4 := by kernel_rfl
theorem sizeIf : (Tryz.prog.info? 56).map (·.size) = some 2 := by kernel_rfl
def NoneE (w : World) (e : Ending) (w' : World) : Prop := e = .returned (.tuple #[.agg #[.int .i64 0, .string ⟨#[]⟩, .string ⟨#[]⟩, .slice none 0 0], .bool false]) ∧ Below w.heap.size w w'
theorem setRow_below (w : World) (g : Nat) (cs : Array Value) : Below g w (w.setRow g cs) := by
  refine ⟨rfl, rfl, rfl, by simp [World.setRow], fun k hk => ?_⟩
  simp only [World.setRow]
  rw [Array.getElem?_modify, if_neg (by omega)]
def OfNone (w : World) (e : Ending) (w' : World) : Prop := e = .returned (.tuple #[.agg #[.string ⟨#[]⟩, .slice none 0 0], .int .i64 16]) ∧ Below w.heap.size w w'
def KnownI (w : World) (e : Ending) (w' : World) : Prop := e = .returned (.bool true) ∧ Below w.heap.size w w'
theorem k_bytes : ifaceB [109] [] = [1, 109, 0] := by decide
theorem k_right : rightI [109] [] = 0 := by decide
theorem k_str : Wire.toStr [1, 109, 0] = ⟨#[1, 109, 0]⟩ := by kernel_rfl
end Go.Proofs.YtcjddbponknnoaaGreatDoor
