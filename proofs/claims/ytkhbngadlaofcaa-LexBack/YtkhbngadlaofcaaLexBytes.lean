/-
  Bytes that came in.
-/
import Derived.Test.YtkhbngadlaofcaaLexMem
import Derived.Test.YtkhbngadlaofcaaRows
import Derived.ProofKit
import Derived.OpenShut
import Derived.Deep.Upon
import Derived.Deep.Slices

namespace Go.Proofs.Ytkhbngadlaofcaa
open Go.ChangeShapes Go.WideShapes Go.ChangeAt Go.RowKit Go.Deep

/-- A row of bytes that can be read. -/
def RdB (w : World) (v : Value) (l : List UInt8) : Prop := (v = .slice none 0 0 ∧ l = []) ∨ ∃ a cap, l.length ≤ cap ∧ v = .slice (some a) l.length cap ∧ ∀ j u, (bc l)[j]? = some u → w.cell? (a.add j) = some u
theorem RdB.shape {w : World} {v : Value} {l : List UInt8} (h : RdB w v l) : ∃ a c, v = .slice a l.length c ∧ l.length ≤ c := by
  rcases h with ⟨rfl, rfl⟩ | ⟨a, cap, hc, rfl, _⟩
  · exact ⟨none, 0, rfl, Nat.le_refl _⟩
  · exact ⟨_, _, rfl, hc⟩
theorem RdB.string {w : World} {v : Value} {l : List UInt8} (h : RdB w v l) : (convert 27 9 v).run Try.prog w = .ok (.string (str l)) w := by
  rcases h with ⟨rfl, rfl⟩ | ⟨a, cap, _, rfl, hc⟩
  · exact nil_string w
  · exact bytes_string rfl hc
theorem RdB.below {w w' : World} {v : Value} {l : List UInt8} (h : RdB w v l) (k : Below w.heap.size w w') : RdB w' v l := by
  rcases h with h | ⟨a, cap, hcap, rfl, hc⟩
  · exact .inl h
  · refine .inr ⟨a, cap, hcap, rfl, fun j u hj => ?_⟩
    have := hc j u hj
    rw [k.cell (World.block_lt_of_cell? w _ this)]
    exact this
theorem RdB.take {w : World} {a : Option Addr} {n c : Nat} {l : List UInt8} (h : RdB w (.slice a n c) l) (m : Nat) (hm : m ≤ l.length) (h0 : 0 < m) : RdB w (.slice a m c) (l.take m) := by
  rcases h with ⟨h, rfl⟩ | ⟨a', cap, hcap, h, hc⟩
  · simp at hm; omega
  · cases h
    refine .inr ⟨a', c, by simp; omega, by simp [Nat.min_eq_left hm], fun j u hj => hc j u ?_⟩
    simp only [bc, List.getElem?_map, List.getElem?_take] at hj ⊢
    split at hj
    · exact hj
    · simp at hj

/-- Bytes that came in. -/
theorem bytes_open {H : Type} {enc : TypeId × Value → H} {W : World} {fuel : Nat} {a0 : Option Addr} {len0 cap0 : Nat} {x : DataW H × List MemPlace} (hf : DataW.trod enc Try.prog W 0 (fun _ => true) true fuel 27 (Value.slice a0 len0 cap0).cells.toList = some x) :
    ∃ l, RdB W (.slice a0 len0 cap0) l ∧ l.length ≤ maxLen := by
  rcases open_ints Try.underlying27 Try.underlying5 (by kernel_rfl) hf with ⟨hcs, hx⟩ | ⟨a, ln, c, zs, hcs, _, hl, hm, hz, hx, hcell, hwz⟩
  · simp [Value.cells] at hcs
    obtain ⟨rfl, rfl, rfl⟩ := hcs
    exact ⟨[], .inl ⟨rfl, rfl⟩, by simp⟩
  · simp [Value.cells] at hcs
    obtain ⟨rfl, rfl, rfl⟩ := hcs
    simp at hz
    have hwf : ∀ z ∈ zs, 0 ≤ z ∧ z ≤ 255 := fun z hz => bounds_u8 (hwz z hz)
    have hlen : ((zs.take len0).map fun z => UInt8.ofNat z.toNat).length = len0 := by simp; omega
    refine ⟨(zs.take len0).map fun z => UInt8.ofNat z.toNat, .inr ⟨a, cap0, by omega, by rw [hlen], fun j u hu => ?_⟩, by omega⟩
    have hj : j < len0 := by
      have := (List.getElem?_eq_some_iff.1 hu).1
      rw [bc_length] at this
      omega
    rw [hcell j (by omega)]
    rw [bc, List.getElem?_map, List.getElem?_map, List.getElem?_take, if_pos hj, List.getElem?_eq_getElem (show j < zs.length by omega)] at hu
    rw [← hu]
    have hw := hwf zs[j] (List.getElem_mem _)
    simp [List.getD, show j < zs.length by omega]
    omega
end Go.Proofs.Ytkhbngadlaofcaa
