/-
  Bytes that came in: what their cells hold.
-/
import Derived.Test.YtbheccioeiemfaaWritesUpto
namespace Go.Proofs.Ytbheccioeiemfaa
open Go.ChangeShapes Go.WideShapes Go.ChangeAt Go.RowKit Go.Deep

theorem bulk_lits {H : Type} (k : IntKind) (l : List Int) : l.length ≤ Rows.uptoBulkAll (lits k l : List (DataW H)) := by
  induction l with
  | nil => simp
  | cons x r ih =>
    simp only [lits, List.map_cons, Rows.uptoBulkAll, Rows.uptoBulk, List.length_cons] at ih ⊢
    omega

/-- Bytes that came in. -/
theorem bytes_open {H : Type} {enc : TypeId × Value → H} {W : World} {fuel : Nat} {a0 : Option Addr} {len0 cap0 : Nat} {x : DataW H × List MemPlace} (hf : DataW.trod enc Try.prog W 0 (fun _ => true) true fuel 24 (Value.slice a0 len0 cap0).cells.toList = some x) :
    ∃ b0 l, Rd W b0 (.slice a0 len0 cap0) l ∧ (∀ y ∈ l, y < 256) ∧ len0 ≤ cap0 ∧ cap0 ≤ maxLen ∧ ((x.1 = .nil ∧ l = []) ∨ ∃ zs : List Int, l.length ≤ zs.length ∧ zs.length = cap0 ∧ x.1 = .slice (lits .u8 (zs.take len0)) (lits .u8 (zs.drop len0))) := by
  rcases open_ints Try.underlying24 Try.underlying5 (by kernel_rfl) hf with ⟨hcs, hx⟩ | ⟨a, ln, c, zs, hcs, _, hl, hm, hz, hx, hcell, hwz⟩
  · simp [Value.cells] at hcs
    obtain ⟨rfl, rfl, rfl⟩ := hcs
    exact ⟨0, [], .inl ⟨rfl, rfl⟩, by simp, by omega, by simp, .inl ⟨by rw [hx], rfl⟩⟩
  · simp [Value.cells] at hcs
    obtain ⟨rfl, rfl, rfl⟩ := hcs
    simp at hz
    have hwf : ∀ z ∈ zs, 0 ≤ z ∧ z ≤ 255 := fun z hz => bounds_u8 (hwz z hz)
    refine ⟨a.block, (zs.take len0).map Int.toNat, ?_, ?_, hl, hm, .inr ⟨zs, by simp; omega, hz, by rw [hx]⟩⟩
    · right
      refine ⟨a, cap0, by simp; omega, rfl, fun j u hu => ?_⟩
      have hj : j < len0 := by
        have := (List.getElem?_eq_some_iff.1 hu).1
        rw [bs_length] at this
        simp at this
        omega
      rw [hcell j (by omega)]
      rw [bs, List.getElem?_map, List.getElem?_map, List.getElem?_take, if_pos hj, List.getElem?_eq_getElem (show j < zs.length by omega)] at hu
      rw [← hu]
      have hw := hwf zs[j] (List.getElem_mem _)
      simp [List.getD, show j < zs.length by omega]
      omega
    · intro y hy
      obtain ⟨z, hz1, rfl⟩ := List.mem_map.1 hy
      have := hwf z (List.mem_of_mem_take hz1)
      omega
end Go.Proofs.Ytbheccioeiemfaa
