/-
  Texts in order, each once, in a list of its own.
-/
import Derived.Test.YtfddnaeldpafmaaShelf3
import Derived.Test.YtfddnaeldpafmaaIfaceMem
namespace Go.Proofs.Ytfddnaeldpafmaa
open Go.RowKit Go.Sort

theorem sCloneT (x : List UInt8) (w : World) (h : Tk x) : Calls Try.prog 8 #[.string (str x)] w fun e w' => e = .returned (.string (str x)) ∧ Below w.heap.size w w' := by
  unfold Tk at h
  go_enter Try.func8, Try.ntmps8
  go_wp2_with fail
  refine (Try.stringslite_Clone (str x) _ (by rw [str_size]; omega)).mono ?_
  rintro e w1 ⟨rfl, hb⟩
  go_wp2
  go_ret
  exact ⟨rfl, hb⟩
/-- Texts in a row of the call's own, as sorting wants them. -/
def RowO (B : Nat) (w : World) (v : Value) (acc : List (List UInt8)) : Prop :=
  (acc = [] ∧ v = .slice none 0 0) ∨ ∃ g cap, v = .slice (some ⟨g, 0, none⟩) acc.length cap ∧ B ≤ g ∧ g < w.heap.size ∧ acc.length ≤ cap ∧ Holds encStr w g 0 acc.toArray
theorem rowO_own {w : World} {B e : Nat} {v : Value} {xs : List (List UInt8)} (h : w.ownsRow B e 1 v xs.length (sc xs)) : RowO B w v xs := by
  rcases h.2 with ⟨rfl, hn⟩ | ⟨g, cap, cur, rfl, hb, hg, h1, _⟩
  · exact .inl ⟨List.eq_nil_of_length_eq_zero hn, rfl⟩
  · refine .inr ⟨g, cap, rfl, hb, (Array.getElem?_eq_some_iff.1 hg).1, h1, fun j hj => ⟨?_, ?_⟩⟩
    · simp only [List.size_toArray] at hj
      rw [Nat.zero_add, h.cellAt j (by omega)]
      simp [sc, encStr, str, hj]
    · rw [Nat.zero_add]
      exact h.frozenAt j
theorem keptO_put (w : World) (n g : Nat) (d : Array (List UInt8)) : Kept (fun k => k = g) w (putRow encStr (Sort.ahead w n) g 0 d) := by
  refine ⟨rfl, rfl, rfl, by simp, fun k hk hn => ?_⟩
  simp only [putRow, mapBlock, heap_ahead, Array.getElem?_modify]
  rw [if_neg (fun e => hn e.symm)]
theorem keptO_grow {S : Nat → Prop} {w w1 : World} (h : Kept S w w1) (os : Array Obj) : Kept S w (grow w1 os) := by
  refine ⟨h.os, h.tape, h.output, by have := h.size; simp; omega, fun k hk hn => ?_⟩
  rw [heap_grow_old _ _ (Nat.lt_of_lt_of_le hk h.size)]
  exact h.block k hk hn
theorem compactO_len (zs : List (List UInt8)) : (Lib.compact zs).length ≤ zs.length := by
  rw [Lib.compact, Lib.compactUpTo, List.length_map]
  have := List.length_filter_le (Lib.keeps zs.toArray) (List.range zs.length)
  rwa [List.length_range] at this
theorem onceR_is (xs : List (List UInt8)) : onceR xs = Lib.compact (sortR xs) := rfl
end Go.Proofs.Ytfddnaeldpafmaa
