/-
  Texts in order, each once, in a list of its own.
-/
import Derived.Test.YtcjddbponknnoaaGreatDoorShelf3
import Derived.Test.YtcjddbponknnoaaGreatDoorIfaceMem
namespace Go.Proofs.YtcjddbponknnoaaGreatDoor
open Go.RowKit Go.Sort

theorem sCloneT (x : List UInt8) (w : World) (h : Tk x) : Calls Tryz.prog 48 #[.string (str x)] w fun e w' => e = .returned (.string (str x)) ∧ Below w.heap.size w w' := by
  unfold Tk at h
  go_enter Tryz.func48, Tryz.ntmps48
  go_wp2_with fail
  refine (Tryz.stringslite_Clone (str x) _ (by rw [str_size]; omega)).mono ?_
  rintro e w1 ⟨rfl, hb⟩
  go_wp2
  go_ret
  exact ⟨rfl, hb⟩
/-- Texts in a row of the call's own, as sorting wants them. -/
def RowO (B : Nat) (w : World) (v : Value) (acc : List (List UInt8)) : Prop :=
  (acc = [] ∧ v = .slice none 0 0) ∨ ∃ g cap, v = .slice (some ⟨g, 0, none⟩) acc.length cap ∧ B ≤ g ∧ g < w.heap.size ∧ acc.length ≤ cap ∧ Holds encStr w g 0 acc.toArray
theorem rowO_own {w : World} {B e : Nat} {v : Value} {xs : List (List UInt8)} (h : w.ownsRow B e 1 v xs.length (sc xs)) : RowO B w v xs := by
  rcases h.2 with ⟨rfl, hn⟩ | ⟨g, cap, cur, rfl, hb, hg, h1, _⟩
  · exact .inl ⟨List.eq_nil_of_length_eq_zero hn, rfl⟩
  · refine .inr ⟨g, cap, rfl, hb, (Array.getElem?_eq_some_iff.1 hg).1, h1, fun j hj => ⟨?_, ?_⟩⟩
    · simp only [List.size_toArray] at hj
      rw [Nat.zero_add, h.cellAt j (by omega)]
      simp [sc, encStr, str, hj]
    · rw [Nat.zero_add]
      exact h.frozenAt j
theorem keptO_put (w : World) (n g : Nat) (d : Array (List UInt8)) : Kept (fun k => k = g) w (putRow encStr (Sort.ahead w n) g 0 d) := by
  refine ⟨rfl, rfl, rfl, by simp, fun k hk hn => ?_⟩
  simp only [putRow, mapBlock, heap_ahead, Array.getElem?_modify]
  rw [if_neg (fun e => hn e.symm)]
theorem keptO_grow {S : Nat → Prop} {w w1 : World} (h : Kept S w w1) (os : Array Obj) : Kept S w (grow w1 os) := by
  refine ⟨h.os, h.tape, h.output, by have := h.size; simp; omega, fun k hk hn => ?_⟩
  rw [heap_grow_old _ _ (Nat.lt_of_lt_of_le hk h.size)]
  exact h.block k hk hn
theorem sortO (B : Nat) (w : World) (v : Value) (acc : List (List UInt8)) (h : RowO B w v acc) (hn : acc.length ≤ 4611686018427387903) :
    Calls Tryz.prog 49 #[v] w fun e w' => e = .returned (.tuple #[]) ∧ RowO B w' v (sortR acc) ∧ Below B w w' := by
  rcases h with ⟨rfl, rfl⟩ | ⟨g, cap, rfl, hB, hg, hc, hH⟩
  · refine (Tryz.slices_Sort_string_none none 0 w).mono ?_
    rintro e w1 ⟨rfl, rfl⟩
    exact ⟨rfl, .inl ⟨by simp [sortR], rfl⟩, Below.refl _ _⟩
  · refine (Tryz.slices_Sort_string g 0 cap acc w hH hg (by omega)).mono ?_
    rintro e w1 ⟨rfl, n, os, rfl⟩
    have hk := keptO_grow (keptO_put w n g (sortR acc).toArray) os
    refine ⟨rfl, .inr ⟨g, cap, by rw [sortR_length], hB, Nat.lt_of_lt_of_le hg hk.size, by rw [sortR_length]; exact hc, ?_⟩, hk.below (by omega) (fun k hk' e => by omega)⟩
    refine holds_grow _ _ _ _ _ _ (by simpa using hg) (holds_putRow _ _ _ _ acc.toArray _ (holds_ahead _ _ _ _ _ _ hH) (by simp))
theorem compactO_len (zs : List (List UInt8)) : (Lib.compact zs).length ≤ zs.length := by
  rw [Lib.compact, Lib.compactUpTo, List.length_map]
  have := List.length_filter_le (Lib.keeps zs.toArray) (List.range zs.length)
  rwa [List.length_range] at this
theorem compactO (B : Nat) (w : World) (v : Value) (acc : List (List UInt8)) (h : RowO B w v acc) (hn : acc.length ≤ 4611686018427387903) :
    Calls Tryz.prog 50 #[v] w fun e w' => ∃ v', e = .returned v' ∧ StrRow w' v' (Lib.compact acc) ∧ Below B w w' := by
  rcases h with ⟨rfl, rfl⟩ | ⟨g, cap, rfl, hB, hg, hc, hH⟩
  · refine (Tryz.slices_Compact_string_empty none 0 w).mono ?_
    rintro e w1 ⟨rfl, rfl⟩
    exact ⟨_, rfl, .inl ⟨by simp [Lib.compact, Lib.compactUpTo], none, 0, rfl⟩, Below.refl _ _⟩
  · refine (Tryz.slices_Compact_string g 0 cap acc w hH (by omega) hc).mono ?_
    rintro e w1 ⟨rfl, q, rfl⟩
    have hl := compactO_len acc
    have hk := keptO_put w q g (Lib.compact acc ++ List.replicate (acc.length - (Lib.compact acc).length) []).toArray
    have hz : (Lib.compact acc ++ List.replicate (acc.length - (Lib.compact acc).length) ([] : List UInt8)).toArray.size = acc.toArray.size := by simp; omega
    have hh := holds_putRow encStr (Sort.ahead w q) g 0 acc.toArray (Lib.compact acc ++ List.replicate (acc.length - (Lib.compact acc).length) []).toArray (holds_ahead _ _ _ _ _ _ hH) hz
    refine ⟨_, rfl, .inr ⟨g, 0, cap, rfl, Nat.lt_of_lt_of_le hg hk.size, Nat.le_trans hl hc, fun j x hj => ?_⟩, hk.below (by omega) (fun k hk' e => by omega)⟩
    have hlt := (List.getElem?_eq_some_iff.1 hj).1
    have := (hh j (by simp; omega)).1
    rw [this]
    have e : (Lib.compact acc ++ List.replicate (acc.length - (Lib.compact acc).length) ([] : List UInt8)).toArray[j]! = x := by
      rw [getElem!_def, List.getElem?_toArray, List.getElem?_append_left hlt, hj]
    rw [e]
    rfl
theorem onceR_is (xs : List (List UInt8)) : onceR xs = Lib.compact (sortR xs) := rfl
end Go.Proofs.YtcjddbponknnoaaGreatDoor
