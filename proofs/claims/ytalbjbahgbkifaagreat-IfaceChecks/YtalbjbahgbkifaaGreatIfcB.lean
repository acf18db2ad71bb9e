/-
  Texts in order, each once, in a list of its own.
  And: slices.Backward over items; the package's places: where each name is found first. The package's Breaks. The package's copies: of texts, of cases. The books' own comparing, at what is the same: texts, cases, items, interfaces.
-/
import Derived.Test.YtalbjbahgbkifaaGreatShelf3
import Derived.Test.YtalbjbahgbkifaaGreatIfaceMem
import Derived.RangeFuncNested
import Derived.RangeFuncBound
import Derived.RangeFuncCalls
import Derived.RangeFuncLeaves
import Derived.RangeFuncBox
import Derived.Shelf.Abstract
import Derived.Shelf.RegionOpen
import Derived.WalkKit
import Derived.WalkArith
import Derived.OwnWalkIn
import Derived.TacticsInMore
import Derived.LoopNIn
import Derived.LoopIn
import Derived.Maps.OwnIn
import Derived.Maps.OwnSet
import Derived.Deep.Slices
import Derived.StringKeys
import Derived.Deep.CutRange
import Derived.Deep.RegionHeld3
import Derived.Deep.RegionWith
import Derived.Deep.LoopGhost
import Derived.Maps.OwnOps
import Derived.Test.YtalbjbahgbkifaaGreatIfaceSameW
import Derived.Test.YtalbjbahgbkifaaGreatLexLabels
import Derived.Deep.AppendLies
import Derived.Deep.QuietTactic
import Derived.BigQuiet
namespace Go.Proofs.YtalbjbahgbkifaaGreat
open Go.RowKit Go.Sort

theorem sCloneT (x : List UInt8) (w : World) (h : Tk x) : Calls Tryz.prog 46 #[.string (str x)] w fun e w' => e = .returned (.string (str x)) ∧ Below w.heap.size w w' := by
  unfold Tk at h
  go_enter Tryz.func46, Tryz.ntmps46
  go_wp2_with fail
  refine (Tryz.stringslite_Clone (str x) _ (by rw [str_size]; omega)).mono ?_
  rintro e w1 ⟨rfl, hb⟩
  go_wp2
  go_ret
  exact ⟨rfl, hb⟩
/-- Texts in a row of the call's own, as sorting wants them. -/
def RowO (B : Nat) (w : World) (v : Value) (acc : List (List UInt8)) : Prop :=
  (acc = [] ∧ v = .slice none 0 0) ∨ ∃ g cap, v = .slice (some ⟨g, 0, none⟩) acc.length cap ∧ B ≤ g ∧ g < w.heap.size ∧ acc.length ≤ cap ∧ Holds encStr w g 0 acc.toArray
theorem rowO_own {w : World} {B e : Nat} {v : Value} {xs : List (List UInt8)} (h : w.ownsRow B e 1 v xs.length (sc xs)) : RowO B w v xs := by
  rcases h.2 with ⟨rfl, hn⟩ | ⟨g, cap, cur, rfl, hb, hg, h1, _⟩
  · exact .inl ⟨List.eq_nil_of_length_eq_zero hn, rfl⟩
  · refine .inr ⟨g, cap, rfl, hb, (Array.getElem?_eq_some_iff.1 hg).1, h1, fun j hj => ⟨?_, ?_⟩⟩
    · simp only [List.size_toArray] at hj
      rw [Nat.zero_add, h.cellAt j (by omega)]
      simp [sc, encStr, str, hj]
    · rw [Nat.zero_add]
      exact h.frozenAt j
theorem keptO_put (w : World) (n g : Nat) (d : Array (List UInt8)) : Kept (fun k => k = g) w (putRow encStr (Sort.ahead w n) g 0 d) := by
  refine ⟨rfl, rfl, rfl, by simp, fun k hk hn => ?_⟩
  simp only [putRow, mapBlock, heap_ahead, Array.getElem?_modify]
  rw [if_neg (fun e => hn e.symm)]
theorem keptO_grow {S : Nat → Prop} {w w1 : World} (h : Kept S w w1) (os : Array Obj) : Kept S w (grow w1 os) := by
  refine ⟨h.os, h.tape, h.output, by have := h.size; simp; omega, fun k hk hn => ?_⟩
  rw [heap_grow_old _ _ (Nat.lt_of_lt_of_le hk h.size)]
  exact h.block k hk hn
theorem sortO (B : Nat) (w : World) (v : Value) (acc : List (List UInt8)) (h : RowO B w v acc) (hn : acc.length ≤ 4611686018427387903) :
    Calls Tryz.prog 78 #[v] w fun e w' => e = .returned (.tuple #[]) ∧ RowO B w' v (sortR acc) ∧ Below B w w' := by
  rcases h with ⟨rfl, rfl⟩ | ⟨g, cap, rfl, hB, hg, hc, hH⟩
  · refine (Tryz.slices_Sort_string_none none 0 w).mono ?_
    rintro e w1 ⟨rfl, rfl⟩
    exact ⟨rfl, .inl ⟨by simp [sortR], rfl⟩, Below.refl _ _⟩
  · refine (Tryz.slices_Sort_string g 0 cap acc w hH hg (by omega)).mono ?_
    rintro e w1 ⟨rfl, n, os, rfl⟩
    have hk := keptO_grow (keptO_put w n g (sortR acc).toArray) os
    refine ⟨rfl, .inr ⟨g, cap, by rw [sortR_length], hB, Nat.lt_of_lt_of_le hg hk.size, by rw [sortR_length]; exact hc, ?_⟩, hk.below (by omega) (fun k hk' e => by omega)⟩
    refine holds_grow _ _ _ _ _ _ (by simpa using hg) (holds_putRow _ _ _ _ acc.toArray _ (holds_ahead _ _ _ _ _ _ hH) (by simp))
theorem compactO_len (zs : List (List UInt8)) : (Lib.compact zs).length ≤ zs.length := by
  rw [Lib.compact, Lib.compactUpTo, List.length_map]
  have := List.length_filter_le (Lib.keeps zs.toArray) (List.range zs.length)
  rwa [List.length_range] at this
theorem compactO (B : Nat) (w : World) (v : Value) (acc : List (List UInt8)) (h : RowO B w v acc) (hn : acc.length ≤ 4611686018427387903) :
    Calls Tryz.prog 79 #[v] w fun e w' => ∃ v', e = .returned v' ∧ StrRow w' v' (Lib.compact acc) ∧ Below B w w' := by
  rcases h with ⟨rfl, rfl⟩ | ⟨g, cap, rfl, hB, hg, hc, hH⟩
  · refine (Tryz.slices_Compact_string_empty none 0 w).mono ?_
    rintro e w1 ⟨rfl, rfl⟩
    exact ⟨_, rfl, .inl ⟨by simp [Lib.compact, Lib.compactUpTo], none, 0, rfl⟩, Below.refl _ _⟩
  · refine (Tryz.slices_Compact_string g 0 cap acc w hH (by omega) hc).mono ?_
    rintro e w1 ⟨rfl, q, rfl⟩
    have hl := compactO_len acc
    have hk := keptO_put w q g (Lib.compact acc ++ List.replicate (acc.length - (Lib.compact acc).length) []).toArray
    have hz : (Lib.compact acc ++ List.replicate (acc.length - (Lib.compact acc).length) ([] : List UInt8)).toArray.size = acc.toArray.size := by simp; omega
    have hh := holds_putRow encStr (Sort.ahead w q) g 0 acc.toArray (Lib.compact acc ++ List.replicate (acc.length - (Lib.compact acc).length) []).toArray (holds_ahead _ _ _ _ _ _ hH) hz
    refine ⟨_, rfl, .inr ⟨g, 0, cap, rfl, Nat.lt_of_lt_of_le hg hk.size, Nat.le_trans hl hc, fun j x hj => ?_⟩, hk.below (by omega) (fun k hk' e => by omega)⟩
    have hlt := (List.getElem?_eq_some_iff.1 hj).1
    have := (hh j (by simp; omega)).1
    rw [this]
    have e : (Lib.compact acc ++ List.replicate (acc.length - (Lib.compact acc).length) ([] : List UInt8)).toArray[j]! = x := by
      rw [getElem!_def, List.getElem?_toArray, List.getElem?_append_left hlt, hj]
    rw [e]
    rfl
theorem cloneO (F : Nat → Prop) (v : Value) (xs : List (List UInt8)) (w : World) (h : TxR F w v xs) (hl : xs.length ≤ 8796093022208) :
    Calls Tryz.prog 77 #[v] w fun e w' => ∃ v', e = .returned v' ∧ RowO w.heap.size w' v' xs ∧ Below w.heap.size w w' := by
  rcases h with ⟨a, c, rfl, rfl⟩ | ⟨g, o, cap, rfl, hg, hc⟩
  · cases a with
    | none =>
      refine (Tryz.slices_Clone_string_nil 0 c w).mono ?_
      rintro e w1 ⟨rfl, rfl⟩
      exact ⟨_, rfl, .inl ⟨rfl, rfl⟩, Below.refl _ _⟩
    | some a =>
      refine (Tryz.slices_Clone_string_zero a c w).mono ?_
      rintro e w1 ⟨v', rfl, h1, _, hb⟩
      exact ⟨v', rfl, rowO_own (xs := []) h1, hb⟩
  · refine (Tryz.slices_Clone_string g o xs.length cap (xs.map str) w (by simp) (by omega) (fun j hj => ?_)).mono ?_
    · simp only [List.length_map] at hj
      rw [hc j _ (List.getElem?_eq_getElem hj)]
      simp [List.getD_eq_getElem?_getD, hj]
    · rintro e w1 ⟨v', rfl, h1, _, hb⟩
      refine ⟨v', rfl, rowO_own (xs := xs) (e := 9) ?_, hb⟩
      rw [List.take_of_length_le (by simp), List.map_map] at h1
      exact h1
theorem onceR_is (xs : List (List UInt8)) : onceR xs = Lib.compact (sortR xs) := rfl
set_option maxHeartbeats 1000000 in
theorem eachOnce (F : Nat → Prop) (v : Value) (xs : List (List UInt8)) (w : World) (h : TxR F w v xs) (hl : xs.length ≤ 8796093022208) :
    Calls Tryz.prog 45 #[v] w fun e w' => ∃ v', e = .returned v' ∧ StrRow w' v' (onceR xs) ∧ Below w.heap.size w w' := by
  have hc := cloneO F v xs w h hl
  have HE : Hid (onceR xs = Lib.compact (sortR xs)) := onceR_is xs
  clear h
  go_enter Tryz.func45, Tryz.ntmps45
  go_wp2_with fail
  refine hc.mono ?_
  rintro e w1 ⟨v1, rfl, hr1, hb1⟩
  go_wp2_with fail
  refine (sortO _ _ _ _ hr1 (by omega)).mono ?_
  rintro e w2 ⟨rfl, hr2, hb2⟩
  go_wp2_with fail
  refine (compactO _ _ _ _ hr2 (by rw [sortR_length]; omega)).mono ?_
  rintro e w3 ⟨v3, rfl, hr3, hb3⟩
  go_wp2
  go_ret
  exact ⟨v3, rfl, by rw [HE.out]; exact hr3, hb1.trans (hb2.trans hb3)⟩
end Go.Proofs.YtalbjbahgbkifaaGreat

namespace Go.Proofs.YtalbjbahgbkifaaGreat
open Go.RowKit Go.Shelf
attribute [local go_sem] Oper.semAt_some

/-- What a round is handed: where the item stands, the item, its cases' slice. -/
abbrev Rn : Type := { x : Nat × It × Option Addr × Nat // x.2.1.name.length ≤ 140737488355328 ∧ x.1 ≤ 2199023255552 }
def rnv (x : Rn) : Array Value := #[.int .i64 (x.1.1 : Int), .agg #[.int .i64 x.1.2.1.kind, .string (str x.1.2.1.name), .string (str x.1.2.1.ty), .slice x.1.2.2.1 x.1.2.1.cases.length x.1.2.2.2]]
def rn0 : Rn := ⟨(0, ⟨0, [], [], []⟩, none, 0), by simp⟩
def uptoR (f : Nat → Rn) (k : Nat) : List Rn := (List.range k).map f
theorem uptoR_succ (f : Nat → Rn) (k : Nat) : uptoR f (k + 1) = uptoR f k ++ [f k] := by simp [uptoR, List.range_succ]
theorem uptoR_length (f : Nat → Rn) (k : Nat) : (uptoR f k).length = k := by simp [uptoR]
/-- What a round that goes on keeps: what lay below n₀, and the box of the slice. -/
def KpB (n₀ Bs : Nat) (W W' : World) : Prop := Below n₀ W W' ∧ ∀ v, W.cell? ⟨Bs, 0, none⟩ = some v → W'.cell? ⟨Bs, 0, none⟩ = some v
theorem KpB.t {n₀ Bs : Nat} {A B C : World} (h : KpB n₀ Bs A B) (k : KpB n₀ Bs B C) : KpB n₀ Bs A C := ⟨h.1.trans k.1, fun v hv => k.2 v (h.2 v hv)⟩
theorem KpB.b {n₀ Bs : Nat} {w : World} (hn : n₀ ≤ w.heap.size) (W : World) (l : Nat) (o o' : Obj) (hl : w.heap.size ≤ l) (h : W.heap[l]? = some o) (hc : o.isCells = false) (hw : o.isWalk = false) : KpB n₀ Bs W (W.putObj l o') :=
  ⟨belowK_b hn W l o o' hl h hc hw, fun v hv => cell_kept hv (grownBy_putObj' W l o') (fun r e => by cases e; exact ⟨o, h, hc⟩)⟩
set_option maxRecDepth 100000 in
set_option maxHeartbeats 2000000 in
theorem backward1 (F : Fence) (n : Nat) (h7 : F.fn 106) (hro : F.round = none) (hn : 1 ≤ n) (l Bs n₀ b off len cap : Nat) (f : Nat → Rn) (hreach : len ≤ 2199023255552) (hb : b < n₀) (J Jx : List Rn → World → Prop)
    (hY : ∀ pre x W, J pre W → pre.length < len → YieldAt F (n - 1) Tryz.prog l (rnv x) W fun e W' =>
      (e = .returned (.bool true) ∧ J (pre ++ [x]) W' ∧ KpB n₀ Bs W W') ∨ (e = .returned (.bool false) ∧ Jx (pre ++ [x]) W'))
    (W : World) (hBs : W.cell? ⟨Bs, 0, none⟩ = some (.slice (some ⟨b, off, none⟩) len cap))
    (hc : ∀ k, k < len → (f k).1.1 = len - 1 - k ∧ W.cell? ⟨b, off + (len - 1 - k) * 4, none⟩ = some (.int .i64 (f k).1.2.1.kind) ∧ W.cell? ⟨b, off + (len - 1 - k) * 4 + 1, none⟩ = some (.string (str (f k).1.2.1.name)) ∧ W.cell? ⟨b, off + (len - 1 - k) * 4 + 2, none⟩ = some (.string (str (f k).1.2.1.ty)) ∧ W.cell? ⟨b, off + (len - 1 - k) * 4 + 3, none⟩ = some (.slice (f k).1.2.2.1 (f k).1.2.1.cases.length (f k).1.2.2.2)) (h0 : J [] W) :
    CallsIn F n Tryz.prog 106 #[.func (.yield l) #[] #[], .pointer (some ⟨Bs, 0, none⟩)] W fun e W' => (∃ v, e = .returned v) ∧
      ((∃ ys, ys = uptoR f len ∧ J ys W') ∨ (∃ pre, (∃ k, k ≤ len ∧ pre = uptoR f k) ∧ Jx pre W')) := by
  refine callsIn_of_wp Tryz.func106 rfl h7 ?_ hro
  simp only [Tryz.ntmps106, List.size_toArray, List.length_cons, List.length_nil, Nat.reduceAdd, Nat.reduceSub, Array.replicate_succ, Array.replicate_zero, List.push_toArray, List.append_toArray, List.nil_append, List.cons_append]
  gi_wp2
  gi_loopw [3] (fun i wr => ∃ k : Nat, k ≤ len ∧ i = .int .i64 ((len : Int) - 1 - k) ∧ J (uptoR f k) wr ∧ Below n₀ W wr ∧ wr.cell? ⟨Bs, 0, none⟩ = some (.slice (some ⟨b, off, none⟩) len cap))
    (fun i _ => (intOf i + 1).toNat)
  case atStart => exact ⟨0, Nat.zero_le _, by simp, h0, Below.refl _ _, hBs⟩
  case round =>
    obtain ⟨k, hk, rfl, hJs, hnx, hBr⟩ := hrel
    by_cases hlt : k < len
    · obtain ⟨hc0, hc1, hc2, hc3, hc4⟩ := hc k hlt
      obtain ⟨fn, tmps, assign, body, hy, hR⟩ := hY _ (f k) wr hJs (by rw [uptoR_length]; exact hlt)
      obtain ⟨j, hj⟩ : ∃ j, j = len - 1 - k := ⟨_, rfl⟩
      rw [← hj] at hc0 hc1 hc2 hc3 hc4
      have d1 := (hnx.cell (p := ⟨b, off + j * 4, none⟩) hb).trans hc1
      have d2 := (hnx.cell (p := ⟨b, off + j * 4 + 1, none⟩) hb).trans hc2
      have d3 := (hnx.cell (p := ⟨b, off + j * 4 + 2, none⟩) hb).trans hc3
      have d4 := (hnx.cell (p := ⟨b, off + j * 4 + 3, none⟩) hb).trans hc4
      have hji : (len : Int) - 1 - (k : Int) = (j : Int) := by omega
      have hj0 : (0 : Int) ≤ (j : Int) := by omega
      have hjl : (j : Int) < (len : Int) := by omega
      have HJ : Hid (j = len - 1 - k) := hj
      unfold rnv at hy
      rw [hc0] at hy
      rw [hji]
      clear hj hc1 hc2 hc3 hc4 hji
      gi_wp2
      refine hR.mono ?_
      rintro e W3 (⟨rfl, hJ3, hk3⟩ | ⟨rfl, hJx3⟩)
      · have hj2 := HJ.out
        gi_wp2
        go_roundw
        case rel => exact ⟨k + 1, by omega, by simp; omega, by rw [uptoR_succ]; exact hJ3, hnx.trans hk3.1, hk3.2 _ hBr⟩
        case measure => simp [intOf]; omega
      · gi_wp2
        refine bodyPost_ret (results_none rfl _ _ _) rfl ?_
        exact ⟨⟨_, rfl⟩, .inr ⟨_, ⟨k + 1, by omega, (uptoR_succ _ _).symm⟩, hJx3⟩⟩
    · obtain rfl : k = len := by omega
      have hneg : (k : Int) - 1 - (k : Int) = -1 := by omega
      rw [hneg]
      gi_wp2
      go_end0
      exact ⟨⟨_, rfl⟩, .inl ⟨_, rfl, hJs⟩⟩
set_option maxRecDepth 100000 in
set_option maxHeartbeats 1000000 in
theorem backward1_nil (F : Fence) (n : Nat) (h7 : F.fn 106) (hro : F.round = none) (l Bs : Nat) (a : Option Addr) (c : Nat) (J : List Rn → World → Prop) (W : World) (hBs : W.cell? ⟨Bs, 0, none⟩ = some (.slice a 0 c)) (h0 : J [] W) :
    CallsIn F n Tryz.prog 106 #[.func (.yield l) #[] #[], .pointer (some ⟨Bs, 0, none⟩)] W fun e W' => (∃ v, e = .returned v) ∧ J [] W' := by
  refine callsIn_of_wp Tryz.func106 rfl h7 ?_ hro
  simp only [Tryz.ntmps106, List.size_toArray, List.length_cons, List.length_nil, Nat.reduceAdd, Nat.reduceSub, Array.replicate_succ, Array.replicate_zero, List.push_toArray, List.append_toArray, List.nil_append, List.cons_append]
  gi_wp2
  gi_loopw [3] (fun i wr => i = .int .i64 (-1) ∧ J [] wr) (fun _ _ => 0)
  case atStart => exact ⟨rfl, h0⟩
  case round =>
    obtain ⟨rfl, hJs⟩ := hrel
    gi_wp2
    go_end0
    exact ⟨⟨_, rfl⟩, hJs⟩
set_option maxHeartbeats 1000000 in
theorem backward_in (F : Fence) (n : Nat) (h5 : F.fn 76) (hro : F.round = none) (a : Option Addr) (len cap : Nat) (w : World) :
    CallsIn F n Tryz.prog 76 #[.slice a len cap] w fun e w' => e = .returned (.func (.func 106) #[] #[.pointer (some ⟨w.heap.size, 0, none⟩)]) ∧ w' = w.alloc (.cells #[.slice a len cap] 22) := by
  refine callsIn_of_wp Tryz.func76 rfl h5 ?_ hro
  simp only [Tryz.ntmps76, List.size_toArray, List.length_cons, List.length_nil, Nat.reduceAdd, Nat.reduceSub, Array.replicate_succ, Array.replicate_zero, List.push_toArray, List.append_toArray, List.nil_append, List.cons_append]
  gi_wp2
  go_ret
  exact ⟨rfl, rfl⟩
/-- Where each name is found first, as a map. -/
def plL {H : Type} : Nat → List It → DataW H
  | _, [] => .map []
  | i, x :: r => (plL (i + 1) r).put (.string x.name) (.lit (.int .i64 (i : Int)))
def plR {H : Type} (pre : List Rn) : DataW H := pre.foldl (fun D x => D.put (.string x.1.2.1.name) (.lit (.int .i64 (x.1.1 : Int)))) (.map [])
theorem plR_snoc {H : Type} (pre : List Rn) (x : Rn) : plR (H := H) (pre ++ [x]) = (plR pre).put (.string x.1.2.1.name) (.lit (.int .i64 (x.1.1 : Int))) := by simp [plR]
theorem plL_map {H : Type} : ∀ (i : Nat) (l : List It), Maps.IsMap (plL (H := H) i l)
  | _, [] => ⟨[], rfl⟩
  | i, x :: r => by
    obtain ⟨es, he⟩ := plL_map (H := H) (i + 1) r
    rw [plL, he]
    exact ⟨_, rfl⟩
theorem plL_has {H : Type} (q : List UInt8) : ∀ (i : Nat) (l : List It), Maps.has (plL (H := H) i l) (.string q) = (findI l q).isSome
  | _, [] => rfl
  | i, x :: r => by
    by_cases h : x.name = q
    · subst h
      rw [plL, Maps.has_put_same (plL_map _ _) (show WideAt.IsKeyLit (.string x.name) from trivial)]
      simp [findI]
    · rw [plL, Maps.has_put_other (by simp; exact fun e => h e.symm), plL_has q (i + 1) r]
      simp [findI, h]
theorem plL_at {H : Type} (q : List UInt8) (z : DataW H) : ∀ (i : Nat) (l : List It) (x : It), findI l q = some x → ∃ j, ∃ h : j < l.length, l[j] = x ∧ (plL (H := H) i l).atKey (.string q) z = .lit (.int .i64 ((i + j : Nat) : Int))
  | _, [], x, h => by simp [findI] at h
  | i, y :: r, x, h => by
    by_cases hy : y.name = q
    · subst hy
      simp only [findI, List.find?_cons, decide_true, Option.some.injEq] at h
      subst h
      exact ⟨0, by simp, rfl, by rw [plL, Maps.atKey_put_same (plL_map _ _) (show WideAt.IsKeyLit (.string y.name) from trivial)]; rfl⟩
    · have h' : findI r q = some x := by simpa [findI, hy] using h
      obtain ⟨j, hj, e1, e2⟩ := plL_at q z (i + 1) r x h'
      refine ⟨j + 1, by simp; omega, by simpa using e1, ?_⟩
      rw [plL, Maps.atKey_put_other (by simp; exact fun e => hy e.symm), e2]
      congr 3
      omega
theorem plR_all {H : Type} (l : List It) (f : Nat → Rn) (hf : ∀ k, k < l.length → (f k).1.1 = l.length - 1 - k ∧ l[l.length - 1 - k]? = some (f k).1.2.1) : ∀ k, k ≤ l.length → plR (H := H) (uptoR f k) = plL (l.length - k) (l.drop (l.length - k))
  | 0, _ => by
    rw [Nat.sub_zero, List.drop_of_length_le (Nat.le_refl _)]
    rfl
  | k + 1, h => by
    obtain ⟨h1, h2⟩ := hf k (by omega)
    obtain ⟨hj, h3⟩ := List.getElem?_eq_some_iff.1 h2
    rw [uptoR_succ, plR_snoc, plR_all l f hf k (by omega), h1]
    have e : l.length - (k + 1) = l.length - 1 - k := by omega
    rw [e, List.drop_eq_getElem_cons hj, plL, h3, show l.length - 1 - k + 1 = l.length - k by omega]
theorem rn_choose {F : Nat → Prop} {w : World} {g o cap : Nat} {l : List It} (h : ItR F w (.slice (some ⟨g, o, none⟩) l.length cap) l) (hok : ∀ x ∈ l, ItOk x) (hl : l.length ≤ 2199023255552) : ∃ f : Nat → Rn, ∀ k, k < l.length → (f k).1.1 = l.length - 1 - k ∧ l[l.length - 1 - k]? = some (f k).1.2.1 ∧ w.cell? ⟨g, o + (l.length - 1 - k) * 4, none⟩ = some (.int .i64 (f k).1.2.1.kind) ∧ w.cell? ⟨g, o + (l.length - 1 - k) * 4 + 1, none⟩ = some (.string (str (f k).1.2.1.name)) ∧ w.cell? ⟨g, o + (l.length - 1 - k) * 4 + 2, none⟩ = some (.string (str (f k).1.2.1.ty)) ∧ w.cell? ⟨g, o + (l.length - 1 - k) * 4 + 3, none⟩ = some (.slice (f k).1.2.2.1 (f k).1.2.1.cases.length (f k).1.2.2.2) := by
  have key : ∀ k, ∃ x : Rn, k < l.length → x.1.1 = l.length - 1 - k ∧ l[l.length - 1 - k]? = some x.1.2.1 ∧ w.cell? ⟨g, o + (l.length - 1 - k) * 4, none⟩ = some (.int .i64 x.1.2.1.kind) ∧ w.cell? ⟨g, o + (l.length - 1 - k) * 4 + 1, none⟩ = some (.string (str x.1.2.1.name)) ∧ w.cell? ⟨g, o + (l.length - 1 - k) * 4 + 2, none⟩ = some (.string (str x.1.2.1.ty)) ∧ w.cell? ⟨g, o + (l.length - 1 - k) * 4 + 3, none⟩ = some (.slice x.1.2.2.1 x.1.2.1.cases.length x.1.2.2.2) := by
    intro k
    by_cases hk : k < l.length
    · have hj : l.length - 1 - k < l.length := by omega
      obtain ⟨g', o', cap', cv, e1, _, hC, q0, q1, q2, q3⟩ := h.at _ hj
      simp only [Value.slice.injEq, Option.some.injEq, Addr.mk.injEq, and_true, true_and] at e1
      obtain ⟨⟨rfl, rfl⟩, _⟩ := e1
      obtain ⟨ca, cc, rfl⟩ := hC.shape
      exact ⟨⟨(l.length - 1 - k, l[l.length - 1 - k], ca, cc), (hok _ (List.getElem_mem hj)).2.2.1, by show l.length - 1 - k ≤ _; omega⟩, fun _ => ⟨rfl, List.getElem?_eq_getElem hj, q0, q1, q2, q3⟩⟩
    · exact ⟨rn0, fun h => absurd h hk⟩
  exact ⟨fun k => Classical.choose (key k), fun k hk => Classical.choose_spec (key k) hk⟩
theorem backward_stops (F : Fence) (n : Nat) (h7 : F.fn 106) (hro : F.round = none) (hn : 1 ≤ n) (G : Nat → Prop) (Bs n₀ : Nat) (va : Option Addr) (vc : Nat) (l : List It) (hl : l.length ≤ 2199023255552) (hok : ∀ x ∈ l, ItOk x) (w : World) (hBs : Bs < w.heap.size) (hn₀ : n₀ ≤ w.heap.size)
    (hc : w.cell? ⟨Bs, 0, none⟩ = some (.slice va l.length vc)) (hI : ItR G w (.slice va l.length vc) l) (hG : ∀ g, G g → g < n₀) :
    SeqStopsK F n Tryz.prog 106 #[.pointer (some ⟨Bs, 0, none⟩)] rnv (KpB n₀ Bs) (fun ys => ∃ f : Nat → Rn, ys = uptoR f l.length ∧ ∀ k, k < l.length → (f k).1.1 = l.length - 1 - k ∧ l[l.length - 1 - k]? = some (f k).1.2.1) (fun _ => True) l.length w := fun lp J Jx W hW _ _ hY h0 => by
  have hc' := (hW.cell (p := ⟨Bs, 0, none⟩) hBs).trans hc
  have hI' := hI.below hW (fun g hg => Nat.lt_of_lt_of_le (hG g hg) hn₀)
  by_cases hz : l.length = 0
  · rw [hz] at hc'
    refine (backward1_nil F n h7 hro lp Bs va vc J W hc' h0).mono fun e W' h => ⟨h.1, .inl ⟨[], ⟨fun _ => rn0, by rw [hz]; rfl, fun k hk => by omega⟩, h.2⟩⟩
  · obtain ⟨g, o, cap, cv, e1, hg, _⟩ := hI'.at 0 (by omega)
    simp only [Value.slice.injEq, true_and] at e1
    obtain ⟨rfl, rfl⟩ := e1
    obtain ⟨f, hf⟩ := rn_choose hI' hok hl
    refine (backward1 F n h7 hro hn lp Bs n₀ g o l.length vc f hl (hG g hg) J Jx hY W hc' (fun k hk => ⟨(hf k hk).1, (hf k hk).2.2⟩) h0).mono ?_
    rintro e W' ⟨he, ⟨ys, rfl, hj⟩ | ⟨pre, ⟨k, hk, rfl⟩, hj⟩⟩
    · exact ⟨he, .inl ⟨_, ⟨f, rfl, fun k hk => ⟨(hf k hk).1, (hf k hk).2.1⟩⟩, hj⟩⟩
    · exact ⟨he, .inr ⟨_, trivial, hj⟩⟩
set_option maxRecDepth 100000 in
set_option maxHeartbeats 4000000 in
theorem places_in {H : Type} (F : Fence) (n : Nat) (h3 : F.fn 44) (h4 : F.fn 76) (h5 : F.fn 106) (hro : F.round = none) (hn : 3 ≤ n) (G : Nat → Prop) (m : List UInt8) (va : Option Addr) (vc : Nat) (l : List It) (hl : l.length ≤ 2199023255552) (hok : ∀ x ∈ l, ItOk x) (w : World) (hI : ItR G w (.slice va l.length vc) l) (hG : ∀ g, G g → g < w.heap.size) :
    CallsIn F n Tryz.prog 44 #[.agg #[.string (str m), .slice va l.length vc]] w fun e W' => e = .returned (.map (some (w.heap.size + 1))) ∧ W'.ownsMap Tryz.prog 9 (plainElem (H := H) Tryz.prog 3) (w.heap.size + 1) l.length (plL 0 l) ∧ Below w.heap.size w W' := by
  have h1 : 1 ≤ n := by omega
  have hmm := @run_makeMap Tryz.prog
  refine callsIn_of_wp_marks Tryz.func44 rfl h3 ?_ hro
  simp only [Tryz.ntmps44, List.size_toArray, List.length_cons, List.length_nil, Nat.reduceAdd, Nat.reduceSub, Array.replicate_succ, Array.replicate_zero, List.push_toArray, List.append_toArray, List.nil_append, List.cons_append]
  gi_wp2_with (gi_at_call 76; refine (backward_in F (n - 1) h4 hro _ _ _ _).mono ?_; rintro e w' ⟨rfl, rfl⟩)
  have hm0 := ((World.ownsMap_made (w.alloc (.cells #[.string (str m), .slice va l.length vc] 24)) Tryz.prog 9 (plainElem (H := H) Tryz.prog 3)).alloc (.cells #[.map (some (w.heap.size + 1))] 73)).alloc (.cells #[.slice va l.length vc] 22)
  have bS := (Boxed.new ((w.alloc (.cells #[.string (str m), .slice va l.length vc] 24)).alloc (.map #[] 0)) 73 (.map (some (w.heap.size + 1)))).alloc (.cells #[.slice va l.length vc] 22)
  have bN := Boxed.new (((w.alloc (.cells #[.string (str m), .slice va l.length vc] 24)).alloc (.map #[] 0)).alloc (.cells #[.map (some (w.heap.size + 1))] 73)) 22 (.slice va l.length vc)
  simp only [World.size_alloc] at hm0 bS bN
  have hB0 : Below w.heap.size w ((((w.alloc (.cells #[.string (str m), .slice va l.length vc] 24)).alloc (.map #[] 0)).alloc (.cells #[.map (some (w.heap.size + 1))] 73)).alloc (.cells #[.slice va l.length vc] 22)) := ((((Below.refl _ w).alloc (Nat.le_refl _) _).alloc (by simp) _).alloc (by simp; omega) _).alloc (by simp; omega) _
  have hsz : ((((w.alloc (.cells #[.string (str m), .slice va l.length vc] 24)).alloc (.map #[] 0)).alloc (.cells #[.map (some (w.heap.size + 1))] 73)).alloc (.cells #[.slice va l.length vc] 22)).heap.size = w.heap.size + 1 + 1 + 1 + 1 := by simp
  generalize hW0 : (((w.alloc (.cells #[.string (str m), .slice va l.length vc] 24)).alloc (.map #[] 0)).alloc (.cells #[.map (some (w.heap.size + 1))] 73)).alloc (.cells #[.slice va l.length vc] 22) = W0 at *
  have hst := backward_stops F (n - 1) h5 hro (by omega) G (w.heap.size + 1 + 1 + 1) w.heap.size va vc l hl hok W0 (by omega) (by omega) bN.cell (hI.below hB0 hG) hG
  refine wpIn_rangeFunc_ownH hro h1 (gf := 106) (lb := #[.pointer (some ⟨w.heap.size + 1 + 1 + 1, 0, none⟩)]) rfl h5 (enters_of Tryz.func106 (by kernel_rfl) rfl)
    hst KpB.t (KpB.b (by omega)) (Below.refl _ _) (fun _ => rfl)
    (fun pre W => ((Boxed W (w.heap.size + 1 + 1) 73 (.map (some (w.heap.size + 1))) ∧ Boxed W (w.heap.size + 1 + 1 + 1) 22 (.slice va l.length vc)) ∧ W.ownsMap Tryz.prog 9 (plainElem (H := H) Tryz.prog 3) (w.heap.size + 1) pre.length (plR pre)) ∧ Below w.heap.size w W)
    (fun _ _ _ => False)
    (OwnFrom.and (OwnFrom.and (OwnFrom.and (Own.from (boxed_own _ _ _) _) (Own.from (boxed_own _ _ _) _)) (fun s A B row hs hg hr => hs.kept hg (fun e => by have := (hr _ e.symm).1; omega))) (ownFrom_below (Nat.le_refl _) (by omega)))
    (fun _ _ _ _ _ hs _ _ => hs)
    ⟨⟨⟨bS, bN⟩, hm0⟩, hB0⟩
    (fun x a' W => ∃ Bx, w.heap.size + 1 + 1 + 1 < Bx ∧ W.heap[Bx]? = some (.cells #[.int .i64 x.1.2.1.kind, .string (str x.1.2.1.name), .string (str x.1.2.1.ty), .slice x.1.2.2.1 x.1.2.1.cases.length x.1.2.2.2] 34 (0, 0)) ∧ a' = { tmps := #[.agg #[.string (str m), .slice va l.length vc], .pointer (some ⟨w.heap.size, 0, none⟩), .map none, .pointer (some ⟨w.heap.size + 1 + 1, 0, none⟩), .int .i64 (x.1.1 : Int), .pointer (some ⟨Bx, 0, none⟩), .map (some (w.heap.size + 1)), .pointer (some ⟨w.heap.size, 1, none⟩), .slice va l.length vc, .func (.func 106) #[] #[.pointer (some ⟨w.heap.size + 1 + 1 + 1, 0, none⟩)], .int .i64 (x.1.1 : Int), .agg #[.int .i64 x.1.2.1.kind, .string (str x.1.2.1.name), .string (str x.1.2.1.ty), .slice x.1.2.2.1 x.1.2.1.cases.length x.1.2.2.2], undef, undef, undef, undef, undef], defers := [] })
    (fun x a' _ X Y row hs hg hr => by
      obtain ⟨Bx, h1, h2, h3⟩ := hs
      refine ⟨Bx, h1, (hg.block Bx (Array.getElem?_eq_some_iff.1 h2).1 (fun e => ?_)).trans h2, h3⟩
      obtain ⟨_, o, ho, hc⟩ := hr Bx e.symm
      rw [h2] at ho
      cases ho
      cases hc)
    ?assign ?body ?done ?stop
  case assign =>
    rintro lp pre x W K ⟨⟨⟨b1, b2⟩, hm1⟩, hB1⟩ hK
    unfold rnv
    gi_wp2
    exact hK _ _ ((KeepsOthers.alloc _ _).from _) ⟨(Below.refl _ W).alloc hB1.size _, fun v hv => (World.cell?_of_block (Below.heap_alloc _ _ _ (World.block_lt_of_cell? W _ hv))).trans hv⟩ ⟨⟨⟨b1.alloc _, b2.alloc _⟩, hm1.alloc _⟩, hB1.alloc hB1.size _⟩ ⟨W.heap.size, b2.lt, World.alloc_heap_new W _, rfl⟩
  case body =>
    rintro lp pre x a' W hlp _ ⟨⟨⟨b1, b2⟩, hown⟩, hB⟩ ⟨Bx, hBx, bX, rfl⟩ hlt
    have cB := b1.cell
    have cX : W.cell? ⟨Bx, 1, none⟩ = some (.string (str x.1.2.1.name)) := by rw [cell_of_row W Bx 1 _ _ _ bX]; rfl
    have hkey : keyOf Tryz.prog 9 (.string (str x.1.2.1.name)) = some (.string x.1.2.1.name) := Go.WideMaps.keyOf_string_mk Tryz.underlying9 (by rw [str_size]; have := x.2.1; unfold maxLen; omega)
    have hwf : (Lit.int .i64 (x.1.1 : Int)).wf = true := Go.WalkArith.wf_i64 ⟨by omega, by have := x.2.2; omega⟩
    gi_wp2_with (gi_at_mapUpdate; refine wpListIn_mapUpdate_own _ rfl _ _ _ 73 rfl 9 3 (Maps.string_keyed Tryz.underlying9) Tryz.underlying73 _ (w.heap.size + 1) pre.length _ rfl hown (by unfold maxLen; omega) _ _ _ rfl rfl hkey _ [] (plainElem_int Tryz.underlying3 hwf) ?_; intro w1 hown1 hgrow1)
    have k1 := b1.kept hgrow1 (fun e => by have := Option.some.inj e; omega)
    have k2 := b2.kept hgrow1 (fun e => by have := Option.some.inj e; omega)
    exact ⟨KeepsFrom.of_grownBy hgrow1 (fun j e => by cases e; omega), ⟨(Below.refl _ W).grown hgrow1 hB.size (fun k e => by cases e; omega), fun v hv => by rw [b2.cell] at hv; rw [k2.cell]; exact hv⟩,
      ⟨⟨k1, k2⟩, by rw [plR_snoc, List.length_append]; exact hown1⟩, hB.grown hgrow1 hB.size (fun k e => by cases e; omega)⟩
  case done =>
    rintro D ys W hD ⟨f, rfl, hf⟩ ⟨⟨⟨b1, b2⟩, hown⟩, hB⟩ hK
    have cB := b1.cell
    rw [uptoR_length, plR_all l f hf l.length (Nat.le_refl _), Nat.sub_self, List.drop_zero] at hown
    gi_wp2
    refine ⟨by simp, .inl ⟨_, _, rfl, run_takeDeferred hK, ?_⟩⟩
    exact ⟨_, results_tmp rfl _ _ _, rfl, hown.kept (grownBy_putObj' _ D _) (fun e => by cases e; omega), hB.trans (belowK_b (w := w) (Nat.le_refl _) W D _ _ (by omega) hK rfl rfl)⟩
  case stop =>
    rintro D c pre W _ _ h _
    exact h.elim
end Go.Proofs.YtalbjbahgbkifaaGreat

namespace Go.Proofs.YtalbjbahgbkifaaGreat
open Go.RowKit Go.Maps

theorem ownsMap_below {H : Type} {w w' : World} {B b n : Nat} {k : TypeId} {R : Value → Option (DataW H × List MemPlace)} {D : DataW H} (h : w.ownsMap Tryz.prog k R b n D) (hb : Below B w w') (hlt : b < B) : w'.ownsMap Tryz.prog k R b n D := by
  obtain ⟨es, c, h1, h2⟩ := h
  exact ⟨es, c, (hb.block b hlt).trans h1, h2⟩
theorem lookup_yes {w : World} {ops : Array Oper} {rest : List Oper} {o : Oper} {a : Act} {Q : Exit → Act → World → Prop} (hg : o.guard = none) (m x : Operand) (hop : o.op = Op.lookup 73 m x true)
    (b n : Nat) (D : DataW Nat) (hm : a.eval m = .map (some b)) (hown : w.ownsMap Tryz.prog 9 (plainElem Tryz.prog 3) b n D) (key : Value) (hx : a.eval x = key) (kl : Lit) (hkey : keyOf Tryz.prog 9 key = some kl)
    (j : Nat) (hj : has D kl = true ∧ D.atKey kl (.lit (.int .i64 0)) = .lit (.int .i64 (j : Int)))
    (hK : wpList Tryz.prog ops Q rest (a.put o.dst (.tuple #[.int .i64 (j : Int), .bool true])) w) : wpList Tryz.prog ops Q (o :: rest) a w := by
  refine wpList_lookup_own_ok_int w hg m x 73 hop 9 3 .i64 (string_keyed Tryz.underlying9) Tryz.underlying73 Tryz.underlying3 (Tryz.zeroValue3 _) b n D hm hown key kl hx hkey ?_
  intro c hc _
  rw [hj.2] at hc
  simp only [DataW.lit.injEq, Lit.int.injEq, true_and] at hc
  subst hc
  rw [hj.1]
  exact hK
theorem lookup_no {w : World} {ops : Array Oper} {rest : List Oper} {o : Oper} {a : Act} {Q : Exit → Act → World → Prop} (hg : o.guard = none) (m x : Operand) (hop : o.op = Op.lookup 73 m x true)
    (b n : Nat) (D : DataW Nat) (hm : a.eval m = .map (some b)) (hown : w.ownsMap Tryz.prog 9 (plainElem Tryz.prog 3) b n D) (key : Value) (hx : a.eval x = key) (kl : Lit) (hkey : keyOf Tryz.prog 9 key = some kl)
    (hj : has D kl = false)
    (hK : ∀ c : Int, wpList Tryz.prog ops Q rest (a.put o.dst (.tuple #[.int .i64 c, .bool false])) w) : wpList Tryz.prog ops Q (o :: rest) a w := by
  refine wpList_lookup_own_ok_int w hg m x 73 hop 9 3 .i64 (string_keyed Tryz.underlying9) Tryz.underlying73 Tryz.underlying3 (Tryz.zeroValue3 _) b n D hm hown key kl hx hkey ?_
  intro c hc _
  rw [hj]
  exact hK c
/-- A look-up, whatever it finds: the place, or any number. -/
theorem lookup_any {w : World} {ops : Array Oper} {rest : List Oper} {o : Oper} {a : Act} {Q : Exit → Act → World → Prop} (hg : o.guard = none) (m x : Operand) (hop : o.op = Op.lookup 73 m x true)
    (b n : Nat) (l : List It) (hm : a.eval m = .map (some b)) (hown : w.ownsMap Tryz.prog 9 (plainElem Tryz.prog 3) b n (plL (H := Nat) 0 l)) (key : Value) (hx : a.eval x = key) (q : List UInt8) (hkey : keyOf Tryz.prog 9 key = some (.string q))
    (hK : ∀ (c : Int) (r : Bool), Hid (r = (findI l q).isSome) → Hid (∀ y, findI l q = some y → ∃ j, ∃ h : j < l.length, l[j] = y ∧ c = (j : Int)) → wpList Tryz.prog ops Q rest (a.put o.dst (.tuple #[.int .i64 c, .bool r])) w) : wpList Tryz.prog ops Q (o :: rest) a w := by
  refine wpList_lookup_own_ok_int w hg m x 73 hop 9 3 .i64 (string_keyed Tryz.underlying9) Tryz.underlying73 Tryz.underlying3 (Tryz.zeroValue3 _) b n _ hm hown key _ hx hkey ?_
  intro c hc _
  refine hK c _ (plL_has q 0 l) fun y hy => ?_
  obtain ⟨j, h1, h2, h3⟩ := plL_at (H := Nat) q (.lit (.int .i64 0)) 0 l y hy
  rw [h3] at hc
  simp only [DataW.lit.injEq, Lit.int.injEq, true_and, Nat.zero_add] at hc
  exact ⟨j, h1, h2, hc.symm⟩
theorem append_textN {w : World} {ops : Array Oper} {rest : List Oper} {o : Oper} {a : Act} {Q : Exit → Act → World → Prop} (hgd : o.guard = none) (s x : Operand)
    (ho : o.op = .call { callee := .builtin .append, args := #[s, x], argTypes := #[25, 25] })
    (B : Nat) (v : Value) (acc : List (List UInt8)) (hs : a.eval s = v) (hown : w.ownsRow B 9 1 v acc.length (sc acc))
    (ad : Addr) (c : Nat) (n : List UInt8) (hx : a.eval x = .slice (some ad) 1 c) (hnews : ∀ j u, (sc [n])[j]? = some u → w.cell? (ad.add j) = some u)
    (hlen : acc.length + 1 ≤ 8796093022208) (hB : B ≤ w.heap.size)
    (h : ∀ ad' c' w', w'.ownsRow B 9 1 (.slice (some ad') (acc.length + 1) c') (acc ++ [n]).length (sc (acc ++ [n])) → w.grownBy w' v.ownBlock → wpList Tryz.prog ops Q rest (a.put o.dst (.slice (some ad') (acc.length + 1) c')) w') :
    wpList Tryz.prog ops Q (o :: rest) a w := by
  obtain ⟨i, z, hi, hz, h1, h2, h3⟩ := info_z infoS
  refine wpList_append_own w hgd s x 25 ho B 9 i z 1 16 Tryz.underlying25 hi hz h1 h2 h3 (by decide) v acc.length (sc acc) hs hown ad 1 c (sc [n]) hx rfl hnews (fun u hu => ?_) (by unfold maxLen; omega) (by omega) hB ?_
  · obtain ⟨_, _, rfl⟩ := List.mem_map.1 hu
    rfl
  intro v' w' k1 k2 k3
  rcases k1.2 with ⟨rfl, hz⟩ | ⟨g, cap, cur, rfl, _⟩
  · omega
  · rw [← sc_append] at k1
    exact h ⟨g, 0, none⟩ cap w' (by simpa using k1) k2
theorem StrRow.atJ {w : World} {v : Value} {xs : List (List UInt8)} (h : StrRow w v xs) (i : Nat) (hi : i < xs.length) : ∃ bk o c, v = .slice (some ⟨bk, o, none⟩) xs.length c ∧ w.cell? ⟨bk, o + i, none⟩ = some (.string (str xs[i])) := by
  rcases h with ⟨rfl, _⟩ | ⟨bk, o, c, h1, _, _, h3⟩
  · simp at hi
  · exact ⟨bk, o, c, h1, h3 i _ (List.getElem?_eq_getElem hi)⟩
theorem broken_step (l l2 : List It) (ys acc : List (List UInt8)) (k : Nat) (h : k < ys.length) (hq : acc ++ (ys.drop k).filter (brokenI l l2) = ys.filter (brokenI l l2)) : (if brokenI l l2 ys[k] then acc ++ [ys[k]] else acc) ++ (ys.drop (k + 1)).filter (brokenI l l2) = ys.filter (brokenI l l2) := by
  rw [List.drop_eq_getElem_cons h, List.filter_cons] at hq
  rw [← hq]
  split <;> simp
theorem once_tk {xs : List (List UInt8)} (h : ∀ x ∈ xs, Tk x) : (∀ x ∈ onceR xs, Tk x) ∧ (onceR xs).length ≤ xs.length := by
  constructor
  · intro x hx
    exact h x ((onceR_mem xs x).1 hx)
  · rw [onceR_is]
    have := compactO_len (sortR xs)
    rwa [sortR_length] at this
set_option maxHeartbeats 1000000 in
set_option maxRecDepth 1000000 in
theorem breaks7 (F : Nat → Prop) (m m2 : List UInt8) (l l2 : List It) (va : Option Addr) (vc : Nat) (ua : Option Addr) (uc : Nat) (uv : Value) (xs : List (List UInt8)) (w : World)
    (h1 : ItR F w (.slice va l.length vc) l) (h2 : ItR F w (.slice ua l2.length uc) l2) (h3 : TxR F w uv xs) (hF : ∀ g, F g → g < w.heap.size) (hok1 : ∀ x ∈ l, ItOk x) (hok2 : ∀ x ∈ l2, ItOk x) (hl1 : l.length ≤ 2199023255552) (hl2 : l2.length ≤ 2199023255552) (hl3 : xs.length ≤ 8796093022208) (htk : ∀ x ∈ xs, Tk x) :
    Calls Tryz.prog 13 #[.agg #[.string (str m), .slice va l.length vc], .agg #[.string (str m2), .slice ua l2.length uc], uv] w fun e w' => ∃ v', e = .returned v' ∧ StrRow w' v' (breaksI l l2 xs) ∧ Below w.heap.size w w' := by
  have hb0 : Below w.heap.size w ((w.alloc (.cells #[.string (str m), .slice va l.length vc] 24)).alloc (.cells #[.string (str m2), .slice ua l2.length uc] 24)) := ((Below.refl _ _).alloc (Nat.le_refl _) _).alloc (by simp) _
  have hsz : ((w.alloc (.cells #[.string (str m), .slice va l.length vc] 24)).alloc (.cells #[.string (str m2), .slice ua l2.length uc] 24)).heap.size = w.heap.size + 1 + 1 := by simp
  have hN : ∀ u, Below (w.heap.size + 2) ((w.alloc (.cells #[.string (str m), .slice va l.length vc] 24)).alloc (.cells #[.string (str m2), .slice ua l2.length uc] 24)) u → Below w.heap.size w u := fun u hu => hb0.trans (hu.mono (by omega))
  have hSz : ∀ u, Below (w.heap.size + 2) ((w.alloc (.cells #[.string (str m), .slice va l.length vc] 24)).alloc (.cells #[.string (str m2), .slice ua l2.length uc] 24)) u → w.heap.size + 2 ≤ u.heap.size := fun u hu => by have := hu.size; omega
  have hS : ∀ u, Below (w.heap.size + 2) ((w.alloc (.cells #[.string (str m), .slice va l.length vc] 24)).alloc (.cells #[.string (str m2), .slice ua l2.length uc] 24)) u → u.cell? ⟨w.heap.size, 0, none⟩ = some (.string (str m)) ∧ u.cell? ⟨w.heap.size, 1, none⟩ = some (.slice va l.length vc) ∧ u.cell? ⟨w.heap.size + 1, 0, none⟩ = some (.string (str m2)) ∧ u.cell? ⟨w.heap.size + 1, 1, none⟩ = some (.slice ua l2.length uc) := fun u hu => by
    have k1 : u.heap[w.heap.size]? = some (.cells #[.string (str m), .slice va l.length vc] 24 (0, 0)) := (hu.block _ (by omega)).trans ((Below.heap_alloc _ _ _ (by simp)).trans (World.alloc_heap_new w _))
    have k2 : u.heap[w.heap.size + 1]? = some (.cells #[.string (str m2), .slice ua l2.length uc] 24 (0, 0)) := (hu.block _ (by omega)).trans (by have := World.alloc_heap_new (w.alloc (.cells #[.string (str m), .slice va l.length vc] 24)) (.cells #[.string (str m2), .slice ua l2.length uc] 24); simpa using this)
    exact ⟨by rw [cell_of_row u _ 0 _ _ _ k1]; rfl, by rw [cell_of_row u _ 1 _ _ _ k1]; rfl, by rw [cell_of_row u _ 0 _ _ _ k2]; rfl, by rw [cell_of_row u _ 1 _ _ _ k2]; rfl⟩
  have hI1 : ∀ u, Below (w.heap.size + 2) ((w.alloc (.cells #[.string (str m), .slice va l.length vc] 24)).alloc (.cells #[.string (str m2), .slice ua l2.length uc] 24)) u → ItR F u (.slice va l.length vc) l := fun u hu => h1.below (hN u hu) hF
  have hI2 : ∀ u, Below (w.heap.size + 2) ((w.alloc (.cells #[.string (str m), .slice va l.length vc] 24)).alloc (.cells #[.string (str m2), .slice ua l2.length uc] 24)) u → ItR F u (.slice ua l2.length uc) l2 := fun u hu => h2.below (hN u hu) hF
  have hT : ∀ u, Below (w.heap.size + 2) ((w.alloc (.cells #[.string (str m), .slice va l.length vc] 24)).alloc (.cells #[.string (str m2), .slice ua l2.length uc] 24)) u → TxR F u uv xs := fun u hu => h3.below (hN u hu) hF
  have hFu : ∀ u, Below (w.heap.size + 2) ((w.alloc (.cells #[.string (str m), .slice va l.length vc] 24)).alloc (.cells #[.string (str m2), .slice ua l2.length uc] 24)) u → ∀ g, F g → g < u.heap.size := fun u hu g hg => by have := hF g hg; have := hSz u hu; omega
  have hP1 : ∀ u, Below (w.heap.size + 2) ((w.alloc (.cells #[.string (str m), .slice va l.length vc] 24)).alloc (.cells #[.string (str m2), .slice ua l2.length uc] 24)) u → Calls Tryz.prog 44 #[.agg #[.string (str m), .slice va l.length vc]] u fun e W' => ∃ g, e = .returned (.map (some g)) ∧ W'.ownsMap Tryz.prog 9 (plainElem (H := Nat) Tryz.prog 3) g l.length (plL 0 l) ∧ Below u.heap.size u W' := fun u hu =>
    (callsIn_wide.1 (places_in (H := Nat) Fence.wide 3 trivial trivial trivial rfl (Nat.le_refl _) F m va vc l hl1 hok1 u (hI1 u hu) (hFu u hu))).mono fun e W' h => ⟨_, h⟩
  have hP2 : ∀ u, Below (w.heap.size + 2) ((w.alloc (.cells #[.string (str m), .slice va l.length vc] 24)).alloc (.cells #[.string (str m2), .slice ua l2.length uc] 24)) u → Calls Tryz.prog 44 #[.agg #[.string (str m2), .slice ua l2.length uc]] u fun e W' => ∃ g, e = .returned (.map (some g)) ∧ W'.ownsMap Tryz.prog 9 (plainElem (H := Nat) Tryz.prog 3) g l2.length (plL 0 l2) ∧ Below u.heap.size u W' := fun u hu =>
    (callsIn_wide.1 (places_in (H := Nat) Fence.wide 3 trivial trivial trivial rfl (Nat.le_refl _) F m2 ua uc l2 hl2 hok2 u (hI2 u hu) (hFu u hu))).mono fun e W' h => ⟨_, h⟩
  have hnext : ∀ u u', Below (w.heap.size + 2) ((w.alloc (.cells #[.string (str m), .slice va l.length vc] 24)).alloc (.cells #[.string (str m2), .slice ua l2.length uc] 24)) u → Below u.heap.size u u' → Below (w.heap.size + 2) ((w.alloc (.cells #[.string (str m), .slice va l.length vc] 24)).alloc (.cells #[.string (str m2), .slice ua l2.length uc] 24)) u' := fun u u' hu h => hu.trans (h.mono (hSz u hu))
  have hO : ∀ u, Below (w.heap.size + 2) ((w.alloc (.cells #[.string (str m), .slice va l.length vc] 24)).alloc (.cells #[.string (str m2), .slice ua l2.length uc] 24)) u → Calls Tryz.prog 45 #[uv] u fun e w' => ∃ v', e = .returned v' ∧ StrRow w' v' (onceR xs) ∧ Below u.heap.size u w' := fun u hu => eachOnce F uv xs u (hT u hu) hl3
  have HB : Hid (breaksI l l2 xs = (onceR xs).filter (brokenI l l2)) := rfl
  obtain ⟨hyt, hyl⟩ := once_tk htk
  have G0 : Below (w.heap.size + 2) ((w.alloc (.cells #[.string (str m), .slice va l.length vc] 24)).alloc (.cells #[.string (str m2), .slice ua l2.length uc] 24)) ((w.alloc (.cells #[.string (str m), .slice va l.length vc] 24)).alloc (.cells #[.string (str m2), .slice ua l2.length uc] 24)) := Below.refl _ _
  have G1 : Below (w.heap.size + 2) ((w.alloc (.cells #[.string (str m), .slice va l.length vc] 24)).alloc (.cells #[.string (str m2), .slice ua l2.length uc] 24)) ((w.alloc (.cells #[.string (str m), .slice va l.length vc] 24)).alloc (.cells #[.string (str m2), .slice ua l2.length uc] 24)).drew := (Below.refl _ _).drew
  generalize onceR xs = ys at *
  obtain ⟨d0, d1, d2, d3⟩ := hS _ G0
  clear h1 h2 h3 hT
  go_enter Tryz.func13, Tryz.ntmps13
  go_wp2_with fail
  generalize hW2 : ((w.alloc (.cells #[.string (str m), .slice va l.length vc] 24)).alloc (.cells #[.string (str m2), .slice ua l2.length uc] 24)) = W2 at *
  go_cut [7, 8] from 16 to 19 (fun p q wx => ∃ g1 g2, p = .map (some g1) ∧ q = .map (some g2) ∧ wx.ownsMap Tryz.prog 9 (plainElem (H := Nat) Tryz.prog 3) g1 l.length (plL 0 l) ∧ wx.ownsMap Tryz.prog 9 (plainElem (H := Nat) Tryz.prog 3) g2 l2.length (plL 0 l2) ∧ Below (w.heap.size + 2) W2 wx)
  case first =>
    clear hO hI1 hI2 hFu HB hyt hyl hN hok1 hok2
    clear hW2 hb0 hsz hSz
    go_region_with (first
      | (go_at_call_of 44 (str m); refine (hP1 _ (by assumption)).mono ?_; rintro e w4 ⟨g1, rfl, hm1, hb4⟩; have G4 := hnext _ _ (by assumption) hb4; obtain ⟨d0, d1, d2, d3⟩ := hS _ G4; try (have hm2 := ownsMap_below hm2 hb4 hm2.lt); clear hb4)
      | (go_at_call_of 44 (str m2); refine (hP2 _ (by assumption)).mono ?_; rintro e w5 ⟨g2, rfl, hm2, hb5⟩; have G5 := hnext _ _ (by assumption) hb5; obtain ⟨d0, d1, d2, d3⟩ := hS _ G5; try (have hm1 := ownsMap_below hm1 hb5 hm1.lt); clear hb5))
    all_goals (
      go_wp2_with fail
      go_meet
      exact ⟨g1, g2, rfl, rfl, by assumption, by assumption, by assumption⟩)
  case rest =>
    obtain ⟨g1, g2, rfl, rfl, hm1, hm2, G3⟩ := hcut
    have hO3 := hO _ G3
    clear hO hP1 hP2 d0 d1 d2 d3 G0 G1 hW2 hb0 hsz
    go_wp2_with fail
    refine hO3.mono ?_
    rintro e w6 ⟨v6, rfl, hs6, hb6⟩
    have G6 := hnext _ _ G3 hb6
    have M1 := ownsMap_below hm1 hb6 hm1.lt
    have M2 := ownsMap_below hm2 hb6 hm2.lt
    obtain ⟨sa, sc6, rfl⟩ := hs6.shape
    clear hO3 hm1 hm2 hb6 G3
    go_wp2_with fail
    go_loopg [9, 23] ys.length (fun g v i wr => ∃ (k : Nat) (acc : List (List UInt8)), g + k = ys.length ∧ i = .int .i64 (k : Int) ∧ wr.ownsRow w6.heap.size 9 1 v acc.length (sc acc) ∧ acc.length ≤ k ∧ Below w6.heap.size w6 wr ∧ Hid (acc ++ (ys.drop k).filter (brokenI l l2) = ys.filter (brokenI l l2)))
    case atStart => exact ⟨0, [], by simp, rfl, World.ownsRow_nil _ _ _ _, Nat.le_refl _, Below.refl _ _, by simp [Hid]⟩
    case round =>
      obtain ⟨k, acc, hg, rfl, hown, hak, hbr, hq⟩ := hrel
      have Gr := hnext _ _ G6 hbr
      have hB6 : w6.heap.size ≤ wr.heap.size := hbr.size
      by_cases hk : k < ys.length
      · obtain ⟨bk, o, c, e1, qx⟩ := (hs6.below hbr).atJ k hk
        simp only [Value.slice.injEq, true_and] at e1
        obtain ⟨rfl, rfl⟩ := e1
        have hki : (k : Int) < (ys.length : Int) := by omega
        have hx := hyt _ (List.getElem_mem hk)
        have HQ := hidden (broken_step l l2 ys acc k hk hq.out)
        have mm1 := ownsMap_below M1 hbr M1.lt
        have mm2 := ownsMap_below M2 hbr M2.lt
        have hkey : keyOf Tryz.prog 9 (.string (str ys[k])) = some (.string ys[k]) := Go.WideMaps.keyOf_string_mk Tryz.underlying9 (by rw [str_size]; have : ys[k].length ≤ 140737488355328 := hx; unfold maxLen; omega)
        clear hq hs6
        generalize ys[k] = x at *
        go_wp2_with (first | (at_lookup; refine lookup_any rfl (.tmp 28) (.tmp 29) rfl g1 _ l rfl mm1 _ rfl x hkey ?_; intro c1 r1 hr1 hf1) | (at_lookup; refine lookup_any rfl (.tmp 34) (.tmp 35) rfl g2 _ l2 rfl mm2 _ rfl x hkey ?_; intro c2 r2 hr2 hf2))
        go_cut [56] from 39 to 56 (fun c wx => c = .bool (brokenI l l2 x) ∧ Below wr.heap.size wr wx)
        case first =>
          clear HQ hown qx mm1 mm2 M1 M2 hkey hx hyt hyl HB
          cases hA : findI l x with
          | none =>
            have hr1' := hr1.out
            rw [hA] at hr1'
            obtain rfl : r1 = false := hr1'
            have HV : Hid (brokenI l l2 x = false) := by simp [Hid, brokenI, hA]
            clear hr1 hr2 hf1 hf2 hS hI1 hI2
            go_region
            all_goals (
              go_wp2_with fail
              go_meet
              exact ⟨by rw [HV.out], by first | exact (Below.refl _ _).drew | exact Below.refl _ _⟩)
          | some a =>
            have hr1' := hr1.out
            rw [hA] at hr1'
            obtain rfl : r1 = true := hr1'
            obtain ⟨jA, hjA, eA, rfl⟩ := hf1.out a hA
            cases hB : findI l2 x with
            | none =>
              have hr2' := hr2.out
              rw [hB] at hr2'
              obtain rfl : r2 = false := hr2'
              have HV : Hid (brokenI l l2 x = true) := by simp [Hid, brokenI, hA, hB]
              clear hr1 hr2 hf1 hf2 hS hI1 hI2
              go_region
              all_goals (
                go_wp2_with fail
                go_meet
                exact ⟨by rw [HV.out], by first | exact (Below.refl _ _).drew | exact Below.refl _ _⟩)
            | some b =>
              have hr2' := hr2.out
              rw [hB] at hr2'
              obtain rfl : r2 = true := hr2'
              obtain ⟨jB, hjB, eB, rfl⟩ := hf2.out b hB
              have HV : Hid (brokenI l l2 x = !sameI a b) := by simp [Hid, brokenI, hA, hB]
              obtain ⟨gA, oA, capA, cvA, eA1, hgA, hCA, q0, q1, q2, q3⟩ := (hI1 _ Gr).at jA hjA
              obtain ⟨gB, oB, capB, cvB, eB1, hgB, hCB, r0, r1, r2, r3⟩ := (hI2 _ Gr).at jB hjB
              simp only [Value.slice.injEq, true_and] at eA1 eB1
              obtain ⟨rfl, rfl⟩ := eA1
              obtain ⟨rfl, rfl⟩ := eB1
              have hoA := hok1 _ (List.getElem_mem hjA)
              have hoB := hok2 _ (List.getElem_mem hjB)
              rw [eA] at hCA q0 q1 q2 hoA
              rw [eB] at hCB r0 r1 r2 hoB
              have hFr := hFu _ Gr
              have hSm : ∀ u, Below wr.heap.size wr u → Calls Tryz.prog 15 #[itv a cvA, itv b cvB] u (BoolB (sameI a b) u) := fun u hu => same7 F a b cvA cvB u (hCA.below hu hFr) (hCB.below hu hFr) (fun g hg => Nat.lt_of_lt_of_le (hFr g hg) hu.size) hoA hoB
              obtain ⟨caA, ccA, rfl⟩ := hCA.shape
              obtain ⟨caB, ccB, rfl⟩ := hCB.shape
              obtain ⟨kA, nA, tA, csA⟩ := a
              obtain ⟨kB, nB, tB, csB⟩ := b
              have hjAi : (jA : Int) < (l.length : Int) := by omega
              have hjBi : (jB : Int) < (l2.length : Int) := by omega
              have hS2 : ∀ u, Below wr.heap.size wr u → u.cell? ⟨w.heap.size, 1, none⟩ = some (.slice (some ⟨gA, oA, none⟩) l.length vc) ∧ u.cell? ⟨w.heap.size + 1, 1, none⟩ = some (.slice (some ⟨gB, oB, none⟩) l2.length uc) ∧ u.cell? ⟨gA, oA + jA * 4, none⟩ = some (.int .i64 kA) ∧ u.cell? ⟨gA, oA + jA * 4 + 1, none⟩ = some (.string (str nA)) ∧ u.cell? ⟨gA, oA + jA * 4 + 2, none⟩ = some (.string (str tA)) ∧ u.cell? ⟨gA, oA + jA * 4 + 3, none⟩ = some (.slice caA csA.length ccA) ∧ u.cell? ⟨gB, oB + jB * 4, none⟩ = some (.int .i64 kB) ∧ u.cell? ⟨gB, oB + jB * 4 + 1, none⟩ = some (.string (str nB)) ∧ u.cell? ⟨gB, oB + jB * 4 + 2, none⟩ = some (.string (str tB)) ∧ u.cell? ⟨gB, oB + jB * 4 + 3, none⟩ = some (.slice caB csB.length ccB) := fun u hu => by
                obtain ⟨_, p1, _, p2⟩ := hS _ (hnext _ _ Gr hu)
                exact ⟨p1, p2, (hu.cell (p := ⟨gA, oA + jA * 4, none⟩) (hFr _ hgA)).trans q0, (hu.cell (p := ⟨gA, oA + jA * 4 + 1, none⟩) (hFr _ hgA)).trans q1, (hu.cell (p := ⟨gA, oA + jA * 4 + 2, none⟩) (hFr _ hgA)).trans q2, (hu.cell (p := ⟨gA, oA + jA * 4 + 3, none⟩) (hFr _ hgA)).trans q3, (hu.cell (p := ⟨gB, oB + jB * 4, none⟩) (hFr _ hgB)).trans r0, (hu.cell (p := ⟨gB, oB + jB * 4 + 1, none⟩) (hFr _ hgB)).trans r1, (hu.cell (p := ⟨gB, oB + jB * 4 + 2, none⟩) (hFr _ hgB)).trans r2, (hu.cell (p := ⟨gB, oB + jB * 4 + 3, none⟩) (hFr _ hgB)).trans r3⟩
              have hnx2 : ∀ u u', Below wr.heap.size wr u → Below u.heap.size u u' → Below wr.heap.size wr u' := fun u u' hu h => hu.trans (h.mono hu.size)
              have K0 : Below wr.heap.size wr wr.drew := (Below.refl _ _).drew
              unfold itv at hSm
              simp only at hSm
              have HR : Hid (sameI ⟨kA, nA, tA, csA⟩ ⟨kB, nB, tB, csB⟩ = sameI ⟨kA, nA, tA, csA⟩ ⟨kB, nB, tB, csB⟩) := rfl
              generalize sameI ⟨kA, nA, tA, csA⟩ ⟨kB, nB, tB, csB⟩ = rs at *
              clear HR hr1 hr2 hf1 hf2 hS hI1 hI2 hA hB eA eB hCA hCB hoA hoB hok1 hok2 q0 q1 q2 q3 r0 r1 r2 r3 hN hFu hFr hnext hSz
              obtain ⟨p1, p2, q0, q1, q2, q3, r0, r1, r2, r3⟩ := hS2 _ K0
              go_region_held3 (fun u => u.cell? ⟨w.heap.size, 1, none⟩ = some (.slice (some ⟨gA, oA, none⟩) l.length vc) ∧ u.cell? ⟨w.heap.size + 1, 1, none⟩ = some (.slice (some ⟨gB, oB, none⟩) l2.length uc) ∧ u.cell? ⟨gA, oA + jA * 4, none⟩ = some (.int .i64 kA) ∧ u.cell? ⟨gA, oA + jA * 4 + 1, none⟩ = some (.string (str nA)) ∧ u.cell? ⟨gA, oA + jA * 4 + 2, none⟩ = some (.string (str tA)) ∧ u.cell? ⟨gA, oA + jA * 4 + 3, none⟩ = some (.slice caA csA.length ccA) ∧ u.cell? ⟨gB, oB + jB * 4, none⟩ = some (.int .i64 kB) ∧ u.cell? ⟨gB, oB + jB * 4 + 1, none⟩ = some (.string (str nB)) ∧ u.cell? ⟨gB, oB + jB * 4 + 2, none⟩ = some (.string (str tB)) ∧ u.cell? ⟨gB, oB + jB * 4 + 3, none⟩ = some (.slice caB csB.length ccB)) (first | go_keep | exact hS2 _ (by assumption)) (first | (go_at_call 15; refine (hSm _ (by assumption)).mono ?_; rintro e w8 ⟨rfl, hb8⟩; have G8 := hnx2 _ _ (by assumption) hb8; obtain ⟨p1, p2, q0, q1, q2, q3, r0, r1, r2, r3⟩ := hS2 _ G8; clear hb8))
              all_goals (
                go_wp2_with fail
                go_meet
                exact ⟨by rw [HV.out], by assumption⟩)
        case rest =>
          obtain ⟨rfl, hb7⟩ := hcut
          have ho7 := owns_below hown hb7
          have hb70 : Below w6.heap.size w6 wc := hbr.trans (hb7.mono hB6)
          have hB7 : w6.heap.size ≤ wc.heap.size := hb70.size
          clear hr1 hr2 hf1 hf2 hS hI1 hI2 mm1 mm2 M1 M2 hkey hown hb7 hbr hB6 qx
          cases hbk : brokenI l l2 x
          · have HX := HQ.out
            rw [hbk] at HX
            replace HX := hidden HX
            clear HQ hbk
            go_wp2
            go_roundg (ys.length - (k + 1))
            case measure => omega
            case rel => exact ⟨k + 1, acc, by omega, by go_num, ho7, by omega, hb70, HX⟩
          · have HX := HQ.out
            rw [hbk, if_pos rfl] at HX
            replace HX := hidden HX
            clear HQ hbk
            go_wp2_with fail
            refine (sCloneT x _ hx).mono ?_
            rintro e w9 ⟨rfl, hb9⟩
            have ho9 := owns_below ho7 hb9
            have hb90 : Below w6.heap.size w6 w9 := hb70.trans (hb9.mono hB7)
            have hB9 : w6.heap.size ≤ w9.heap.size := hb90.size
            clear ho7 hb70 hb9 hB7
            go_wp2_with (at_builtin; refine append_textN rfl (.tmp 57) (.tmp 60) rfl w6.heap.size _ acc rfl (ho9.alloc _) _ _ x rfl ?src ?len ?hB ?next)
            case src => first | exact cells_new _ _ _ | exact fun j u h => h
            case len => first | omega | (simp; omega)
            case hB => first | omega | (simp; omega)
            case next =>
              intro ad c' w' k1 k2
              have k3 := below_grown (ho9.alloc _) (by simp; omega) (hb90.alloc hB9 _) k2
              clear k2 ho9 hb90
              go_wp2
              go_roundg (ys.length - (k + 1))
              case measure => omega
              case rel => exact ⟨k + 1, acc ++ [x], by omega, by go_num, by simpa using k1, by simp; omega, k3, HX⟩
      · have hki : ¬ (k : Int) < (ys.length : Int) := by omega
        have HX : Hid (acc = breaksI l l2 xs) := by
          have := hq.out
          rw [List.drop_of_length_le (by omega), List.filter_nil, List.append_nil] at this
          rw [hid_iff, HB.out, this]
        have hbw := hN _ Gr
        clear hq hS hI1 hI2 M1 M2
        go_wp2
        go_ret
        exact ⟨_, rfl, by rw [← HX.out]; exact strRow_own hown, hbw⟩
end Go.Proofs.YtalbjbahgbkifaaGreat

namespace Go.Proofs.YtalbjbahgbkifaaGreat
open Go.RowKit

/-- Blocks that were made on the way. -/
def Fr (w w' : World) (g : Nat) : Prop := w.heap.size ≤ g ∧ g < w'.heap.size
theorem tx_own {w : World} {B e : Nat} {v : Value} {xs : List (List UInt8)} (h : w.ownsRow B e 1 v xs.length (sc xs)) : TxR (fun g => B ≤ g ∧ g < w.heap.size) w v xs := by
  rcases h.2 with ⟨rfl, hn⟩ | ⟨g, cap, cur, rfl, hb, hg, h1, _⟩
  · exact .inl ⟨none, 0, rfl, List.eq_nil_of_length_eq_zero hn⟩
  · refine .inr ⟨g, 0, cap, rfl, ⟨hb, (Array.getElem?_eq_some_iff.1 hg).1⟩, fun j x hj => ?_⟩
    obtain ⟨hlt, rfl⟩ := List.getElem?_eq_some_iff.1 hj
    rw [Nat.zero_add, h.cellAt j (by omega)]
    simp [sc, hlt]
set_option maxHeartbeats 1000000 in
set_option maxRecDepth 1000000 in
theorem copyTexts (F : Nat → Prop) (v : Value) (xs : List (List UInt8)) (w : World) (h : TxR F w v xs) (hF : ∀ g, F g → g < w.heap.size) (hl : xs.length ≤ 8796093022208) (htk : ∀ x ∈ xs, Tk x) :
    Calls Tryz.prog 96 #[v] w fun e w' => ∃ v', e = .returned v' ∧ TxR (Fr w w') w' v' xs ∧ Below w.heap.size w w' := by
  obtain ⟨va, vc, rfl⟩ := h.shape
  have hh := hidden h
  clear h
  go_enter Tryz.func96, Tryz.ntmps96
  go_wp2_with fail
  go_loopg [3, 8] xs.length (fun g x i wr => ∃ (k : Nat), g + k = xs.length ∧ i = .int .i64 (k : Int) ∧ wr.ownsRow w.heap.size 9 1 x (xs.take k).length (sc (xs.take k)) ∧ Below w.heap.size w wr)
  case atStart => exact ⟨0, by simp, rfl, by simpa [sc] using World.ownsRow_nil _ _ _ _, Below.refl _ _⟩
  case round =>
    obtain ⟨k, hg, rfl, hown, hbr⟩ := hrel
    by_cases hk : k < xs.length
    · obtain ⟨bk, o, c, e1, hgF, qx⟩ := (hh.out.below hbr hF).at k hk
      simp only [Value.slice.injEq, true_and] at e1
      obtain ⟨rfl, rfl⟩ := e1
      have hki : (k : Int) < (xs.length : Int) := by omega
      have hx := htk _ (List.getElem_mem hk)
      have HX : Hid (xs.take (k + 1) = xs.take k ++ [xs[k]]) := List.take_succ_eq_append_getElem hk
      have hal : (xs.take k).length ≤ k := by simp; omega
      have hB6 : w.heap.size ≤ wr.heap.size := hbr.size
      clear hh
      generalize xs[k] = x at *
      generalize xs.take k = acc at *
      go_wp2_with fail
      refine (sCloneT x _ hx).mono ?_
      rintro e w9 ⟨rfl, hb9⟩
      have ho9 := owns_below hown hb9
      have hb90 : Below w.heap.size w w9 := hbr.trans (hb9.mono hB6)
      have hB9 : w.heap.size ≤ w9.heap.size := hb90.size
      clear hown hbr hb9 hB6
      go_wp2_with (at_builtin; refine append_textN rfl (.tmp 12) (.tmp 15) rfl w.heap.size _ acc rfl (ho9.alloc _) _ _ x rfl ?src ?len ?hB ?next)
      case src => first | exact cells_new _ _ _ | exact fun j u h => h
      case len => first | omega | (simp; omega)
      case hB => first | omega | (simp; omega)
      case next =>
        intro ad c' w' k1 k2
        have k3 := below_grown (ho9.alloc _) (by simp; omega) (hb90.alloc hB9 _) k2
        clear k2 ho9 hb90
        go_wp2
        go_roundg (xs.length - (k + 1))
        case measure => omega
        case rel => exact ⟨k + 1, by omega, by go_num, by rw [HX.out, List.length_append, List.length_singleton]; exact k1, k3⟩
    · have hki : ¬ (k : Int) < (xs.length : Int) := by omega
      rw [List.take_of_length_le (by omega)] at hown
      clear hh
      go_wp2
      go_ret
      exact ⟨_, rfl, tx_own hown, hbr⟩
def rowK (ps : List (Cs × Value)) : List Value := ps.flatMap fun p => [.string (str p.1.1), p.2]
theorem rowK_snoc (ps : List (Cs × Value)) (p : Cs × Value) : rowK (ps ++ [p]) = rowK ps ++ [.string (str p.1.1), p.2] := by simp [rowK]
/-- Cases in a row of the call's own, their fields apart from it. -/
def CsI (B : Nat) (w : World) (v : Value) (cs : List Cs) : Prop := ∃ ps : List (Cs × Value), ps.map (·.1) = cs ∧ w.ownsRow B 81 2 v cs.length (rowK ps) ∧ ∀ p ∈ ps, TxR (fun g => B ≤ g ∧ g < w.heap.size ∧ some g ≠ v.ownBlock) w p.2 p.1.2
theorem CsI.nil (B : Nat) (w : World) : CsI B w (.slice none 0 0) [] := ⟨[], rfl, World.ownsRow_nil _ _ _ _, by simp⟩
theorem CsI.below {B : Nat} {w w' : World} {v : Value} {cs : List Cs} (h : CsI B w v cs) (hb : Below w.heap.size w w') : CsI B w' v cs := by
  obtain ⟨ps, h1, h2, h3⟩ := h
  exact ⟨ps, h1, owns_below h2 hb, fun p hp => (h3 p hp).frame fun g hg => ⟨⟨hg.1, Nat.lt_of_lt_of_le hg.2.1 hb.size, hg.2.2⟩, hb.block g hg.2.1⟩⟩
theorem owns_block {w : World} {B e sz n : Nat} {v : Value} {xs : List Value} (h : w.ownsRow B e sz v n xs) {g : Nat} (hg : v.ownBlock = some g) : B ≤ g ∧ g < w.heap.size := by
  rcases h.2 with ⟨rfl, _⟩ | ⟨g', cap, cur, rfl, hb, hk, _⟩
  · simp [Value.ownBlock] at hg
  · simp only [Value.ownBlock, Option.some.injEq] at hg
    subst hg
    exact ⟨hb, (Array.getElem?_eq_some_iff.1 hk).1⟩
theorem CsI.block {B : Nat} {w : World} {v : Value} {cs : List Cs} (h : CsI B w v cs) {g : Nat} (hg : v.ownBlock = some g) : B ≤ g ∧ g < w.heap.size := by
  obtain ⟨ps, h1, h2, h3⟩ := h
  exact owns_block h2 hg
theorem CsI.shape {B : Nat} {w : World} {v : Value} {cs : List Cs} (h : CsI B w v cs) : ∃ a c, v = .slice a cs.length c := by
  obtain ⟨ps, h1, h2, h3⟩ := h
  rcases h2.2 with ⟨rfl, hn⟩ | ⟨g, cap, cur, rfl, _⟩
  · exact ⟨none, 0, by rw [hn]⟩
  · exact ⟨_, _, rfl⟩
theorem rowK_at : ∀ (ps : List (Cs × Value)) (j : Nat) (h : j < ps.length) (i : Nat), i < 2 → (rowK ps)[j * 2 + i]? = ([.string (str ps[j].1.1), ps[j].2] : List Value)[i]?
  | p :: r, 0, _, i, hi => by
    rw [Nat.zero_mul, Nat.zero_add, rowK, List.flatMap_cons, List.getElem?_append_left (by simpa using hi)]
    rfl
  | p :: r, j + 1, h, i, hi => by
    have := rowK_at r j (by simpa using h) i hi
    rw [rowK, List.flatMap_cons, List.getElem?_append_right (by simp; omega)]
    simpa [rowK, Nat.add_mul, Nat.add_right_comm] using this
theorem CsI.row {B : Nat} {w : World} {v : Value} {cs : List Cs} (h : CsI B w v cs) : CsR (fun g => B ≤ g ∧ g < w.heap.size) w v cs := by
  obtain ⟨ps, rfl, h2, h3⟩ := h
  rcases h2.2 with ⟨rfl, hn⟩ | ⟨g, cap, cur, rfl, hb, hg, hl, _⟩
  · exact .inl ⟨none, 0, rfl, List.eq_nil_of_length_eq_zero hn⟩
  · refine .inr ⟨g, 0, cap, rfl, hl, ⟨hb, (Array.getElem?_eq_some_iff.1 hg).1⟩, fun j x hj => ?_⟩
    rw [List.getElem?_map] at hj
    obtain ⟨p, hp, rfl⟩ := Option.map_eq_some_iff.1 hj
    obtain ⟨hlt, rfl⟩ := List.getElem?_eq_some_iff.1 hp
    refine ⟨ps[j].2, (h3 _ (List.getElem_mem hlt)).frame fun g' hg' => ⟨⟨hg'.1, hg'.2.1⟩, rfl⟩, ?_, ?_⟩
    · have e0 := rowK_at ps j hlt 0 (by omega)
      rw [Nat.add_zero] at e0
      rw [Nat.zero_add, h2.cellAt (j * 2) (by simp; omega), e0]
      rfl
    · rw [Nat.zero_add, h2.cellAt (j * 2 + 1) (by simp; omega), rowK_at ps j hlt 1 (by omega)]
      rfl
theorem infoC : (Tryz.prog.info? 81).map (fun i => (i.zero.map (fun z => z.cells.size), i.size, i.bytes)) = some (some 2, 2, 40) := by kernel_rfl
theorem TxR.one {F : Nat → Prop} {w : World} {v : Value} {xs : List (List UInt8)} (h : TxR F w v xs) : v.oneCell' = true := by
  obtain ⟨a, c, rfl⟩ := h.shape
  rfl
/-- One case put behind the others, in a region that draws. -/
theorem step_case {w : World} {ops : Array Oper} {o : Oper} {a : Act} {K : Act → World → Prop} {Q : Exit → Act → World → Prop} {E : Prop} (hgd : o.guard = none) (s x : Operand)
    (ho : o.op = .call { callee := .builtin .append, args := #[s, x], argTypes := #[32, 32] })
    (B : Nat) (v : Value) (cs : List Cs) (hs : a.eval s = v) (hI : CsI B w v cs) (c : Cs) (fv : Value) (ad : Addr) (cp : Nat) (hx : a.eval x = .slice (some ad) 1 cp)
    (hnews : ∀ j u, ([.string (str c.1), fv] : List Value)[j]? = some u → w.cell? (ad.add j) = some u) (hT : TxR (fun g => B ≤ g ∧ g < w.heap.size ∧ some g ≠ v.ownBlock) w fv c.2) (hlen : cs.length + 1 ≤ 3518437208883) (hB : B ≤ w.heap.size)
    (h : ∀ g cap w', CsI B w' (.slice (some ⟨g, 0, none⟩) (cs.length + 1) cap) (cs ++ [c]) → (∀ w0, Below B w0 w → Below B w0 w') → (∀ b, b < w.heap.size → v.ownBlock ≠ some b → w'.heap[b]? = w.heap[b]?) → K (a.put o.dst (.slice (some ⟨g, 0, none⟩) (cs.length + 1) cap)) w') :
    if Region.wanted o (yielded ops a.tmps) = true then Oper.wp Tryz.prog o a w K Q else E := by
  obtain ⟨i, z, hi, hz, h1, h2, h3⟩ := info_z infoC
  obtain ⟨ps, rfl, p2, p3⟩ := hI
  refine step_append_lies w hgd s x 32 ho B 81 i z 2 40 Tryz.underlying32 hi hz h1 h2 h3 (by decide) v _ (rowK ps) hs p2 ad 1 cp [.string (str c.1), fv] hx rfl hnews (fun u hu => ?_) (by decide) (by unfold maxLen; omega) (by omega) hB w.heap.size rfl ?_
  · simp only [List.mem_cons, List.not_mem_nil, or_false] at hu
    rcases hu with rfl | rfl
    · rfl
    · exact hT.one
  · intro g cap w' q1 q2 q3 q4
    refine h g cap w' ⟨ps ++ [(c, fv)], by simp, by rw [rowK_snoc]; simpa using q1, fun p hp => ?_⟩ (fun w0 hw0 => hw0.grown q2 hB (fun k hk => (owns_block p2 hk).1)) (fun b hb hn => q2.block b hb (fun e => hn e.symm))
    have key : ∀ fv' (xs : List (List UInt8)), TxR (fun g => B ≤ g ∧ g < w.heap.size ∧ some g ≠ v.ownBlock) w fv' xs → TxR (fun g' => B ≤ g' ∧ g' < w'.heap.size ∧ some g' ≠ (Value.slice (some ⟨g, 0, none⟩) ((ps.map (·.1)).length + 1) cap).ownBlock) w' fv' xs := fun fv' xs ht => ht.frame fun g' hg' => by
      refine ⟨⟨hg'.1, Nat.lt_of_lt_of_le hg'.2.1 q2.size, fun e => ?_⟩, q2.block g' hg'.2.1 hg'.2.2⟩
      simp only [Value.ownBlock, Option.some.injEq] at e
      subst e
      rcases q3 with q3 | q3
      · exact hg'.2.2 q3.symm
      · have := hg'.2.1
        omega
    rcases List.mem_append.1 hp with hp | hp
    · exact key _ _ (p3 p hp)
    · rw [List.mem_singleton.1 hp]
      exact key _ _ hT
theorem tx_more {n : Nat} {u u' : World} {v : Value} {xs : List (List UInt8)} (h : TxR (fun g => n ≤ g ∧ g < u.heap.size) u v xs) (hb : Below u.heap.size u u') : TxR (fun g => n ≤ g ∧ g < u'.heap.size) u' v xs :=
  h.frame fun g hg => ⟨⟨hg.1, Nat.lt_of_lt_of_le hg.2 hb.size⟩, hb.block g hg.2⟩
set_option maxHeartbeats 1000000 in
set_option maxRecDepth 1000000 in
theorem copyCases (F : Nat → Prop) (v : Value) (cs : List Cs) (w : World) (h : CsR F w v cs) (hF : ∀ g, F g → g < w.heap.size) (hl : cs.length ≤ 3518437208883) (hok : ∀ c ∈ cs, CsOk c) :
    Calls Tryz.prog 64 #[v] w fun e w' => ∃ v', e = .returned v' ∧ CsR (Fr w w') w' v' cs ∧ Below w.heap.size w w' := by
  obtain ⟨va, vc, rfl⟩ := h.shape
  have hh := hidden h
  clear h
  go_enter Tryz.func64, Tryz.ntmps64
  go_wp2_with fail
  go_loopg [3, 8] cs.length (fun g x i wr => ∃ (k : Nat), g + k = cs.length ∧ i = .int .i64 (k : Int) ∧ CsI w.heap.size wr x (cs.take k) ∧ Below w.heap.size w wr)
  case atStart => exact ⟨0, by simp, rfl, CsI.nil _ _, Below.refl _ _⟩
  case round =>
    obtain ⟨k, hg, rfl, hI, hbr⟩ := hrel
    by_cases hk : k < cs.length
    · obtain ⟨bk, o, c, fv, e1, hcl, hgF, hTx, q1, q2⟩ := (hh.out.below hbr hF).at k hk
      simp only [Value.slice.injEq, true_and] at e1
      obtain ⟨rfl, rfl⟩ := e1
      obtain ⟨fa, fc, rfl⟩ := hTx.shape
      have hki : (k : Int) < (cs.length : Int) := by omega
      have hx := hok _ (List.getElem_mem hk)
      have HX : Hid (cs.take (k + 1) = cs.take k ++ [cs[k]]) := List.take_succ_eq_append_getElem hk
      have hal : (cs.take k).length + 1 ≤ 3518437208883 := by simp; omega
      have hB6 : w.heap.size ≤ wr.heap.size := hbr.size
      clear hh
      generalize cs[k] = cx at *
      generalize cs.take k = acc at *
      obtain ⟨n, fs⟩ := cx
      simp only at hTx q1 q2 hki
      have hn : Tk n := hx.1
      have hb0 : Below wr.heap.size wr (wr.alloc (.cells #[.string (str n), .slice fa fs.length fc] 81)) := (Below.refl _ _).alloc (Nat.le_refl _) _
      have hS : ∀ u, Below (wr.heap.size + 1) (wr.alloc (.cells #[.string (str n), .slice fa fs.length fc] 81)) u → u.cell? ⟨wr.heap.size, 0, none⟩ = some (.string (str n)) ∧ u.cell? ⟨wr.heap.size, 1, none⟩ = some (.slice fa fs.length fc) := fun u hu => by
        have k1 : u.heap[wr.heap.size]? = some (.cells #[.string (str n), .slice fa fs.length fc] 81 (0, 0)) := (hu.block _ (by omega)).trans (World.alloc_heap_new wr _)
        exact ⟨by rw [cell_of_row u _ 0 _ _ _ k1]; rfl, by rw [cell_of_row u _ 1 _ _ _ k1]; rfl⟩
      have hSz : ∀ u, Below (wr.heap.size + 1) (wr.alloc (.cells #[.string (str n), .slice fa fs.length fc] 81)) u → wr.heap.size + 1 ≤ u.heap.size := fun u hu => by have := hu.size; simpa using this
      have hBw : ∀ u, Below (wr.heap.size + 1) (wr.alloc (.cells #[.string (str n), .slice fa fs.length fc] 81)) u → Below wr.heap.size wr u := fun u hu => hb0.trans (hu.mono (by omega))
      have hCT : ∀ u, Below (wr.heap.size + 1) (wr.alloc (.cells #[.string (str n), .slice fa fs.length fc] 81)) u → Calls Tryz.prog 96 #[.slice fa fs.length fc] u fun e w' => ∃ v', e = .returned v' ∧ TxR (Fr u w') w' v' fs ∧ Below u.heap.size u w' := fun u hu =>
        copyTexts F _ fs u (hTx.below (hBw u hu) (fun g hg => by have := hF g hg; omega)) (fun g hg => by have := hF g hg; have := hSz u hu; omega) hx.2.1 hx.2.2
      have hnext : ∀ u u', Below (wr.heap.size + 1) (wr.alloc (.cells #[.string (str n), .slice fa fs.length fc] 81)) u → Below u.heap.size u u' → Below (wr.heap.size + 1) (wr.alloc (.cells #[.string (str n), .slice fa fs.length fc] 81)) u' := fun u u' hu h => hu.trans (h.mono (hSz u hu))
      have hAl : ∀ u (O : Obj), Below (wr.heap.size + 1) (wr.alloc (.cells #[.string (str n), .slice fa fs.length fc] 81)) u → Below (wr.heap.size + 1) (wr.alloc (.cells #[.string (str n), .slice fa fs.length fc] 81)) (u.alloc O) := fun u O hu => hu.alloc (hSz u hu) O
      have hCI : ∀ u, Below (wr.heap.size + 1) (wr.alloc (.cells #[.string (str n), .slice fa fs.length fc] 81)) u → CsI w.heap.size u _ acc := fun u hu => hI.below (hBw u hu)
      have hTm : ∀ u w' v', Below (wr.heap.size + 1) (wr.alloc (.cells #[.string (str n), .slice fa fs.length fc] 81)) u → TxR (Fr u w') w' v' fs → TxR (fun g => wr.heap.size + 1 ≤ g ∧ g < w'.heap.size) w' v' fs := fun u w' v' hu ht => ht.frame fun g hg => ⟨⟨by have := hSz u hu; have := hg.1; omega, hg.2⟩, rfl⟩
      have hTo : ∀ (u : World) (O : Obj) v', TxR (fun g => wr.heap.size + 1 ≤ g ∧ g < u.heap.size) u v' fs → TxR (fun g => w.heap.size ≤ g ∧ g < (u.alloc O).heap.size ∧ some g ≠ Value.ownBlock _) (u.alloc O) v' fs := fun u O v' ht => ht.frame fun g hg => ⟨⟨by have := hg.1; omega, by have := hg.2; simp; omega, fun e => by have := hI.block e.symm; have := hg.1; omega⟩, Below.heap_alloc _ _ _ hg.2⟩
      have hSB : ∀ u (O : Obj), Below (wr.heap.size + 1) (wr.alloc (.cells #[.string (str n), .slice fa fs.length fc] 81)) u → w.heap.size ≤ (u.alloc O).heap.size := fun u O hu => by have := hSz u hu; simp; omega
      have hFin : ∀ u (O : Obj), Below (wr.heap.size + 1) (wr.alloc (.cells #[.string (str n), .slice fa fs.length fc] 81)) u → Below w.heap.size w (u.alloc O) := fun u O hu => hbr.trans ((hBw _ (hAl u O hu)).mono hB6)
      have hS7 : ∀ u (O : Obj) (w7 : World), Below (wr.heap.size + 1) (wr.alloc (.cells #[.string (str n), .slice fa fs.length fc] 81)) u → (∀ b, b < (u.alloc O).heap.size → Value.ownBlock _ ≠ some b → w7.heap[b]? = (u.alloc O).heap[b]?) → w7.cell? ⟨wr.heap.size, 0, none⟩ = some (.string (str n)) ∧ w7.cell? ⟨wr.heap.size, 1, none⟩ = some (.slice fa fs.length fc) := fun u O w7 hu hk => by
        obtain ⟨c0, c1⟩ := hS _ (hAl u O hu)
        have hq := hk wr.heap.size (by have := hSz u hu; simp; omega) (fun e => by have := hI.block e; omega)
        exact ⟨(World.cell?_of_block (a := ⟨wr.heap.size, 0, none⟩) hq).trans c0, (World.cell?_of_block (a := ⟨wr.heap.size, 1, none⟩) hq).trans c1⟩
      have G0 : Below (wr.heap.size + 1) (wr.alloc (.cells #[.string (str n), .slice fa fs.length fc] 81)) (wr.alloc (.cells #[.string (str n), .slice fa fs.length fc] 81)).drew := (Below.refl _ _).drew
      obtain ⟨xa, xc, hxv⟩ := hI.shape
      subst hxv
      clear hI hTx hx hok hBw hb0
      go_wp2_with fail
      obtain ⟨d0, d1⟩ := hS _ G0
      generalize hW : wr.alloc (.cells #[.string (str n), .slice fa fs.length fc] 81) = W at *
      clear hW q1 q2
      go_region_held3 (fun u => u.cell? ⟨wr.heap.size, 0, none⟩ = some (.string (str n)) ∧ u.cell? ⟨wr.heap.size, 1, none⟩ = some (.slice fa fs.length fc)) (first | go_keep | exact hS _ (by assumption) | assumption) (first
        | (go_at_call 46; refine (sCloneT n _ hn).mono ?_; rintro e wa ⟨rfl, hba⟩; have Ga := hnext _ _ (by assumption) hba; obtain ⟨d0, d1⟩ := hS _ Ga; try (have hT5 := tx_more hT5 hba); clear hba)
        | (go_at_call 96; refine (hCT _ (by assumption)).mono ?_; rintro e wb ⟨v5, rfl, hT4, hbb⟩; have hT5 := hTm _ _ _ (by assumption) hT4; obtain ⟨ga, gc, rfl⟩ := hT5.shape; have Gb := hnext _ _ (by assumption) hbb; obtain ⟨d0, d1⟩ := hS _ Gb; clear hbb hT4)
        | (refine step_case (by rfl) (.tmp 12) (.tmp 20) (by rfl) w.heap.size _ acc (by rfl) (hCI _ (hAl _ _ (by assumption))) (n, fs) _ _ 1 (by rfl) (cells_new _ _ _) (hTo _ _ _ (by assumption)) hal (hSB _ _ (by assumption)) ?_; intro gq cap w7 hI7 hf7 hk7; have hb7 := hf7 _ (hFin _ _ (by assumption)); have S7 := hS7 _ _ _ (by assumption) hk7))
      all_goals (
        clear hS hS7 hSz hCT hnext hAl hCI hTm hTo hSB hFin G0
        go_wp2
        go_roundg (cs.length - (k + 1))
        case measure => omega
        case rel => exact ⟨k + 1, by omega, by go_num, by rw [HX.out]; exact hI7, hb7⟩)
    · have hki : ¬ (k : Int) < (cs.length : Int) := by omega
      rw [List.take_of_length_le (by omega)] at hI
      clear hh
      go_wp2
      go_ret
      exact ⟨_, rfl, hI.row, hbr⟩
end Go.Proofs.YtalbjbahgbkifaaGreat

namespace Go.Proofs.YtalbjbahgbkifaaGreat
open Go.RowKit

theorem drewK (w : World) (a b : Nat) : (w.drewN a).drewN b = w.drewN (a + b) := by simp [World.drewN, Nat.add_assoc]
theorem belowK (w : World) {H : Nat} (n : Nat) : Below H w (w.drewN n) := ⟨rfl, rfl, rfl, Nat.le_refl _, fun _ _ => rfl⟩
set_option maxHeartbeats 1000000 in
set_option maxRecDepth 1000000 in
theorem keepTexts (F G : Nat → Prop) (v1 v2 : Value) (xs : List (List UInt8)) (w : World) (h1 : TxR F w v1 xs) (h2 : TxR G w v2 xs) (hl : xs.length ≤ 8796093022208) :
    Calls Tryz.prog 75 #[v1, v2] w fun e w' => e = .returned (.bool true) ∧ ∃ n, w' = w.drewN n := by
  obtain ⟨a1, c1, rfl⟩ := h1.shape
  obtain ⟨a2, c2, rfl⟩ := h2.shape
  go_enter Tryz.func75, Tryz.ntmps75
  go_wp2
  go_loopg [5] xs.length (fun g i wr => ∃ (k nn : Nat), g + k = xs.length ∧ i = .int .i64 (k : Int) ∧ wr = w.drewN nn)
  case atStart => exact ⟨0, 0, by omega, rfl, rfl⟩
  case round =>
    obtain ⟨k, nn, hg, rfl, rfl⟩ := hrel
    by_cases hk : k < xs.length
    · obtain ⟨g1, o1, d1, e1, _, q1⟩ := h1.at k hk
      simp only [Value.slice.injEq, true_and] at e1
      obtain ⟨rfl, rfl⟩ := e1
      obtain ⟨g2, o2, d2, e2, _, q2⟩ := h2.at k hk
      simp only [Value.slice.injEq, true_and] at e2
      obtain ⟨rfl, rfl⟩ := e2
      have hki : (k : Int) < (xs.length : Int) := by omega
      clear h1 h2
      generalize xs[k] = x at *
      have hne : ((str x).toList != (str x).toList) = false := by simp
      go_wp2_with fail
      go_quiet (fail)
      go_wp2
      go_roundg (xs.length - (k + 1))
      case measure => omega
      case rel => exact ⟨k + 1, _, by omega, by go_num, by first | rfl | exact drewK _ _ _⟩
    · have hki : ¬ (k : Int) < (xs.length : Int) := by omega
      go_wp2
      go_ret
      exact ⟨rfl, nn, rfl⟩
theorem quietK {P : Program} {f : FuncId} {args : Array Value} {w : World} {n x : Nat} {v : Value} (h : Calls P f args (w.drewN (n + x)) fun e w' => e = .returned v ∧ ∃ m, w' = (w.drewN (n + x)).drewN m) : Calls P f args (w.drewN (n + x)) fun e w'' => e = .returned v ∧ ∃ m, w'' = w.drewN m := Calls.quiet_of h
set_option maxHeartbeats 2000000 in
set_option maxRecDepth 1000000 in
theorem keepCases (F G : Nat → Prop) (v1 v2 : Value) (cs : List Cs) (w : World) (h1 : CsR F w v1 cs) (h2 : CsR G w v2 cs) (hl : cs.length ≤ 3518437208883) (hok : ∀ c ∈ cs, CsOk c) :
    Calls Tryz.prog 43 #[v1, v2] w fun e w' => e = .returned (.bool true) ∧ ∃ n, w' = w.drewN n := by
  obtain ⟨a1, c1, rfl⟩ := h1.shape
  obtain ⟨a2, c2, rfl⟩ := h2.shape
  go_enter Tryz.func43, Tryz.ntmps43
  go_wp2
  go_loopg [5] cs.length (fun g i wr => ∃ (k nn : Nat), g + k = cs.length ∧ i = .int .i64 (k : Int) ∧ wr = w.drewN nn)
  case atStart => exact ⟨0, 0, by omega, rfl, rfl⟩
  case round =>
    obtain ⟨k, nn, hg, rfl, hw⟩ := hrel
    have HW := hidden hw
    have h1 : CsR F wr (.slice a1 cs.length c1) cs := by rw [hw]; exact h1
    have h2 : CsR G wr (.slice a2 cs.length c2) cs := by rw [hw]; exact h2
    clear hw
    by_cases hk : k < cs.length
    · obtain ⟨g1, o1, d1, f1, e1, _, _, t1, q1, r1⟩ := h1.at k hk
      simp only [Value.slice.injEq, true_and] at e1
      obtain ⟨rfl, rfl⟩ := e1
      obtain ⟨g2, o2, d2, f2, e2, _, _, t2, q2, r2⟩ := h2.at k hk
      simp only [Value.slice.injEq, true_and] at e2
      obtain ⟨rfl, rfl⟩ := e2
      have hki : (k : Int) < (cs.length : Int) := by omega
      have hc := hok _ (List.getElem_mem hk)
      clear h1 h2 hok
      generalize cs[k] = c at *
      obtain ⟨n, fs⟩ := c
      simp only at t1 t2 q1 q2 r1 r2
      have hT : ∀ n : Nat, Calls Tryz.prog 75 #[f1, f2] (wr.drewN n) fun e w' => e = .returned (.bool true) ∧ ∃ m, w' = (wr.drewN n).drewN m := fun n => keepTexts F G f1 f2 fs (wr.drewN n) t1 t2 hc.2.1
      obtain ⟨fa1, fc1, rfl⟩ := t1.shape
      obtain ⟨fa2, fc2, rfl⟩ := t2.shape
      have hne : ((str n).toList != (str n).toList) = false := by simp
      clear t1 t2 hc
      go_wp2_with fail
      go_quiet ((go_at_call 75; first | exact quietK (hT _) | exact Calls.quiet_of (hT _)))
      go_wp2
      go_roundg (cs.length - (k + 1))
      case measure => omega
      case rel => exact ⟨k + 1, nn + _, by omega, by go_num, by rw [HW.out]; exact drewK _ _ _⟩
    · have hki : ¬ (k : Int) < (cs.length : Int) := by omega
      go_wp2
      go_ret
      exact ⟨rfl, nn, HW.out⟩
set_option maxHeartbeats 1000000 in
set_option maxRecDepth 1000000 in
theorem keepItem (F G : Nat → Prop) (x : It) (v1 v2 : Value) (w : World) (h1 : CsR F w v1 x.cases) (h2 : CsR G w v2 x.cases) (hF : ∀ g, F g → g < w.heap.size) (hG : ∀ g, G g → g < w.heap.size) (hok : ItOk x) :
    Calls Tryz.prog 11 #[itv x v1, itv x v2] w fun e w' => e = .returned (.bool true) ∧ Below w.heap.size w w' := by
  obtain ⟨a1, c1, rfl⟩ := h1.shape
  obtain ⟨a2, c2, rfl⟩ := h2.shape
  obtain ⟨kd, nm, ty, cs⟩ := x
  unfold itv
  simp only at *
  have hb : Below w.heap.size w ((w.alloc (.cells #[.int .i64 kd, .string (str nm), .string (str ty), .slice a1 cs.length c1] 34)).alloc (.cells #[.int .i64 kd, .string (str nm), .string (str ty), .slice a2 cs.length c2] 34)) := ((Below.refl _ _).alloc (Nat.le_refl _) _).alloc (by simp) _
  have hC := keepCases F G _ _ cs _ (h1.below hb hF) (h2.below hb hG) hok.2.2.2.2.1 hok.2.2.2.2.2
  have hn1 : ((str nm).toList == (str nm).toList) = true := by simp
  have hn2 : ((str ty).toList == (str ty).toList) = true := by simp
  clear h1 h2
  go_enter Tryz.func11, Tryz.ntmps11
  go_wp2_with fail
  refine hC.mono ?_
  rintro e w1 ⟨rfl, n, rfl⟩
  go_wp2
  go_ret
  exact ⟨rfl, hb.trans (belowK _ _)⟩
set_option maxHeartbeats 4000000 in
set_option maxRecDepth 1000000 in
theorem keepItems (F G : Nat → Prop) (v1 v2 : Value) (l : List It) (w : World) (h1 : ItR F w v1 l) (h2 : ItR G w v2 l) (hF : ∀ g, F g → g < w.heap.size) (hG : ∀ g, G g → g < w.heap.size) (hl : l.length ≤ 2199023255552) (hok : ∀ x ∈ l, ItOk x) :
    Calls Tryz.prog 60 #[v1, v2] w fun e w' => e = .returned (.bool true) ∧ Below w.heap.size w w' := by
  obtain ⟨a1, c1, rfl⟩ := h1.shape
  obtain ⟨a2, c2, rfl⟩ := h2.shape
  have hh1 := hidden h1
  have hh2 := hidden h2
  clear h1 h2
  go_enter Tryz.func60, Tryz.ntmps60
  go_wp2
  go_loopg [5] l.length (fun g i wr => ∃ (k : Nat), g + k = l.length ∧ i = .int .i64 (k : Int) ∧ Below w.heap.size w wr)
  case atStart => exact ⟨0, by omega, rfl, Below.refl _ _⟩
  case round =>
    obtain ⟨k, hg, rfl, hbr⟩ := hrel
    have hsr := hbr.size
    by_cases hk : k < l.length
    · have i1 := hh1.out.below hbr hF
      have i2 := hh2.out.below hbr hG
      obtain ⟨g1, o1, d1, cv1, e1, f1, t1, q10, q11, q12, q13⟩ := i1.at k hk
      simp only [Value.slice.injEq, true_and] at e1
      obtain ⟨rfl, rfl⟩ := e1
      obtain ⟨g2, o2, d2, cv2, e2, f2, t2, q20, q21, q22, q23⟩ := i2.at k hk
      simp only [Value.slice.injEq, true_and] at e2
      obtain ⟨rfl, rfl⟩ := e2
      have hki : (k : Int) < (l.length : Int) := by omega
      have hx := hok _ (List.getElem_mem hk)
      have hg1 : g1 < wr.heap.size := Nat.lt_of_lt_of_le (hF g1 f1) hsr
      have hg2 : g2 < wr.heap.size := Nat.lt_of_lt_of_le (hG g2 f2) hsr
      clear hh1 hh2 i1 i2 hok
      generalize l[k] = x at *
      have hIt : ∀ u, Below wr.heap.size wr u → Calls Tryz.prog 11 #[itv x cv1, itv x cv2] u fun e w' => e = .returned (.bool true) ∧ Below u.heap.size u w' := fun u hu =>
        keepItem F G x cv1 cv2 u (t1.below hu (fun g hg => Nat.lt_of_lt_of_le (hF g hg) hsr)) (t2.below hu (fun g hg => Nat.lt_of_lt_of_le (hG g hg) hsr)) (fun g hg => Nat.lt_of_lt_of_le (hF g hg) (Nat.le_trans hsr hu.size)) (fun g hg => Nat.lt_of_lt_of_le (hG g hg) (Nat.le_trans hsr hu.size)) hx
      obtain ⟨ca1, cc1, rfl⟩ := t1.shape
      obtain ⟨ca2, cc2, rfl⟩ := t2.shape
      obtain ⟨kd, nm, ty, cs⟩ := x
      unfold itv at hIt
      simp only at *
      have hS : ∀ u, Below wr.heap.size wr u → u.cell? ⟨g1, o1 + k * 4, none⟩ = some (.int .i64 kd) ∧ u.cell? ⟨g1, o1 + k * 4 + 1, none⟩ = some (.string (str nm)) ∧ u.cell? ⟨g1, o1 + k * 4 + 2, none⟩ = some (.string (str ty)) ∧ u.cell? ⟨g1, o1 + k * 4 + 3, none⟩ = some (.slice ca1 cs.length cc1) ∧ u.cell? ⟨g2, o2 + k * 4, none⟩ = some (.int .i64 kd) ∧ u.cell? ⟨g2, o2 + k * 4 + 1, none⟩ = some (.string (str nm)) ∧ u.cell? ⟨g2, o2 + k * 4 + 2, none⟩ = some (.string (str ty)) ∧ u.cell? ⟨g2, o2 + k * 4 + 3, none⟩ = some (.slice ca2 cs.length cc2) := fun u hu => by
        have b1 := hu.block g1 hg1
        have b2 := hu.block g2 hg2
        exact ⟨(World.cell?_of_block (a := ⟨g1, o1 + k * 4, none⟩) b1).trans q10, (World.cell?_of_block (a := ⟨g1, o1 + k * 4 + 1, none⟩) b1).trans q11, (World.cell?_of_block (a := ⟨g1, o1 + k * 4 + 2, none⟩) b1).trans q12, (World.cell?_of_block (a := ⟨g1, o1 + k * 4 + 3, none⟩) b1).trans q13, (World.cell?_of_block (a := ⟨g2, o2 + k * 4, none⟩) b2).trans q20, (World.cell?_of_block (a := ⟨g2, o2 + k * 4 + 1, none⟩) b2).trans q21, (World.cell?_of_block (a := ⟨g2, o2 + k * 4 + 2, none⟩) b2).trans q22, (World.cell?_of_block (a := ⟨g2, o2 + k * 4 + 3, none⟩) b2).trans q23⟩
      have G0 : Below wr.heap.size wr wr.drew := (Below.refl _ _).drew
      clear t1 t2 hx f1 f2
      go_wp2_with fail
      go_region_held3 (fun u => u.cell? ⟨g1, o1 + k * 4, none⟩ = some (.int .i64 kd) ∧ u.cell? ⟨g1, o1 + k * 4 + 1, none⟩ = some (.string (str nm)) ∧ u.cell? ⟨g1, o1 + k * 4 + 2, none⟩ = some (.string (str ty)) ∧ u.cell? ⟨g1, o1 + k * 4 + 3, none⟩ = some (.slice ca1 cs.length cc1) ∧ u.cell? ⟨g2, o2 + k * 4, none⟩ = some (.int .i64 kd) ∧ u.cell? ⟨g2, o2 + k * 4 + 1, none⟩ = some (.string (str nm)) ∧ u.cell? ⟨g2, o2 + k * 4 + 2, none⟩ = some (.string (str ty)) ∧ u.cell? ⟨g2, o2 + k * 4 + 3, none⟩ = some (.slice ca2 cs.length cc2)) (first | go_keep | exact hS _ (by assumption)) (first | (go_at_call 11; refine (hIt _ (by assumption)).mono ?_; rintro e w9 ⟨rfl, hb9⟩; have G9 := G0.trans (hb9.mono (by first | exact Nat.le_refl _ | exact G0.size))))
      all_goals (
        have hb10 : Below w.heap.size w w9 := hbr.trans (G9.mono hsr)
        clear hS hIt
        go_wp2
        go_roundg (l.length - (k + 1))
        case measure => omega
        case rel => exact ⟨k + 1, by omega, by go_num, by first | exact hb10 | exact hb10.drew⟩)
    · have hki : ¬ (k : Int) < (l.length : Int) := by omega
      go_wp2
      go_ret
      exact ⟨rfl, hbr⟩
set_option maxHeartbeats 1000000 in
set_option maxRecDepth 1000000 in
theorem keepIface (F G : Nat → Prop) (m : List UInt8) (v1 v2 : Value) (l : List It) (w : World) (h1 : ItR F w v1 l) (h2 : ItR G w v2 l) (hF : ∀ g, F g → g < w.heap.size) (hG : ∀ g, G g → g < w.heap.size) (hl : l.length ≤ 2199023255552) (hok : ∀ x ∈ l, ItOk x) :
    Calls Tryz.prog 22 #[.agg #[.string (str m), v1], .agg #[.string (str m), v2]] w fun e w' => e = .returned (.bool true) ∧ Below w.heap.size w w' := by
  obtain ⟨a1, c1, rfl⟩ := h1.shape
  obtain ⟨a2, c2, rfl⟩ := h2.shape
  have hb : Below w.heap.size w ((w.alloc (.cells #[.string (str m), .slice a1 l.length c1] 24)).alloc (.cells #[.string (str m), .slice a2 l.length c2] 24)) := ((Below.refl _ _).alloc (Nat.le_refl _) _).alloc (by simp) _
  have hs := hb.size
  have hI := keepItems F G _ _ l _ (h1.below hb hF) (h2.below hb hG) (fun g hg => Nat.lt_of_lt_of_le (hF g hg) hs) (fun g hg => Nat.lt_of_lt_of_le (hG g hg) hs) hl hok
  have hn1 : ((str m).toList == (str m).toList) = true := by simp
  clear h1 h2
  go_enter Tryz.func22, Tryz.ntmps22
  go_wp2_with fail
  refine hI.mono ?_
  rintro e w1 ⟨rfl, hb1⟩
  have hbw := hb.trans (hb1.mono hs)
  go_wp2
  go_ret
  exact ⟨rfl, hbw⟩
end Go.Proofs.YtalbjbahgbkifaaGreat
