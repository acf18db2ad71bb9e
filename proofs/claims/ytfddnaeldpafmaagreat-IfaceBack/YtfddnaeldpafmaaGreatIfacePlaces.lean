/-
  slices.Backward over items; the package's places: where each name is found first.
-/
import Derived.RangeFuncNested
import Derived.RangeFuncBound
import Derived.RangeFuncCalls
import Derived.RangeFuncLeaves
import Derived.RangeFuncBox
import Derived.Shelf.Abstract
import Derived.Shelf.RegionOpen
import Derived.WalkKit
import Derived.WalkArith
import Derived.OwnWalkIn
import Derived.TacticsInMore
import Derived.LoopNIn
import Derived.LoopIn
import Derived.Maps.OwnIn
import Derived.Maps.OwnSet
import Derived.Deep.Slices
import Derived.StringKeys
import Derived.Test.YtfddnaeldpafmaaGreatIfaceMem
namespace Go.Proofs.YtfddnaeldpafmaaGreat
open Go.RowKit Go.Shelf
attribute [local go_sem] Oper.semAt_some

/-- What a round is handed: where the item stands, the item, its cases' slice. -/
abbrev Rn : Type := { x : Nat × It × Option Addr × Nat // x.2.1.name.length ≤ 140737488355328 ∧ x.1 ≤ 2199023255552 }
def rnv (x : Rn) : Array Value := #[.int .i64 (x.1.1 : Int), .agg #[.int .i64 x.1.2.1.kind, .string (str x.1.2.1.name), .string (str x.1.2.1.ty), .slice x.1.2.2.1 x.1.2.1.cases.length x.1.2.2.2]]
def rn0 : Rn := ⟨(0, ⟨0, [], [], []⟩, none, 0), by simp⟩
def uptoR (f : Nat → Rn) (k : Nat) : List Rn := (List.range k).map f
theorem uptoR_succ (f : Nat → Rn) (k : Nat) : uptoR f (k + 1) = uptoR f k ++ [f k] := by simp [uptoR, List.range_succ]
theorem uptoR_length (f : Nat → Rn) (k : Nat) : (uptoR f k).length = k := by simp [uptoR]
/-- What a round that goes on keeps: what lay below n₀, and the box of the slice. -/
def KpB (n₀ Bs : Nat) (W W' : World) : Prop := Below n₀ W W' ∧ ∀ v, W.cell? ⟨Bs, 0, none⟩ = some v → W'.cell? ⟨Bs, 0, none⟩ = some v
theorem KpB.t {n₀ Bs : Nat} {A B C : World} (h : KpB n₀ Bs A B) (k : KpB n₀ Bs B C) : KpB n₀ Bs A C := ⟨h.1.trans k.1, fun v hv => k.2 v (h.2 v hv)⟩
theorem KpB.b {n₀ Bs : Nat} {w : World} (hn : n₀ ≤ w.heap.size) (W : World) (l : Nat) (o o' : Obj) (hl : w.heap.size ≤ l) (h : W.heap[l]? = some o) (hc : o.isCells = false) (hw : o.isWalk = false) : KpB n₀ Bs W (W.putObj l o') :=
  ⟨belowK_b hn W l o o' hl h hc hw, fun v hv => cell_kept hv (grownBy_putObj' W l o') (fun r e => by cases e; exact ⟨o, h, hc⟩)⟩
set_option maxRecDepth 100000 in
set_option maxHeartbeats 2000000 in
theorem backward1 (F : Fence) (n : Nat) (h7 : F.fn 107) (hro : F.round = none) (hn : 1 ≤ n) (l Bs n₀ b off len cap : Nat) (f : Nat → Rn) (hreach : len ≤ 2199023255552) (hb : b < n₀) (J Jx : List Rn → World → Prop)
    (hY : ∀ pre x W, J pre W → pre.length < len → YieldAt F (n - 1) Tryz.prog l (rnv x) W fun e W' =>
      (e = .returned (.bool true) ∧ J (pre ++ [x]) W' ∧ KpB n₀ Bs W W') ∨ (e = .returned (.bool false) ∧ Jx (pre ++ [x]) W'))
    (W : World) (hBs : W.cell? ⟨Bs, 0, none⟩ = some (.slice (some ⟨b, off, none⟩) len cap))
    (hc : ∀ k, k < len → (f k).1.1 = len - 1 - k ∧ W.cell? ⟨b, off + (len - 1 - k) * 4, none⟩ = some (.int .i64 (f k).1.2.1.kind) ∧ W.cell? ⟨b, off + (len - 1 - k) * 4 + 1, none⟩ = some (.string (str (f k).1.2.1.name)) ∧ W.cell? ⟨b, off + (len - 1 - k) * 4 + 2, none⟩ = some (.string (str (f k).1.2.1.ty)) ∧ W.cell? ⟨b, off + (len - 1 - k) * 4 + 3, none⟩ = some (.slice (f k).1.2.2.1 (f k).1.2.1.cases.length (f k).1.2.2.2)) (h0 : J [] W) :
    CallsIn F n Tryz.prog 107 #[.func (.yield l) #[] #[], .pointer (some ⟨Bs, 0, none⟩)] W fun e W' => (∃ v, e = .returned v) ∧
      ((∃ ys, ys = uptoR f len ∧ J ys W') ∨ (∃ pre, (∃ k, k ≤ len ∧ pre = uptoR f k) ∧ Jx pre W')) := by
  refine callsIn_of_wp Tryz.func107 rfl h7 ?_ hro
  simp only [Tryz.ntmps107, List.size_toArray, List.length_cons, List.length_nil, Nat.reduceAdd, Nat.reduceSub, Array.replicate_succ, Array.replicate_zero, List.push_toArray, List.append_toArray, List.nil_append, List.cons_append]
  gi_wp2
  gi_loopw [3] (fun i wr => ∃ k : Nat, k ≤ len ∧ i = .int .i64 ((len : Int) - 1 - k) ∧ J (uptoR f k) wr ∧ Below n₀ W wr ∧ wr.cell? ⟨Bs, 0, none⟩ = some (.slice (some ⟨b, off, none⟩) len cap))
    (fun i _ => (intOf i + 1).toNat)
  case atStart => exact ⟨0, Nat.zero_le _, by simp, h0, Below.refl _ _, hBs⟩
  case round =>
    obtain ⟨k, hk, rfl, hJs, hnx, hBr⟩ := hrel
    by_cases hlt : k < len
    · obtain ⟨hc0, hc1, hc2, hc3, hc4⟩ := hc k hlt
      obtain ⟨fn, tmps, assign, body, hy, hR⟩ := hY _ (f k) wr hJs (by rw [uptoR_length]; exact hlt)
      obtain ⟨j, hj⟩ : ∃ j, j = len - 1 - k := ⟨_, rfl⟩
      rw [← hj] at hc0 hc1 hc2 hc3 hc4
      have d1 := (hnx.cell (p := ⟨b, off + j * 4, none⟩) hb).trans hc1
      have d2 := (hnx.cell (p := ⟨b, off + j * 4 + 1, none⟩) hb).trans hc2
      have d3 := (hnx.cell (p := ⟨b, off + j * 4 + 2, none⟩) hb).trans hc3
      have d4 := (hnx.cell (p := ⟨b, off + j * 4 + 3, none⟩) hb).trans hc4
      have hji : (len : Int) - 1 - (k : Int) = (j : Int) := by omega
      have hj0 : (0 : Int) ≤ (j : Int) := by omega
      have hjl : (j : Int) < (len : Int) := by omega
      have HJ : Hid (j = len - 1 - k) := hj
      unfold rnv at hy
      rw [hc0] at hy
      rw [hji]
      clear hj hc1 hc2 hc3 hc4 hji
      gi_wp2
      refine hR.mono ?_
      rintro e W3 (⟨rfl, hJ3, hk3⟩ | ⟨rfl, hJx3⟩)
      · have hj2 := HJ.out
        gi_wp2
        go_roundw
        case rel => exact ⟨k + 1, by omega, by simp; omega, by rw [uptoR_succ]; exact hJ3, hnx.trans hk3.1, hk3.2 _ hBr⟩
        case measure => simp [intOf]; omega
      · gi_wp2
        refine bodyPost_ret (results_none rfl _ _ _) rfl ?_
        exact ⟨⟨_, rfl⟩, .inr ⟨_, ⟨k + 1, by omega, (uptoR_succ _ _).symm⟩, hJx3⟩⟩
    · obtain rfl : k = len := by omega
      have hneg : (k : Int) - 1 - (k : Int) = -1 := by omega
      rw [hneg]
      gi_wp2
      go_end0
      exact ⟨⟨_, rfl⟩, .inl ⟨_, rfl, hJs⟩⟩
set_option maxRecDepth 100000 in
set_option maxHeartbeats 1000000 in
theorem backward1_nil (F : Fence) (n : Nat) (h7 : F.fn 107) (hro : F.round = none) (l Bs : Nat) (a : Option Addr) (c : Nat) (J : List Rn → World → Prop) (W : World) (hBs : W.cell? ⟨Bs, 0, none⟩ = some (.slice a 0 c)) (h0 : J [] W) :
    CallsIn F n Tryz.prog 107 #[.func (.yield l) #[] #[], .pointer (some ⟨Bs, 0, none⟩)] W fun e W' => (∃ v, e = .returned v) ∧ J [] W' := by
  refine callsIn_of_wp Tryz.func107 rfl h7 ?_ hro
  simp only [Tryz.ntmps107, List.size_toArray, List.length_cons, List.length_nil, Nat.reduceAdd, Nat.reduceSub, Array.replicate_succ, Array.replicate_zero, List.push_toArray, List.append_toArray, List.nil_append, List.cons_append]
  gi_wp2
  gi_loopw [3] (fun i wr => i = .int .i64 (-1) ∧ J [] wr) (fun _ _ => 0)
  case atStart => exact ⟨rfl, h0⟩
  case round =>
    obtain ⟨rfl, hJs⟩ := hrel
    gi_wp2
    go_end0
    exact ⟨⟨_, rfl⟩, hJs⟩
set_option maxHeartbeats 1000000 in
theorem backward_in (F : Fence) (n : Nat) (h5 : F.fn 77) (hro : F.round = none) (a : Option Addr) (len cap : Nat) (w : World) :
    CallsIn F n Tryz.prog 77 #[.slice a len cap] w fun e w' => e = .returned (.func (.func 107) #[] #[.pointer (some ⟨w.heap.size, 0, none⟩)]) ∧ w' = w.alloc (.cells #[.slice a len cap] 22) := by
  refine callsIn_of_wp Tryz.func77 rfl h5 ?_ hro
  simp only [Tryz.ntmps77, List.size_toArray, List.length_cons, List.length_nil, Nat.reduceAdd, Nat.reduceSub, Array.replicate_succ, Array.replicate_zero, List.push_toArray, List.append_toArray, List.nil_append, List.cons_append]
  gi_wp2
  go_ret
  exact ⟨rfl, rfl⟩
/-- Where each name is found first, as a map. -/
def plL {H : Type} : Nat → List It → DataW H
  | _, [] => .map []
  | i, x :: r => (plL (i + 1) r).put (.string x.name) (.lit (.int .i64 (i : Int)))
def plR {H : Type} (pre : List Rn) : DataW H := pre.foldl (fun D x => D.put (.string x.1.2.1.name) (.lit (.int .i64 (x.1.1 : Int)))) (.map [])
theorem plR_snoc {H : Type} (pre : List Rn) (x : Rn) : plR (H := H) (pre ++ [x]) = (plR pre).put (.string x.1.2.1.name) (.lit (.int .i64 (x.1.1 : Int))) := by simp [plR]
theorem plL_map {H : Type} : ∀ (i : Nat) (l : List It), Maps.IsMap (plL (H := H) i l)
  | _, [] => ⟨[], rfl⟩
  | i, x :: r => by
    obtain ⟨es, he⟩ := plL_map (H := H) (i + 1) r
    rw [plL, he]
    exact ⟨_, rfl⟩
theorem plL_has {H : Type} (q : List UInt8) : ∀ (i : Nat) (l : List It), Maps.has (plL (H := H) i l) (.string q) = (findI l q).isSome
  | _, [] => rfl
  | i, x :: r => by
    by_cases h : x.name = q
    · subst h
      rw [plL, Maps.has_put_same (plL_map _ _) (show WideAt.IsKeyLit (.string x.name) from trivial)]
      simp [findI]
    · rw [plL, Maps.has_put_other (by simp; exact fun e => h e.symm), plL_has q (i + 1) r]
      simp [findI, h]
theorem plL_at {H : Type} (q : List UInt8) (z : DataW H) : ∀ (i : Nat) (l : List It) (x : It), findI l q = some x → ∃ j, ∃ h : j < l.length, l[j] = x ∧ (plL (H := H) i l).atKey (.string q) z = .lit (.int .i64 ((i + j : Nat) : Int))
  | _, [], x, h => by simp [findI] at h
  | i, y :: r, x, h => by
    by_cases hy : y.name = q
    · subst hy
      simp only [findI, List.find?_cons, decide_true, Option.some.injEq] at h
      subst h
      exact ⟨0, by simp, rfl, by rw [plL, Maps.atKey_put_same (plL_map _ _) (show WideAt.IsKeyLit (.string y.name) from trivial)]; rfl⟩
    · have h' : findI r q = some x := by simpa [findI, hy] using h
      obtain ⟨j, hj, e1, e2⟩ := plL_at q z (i + 1) r x h'
      refine ⟨j + 1, by simp; omega, by simpa using e1, ?_⟩
      rw [plL, Maps.atKey_put_other (by simp; exact fun e => hy e.symm), e2]
      congr 3
      omega
theorem plR_all {H : Type} (l : List It) (f : Nat → Rn) (hf : ∀ k, k < l.length → (f k).1.1 = l.length - 1 - k ∧ l[l.length - 1 - k]? = some (f k).1.2.1) : ∀ k, k ≤ l.length → plR (H := H) (uptoR f k) = plL (l.length - k) (l.drop (l.length - k))
  | 0, _ => by
    rw [Nat.sub_zero, List.drop_of_length_le (Nat.le_refl _)]
    rfl
  | k + 1, h => by
    obtain ⟨h1, h2⟩ := hf k (by omega)
    obtain ⟨hj, h3⟩ := List.getElem?_eq_some_iff.1 h2
    rw [uptoR_succ, plR_snoc, plR_all l f hf k (by omega), h1]
    have e : l.length - (k + 1) = l.length - 1 - k := by omega
    rw [e, List.drop_eq_getElem_cons hj, plL, h3, show l.length - 1 - k + 1 = l.length - k by omega]
theorem rn_choose {F : Nat → Prop} {w : World} {g o cap : Nat} {l : List It} (h : ItR F w (.slice (some ⟨g, o, none⟩) l.length cap) l) (hok : ∀ x ∈ l, ItOk x) (hl : l.length ≤ 2199023255552) : ∃ f : Nat → Rn, ∀ k, k < l.length → (f k).1.1 = l.length - 1 - k ∧ l[l.length - 1 - k]? = some (f k).1.2.1 ∧ w.cell? ⟨g, o + (l.length - 1 - k) * 4, none⟩ = some (.int .i64 (f k).1.2.1.kind) ∧ w.cell? ⟨g, o + (l.length - 1 - k) * 4 + 1, none⟩ = some (.string (str (f k).1.2.1.name)) ∧ w.cell? ⟨g, o + (l.length - 1 - k) * 4 + 2, none⟩ = some (.string (str (f k).1.2.1.ty)) ∧ w.cell? ⟨g, o + (l.length - 1 - k) * 4 + 3, none⟩ = some (.slice (f k).1.2.2.1 (f k).1.2.1.cases.length (f k).1.2.2.2) := by
  have key : ∀ k, ∃ x : Rn, k < l.length → x.1.1 = l.length - 1 - k ∧ l[l.length - 1 - k]? = some x.1.2.1 ∧ w.cell? ⟨g, o + (l.length - 1 - k) * 4, none⟩ = some (.int .i64 x.1.2.1.kind) ∧ w.cell? ⟨g, o + (l.length - 1 - k) * 4 + 1, none⟩ = some (.string (str x.1.2.1.name)) ∧ w.cell? ⟨g, o + (l.length - 1 - k) * 4 + 2, none⟩ = some (.string (str x.1.2.1.ty)) ∧ w.cell? ⟨g, o + (l.length - 1 - k) * 4 + 3, none⟩ = some (.slice x.1.2.2.1 x.1.2.1.cases.length x.1.2.2.2) := by
    intro k
    by_cases hk : k < l.length
    · have hj : l.length - 1 - k < l.length := by omega
      obtain ⟨g', o', cap', cv, e1, _, hC, q0, q1, q2, q3⟩ := h.at _ hj
      simp only [Value.slice.injEq, Option.some.injEq, Addr.mk.injEq, and_true, true_and] at e1
      obtain ⟨⟨rfl, rfl⟩, _⟩ := e1
      obtain ⟨ca, cc, rfl⟩ := hC.shape
      exact ⟨⟨(l.length - 1 - k, l[l.length - 1 - k], ca, cc), (hok _ (List.getElem_mem hj)).2.2.1, by show l.length - 1 - k ≤ _; omega⟩, fun _ => ⟨rfl, List.getElem?_eq_getElem hj, q0, q1, q2, q3⟩⟩
    · exact ⟨rn0, fun h => absurd h hk⟩
  exact ⟨fun k => Classical.choose (key k), fun k hk => Classical.choose_spec (key k) hk⟩
theorem backward_stops (F : Fence) (n : Nat) (h7 : F.fn 107) (hro : F.round = none) (hn : 1 ≤ n) (G : Nat → Prop) (Bs n₀ : Nat) (va : Option Addr) (vc : Nat) (l : List It) (hl : l.length ≤ 2199023255552) (hok : ∀ x ∈ l, ItOk x) (w : World) (hBs : Bs < w.heap.size) (hn₀ : n₀ ≤ w.heap.size)
    (hc : w.cell? ⟨Bs, 0, none⟩ = some (.slice va l.length vc)) (hI : ItR G w (.slice va l.length vc) l) (hG : ∀ g, G g → g < n₀) :
    SeqStopsK F n Tryz.prog 107 #[.pointer (some ⟨Bs, 0, none⟩)] rnv (KpB n₀ Bs) (fun ys => ∃ f : Nat → Rn, ys = uptoR f l.length ∧ ∀ k, k < l.length → (f k).1.1 = l.length - 1 - k ∧ l[l.length - 1 - k]? = some (f k).1.2.1) (fun _ => True) l.length w := fun lp J Jx W hW _ _ hY h0 => by
  have hc' := (hW.cell (p := ⟨Bs, 0, none⟩) hBs).trans hc
  have hI' := hI.below hW (fun g hg => Nat.lt_of_lt_of_le (hG g hg) hn₀)
  by_cases hz : l.length = 0
  · rw [hz] at hc'
    refine (backward1_nil F n h7 hro lp Bs va vc J W hc' h0).mono fun e W' h => ⟨h.1, .inl ⟨[], ⟨fun _ => rn0, by rw [hz]; rfl, fun k hk => by omega⟩, h.2⟩⟩
  · obtain ⟨g, o, cap, cv, e1, hg, _⟩ := hI'.at 0 (by omega)
    simp only [Value.slice.injEq, true_and] at e1
    obtain ⟨rfl, rfl⟩ := e1
    obtain ⟨f, hf⟩ := rn_choose hI' hok hl
    refine (backward1 F n h7 hro hn lp Bs n₀ g o l.length vc f hl (hG g hg) J Jx hY W hc' (fun k hk => ⟨(hf k hk).1, (hf k hk).2.2⟩) h0).mono ?_
    rintro e W' ⟨he, ⟨ys, rfl, hj⟩ | ⟨pre, ⟨k, hk, rfl⟩, hj⟩⟩
    · exact ⟨he, .inl ⟨_, ⟨f, rfl, fun k hk => ⟨(hf k hk).1, (hf k hk).2.1⟩⟩, hj⟩⟩
    · exact ⟨he, .inr ⟨_, trivial, hj⟩⟩
set_option maxRecDepth 100000 in
set_option maxHeartbeats 4000000 in
theorem places_in {H : Type} (F : Fence) (n : Nat) (h3 : F.fn 45) (h4 : F.fn 77) (h5 : F.fn 107) (hro : F.round = none) (hn : 3 ≤ n) (G : Nat → Prop) (m : List UInt8) (va : Option Addr) (vc : Nat) (l : List It) (hl : l.length ≤ 2199023255552) (hok : ∀ x ∈ l, ItOk x) (w : World) (hI : ItR G w (.slice va l.length vc) l) (hG : ∀ g, G g → g < w.heap.size) :
    CallsIn F n Tryz.prog 45 #[.agg #[.string (str m), .slice va l.length vc]] w fun e W' => e = .returned (.map (some (w.heap.size + 1))) ∧ W'.ownsMap Tryz.prog 9 (plainElem (H := H) Tryz.prog 3) (w.heap.size + 1) l.length (plL 0 l) ∧ Below w.heap.size w W' := by
  have h1 : 1 ≤ n := by omega
  have hmm := @run_makeMap Tryz.prog
  refine callsIn_of_wp_marks Tryz.func45 rfl h3 ?_ hro
  simp only [Tryz.ntmps45, List.size_toArray, List.length_cons, List.length_nil, Nat.reduceAdd, Nat.reduceSub, Array.replicate_succ, Array.replicate_zero, List.push_toArray, List.append_toArray, List.nil_append, List.cons_append]
  gi_wp2_with (gi_at_call 77; refine (backward_in F (n - 1) h4 hro _ _ _ _).mono ?_; rintro e w' ⟨rfl, rfl⟩)
  have hm0 := ((World.ownsMap_made (w.alloc (.cells #[.string (str m), .slice va l.length vc] 24)) Tryz.prog 9 (plainElem (H := H) Tryz.prog 3)).alloc (.cells #[.map (some (w.heap.size + 1))] 74)).alloc (.cells #[.slice va l.length vc] 22)
  have bS := (Boxed.new ((w.alloc (.cells #[.string (str m), .slice va l.length vc] 24)).alloc (.map #[] 0)) 74 (.map (some (w.heap.size + 1)))).alloc (.cells #[.slice va l.length vc] 22)
  have bN := Boxed.new (((w.alloc (.cells #[.string (str m), .slice va l.length vc] 24)).alloc (.map #[] 0)).alloc (.cells #[.map (some (w.heap.size + 1))] 74)) 22 (.slice va l.length vc)
  simp only [World.size_alloc] at hm0 bS bN
  have hB0 : Below w.heap.size w ((((w.alloc (.cells #[.string (str m), .slice va l.length vc] 24)).alloc (.map #[] 0)).alloc (.cells #[.map (some (w.heap.size + 1))] 74)).alloc (.cells #[.slice va l.length vc] 22)) := ((((Below.refl _ w).alloc (Nat.le_refl _) _).alloc (by simp) _).alloc (by simp; omega) _).alloc (by simp; omega) _
  have hsz : ((((w.alloc (.cells #[.string (str m), .slice va l.length vc] 24)).alloc (.map #[] 0)).alloc (.cells #[.map (some (w.heap.size + 1))] 74)).alloc (.cells #[.slice va l.length vc] 22)).heap.size = w.heap.size + 1 + 1 + 1 + 1 := by simp
  generalize hW0 : (((w.alloc (.cells #[.string (str m), .slice va l.length vc] 24)).alloc (.map #[] 0)).alloc (.cells #[.map (some (w.heap.size + 1))] 74)).alloc (.cells #[.slice va l.length vc] 22) = W0 at *
  have hst := backward_stops F (n - 1) h5 hro (by omega) G (w.heap.size + 1 + 1 + 1) w.heap.size va vc l hl hok W0 (by omega) (by omega) bN.cell (hI.below hB0 hG) hG
  refine wpIn_rangeFunc_ownH hro h1 (gf := 107) (lb := #[.pointer (some ⟨w.heap.size + 1 + 1 + 1, 0, none⟩)]) rfl h5 (enters_of Tryz.func107 (by kernel_rfl) rfl)
    hst KpB.t (KpB.b (by omega)) (Below.refl _ _) (fun _ => rfl)
    (fun pre W => ((Boxed W (w.heap.size + 1 + 1) 74 (.map (some (w.heap.size + 1))) ∧ Boxed W (w.heap.size + 1 + 1 + 1) 22 (.slice va l.length vc)) ∧ W.ownsMap Tryz.prog 9 (plainElem (H := H) Tryz.prog 3) (w.heap.size + 1) pre.length (plR pre)) ∧ Below w.heap.size w W)
    (fun _ _ _ => False)
    (OwnFrom.and (OwnFrom.and (OwnFrom.and (Own.from (boxed_own _ _ _) _) (Own.from (boxed_own _ _ _) _)) (fun s A B row hs hg hr => hs.kept hg (fun e => by have := (hr _ e.symm).1; omega))) (ownFrom_below (Nat.le_refl _) (by omega)))
    (fun _ _ _ _ _ hs _ _ => hs)
    ⟨⟨⟨bS, bN⟩, hm0⟩, hB0⟩
    (fun x a' W => ∃ Bx, w.heap.size + 1 + 1 + 1 < Bx ∧ W.heap[Bx]? = some (.cells #[.int .i64 x.1.2.1.kind, .string (str x.1.2.1.name), .string (str x.1.2.1.ty), .slice x.1.2.2.1 x.1.2.1.cases.length x.1.2.2.2] 34 (0, 0)) ∧ a' = { tmps := #[.agg #[.string (str m), .slice va l.length vc], .pointer (some ⟨w.heap.size, 0, none⟩), .map none, .pointer (some ⟨w.heap.size + 1 + 1, 0, none⟩), .int .i64 (x.1.1 : Int), .pointer (some ⟨Bx, 0, none⟩), .map (some (w.heap.size + 1)), .pointer (some ⟨w.heap.size, 1, none⟩), .slice va l.length vc, .func (.func 107) #[] #[.pointer (some ⟨w.heap.size + 1 + 1 + 1, 0, none⟩)], .int .i64 (x.1.1 : Int), .agg #[.int .i64 x.1.2.1.kind, .string (str x.1.2.1.name), .string (str x.1.2.1.ty), .slice x.1.2.2.1 x.1.2.1.cases.length x.1.2.2.2], undef, undef, undef, undef, undef], defers := [] })
    (fun x a' _ X Y row hs hg hr => by
      obtain ⟨Bx, h1, h2, h3⟩ := hs
      refine ⟨Bx, h1, (hg.block Bx (Array.getElem?_eq_some_iff.1 h2).1 (fun e => ?_)).trans h2, h3⟩
      obtain ⟨_, o, ho, hc⟩ := hr Bx e.symm
      rw [h2] at ho
      cases ho
      cases hc)
    ?assign ?body ?done ?stop
  case assign =>
    rintro lp pre x W K ⟨⟨⟨b1, b2⟩, hm1⟩, hB1⟩ hK
    unfold rnv
    gi_wp2
    exact hK _ _ ((KeepsOthers.alloc _ _).from _) ⟨(Below.refl _ W).alloc hB1.size _, fun v hv => (World.cell?_of_block (Below.heap_alloc _ _ _ (World.block_lt_of_cell? W _ hv))).trans hv⟩ ⟨⟨⟨b1.alloc _, b2.alloc _⟩, hm1.alloc _⟩, hB1.alloc hB1.size _⟩ ⟨W.heap.size, b2.lt, World.alloc_heap_new W _, rfl⟩
  case body =>
    rintro lp pre x a' W hlp _ ⟨⟨⟨b1, b2⟩, hown⟩, hB⟩ ⟨Bx, hBx, bX, rfl⟩ hlt
    have cB := b1.cell
    have cX : W.cell? ⟨Bx, 1, none⟩ = some (.string (str x.1.2.1.name)) := by rw [cell_of_row W Bx 1 _ _ _ bX]; rfl
    have hkey : keyOf Tryz.prog 9 (.string (str x.1.2.1.name)) = some (.string x.1.2.1.name) := Go.WideMaps.keyOf_string_mk Tryz.underlying9 (by rw [str_size]; have := x.2.1; unfold maxLen; omega)
    have hwf : (Lit.int .i64 (x.1.1 : Int)).wf = true := Go.WalkArith.wf_i64 ⟨by omega, by have := x.2.2; omega⟩
    gi_wp2_with (gi_at_mapUpdate; refine wpListIn_mapUpdate_own _ rfl _ _ _ 74 rfl 9 3 (Maps.string_keyed Tryz.underlying9) Tryz.underlying74 _ (w.heap.size + 1) pre.length _ rfl hown (by unfold maxLen; omega) _ _ _ rfl rfl hkey _ [] (plainElem_int Tryz.underlying3 hwf) ?_; intro w1 hown1 hgrow1)
    have k1 := b1.kept hgrow1 (fun e => by have := Option.some.inj e; omega)
    have k2 := b2.kept hgrow1 (fun e => by have := Option.some.inj e; omega)
    exact ⟨KeepsFrom.of_grownBy hgrow1 (fun j e => by cases e; omega), ⟨(Below.refl _ W).grown hgrow1 hB.size (fun k e => by cases e; omega), fun v hv => by rw [b2.cell] at hv; rw [k2.cell]; exact hv⟩,
      ⟨⟨k1, k2⟩, by rw [plR_snoc, List.length_append]; exact hown1⟩, hB.grown hgrow1 hB.size (fun k e => by cases e; omega)⟩
  case done =>
    rintro D ys W hD ⟨f, rfl, hf⟩ ⟨⟨⟨b1, b2⟩, hown⟩, hB⟩ hK
    have cB := b1.cell
    rw [uptoR_length, plR_all l f hf l.length (Nat.le_refl _), Nat.sub_self, List.drop_zero] at hown
    gi_wp2
    refine ⟨by simp, .inl ⟨_, _, rfl, run_takeDeferred hK, ?_⟩⟩
    exact ⟨_, results_tmp rfl _ _ _, rfl, hown.kept (grownBy_putObj' _ D _) (fun e => by cases e; omega), hB.trans (belowK_b (w := w) (Nat.le_refl _) W D _ _ (by omega) hK rfl rfl)⟩
  case stop =>
    rintro D c pre W _ _ h _
    exact h.elim
end Go.Proofs.YtfddnaeldpafmaaGreat
