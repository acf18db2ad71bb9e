/-
  Interfaces and texts that are handed in: what they are in memory; how long they can be.
-/
import Derived.ProofKit
import Derived.OpenShut
import Derived.SliceStrings
import Derived.Deep.Slices
import Derived.Lib.SmallJoins
import Derived.SizedLaws
import Derived.ChangeArms
import Derived.Test.YtokkhdpkadgffaaGreatDoorIfaceMem
namespace Go.Proofs.YtokkhdpkadgffaaGreatDoor
open Go.ChangeShapes Go.WideShapes Go.ChangeAt Go.RowKit Go.Deep

/-- No part of it is longer than memory reaches. -/
def WOk {H : Type} (t : TypeId) (d : DataW H) : Prop := ∀ n ∈ d.weights Tryz.prog t, n ≤ reachBytes
theorem reach_is : reachBytes = 140737488351232 := by decide
theorem w_all {H : Type} {e : TypeId} : ∀ {l : List (DataW H)} {d : DataW H}, d ∈ l → ∀ n ∈ d.weights Tryz.prog e, n ∈ DataW.weightsAll Tryz.prog e l
  | d0 :: r, d, hd, n, hn => by
    rw [DataW.weightsAll, List.mem_append]
    rcases List.mem_cons.1 hd with rfl | hd
    · exact .inl hn
    · exact .inr (w_all hd n hn)
theorem w_slice {H : Type} {t e : TypeId} {elems spare : List (DataW H)} (hu : Tryz.prog.underlying t = some (.slice e)) (h : WOk t (.slice elems spare)) : (elems.length + spare.length) * Tryz.prog.bytesOf e ≤ reachBytes ∧ ∀ d ∈ elems, WOk e d := by
  unfold WOk at h
  simp only [DataW.weights, hu] at h
  exact ⟨h _ (List.mem_cons_self ..), fun d hd n hn => h n (List.mem_cons_of_mem _ (List.mem_append_left _ (w_all hd n hn)))⟩
theorem w_two {H : Type} {t : TypeId} {f0 f1 : Field} {d0 d1 : DataW H} (hu : Tryz.prog.underlying t = some (.struct #[f0, f1])) (h : WOk t (.agg [d0, d1])) : WOk f0.type d0 ∧ WOk f1.type d1 := by
  unfold WOk at h
  simp only [DataW.weights, hu, List.map_cons, List.map_nil, DataW.weightsEach, List.append_nil, List.mem_append] at h
  exact ⟨fun n hn => h n (.inl hn), fun n hn => h n (.inr hn)⟩
theorem w_four {H : Type} {t : TypeId} {f0 f1 f2 f3 : Field} {d0 d1 d2 d3 : DataW H} (hu : Tryz.prog.underlying t = some (.struct #[f0, f1, f2, f3])) (h : WOk t (.agg [d0, d1, d2, d3])) : WOk f1.type d1 ∧ WOk f2.type d2 ∧ WOk f3.type d3 := by
  unfold WOk at h
  simp only [DataW.weights, hu, List.map_cons, List.map_nil, DataW.weightsEach, List.append_nil, List.mem_append] at h
  exact ⟨fun n hn => h n (.inr (.inl hn)), fun n hn => h n (.inr (.inr (.inl hn))), fun n hn => h n (.inr (.inr (.inr hn)))⟩
theorem w_str {H : Type} {t : TypeId} {b : List UInt8} (h : WOk (H := H) t (.lit (.string b))) : Tk b := by
  have := h b.length (by simp [DataW.weights])
  rw [reach_is] at this
  unfold Tk
  omega
theorem add_none (ab ao j : Nat) : (⟨ab, ao, none⟩ : Addr).add j = ⟨ab, ao + j, none⟩ := by
  by_cases h0 : j = 0
  · subst h0; simp [Addr.add]
  · simp [Addr.add, h0]
theorem str_list (s : ByteArray) : str s.data.toList = s := by
  cases s
  simp [str]
theorem spot_none {W : World} {ab ao : Nat} {asp} {v : Value} (h : W.cell? ((⟨ab, ao, asp⟩ : Addr).add 0) = some v) : asp = none := by
  simpa [Addr.add] using World.cell?_spot h
theorem texts_open {H : Type} {enc : TypeId × Value → H} {W : World} {fuel : Nat} {a0 : Option Addr} {len0 cap0 : Nat} {x : DataW H × List MemPlace} (hf : DataW.trod enc Tryz.prog W 0 (fun _ => true) true fuel 22 [.slice a0 len0 cap0] = some x) (hw : WOk 22 x.1) :
    ∃ xs : List (List UInt8), xs.length = len0 ∧ TxR (fun g => g < W.heap.size) W (.slice a0 len0 cap0) xs ∧ xs.length ≤ 8796093022208 ∧ ∀ y ∈ xs, Tk y := by
  rcases open_slice1 Tryz.underlying22 (by kernel_rfl) hf with ⟨hcs, _⟩ | ⟨a, len, cap, m, n, V, D, Pl, hcs, hb, hl, hm, hmm, rfl, hx⟩
  · simp only [List.cons.injEq, Value.slice.injEq, and_true] at hcs
    obtain ⟨rfl, rfl, rfl⟩ := hcs
    exact ⟨[], rfl, .inl ⟨_, _, rfl, rfl⟩, by simp, by simp⟩
  · simp only [List.cons.injEq, Value.slice.injEq, and_true] at hcs
    obtain ⟨rfl, rfl, rfl⟩ := hcs
    simp only [if_true] at hmm
    obtain ⟨w1, w2⟩ := w_slice Tryz.underlying22 hw
    have key : ∀ i, i < len0 → ∃ s : ByteArray, W.cell? (a.add i) = some (.string s) ∧ D i = .lit (.string s.data.toList) := fun i hi => by
      obtain ⟨h1, h2⟩ := hx i (by omega)
      obtain ⟨s, hs, hd, _⟩ := DataW.trod_string Tryz.underlying9 h2
      simp only [List.cons.injEq, and_true] at hs
      simp only [Prod.mk.injEq] at hd
      exact ⟨s, by rw [h1, hs], hd.1⟩
    obtain ⟨S, hS⟩ := choose_lt key
    refine ⟨(List.range len0).map (fun i => (S i).data.toList), by simp, ?_, ?_, ?_⟩
    · by_cases h0 : len0 = 0
      · subst h0
        exact .inl ⟨_, _, rfl, rfl⟩
      · obtain ⟨ab, ao, asp⟩ := a
        obtain rfl := spot_none (hS 0 (by omega)).1
        have h00 := (hS 0 (by omega)).1
        rw [add_none] at h00
        refine .inr ⟨ab, ao, cap0, by simp, World.block_lt_of_cell? W _ h00, fun j y hj => ?_⟩
        obtain ⟨hj1, rfl⟩ := List.getElem?_eq_some_iff.1 hj
        simp only [List.length_map, List.length_range] at hj1
        rw [← add_none, (hS j hj1).1]
        simp [str_list]
    · have hby : Tryz.prog.bytesOf 9 = 16 := by kernel_rfl
      rw [hby, reach_is] at w1
      simp only [List.length_map, List.length_range] at w1 ⊢
      omega
    · intro y hy
      obtain ⟨i, hi, rfl⟩ := List.mem_map.1 hy
      have := w2 (D i) (List.mem_map.2 ⟨i, hi, rfl⟩)
      rw [(hS i (List.mem_range.1 hi)).2] at this
      exact w_str this
theorem cases_open {H : Type} {enc : TypeId × Value → H} {W : World} {fuel : Nat} {a0 : Option Addr} {len0 cap0 : Nat} {x : DataW H × List MemPlace} (hf : DataW.trod enc Tryz.prog W 0 (fun _ => true) true fuel 36 [.slice a0 len0 cap0] = some x) (hw : WOk 36 x.1) :
    ∃ cs : List Cs, cs.length = len0 ∧ CsR (fun g => g < W.heap.size) W (.slice a0 len0 cap0) cs ∧ cs.length ≤ 3518437208883 ∧ ∀ c ∈ cs, CsOk c := by
  have hc2 : Tryz.prog.cellsOf 203 = 2 := by kernel_rfl
  have hc1 : Tryz.prog.cellsOf 9 = 1 := by kernel_rfl
  have hc1' : Tryz.prog.cellsOf 22 = 1 := by kernel_rfl
  rcases open_slice Tryz.underlying36 hf with ⟨hcs, _⟩ | ⟨a, len, cap, m, n, D, Pl, hcs, hb, hl, hm, hmm, rfl, hx⟩
  · simp only [List.cons.injEq, Value.slice.injEq, and_true] at hcs
    obtain ⟨rfl, rfl, rfl⟩ := hcs
    exact ⟨[], rfl, .inl ⟨_, _, rfl, rfl⟩, by simp, by simp⟩
  · simp only [List.cons.injEq, Value.slice.injEq, and_true] at hcs
    obtain ⟨rfl, rfl, rfl⟩ := hcs
    simp only [if_true] at hmm
    obtain ⟨w1, w2⟩ := w_slice Tryz.underlying36 hw
    rw [hc2] at hx
    have key : ∀ i, i < len0 → ∃ c : Cs × Value, W.cell? (a.add (i * 2)) = some (.string (str c.1.1)) ∧ W.cell? ((a.add (i * 2)).add 1) = some c.2 ∧ TxR (fun g => g < W.heap.size) W c.2 c.1.2 ∧ CsOk c.1 := fun i hi => by
      obtain ⟨cs', h1, h2⟩ := hx i (by omega)
      obtain ⟨_, hl2, hcell⟩ := World.cells?_some h1
      obtain ⟨c0, c1, rfl⟩ : ∃ c0 c1, cs' = [c0, c1] := by
        match cs', hl2 with
        | [c0, c1], _ => exact ⟨c0, c1, rfl⟩
      obtain ⟨y0, y1, n', hxx, _, t0, t1⟩ := trod_struct2 Tryz.underlying203 h2
      have t0' : DataW.trod enc Tryz.prog W 0 (fun _ => true) true n' 9 [c0] = some y0 := by simpa [hc1] using t0
      have t1' : DataW.trod enc Tryz.prog W 0 (fun _ => true) true n' 22 [c1] = some y1 := by simpa [hc1'] using t1
      obtain ⟨s, hs, hd, _⟩ := DataW.trod_string Tryz.underlying9 t0'
      simp only [List.cons.injEq, and_true] at hs
      obtain ⟨fa, fl, fc, hfc⟩ := Go.Joins.slice_form Tryz.underlying22 t1'
      simp only [List.cons.injEq, and_true] at hfc
      subst hs hfc
      simp only [Prod.mk.injEq] at hxx
      have wi := w2 (D i) (List.mem_map.2 ⟨i, List.mem_range.2 hi, rfl⟩)
      rw [hxx.1] at wi
      obtain ⟨v0, v1⟩ := w_two Tryz.underlying203 wi
      rw [hd] at v0
      obtain ⟨xs, g1, g2, g3, g4⟩ := texts_open t1' v1
      have e0 := hcell 0 (by omega)
      have e1 := hcell 1 (by omega)
      refine ⟨((s.data.toList, xs), .slice fa fl fc), ?_, by simpa using e1, g2, w_str v0, g3, g4⟩
      rw [str_list]
      have : (a.add (i * 2)).add 0 = a.add (i * 2) := by simp [Addr.add]
      rw [this] at e0
      simpa using e0
    obtain ⟨S, hS⟩ := choose_lt key
    refine ⟨(List.range len0).map (fun i => (S i).1), by simp, ?_, ?_, ?_⟩
    · by_cases h0 : len0 = 0
      · subst h0
        exact .inl ⟨_, _, rfl, rfl⟩
      · obtain ⟨ab, ao, asp⟩ := a
        obtain rfl := spot_none (by simpa using (hS 0 (by omega)).1)
        have h00 := (hS 0 (by omega)).1
        rw [add_none] at h00
        refine .inr ⟨ab, ao, cap0, by simp, by simpa using hl, World.block_lt_of_cell? W _ h00, fun j y hj => ?_⟩
        obtain ⟨hj1, rfl⟩ := List.getElem?_eq_some_iff.1 hj
        simp only [List.length_map, List.length_range] at hj1
        obtain ⟨k0, k1, k2, _⟩ := hS j hj1
        rw [add_none] at k0 k1
        rw [add_none] at k1
        refine ⟨(S j).2, by simpa using k2, by simpa using k0, by simpa using k1⟩
    · have hby : Tryz.prog.bytesOf 203 = 40 := by kernel_rfl
      rw [hby, reach_is] at w1
      simp only [List.length_map, List.length_range] at w1 ⊢
      omega
    · intro y hy
      obtain ⟨i, hi, rfl⟩ := List.mem_map.1 hy
      exact (hS i (List.mem_range.1 hi)).2.2.2
theorem items_open {H : Type} {enc : TypeId × Value → H} {W : World} {fuel : Nat} {a0 : Option Addr} {len0 cap0 : Nat} {x : DataW H × List MemPlace} (hf : DataW.trod enc Tryz.prog W 0 (fun _ => true) true fuel 30 [.slice a0 len0 cap0] = some x) (hw : WOk 30 x.1) :
    ∃ l : List It, l.length = len0 ∧ ItR (fun g => g < W.heap.size) W (.slice a0 len0 cap0) l ∧ l.length ≤ 2199023255552 ∧ ∀ c ∈ l, ItOk c := by
  haveI : Inhabited It := ⟨⟨0, [], [], []⟩⟩
  have hc4 : Tryz.prog.cellsOf 38 = 4 := by kernel_rfl
  have hc0 : Tryz.prog.cellsOf 3 = 1 := by kernel_rfl
  have hc1 : Tryz.prog.cellsOf 9 = 1 := by kernel_rfl
  have hc1' : Tryz.prog.cellsOf 36 = 1 := by kernel_rfl
  rcases open_slice Tryz.underlying30 hf with ⟨hcs, _⟩ | ⟨a, len, cap, m, n, D, Pl, hcs, hb, hl, hm, hmm, rfl, hx⟩
  · simp only [List.cons.injEq, Value.slice.injEq, and_true] at hcs
    obtain ⟨rfl, rfl, rfl⟩ := hcs
    exact ⟨[], rfl, .inl ⟨_, _, rfl, rfl⟩, by simp, by simp⟩
  · simp only [List.cons.injEq, Value.slice.injEq, and_true] at hcs
    obtain ⟨rfl, rfl, rfl⟩ := hcs
    simp only [if_true] at hmm
    obtain ⟨w1, w2⟩ := w_slice Tryz.underlying30 hw
    rw [hc4] at hx
    have key : ∀ i, i < len0 → ∃ c : It × Value, W.cell? (a.add (i * 4)) = some (.int .i64 c.1.kind) ∧ W.cell? ((a.add (i * 4)).add 1) = some (.string (str c.1.name)) ∧ W.cell? ((a.add (i * 4)).add 2) = some (.string (str c.1.ty)) ∧ W.cell? ((a.add (i * 4)).add 3) = some c.2 ∧ CsR (fun g => g < W.heap.size) W c.2 c.1.cases ∧ ItOk c.1 := fun i hi => by
      obtain ⟨cs', h1, h2⟩ := hx i (by omega)
      obtain ⟨_, hl2, hcell⟩ := World.cells?_some h1
      obtain ⟨c0, c1, c2, c3, rfl⟩ : ∃ c0 c1 c2 c3, cs' = [c0, c1, c2, c3] := by
        match cs', hl2 with
        | [c0, c1, c2, c3], _ => exact ⟨c0, c1, c2, c3, rfl⟩
      obtain ⟨y0, y1, y2, y3, n', hxx, _, t0, t1, t2, t3⟩ := Go.Joins.trod_struct4 Tryz.underlying38 h2
      have t0' : DataW.trod enc Tryz.prog W 0 (fun _ => true) true n' 3 [c0] = some y0 := by simpa [hc0] using t0
      have t1' : DataW.trod enc Tryz.prog W 0 (fun _ => true) true n' 9 [c1] = some y1 := by simpa [hc1] using t1
      have t2' : DataW.trod enc Tryz.prog W 0 (fun _ => true) true n' 9 [c2] = some y2 := by simpa [hc1] using t2
      have t3' : DataW.trod enc Tryz.prog W 0 (fun _ => true) true n' 36 [c3] = some y3 := by simpa [hc1'] using t3
      obtain ⟨k, hk, _, hkw⟩ := DataW.trod_int Tryz.underlying3 t0'
      obtain ⟨s, hs, hd, _⟩ := DataW.trod_string Tryz.underlying9 t1'
      obtain ⟨s2, hs2, hd2, _⟩ := DataW.trod_string Tryz.underlying9 t2'
      obtain ⟨fa, fl, fc, hfc⟩ := Go.Joins.slice_form Tryz.underlying36 t3'
      simp only [List.cons.injEq, and_true] at hk hs hs2 hfc
      subst hk hs hs2 hfc
      simp only [Prod.mk.injEq] at hxx
      have wi := w2 (D i) (List.mem_map.2 ⟨i, List.mem_range.2 hi, rfl⟩)
      rw [hxx.1] at wi
      obtain ⟨v1, v2, v3⟩ := w_four Tryz.underlying38 wi
      rw [hd] at v1
      rw [hd2] at v2
      obtain ⟨cs, g1, g2, g3, g4⟩ := cases_open t3' v3
      have e0 := hcell 0 (by omega)
      have e1 := hcell 1 (by omega)
      have e2 := hcell 2 (by omega)
      have e3 := hcell 3 (by omega)
      have hbk := bounds_i64 hkw
      refine ⟨(⟨k, s.data.toList, s2.data.toList, cs⟩, .slice fa fl fc), ?_, by simpa [str_list] using e1, by simpa [str_list] using e2, by simpa using e3, g2, by simp only; omega, by simp only; omega, w_str v1, w_str v2, g3, g4⟩
      have : (a.add (i * 4)).add 0 = a.add (i * 4) := by simp [Addr.add]
      rw [this] at e0
      simpa using e0
    obtain ⟨S, hS⟩ := choose_lt key
    refine ⟨(List.range len0).map (fun i => (S i).1), by simp, ?_, ?_, ?_⟩
    · by_cases h0 : len0 = 0
      · subst h0
        exact .inl ⟨_, _, rfl, rfl⟩
      · obtain ⟨ab, ao, asp⟩ := a
        obtain rfl := spot_none (by simpa using (hS 0 (by omega)).1)
        have h00 := (hS 0 (by omega)).1
        rw [add_none] at h00
        refine .inr ⟨ab, ao, cap0, by simp, by simpa using hl, World.block_lt_of_cell? W _ h00, fun j y hj => ?_⟩
        obtain ⟨hj1, rfl⟩ := List.getElem?_eq_some_iff.1 hj
        simp only [List.length_map, List.length_range] at hj1
        obtain ⟨k0, k1, k2, k3, k4, _⟩ := hS j hj1
        rw [add_none] at k0
        rw [add_none, add_none] at k1 k2 k3
        refine ⟨(S j).2, by simpa using k4, by simpa using k0, by simpa using k1, by simpa using k2, by simpa using k3⟩
    · have hby : Tryz.prog.bytesOf 38 = 64 := by kernel_rfl
      rw [hby, reach_is] at w1
      simp only [List.length_map, List.length_range] at w1 ⊢
      omega
    · intro y hy
      obtain ⟨i, hi, rfl⟩ := List.mem_map.1 hy
      exact (hS i (List.mem_range.1 hi)).2.2.2.2.2
set_option maxRecDepth 1000000 in
theorem iface_open {H : Type} {enc : TypeId × Value → H} {W : World} {r : Reach} {b0 : Nat} {v : Value} {d : DataW H} {p : List MemPlace} (hv : Value.okWide Tryz.prog W r b0 64 v) (h : DataW.Trod enc Tryz.prog W 0 (fun _ => true) true 64 v d p) (hw : WOk 64 d) :
    ∃ (m : List UInt8) (l : List It) (va : Option Addr) (vc : Nat), v = .agg #[.string (str m), .slice va l.length vc] ∧ Tk m ∧ ItR (fun g => g < W.heap.size) W (.slice va l.length vc) l ∧ l.length ≤ 2199023255552 ∧ ∀ x ∈ l, ItOk x := by
  obtain ⟨v0, v1, y0, y1, n, rfl, rfl, _, t0, t1⟩ := Go.Joins.open_agg2 Tryz.underlying64 (by kernel_rfl) (by kernel_rfl) hv h
  obtain ⟨w0, w1⟩ := w_two Tryz.underlying64 hw
  obtain ⟨s, hs, hd, _⟩ := DataW.trod_string Tryz.underlying9 t0
  obtain ⟨fa, fl, fc, hfc⟩ := Go.Joins.slice_form Tryz.underlying30 t1
  simp only [List.cons.injEq, and_true] at hs hfc
  subst hs hfc
  rw [hd] at w0
  obtain ⟨l, g1, g2, g3, g4⟩ := items_open t1 w1
  subst g1
  exact ⟨s.data.toList, l, fa, fc, by rw [str_list], w_str w0, g2, g3, g4⟩
end Go.Proofs.YtokkhdpkadgffaaGreatDoor
