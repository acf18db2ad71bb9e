/-
  The package's Decode.
-/
import Derived.Test.YtfjppbpicmniaaaGreatDoorG36
namespace Go.Proofs.YtfjppbpicmniaaaGreatDoor
open Go.RowKit

def obVn : ObV := ⟨.slice none 0 0, .slice none 0 0, .slice none 0 0, .slice none 0 0, .slice none 0 0, .slice none 0 0, .slice none 0 0⟩
theorem obR_n (F : Nat → Prop) (w : World) : ObR F w obVn noneO :=
  ⟨ItR.nil _ _, ⟨TxR.nil _ _, by rintro a n c h; simp only [obVn, Value.slice.injEq] at h; omega⟩, RwR.nil _ _ _ _, RwR.nil _ _ _ _, ⟨TxR.nil _ _, by rintro a n c h; simp only [obVn, Value.slice.injEq] at h; omega⟩, RwR.nil _ _ _ _, RwR.nil _ _ _ _⟩
/-- What Decode leaves. -/
def DecO (l : List Nat) (w : World) (e : Ending) (w' : World) : Prop :=
  Below w.heap.size w w' ∧ ∃ v : ObV, e = .returned (.tuple #[obv v (decO l).2.mod, .int .i64 ((decO l).1.1 : Int), .int .i64 ((decO l).1.2 : Int)]) ∧ ObR (Fr w w') w' v (decO l).2
theorem resO3 {P : Program} {fn : Func} {p u v : Tmp} {ty : TypeId} (h : fn.results = #[.cell p ty, .tmp u, .tmp v]) (tmps : Array Value) (w : World) (g : Nat) (t : TypeId) (cs : Array Value) (fr : Nat × Nat) (d : TypeDesc)
    (hp : tmps.getD p undef = .pointer (some ⟨g, 0, none⟩)) (hg : w.heap[g]? = some (.cells cs t fr))
    (hu : P.underlying ty = some d) (hd : (match d with | .struct _ | .array _ _ => true | _ => false) = true) (hi : (P.info? ty).map (·.size) = some cs.size) :
    (results fn tmps).run P w = .ok (.tuple #[.agg cs, tmps.getD u undef, tmps.getD v undef]) w := by
  have hp' : tmps[p]?.getD undef = .pointer (some ⟨g, 0, none⟩) := by simpa using hp
  simp [results, h, hp', asAddr, run_loadVar_row w g t ty cs fr d hg hu hd hi]
set_option maxHeartbeats 1000000 in
set_option maxRecDepth 1000000 in
theorem decode_longO (a : Option Addr) (n c : Nat) (w : World) (hn : 8192 < n) : Calls Tryz.prog 22 #[.slice a n c] w fun e w' => e = .returned (.tuple #[.agg #[.string ⟨#[]⟩, .slice none 0 0, .slice none 0 0, .slice none 0 0, .slice none 0 0, .slice none 0 0, .slice none 0 0, .slice none 0 0], .int .i64 3, .int .i64 0]) ∧ Below w.heap.size w w' := by
  have hni : (8192 : Int) < (n : Int) := by omega
  have hr := heap_alloc_new w (.cells #[.string ⟨#[]⟩, .slice none 0 0, .slice none 0 0, .slice none 0 0, .slice none 0 0, .slice none 0 0, .slice none 0 0, .slice none 0 0] 29)
  have hb : Below w.heap.size w (w.alloc (.cells #[.string ⟨#[]⟩, .slice none 0 0, .slice none 0 0, .slice none 0 0, .slice none 0 0, .slice none 0 0, .slice none 0 0, .slice none 0 0] 29)) := (Below.refl _ _).alloc (Nat.le_refl _) _
  go_enter Tryz.func22, Tryz.ntmps22
  go_wp2
  (try simp only [Exit.inBlock, Exit.then])
  refine bodyPost_ret (resO3 rfl _ _ w.heap.size 29 #[.string ⟨#[]⟩, .slice none 0 0, .slice none 0 0, .slice none 0 0, .slice none 0 0, .slice none 0 0, .slice none 0 0, .slice none 0 0] (0, 0) _ rfl hr Tryz.underlying29 rfl szObO) rfl ?_
  exact ⟨rfl, hb⟩
theorem decO_long {l : List Nat} (h : 8192 < l.length) : decO l = ((3, 0), noneO) := by unfold decO; rw [if_pos h]
theorem decO_bad {l : List Nat} (h : ¬ 8192 < l.length) {R : Ob × Nat × Nat} (hR : objR l 0 0 = R) (h1 : (Wire.rEnd l R.2.1 R.2.2).1 ≠ 0) : decO l = (Wire.rEnd l R.2.1 R.2.2, noneO) := by
  subst hR
  unfold decO
  rw [if_neg h, if_pos h1]
theorem decO_wrong {l : List Nat} (h : ¬ 8192 < l.length) {R : Ob × Nat × Nat} (hR : objR l 0 0 = R) (h1 : (Wire.rEnd l R.2.1 R.2.2).1 = 0) (h2 : (rightO R.1).1 ≠ 0) : decO l = (((rightO R.1).1, 0), noneO) := by
  subst hR
  unfold decO
  rw [if_neg h, if_neg (fun e => e h1), if_pos h2]
theorem decO_good {l : List Nat} (h : ¬ 8192 < l.length) {R : Ob × Nat × Nat} (hR : objR l 0 0 = R) (h1 : (Wire.rEnd l R.2.1 R.2.2).1 = 0) (h2 : (rightO R.1).1 = 0) : decO l = ((0, 0), R.1) := by
  subst hR
  unfold decO
  rw [if_neg h, if_neg (fun e => e h1), if_neg (fun e => e h2)]
set_option maxHeartbeats 4000000 in
set_option maxRecDepth 1000000 in
theorem decodeO (v : Value) (b0 : Nat) (l : List Nat) (w : World) (hl : l.length ≤ 140737488355328) (h256 : ∀ x ∈ l, x < 256) (hv : Wire.Rd w b0 v l) : Calls Tryz.prog 22 #[v] w (DecO l w) := by
  obtain ⟨va, vc, rfl⟩ := hv.shape
  by_cases hlen : 8192 < l.length
  · refine (decode_longO va l.length vc w hlen).mono ?_
    rintro e w' ⟨rfl, hb⟩
    unfold DecO
    rw [decO_long hlen]
    exact ⟨hb, obVn, rfl, obR_n _ _⟩
  have hni : ¬ (8192 : Int) < (l.length : Int) := by omega
  have hA1 := World.alloc_heap_new w (.cells #[.string ⟨#[]⟩, .slice none 0 0, .slice none 0 0, .slice none 0 0, .slice none 0 0, .slice none 0 0, .slice none 0 0, .slice none 0 0] 29)
  have kA := wk_alloc w (.cells #[.string ⟨#[]⟩, .slice none 0 0, .slice none 0 0, .slice none 0 0, .slice none 0 0, .slice none 0 0, .slice none 0 0, .slice none 0 0] 29)
  have hnr := Wire.newreader (.slice va l.length vc) b0 l _ hl (hv.kept kA (fun h => h))
  have HE : ∀ R, objR l 0 0 = R → (Wire.rEnd l R.2.1 R.2.2).1 ≠ 0 → decO l = (Wire.rEnd l R.2.1 R.2.2, noneO) := fun R hR h1 => decO_bad hlen hR h1
  have HW : ∀ R, objR l 0 0 = R → (Wire.rEnd l R.2.1 R.2.2).1 = 0 → (rightO R.1).1 ≠ 0 → decO l = (((rightO R.1).1, 0), noneO) := fun R hR h1 h2 => decO_wrong hlen hR h1 h2
  have HG : ∀ R, objR l 0 0 = R → (Wire.rEnd l R.2.1 R.2.2).1 = 0 → (rightO R.1).1 = 0 → decO l = ((0, 0), R.1) := fun R hR h1 h2 => decO_good hlen hR h1 h2
  have hok := obj_ok l 0 0
  have hro := fun u b g (hu : Wire.RIs u b g l 0 0) => robj b g l 0 0 u hl h256 (Nat.zero_le _) hu
  unfold RdE at hro
  generalize hX : objR l 0 0 = X at *
  obtain ⟨o, p1, y1⟩ := X
  have HE := hidden (HE _ rfl)
  have HW := hidden (HW _ rfl)
  have HG := hidden (HG _ rfl)
  simp only at hro hok HE HW HG
  unfold DecO
  generalize decO l = RES at *
  clear hX hlen hv
  go_enter Tryz.func22, Tryz.ntmps22
  go_wp2_with fail
  generalize w.alloc (.cells #[.string ⟨#[]⟩, .slice none 0 0, .slice none 0 0, .slice none 0 0, .slice none 0 0, .slice none 0 0, .slice none 0 0, .slice none 0 0] 29) = w1 at *
  refine hnr.mono ?_
  rintro e w2 ⟨b, g, rfl, hr2, hb2, hg2, K2⟩
  have hz1 : w.heap.size < w1.heap.size := (Array.getElem?_eq_some_iff.1 hA1).1
  have hA2 := (K2.block w.heap.size hz1 (fun h => h)).trans hA1
  have K2' := kA.trans K2 (U := fun _ => False) (fun _ _ h => h) (fun _ _ h => h)
  have hs2 := K2.size
  have hbl := hr2.lt
  have hgl := hr2.gt
  have kB := wk_alloc w2 (.cells #[.pointer (some ⟨b, 0, none⟩)] 116)
  have hB3 := World.alloc_heap_new w2 (.cells #[.pointer (some ⟨b, 0, none⟩)] 116)
  have hr3 := hr2.kept kB (fun h => h) (fun h => h)
  have hA3 := (kB.block w.heap.size (by omega) (fun h => h)).trans hA2
  have K3 := K2'.trans kB (U := fun _ => False) (fun _ _ h => h) (fun _ _ h => h)
  have q3 : (w2.alloc (.cells #[.pointer (some ⟨b, 0, none⟩)] 116)).cell? ⟨w2.heap.size, 0, none⟩ = some (.pointer (some ⟨b, 0, none⟩)) := by rw [cell_of_row _ _ 0 _ _ _ hB3]; rfl
  have ho := hro _ b g hr3
  unfold rdv at ho
  clear hnr hro hr2 K2 kA K2' kB hA1 hA2
  go_wp2_with fail
  generalize w2.alloc (.cells #[.pointer (some ⟨b, 0, none⟩)] 116) = w3 at *
  refine ho.mono ?_
  rintro e w4 ⟨cs, rfl, hC4, hr4, K4⟩
  obtain ⟨⟨v1, v2, v3, v4, v5, v6, v7⟩, rfl, hO4⟩ := hC4
  obtain ⟨m, ts, xs, gs, fs, es, ss, rs⟩ := o
  unfold ObV.cells
  obtain ⟨a1, c1, e1⟩ := hO4.types.shape
  obtain ⟨a2, c2, e2⟩ := hO4.texts.1.shape
  obtain ⟨a3, c3, e3⟩ := hO4.globals.shape
  obtain ⟨a4, c4, e4⟩ := hO4.funs.shape
  obtain ⟨a5, c5, e5⟩ := hO4.exports.1.shape
  obtain ⟨a6, c6, e6⟩ := hO4.symbols.shape
  obtain ⟨a7, c7, e7⟩ := hO4.relocs.shape
  simp only at e1 e2 e3 e4 e5 e6 e7
  subst e1 e2 e3 e4 e5 e6 e7
  have hz3 : w2.heap.size < w3.heap.size := (Array.getElem?_eq_some_iff.1 hB3).1
  have hA4 := (K4.block w.heap.size (by omega) (by omega)).trans hA3
  have hB4 := (K4.block w2.heap.size hz3 (by omega)).trans hB3
  have hs4 := K4.size
  have K4' : Wire.Kept (fun x => w.heap.size < x) w w4 := K3.trans K4 (U := fun x => w.heap.size < x) (fun _ _ h => h.elim) (fun x hx h => by omega)
  have kC := wk_alloc w4 (.cells #[.string (str m), .slice a1 ts.length c1, .slice a2 xs.length c2, .slice a3 gs.length c3, .slice a4 fs.length c4, .slice a5 es.length c5, .slice a6 ss.length c6, .slice a7 rs.length c7] 29)
  have hC5 := World.alloc_heap_new w4 (.cells #[.string (str m), .slice a1 ts.length c1, .slice a2 xs.length c2, .slice a3 gs.length c3, .slice a4 fs.length c4, .slice a5 es.length c5, .slice a6 ss.length c6, .slice a7 rs.length c7] 29)
  have hr5 := hr4.kept kC (fun h => h) (fun h => h)
  have hA5 := (kC.block w.heap.size (by omega) (fun h => h)).trans hA4
  have hB5 := (kC.block w2.heap.size (by omega) (fun h => h)).trans hB4
  have K5 := K4'.trans kC (U := fun x => w.heap.size < x) (fun _ _ h => h) (fun _ _ h => h.elim)
  have hO5 : ObR (fun z => w2.heap.size < z ∧ z < (w4.alloc (.cells #[.string (str m), .slice a1 ts.length c1, .slice a2 xs.length c2, .slice a3 gs.length c3, .slice a4 fs.length c4, .slice a5 es.length c5, .slice a6 ss.length c6, .slice a7 rs.length c7] 29)).heap.size) (w4.alloc (.cells #[.string (str m), .slice a1 ts.length c1, .slice a2 xs.length c2, .slice a3 gs.length c3, .slice a4 fs.length c4, .slice a5 es.length c5, .slice a6 ss.length c6, .slice a7 rs.length c7] 29)) ⟨.slice a1 ts.length c1, .slice a2 xs.length c2, .slice a3 gs.length c3, .slice a4 fs.length c4, .slice a5 es.length c5, .slice a6 ss.length c6, .slice a7 rs.length c7⟩ ⟨m, ts, xs, gs, fs, es, ss, rs⟩ := hO4.frame fun z hz => ⟨⟨by have := hz.1; omega, by have := hz.2; simp; omega⟩, kC.block z hz.2 (fun h => h)⟩
  have q5 : (w4.alloc (.cells #[.string (str m), .slice a1 ts.length c1, .slice a2 xs.length c2, .slice a3 gs.length c3, .slice a4 fs.length c4, .slice a5 es.length c5, .slice a6 ss.length c6, .slice a7 rs.length c7] 29)).cell? ⟨w2.heap.size, 0, none⟩ = some (.pointer (some ⟨b, 0, none⟩)) := by rw [cell_of_row _ _ 0 _ _ _ hB5]; rfl
  have hend := Wire.rend b g l p1 y1 _ hl hr5
  clear ho hr3 hr4 K3 K4 K4' hA3 hA4 hB3 hB4 q3 hO4 kC
  go_wp2_with fail
  generalize w4.alloc (.cells #[.string (str m), .slice a1 ts.length c1, .slice a2 xs.length c2, .slice a3 gs.length c3, .slice a4 fs.length c4, .slice a5 es.length c5, .slice a6 ss.length c6, .slice a7 rs.length c7] 29) = w5 at *
  refine hend.mono ?_
  rintro e w6 ⟨rfl, K6⟩
  have hz5 : w4.heap.size < w5.heap.size := (Array.getElem?_eq_some_iff.1 hC5).1
  have hA := (K6.block w.heap.size (by omega) (fun h => h)).trans hA5
  have hC6 := (K6.block w4.heap.size hz5 (fun h => h)).trans hC5
  have hs6 := K6.size
  have K6' := K5.trans K6 (U := fun x => w.heap.size < x) (fun _ _ h => h) (fun _ _ h => h.elim)
  have hO6 : ObR (fun z => w2.heap.size < z ∧ z < w6.heap.size) w6 ⟨.slice a1 ts.length c1, .slice a2 xs.length c2, .slice a3 gs.length c3, .slice a4 fs.length c4, .slice a5 es.length c5, .slice a6 ss.length c6, .slice a7 rs.length c7⟩ ⟨m, ts, xs, gs, fs, es, ss, rs⟩ := hO5.frame fun z hz => ⟨⟨hz.1, Nat.lt_of_lt_of_le hz.2 hs6⟩, K6.block z hz.2 (fun h => h)⟩
  clear hend K6 K5 hA5 hB5 hC5 hO5 hr5 q5
  generalize Wire.rEnd l p1 y1 = EN at *
  obtain ⟨yn, yp⟩ := EN
  simp only at HE HW HG ⊢
  by_cases hy : yn = 0
  · have HW := hidden (HW.out hy)
    have HG := hidden (HG.out hy)
    clear HE
    subst hy
    have d0 : w6.cell? ⟨w4.heap.size, 0, none⟩ = some (.string (str m)) := by rw [cell_of_row _ _ 0 _ _ _ hC6]; rfl
    have d1 : w6.cell? ⟨w4.heap.size, 1, none⟩ = some (.slice a1 ts.length c1) := by rw [cell_of_row _ _ 1 _ _ _ hC6]; rfl
    have d2 : w6.cell? ⟨w4.heap.size, 2, none⟩ = some (.slice a2 xs.length c2) := by rw [cell_of_row _ _ 2 _ _ _ hC6]; rfl
    have d3 : w6.cell? ⟨w4.heap.size, 3, none⟩ = some (.slice a3 gs.length c3) := by rw [cell_of_row _ _ 3 _ _ _ hC6]; rfl
    have d4 : w6.cell? ⟨w4.heap.size, 4, none⟩ = some (.slice a4 fs.length c4) := by rw [cell_of_row _ _ 4 _ _ _ hC6]; rfl
    have d5 : w6.cell? ⟨w4.heap.size, 5, none⟩ = some (.slice a5 es.length c5) := by rw [cell_of_row _ _ 5 _ _ _ hC6]; rfl
    have d6 : w6.cell? ⟨w4.heap.size, 6, none⟩ = some (.slice a6 ss.length c6) := by rw [cell_of_row _ _ 6 _ _ _ hC6]; rfl
    have d7 : w6.cell? ⟨w4.heap.size, 7, none⟩ = some (.slice a7 rs.length c7) := by rw [cell_of_row _ _ 7 _ _ _ hC6]; rfl
    have hri := right14 (fun z => w2.heap.size < z ∧ z < w6.heap.size) ⟨.slice a1 ts.length c1, .slice a2 xs.length c2, .slice a3 gs.length c3, .slice a4 fs.length c4, .slice a5 es.length c5, .slice a6 ss.length c6, .slice a7 rs.length c7⟩ ⟨m, ts, xs, gs, fs, es, ss, rs⟩ w6 hO6 (fun z hz => hz.2) hok
    unfold TwoB obv at hri
    simp only at hri
    generalize rightO ⟨m, ts, xs, gs, fs, es, ss, rs⟩ = RO at *
    obtain ⟨rn, rk⟩ := RO
    simp only at hri HW HG
    go_wp2_with fail
    refine hri.mono ?_
    rintro e w7 ⟨rfl, hb7⟩
    have K7 := wk_below hb7
    have hs7 := hb7.size
    have hA := (K7.block w.heap.size (by omega) (fun h => h)).trans hA
    have hC7 := (K7.block w4.heap.size (by omega) (fun h => h)).trans hC6
    have K7' := K6'.trans K7 (U := fun x => w.heap.size < x) (fun _ _ h => h) (fun _ _ h => h.elim)
    have hO7 : ObR (fun z => w2.heap.size < z ∧ z < w7.heap.size) w7 ⟨.slice a1 ts.length c1, .slice a2 xs.length c2, .slice a3 gs.length c3, .slice a4 fs.length c4, .slice a5 es.length c5, .slice a6 ss.length c6, .slice a7 rs.length c7⟩ ⟨m, ts, xs, gs, fs, es, ss, rs⟩ := hO6.frame fun z hz => ⟨⟨hz.1, Nat.lt_of_lt_of_le hz.2 hs7⟩, K7.block z hz.2 (fun h => h)⟩
    clear hri hb7 K7 K6' hO6 d0 d1 d2 d3 d4 d5 d6 d7 hC6
    by_cases hr : rn = 0
    · have hR : Hid (RES = ((0, 0), ⟨m, ts, xs, gs, fs, es, ss, rs⟩)) := by rw [hid_iff]; exact HG.out trivial hr
      clear HW HG
      subst hr
      have d0 : w7.cell? ⟨w4.heap.size, 0, none⟩ = some (.string (str m)) := by rw [cell_of_row _ _ 0 _ _ _ hC7]; rfl
      have d1 : w7.cell? ⟨w4.heap.size, 1, none⟩ = some (.slice a1 ts.length c1) := by rw [cell_of_row _ _ 1 _ _ _ hC7]; rfl
      have d2 : w7.cell? ⟨w4.heap.size, 2, none⟩ = some (.slice a2 xs.length c2) := by rw [cell_of_row _ _ 2 _ _ _ hC7]; rfl
      have d3 : w7.cell? ⟨w4.heap.size, 3, none⟩ = some (.slice a3 gs.length c3) := by rw [cell_of_row _ _ 3 _ _ _ hC7]; rfl
      have d4 : w7.cell? ⟨w4.heap.size, 4, none⟩ = some (.slice a4 fs.length c4) := by rw [cell_of_row _ _ 4 _ _ _ hC7]; rfl
      have d5 : w7.cell? ⟨w4.heap.size, 5, none⟩ = some (.slice a5 es.length c5) := by rw [cell_of_row _ _ 5 _ _ _ hC7]; rfl
      have d6 : w7.cell? ⟨w4.heap.size, 6, none⟩ = some (.slice a6 ss.length c6) := by rw [cell_of_row _ _ 6 _ _ _ hC7]; rfl
      have d7 : w7.cell? ⟨w4.heap.size, 7, none⟩ = some (.slice a7 rs.length c7) := by rw [cell_of_row _ _ 7 _ _ _ hC7]; rfl
      have KR := wk_setRow w7 w.heap.size #[.string (str m), .slice a1 ts.length c1, .slice a2 xs.length c2, .slice a3 gs.length c3, .slice a4 fs.length c4, .slice a5 es.length c5, .slice a6 ss.length c6, .slice a7 rs.length c7]
      have hb : Below w.heap.size w (w7.setRow w.heap.size #[.string (str m), .slice a1 ts.length c1, .slice a2 xs.length c2, .slice a3 gs.length c3, .slice a4 fs.length c4, .slice a5 es.length c5, .slice a6 ss.length c6, .slice a7 rs.length c7]) := (K7'.below (B := w.heap.size) (by omega) (fun x hx h => by omega)).trans (KR.below (B := w.heap.size) (by omega) (fun x hx h => by omega))
      have hO : ObR (Fr w (w7.setRow w.heap.size #[.string (str m), .slice a1 ts.length c1, .slice a2 xs.length c2, .slice a3 gs.length c3, .slice a4 fs.length c4, .slice a5 es.length c5, .slice a6 ss.length c6, .slice a7 rs.length c7])) (w7.setRow w.heap.size #[.string (str m), .slice a1 ts.length c1, .slice a2 xs.length c2, .slice a3 gs.length c3, .slice a4 fs.length c4, .slice a5 es.length c5, .slice a6 ss.length c6, .slice a7 rs.length c7]) ⟨.slice a1 ts.length c1, .slice a2 xs.length c2, .slice a3 gs.length c3, .slice a4 fs.length c4, .slice a5 es.length c5, .slice a6 ss.length c6, .slice a7 rs.length c7⟩ ⟨m, ts, xs, gs, fs, es, ss, rs⟩ := hO7.frame fun z hz => ⟨⟨by have := hz.1; omega, by have := hz.2; have := KR.size; omega⟩, KR.block z hz.2 (by have := hz.1; omega)⟩
      clear KR K7' hO7
      go_wp2_with (refine wpList_store_row rfl 29 (.tmp 2) (.tmp 40) rfl w.heap.size #[.string (str m), .slice a1 ts.length c1, .slice a2 xs.length c2, .slice a3 gs.length c3, .slice a4 fs.length c4, .slice a5 es.length c5, .slice a6 ss.length c6, .slice a7 rs.length c7] rfl rfl 29 #[.string ⟨#[]⟩, .slice none 0 0, .slice none 0 0, .slice none 0 0, .slice none 0 0, .slice none 0 0, .slice none 0 0, .slice none 0 0] hA szObO rfl (by kernel_rfl) ?_)
      (try simp only [Exit.inBlock, Exit.then])
      refine bodyPost_ret (resO3 rfl _ _ w.heap.size 29 #[.string (str m), .slice a1 ts.length c1, .slice a2 xs.length c2, .slice a3 gs.length c3, .slice a4 fs.length c4, .slice a5 es.length c5, .slice a6 ss.length c6, .slice a7 rs.length c7] (0, 0) _ rfl (setRow_heap _ w.heap.size _ _ 29 (0, 0) hA) Tryz.underlying29 rfl szObO) rfl ?_
      refine ⟨hb, ⟨.slice a1 ts.length c1, .slice a2 xs.length c2, .slice a3 gs.length c3, .slice a4 fs.length c4, .slice a5 es.length c5, .slice a6 ss.length c6, .slice a7 rs.length c7⟩, ?_, ?_⟩
      · rw [hR.out]
        rfl
      · rw [hR.out]
        exact hO
    · have hR : Hid (RES = ((rn, 0), noneO)) := by rw [hid_iff]; exact HW.out trivial hr
      clear HW HG
      have hrn : ((rn : Int) != 0) = true := by rw [bne_iff_ne]; omega
      have KR := wk_setRow w7 w.heap.size #[.string ⟨#[]⟩, .slice none 0 0, .slice none 0 0, .slice none 0 0, .slice none 0 0, .slice none 0 0, .slice none 0 0, .slice none 0 0]
      have hb : Below w.heap.size w (w7.setRow w.heap.size #[.string ⟨#[]⟩, .slice none 0 0, .slice none 0 0, .slice none 0 0, .slice none 0 0, .slice none 0 0, .slice none 0 0, .slice none 0 0]) := (K7'.below (B := w.heap.size) (by omega) (fun x hx h => by omega)).trans (KR.below (B := w.heap.size) (by omega) (fun x hx h => by omega))
      clear KR K7' hO7 hr
      go_wp2_with (refine wpList_store_row rfl 29 (.tmp 2) (.tmp 38) rfl w.heap.size #[.string ⟨#[]⟩, .slice none 0 0, .slice none 0 0, .slice none 0 0, .slice none 0 0, .slice none 0 0, .slice none 0 0, .slice none 0 0] rfl rfl 29 #[.string ⟨#[]⟩, .slice none 0 0, .slice none 0 0, .slice none 0 0, .slice none 0 0, .slice none 0 0, .slice none 0 0, .slice none 0 0] hA szObO rfl (by kernel_rfl) ?_)
      (try simp only [Exit.inBlock, Exit.then])
      refine bodyPost_ret (resO3 rfl _ _ w.heap.size 29 #[.string ⟨#[]⟩, .slice none 0 0, .slice none 0 0, .slice none 0 0, .slice none 0 0, .slice none 0 0, .slice none 0 0, .slice none 0 0] (0, 0) _ rfl (setRow_heap _ w.heap.size _ _ 29 (0, 0) hA) Tryz.underlying29 rfl szObO) rfl ?_
      refine ⟨hb, obVn, ?_, ?_⟩
      · rw [hR.out]
        rfl
      · rw [hR.out]
        exact obR_n _ _
  · have hR : Hid (RES = ((yn, yp), noneO)) := by rw [hid_iff]; exact HE.out hy
    clear HE HW HG
    have hyn : ((yn : Int) != 0) = true := by rw [bne_iff_ne]; omega
    have KR := wk_setRow w6 w.heap.size #[.string ⟨#[]⟩, .slice none 0 0, .slice none 0 0, .slice none 0 0, .slice none 0 0, .slice none 0 0, .slice none 0 0, .slice none 0 0]
    have hb : Below w.heap.size w (w6.setRow w.heap.size #[.string ⟨#[]⟩, .slice none 0 0, .slice none 0 0, .slice none 0 0, .slice none 0 0, .slice none 0 0, .slice none 0 0, .slice none 0 0]) := (K6'.below (B := w.heap.size) (by omega) (fun x hx h => by omega)).trans (KR.below (B := w.heap.size) (by omega) (fun x hx h => by omega))
    clear KR K6' hO6 hy
    go_wp2_with (refine wpList_store_row rfl 29 (.tmp 2) (.tmp 28) rfl w.heap.size #[.string ⟨#[]⟩, .slice none 0 0, .slice none 0 0, .slice none 0 0, .slice none 0 0, .slice none 0 0, .slice none 0 0, .slice none 0 0] rfl rfl 29 #[.string ⟨#[]⟩, .slice none 0 0, .slice none 0 0, .slice none 0 0, .slice none 0 0, .slice none 0 0, .slice none 0 0, .slice none 0 0] hA szObO rfl (by kernel_rfl) ?_)
    (try simp only [Exit.inBlock, Exit.then])
    refine bodyPost_ret (resO3 rfl _ _ w.heap.size 29 #[.string ⟨#[]⟩, .slice none 0 0, .slice none 0 0, .slice none 0 0, .slice none 0 0, .slice none 0 0, .slice none 0 0, .slice none 0 0] (0, 0) _ rfl (setRow_heap _ w.heap.size _ _ 29 (0, 0) hA) Tryz.underlying29 rfl szObO) rfl ?_
    refine ⟨hb, obVn, ?_, ?_⟩
    · rw [hR.out]
      rfl
    · rw [hR.out]
      exact obR_n _ _
end Go.Proofs.YtfjppbpicmniaaaGreatDoor
