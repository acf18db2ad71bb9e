/-
  The books' own comparing, at what is the same: texts, cases, items, interfaces.
  And: Bytes that came in, as a reader takes them. The law on what is written and read: its walk. The statement on what is written and read: for every interface, all bytes and names: what is written is read as it was, what is read is written as its bytes, and an interface does not break itself. No condition.
-/
import Derived.Deep.RegionHeld3
import Derived.Deep.QuietTactic
import Derived.BigQuiet
import Derived.Deep.LoopGhost
import Derived.Test.YtfddnaeldpafmaaGreatIfaceMem
import Derived.Test.YtfddnaeldpafmaaGreatIfaceCopy
import Derived.ProofKit
import Derived.OpenShut
import Derived.SizedLaws
import Derived.ChangeShapes
import Derived.WideShapes
import Derived.Deep.Slices
import Derived.Test.YtfddnaeldpafmaaGreatIfaceRows
import Derived.Test.YtfddnaeldpafmaaGreatWireBase
import Derived.Deep.CutBlock
import Derived.Deep.CutRange
import Derived.Deep.DeepCutAuto
import Derived.Test.YtfddnaeldpafmaaGreatDecA
import Derived.Test.YtfddnaeldpafmaaGreatIfaceEncode
import Derived.Test.YtfddnaeldpafmaaGreatIfaceKnown
import Derived.Test.YtfddnaeldpafmaaGreatIfaceBreaks
import Derived.Test.YtfddnaeldpafmaaGreatRows
namespace Go.Proofs.YtfddnaeldpafmaaGreat
open Go.RowKit

theorem drewK (w : World) (a b : Nat) : (w.drewN a).drewN b = w.drewN (a + b) := by simp [World.drewN, Nat.add_assoc]
theorem belowK (w : World) {H : Nat} (n : Nat) : Below H w (w.drewN n) := ⟨rfl, rfl, rfl, Nat.le_refl _, fun _ _ => rfl⟩
set_option maxHeartbeats 1000000 in
set_option maxRecDepth 1000000 in
theorem keepTexts (F G : Nat → Prop) (v1 v2 : Value) (xs : List (List UInt8)) (w : World) (h1 : TxR F w v1 xs) (h2 : TxR G w v2 xs) (hl : xs.length ≤ 8796093022208) :
    Calls Tryz.prog 76 #[v1, v2] w fun e w' => e = .returned (.bool true) ∧ ∃ n, w' = w.drewN n := by
  obtain ⟨a1, c1, rfl⟩ := h1.shape
  obtain ⟨a2, c2, rfl⟩ := h2.shape
  go_enter Tryz.func76, Tryz.ntmps76
  go_wp2
  go_loopg [5] xs.length (fun g i wr => ∃ (k nn : Nat), g + k = xs.length ∧ i = .int .i64 (k : Int) ∧ wr = w.drewN nn)
  case atStart => exact ⟨0, 0, by omega, rfl, rfl⟩
  case round =>
    obtain ⟨k, nn, hg, rfl, rfl⟩ := hrel
    by_cases hk : k < xs.length
    · obtain ⟨g1, o1, d1, e1, _, q1⟩ := h1.at k hk
      simp only [Value.slice.injEq, true_and] at e1
      obtain ⟨rfl, rfl⟩ := e1
      obtain ⟨g2, o2, d2, e2, _, q2⟩ := h2.at k hk
      simp only [Value.slice.injEq, true_and] at e2
      obtain ⟨rfl, rfl⟩ := e2
      have hki : (k : Int) < (xs.length : Int) := by omega
      clear h1 h2
      generalize xs[k] = x at *
      have hne : ((str x).toList != (str x).toList) = false := by simp
      go_wp2_with fail
      go_quiet (fail)
      go_wp2
      go_roundg (xs.length - (k + 1))
      case measure => omega
      case rel => exact ⟨k + 1, _, by omega, by go_num, by first | rfl | exact drewK _ _ _⟩
    · have hki : ¬ (k : Int) < (xs.length : Int) := by omega
      go_wp2
      go_ret
      exact ⟨rfl, nn, rfl⟩
theorem quietK {P : Program} {f : FuncId} {args : Array Value} {w : World} {n x : Nat} {v : Value} (h : Calls P f args (w.drewN (n + x)) fun e w' => e = .returned v ∧ ∃ m, w' = (w.drewN (n + x)).drewN m) : Calls P f args (w.drewN (n + x)) fun e w'' => e = .returned v ∧ ∃ m, w'' = w.drewN m := Calls.quiet_of h
set_option maxHeartbeats 2000000 in
set_option maxRecDepth 1000000 in
theorem keepCases (F G : Nat → Prop) (v1 v2 : Value) (cs : List Cs) (w : World) (h1 : CsR F w v1 cs) (h2 : CsR G w v2 cs) (hl : cs.length ≤ 3518437208883) (hok : ∀ c ∈ cs, CsOk c) :
    Calls Tryz.prog 44 #[v1, v2] w fun e w' => e = .returned (.bool true) ∧ ∃ n, w' = w.drewN n := by
  obtain ⟨a1, c1, rfl⟩ := h1.shape
  obtain ⟨a2, c2, rfl⟩ := h2.shape
  go_enter Tryz.func44, Tryz.ntmps44
  go_wp2
  go_loopg [5] cs.length (fun g i wr => ∃ (k nn : Nat), g + k = cs.length ∧ i = .int .i64 (k : Int) ∧ wr = w.drewN nn)
  case atStart => exact ⟨0, 0, by omega, rfl, rfl⟩
  case round =>
    obtain ⟨k, nn, hg, rfl, hw⟩ := hrel
    have HW := hidden hw
    have h1 : CsR F wr (.slice a1 cs.length c1) cs := by rw [hw]; exact h1
    have h2 : CsR G wr (.slice a2 cs.length c2) cs := by rw [hw]; exact h2
    clear hw
    by_cases hk : k < cs.length
    · obtain ⟨g1, o1, d1, f1, e1, _, _, t1, q1, r1⟩ := h1.at k hk
      simp only [Value.slice.injEq, true_and] at e1
      obtain ⟨rfl, rfl⟩ := e1
      obtain ⟨g2, o2, d2, f2, e2, _, _, t2, q2, r2⟩ := h2.at k hk
      simp only [Value.slice.injEq, true_and] at e2
      obtain ⟨rfl, rfl⟩ := e2
      have hki : (k : Int) < (cs.length : Int) := by omega
      have hc := hok _ (List.getElem_mem hk)
      clear h1 h2 hok
      generalize cs[k] = c at *
      obtain ⟨n, fs⟩ := c
      simp only at t1 t2 q1 q2 r1 r2
      have hT : ∀ n : Nat, Calls Tryz.prog 76 #[f1, f2] (wr.drewN n) fun e w' => e = .returned (.bool true) ∧ ∃ m, w' = (wr.drewN n).drewN m := fun n => keepTexts F G f1 f2 fs (wr.drewN n) t1 t2 hc.2.1
      obtain ⟨fa1, fc1, rfl⟩ := t1.shape
      obtain ⟨fa2, fc2, rfl⟩ := t2.shape
      have hne : ((str n).toList != (str n).toList) = false := by simp
      clear t1 t2 hc
      go_wp2_with fail
      go_quiet ((go_at_call 76; first | exact quietK (hT _) | exact Calls.quiet_of (hT _)))
      go_wp2
      go_roundg (cs.length - (k + 1))
      case measure => omega
      case rel => exact ⟨k + 1, nn + _, by omega, by go_num, by rw [HW.out]; exact drewK _ _ _⟩
    · have hki : ¬ (k : Int) < (cs.length : Int) := by omega
      go_wp2
      go_ret
      exact ⟨rfl, nn, HW.out⟩
set_option maxHeartbeats 1000000 in
set_option maxRecDepth 1000000 in
theorem keepItem (F G : Nat → Prop) (x : It) (v1 v2 : Value) (w : World) (h1 : CsR F w v1 x.cases) (h2 : CsR G w v2 x.cases) (hF : ∀ g, F g → g < w.heap.size) (hG : ∀ g, G g → g < w.heap.size) (hok : ItOk x) :
    Calls Tryz.prog 12 #[itv x v1, itv x v2] w fun e w' => e = .returned (.bool true) ∧ Below w.heap.size w w' := by
  obtain ⟨a1, c1, rfl⟩ := h1.shape
  obtain ⟨a2, c2, rfl⟩ := h2.shape
  obtain ⟨kd, nm, ty, cs⟩ := x
  unfold itv
  simp only at *
  have hb : Below w.heap.size w ((w.alloc (.cells #[.int .i64 kd, .string (str nm), .string (str ty), .slice a1 cs.length c1] 34)).alloc (.cells #[.int .i64 kd, .string (str nm), .string (str ty), .slice a2 cs.length c2] 34)) := ((Below.refl _ _).alloc (Nat.le_refl _) _).alloc (by simp) _
  have hC := keepCases F G _ _ cs _ (h1.below hb hF) (h2.below hb hG) hok.2.2.2.2.1 hok.2.2.2.2.2
  have hn1 : ((str nm).toList == (str nm).toList) = true := by simp
  have hn2 : ((str ty).toList == (str ty).toList) = true := by simp
  clear h1 h2
  go_enter Tryz.func12, Tryz.ntmps12
  go_wp2_with fail
  refine hC.mono ?_
  rintro e w1 ⟨rfl, n, rfl⟩
  go_wp2
  go_ret
  exact ⟨rfl, hb.trans (belowK _ _)⟩
set_option maxHeartbeats 4000000 in
set_option maxRecDepth 1000000 in
theorem keepItems (F G : Nat → Prop) (v1 v2 : Value) (l : List It) (w : World) (h1 : ItR F w v1 l) (h2 : ItR G w v2 l) (hF : ∀ g, F g → g < w.heap.size) (hG : ∀ g, G g → g < w.heap.size) (hl : l.length ≤ 2199023255552) (hok : ∀ x ∈ l, ItOk x) :
    Calls Tryz.prog 61 #[v1, v2] w fun e w' => e = .returned (.bool true) ∧ Below w.heap.size w w' := by
  obtain ⟨a1, c1, rfl⟩ := h1.shape
  obtain ⟨a2, c2, rfl⟩ := h2.shape
  have hh1 := hidden h1
  have hh2 := hidden h2
  clear h1 h2
  go_enter Tryz.func61, Tryz.ntmps61
  go_wp2
  go_loopg [5] l.length (fun g i wr => ∃ (k : Nat), g + k = l.length ∧ i = .int .i64 (k : Int) ∧ Below w.heap.size w wr)
  case atStart => exact ⟨0, by omega, rfl, Below.refl _ _⟩
  case round =>
    obtain ⟨k, hg, rfl, hbr⟩ := hrel
    have hsr := hbr.size
    by_cases hk : k < l.length
    · have i1 := hh1.out.below hbr hF
      have i2 := hh2.out.below hbr hG
      obtain ⟨g1, o1, d1, cv1, e1, f1, t1, q10, q11, q12, q13⟩ := i1.at k hk
      simp only [Value.slice.injEq, true_and] at e1
      obtain ⟨rfl, rfl⟩ := e1
      obtain ⟨g2, o2, d2, cv2, e2, f2, t2, q20, q21, q22, q23⟩ := i2.at k hk
      simp only [Value.slice.injEq, true_and] at e2
      obtain ⟨rfl, rfl⟩ := e2
      have hki : (k : Int) < (l.length : Int) := by omega
      have hx := hok _ (List.getElem_mem hk)
      have hg1 : g1 < wr.heap.size := Nat.lt_of_lt_of_le (hF g1 f1) hsr
      have hg2 : g2 < wr.heap.size := Nat.lt_of_lt_of_le (hG g2 f2) hsr
      clear hh1 hh2 i1 i2 hok
      generalize l[k] = x at *
      have hIt : ∀ u, Below wr.heap.size wr u → Calls Tryz.prog 12 #[itv x cv1, itv x cv2] u fun e w' => e = .returned (.bool true) ∧ Below u.heap.size u w' := fun u hu =>
        keepItem F G x cv1 cv2 u (t1.below hu (fun g hg => Nat.lt_of_lt_of_le (hF g hg) hsr)) (t2.below hu (fun g hg => Nat.lt_of_lt_of_le (hG g hg) hsr)) (fun g hg => Nat.lt_of_lt_of_le (hF g hg) (Nat.le_trans hsr hu.size)) (fun g hg => Nat.lt_of_lt_of_le (hG g hg) (Nat.le_trans hsr hu.size)) hx
      obtain ⟨ca1, cc1, rfl⟩ := t1.shape
      obtain ⟨ca2, cc2, rfl⟩ := t2.shape
      obtain ⟨kd, nm, ty, cs⟩ := x
      unfold itv at hIt
      simp only at *
      have hS : ∀ u, Below wr.heap.size wr u → u.cell? ⟨g1, o1 + k * 4, none⟩ = some (.int .i64 kd) ∧ u.cell? ⟨g1, o1 + k * 4 + 1, none⟩ = some (.string (str nm)) ∧ u.cell? ⟨g1, o1 + k * 4 + 2, none⟩ = some (.string (str ty)) ∧ u.cell? ⟨g1, o1 + k * 4 + 3, none⟩ = some (.slice ca1 cs.length cc1) ∧ u.cell? ⟨g2, o2 + k * 4, none⟩ = some (.int .i64 kd) ∧ u.cell? ⟨g2, o2 + k * 4 + 1, none⟩ = some (.string (str nm)) ∧ u.cell? ⟨g2, o2 + k * 4 + 2, none⟩ = some (.string (str ty)) ∧ u.cell? ⟨g2, o2 + k * 4 + 3, none⟩ = some (.slice ca2 cs.length cc2) := fun u hu => by
        have b1 := hu.block g1 hg1
        have b2 := hu.block g2 hg2
        exact ⟨(World.cell?_of_block (a := ⟨g1, o1 + k * 4, none⟩) b1).trans q10, (World.cell?_of_block (a := ⟨g1, o1 + k * 4 + 1, none⟩) b1).trans q11, (World.cell?_of_block (a := ⟨g1, o1 + k * 4 + 2, none⟩) b1).trans q12, (World.cell?_of_block (a := ⟨g1, o1 + k * 4 + 3, none⟩) b1).trans q13, (World.cell?_of_block (a := ⟨g2, o2 + k * 4, none⟩) b2).trans q20, (World.cell?_of_block (a := ⟨g2, o2 + k * 4 + 1, none⟩) b2).trans q21, (World.cell?_of_block (a := ⟨g2, o2 + k * 4 + 2, none⟩) b2).trans q22, (World.cell?_of_block (a := ⟨g2, o2 + k * 4 + 3, none⟩) b2).trans q23⟩
      have G0 : Below wr.heap.size wr wr.drew := (Below.refl _ _).drew
      clear t1 t2 hx f1 f2
      go_wp2_with fail
      go_region_held3 (fun u => u.cell? ⟨g1, o1 + k * 4, none⟩ = some (.int .i64 kd) ∧ u.cell? ⟨g1, o1 + k * 4 + 1, none⟩ = some (.string (str nm)) ∧ u.cell? ⟨g1, o1 + k * 4 + 2, none⟩ = some (.string (str ty)) ∧ u.cell? ⟨g1, o1 + k * 4 + 3, none⟩ = some (.slice ca1 cs.length cc1) ∧ u.cell? ⟨g2, o2 + k * 4, none⟩ = some (.int .i64 kd) ∧ u.cell? ⟨g2, o2 + k * 4 + 1, none⟩ = some (.string (str nm)) ∧ u.cell? ⟨g2, o2 + k * 4 + 2, none⟩ = some (.string (str ty)) ∧ u.cell? ⟨g2, o2 + k * 4 + 3, none⟩ = some (.slice ca2 cs.length cc2)) (first | go_keep | exact hS _ (by assumption)) (first | (go_at_call 12; refine (hIt _ (by assumption)).mono ?_; rintro e w9 ⟨rfl, hb9⟩; have G9 := G0.trans (hb9.mono (by first | exact Nat.le_refl _ | exact G0.size))))
      all_goals (
        have hb10 : Below w.heap.size w w9 := hbr.trans (G9.mono hsr)
        clear hS hIt
        go_wp2
        go_roundg (l.length - (k + 1))
        case measure => omega
        case rel => exact ⟨k + 1, by omega, by go_num, by first | exact hb10 | exact hb10.drew⟩)
    · have hki : ¬ (k : Int) < (l.length : Int) := by omega
      go_wp2
      go_ret
      exact ⟨rfl, hbr⟩
set_option maxHeartbeats 1000000 in
set_option maxRecDepth 1000000 in
theorem keepIface (F G : Nat → Prop) (m : List UInt8) (v1 v2 : Value) (l : List It) (w : World) (h1 : ItR F w v1 l) (h2 : ItR G w v2 l) (hF : ∀ g, F g → g < w.heap.size) (hG : ∀ g, G g → g < w.heap.size) (hl : l.length ≤ 2199023255552) (hok : ∀ x ∈ l, ItOk x) :
    Calls Tryz.prog 23 #[.agg #[.string (str m), v1], .agg #[.string (str m), v2]] w fun e w' => e = .returned (.bool true) ∧ Below w.heap.size w w' := by
  obtain ⟨a1, c1, rfl⟩ := h1.shape
  obtain ⟨a2, c2, rfl⟩ := h2.shape
  have hb : Below w.heap.size w ((w.alloc (.cells #[.string (str m), .slice a1 l.length c1] 24)).alloc (.cells #[.string (str m), .slice a2 l.length c2] 24)) := ((Below.refl _ _).alloc (Nat.le_refl _) _).alloc (by simp) _
  have hs := hb.size
  have hI := keepItems F G _ _ l _ (h1.below hb hF) (h2.below hb hG) (fun g hg => Nat.lt_of_lt_of_le (hF g hg) hs) (fun g hg => Nat.lt_of_lt_of_le (hG g hg) hs) hl hok
  have hn1 : ((str m).toList == (str m).toList) = true := by simp
  clear h1 h2
  go_enter Tryz.func23, Tryz.ntmps23
  go_wp2_with fail
  refine hI.mono ?_
  rintro e w1 ⟨rfl, hb1⟩
  have hbw := hb.trans (hb1.mono hs)
  go_wp2
  go_ret
  exact ⟨rfl, hbw⟩
end Go.Proofs.YtfddnaeldpafmaaGreat

namespace Go.Proofs.YtfddnaeldpafmaaGreat
open Go.ChangeShapes Go.WideShapes Go.ChangeAt Go.RowKit Go.Deep

set_option maxRecDepth 100000 in
theorem bytesW {H : Type} {enc : TypeId × Value → H} {W : World} {fuel : Nat} {a0 : Option Addr} {len0 cap0 : Nat} {x : DataW H × List MemPlace} (hf : DataW.trod enc Tryz.prog W 0 (fun _ => true) true fuel 26 (Value.slice a0 len0 cap0).cells.toList = some x) (hw : WOk 26 x.1) :
    ∃ b0 l, Wire.Rd W b0 (.slice a0 len0 cap0) l ∧ (∀ y ∈ l, y < 256) ∧ l.length ≤ 140737488355328 := by
  rcases open_ints Tryz.underlying26 Tryz.underlying5 (by kernel_rfl) hf with ⟨hcs, hx⟩ | ⟨a, ln, c, zs, hcs, _, hl, hm, hz, hx, hcell, hwz⟩
  · simp [Value.cells] at hcs
    obtain ⟨rfl, rfl, rfl⟩ := hcs
    exact ⟨0, [], .inl ⟨rfl, rfl⟩, by simp, by simp⟩
  · simp [Value.cells] at hcs
    obtain ⟨rfl, rfl, rfl⟩ := hcs
    simp at hz
    have hwf : ∀ z ∈ zs, 0 ≤ z ∧ z ≤ 255 := fun z hz => bounds_u8 (hwz z hz)
    rw [hx] at hw
    obtain ⟨w1, w2⟩ := w_slice Tryz.underlying26 hw
    have hbytes : len0 ≤ 140737488355328 := by
      have hb : Tryz.prog.bytesOf 5 = 1 := by kernel_rfl
      rw [hb, reach_is] at w1
      simp only [lits, List.length_map, List.length_take, List.length_drop] at w1
      omega
    refine ⟨a.block, (zs.take len0).map Int.toNat, ?_, ?_, by simp; omega⟩
    · right
      refine ⟨a, cap0, by simp; omega, rfl, fun j u hu => ?_⟩
      have hj : j < len0 := by
        have := (List.getElem?_eq_some_iff.1 hu).1
        rw [Wire.bs_length] at this
        simp at this
        omega
      rw [hcell j (by omega)]
      rw [Wire.bs, List.getElem?_map, List.getElem?_map, List.getElem?_take, if_pos hj, List.getElem?_eq_getElem (show j < zs.length by omega)] at hu
      rw [← hu]
      have hw := hwf zs[j] (List.getElem_mem (show j < zs.length by omega))
      simp [List.getD, show j < zs.length by omega]
      omega
    · intro y hy
      obtain ⟨z, hz1, rfl⟩ := List.mem_map.1 hy
      have := hwf z (List.mem_of_mem_take hz1)
      omega
end Go.Proofs.YtfddnaeldpafmaaGreat

namespace Go.Proofs.YtfddnaeldpafmaaGreat
open Go.RowKit

theorem rdW {w w' : World} {b : Nat} {v : Value} {l : List Nat} (h : Wire.Rd w b v l) (k : Below w.heap.size w w') : Wire.Rd w' b v l := by
  rcases h with h | ⟨a, cap, h1, h2, h3⟩
  · exact .inl h
  · refine .inr ⟨a, cap, h1, h2, fun j u hj => ?_⟩
    have := h3 j u hj
    rw [k.cell (World.block_lt_of_cell? w _ this)]
    exact this
theorem txtB_256 (x : List UInt8) : ∀ n ∈ txtB x, n < 256 := by
  intro n hn
  rcases List.mem_append.1 hn with h | h
  · exact Wire.enc_256 _ n h
  · obtain ⟨c, _, rfl⟩ := List.mem_map.1 h
    exact c.toNat_lt
theorem fieldsB_256 : ∀ (fs : List (List UInt8)), ∀ n ∈ fieldsB fs, n < 256
  | [], n, hn => by simp [fieldsB] at hn
  | f :: r, n, hn => by
    rcases List.mem_append.1 hn with h | h
    · exact txtB_256 f n h
    · exact fieldsB_256 r n h
theorem caseB_256 (c : Cs) : ∀ n ∈ caseB c, n < 256 := by
  intro n hn
  rcases List.mem_append.1 hn with h | h
  · exact txtB_256 _ n h
  · rcases List.mem_append.1 h with h | h
    · exact Wire.enc_256 _ n h
    · exact fieldsB_256 _ n h
theorem casesB_256 : ∀ (fs : List Cs), ∀ n ∈ casesB fs, n < 256
  | [], n, hn => by simp [casesB] at hn
  | f :: r, n, hn => by
    rcases List.mem_append.1 hn with h | h
    · exact caseB_256 f n h
    · exact casesB_256 r n h
theorem itemB_256 (x : It) : ∀ n ∈ itemB x, n < 256 := by
  intro n hn
  rcases List.mem_append.1 hn with h | h
  · exact Wire.enc_256 _ n h
  · rcases List.mem_append.1 h with h | h
    · exact txtB_256 _ n h
    · split at h
      · rcases List.mem_append.1 h with h | h
        · exact Wire.enc_256 _ n h
        · exact casesB_256 _ n h
      · exact txtB_256 _ n h
theorem itemsB_256 : ∀ (fs : List It), ∀ n ∈ itemsB fs, n < 256
  | [], n, hn => by simp [itemsB] at hn
  | f :: r, n, hn => by
    rcases List.mem_append.1 hn with h | h
    · exact itemB_256 f n h
    · exact itemsB_256 r n h
theorem ifaceB_256 (m : List UInt8) (l : List It) : ∀ n ∈ ifaceB m l, n < 256 := by
  intro n hn
  rcases List.mem_append.1 hn with h | h
  · exact txtB_256 _ n h
  · rcases List.mem_append.1 h with h | h
    · exact Wire.enc_256 _ n h
    · exact itemsB_256 _ n h
theorem breaks_self (l : List It) (xs : List (List UInt8)) : breaksI l l xs = [] := by
  unfold breaksI
  rw [List.filter_eq_nil_iff]
  intro n _
  unfold brokenI
  cases h : findI l n with
  | none => simp
  | some a =>
    have := (sameI_iff a a).2 rfl
    simp [this]
theorem why_right {l : List Nat} (h : (whyD l).1 = 0) : (endR l).1 = 0 ∧ rightI (txtR l 24 0 0).1 (itemsR l).1 = 0 := by
  unfold whyD at h
  split at h
  · rename_i h1
    exact absurd h h1
  · rename_i h1
    exact ⟨Classical.not_not.1 h1, h⟩
set_option maxHeartbeats 8000000 in
set_option maxRecDepth 1000000 in
theorem back_walk (F : Nat → Prop) (m : List UInt8) (l : List It) (va : Option Addr) (vc : Nat) (bv : Value) (b0 : Nat) (bl : List Nat) (uv : Value) (xs : List (List UInt8)) (w : World)
    (hI : ItR F w (.slice va l.length vc) l) (hB : Wire.Rd w b0 bv bl) (hX : TxR F w uv xs) (hF : ∀ g, F g → g < w.heap.size) (hm : Tk m) (hok : ∀ x ∈ l, ItOk x) (hl : l.length ≤ 2199023255552) (hbl : bl.length ≤ 140737488355328) (h256 : ∀ x ∈ bl, x < 256) (hxl : xs.length ≤ 8796093022208) (hxt : ∀ x ∈ xs, Tk x) :
    Calls Tryz.prog 5 #[.agg #[.string (str m), .slice va l.length vc], bv, uv] w fun e w' => e = .returned (.bool true) ∧ Below w.heap.size w w' := by
  obtain ⟨ba, bc, rfl⟩ := hB.shape
  obtain ⟨ua, uc, rfl⟩ := hX.shape
  have hb0 : Below w.heap.size w (w.alloc (.cells #[.string (str m), .slice va l.length vc] 24)) := (Below.refl _ _).alloc (Nat.le_refl _) _
  have hN0 : (w.alloc (.cells #[.string (str m), .slice va l.length vc] 24)).heap[w.heap.size]? = some (.cells #[.string (str m), .slice va l.length vc] 24 (0, 0)) := World.alloc_heap_new w _
  have hSz : ∀ u, Below (w.heap.size + 1) (w.alloc (.cells #[.string (str m), .slice va l.length vc] 24)) u → w.heap.size + 1 ≤ u.heap.size := fun u hu => by have := hu.size; simpa using this
  have hN : ∀ u, Below (w.heap.size + 1) (w.alloc (.cells #[.string (str m), .slice va l.length vc] 24)) u → Below w.heap.size w u := fun u hu => hb0.trans (hu.mono (by omega))
  have hS : ∀ u, Below (w.heap.size + 1) (w.alloc (.cells #[.string (str m), .slice va l.length vc] 24)) u → u.cell? ⟨w.heap.size, 0, none⟩ = some (.string (str m)) ∧ u.cell? ⟨w.heap.size, 1, none⟩ = some (.slice va l.length vc) := fun u hu => by
    have k1 := (hu.block w.heap.size (by omega)).trans hN0
    exact ⟨by rw [cell_of_row _ _ 0 _ _ _ k1]; rfl, by rw [cell_of_row _ _ 1 _ _ _ k1]; rfl⟩
  have hnx : ∀ u u', Below (w.heap.size + 1) (w.alloc (.cells #[.string (str m), .slice va l.length vc] 24)) u → Below u.heap.size u u' → Below (w.heap.size + 1) (w.alloc (.cells #[.string (str m), .slice va l.length vc] 24)) u' := fun u u' hu h => hu.trans (h.mono (hSz u hu))
  have hIU : ∀ u, Below (w.heap.size + 1) (w.alloc (.cells #[.string (str m), .slice va l.length vc] 24)) u → ItR F u (.slice va l.length vc) l := fun u hu => hI.below (hN u hu) hF
  have hXU : ∀ u, Below (w.heap.size + 1) (w.alloc (.cells #[.string (str m), .slice va l.length vc] 24)) u → TxR F u (.slice ua xs.length uc) xs := fun u hu => hX.below (hN u hu) hF
  have hBU : ∀ u, Below (w.heap.size + 1) (w.alloc (.cells #[.string (str m), .slice va l.length vc] 24)) u → Wire.Rd u b0 (.slice ba bl.length bc) bl := fun u hu => rdW hB (hN u hu)
  have hFU : ∀ u, Below (w.heap.size + 1) (w.alloc (.cells #[.string (str m), .slice va l.length vc] 24)) u → ∀ g, F g → g < u.heap.size := fun u hu g hg => by have := hF g hg; have := hSz u hu; omega
  have G0 : Below (w.heap.size + 1) (w.alloc (.cells #[.string (str m), .slice va l.length vc] 24)) (w.alloc (.cells #[.string (str m), .slice va l.length vc] 24)) := Below.refl _ _
  have hE := encode7 F m (.slice va l.length vc) l _ (hIU _ G0) (hFU _ G0) hm hok
  obtain ⟨s0, s1⟩ := hS _ G0
  clear hI hX hB hF hb0 hN0
  go_enter Tryz.func5, Tryz.ntmps5
  go_wp2_with fail
  generalize w.alloc (.cells #[.string (str m), .slice va l.length vc] 24) = W0 at *
  refine hE.mono ?_
  rintro e w1 ⟨hcase, hb1⟩
  have G1 := hnx _ _ G0 hb1
  clear hE s0 s1 hb1
  have hcut1 : ∃ (xv : Value) (ec : Nat), e = .returned (.tuple #[xv, .int .i64 (ec : Int)]) ∧ ((ec = 0 ∧ rightI m l = 0 ∧ ∃ g, Wire.Row w1 g xv (ifaceB m l)) ∨ ec ≠ 0) := by
    rcases hcase with ⟨h1, v, g, rfl, h2, h3⟩ | ⟨h1, rfl⟩
    · exact ⟨v, 0, rfl, .inl ⟨rfl, h1, g, h2⟩⟩
    · exact ⟨_, _, rfl, .inr h1⟩
  obtain ⟨xv, ec, rfl, hx⟩ := hcut1
  clear hcase
  go_upto_if 23 with fail
  go_cut [] (fun wx => Below (w.heap.size + 1) W0 wx)
  case first =>
    rcases hx with ⟨rfl, hr, g, hrow⟩ | hec
    · obtain ⟨hd1, hd2, hd3⟩ := dec_forth hr
      have hsh := (right_short hr).1
      have hdec := decode7 xv g (ifaceB m l) w1 (by omega) (ifaceB_256 m l) hrow.rd
      unfold DecE at hdec
      rw [hd1, hd2, hd3] at hdec
      obtain ⟨xa, xc, hxs⟩ := hrow.rd.shape
      clear hd1 hd2 hd3 hrow
      generalize (ifaceB m l).length = xl at *
      subst hxs
      go_wp2_with fail
      refine hdec.mono ?_
      rintro e w2 ⟨hc, hb2⟩
      obtain ⟨v2, rfl, hT2⟩ : ∃ v2, e = .returned (.tuple #[.agg #[.string (str m), v2], .int .i64 0, .int .i64 0]) ∧ ItR (Fr w1 w2) w2 v2 l := by
        rcases hc with ⟨h1, _⟩ | ⟨_, h2⟩
        · exact absurd rfl h1
        · exact h2
      obtain ⟨ia, ic, rfl⟩ := hT2.shape
      have G2 := hnx _ _ G1 hb2
      have hbA : Below w2.heap.size w2 (w2.alloc (.cells #[.string (str m), .slice ia l.length ic] 24)) := (Below.refl _ _).alloc (Nat.le_refl _) _
      have G3 := hnx _ _ G2 hbA
      have hN3 : (w2.alloc (.cells #[.string (str m), .slice ia l.length ic] 24)).heap[w2.heap.size]? = some (.cells #[.string (str m), .slice ia l.length ic] 24 (0, 0)) := World.alloc_heap_new w2 _
      have hT3 := hT2.below hbA (fun g hg => hg.2)
      have hk := keepIface F (Fr w1 w2) m _ _ l _ (hIU _ G3) hT3 (hFU _ G3) (fun g hg => Nat.lt_of_lt_of_le hg.2 hbA.size) hl hok
      obtain ⟨t0, t1⟩ := hS _ G3
      have n0 : (w2.alloc (.cells #[.string (str m), .slice ia l.length ic] 24)).cell? ⟨w2.heap.size, 0, none⟩ = some (.string (str m)) := by rw [cell_of_row _ _ 0 _ _ _ hN3]; rfl
      have n1 : (w2.alloc (.cells #[.string (str m), .slice ia l.length ic] 24)).cell? ⟨w2.heap.size, 1, none⟩ = some (.slice ia l.length ic) := by rw [cell_of_row _ _ 1 _ _ _ hN3]; rfl
      clear hdec hc hb2 hbA hN3 hT3 hT2 hS hN hIU hXU hBU hFU
      go_wp2_with fail
      generalize w2.alloc (.cells #[.string (str m), .slice ia l.length ic] 24) = W3 at *
      refine hk.mono ?_
      rintro e w4 ⟨rfl, hb4⟩
      have G4 := hnx _ _ G3 hb4
      go_wp2
      go_meet
      exact G4
    · have hez : ((ec : Int) == 0) = false := by rw [beq_eq_false_iff_ne]; omega
      go_wp2
      go_meet
      exact G1
  case rest =>
    have G5 := hcut
    rename World => w5
    clear hcut hx G1 G0
    have hbk := breaks7 F m m l l va vc va vc _ xs w5 (hIU _ G5) (hIU _ G5) (hXU _ G5) (hFU _ G5) hok hok hl hl hxl hxt
    rw [breaks_self] at hbk
    obtain ⟨t0, t1⟩ := hS _ G5
    go_wp2_with fail
    refine hbk.mono ?_
    rintro e w6 ⟨bv6, rfl, hs6, hb6⟩
    obtain ⟨a6, c6, rfl⟩ := hs6.shape
    have G6 := hnx _ _ G5 hb6
    have hdec := decode7 _ b0 bl w6 hbl h256 (hBU _ G6)
    clear hbk hb6 hs6 t0 t1
    go_wp2_with fail
    refine hdec.mono ?_
    rintro e w7 ⟨hc, hb7⟩
    have G7 := hnx _ _ G6 hb7
    clear hdec
    rcases hc with ⟨hy, rfl⟩ | ⟨hy, v7, rfl, hT7⟩
    · have hyn : (((whyD bl).1 : Int) != 0) = true := by rw [bne_iff_ne]; omega
      have G8 := hnx _ _ G7 ((Below.refl _ w7).alloc (Nat.le_refl _) (.cells #[.string ⟨#[]⟩, .slice none 0 0] 24))
      have hkn := known7 (w7.alloc (.cells #[.string ⟨#[]⟩, .slice none 0 0] 24))
      clear hy
      generalize (whyD bl).1 = y1 at *
      generalize (whyD bl).2 = y2 at *
      go_wp2_with fail
      generalize w7.alloc (.cells #[.string ⟨#[]⟩, .slice none 0 0] 24) = W8 at *
      refine hkn.mono ?_
      rintro e w9 ⟨rfl, hb9⟩
      have hbw := hN _ (hnx _ _ G8 hb9)
      go_wp2
      go_ret
      exact ⟨rfl, hbw⟩
    · obtain ⟨hen, hri⟩ := why_right hy
      have hbk := hidden (dec_back bl h256 hen)
      have hio := items_ok bl
      have hmo := name_ok bl
      clear hy hen
      generalize (txtR bl 24 0 0).1 = nm at *
      generalize (itemsR bl).1 = ys at *
      obtain ⟨ia, ic, rfl⟩ := hT7.shape
      have hbA : Below w7.heap.size w7 (w7.alloc (.cells #[.string (str nm), .slice ia ys.length ic] 24)) := (Below.refl _ _).alloc (Nat.le_refl _) _
      have G8 := hnx _ _ G7 hbA
      have hN8 : (w7.alloc (.cells #[.string (str nm), .slice ia ys.length ic] 24)).heap[w7.heap.size]? = some (.cells #[.string (str nm), .slice ia ys.length ic] 24 (0, 0)) := World.alloc_heap_new w7 _
      have hT8 := hT7.below hbA (fun g hg => hg.2)
      have hE := encode7 (Fr w6 w7) nm _ ys _ hT8 (fun g hg => Nat.lt_of_lt_of_le hg.2 hbA.size) hmo hio
      have n0 : (w7.alloc (.cells #[.string (str nm), .slice ia ys.length ic] 24)).cell? ⟨w7.heap.size, 0, none⟩ = some (.string (str nm)) := by rw [cell_of_row _ _ 0 _ _ _ hN8]; rfl
      have n1 : (w7.alloc (.cells #[.string (str nm), .slice ia ys.length ic] 24)).cell? ⟨w7.heap.size, 1, none⟩ = some (.slice ia ys.length ic) := by rw [cell_of_row _ _ 1 _ _ _ hN8]; rfl
      clear hT7 hT8 hbA hN8 hb7
      go_wp2_with fail
      generalize w7.alloc (.cells #[.string (str nm), .slice ia ys.length ic] 24) = W8 at *
      refine hE.mono ?_
      rintro e w9 ⟨hc9, hb9⟩
      obtain ⟨yv, g9, rfl, hrow⟩ : ∃ yv g9, e = .returned (.tuple #[yv, .int .i64 0]) ∧ Wire.Row w9 g9 yv bl := by
        rcases hc9 with ⟨_, v, g, h2, h3, _⟩ | ⟨h1, _⟩
        · rw [hbk.out] at h3
          exact ⟨v, g, h2, h3⟩
        · exact absurd hri h1
      have G9 := hnx _ _ G8 hb9
      have hcv1 := hrow.rd.string
      have hcv2 := (hBU _ G9).string
      obtain ⟨ya, yc, rfl⟩ := hrow.rd.shape
      have hkn := known7 w9
      have heq : ((Wire.toStr bl).toList == (Wire.toStr bl).toList) = true := by simp
      clear hE hc9 hb9 hrow n0 n1 hri hbk
      generalize Wire.toStr bl = sb at *
      go_wp2_with fail
      refine hkn.mono ?_
      rintro e w10 ⟨rfl, hb10⟩
      have hbw := hN _ (hnx _ _ G9 hb10)
      go_wp2
      go_ret
      exact ⟨rfl, hbw⟩
end Go.Proofs.YtfddnaeldpafmaaGreat

namespace Go.Proofs.YtfddnaeldpafmaaGreat
open Go.ChangeShapes Go.WideShapes Go.ChangeAt Go.RowKit Go.Deep

theorem ownIfaceBack : ownKnob Tryz.prog.godebug = none := by kernel_rfl
theorem laidIfaceBack : laidOutB Tryz.prog = true := by kernel_rfl
set_option maxRecDepth 100000 in
theorem ifaceBack_lifted (os : Os) (started : os.Started) (H : Type) (enc : TypeId × Value → H) :
    ReturnsInHanded {} Tryz.checked os 5 .any (Rows.ifaceBackSpec.pre6 enc Tryz.prog Tryz.f5 Rows.ifaceBackRow.domain false) (Rows.ifaceBackSpec.post enc Tryz.prog Tryz.f5 false true false false) := by
  refine returnsInHanded_of_change_sized (C := Tryz.checked) ownIfaceBack started (by kernel_rfl) Tryz.func5
    (ChangeSpec.witness6 (enc := enc) (C := Tryz.checked) false ⟨#[], #[.agg #[.string ByteArray.empty, .slice none 0 0], .slice none 0 0, .slice none 0 0], []⟩ 8 (by kernel_rfl) (by kernel_rfl) (by kernel_rfl) (by kernel_rfl)) ?_
  intro W base args ds gs before hval0 hW hcnd hsz0 _
  have hval : ∀ (j : Nat) t v, Tryz.f5.params[j]? = some t → args[j]? = some v → Value.okWide Tryz.prog W .any base t v := hval0
  have hsz : (DataW.weightsEach Tryz.prog (Tryz.f5.params.toList ++ Rows.ifaceBackSpec.plain.varTypes Tryz.prog) (ds ++ gs)).all (· ≤ reachBytes) = true := hsz0
  have hW' := hW
  obtain ⟨p, q, hA0, hV, rfl, hfz, hnd⟩ := hW
  have hA : DataW.TrodAll enc Tryz.prog W 0 (fun _ => true) true Tryz.f5.params.toList args.toList ds p := hA0
  rw [Tryz.params5] at hA hval hsz
  obtain ⟨v0, vs0, d0, ds0, p0, q0, hargs, rfl, rfl, h0, r0⟩ := trodAll_cons hA
  obtain ⟨v1, vs1, d1, ds1, p1, q1, rfl, rfl, rfl, h1, r1⟩ := trodAll_cons r0
  obtain ⟨v2, vs2, d2, ds2, p2, q2, rfl, rfl, rfl, h2, r2⟩ := trodAll_cons r1
  obtain ⟨rfl, rfl, rfl⟩ := trodAll_nil r2
  obtain rfl : args = #[v0, v1, v2] := by cases args; simp_all
  obtain ⟨rfl, rfl⟩ := trodVars_none hV
  have hw0 : WOk 24 d0 := fun n hn => by simpa using List.all_eq_true.1 hsz _ (DataW.weights_mem_each (j := 0) (t := 24) (d := d0) rfl rfl n hn)
  have hw1 : WOk 26 d1 := fun n hn => by simpa using List.all_eq_true.1 hsz _ (DataW.weights_mem_each (j := 1) (t := 26) (d := d1) rfl rfl n hn)
  have hw2 : WOk 25 d2 := fun n hn => by simpa using List.all_eq_true.1 hsz _ (DataW.weights_mem_each (j := 2) (t := 25) (d := d2) rfl rfl n hn)
  have k0 := h0
  have k1 := h1
  have k2 := h2
  have lt0 : ∀ x ∈ p0, x.block < W.heap.size := by obtain ⟨m, hm⟩ := k0; exact DataW.trod_lt m _ _ _ hm
  have lt1 : ∀ x ∈ p1, x.block < W.heap.size := by obtain ⟨m, hm⟩ := k1; exact DataW.trod_lt m _ _ _ hm
  have lt2 : ∀ x ∈ p2, x.block < W.heap.size := by obtain ⟨m, hm⟩ := k2; exact DataW.trod_lt m _ _ _ hm
  obtain ⟨m, l, va, vc, rfl, hm, hI, hl, hok⟩ := iface_open (hval 0 24 v0 rfl rfl) h0 hw0
  obtain ⟨a1, len1, cap1, rfl⟩ := okWide_slice Tryz.underlying26 (hval 1 26 v1 rfl rfl)
  obtain ⟨f1, hf1⟩ := h1
  obtain ⟨b0, bl, y1, y2, y3⟩ := bytesW (by simpa [Value.cells] using hf1) hw1
  obtain ⟨a2, len2, cap2, rfl⟩ := okWide_slice Tryz.underlying25 (hval 2 25 v2 rfl rfl)
  obtain ⟨f2, hf2⟩ := h2
  obtain ⟨xs, z1, z2, z3, z4⟩ := texts_open (by simpa [Value.cells] using hf2) hw2
  subst z1
  have hwalk := back_walk (fun g => g < W.heap.size) m l va vc _ b0 bl _ xs W hI y1 z2 (fun g hg => hg) hm hok hl y3 y2 z3 z4
  clear hA0 hval0
  simp only [List.append_nil] at hW'
  refine hwalk.mono fun e W' ⟨he, bel⟩ => ?_
  subst he
  exact ⟨_, rfl, _, _, _, [], _, [], hW', trodAll_mk1 (shut_bool Tryz.underlying4 _), (trodAll_cons_mk (Below.trod laidIfaceBack (by kernel_rfl) (of_decide_eq_true (by kernel_rfl)) k0 bel lt0) (trodAll_cons_mk (Below.trod laidIfaceBack (by kernel_rfl) (of_decide_eq_true (by kernel_rfl)) k1 bel lt1) (trodAll_cons_mk (Below.trod laidIfaceBack (by kernel_rfl) (of_decide_eq_true (by kernel_rfl)) k2 bel lt2) trodAll_mk0))), rfl, bel.frame _, fun h => by cases h⟩

theorem ifaceBack_holds : Rows.IfaceBackSaid :=
  OpenClaim.holds_of_wide 5 Tryz.f5 rfl rfl rfl rfl rfl rfl rfl ⟨rfl, rfl, rfl, rfl, rfl⟩ rfl rfl rfl rfl rfl (by kernel_rfl) Tryz.func5 (by kernel_rfl)
    (of_decide_eq_true (by kernel_rfl)) (by unfold Func.isWrapper; first | (rw [if_pos (by decide +kernel)]; kernel_rfl) | (rw [if_neg (by decide +kernel)]; exact ⟨rfl, rfl⟩))
    (fun os started H enc _ => ifaceBack_lifted os started H enc)
#print axioms ifaceBack_holds
end Go.Proofs.YtfddnaeldpafmaaGreat
