/-
  rightAlone, tooMany, rightCounts, allTypes, isSame, isAhead of the package object.
  And: The package's Encode. The package's Of where nothing is defined; the statements' 'known': some of chapter 7's runs.
-/
import Derived.Deep.RegionHeld3
import Derived.Deep.LoopGhost
import Derived.Test.YtfjppbpicmniaaaGreatDoorG21
import Derived.Test.YtfjppbpicmniaaaGreatDoorG19
import Derived.Laws.Rows
import Derived.Laws.Tables
import Derived.Test.YtfjppbpicmniaaaGreatDoorG16
import Derived.Test.YtfjppbpicmniaaaGreatDoorG05
namespace Go.Proofs.YtfjppbpicmniaaaGreatDoor
open Go.RowKit

set_option maxHeartbeats 2000000 in
set_option maxRecDepth 1000000 in
theorem oallTypes (F : Nat → Prop) (v : Value) (xs : List (List UInt8)) (w : World) (h : TxR F w v xs) (hF : ∀ g, F g → g < w.heap.size) (hl : xs.length ≤ 8796093022208) : Calls Tryz.prog 80 #[v] w (BoolB (xs.all rightR) w) := by
  obtain ⟨va, vc, rfl⟩ := h.shape
  have H := hidden h
  clear h
  go_enter Tryz.func80, Tryz.ntmps80
  go_wp2
  go_loopg [7] xs.length (fun g i wr => ∃ (k : Nat), g + k = xs.length ∧ i = .int .i64 (k : Int) ∧ Hid ((xs.take k).all rightR = true) ∧ Below w.heap.size w wr)
  case atStart => exact ⟨0, by omega, rfl, by rw [hid_iff]; rfl, Below.refl _ _⟩
  case round =>
    obtain ⟨k, hg, rfl, hq, hbl⟩ := hrel
    by_cases hk : k < xs.length
    · obtain ⟨g, o, cap, e1, hFg, q⟩ := (H.out.below hbl hF).at k hk
      simp only [Value.slice.injEq, true_and] at e1
      obtain ⟨rfl, rfl⟩ := e1
      have hki : (k : Int) < (xs.length : Int) := by omega
      have hr := fun u => right (str xs[k]) u
      rw [str_data] at hr
      cases hb : rightR xs[k]
      · rw [hb] at hr
        have HF : Hid (xs.all rightR = false) := all_not hk hb
        generalize xs[k] = x at *
        clear hq hb
        go_wp2_with fail
        refine (hr _).mono ?_
        rintro e w1 ⟨rfl, hb1⟩
        go_wp2
        go_ret
        exact ⟨(by rw [HF.out]; first | done | rfl), below_trans hbl hb1⟩
      · rw [hb] at hr
        have HQ : Hid ((xs.take (k + 1)).all rightR = true) := all_next hk hq.out hb
        generalize xs[k] = x at *
        clear hq hb
        go_wp2_with fail
        refine (hr _).mono ?_
        rintro e w1 ⟨rfl, hb1⟩
        have hb2 := below_trans hbl hb1
        go_wp2
        go_roundg (xs.length - (k + 1))
        case measure => omega
        case rel => exact ⟨k + 1, by omega, by go_num, HQ, hb2⟩
    · have hki : ¬ (k : Int) < (xs.length : Int) := by omega
      have HA : Hid (xs.all rightR = true) := by
        have := hq.out
        rwa [List.take_of_length_le (by omega)] at this
      clear hq
      go_wp2
      go_ret
      exact ⟨(by rw [HA.out]; first | done | rfl), hbl⟩

def obv (u : ObV) (m : List UInt8) : Value := .agg #[.string (str m), u.t, u.x, u.g, u.f, u.e, u.s, u.r]
set_option maxHeartbeats 1000000 in
set_option maxRecDepth 1000000 in
theorem rightAlone (F : Nat → Prop) (m : List UInt8) (x : It) (cv : Value) (w : World) (h : CsR F w cv x.cases) (hF : ∀ g, F g → g < w.heap.size) (hm : Tk m) (hx : ItOk x) : Calls Tryz.prog 72 #[.string (str m), itv x cv] w (NumB (rightI m [x]) w) := by
  obtain ⟨kd, nm, ty, cs⟩ := x
  unfold itv
  simp only at *
  obtain ⟨ca, cc, rfl⟩ := h.shape
  have hb0 : Below w.heap.size w ((w.alloc (.cells #[.int .i64 kd, .string (str nm), .string (str ty), .slice ca cs.length cc] 78)).alloc (.cells #[.int .i64 kd, .string (str nm), .string (str ty), .slice ca cs.length cc] 78)) := ((Below.refl _ _).alloc (Nat.le_refl _) _).alloc (by simp) _
  have hN := heap_alloc_new (w.alloc (.cells #[.int .i64 kd, .string (str nm), .string (str ty), .slice ca cs.length cc] 78)) (.cells #[.int .i64 kd, .string (str nm), .string (str ty), .slice ca cs.length cc] 78)
  have hsz : ((w.alloc (.cells #[.int .i64 kd, .string (str nm), .string (str ty), .slice ca cs.length cc] 78)).alloc (.cells #[.int .i64 kd, .string (str nm), .string (str ty), .slice ca cs.length cc] 78)).heap.size = w.heap.size + 2 := by simp
  have hR : ∀ W, W = (w.alloc (.cells #[.int .i64 kd, .string (str nm), .string (str ty), .slice ca cs.length cc] 78)).alloc (.cells #[.int .i64 kd, .string (str nm), .string (str ty), .slice ca cs.length cc] 78) → Calls Tryz.prog 131 #[.agg #[.string (str m), .slice (some ⟨w.heap.size + 1, 0, none⟩) 1 1]] W (NumB (rightI m [⟨kd, nm, ty, cs⟩]) W) := by
    rintro W rfl
    have he : (w.alloc (.cells #[.int .i64 kd, .string (str nm), .string (str ty), .slice ca cs.length cc] 78)).heap.size = w.heap.size + 1 := by simp
    rw [he] at hN
    refine right7 (fun g => F g ∨ g = w.heap.size + 1) m _ [⟨kd, nm, ty, cs⟩] _ (.inr ⟨w.heap.size + 1, 0, 1, rfl, by simp, .inr rfl, fun j x hj => ?_⟩) (fun g hg => ?_) hm (by simpa using hx)
    · obtain ⟨hj1, rfl⟩ := List.getElem?_eq_some_iff.1 hj
      obtain rfl : j = 0 := by simpa using hj1
      simp only [Nat.zero_mul, Nat.add_zero, Nat.zero_add, List.getElem_cons_zero]
      refine ⟨.slice ca cs.length cc, h.frame fun g hg => ⟨.inl hg, hb0.block g (hF g hg)⟩, ?_, ?_, ?_, ?_⟩
      · rw [cell_of_row _ _ 0 _ _ _ hN]; rfl
      · rw [cell_of_row _ _ 1 _ _ _ hN]; rfl
      · rw [cell_of_row _ _ 2 _ _ _ hN]; rfl
      · rw [cell_of_row _ _ 3 _ _ _ hN]; rfl
    · rw [hsz]
      rcases hg with hg | rfl
      · have := hF g hg; omega
      · omega
  generalize rightI m [⟨kd, nm, ty, cs⟩] = r at *
  clear h hN hx
  go_enter Tryz.func72, Tryz.ntmps72
  go_wp2_with (go_at_call 131; refine (hR _ rfl).mono ?_; rintro e w2 ⟨rfl, hb2⟩)
  go_ret
  exact ⟨rfl, below_trans hb0 hb2⟩
set_option maxHeartbeats 1000000 in
set_option maxRecDepth 1000000 in
theorem otooMany (F : Nat → Prop) (u : ObV) (o : Ob) (w : World) (h : ObR F w u o) : Calls Tryz.prog 27 #[obv u o.mod] w (BoolB (manyO o) w) := by
  obtain ⟨m, ts, xs, gs, fs, es, ss, rs⟩ := o
  obtain ⟨tv, xv, gv, fv, ev, sv, rv⟩ := u
  obtain ⟨h1, h2, h3, h4, h5, h6, h7⟩ := h
  unfold obv
  simp only at *
  obtain ⟨a1, c1, rfl⟩ := h1.shape
  obtain ⟨a2, c2, rfl⟩ := h2.1.shape
  obtain ⟨a3, c3, rfl⟩ := h3.shape
  obtain ⟨a4, c4, rfl⟩ := h4.shape
  obtain ⟨a5, c5, rfl⟩ := h5.1.shape
  obtain ⟨a6, c6, rfl⟩ := h6.shape
  obtain ⟨a7, c7, rfl⟩ := h7.shape
  have hb0 : Below w.heap.size w (w.alloc (.cells #[.string (str m), .slice a1 ts.length c1, .slice a2 xs.length c2, .slice a3 gs.length c3, .slice a4 fs.length c4, .slice a5 es.length c5, .slice a6 ss.length c6, .slice a7 rs.length c7] 29)) := (Below.refl _ _).alloc (Nat.le_refl _) _
  have HM : Hid (manyO ⟨m, ts, xs, gs, fs, es, ss, rs⟩ = (decide (32 < ts.length) || (decide (32 < xs.length) || (decide (32 < gs.length) || (decide (32 < es.length) || (decide (48 < fs.length) || (decide (96 < ss.length) || decide (384 < rs.length)))))))) := rfl
  clear h1 h2 h3 h4 h5 h6 h7
  generalize ts.length = n1 at *
  generalize xs.length = n2 at *
  generalize gs.length = n3 at *
  generalize fs.length = n4 at *
  generalize es.length = n5 at *
  generalize ss.length = n6 at *
  generalize rs.length = n7 at *
  go_enter Tryz.func27, Tryz.ntmps27
  by_cases pn1 : 32 < n1
  · have pn1i : (32 : Int) < (n1 : Int) := by omega
    have HV : Hid (manyO ⟨m, ts, xs, gs, fs, es, ss, rs⟩ = true) := by rw [hid_iff, HM.out]; simp [pn1]
    clear HM  pn1
    go_wp2
    go_ret
    exact ⟨(by rw [HV.out]; first | done | rfl), hb0⟩
  have pn1i : ¬ (32 : Int) < (n1 : Int) := by omega
  by_cases pn2 : 32 < n2
  · have pn2i : (32 : Int) < (n2 : Int) := by omega
    have HV : Hid (manyO ⟨m, ts, xs, gs, fs, es, ss, rs⟩ = true) := by rw [hid_iff, HM.out]; simp [pn2]
    clear HM pn1 pn2
    go_wp2
    go_ret
    exact ⟨(by rw [HV.out]; first | done | rfl), hb0⟩
  have pn2i : ¬ (32 : Int) < (n2 : Int) := by omega
  by_cases pn3 : 32 < n3
  · have pn3i : (32 : Int) < (n3 : Int) := by omega
    have HV : Hid (manyO ⟨m, ts, xs, gs, fs, es, ss, rs⟩ = true) := by rw [hid_iff, HM.out]; simp [pn3]
    clear HM pn1 pn2 pn3
    go_wp2
    go_ret
    exact ⟨(by rw [HV.out]; first | done | rfl), hb0⟩
  have pn3i : ¬ (32 : Int) < (n3 : Int) := by omega
  by_cases pn5 : 32 < n5
  · have pn5i : (32 : Int) < (n5 : Int) := by omega
    have HV : Hid (manyO ⟨m, ts, xs, gs, fs, es, ss, rs⟩ = true) := by rw [hid_iff, HM.out]; simp [pn5]
    clear HM pn1 pn2 pn3 pn5
    go_wp2
    go_ret
    exact ⟨(by rw [HV.out]; first | done | rfl), hb0⟩
  have pn5i : ¬ (32 : Int) < (n5 : Int) := by omega
  by_cases pn4 : 48 < n4
  · have pn4i : (48 : Int) < (n4 : Int) := by omega
    have HV : Hid (manyO ⟨m, ts, xs, gs, fs, es, ss, rs⟩ = true) := by rw [hid_iff, HM.out]; simp [pn4]
    clear HM pn1 pn2 pn3 pn5 pn4
    go_wp2
    go_ret
    exact ⟨(by rw [HV.out]; first | done | rfl), hb0⟩
  have pn4i : ¬ (48 : Int) < (n4 : Int) := by omega
  by_cases pn6 : 96 < n6
  · have pn6i : (96 : Int) < (n6 : Int) := by omega
    have HV : Hid (manyO ⟨m, ts, xs, gs, fs, es, ss, rs⟩ = true) := by rw [hid_iff, HM.out]; simp [pn6]
    clear HM pn1 pn2 pn3 pn5 pn4 pn6
    go_wp2
    go_ret
    exact ⟨(by rw [HV.out]; first | done | rfl), hb0⟩
  have pn6i : ¬ (96 : Int) < (n6 : Int) := by omega
  by_cases pn7 : 384 < n7
  · have pn7i : (384 : Int) < (n7 : Int) := by omega
    have HV : Hid (manyO ⟨m, ts, xs, gs, fs, es, ss, rs⟩ = true) := by rw [hid_iff, HM.out]; simp [pn7]
    clear HM pn1 pn2 pn3 pn5 pn4 pn6 pn7
    go_wp2
    go_ret
    exact ⟨(by rw [HV.out]; first | done | rfl), hb0⟩
  have pn7i : ¬ (384 : Int) < (n7 : Int) := by omega
  have HV : Hid (manyO ⟨m, ts, xs, gs, fs, es, ss, rs⟩ = false) := by rw [hid_iff, HM.out]; simp [pn1, pn2, pn3, pn5, pn4, pn6, pn7]
  clear HM pn1 pn2 pn3 pn5 pn4 pn6 pn7
  go_wp2
  go_ret
  exact ⟨(by rw [HV.out]; first | done | rfl), hb0⟩
set_option maxHeartbeats 1000000 in
set_option maxRecDepth 1000000 in
theorem ocounts (f : Fn) (pv kv : Value) (w : World) (hp : ∃ a c, pv = .slice a f.params.length c) (hok : FnOk f) : Calls Tryz.prog 79 #[fnv f pv kv] w (BoolB (countsO f) w) := by
  obtain ⟨a, c, rfl⟩ := hp
  obtain ⟨nm, ps, cp, rs, lc, cd⟩ := f
  obtain ⟨_, hl, _, ⟨hc1, hc2⟩, _, _, _⟩ := hok
  unfold fnv
  simp only at *
  have hb0 : Below w.heap.size w (w.alloc (.cells #[.string (str nm), .slice a ps.length c, .int .i64 cp, .string (str rs), .int .i64 lc, kv] 52)) := (Below.refl _ _).alloc (Nat.le_refl _) _
  have HM : Hid (countsO ⟨nm, ps, cp, rs, lc, cd⟩ = (decide (0 ≤ cp) && (decide (cp ≤ ps.length) && (decide ((ps.length : Int) - cp ≤ 6) && (decide ((ps.length : Int) ≤ lc) && (decide (lc ≤ 24) && (decide (nm = []) || decide (cp = 0)))))))) := rfl
  have he := nil_text nm
  generalize ps.length = n at *
  go_enter Tryz.func79, Tryz.ntmps79
  by_cases p1 : 0 ≤ cp
  case neg =>
    have HV : Hid (countsO ⟨nm, ps, cp, rs, lc, cd⟩ = false) := by rw [hid_iff, HM.out]; simp [p1]
    clear HM he
    go_wp2
    go_ret
    exact ⟨(by rw [HV.out]; first | done | rfl), hb0⟩
  by_cases p2 : cp ≤ (n : Int)
  case neg =>
    have HV : Hid (countsO ⟨nm, ps, cp, rs, lc, cd⟩ = false) := by rw [hid_iff, HM.out]; simp [p2]
    clear HM he
    go_wp2
    go_ret
    exact ⟨(by rw [HV.out]; first | done | rfl), hb0⟩
  by_cases p3 : (n : Int) - cp ≤ 6
  case neg =>
    have HV : Hid (countsO ⟨nm, ps, cp, rs, lc, cd⟩ = false) := by rw [hid_iff, HM.out]; simp [p3]
    clear HM he
    go_wp2
    go_ret
    exact ⟨(by rw [HV.out]; first | done | rfl), hb0⟩
  by_cases p4 : (n : Int) ≤ lc
  case neg =>
    have HV : Hid (countsO ⟨nm, ps, cp, rs, lc, cd⟩ = false) := by rw [hid_iff, HM.out]; simp [p4]
    clear HM he
    go_wp2
    go_ret
    exact ⟨(by rw [HV.out]; first | done | rfl), hb0⟩
  by_cases p5 : lc ≤ 24
  case neg =>
    have HV : Hid (countsO ⟨nm, ps, cp, rs, lc, cd⟩ = false) := by rw [hid_iff, HM.out]; simp [p5]
    clear HM he
    go_wp2
    go_ret
    exact ⟨(by rw [HV.out]; first | done | rfl), hb0⟩
  by_cases pn : nm = []
  · have HV : Hid (countsO ⟨nm, ps, cp, rs, lc, cd⟩ = true) := by rw [hid_iff, HM.out]; simp [p1, p2, p3, p4, p5, pn]
    have h1 : (str nm).toList = [] := by rw [← List.isEmpty_iff, he, decide_eq_true pn]
    rw [decide_eq_true pn] at he
    clear HM pn
    go_wp2
    go_ret
    exact ⟨(by rw [HV.out]; first | done | rfl), hb0⟩
  rw [decide_eq_false pn] at he
  have h1 : ¬ (str nm).toList = [] := by
    intro h
    rw [h] at he
    cases he
  by_cases pz : cp = 0
  · subst pz
    have HV : Hid (countsO ⟨nm, ps, 0, rs, lc, cd⟩ = true) := by rw [hid_iff, HM.out]; simp; omega
    clear HM pn
    go_wp2
    go_ret
    exact ⟨(by rw [HV.out]; first | done | rfl), hb0⟩
  have HV : Hid (countsO ⟨nm, ps, cp, rs, lc, cd⟩ = false) := by rw [hid_iff, HM.out]; simp [pn, pz]
  have hz : (cp == 0) = false := by simp [pz]
  clear HM pn
  go_wp2
  go_ret
  exact ⟨(by rw [HV.out]; first | done | rfl), hb0⟩
end Go.Proofs.YtfjppbpicmniaaaGreatDoor

namespace Go.Proofs.YtfjppbpicmniaaaGreatDoor
open Go.RowKit

/-- What Encode answers. -/
def EncE (m : List UInt8) (l : List It) (w : World) (e : Ending) (w' : World) : Prop :=
  ((rightI m l = 0 ∧ ∃ v g, e = .returned (.tuple #[v, .int .i64 0]) ∧ Wire.Row w' g v (ifaceB m l) ∧ w.heap.size ≤ g) ∨ (rightI m l ≠ 0 ∧ e = .returned (.tuple #[.slice none 0 0, .int .i64 (rightI m l : Int)]))) ∧ Below w.heap.size w w'
end Go.Proofs.YtfjppbpicmniaaaGreatDoor

namespace Go.Proofs.YtfjppbpicmniaaaGreatDoor
open Go.RowKit

theorem res7 {P : Program} {fn : Func} {p u : Tmp} {ty : TypeId} (h : fn.results = #[.cell p ty, .tmp u]) (tmps : Array Value) (w : World) (g : Nat) (t : TypeId) (cs : Array Value) (fr : Nat × Nat) (d : TypeDesc)
    (hp : tmps.getD p undef = .pointer (some ⟨g, 0, none⟩)) (hg : w.heap[g]? = some (.cells cs t fr))
    (hu : P.underlying ty = some d) (hd : (match d with | .struct _ | .array _ _ => true | _ => false) = true) (hi : (P.info? ty).map (·.size) = some cs.size) :
    (results fn tmps).run P w = .ok (.tuple #[.agg cs, tmps.getD u undef]) w := by
  have hp' : tmps[p]?.getD undef = .pointer (some ⟨g, 0, none⟩) := by simpa using hp
  simp [results, h, hp', asAddr, run_loadVar_row w g t ty cs fr d hg hu hd hi]
theorem sizeIt : (Tryz.prog.info? 78).map (·.size) = some 4 := by kernel_rfl
theorem sizeIf : (Tryz.prog.info? 56).map (·.size) = some 2 := by kernel_rfl
def NoneE (w : World) (e : Ending) (w' : World) : Prop := e = .returned (.tuple #[.agg #[.int .i64 0, .string ⟨#[]⟩, .string ⟨#[]⟩, .slice none 0 0], .bool false]) ∧ Below w.heap.size w w'
theorem setRow_below (w : World) (g : Nat) (cs : Array Value) : Below g w (w.setRow g cs) := by
  refine ⟨rfl, rfl, rfl, by simp [World.setRow], fun k hk => ?_⟩
  simp only [World.setRow]
  rw [Array.getElem?_modify, if_neg (by omega)]
def OfNone (w : World) (e : Ending) (w' : World) : Prop := e = .returned (.tuple #[.agg #[.string ⟨#[]⟩, .slice none 0 0], .int .i64 16]) ∧ Below w.heap.size w w'
def KnownI (w : World) (e : Ending) (w' : World) : Prop := e = .returned (.bool true) ∧ Below w.heap.size w w'
theorem k_bytes : ifaceB [109] [] = [1, 109, 0] := by decide
theorem k_right : rightI [109] [] = 0 := by decide
theorem k_str : Wire.toStr [1, 109, 0] = ⟨#[1, 109, 0]⟩ := by kernel_rfl
end Go.Proofs.YtfjppbpicmniaaaGreatDoor
