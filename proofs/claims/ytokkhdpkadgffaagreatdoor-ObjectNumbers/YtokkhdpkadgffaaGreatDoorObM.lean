/-
  What is refused of one symbol of an object.
  And: rightItem, and what is refused of one symbol of an object. The statements' Same at texts. Imports: the modules of an object's symbols that are not its own; Decode of bytes that are too many. Right of an object that has functions, exports and symbols alone; Decode of bytes that are too many. The walk of the law ObjectNumbers. The listed tables: a start that fits; whole numbers that are handed in. Proved: the law ObjectNumbers, chapter 14's runs, answers true. It has no argument. The package-level tables of Go's own library that the program lists start as the program's text lays them (the card ties them); no other condition.
-/
import Derived.Test.YtokkhdpkadgffaaGreatDoorObA
import Derived.Test.YtokkhdpkadgffaaGreatDoorShelf
import Derived.Deep.LoopGhost
import Derived.Test.YtokkhdpkadgffaaGreatDoorLexLabels
import Derived.Test.YtokkhdpkadgffaaGreatDoorTypesCmp
import Derived.Test.YtokkhdpkadgffaaGreatDoorTypesParts
import Derived.Test.YtokkhdpkadgffaaGreatDoorIfaceBreaks
import Derived.Test.YtokkhdpkadgffaaGreatDoorIfaceCopy
import Derived.Test.YtokkhdpkadgffaaGreatDoorObC
import Derived.Test.YtokkhdpkadgffaaGreatDoorObE
import Derived.Test.YtokkhdpkadgffaaGreatDoorObB
import Derived.Deep.OwnRows
import Derived.Test.YtokkhdpkadgffaaGreatDoorRows
import Derived.Test.YtokkhdpkadgffaaGreatDoorCards
import Derived.Test.YtokkhdpkadgffaaGreatDoorTie
import Derived.Test.YtokkhdpkadgffaaGreatDoorIfaceRows
import Derived.ProofKit
import Derived.LaidMore
import Derived.OpenShut
import Derived.Stop.Joined
import Derived.Stop.LaidErr
import Derived.Lib.LaidTab
import Derived.SizedLaws
import Derived.MakeChecks
import Derived.ChangeShapes
import Derived.WideShapes
import Derived.Deep.Slices
namespace Go.Proofs.YtokkhdpkadgffaaGreatDoor
open Go.RowKit

set_option maxHeartbeats 2000000 in
set_option maxRecDepth 1000000 in
theorem oisSame (a b : Sy) (cv1 cv2 : Value) (w : World) : Calls Tryz.prog 88 #[syv a cv1, syv b cv2] w (BoolB (sameSy a b) w) := by
  obtain ⟨m1, k1, n1, t1, c1⟩ := a
  obtain ⟨m2, k2, n2, t2, c2⟩ := b
  unfold syv
  simp only
  have hb0 : Below w.heap.size w ((w.alloc (.cells #[.string (str m1), .int .i64 k1, .string (str n1), .string (str t1), cv1] 40)).alloc (.cells #[.string (str m2), .int .i64 k2, .string (str n2), .string (str t2), cv2] 40)) := ((Below.refl _ _).alloc (Nat.le_refl _) _).alloc (by simp) _
  have HM : Hid (sameSy ⟨m1, k1, n1, t1, c1⟩ ⟨m2, k2, n2, t2, c2⟩ = (decide (m1 = m2) && (decide (k1 = k2) && (decide (n1 = n2) && (decide (n1 ≠ []) || decide (t1 = t2)))))) := rfl
  generalize sameSy ⟨m1, k1, n1, t1, c1⟩ ⟨m2, k2, n2, t2, c2⟩ = r at *
  have h1 := eq_is m1 m2
  have h3 := eq_is n1 n2
  have h4 := nil_text n1
  have h5 := eq_is t1 t2
  by_cases e1 : m1 = m2
  case neg =>
    have HV : Hid (r = false) := by rw [hid_iff, HM.out]; simp [e1]
    rw [decide_eq_false e1] at h1
    clear HM h3 h4 h5 e1
    go_enter Tryz.func88, Tryz.ntmps88
    go_wp2
    go_ret
    exact ⟨(by rw [HV.out]; first | done | rfl), hb0⟩
  rw [decide_eq_true e1] at h1
  by_cases e2 : k1 = k2
  case neg =>
    have HV : Hid (r = false) := by rw [hid_iff, HM.out]; simp [e2]
    have h2 : (k1 == k2) = false := by simp [e2]
    clear HM h3 h4 h5 e1
    go_enter Tryz.func88, Tryz.ntmps88
    go_wp2
    go_ret
    exact ⟨(by rw [HV.out]; first | done | rfl), hb0⟩
  have h2 : (k1 == k2) = true := by simp [e2]
  by_cases e3 : n1 = n2
  case neg =>
    have HV : Hid (r = false) := by rw [hid_iff, HM.out]; simp [e3]
    rw [decide_eq_false e3] at h3
    clear HM h4 h5 e1 e2
    go_enter Tryz.func88, Tryz.ntmps88
    go_wp2
    go_ret
    exact ⟨(by rw [HV.out]; first | done | rfl), hb0⟩
  rw [decide_eq_true e3] at h3
  by_cases e4 : n1 = []
  case neg =>
    have HV : Hid (r = true) := by rw [hid_iff, HM.out, decide_eq_true e1, decide_eq_true e2, decide_eq_true e3, decide_eq_true e4]; rfl
    rw [decide_eq_false e4] at h4
    have h4' : ¬ (str n1).toList = [] := by
      intro hh
      rw [hh] at h4
      cases h4
    clear HM h5 e1 e2 e3 e4
    go_enter Tryz.func88, Tryz.ntmps88
    go_wp2
    go_ret
    exact ⟨(by rw [HV.out]; first | done | rfl), hb0⟩
  rw [decide_eq_true e4] at h4
  have h4' : (str n1).toList = [] := by rw [← List.isEmpty_iff]; exact h4
  have h6 : (str n2).toList = [] := by rw [← e3]; exact h4'
  by_cases e5 : t1 = t2
  · have HV : Hid (r = true) := by rw [hid_iff, HM.out, decide_eq_true e1, decide_eq_true e2, decide_eq_true e3, decide_eq_true e5]; simp
    rw [decide_eq_true e5] at h5
    clear HM e1 e2 e3 e4 e5
    go_enter Tryz.func88, Tryz.ntmps88
    go_wp2
    go_ret
    exact ⟨(by rw [HV.out]; first | done | rfl), hb0⟩
  · have HV : Hid (r = false) := by rw [hid_iff, HM.out, decide_eq_false e5]; simp [e4]
    rw [decide_eq_false e5] at h5
    clear HM e1 e2 e3 e4 e5
    go_enter Tryz.func88, Tryz.ntmps88
    go_wp2
    go_ret
    exact ⟨(by rw [HV.out]; first | done | rfl), hb0⟩
/-- From function k on: is the first whose number is t without a name? -/
def unF (fs : List Fn) (t : List UInt8) : Nat → Nat → Bool
  | _, 0 => false
  | k, n + 1 => if numO k = t then (match fs[k]? with | some f => decide (f.name = []) | none => false) else unF fs t (k + 1) n
theorem unF_at (fs : List Fn) (t : List UInt8) (k : Nat) (h : k < fs.length) : unF fs t k (fs.length - k) = if numO k = t then decide (fs[k].name = []) else unF fs t (k + 1) (fs.length - (k + 1)) := by
  obtain ⟨m, hm⟩ : ∃ m, fs.length - k = m + 1 := ⟨fs.length - k - 1, by omega⟩
  rw [hm, unF, show fs.length - (k + 1) = m from by omega, List.getElem?_eq_getElem h]
theorem unF_range (fs : List Fn) (t : List UInt8) : ∀ (n k : Nat), unF fs t k n = (match (List.range' k n).find? (fun i => decide (numO i = t)) with
  | some i => match fs[i]? with
    | some f => decide (f.name = [])
    | none => false
  | none => false)
  | 0, k => rfl
  | n + 1, k => by
    rw [unF, List.range'_succ, List.find?_cons]
    by_cases h : numO k = t
    · rw [if_pos h, decide_eq_true h]
    · rw [if_neg h, decide_eq_false h]
      exact unF_range fs t n (k + 1)
theorem unF_is (fs : List Fn) (t : List UInt8) : unF fs t 0 fs.length = unnamedO fs t := by
  rw [unF_range, unnamedO, List.range_eq_range']
  rfl
set_option maxHeartbeats 4000000 in
set_option maxRecDepth 1000000 in
theorem oisUnnamed (F : Nat → Prop) (u : ObV) (o : Ob) (t : List UInt8) (w : World) (h : ObR F w u o) (hF : ∀ g, F g → g < w.heap.size) (h48 : o.funs.length ≤ 48) : Calls Tryz.prog 145 #[obv u o.mod, .string (str t)] w (BoolB (unnamedO o.funs t) w) := by
  have HV := hidden (unF_is o.funs t)
  have hT := h.funs
  obtain ⟨m, ts, xs, gs, fs, es, ss, rs⟩ := o
  obtain ⟨tv, xv, gv, fv, ev, sv, rv⟩ := u
  unfold obv
  simp only at *
  obtain ⟨fa, fc, rfl⟩ := hT.shape
  generalize hW : w.alloc (.cells #[.string (str m), tv, xv, gv, .slice fa fs.length fc, ev, sv, rv] 84) = W0 at *
  have hb0 : Below w.heap.size w W0 := by rw [← hW]; exact (Below.refl _ _).alloc (Nat.le_refl _) _
  have hs0 : W0.heap.size = w.heap.size + 1 := by rw [← hW]; simp
  have hN0 := heap_alloc_new w (.cells #[.string (str m), tv, xv, gv, .slice fa fs.length fc, ev, sv, rv] 84)
  rw [hW] at hN0
  have z4 : W0.cell? ⟨w.heap.size, 4, none⟩ = some (.slice fa fs.length fc) := by rw [cell_of_row W0 _ 4 _ _ _ hN0]; rfl
  have HT := hidden hT
  clear h hT
  go_enter Tryz.func145, Tryz.ntmps145
  go_wp2_with fail
  go_loopg [11] fs.length (fun g i wr => ∃ (k : Nat), g + k = fs.length ∧ i = .int .i64 (k : Int) ∧ Hid (unF fs t 0 fs.length = unF fs t k (fs.length - k)) ∧ Below w.heap.size w wr)
  case atStart => exact ⟨0, by omega, rfl, rfl, hb0⟩
  case round =>
    obtain ⟨k, hg, rfl, hq, hbl⟩ := hrel
    by_cases hk : k < fs.length
    · obtain ⟨g, of, cap, cs, e1, _, hgF, hC, hcell⟩ := (HT.out.below cFn_stay hbl hF).at k hk
      simp only [Value.slice.injEq, true_and] at e1
      obtain ⟨rfl, rfl⟩ := e1
      obtain ⟨pv, kv, rfl, hpv, hkv⟩ := hC
      have q0 := hcell 0 _ rfl
      have q1 := hcell 1 _ rfl
      have q2 := hcell 2 _ rfl
      have q3 := hcell 3 _ rfl
      have q4 := hcell 4 _ rfl
      have q5 := hcell 5 _ rfl
      simp only [Nat.add_zero] at q0
      have hki : (k : Int) < (fs.length : Int) := by omega
      have hat := unF_at fs t k hk
      have HN := hidden (nil_text fs[k].name)
      generalize fs[k].name = nm at *
      generalize fs[k].caps = cp at *
      generalize fs[k].res = rs' at *
      generalize fs[k].locals = lc at *
      obtain ⟨pa, pc, rfl⟩ := hpv.1.shape
      obtain ⟨ka, kc, rfl⟩ := hkv.shape
      clear hcell hpv hkv
      have hIt : ∀ v, Calls Tryz.prog 186 #[.int .i64 (k : Int)] v fun e w' => e = .returned (.string (str (numO k))) ∧ w' = v := Tryz.strconv_Itoa_small k (by omega)
      have hba : Below wr.heap.size wr (wr.alloc (.cells #[.string (str nm), .slice pa fs[k].params.length pc, .int .i64 cp, .string (str rs'), .int .i64 lc, .slice ka fs[k].code.length kc] 25)) := (Below.refl _ _).alloc (Nat.le_refl _) _
      have hb2 := below_trans hbl hba
      have he := eq_is (numO k) t
      generalize numO k = nk at *
      by_cases hn : nk = t
      · rw [if_pos hn] at hat
        rw [decide_eq_true hn] at he
        have HR : Hid (unnamedO fs t = (str nm).toList.isEmpty) := by rw [hid_iff, ← HV.out, hq.out, hat, HN.out]
        clear hq hn hat
        go_wp2_with (go_at_call 186; refine (hIt _).mono ?_; rintro e w3 ⟨rfl, hw3⟩; obtain rfl := hw3.symm)
        go_ret
        exact ⟨(by rw [HR.out]; first | done | rfl), hb2⟩
      · rw [if_neg hn] at hat
        rw [decide_eq_false hn] at he
        have HQ : Hid (unF fs t 0 fs.length = unF fs t (k + 1) (fs.length - (k + 1))) := by rw [hid_iff, hq.out, hat]
        clear hq hn hat
        go_wp2_with (go_at_call 186; refine (hIt _).mono ?_; rintro e w3 ⟨rfl, hw3⟩; obtain rfl := hw3.symm)
        go_roundg (fs.length - (k + 1))
        case measure => omega
        case rel => exact ⟨k + 1, by omega, by go_num, HQ, hb2⟩
    · have hki : ¬ (k : Int) < (fs.length : Int) := by omega
      have HR : Hid (unnamedO fs t = false) := by rw [hid_iff, ← HV.out, hq.out, show fs.length - k = 0 from by omega]; rfl
      clear hq
      go_wp2
      go_ret
      exact ⟨(by rw [HR.out]; first | done | rfl), hbl⟩
end Go.Proofs.YtokkhdpkadgffaaGreatDoor

namespace Go.Proofs.YtokkhdpkadgffaaGreatDoor
open Go.RowKit

set_option maxHeartbeats 4000000 in
set_option maxRecDepth 1000000 in
theorem orightItem (F : Nat → Prop) (u : ObV) (o : Ob) (s : Sy) (cv : Value) (w : World) (h : ObR F w u o) (hF : ∀ g, F g → g < w.heap.size) (hcv : CsR F w cv s.item.cases) (hs : SyOk s) (h48 : o.funs.length ≤ 48) : Calls Tryz.prog 86 #[obv u o.mod, syv s cv] w (NumB (itemO o.mod o.funs s) w) := by
  have hU := fun v (hv : Below w.heap.size w v) => oisUnnamed F u o s.item.ty v (h.below hv hF) (fun g hg => Nat.lt_of_lt_of_le (hF g hg) hv.size) h48
  have HV : Hid (itemO o.mod o.funs s = if s.mod ≠ o.mod ∨ s.item.kind ≠ 3 ∨ s.item.name ≠ [] then rightI s.mod [s.item] else if 0 < s.item.cases.length then 12 else if unnamedO o.funs s.item.ty = false then 21 else 0) := rfl
  have hA := fun v (hv : Below w.heap.size w v) => rightAlone F s.mod s.item cv v (hcv.below hv hF) (fun g hg => Nat.lt_of_lt_of_le (hF g hg) hv.size) hs.1 hs.2
  generalize itemO o.mod o.funs s = r at *
  generalize unnamedO o.funs s.item.ty = un at *
  generalize rightI s.mod [s.item] = ri at *
  obtain ⟨ca, cc, rfl⟩ := hcv.shape
  generalize o.mod = m at *
  obtain ⟨sm, kd, nm, ty, cs⟩ := s
  obtain ⟨tv, xv, gv, fv, ev, sv, rv⟩ := u
  obtain ⟨s1, s2, s3⟩ : True ∧ True ∧ True := ⟨trivial, trivial, trivial⟩
  obtain ⟨a1, c1, e1⟩ := h.types.shape
  obtain ⟨a2, c2, e2⟩ := h.texts.1.shape
  obtain ⟨a3, c3, e3⟩ := h.globals.shape
  obtain ⟨a4, c4, e4⟩ := h.funs.shape
  obtain ⟨a5, c5, e5⟩ := h.exports.1.shape
  obtain ⟨a6, c6, e6⟩ := h.symbols.shape
  obtain ⟨a7, c7, e7⟩ := h.relocs.shape
  simp only at e1 e2 e3 e4 e5 e6 e7
  unfold obv syv at *
  unfold itv at hA
  simp only at hU HV hA ⊢
  subst e1 e2 e3 e4 e5 e6 e7
  generalize o.types.length = n1 at *
  generalize o.texts.length = n2 at *
  generalize o.globals.length = n3 at *
  generalize o.funs.length = n4 at *
  generalize o.exports.length = n5 at *
  generalize o.symbols.length = n6 at *
  generalize o.relocs.length = n7 at *
  generalize hW : w.alloc (.cells #[.string (str m), .slice a1 n1 c1, .slice a2 n2 c2, .slice a3 n3 c3, .slice a4 n4 c4, .slice a5 n5 c5, .slice a6 n6 c6, .slice a7 n7 c7] 84) = W0 at *
  have hb0 : Below w.heap.size w W0 := by rw [← hW]; exact (Below.refl _ _).alloc (Nat.le_refl _) _
  have hs0 : W0.heap.size = w.heap.size + 1 := by rw [← hW]; simp
  have hN0 := heap_alloc_new w (.cells #[.string (str m), .slice a1 n1 c1, .slice a2 n2 c2, .slice a3 n3 c3, .slice a4 n4 c4, .slice a5 n5 c5, .slice a6 n6 c6, .slice a7 n7 c7] 84)
  rw [hW] at hN0
  generalize hW1 : W0.alloc (.cells #[.string (str sm), .int .i64 kd, .string (str nm), .string (str ty), .slice ca cs.length cc] 40) = W1 at *
  have hb1 : Below W0.heap.size W0 W1 := by rw [← hW1]; exact (Below.refl _ _).alloc (Nat.le_refl _) _
  have hs1 : W1.heap.size = w.heap.size + 2 := by rw [← hW1]; simp; omega
  have hN1 := heap_alloc_new W0 (.cells #[.string (str sm), .int .i64 kd, .string (str nm), .string (str ty), .slice ca cs.length cc] 40)
  rw [hW1, hs0] at hN1
  have hbw : Below w.heap.size w W1 := below_trans hb0 hb1
  have n0 := (hb1.block _ (by omega)).trans hN0
  obtain ⟨z0, z1, z2, z3, z4, z5, z6, z7⟩ : W1.cell? ⟨w.heap.size, 0, none⟩ = some (.string (str m)) ∧ W1.cell? ⟨w.heap.size, 1, none⟩ = some (.slice a1 n1 c1) ∧ W1.cell? ⟨w.heap.size, 2, none⟩ = some (.slice a2 n2 c2) ∧ W1.cell? ⟨w.heap.size, 3, none⟩ = some (.slice a3 n3 c3) ∧ W1.cell? ⟨w.heap.size, 4, none⟩ = some (.slice a4 n4 c4) ∧ W1.cell? ⟨w.heap.size, 5, none⟩ = some (.slice a5 n5 c5) ∧ W1.cell? ⟨w.heap.size, 6, none⟩ = some (.slice a6 n6 c6) ∧ W1.cell? ⟨w.heap.size, 7, none⟩ = some (.slice a7 n7 c7) := ⟨by rw [cell_of_row W1 _ 0 _ _ _ n0]; rfl, by rw [cell_of_row W1 _ 1 _ _ _ n0]; rfl, by rw [cell_of_row W1 _ 2 _ _ _ n0]; rfl, by rw [cell_of_row W1 _ 3 _ _ _ n0]; rfl, by rw [cell_of_row W1 _ 4 _ _ _ n0]; rfl, by rw [cell_of_row W1 _ 5 _ _ _ n0]; rfl, by rw [cell_of_row W1 _ 6 _ _ _ n0]; rfl, by rw [cell_of_row W1 _ 7 _ _ _ n0]; rfl⟩
  obtain ⟨x0, x1, x2, x3, x4⟩ : W1.cell? ⟨w.heap.size + 1, 0, none⟩ = some (.string (str sm)) ∧ W1.cell? ⟨w.heap.size + 1, 1, none⟩ = some (.int .i64 kd) ∧ W1.cell? ⟨w.heap.size + 1, 2, none⟩ = some (.string (str nm)) ∧ W1.cell? ⟨w.heap.size + 1, 3, none⟩ = some (.string (str ty)) ∧ W1.cell? ⟨w.heap.size + 1, 4, none⟩ = some (.slice ca cs.length cc) := ⟨by rw [cell_of_row W1 _ 0 _ _ _ hN1]; rfl, by rw [cell_of_row W1 _ 1 _ _ _ hN1]; rfl, by rw [cell_of_row W1 _ 2 _ _ _ hN1]; rfl, by rw [cell_of_row W1 _ 3 _ _ _ hN1]; rfl, by rw [cell_of_row W1 _ 4 _ _ _ hN1]; rfl⟩
  have hA1 := hA W1 hbw
  have hU1 := hU W1 hbw
  have hq1 := neq_is sm m
  have hq3 := nil_text nm
  clear h hcv hA hU hs hN0 hN1 n0
  by_cases e1 : sm = m
  case neg =>
    rw [decide_eq_true e1] at hq1
    have hq0 := eq_is sm m
    rw [decide_eq_false e1] at hq0
    have HW : Hid (r = ri) := by rw [hid_iff, HV.out, if_pos (.inl e1)]
    clear e1 HV hU1
    go_enter Tryz.func86, Tryz.ntmps86
    go_wp2_with (go_at_call 78; refine hA1.mono ?_; rintro e w2 ⟨rfl, hb2⟩)
    go_ret
    exact ⟨(by rw [HW.out]; first | done | rfl), below_trans hbw hb2⟩
  have hq0 := eq_is sm m
  rw [decide_eq_true e1] at hq0
  clear hq1
  by_cases e2 : kd = 3
  case neg =>
    have HW : Hid (r = ri) := by rw [hid_iff, HV.out, if_pos (.inr (.inl e2))]
    have hq2 : (kd == 3) = false := by simp [e2]
    clear e1 HV hU1
    go_enter Tryz.func86, Tryz.ntmps86
    go_wp2_with (go_at_call 78; refine hA1.mono ?_; rintro e w2 ⟨rfl, hb2⟩)
    go_ret
    exact ⟨(by rw [HW.out]; first | done | rfl), below_trans hbw hb2⟩
  subst e2
  by_cases e3 : nm = []
  case neg =>
    have HW : Hid (r = ri) := by rw [hid_iff, HV.out, if_pos (.inr (.inr e3))]
    rw [decide_eq_false e3] at hq3
    have hq4 : ¬ (str nm).toList = [] := by
      intro hh
      rw [hh] at hq3
      cases hq3
    clear e1 HV hU1 e3
    go_enter Tryz.func86, Tryz.ntmps86
    go_wp2_with (go_at_call 78; refine hA1.mono ?_; rintro e w2 ⟨rfl, hb2⟩)
    go_ret
    exact ⟨(by rw [HW.out]; first | done | rfl), below_trans hbw hb2⟩
  rw [decide_eq_true e3] at hq3
  have hq4 : (str nm).toList = [] := by rw [← List.isEmpty_iff]; exact hq3
  have HV' := HV.out
  rw [if_neg (by rintro (hh | hh | hh); exact hh e1; exact hh rfl; exact hh e3)] at HV'
  have HV2 := hidden HV'
  clear HV HV' e1 e3 hA1
  by_cases e4 : 0 < cs.length
  · have HW : Hid (r = 12) := by rw [hid_iff, HV2.out, if_pos e4]
    have e4i : (0 : Int) < (cs.length : Int) := by omega
    clear HV2 hU1
    go_enter Tryz.func86, Tryz.ntmps86
    go_wp2
    go_ret
    exact ⟨(by rw [HW.out]; first | done | rfl), hbw⟩
  · have e4i : ¬ (0 : Int) < (cs.length : Int) := by omega
    have HV3 := HV2.out
    rw [if_neg e4] at HV3
    cases un
    · have HW : Hid (r = 21) := by rw [hid_iff, HV3]; rfl
      clear HV2 HV3
      go_enter Tryz.func86, Tryz.ntmps86
      go_wp2_with (go_at_call 145; refine hU1.mono ?_; rintro e w2 ⟨rfl, hb2⟩)
      go_ret
      exact ⟨(by rw [HW.out]; first | done | rfl), below_trans hbw hb2⟩
    · have HW : Hid (r = 0) := by rw [hid_iff, HV3]; rfl
      clear HV2 HV3
      go_enter Tryz.func86, Tryz.ntmps86
      go_wp2_with (go_at_call 145; refine hU1.mono ?_; rintro e w2 ⟨rfl, hb2⟩)
      go_ret
      exact ⟨(by rw [HW.out]; first | done | rfl), below_trans hbw hb2⟩
set_option maxHeartbeats 4000000 in
set_option maxRecDepth 1000000 in
theorem symbolAt (F : Nat → Prop) (u : ObV) (o : Ob) (w : World) (h : ObR F w u o) (hF : ∀ g, F g → g < w.heap.size) (hok : ObOk o) (h48 : o.funs.length ≤ 48) (k : Nat) (hk : k < o.symbols.length) : Calls Tryz.prog 37 #[obv u o.mod, .int .i64 (k : Int)] w (NumB (elemO o 5 k) w) := by
  have HV : Hid (elemO o 5 k = symbolO o.mod o.funs (o.symbols.take k) o.symbols[k]) := by rw [hid_iff, elemO, List.getElem?_eq_getElem hk]
  generalize elemO o 5 k = r at *
  have hT := h.symbols
  obtain ⟨g, of, cap, cs, e1, hcap, hg, hC, hcell⟩ := hT.at k hk
  have hxo := hok.symbols _ (List.getElem_mem hk)
  have hm := hok.mod
  have hns := hok.ns
  have hOb := h
  have hRI := fun v s cv hv hcv hs => orightItem F u o s cv v (h.below hv hF) (fun g hg => Nat.lt_of_lt_of_le (hF g hg) hv.size) hcv hs h48
  obtain ⟨b1, d1, e1'⟩ := h.types.shape
  obtain ⟨b2, d2, e2'⟩ := h.texts.1.shape
  obtain ⟨b3, d3, e3'⟩ := h.globals.shape
  obtain ⟨b4, d4, e4'⟩ := h.funs.shape
  obtain ⟨b5, d5, e5'⟩ := h.exports.1.shape
  obtain ⟨b7, d7, e7'⟩ := h.relocs.shape
  obtain ⟨m, ts, xs, gs, fs, es, ss, rs⟩ := o
  obtain ⟨tv, xv, gv, fv, ev, sv, rv⟩ := u
  unfold obv
  simp only at *
  subst e1
  have hk' : k < ss.length := hk
  have hTk := hT.take k (by omega)
  rcases hx : ss[k] with ⟨sm, kd, nm, ty, cs⟩
  rw [hx] at hC hxo HV
  obtain ⟨cv, rfl, hcv⟩ := hC
  obtain ⟨hn, hi⟩ := hxo
  simp only at hn hcv hcell
  have q0 := hcell 0 _ rfl
  have q1 := hcell 1 _ rfl
  have q2 := hcell 2 _ rfl
  have q3 := hcell 3 _ rfl
  have q4 := hcell 4 _ rfl
  simp only [Nat.add_zero] at q0
  have ki0 : (k : Int) < (ss.length : Int) := by omega
  have ki1 : (k : Int) ≤ (cap : Int) := by omega
  have ki2 : (0 : Int) ≤ (k : Int) := by omega
  generalize hW : w.alloc (.cells #[.string (str m), tv, xv, gv, fv, ev, (.slice (some ⟨g, of, none⟩) ss.length cap), rv] 84) = W0 at *
  have hb0 : Below w.heap.size w W0 := by rw [← hW]; exact (Below.refl _ _).alloc (Nat.le_refl _) _
  have hs0 : W0.heap.size = w.heap.size + 1 := by rw [← hW]; simp
  have hN0 := heap_alloc_new w (.cells #[.string (str m), tv, xv, gv, fv, ev, (.slice (some ⟨g, of, none⟩) ss.length cap), rv] 84)
  rw [hW] at hN0
  generalize hW1 : W0.alloc (.cells #[.string (str sm), .int .i64 kd, .string (str nm), .string (str ty), cv] 40) = W1 at *
  have hb1 : Below W0.heap.size W0 W1 := by rw [← hW1]; exact (Below.refl _ _).alloc (Nat.le_refl _) _
  have hs1 : W1.heap.size = w.heap.size + 2 := by rw [← hW1]; simp; omega
  have hN1 := heap_alloc_new W0 (.cells #[.string (str sm), .int .i64 kd, .string (str nm), .string (str ty), cv] 40)
  rw [hW1, hs0] at hN1
  have hbw : Below w.heap.size w W1 := below_trans hb0 hb1
  have HC : ∀ u, Below W1.heap.size W1 u → (u.cell? ⟨w.heap.size, 0, none⟩ = some (.string (str m)) ∧ u.cell? ⟨w.heap.size, 1, none⟩ = some (tv) ∧ u.cell? ⟨w.heap.size, 2, none⟩ = some (xv) ∧ u.cell? ⟨w.heap.size, 3, none⟩ = some (gv) ∧ u.cell? ⟨w.heap.size, 4, none⟩ = some (fv) ∧ u.cell? ⟨w.heap.size, 5, none⟩ = some (ev) ∧ u.cell? ⟨w.heap.size, 6, none⟩ = some ((.slice (some ⟨g, of, none⟩) ss.length cap)) ∧ u.cell? ⟨w.heap.size, 7, none⟩ = some (rv)) ∧ (u.cell? ⟨w.heap.size + 1, 0, none⟩ = some (.string (str sm)) ∧ u.cell? ⟨w.heap.size + 1, 1, none⟩ = some (.int .i64 kd) ∧ u.cell? ⟨w.heap.size + 1, 2, none⟩ = some (.string (str nm)) ∧ u.cell? ⟨w.heap.size + 1, 3, none⟩ = some (.string (str ty)) ∧ u.cell? ⟨w.heap.size + 1, 4, none⟩ = some (cv)) ∧ Below w.heap.size w u := by
    intro u hu
    have n0 := (hu.block w.heap.size (by omega)).trans ((hb1.block _ (by omega)).trans hN0)
    have n1 := (hu.block (w.heap.size + 1) (by omega)).trans hN1
    exact ⟨⟨(by rw [cell_of_row u _ 0 _ _ _ n0]; rfl), (by rw [cell_of_row u _ 1 _ _ _ n0]; rfl), (by rw [cell_of_row u _ 2 _ _ _ n0]; rfl), (by rw [cell_of_row u _ 3 _ _ _ n0]; rfl), (by rw [cell_of_row u _ 4 _ _ _ n0]; rfl), (by rw [cell_of_row u _ 5 _ _ _ n0]; rfl), (by rw [cell_of_row u _ 6 _ _ _ n0]; rfl), (by rw [cell_of_row u _ 7 _ _ _ n0]; rfl)⟩, ⟨(by rw [cell_of_row u _ 0 _ _ _ n1]; rfl), (by rw [cell_of_row u _ 1 _ _ _ n1]; rfl), (by rw [cell_of_row u _ 2 _ _ _ n1]; rfl), (by rw [cell_of_row u _ 3 _ _ _ n1]; rfl), (by rw [cell_of_row u _ 4 _ _ _ n1]; rfl)⟩, below_trans hbw hu⟩
  have y0 := (hb0.cell (p := ⟨g, of + k * 5, none⟩) (hF g hg)).trans q0
  have y1 := (hb0.cell (p := ⟨g, of + k * 5 + 1, none⟩) (hF g hg)).trans q1
  have y2 := (hb0.cell (p := ⟨g, of + k * 5 + 2, none⟩) (hF g hg)).trans q2
  have y3 := (hb0.cell (p := ⟨g, of + k * 5 + 3, none⟩) (hF g hg)).trans q3
  have y4 := (hb0.cell (p := ⟨g, of + k * 5 + 4, none⟩) (hF g hg)).trans q4
  have zz : W0.cell? ⟨w.heap.size, 6, none⟩ = some ((.slice (some ⟨g, of, none⟩) ss.length cap)) := by rw [cell_of_row W0 _ 6 _ _ _ hN0]; rfl
  obtain ⟨⟨z0, z1, z2, z3, z4, z5, z6, z7⟩, ⟨x0, x1, x2, x3, x4⟩, -⟩ := HC W1 (Below.refl _ _)
  have HCh := hidden HC
  have hUp : ∀ u, Below W1.heap.size W1 u → Below w.heap.size w u ∧ ∀ g, F g → g < u.heap.size := fun u hu => ⟨(HC u hu).2.2, fun g hg => by have := hF g hg; have := hu.size; omega⟩
  have hU2 : ∀ u, Below W1.heap.size W1 u → w.heap.size + 1 < u.heap.size := fun u hu => by have := hu.size; omega
  subst e1' e2' e3' e4' e5' e7'
  obtain ⟨ca, cc, rfl⟩ := hcv.shape
  have hV := fun u => value (str sm) u (by rw [str_size]; unfold Tk at hn; omega)
  rw [str_data] at hV
  have hR1 := hRI W1 ⟨sm, kd, nm, ty, cs⟩ (.slice ca cs.length cc) hbw (hcv.below hbw hF) ⟨hn, hi⟩
  have hG : ∀ u, Below W1.heap.size W1 u → Calls Tryz.prog 87 #[.slice (some ⟨g, of, none⟩) k cap, .func (.func 88) #[syv ⟨sm, kd, nm, ty, cs⟩ (.slice ca cs.length cc)] #[]] u (BoolB ((ss.take k).any (fun t => sameSy ⟨sm, kd, nm, ty, cs⟩ t)) u) := fun u hu =>
    conS F _ (ss.take k) _ (fun t => sameSy ⟨sm, kd, nm, ty, cs⟩ t) u (hTk.below cSy_stay (hUp u hu).1 hF) (hUp u hu).2 (by rw [List.length_take]; omega) (fun j hj cv' wr hwr => oisSame _ _ _ _ wr)
  have HR : Hid (symbolO m fs (ss.take k) ⟨sm, kd, nm, ty, cs⟩ = if valueR sm = false then 13 else if itemO m fs ⟨sm, kd, nm, ty, cs⟩ ≠ 0 then itemO m fs ⟨sm, kd, nm, ty, cs⟩ else if (ss.take k).any (fun t => sameSy ⟨sm, kd, nm, ty, cs⟩ t) = true then 15 else 0) := rfl
  unfold syv obv at hR1
  unfold syv at hG
  simp only at hR1 hG
  generalize (ss.take k).any (fun t => sameSy ⟨sm, kd, nm, ty, cs⟩ t) = an at *
  generalize itemO m fs ⟨sm, kd, nm, ty, cs⟩ = ri at *
  generalize valueR sm = vn at *
  rw [HR.out] at HV
  clear HR h hOb hRI hT hTk hok hx hcell HC q0 q1 q2 q3 q4 hcv
  have HGh := hidden hG
  clear hG hUp hU2
  cases vn
  · have HW : Hid (r = 13) := HV
    go_enter Tryz.func37, Tryz.ntmps37
    go_wp2_with (go_at_call 30; refine (hV _).mono ?_; rintro e w2 ⟨rfl, hw2⟩; obtain rfl := hw2.symm)
    go_ret
    exact ⟨(by rw [HW.out]; first | done | rfl), hbw⟩
  · by_cases h0 : ri = 0
    · subst h0
      go_enter Tryz.func37, Tryz.ntmps37
      go_wp2_with (go_at_call 30; refine (hV _).mono ?_; rintro e w2 ⟨rfl, hw2⟩; obtain rfl := hw2.symm)
      refine hR1.mono ?_
      rintro e w3 ⟨rfl, hb3⟩
      clear hR1 y0 y1 y2 y3 y4 zz z0 z1 z2 z3 z4 z5 z6 z7 x0 x1 x2 x3 x4
      obtain ⟨⟨-, -, -, -, -, -, c6, -⟩, ⟨d0, d1, d2, d3, d4⟩, hw3⟩ := HCh.out w3 hb3
      go_wp2_with fail
      first | (go_region_with (go_at_call 87; refine (HGh.out _ (by first | exact hb3 | exact below_drew hb3)).mono ?_; rintro e w4 ⟨rfl, hb4⟩)) | fail
      all_goals (
        have hb4' : Below W1.heap.size W1 w4 := below_trans hb3 (by first | exact hb4 | exact below_undrew hb4)
        have hw4 := (HCh.out w4 hb4').2.2
        clear hb4 c6 d0 d1 d2 d3 d4
        cases an
        · have HW : Hid (r = 0) := HV
          go_wp2
          go_ret
          exact ⟨(by rw [HW.out]; first | done | rfl), hw4⟩
        · have HW : Hid (r = 15) := HV
          go_wp2
          go_ret
          exact ⟨(by rw [HW.out]; first | done | rfl), hw4⟩)
    · have HW : Hid (r = ri) := by rw [hid_iff, HV.out, if_neg (by simp), if_pos h0]
      have h0i : ¬ (ri : Int) = 0 := by omega
      go_enter Tryz.func37, Tryz.ntmps37
      go_wp2_with (go_at_call 30; refine (hV _).mono ?_; rintro e w2 ⟨rfl, hw2⟩; obtain rfl := hw2.symm)
      refine hR1.mono ?_
      rintro e w3 ⟨rfl, hb3⟩
      have hw3 := (HCh.out w3 hb3).2.2
      clear hR1 y0 y1 y2 y3 y4 zz z0 z1 z2 z3 z4 z5 z6 z7 x0 x1 x2 x3 x4
      go_wp2
      go_ret
      exact ⟨(by rw [HW.out]; first | done | rfl), hw3⟩
end Go.Proofs.YtokkhdpkadgffaaGreatDoor

namespace Go.Proofs.YtokkhdpkadgffaaGreatDoor
open Go.RowKit

theorem take_next {xs ys : List (List UInt8)} {k : Nat} (hx : k < xs.length) (hy : k < ys.length) (h : xs.take k = ys.take k) (he : xs[k] = ys[k]) : xs.take (k + 1) = ys.take (k + 1) := by
  rw [List.take_succ_eq_append_getElem hx, List.take_succ_eq_append_getElem hy, h, he]
theorem StrRow.at {w : World} {v : Value} {xs : List (List UInt8)} (h : StrRow w v xs) (i : Nat) (hi : i < xs.length) : ∃ bk o c, v = .slice (some ⟨bk, o, none⟩) xs.length c ∧ w.cell? ⟨bk, o + i, none⟩ = some (.string (str xs[i])) := by
  rcases h with ⟨rfl, _⟩ | ⟨bk, o, c, rfl, _, _, h3⟩
  · simp at hi
  · exact ⟨bk, o, c, rfl, h3 i _ (List.getElem?_eq_getElem hi)⟩

set_option maxHeartbeats 2000000 in
set_option maxRecDepth 1000000 in
theorem sameS (v v' : Value) (xs ys : List (List UInt8)) (w : World) (h : StrRow w v xs) (h' : StrRow w v' ys) (_hl : xs.length ≤ 8796093022208) (_hl' : ys.length ≤ 8796093022208) : Calls Tryz.prog 13 #[v, v'] w (BoolE (decide (xs = ys)) w) := by
  obtain ⟨va, vc, hv⟩ := h.shape
  obtain ⟨ua, uc, hu⟩ := h'.shape
  by_cases hn : xs.length = ys.length
  · have hn' : ((xs.length : Int) != (ys.length : Int)) = false := by simp; omega
    have h1 := hidden h
    have h2 := hidden h'
    have H1 : Hid (∃ va vc, v = .slice va xs.length vc) := ⟨va, vc, hv⟩
    clear h h'
    subst hv hu
    go_enter Tryz.func13, Tryz.ntmps13
    go_wp2
    go_loopg [5] xs.length (fun g i wr => ∃ (k n : Nat), g + k = xs.length ∧ i = .int .i64 (k : Int) ∧ Hid (xs.take k = ys.take k) ∧ wr = w.drewN n)
    case atStart => exact ⟨0, 0, rfl, rfl, rfl, rfl⟩
    case round =>
      obtain ⟨k, n, hg, rfl, ht, rfl⟩ := hrel
      by_cases hk : k < xs.length
      · have hky : k < ys.length := by omega
        obtain ⟨b1, o1, c1, e1, q1⟩ := h1.out.at k hk
        obtain ⟨b2, o2, c2, e2, q2⟩ := h2.out.at k hky
        simp only [Value.slice.injEq, true_and] at e1 e2
        obtain ⟨rfl, rfl⟩ := e1
        obtain ⟨rfl, rfl⟩ := e2
        have hki : (k : Int) < (xs.length : Int) := by omega
        have hkj : (k : Int) < (ys.length : Int) := by omega
        by_cases he : xs[k] = ys[k]
        · have HT : Hid (xs.take (k + 1) = ys.take (k + 1)) := take_next hk hky ht.out he
          rw [← he] at q2
          generalize xs[k] = x at *
          clear he ht hn
          go_wp2
          go_region
          go_wp2
          go_roundg (xs.length - (k + 1))
          case measure => omega
          case rel => exact ⟨k + 1, n + 1, by omega, by go_num, HT, rfl⟩
        · have HE : Hid (decide (xs = ys) = false) := decide_eq_false (fun e => he (by subst e; rfl))
          have hne : ((str xs[k]).toList == (str ys[k]).toList) = false := by
            rw [beq_eq_false_iff_ne, Lib.toList_data, Lib.toList_data, str_data, str_data]
            exact he
          have hne' : ((str xs[k]).toList != (str ys[k]).toList) = true := by simp only [bne, hne]; rfl
          clear he ht hn
          generalize xs[k] = x at *
          generalize ys[k] = y at *
          go_wp2
          go_region
          go_wp2
          go_ret
          exact ⟨by rw [HE.out]; rfl, n + 1, rfl⟩
      · have HE : Hid (decide (xs = ys) = true) := by
          refine decide_eq_true ?_
          have := ht.out
          rwa [List.take_of_length_le (by omega), List.take_of_length_le (by omega)] at this
        have hki : ¬ (k : Int) < (xs.length : Int) := by omega
        clear ht hn
        go_wp2
        go_ret
        exact ⟨by rw [HE.out]; rfl, n, rfl⟩
  · have hn' : ((xs.length : Int) != (ys.length : Int)) = true := by simp; omega
    have HE : Hid (decide (xs = ys) = false) := decide_eq_false (fun e => hn (by rw [e]))
    clear hn h h'
    subst hv hu
    go_enter Tryz.func13, Tryz.ntmps13
    go_wp2
    go_ret
    exact ⟨by rw [HE.out]; rfl, 0, rfl⟩
end Go.Proofs.YtokkhdpkadgffaaGreatDoor

namespace Go.Proofs.YtokkhdpkadgffaaGreatDoor
open Go.RowKit

/-- The modules of some symbols that are not m. -/
def impF (m : List UInt8) (ss : List Sy) : List (List UInt8) := (ss.map (·.mod)).filter fun x => decide (x ≠ m)
theorem impF_yes (m : List UInt8) (ss : List Sy) (k : Nat) (h : k < ss.length) (hn : ss[k].mod ≠ m) : impF m (ss.take (k + 1)) = impF m (ss.take k) ++ [ss[k].mod] := by
  rw [impF, List.take_succ_eq_append_getElem h, List.map_append, List.filter_append]
  simp [impF, hn]
theorem impF_no (m : List UInt8) (ss : List Sy) (k : Nat) (h : k < ss.length) (hn : ss[k].mod = m) : impF m (ss.take (k + 1)) = impF m (ss.take k) := by
  rw [impF, List.take_succ_eq_append_getElem h, List.map_append, List.filter_append]
  simp [impF, hn]
theorem impF_len (m : List UInt8) (ss : List Sy) : (impF m ss).length ≤ ss.length := by
  have := List.length_filter_le (fun x => decide (x ≠ m)) (ss.map (·.mod))
  rw [List.length_map] at this
  exact this
set_option maxHeartbeats 4000000 in
set_option maxRecDepth 1000000 in
theorem oimports (F : Nat → Prop) (u : ObV) (o : Ob) (w : World) (h : ObR F w u o) (hF : ∀ g, F g → g < w.heap.size) (hok : ObOk o) : Calls Tryz.prog 11 #[obv u o.mod] w fun e w' => ∃ v, e = .returned v ∧ StrRow w' v (importsO o) ∧ Below w.heap.size w w' := by
  have HI : Hid (importsO o = Lib.compact (sortR (impF o.mod o.symbols))) := rfl
  generalize importsO o = im at *
  have hS := h.symbols
  have hso := hok.symbols
  have hns := hok.ns
  obtain ⟨a1, c1, e1⟩ := h.types.shape
  obtain ⟨a2, c2, e2⟩ := h.texts.1.shape
  obtain ⟨a3, c3, e3⟩ := h.globals.shape
  obtain ⟨a4, c4, e4⟩ := h.funs.shape
  obtain ⟨a5, c5, e5⟩ := h.exports.1.shape
  obtain ⟨a7, c7, e7⟩ := h.relocs.shape
  obtain ⟨m, ts, xs, gs, fs, es, ss, rs⟩ := o
  obtain ⟨tv, xv, gv, fv, ev, sv, rv⟩ := u
  unfold obv
  simp only at *
  subst e1 e2 e3 e4 e5 e7
  obtain ⟨a6, c6, rfl⟩ := hS.shape
  generalize ts.length = n1 at *
  generalize xs.length = n2 at *
  generalize gs.length = n3 at *
  generalize fs.length = n4 at *
  generalize es.length = n5 at *
  generalize rs.length = n7 at *
  generalize hW : w.alloc (.cells #[.string (str m), .slice a1 n1 c1, .slice a2 n2 c2, .slice a3 n3 c3, .slice a4 n4 c4, .slice a5 n5 c5, .slice a6 ss.length c6, .slice a7 n7 c7] 35) = W0 at *
  have hb0 : Below w.heap.size w W0 := by rw [← hW]; exact (Below.refl _ _).alloc (Nat.le_refl _) _
  have hs0 : W0.heap.size = w.heap.size + 1 := by rw [← hW]; simp
  have hN0 := heap_alloc_new w (.cells #[.string (str m), .slice a1 n1 c1, .slice a2 n2 c2, .slice a3 n3 c3, .slice a4 n4 c4, .slice a5 n5 c5, .slice a6 ss.length c6, .slice a7 n7 c7] 35)
  rw [hW] at hN0
  have HC : ∀ u, Below W0.heap.size W0 u → u.cell? ⟨w.heap.size, 0, none⟩ = some (.string (str m)) ∧ u.cell? ⟨w.heap.size, 6, none⟩ = some (.slice a6 ss.length c6) ∧ Below w.heap.size w u := by
    intro u hu
    have n0 := (hu.block w.heap.size (by omega)).trans hN0
    exact ⟨by rw [cell_of_row u _ 0 _ _ _ n0]; rfl, by rw [cell_of_row u _ 6 _ _ _ n0]; rfl, below_trans hb0 hu⟩
  have HCh := hidden HC
  obtain ⟨z0, z6, _⟩ := HC W0 (Below.refl _ _)
  have HS := hidden hS
  have HSo := hidden hso
  clear h hS hso hok HC hN0
  go_enter Tryz.func11, Tryz.ntmps11
  go_wp2_with fail
  go_loopg [3, 9] ss.length (fun g x i wr => ∃ (k : Nat), g + k = ss.length ∧ i = .int .i64 (k : Int) ∧ wr.ownsRow W0.heap.size 9 1 x (impF m (ss.take k)).length (sc (impF m (ss.take k))) ∧ Below W0.heap.size W0 wr)
  case atStart => exact ⟨0, by omega, rfl, by simpa [sc, impF] using World.ownsRow_nil _ _ _ _, Below.refl _ _⟩
  case round =>
    obtain ⟨k, hg, rfl, hown, hbl⟩ := hrel
    rename World => wr
    obtain ⟨y0, y6, hwr⟩ := HCh.out wr hbl
    by_cases hk : k < ss.length
    · obtain ⟨g, of, cap, cs, e1, _, hgF, hC, hcell⟩ := (HS.out.below cSy_stay hwr hF).at k hk
      simp only [Value.slice.injEq, true_and] at e1
      obtain ⟨rfl, rfl⟩ := e1
      obtain ⟨cv, rfl, hcv⟩ := hC
      obtain ⟨ca, cc, rfl⟩ := hcv.shape
      have q0 := hcell 0 _ rfl
      have q1 := hcell 1 _ rfl
      have q2 := hcell 2 _ rfl
      have q3 := hcell 3 _ rfl
      have q4 := hcell 4 _ rfl
      simp only [Nat.add_zero] at q0
      have hki : (k : Int) < (ss.length : Int) := by omega
      have hx := (HSo.out _ (List.getElem_mem hk)).1
      have hal := impF_len m (ss.take k)
      have hal2 : (ss.take k).length ≤ k := by simp; omega
      have he := eq_is ss[k].mod m
      have hYes := impF_yes m ss k hk
      have hNo := impF_no m ss k hk
      generalize hTK : impF m (ss.take k) = acc at *
      clear hTK hcell hcv
      generalize ss[k].mod = x at *
      generalize ss[k].item.kind = xk at *
      generalize ss[k].item.name = xn at *
      generalize ss[k].item.ty = xt at *
      generalize ss[k].item.cases.length = xc at *
      generalize hWs : wr.alloc (.cells #[.string (str x), .int .i64 xk, .string (str xn), .string (str xt), .slice ca xc cc] 40) = ws at *
      have hbs : Below wr.heap.size wr ws := by rw [← hWs]; exact (Below.refl _ _).alloc (Nat.le_refl _) _
      have hNs := heap_alloc_new wr (.cells #[.string (str x), .int .i64 xk, .string (str xn), .string (str xt), .slice ca xc cc] 40)
      rw [hWs] at hNs
      have d0 : ws.cell? ⟨wr.heap.size, 0, none⟩ = some (.string (str x)) := by rw [cell_of_row ws _ 0 _ _ _ hNs]; rfl
      have hb0s : Below W0.heap.size W0 ws := below_trans hbl hbs
      obtain ⟨v0, v6, hws⟩ := HCh.out ws hb0s
      have hos := owns_below hown hbs
      have hsr := hbl.size
      have hss := hb0s.size
      by_cases hn : x = m
      · have HX := hidden (hNo hn)
        rw [decide_eq_true hn] at he
        clear hn hYes hNo hown hbl y0 y6 hNs
        go_wp2
        go_roundg (ss.length - (k + 1))
        case measure => omega
        case rel => exact ⟨k + 1, by omega, by go_num, by rw [HX.out]; exact hos, hb0s⟩
      · have HX := hidden (hYes hn)
        rw [decide_eq_false hn] at he
        clear hn hYes hNo hown hbl y0 y6 hNs
        go_wp2_with fail
        refine (sCloneT x _ hx).mono ?_
        rintro e w9 ⟨rfl, hb9⟩
        have ho9 := owns_below hos hb9
        have hb90 : Below W0.heap.size W0 w9 := below_trans hb0s hb9
        have hB9 := hb90.size
        clear hos hb9 hb0s v0 v6 d0
        go_wp2_with (at_builtin; refine append_textN rfl (.tmp 18) (.tmp 22) rfl W0.heap.size _ acc rfl (ho9.alloc _) _ _ x rfl ?src ?len ?hB ?next)
        case src => first | exact cells_new _ _ _ | exact fun j u h => h
        case len => first | omega | (simp; omega)
        case hB => first | omega | (simp; omega)
        case next =>
          intro ad c' w' k1 k2
          have k3 := below_grown (ho9.alloc _) (by simp; omega) (hb90.alloc hB9 _) k2
          clear k2 ho9 hb90
          go_wp2
          go_roundg (ss.length - (k + 1))
          case measure => omega
          case rel => exact ⟨k + 1, by omega, by go_num, by rw [HX.out, List.length_append, List.length_singleton]; first | exact k1 | (rw [hs0]; exact k1), k3⟩
    · have hki : ¬ (k : Int) < (ss.length : Int) := by omega
      rw [List.take_of_length_le (by omega)] at hown
      have hro := rowO_own hown
      have hil := impF_len m ss
      clear hown y0 y6
      go_wp2_with fail
      refine (sortO _ _ _ _ hro (by omega)).mono ?_
      rintro e w2 ⟨rfl, hr2, hb2⟩
      go_wp2_with fail
      refine (compactO _ _ _ _ hr2 (by rw [sortR_length]; omega)).mono ?_
      rintro e w3 ⟨v3, rfl, hr3, hb3⟩
      have hbe : Below w.heap.size w w3 := hb0.trans ((hbl.trans (hb2.trans hb3)).mono (by omega))
      clear hro hr2 hb2 hb3
      go_wp2
      go_ret
      exact ⟨v3, rfl, by rw [HI.out]; exact hr3, hbe⟩
end Go.Proofs.YtokkhdpkadgffaaGreatDoor

namespace Go.Proofs.YtokkhdpkadgffaaGreatDoor
open Go.RowKit

def obN (fs : List Fn) (es : List (List UInt8)) (ss : List Sy) : Ob := ⟨[109], [], [], [], fs, es, ss, []⟩
def ovN (fv ev sv : Value) : ObV := ⟨.slice none 0 0, .slice none 0 0, .slice none 0 0, fv, ev, sv, .slice none 0 0⟩
theorem right_N (F : Nat → Prop) (fs : List Fn) (es : List (List UInt8)) (ss : List Sy) (fv ev sv : Value) (W : World) (hf : FnR F W fv fs) (he : TxC F W ev es) (hs : SyR F W sv ss) (hF : ∀ g, F g → g < W.heap.size) (hfo : ∀ f ∈ fs, FnOk f) (heo : ∀ x ∈ es, Tk x) (hso : ∀ s ∈ ss, SyOk s) (h48 : fs.length ≤ 48) (hel : es.length ≤ 32) (hsl : ss.length ≤ 96) (hee : ∀ x ∈ es, x ≠ [] ∧ ∀ f ∈ fs, f.name ≠ x) :
    Calls Tryz.prog 9 #[obv (ovN fv ev sv) [109]] W (TwoB (rightO (obN fs es ss)) W) := by
  have hObR : ∀ V, Below W.heap.size W V → ObR F V (ovN fv ev sv) (obN fs es ss) := fun V hV => by
    have nl : TxC F V (.slice none 0 0) [] := ⟨TxR.nil _ _, by rintro a n c hh; simp only [Value.slice.injEq] at hh; omega⟩
    exact ⟨ItR.nil _ _, nl, RwR.nil _ _ _ _, hf.below cFn_stay hV hF, ⟨he.1.below hV hF, he.2⟩, hs.below cSy_stay hV hF, RwR.nil _ _ _ _⟩
  have hFV : ∀ V, Below W.heap.size W V → ∀ g, F g → g < V.heap.size := fun V hV g hg => Nat.lt_of_lt_of_le (hF g hg) hV.size
  have hOk : ObOk (obN fs es ss) := ⟨by simp [obN, Tk], by simp [obN], by simp [obN], by simp [obN], by simp [obN], by simp [obN], by simp [obN], by show fs.length ≤ _; omega, hfo, by show es.length ≤ _; omega, heo, by show ss.length ≤ _; omega, hso, by simp [obN], by simp [obN]⟩
  refine rightOb F (ovN fv ev sv) (obN fs es ss) W (hObR W (Below.refl _ _)) hF (by simp [obN, Tk]) (fun _ _ j i hj hi V hV => ?_)
  rcases j with _ | _ | _ | _ | _ | _ | _ | j
  · simp [lenO, obN] at hi
  · simp [lenO, obN] at hi
  · simp [lenO, obN] at hi
  · exact funAt F _ _ V (hObR V hV) (hFV V hV) hOk i hi
  · refine exportAt F _ _ V (hObR V hV) (hFV V hV) hOk i hi (fun U hU => ?_)
    have hx := hee _ (List.getElem_mem hi)
    exact onamed_types F _ _ _ U ((hObR V hV).below hU (hFV V hV)) (fun g hg => Nat.lt_of_lt_of_le (hFV V hV g hg) hU.size) hOk hx.1 (by simp [obN]) hx.2 (by simp [obN])
  · exact symbolAt F _ _ V (hObR V hV) (hFV V hV) hOk h48 i hi
  · simp [lenO, obN] at hi
  · omega
theorem sizeOb : (Tryz.prog.info? 35).map (·.size) = some 8 := by kernel_rfl
theorem res3 {P : Program} {fn : Func} {p u v : Tmp} {ty : TypeId} (h : fn.results = #[.cell p ty, .tmp u, .tmp v]) (tmps : Array Value) (w : World) (g : Nat) (t : TypeId) (cs : Array Value) (fr : Nat × Nat) (d : TypeDesc)
    (hp : tmps.getD p undef = .pointer (some ⟨g, 0, none⟩)) (hg : w.heap[g]? = some (.cells cs t fr))
    (hu : P.underlying ty = some d) (hd : (match d with | .struct _ | .array _ _ => true | _ => false) = true) (hi : (P.info? ty).map (·.size) = some cs.size) :
    (results fn tmps).run P w = .ok (.tuple #[.agg cs, tmps.getD u undef, tmps.getD v undef]) w := by
  have hp' : tmps[p]?.getD undef = .pointer (some ⟨g, 0, none⟩) := by simpa using hp
  simp [results, h, hp', asAddr, run_loadVar_row w g t ty cs fr d hg hu hd hi]
set_option maxHeartbeats 1000000 in
set_option maxRecDepth 1000000 in
theorem decode_long (a : Option Addr) (n c : Nat) (w : World) (hn : 8192 < n) : Calls Tryz.prog 10 #[.slice a n c] w fun e w' => e = .returned (.tuple #[.agg #[.string ⟨#[]⟩, .slice none 0 0, .slice none 0 0, .slice none 0 0, .slice none 0 0, .slice none 0 0, .slice none 0 0, .slice none 0 0], .int .i64 3, .int .i64 0]) ∧ Below w.heap.size w w' := by
  have hni : (8192 : Int) < (n : Int) := by omega
  have hr := heap_alloc_new w (.cells #[.string ⟨#[]⟩, .slice none 0 0, .slice none 0 0, .slice none 0 0, .slice none 0 0, .slice none 0 0, .slice none 0 0, .slice none 0 0] 35)
  have hb : Below w.heap.size w (w.alloc (.cells #[.string ⟨#[]⟩, .slice none 0 0, .slice none 0 0, .slice none 0 0, .slice none 0 0, .slice none 0 0, .slice none 0 0, .slice none 0 0] 35)) := (Below.refl _ _).alloc (Nat.le_refl _) _
  go_enter Tryz.func10, Tryz.ntmps10
  go_wp2
  (try simp only [Exit.inBlock, Exit.then])
  refine bodyPost_ret (res3 rfl _ _ w.heap.size 35 #[.string ⟨#[]⟩, .slice none 0 0, .slice none 0 0, .slice none 0 0, .slice none 0 0, .slice none 0 0, .slice none 0 0, .slice none 0 0] (0, 0) _ rfl hr Tryz.underlying35 rfl sizeOb) rfl ?_
  exact ⟨rfl, hb⟩
def numT : List UInt8 := [110, 117, 109]
def fN : Fn := ⟨[], [numT, [98, 121, 116, 101, 115]], 1, numT, 2, []⟩
def gN : Fn := ⟨[103], [numT, [98, 121, 116, 101, 115]], 1, numT, 2, []⟩
def sN : Sy := ⟨[109], ⟨3, [], [49], []⟩⟩
theorem r_a : rightO (obN [fN, fN] [[103]] []) = (16, 0) := by kernel_rfl
theorem r_c : rightO (obN [fN, gN] [] []) = (19, 1) := by kernel_rfl
theorem r_e : rightO (obN [fN, fN] [] [sN]) = (0, 0) := by kernel_rfl
theorem r_h : rightO (obN [fN] [] [sN]) = (21, 0) := by kernel_rfl
theorem r_sign : signO fN = [40, 98, 121, 116, 101, 115, 41, 110, 117, 109] := by kernel_rfl
def zN (m : List UInt8) : Sy := ⟨m, ⟨0, [], [], []⟩⟩
theorem r_imp : importsO (obN [] [] [zN [122], zN [109], zN [97], zN [122]]) = [[97], [122]] := by
  have e : ((obN [] [] [zN [122], zN [109], zN [97], zN [122]]).symbols.map (·.mod)).filter (fun m => decide (m ≠ (obN [] [] [zN [122], zN [109], zN [97], zN [122]]).mod)) = [[122], [97], [122]] := by decide
  unfold importsO
  rw [e]
  refine onceR_eq (by unfold Asc; decide) (fun x => ?_)
  simp only [List.mem_cons, List.not_mem_nil, or_false]
  constructor
  · rintro (rfl | rfl) <;> simp
  · rintro (rfl | rfl | rfl) <;> simp
theorem flat14 {α : Type} {sz : Nat} : ∀ (ps : List (α × List Value)), (∀ p ∈ ps, p.2.length = sz) → ∀ (j : Nat) (h : j < ps.length) (i : Nat), i < sz → (ps.flatMap (·.2))[j * sz + i]? = ps[j].2[i]?
  | p :: r, hl, 0, _, i, hi => by
    rw [Nat.zero_mul, Nat.zero_add, List.flatMap_cons, List.getElem?_append_left (by rw [hl p (by simp)]; exact hi)]
    rfl
  | p :: r, hl, j + 1, h, i, hi => by
    have := flat14 r (fun q hq => hl q (List.mem_cons_of_mem _ hq)) j (by simpa using h) i hi
    have hp := hl p (by simp)
    rw [List.flatMap_cons, List.getElem?_append_right (by rw [hp, Nat.add_mul]; omega), hp]
    have e : (j + 1) * sz + i - sz = j * sz + i := by rw [Nat.add_mul]; omega
    rw [e]
    simpa using this
/-- A block's cells as a row of structs. -/
theorem row_block {α : Type} {sz : Nat} {C : (Nat → Prop) → World → α → List Value → Prop} {F : Nat → Prop} {V : World} {b T : Nat} (ps : List (α × List Value)) (hN : V.heap[b]? = some (.cells (ps.flatMap (·.2)).toArray T (0, 0))) (hl : ∀ p ∈ ps, p.2.length = sz) (hC : ∀ p ∈ ps, C F V p.1 p.2) (hF : F b) : RwR sz C F V (.slice (some ⟨b, 0, none⟩) ps.length ps.length) (ps.map (·.1)) := by
  refine .inr ⟨b, 0, ps.length, by simp, by simp, hF, fun j x hj => ?_⟩
  rw [List.getElem?_map] at hj
  obtain ⟨p, hp, rfl⟩ := Option.map_eq_some_iff.1 hj
  obtain ⟨hlt, rfl⟩ := List.getElem?_eq_some_iff.1 hp
  refine ⟨ps[j].2, hC _ (List.getElem_mem hlt), fun i y hy => ?_⟩
  have hi : i < sz := by rw [← hl _ (List.getElem_mem hlt)]; exact (List.getElem?_eq_some_iff.1 hy).1
  rw [cell_of_row V b (0 + j * sz + i) _ _ _ hN, Nat.zero_add, List.getElem?_toArray, flat14 ps hl j hlt i hi, hy]
/-- The parameters' row of the law. -/
def PN (V : World) (b : Nat) : Prop := V.heap[b]? = some (.cells #[.string ⟨#[110, 117, 109]⟩, .string ⟨#[98, 121, 116, 101, 115]⟩] 9 (0, 0))
def cN (b : Nat) (nm : List UInt8) : List Value := [.string (str nm), .slice (some ⟨b, 0, none⟩) 2 2, .int .i64 1, .string ⟨#[110, 117, 109]⟩, .int .i64 2, .slice none 0 0]
theorem cN_ok {F : Nat → Prop} {V : World} {b : Nat} (h : PN V b) (hF : F b) (f : Fn) (nm : List UInt8) (hf : f = ⟨nm, [numT, [98, 121, 116, 101, 115]], 1, numT, 2, []⟩) : cFn F V f (cN b nm) := by
  subst hf
  refine ⟨.slice (some ⟨b, 0, none⟩) 2 2, .slice none 0 0, rfl, ⟨.inr ⟨b, 0, 2, rfl, hF, fun j x hj => ?_⟩, ?_⟩, .inl ⟨_, _, rfl, rfl⟩⟩
  · rcases j with _ | _ | j
    · cases hj; rw [cell_of_row V _ _ _ _ _ h]; rfl
    · cases hj; rw [cell_of_row V _ _ _ _ _ h]; rfl
    · simp at hj
  · rintro a n c hh
    simp only [Value.slice.injEq] at hh
    omega
theorem fN_ok : FnOk fN := by
  refine ⟨by simp [fN, Tk], by simp [fN], ?_, ⟨by simp [fN], by simp [fN]⟩, by simp [fN, Tk, numT], ⟨by simp [fN], by simp [fN]⟩, by simp [fN]⟩
  intro p hp
  simp only [fN, List.mem_cons, List.not_mem_nil, or_false] at hp
  rcases hp with rfl | rfl <;> simp [Tk, numT]
theorem gN_ok : FnOk gN := by
  refine ⟨by simp [gN, Tk], by simp [gN], ?_, ⟨by simp [gN], by simp [gN]⟩, by simp [gN, Tk, numT], ⟨by simp [gN], by simp [gN]⟩, by simp [gN]⟩
  intro p hp
  simp only [gN, List.mem_cons, List.not_mem_nil, or_false] at hp
  rcases hp with rfl | rfl <;> simp [Tk, numT]
theorem sN_ok : SyOk sN := by
  refine ⟨by simp [sN, Tk], by simp [sN], by simp [sN], by simp [sN, Tk], by simp [sN, Tk], by simp [sN], by simp [sN]⟩
end Go.Proofs.YtokkhdpkadgffaaGreatDoor

namespace Go.Proofs.YtokkhdpkadgffaaGreatDoor
open Go.RowKit Go.Deep

theorem p_right {V : World} {F : Nat → Prop} {b : Nat} (fs : List (Fn × List UInt8)) (es : List (List UInt8)) (ss : List Sy) (bf : Nat) (ev sv : Value) (r : Nat × Nat) (hP : PN V b) (hb : F b) (hbf : F bf) (hF : ∀ g, F g → g < V.heap.size)
    (hN : V.heap[bf]? = some (.cells ((fs.map fun p => (p.1, cN b p.2)).flatMap (·.2)).toArray 25 (0, 0))) (hfs : ∀ p ∈ fs, p.1 = ⟨p.2, [numT, [98, 121, 116, 101, 115]], 1, numT, 2, []⟩ ∧ FnOk p.1) (he : TxC F V ev es) (hs : SyR F V sv ss) (heo : ∀ x ∈ es, Tk x) (hso : ∀ s ∈ ss, SyOk s) (h48 : fs.length ≤ 48) (hel : es.length ≤ 32) (hsl : ss.length ≤ 96) (hee : ∀ x ∈ es, x ≠ [] ∧ ∀ p ∈ fs, p.1.name ≠ x)
    (hr : rightO (obN (fs.map (·.1)) es ss) = r) : Calls Tryz.prog 9 #[.agg #[.string ⟨#[109]⟩, .slice none 0 0, .slice none 0 0, .slice none 0 0, .slice (some ⟨bf, 0, none⟩) fs.length fs.length, ev, sv, .slice none 0 0]] V (TwoB r V) := by
  have hRow := row_block (C := cFn) (sz := 6) (F := F) (V := V) (b := bf) (T := 25) (fs.map fun p => (p.1, cN b p.2)) hN (fun p hp => by
    obtain ⟨q, _, rfl⟩ := List.mem_map.1 hp
    rfl) (fun p hp => by
    obtain ⟨q, hq, rfl⟩ := List.mem_map.1 hp
    exact cN_ok hP hb _ _ (hfs q hq).1) hbf
  rw [List.map_map, List.length_map] at hRow
  have := right_N F (fs.map (·.1)) es ss _ ev sv V hRow he hs hF (fun f hf => by
    obtain ⟨q, hq, rfl⟩ := List.mem_map.1 hf
    exact (hfs q hq).2) heo hso (by simpa using h48) hel hsl (fun x hx => ⟨(hee x hx).1, fun f hf => by
    obtain ⟨q, hq, rfl⟩ := List.mem_map.1 hf
    exact (hee x hx).2 q hq⟩)
  rw [hr] at this
  exact this
theorem nilC (F : Nat → Prop) (V : World) : TxC F V (.slice none 0 0) [] := ⟨TxR.nil _ _, by rintro a n c hh; simp only [Value.slice.injEq] at hh; omega⟩
set_option maxHeartbeats 8000000 in
set_option maxRecDepth 1000000 in
theorem numbers_walk (w : World) : Calls Tryz.prog 3 #[] w (BoolB true w) := by
  have hmk := run_make_row' (P := Tryz.prog) 23 5 (.int .u8 0) 1 Tryz.underlying23 (by kernel_rfl) rfl .i64 .i64 8193 (by decide) (by decide)
  have hmk' : ∀ u : World, (Instr.makeSlice 23 (.int .i64 8193) (.int .i64 8193)).run Tryz.prog u = .ok (.slice (some ⟨u.heap.size, 0, none⟩) 8193 8193) (u.alloc (.cells (madeCells #[.int .u8 0] 8193) 5)) := hmk
  clear hmk
  have HMK := hidden hmk'
  clear hmk'
  have hSgn := fun (F : Nat → Prop) (V : World) (h : PN V w.heap.size) (hF : F w.heap.size) (hFl : ∀ g, F g → g < V.heap.size) => (by
    obtain ⟨pv, kv, e, h1, h2⟩ := cN_ok h hF fN [] rfl
    have := osign F fN pv kv V h1 hFl fN_ok (by simp [fN]) (by
      have : (joinR (fN.params.drop (cutO fN))).length = 5 := by kernel_rfl
      omega) (by simp [fN, numT])
    rw [r_sign] at this
    simp only [cN, List.cons.injEq, and_true] at e
    obtain ⟨-, rfl, -, -, -, rfl⟩ := e
    exact this : Calls Tryz.prog 12 #[fnv fN (.slice (some ⟨w.heap.size, 0, none⟩) 2 2) (.slice none 0 0)] V (TextB [40, 98, 121, 116, 101, 115, 41, 110, 117, 109] V))
  go_enter Tryz.func3, Tryz.ntmps3
  go_wp2_with fail
  generalize hW0 : w.alloc (.cells #[.string ⟨#[110, 117, 109]⟩, .string ⟨#[98, 121, 116, 101, 115]⟩] 9) = v0 at *
  have hb0 : Below w.heap.size w v0 := by rw [← hW0]; exact (Below.refl _ _).alloc (Nat.le_refl _) _
  have hN0 := heap_alloc_new w (.cells #[.string ⟨#[110, 117, 109]⟩, .string ⟨#[98, 121, 116, 101, 115]⟩] 9)
  rw [hW0] at hN0
  have hs0 : v0.heap.size = w.heap.size + 1 := by rw [← hW0]; simp
  generalize hW1 : v0.alloc (.cells #[.string ⟨#[]⟩, .slice (some ⟨w.heap.size, 0, none⟩) 2 2, .int .i64 1, .string ⟨#[110, 117, 109]⟩, .int .i64 2, .slice none 0 0] 25) = v1 at *
  have hb1 : Below v0.heap.size v0 v1 := by rw [← hW1]; exact (Below.refl _ _).alloc (Nat.le_refl _) _
  have hN1 := heap_alloc_new v0 (.cells #[.string ⟨#[]⟩, .slice (some ⟨w.heap.size, 0, none⟩) 2 2, .int .i64 1, .string ⟨#[110, 117, 109]⟩, .int .i64 2, .slice none 0 0] 25)
  rw [hW1] at hN1
  have hs1 : v1.heap.size = v0.heap.size + 1 := by rw [← hW1]; simp
  generalize hW2 : v1.alloc (.cells #[.string ⟨#[]⟩, .slice (some ⟨w.heap.size, 0, none⟩) 2 2, .int .i64 1, .string ⟨#[110, 117, 109]⟩, .int .i64 2, .slice none 0 0, .string ⟨#[]⟩, .slice (some ⟨w.heap.size, 0, none⟩) 2 2, .int .i64 1, .string ⟨#[110, 117, 109]⟩, .int .i64 2, .slice none 0 0] 25) = v2 at *
  have hb2 : Below v1.heap.size v1 v2 := by rw [← hW2]; exact (Below.refl _ _).alloc (Nat.le_refl _) _
  have hN2 := heap_alloc_new v1 (.cells #[.string ⟨#[]⟩, .slice (some ⟨w.heap.size, 0, none⟩) 2 2, .int .i64 1, .string ⟨#[110, 117, 109]⟩, .int .i64 2, .slice none 0 0, .string ⟨#[]⟩, .slice (some ⟨w.heap.size, 0, none⟩) 2 2, .int .i64 1, .string ⟨#[110, 117, 109]⟩, .int .i64 2, .slice none 0 0] 25)
  rw [hW2] at hN2
  have hs2 : v2.heap.size = v1.heap.size + 1 := by rw [← hW2]; simp
  generalize hW3 : v2.alloc (.cells #[.string ⟨#[103]⟩] 9) = v3 at *
  have hb3 : Below v2.heap.size v2 v3 := by rw [← hW3]; exact (Below.refl _ _).alloc (Nat.le_refl _) _
  have hN3 := heap_alloc_new v2 (.cells #[.string ⟨#[103]⟩] 9)
  rw [hW3] at hN3
  have hs3 : v3.heap.size = v2.heap.size + 1 := by rw [← hW3]; simp
  rw [hs0] at hN1 hs1
  rw [hs1] at hN2 hs2
  rw [hs2] at hN3 hs3
  have hP3 : PN v3 w.heap.size := (hb3.block _ (by omega)).trans ((hb2.block _ (by omega)).trans ((hb1.block _ (by omega)).trans hN0))
  have hbw3 : Below w.heap.size w v3 := below_trans hb0 (below_trans hb1 (below_trans hb2 hb3))
  have hF3 : ∀ g, (w.heap.size ≤ g ∧ g < v3.heap.size) → g < v3.heap.size := fun g hg => hg.2
  have hR1 := p_right (V := v3) (F := fun g => w.heap.size ≤ g ∧ g < v3.heap.size) (b := w.heap.size) [(fN, []), (fN, [])] [[103]] [] (w.heap.size + 1 + 1) (.slice (some ⟨w.heap.size + 1 + 1 + 1, 0, none⟩) 1 1) (.slice none 0 0) (16, 0) hP3 ⟨Nat.le_refl _, by omega⟩ ⟨by omega, by omega⟩ hF3 ((hb3.block _ (by omega)).trans hN2) (by intro p hp; simp only [List.mem_cons, List.not_mem_nil, or_false, or_self] at hp; subst hp; exact ⟨rfl, fN_ok⟩) ⟨.inr ⟨w.heap.size + 1 + 1 + 1, 0, 1, rfl, ⟨by omega, by omega⟩, fun j x hj => by
    rcases j with _ | j
    · cases hj; rw [cell_of_row v3 _ _ _ _ _ hN3]; rfl
    · simp at hj⟩, by rintro a n c hh; simp only [Value.slice.injEq] at hh; omega⟩ (RwR.nil _ _ _ _) (by simp [Tk]) (by simp) (by simp) (by simp) (by simp) (by simp [fN]) r_a
  unfold TwoB at hR1
  have f1 : ∀ u : World, u.heap[w.heap.size + 1]? = v1.heap[w.heap.size + 1]? → u.cell? ⟨w.heap.size + 1, 0, none⟩ = some (.string ⟨#[]⟩) ∧ u.cell? ⟨w.heap.size + 1, 1, none⟩ = some (.slice (some ⟨w.heap.size, 0, none⟩) 2 2) ∧ u.cell? ⟨w.heap.size + 1, 2, none⟩ = some (.int .i64 1) ∧ u.cell? ⟨w.heap.size + 1, 3, none⟩ = some (.string ⟨#[110, 117, 109]⟩) ∧ u.cell? ⟨w.heap.size + 1, 4, none⟩ = some (.int .i64 2) ∧ u.cell? ⟨w.heap.size + 1, 5, none⟩ = some (.slice none 0 0) := fun u hu => by
    have n := hu.trans hN1
    exact ⟨by rw [cell_of_row u _ 0 _ _ _ n]; rfl, by rw [cell_of_row u _ 1 _ _ _ n]; rfl, by rw [cell_of_row u _ 2 _ _ _ n]; rfl, by rw [cell_of_row u _ 3 _ _ _ n]; rfl, by rw [cell_of_row u _ 4 _ _ _ n]; rfl, by rw [cell_of_row u _ 5 _ _ _ n]; rfl⟩
  refine hR1.mono ?_
  rintro e u1 ⟨rfl, hc1⟩
  have hbu1 : Below w.heap.size w u1 := below_trans hbw3 hc1
  have hP4 : PN u1 w.heap.size := (hc1.block _ (by omega)).trans hP3
  have hK4 : u1.heap[w.heap.size + 1]? = v1.heap[w.heap.size + 1]? := (hc1.block _ (by omega)).trans ((hb3.block _ (by omega)).trans (hb2.block _ (by omega)))
  have hsu1 := hc1.size
  have hl1 : w.heap.size + 1 < u1.heap.size := by omega
  obtain ⟨a0, a1, a2, a3, a4, a5⟩ := f1 u1 hK4
  have HF1 := hidden f1
  clear hR1 hc1 hN0 hN2 hN3 hb0 hb1 hb2 hb3 hW0 hW1 hW2 hW3 f1 hP3 hbw3 hF3 hs0 hs1 hs2 hs3 hN1
  go_wp2_with fail
  generalize hW11 : u1.alloc (.cells #[.string ⟨#[103]⟩, .slice (some ⟨w.heap.size, 0, none⟩) 2 2, .int .i64 1, .string ⟨#[110, 117, 109]⟩, .int .i64 2, .slice none 0 0] 25) = x0 at *
  have hb11 : Below u1.heap.size u1 x0 := by rw [← hW11]; exact (Below.refl _ _).alloc (Nat.le_refl _) _
  have hN11 := heap_alloc_new u1 (.cells #[.string ⟨#[103]⟩, .slice (some ⟨w.heap.size, 0, none⟩) 2 2, .int .i64 1, .string ⟨#[110, 117, 109]⟩, .int .i64 2, .slice none 0 0] 25)
  rw [hW11] at hN11
  have hs11 : x0.heap.size = u1.heap.size + 1 := by rw [← hW11]; simp
  generalize hW12 : x0.alloc (.cells #[.string ⟨#[]⟩, .slice (some ⟨w.heap.size, 0, none⟩) 2 2, .int .i64 1, .string ⟨#[110, 117, 109]⟩, .int .i64 2, .slice none 0 0, .string ⟨#[103]⟩, .slice (some ⟨w.heap.size, 0, none⟩) 2 2, .int .i64 1, .string ⟨#[110, 117, 109]⟩, .int .i64 2, .slice none 0 0] 25) = x1 at *
  have hb12 : Below x0.heap.size x0 x1 := by rw [← hW12]; exact (Below.refl _ _).alloc (Nat.le_refl _) _
  have hN12 := heap_alloc_new x0 (.cells #[.string ⟨#[]⟩, .slice (some ⟨w.heap.size, 0, none⟩) 2 2, .int .i64 1, .string ⟨#[110, 117, 109]⟩, .int .i64 2, .slice none 0 0, .string ⟨#[103]⟩, .slice (some ⟨w.heap.size, 0, none⟩) 2 2, .int .i64 1, .string ⟨#[110, 117, 109]⟩, .int .i64 2, .slice none 0 0] 25)
  rw [hW12] at hN12
  have hs12 : x1.heap.size = x0.heap.size + 1 := by rw [← hW12]; simp
  rw [hs11] at hN12 hs12
  have hu1x : Below u1.heap.size u1 x1 := below_trans hb11 hb12
  have hR2 := p_right (V := x1) (F := fun g => w.heap.size ≤ g ∧ g < x1.heap.size) (b := w.heap.size) [(fN, []), (gN, [103])] [] [] (u1.heap.size + 1) (.slice none 0 0) (.slice none 0 0) (19, 1) ((hu1x.block _ (by omega)).trans hP4) ⟨Nat.le_refl _, by omega⟩ ⟨by omega, by omega⟩ (fun g hg => hg.2) hN12 (by intro p hp; simp only [List.mem_cons, List.not_mem_nil, or_false] at hp; rcases hp with rfl | rfl; exact ⟨rfl, fN_ok⟩; exact ⟨rfl, gN_ok⟩) (nilC _ _) (RwR.nil _ _ _ _) (by simp) (by simp) (by simp) (by simp) (by simp) (by simp) r_c
  unfold TwoB at hR2
  refine hR2.mono ?_
  rintro e u2 ⟨rfl, hc2⟩
  have h12 : Below u1.heap.size u1 u2 := below_trans hu1x hc2
  have hbu2 : Below w.heap.size w u2 := below_trans hbu1 h12
  have hP5 : PN u2 w.heap.size := (h12.block _ (by omega)).trans hP4
  have hK5 : u2.heap[w.heap.size + 1]? = v1.heap[w.heap.size + 1]? := (h12.block _ (by omega)).trans hK4
  have hl2 : w.heap.size + 1 < u2.heap.size := by have := h12.size; omega
  clear a0 a1 a2 a3 a4 a5 hR2 hc2 hu1x hN11 hN12 hW11 hW12 hb11 hb12 hs11 hs12 h12 hP4 hK4 hsu1 hl1
  obtain ⟨a0, a1, a2, a3, a4, a5⟩ := HF1.out u2 hK5
  go_wp2_with fail
  generalize hW13 : u2.alloc (.cells #[.string ⟨#[109]⟩, .int .i64 3, .string ⟨#[]⟩, .string ⟨#[49]⟩, .slice none 0 0] 40) = y0 at *
  have hb13 : Below u2.heap.size u2 y0 := by rw [← hW13]; exact (Below.refl _ _).alloc (Nat.le_refl _) _
  have hN13 := heap_alloc_new u2 (.cells #[.string ⟨#[109]⟩, .int .i64 3, .string ⟨#[]⟩, .string ⟨#[49]⟩, .slice none 0 0] 40)
  rw [hW13] at hN13
  have hs13 : y0.heap.size = u2.heap.size + 1 := by rw [← hW13]; simp
  generalize hW14 : y0.alloc (.cells #[.string ⟨#[]⟩, .slice (some ⟨w.heap.size, 0, none⟩) 2 2, .int .i64 1, .string ⟨#[110, 117, 109]⟩, .int .i64 2, .slice none 0 0, .string ⟨#[]⟩, .slice (some ⟨w.heap.size, 0, none⟩) 2 2, .int .i64 1, .string ⟨#[110, 117, 109]⟩, .int .i64 2, .slice none 0 0] 25) = y1 at *
  have hb14 : Below y0.heap.size y0 y1 := by rw [← hW14]; exact (Below.refl _ _).alloc (Nat.le_refl _) _
  have hN14 := heap_alloc_new y0 (.cells #[.string ⟨#[]⟩, .slice (some ⟨w.heap.size, 0, none⟩) 2 2, .int .i64 1, .string ⟨#[110, 117, 109]⟩, .int .i64 2, .slice none 0 0, .string ⟨#[]⟩, .slice (some ⟨w.heap.size, 0, none⟩) 2 2, .int .i64 1, .string ⟨#[110, 117, 109]⟩, .int .i64 2, .slice none 0 0] 25)
  rw [hW14] at hN14
  have hs14 : y1.heap.size = y0.heap.size + 1 := by rw [← hW14]; simp
  generalize hW15 : y1.alloc (.cells #[.string ⟨#[109]⟩, .int .i64 3, .string ⟨#[]⟩, .string ⟨#[49]⟩, .slice none 0 0] 40) = y2 at *
  have hb15 : Below y1.heap.size y1 y2 := by rw [← hW15]; exact (Below.refl _ _).alloc (Nat.le_refl _) _
  have hN15 := heap_alloc_new y1 (.cells #[.string ⟨#[109]⟩, .int .i64 3, .string ⟨#[]⟩, .string ⟨#[49]⟩, .slice none 0 0] 40)
  rw [hW15] at hN15
  have hs15 : y2.heap.size = y1.heap.size + 1 := by rw [← hW15]; simp
  rw [hs13] at hN14 hs14
  rw [hs14] at hN15 hs15
  have hu2y : Below u2.heap.size u2 y2 := below_trans hb13 (below_trans hb14 hb15)
  have hSb : y2.heap[u2.heap.size]? = some (.cells #[.string ⟨#[109]⟩, .int .i64 3, .string ⟨#[]⟩, .string ⟨#[49]⟩, .slice none 0 0] 40 (0, 0)) := (hb15.block _ (by omega)).trans ((hb14.block _ (by omega)).trans hN13)
  have hR3 := p_right (V := y2) (F := fun g => w.heap.size ≤ g ∧ g < y2.heap.size) (b := w.heap.size) [(fN, []), (fN, [])] [] [sN] (u2.heap.size + 1) (.slice none 0 0) (.slice (some ⟨u2.heap.size + 1 + 1, 0, none⟩) 1 1) (0, 0) ((hu2y.block _ (by omega)).trans hP5) ⟨Nat.le_refl _, by omega⟩ ⟨by omega, by omega⟩ (fun g hg => hg.2) ((hb15.block _ (by omega)).trans hN14) (by intro p hp; simp only [List.mem_cons, List.not_mem_nil, or_false, or_self] at hp; subst hp; exact ⟨rfl, fN_ok⟩) (nilC _ _) (row_block (C := cSy) (sz := 5) (F := fun g => w.heap.size ≤ g ∧ g < y2.heap.size) (V := y2) (b := u2.heap.size + 1 + 1) (T := 40) [(sN, [.string ⟨#[109]⟩, .int .i64 3, .string ⟨#[]⟩, .string ⟨#[49]⟩, .slice none 0 0])] hN15 (by simp) (by intro p hp; simp only [List.mem_cons, List.not_mem_nil, or_false] at hp; subst hp; exact ⟨.slice none 0 0, rfl, .inl ⟨_, _, rfl, rfl⟩⟩) ⟨by omega, by omega⟩) (by simp) (by simp only [List.mem_cons, List.not_mem_nil, or_false]; rintro s rfl; exact sN_ok) (by simp) (by simp) (by simp) (by simp) r_e
  unfold TwoB at hR3
  refine hR3.mono ?_
  rintro e u3 ⟨rfl, hc3⟩
  have h23 : Below u2.heap.size u2 u3 := below_trans hu2y hc3
  have hbu3 : Below w.heap.size w u3 := below_trans hbu2 h23
  have hP6 : PN u3 w.heap.size := (h23.block _ (by omega)).trans hP5
  have hK6 : u3.heap[w.heap.size + 1]? = v1.heap[w.heap.size + 1]? := (h23.block _ (by omega)).trans hK5
  have hS6 : u3.heap[u2.heap.size]? = some (.cells #[.string ⟨#[109]⟩, .int .i64 3, .string ⟨#[]⟩, .string ⟨#[49]⟩, .slice none 0 0] 40 (0, 0)) := (hc3.block _ (by omega)).trans hSb
  have hl3 : w.heap.size + 1 < u3.heap.size := by have := h23.size; omega
  have hl3' : u2.heap.size < u3.heap.size := by have := hc3.size; omega
  clear a0 a1 a2 a3 a4 a5 hR3 hc3 hu2y hN13 hN14 hN15 hW13 hW14 hW15 hb13 hb14 hb15 hs13 hs14 hs15 h23 hP5 hK5 hl2 hSb
  obtain ⟨a0, a1, a2, a3, a4, a5⟩ := HF1.out u3 hK6
  obtain ⟨b0, b1, b2, b3, b4⟩ : u3.cell? ⟨u2.heap.size, 0, none⟩ = some (.string ⟨#[109]⟩) ∧ u3.cell? ⟨u2.heap.size, 1, none⟩ = some (.int .i64 3) ∧ u3.cell? ⟨u2.heap.size, 2, none⟩ = some (.string ⟨#[]⟩) ∧ u3.cell? ⟨u2.heap.size, 3, none⟩ = some (.string ⟨#[49]⟩) ∧ u3.cell? ⟨u2.heap.size, 4, none⟩ = some (.slice none 0 0) := ⟨by rw [cell_of_row u3 _ 0 _ _ _ hS6]; rfl, by rw [cell_of_row u3 _ 1 _ _ _ hS6]; rfl, by rw [cell_of_row u3 _ 2 _ _ _ hS6]; rfl, by rw [cell_of_row u3 _ 3 _ _ _ hS6]; rfl, by rw [cell_of_row u3 _ 4 _ _ _ hS6]; rfl⟩
  go_wp2_with fail
  generalize hW16 : u3.alloc (.cells #[.string ⟨#[]⟩, .slice (some ⟨w.heap.size, 0, none⟩) 2 2, .int .i64 1, .string ⟨#[110, 117, 109]⟩, .int .i64 2, .slice none 0 0] 25) = q0 at *
  have hb16 : Below u3.heap.size u3 q0 := by rw [← hW16]; exact (Below.refl _ _).alloc (Nat.le_refl _) _
  have hN16 := heap_alloc_new u3 (.cells #[.string ⟨#[]⟩, .slice (some ⟨w.heap.size, 0, none⟩) 2 2, .int .i64 1, .string ⟨#[110, 117, 109]⟩, .int .i64 2, .slice none 0 0] 25)
  rw [hW16] at hN16
  have hs16 : q0.heap.size = u3.heap.size + 1 := by rw [← hW16]; simp
  generalize hW17 : q0.alloc (.cells #[.string ⟨#[109]⟩, .int .i64 3, .string ⟨#[]⟩, .string ⟨#[49]⟩, .slice none 0 0] 40) = q1 at *
  have hb17 : Below q0.heap.size q0 q1 := by rw [← hW17]; exact (Below.refl _ _).alloc (Nat.le_refl _) _
  have hN17 := heap_alloc_new q0 (.cells #[.string ⟨#[109]⟩, .int .i64 3, .string ⟨#[]⟩, .string ⟨#[49]⟩, .slice none 0 0] 40)
  rw [hW17] at hN17
  have hs17 : q1.heap.size = q0.heap.size + 1 := by rw [← hW17]; simp
  rw [hs16] at hN17 hs17
  have hu3q : Below u3.heap.size u3 q1 := below_trans hb16 hb17
  have hR4 := p_right (V := q1) (F := fun g => w.heap.size ≤ g ∧ g < q1.heap.size) (b := w.heap.size) [(fN, [])] [] [sN] u3.heap.size (.slice none 0 0) (.slice (some ⟨u3.heap.size + 1, 0, none⟩) 1 1) (21, 0) ((hu3q.block _ (by omega)).trans hP6) ⟨Nat.le_refl _, by omega⟩ ⟨by omega, by omega⟩ (fun g hg => hg.2) ((hb17.block _ (by omega)).trans hN16) (by intro p hp; simp only [List.mem_cons, List.not_mem_nil, or_false] at hp; subst hp; exact ⟨rfl, fN_ok⟩) (nilC _ _) (row_block (C := cSy) (sz := 5) (F := fun g => w.heap.size ≤ g ∧ g < q1.heap.size) (V := q1) (b := u3.heap.size + 1) (T := 40) [(sN, [.string ⟨#[109]⟩, .int .i64 3, .string ⟨#[]⟩, .string ⟨#[49]⟩, .slice none 0 0])] hN17 (by simp) (by intro p hp; simp only [List.mem_cons, List.not_mem_nil, or_false] at hp; subst hp; exact ⟨.slice none 0 0, rfl, .inl ⟨_, _, rfl, rfl⟩⟩) ⟨by omega, by omega⟩) (by simp) (by simp only [List.mem_cons, List.not_mem_nil, or_false]; rintro s rfl; exact sN_ok) (by simp) (by simp) (by simp) (by simp) r_h
  unfold TwoB at hR4
  refine hR4.mono ?_
  rintro e u4 ⟨rfl, hc4⟩
  have h34 : Below u3.heap.size u3 u4 := below_trans hu3q hc4
  have hbu4 : Below w.heap.size w u4 := below_trans hbu3 h34
  have hP7 : PN u4 w.heap.size := (h34.block _ (by omega)).trans hP6
  have hK7 : u4.heap[w.heap.size + 1]? = v1.heap[w.heap.size + 1]? := (h34.block _ (by omega)).trans hK6
  have hl4 : w.heap.size + 1 < u4.heap.size := by have := h34.size; omega
  clear a0 a1 a2 a3 a4 a5 b0 b1 b2 b3 b4 hR4 hc4 hu3q hN16 hN17 hW16 hW17 hb16 hb17 hs16 hs17 h34 hP6 hK6 hl3 hl3' hS6
  have hMk := HMK.out u4
  clear HMK
  have hbm : Below u4.heap.size u4 (u4.alloc (.cells (madeCells #[.int .u8 0] 8193) 5)) := (Below.refl _ _).alloc (Nat.le_refl _) _
  go_wp2_with fail
  generalize u4.alloc (.cells (madeCells #[.int .u8 0] 8193) 5) = m0 at *
  refine (decode_long _ _ _ _ (by omega)).mono ?_
  rintro e m1 ⟨rfl, hc5⟩
  have h45 : Below u4.heap.size u4 m1 := below_trans hbm hc5
  clear hMk hbm hc5
  go_wp2_with fail
  generalize hWo : m1.alloc (.cells #[.string ⟨#[]⟩, .slice none 0 0, .slice none 0 0, .slice none 0 0, .slice none 0 0, .slice none 0 0, .slice none 0 0, .slice none 0 0] 35) = m2 at *
  have hbo : Below m1.heap.size m1 m2 := by rw [← hWo]; exact (Below.refl _ _).alloc (Nat.le_refl _) _
  generalize hWs : m2.alloc (.cells #[.string ⟨#[122]⟩, .int .i64 0, .string ⟨#[]⟩, .string ⟨#[]⟩, .slice none 0 0, .string ⟨#[109]⟩, .int .i64 0, .string ⟨#[]⟩, .string ⟨#[]⟩, .slice none 0 0, .string ⟨#[97]⟩, .int .i64 0, .string ⟨#[]⟩, .string ⟨#[]⟩, .slice none 0 0, .string ⟨#[122]⟩, .int .i64 0, .string ⟨#[]⟩, .string ⟨#[]⟩, .slice none 0 0] 40) = m3 at *
  have hbs : Below m2.heap.size m2 m3 := by rw [← hWs]; exact (Below.refl _ _).alloc (Nat.le_refl _) _
  have hNs := heap_alloc_new m2 (.cells #[.string ⟨#[122]⟩, .int .i64 0, .string ⟨#[]⟩, .string ⟨#[]⟩, .slice none 0 0, .string ⟨#[109]⟩, .int .i64 0, .string ⟨#[]⟩, .string ⟨#[]⟩, .slice none 0 0, .string ⟨#[97]⟩, .int .i64 0, .string ⟨#[]⟩, .string ⟨#[]⟩, .slice none 0 0, .string ⟨#[122]⟩, .int .i64 0, .string ⟨#[]⟩, .string ⟨#[]⟩, .slice none 0 0] 40)
  rw [hWs] at hNs
  have hss : m3.heap.size = m2.heap.size + 1 := by rw [← hWs]; simp
  have hso : m2.heap.size = m1.heap.size + 1 := by rw [← hWo]; simp
  rw [hso] at hNs hss
  have h4m : Below u4.heap.size u4 m3 := below_trans h45 (below_trans hbo hbs)
  have h4s := h4m.size
  have hIm := oimports (fun g => w.heap.size ≤ g ∧ g < m3.heap.size) (ovN (.slice none 0 0) (.slice none 0 0) (.slice (some ⟨m1.heap.size + 1, 0, none⟩) 4 4)) (obN [] [] [zN [122], zN [109], zN [97], zN [122]]) m3
    ⟨ItR.nil _ _, nilC _ _, RwR.nil _ _ _ _, RwR.nil _ _ _ _, nilC _ _, row_block (C := cSy) (sz := 5) (b := m1.heap.size + 1) (T := 40) [(zN [122], [.string ⟨#[122]⟩, .int .i64 0, .string ⟨#[]⟩, .string ⟨#[]⟩, .slice none 0 0]), (zN [109], [.string ⟨#[109]⟩, .int .i64 0, .string ⟨#[]⟩, .string ⟨#[]⟩, .slice none 0 0]), (zN [97], [.string ⟨#[97]⟩, .int .i64 0, .string ⟨#[]⟩, .string ⟨#[]⟩, .slice none 0 0]), (zN [122], [.string ⟨#[122]⟩, .int .i64 0, .string ⟨#[]⟩, .string ⟨#[]⟩, .slice none 0 0])] hNs (by
      intro p hp
      simp only [List.mem_cons, List.not_mem_nil, or_false] at hp
      rcases hp with rfl | rfl | rfl | rfl <;> rfl) (by
      intro p hp
      simp only [List.mem_cons, List.not_mem_nil, or_false] at hp
      rcases hp with rfl | rfl | rfl | rfl <;> exact ⟨.slice none 0 0, rfl, .inl ⟨_, _, rfl, rfl⟩⟩) ⟨by omega, by omega⟩, RwR.nil _ _ _ _⟩ (fun g hg => hg.2)
    ⟨by simp [obN, Tk], by simp [obN], by simp [obN], by simp [obN], by simp [obN], by simp [obN], by simp [obN], by simp [obN], by simp [obN], by simp [obN], by simp [obN], by simp [obN], by
      intro s hs
      simp only [obN, List.mem_cons, List.not_mem_nil, or_false] at hs
      rcases hs with rfl | rfl | rfl | rfl <;> exact ⟨by simp [zN, Tk], by simp [zN], by simp [zN], by simp [zN, Tk], by simp [zN, Tk], by simp [zN], by simp [zN]⟩, by simp [obN], by simp [obN]⟩
  rw [r_imp] at hIm
  refine hIm.mono ?_
  rintro e m4 ⟨iv, rfl, hiv, hc6⟩
  obtain ⟨ia, ic, rfl⟩ := hiv.shape
  have h46 : Below u4.heap.size u4 m4 := below_trans h4m hc6
  have hbw6 : Below w.heap.size w m4 := below_trans hbu4 h46
  have hP8 : PN m4 w.heap.size := (h46.block _ (by omega)).trans hP7
  have hK8 : m4.heap[w.heap.size + 1]? = v1.heap[w.heap.size + 1]? := (h46.block _ (by omega)).trans hK7
  obtain ⟨a0, a1, a2, a3, a4, a5⟩ := HF1.out m4 hK8
  have hSg := hSgn (fun g => w.heap.size ≤ g ∧ g < m4.heap.size) m4 hP8 ⟨Nat.le_refl _, by have := h46.size; omega⟩ (fun g hg => hg.2)
  unfold TextB at hSg
  rw [show str [40, 98, 121, 116, 101, 115, 41, 110, 117, 109] = ⟨#[40, 98, 121, 116, 101, 115, 41, 110, 117, 109]⟩ from rfl] at hSg
  have HIv := hidden hiv
  clear hIm hNs hWs hWo hss hso hbo hbs h4m h45 hiv hSgn
  go_wp2_with fail
  refine hSg.mono ?_
  rintro e m5 ⟨rfl, hc7⟩
  have hbw7 := below_trans hbw6 hc7
  clear hSg a0 a1 a2 a3 a4 a5
  have hb8 : Below m5.heap.size m5 (m5.alloc (.cells #[.string ⟨#[97]⟩, .string ⟨#[122]⟩] 9)) := (Below.refl _ _).alloc (Nat.le_refl _) _
  have hN8 := heap_alloc_new m5 (.cells #[.string ⟨#[97]⟩, .string ⟨#[122]⟩] 9)
  have hSm := sameS (.slice ia 2 ic) (.slice (some ⟨m5.heap.size, 0, none⟩) 2 2) [[97], [122]] [[97], [122]] (m5.alloc (.cells #[.string ⟨#[97]⟩, .string ⟨#[122]⟩] 9)) (HIv.out.below (below_trans hc7 hb8)) (.inr ⟨m5.heap.size, 0, 2, rfl, by simp, by simp, fun j x hj => by
    rcases j with _ | _ | j
    · cases hj; rw [cell_of_row _ _ _ _ _ _ hN8]; rfl
    · cases hj; rw [cell_of_row _ _ _ _ _ _ hN8]; rfl
    · simp at hj⟩) (by simp) (by simp)
  rw [decide_eq_true rfl] at hSm
  have hbw8 := below_trans hbw7 hb8
  have hKn : ∀ n, Calls Tryz.prog 14 #[] ((m5.alloc (.cells #[.string ⟨#[97]⟩, .string ⟨#[122]⟩] 9)).drewN n) (BoolB true ((m5.alloc (.cells #[.string ⟨#[97]⟩, .string ⟨#[122]⟩] 9)).drewN n)) := fun n => known14 _
  clear hN8
  go_wp2_with (first
    | (go_at_call 13; refine hSm.mono ?_; rintro e w6 ⟨rfl, nn, rfl⟩)
    | (go_at_call 14; refine (hKn _).mono ?_; rintro e w7 ⟨rfl, hb9⟩))
  go_ret
  exact ⟨rfl, below_trans (below_drewN hbw8 _) hb9⟩
end Go.Proofs.YtokkhdpkadgffaaGreatDoor

namespace Go.Proofs.YtokkhdpkadgffaaGreatDoor
open Go.ChangeShapes Go.WideShapes Go.ChangeAt Go.RowKit Go.Deep

def laid3 : List (String × DataW Unit) := [("math/bits.deBruijn32tab", Rows.laid_math_bits_deBruijn32tab), ("math/bits.deBruijn64tab", Rows.laid_math_bits_deBruijn64tab), ("internal/strconv.uint64pow10", Rows.laid_internal_strconv_uint64pow10)]
theorem own : ownKnob Tryz.prog.godebug = none := by kernel_rfl
theorem door_met (os : Os) (args : Array Value) : laidMetH Tryz.prog laid3 ((World.doorLaid Tryz.prog 400 os).forCall (fun _ _ => 0) ⟨#[], args, []⟩).memory :=
  laidMetH_of_parts3 (fuel := 8) (laidMet_of_run' 8 (by kernel_rfl) (by kernel_rfl)) (by kernel_rfl) (by kernel_rfl)
theorem laidO : laidOutB Tryz.prog = true := by kernel_rfl
theorem ints_rows {H : Type} {enc : TypeId × Value → H} {W : World} {fuel : Nat} {a0 : Option Addr} {len0 cap0 : Nat} {x : DataW H × List MemPlace} (hf : DataW.trod enc Tryz.prog W 0 (fun _ => true) true fuel 78 [.slice a0 len0 cap0] = some x) :
    ∃ zs : List Int, zs.length = len0 ∧ len0 ≤ cap0 ∧ cap0 ≤ maxLen ∧ (∀ z ∈ zs, -9223372036854775808 ≤ z ∧ z ≤ 9223372036854775807) ∧ (0 < len0 → ∃ b, a0 = some b) ∧ ∀ b, a0 = some b → 0 < len0 → b.block < W.heap.size ∧ ∀ (j : Nat) z, zs[j]? = some z → W.cell? (b.add j) = some (.int .i64 z) := by
  rcases open_ints Tryz.underlying78 Tryz.underlying3 (by kernel_rfl) hf with ⟨hcs, _⟩ | ⟨a, ln, c, zs, hcs, _, hl, hm, hz, _, hcell, hwz⟩
  · simp at hcs
    obtain ⟨rfl, rfl, rfl⟩ := hcs
    exact ⟨[], rfl, Nat.le_refl _, by unfold maxLen; omega, by simp, by simp, by simp⟩
  · simp at hcs
    obtain ⟨rfl, rfl, rfl⟩ := hcs
    simp at hz
    have hc : ∀ (j : Nat) z, (zs.take len0)[j]? = some z → W.cell? (a.add j) = some (.int .i64 z) := by
      intro j z hj
      rw [List.getElem?_take] at hj
      split at hj
      · have hlt : j < zs.length := (List.getElem?_eq_some_iff.1 hj).1
        rw [hcell j hlt]
        simp [List.getD, hj]
      · cases hj
    refine ⟨zs.take len0, by rw [List.length_take]; omega, hl, hm, fun z h => bounds_i64 (hwz z (List.mem_of_mem_take h)), fun _ => ⟨a, rfl⟩, fun b hb h0 => ?_⟩
    cases hb
    refine ⟨?_, hc⟩
    have h1 : 0 < (zs.take len0).length := by rw [List.length_take]; omega
    have := World.block_lt_of_cell? W _ (hc 0 _ (List.getElem?_eq_getElem h1))
    simpa [Addr.add] using this
end Go.Proofs.YtokkhdpkadgffaaGreatDoor

namespace Go.Proofs.YtokkhdpkadgffaaGreatDoor
open Go.ChangeShapes Go.WideShapes Go.ChangeAt Go.RowKit Go.Deep

set_option maxRecDepth 100000 in
theorem objectNumbers_lifted (os : Os) (started : os.Started) (H : Type) (enc : TypeId × Value → H) :
    ReturnsInHanded {} Tryz.checked os 3 .any (fun w args => (Rows.objectNumbersSpec.pre enc Tryz.prog Tryz.f3 [] false w args ∧ laidMetH Tryz.prog laid3 w) ∧ sizedMet enc Tryz.prog Tryz.f3 (OpenSpec.ofChange Rows.objectNumbersSpec) false w args)
      (Rows.objectNumbersSpec.post enc Tryz.prog Tryz.f3 false true false false) := by
  refine returnsInHanded_of_change_and (C := Tryz.checked) (X := fun w _ => laidMetH Tryz.prog laid3 w) (fun _ _ _ hh h => h.of_heap hh) own started (by kernel_rfl) Tryz.func3
    (ChangeSpec.witness_shaped (enc := enc) (C := Tryz.checked) (os := os) (X := fun w _ => laidMetH Tryz.prog laid3 w) false (World.doorLaid Tryz.prog 400 os) #[] 8 rfl (World.shaped_of_RefB (by kernel_rfl) (by kernel_rfl)) (by kernel_rfl) (by kernel_rfl) (by kernel_rfl) (door_met os _)) ?_
  intro W base args ds gs before hval0 hW _ _ hL _
  have hval : ∀ (j : Nat) t v, Tryz.f3.params[j]? = some t → args[j]? = some v → Value.okWide Tryz.prog W .any base t v := hval0
  have hW' := hW
  obtain ⟨p, q, hA0, hV, rfl, hfz, hnd⟩ := hW
  have hA : DataW.TrodAll enc Tryz.prog W 0 (fun _ => true) true Tryz.f3.params.toList args.toList ds p := hA0
  rw [Tryz.params3] at hA hval
  obtain ⟨h0a, h0b, h0c⟩ := trodAll_nil hA
  obtain rfl : args = #[] := by cases args; simp_all
  subst h0b h0c
  obtain ⟨rfl, rfl⟩ := trodVars_none hV
  clear hA0 hval0
  simp only [List.append_nil] at hW'
  refine (numbers_walk W).mono fun e W' ⟨he, bel⟩ => ?_
  subst he
  exact ⟨_, rfl, _, _, _, [], _, [], hW', trodAll_mk1 (shut_bool Tryz.underlying4 _), trodAll_mk0, rfl, bel.frame _, fun h => by cases h⟩

theorem objectNumbers_row : Rows.ObjectNumbersSaid :=
  OpenClaim.holds_of_wide 3 Tryz.f3 rfl rfl rfl rfl rfl rfl rfl ⟨rfl, rfl, rfl, rfl, rfl⟩ rfl rfl rfl rfl rfl (by kernel_rfl) Tryz.func3 (by kernel_rfl)
    (of_decide_eq_true (by kernel_rfl)) (by unfold Func.isWrapper; first | (rw [if_pos (by decide +kernel)]; kernel_rfl) | (rw [if_neg (by decide +kernel)]; exact ⟨rfl, rfl⟩))
    (fun os started H enc _ => objectNumbers_lifted os started H enc)

theorem objectNumbers_holds : Rows.ObjectNumbersCardSaid :=
  Claim7.holds_tied_plain_at .later [] [.data, .data, .data] true (true, "b0cbca2835c6b604e9bfbbf3c518b1b2469ff7db56e2f10dca8ede91b2882873") false
    objectNumbers_row (fun _ h => by cases h) (by kernel_rfl) (fun _ h => by cases h) objectNumbers_row_tie rfl ⟨rfl, rfl⟩ (by kernel_rfl) rfl
    (fun f fn hf hfn => by
      obtain rfl : f = 3 := Option.some.inj ((show Tryz.prog.funcNamed "hawser/hawserlaw14.ObjectNumbers" = some 3 by kernel_rfl).symm.trans hf) |>.symm
      obtain rfl : fn = Tryz.f3 := (Option.some.inj (Tryz.func3.symm.trans hfn)).symm
      exact ⟨by kernel_rfl, fun j t ht => by
        rw [Tryz.params3] at ht
        simp at ht⟩)
    (by kernel_rfl)
#print axioms objectNumbers_holds
end Go.Proofs.YtokkhdpkadgffaaGreatDoor
