/-
  The document's own Right of an interface: its walk.
  And: The document's own Right of an interface. The document's own bytes of an interface: cases, an item, the whole: their walks. Reading an interface as the document's own reader does it (what is refused keeps what was read so far), as functions; it tells the same. No program in it. The document's own ReadCases. The document's own ReadCases: the walk. The document's own ReadItem. The document's own Decode. The document's own Decode: the walk.
-/
import Derived.Deep.LoopGhost
import Derived.Deep.CutRange
import Derived.Deep.CutBlock
import Derived.Deep.DeepCutAuto
import Derived.Deep.QuietTactic
import Derived.BigQuiet
import Derived.Test.YtalbjbahgbkifaaGreatRefA
import Derived.Test.YtalbjbahgbkifaaGreatIfaceRight
import Derived.Test.YtalbjbahgbkifaaGreatIfcB
import Derived.Deep.RegionHeld3
import Derived.Test.YtalbjbahgbkifaaGreatWiB
import Derived.Test.YtalbjbahgbkifaaGreatDecA
import Derived.Test.YtalbjbahgbkifaaGreatIfaceEncode
namespace Go.Proofs.YtalbjbahgbkifaaGreat
open Go.RowKit

def casesW (cs : List Cs) : Nat := if cs.length = 0 ∨ 6 < cs.length then 12 else casesE [] cs
theorem any_next (cs : List Cs) (m : Nat) (n : List UInt8) (h : m < cs.length) : (cs.take (m + 1)).any (fun d => decide (d.1 = n)) = ((cs.take m).any (fun d => decide (d.1 = n)) || decide (cs[m].1 = n)) := by
  rw [List.take_succ_eq_append_getElem h, List.any_append]
  simp
theorem allN7 (fs : List (List UInt8)) (m : Nat) (h : m < fs.length) : (fs.take (m + 1)).all rightR = ((fs.take m).all rightR && rightR fs[m]) := by
  rw [List.take_succ_eq_append_getElem h, List.all_append]
  simp
theorem all_bad (fs : List (List UInt8)) (m : Nat) (h : m < fs.length) (hb : rightR fs[m] = false) : fs.all rightR = false := by
  rw [List.all_eq_false]
  exact ⟨_, List.getElem_mem h, by simp [hb]⟩
theorem any_bad (cs : List Cs) (k m : Nat) (n : List UInt8) (h : m < cs.length) (hk : m < k) (hb : cs[m].1 = n) : (cs.take k).any (fun d => decide (d.1 = n)) = true := by
  rw [List.any_eq_true]
  refine ⟨cs[m], ?_, by simp [hb]⟩
  rw [List.mem_take_iff_getElem]
  exact ⟨m, by omega, rfl⟩
def NumQ (n : Nat) (w : World) (e : Ending) (w' : World) : Prop := e = .returned (.int .i64 (n : Int)) ∧ ∃ k, w' = w.drewN k
set_option maxHeartbeats 4000000 in
set_option maxRecDepth 1000000 in
theorem refCasesW (F : Nat → Prop) (v : Value) (cs : List Cs) (w : World) (h : CsR F w v cs) (hok : ∀ c ∈ cs, CsOk c) (hcl : cs.length ≤ 3518437208883) : Calls Tryz.prog 40 #[v] w (NumQ (casesW cs) w) := by
  obtain ⟨va, vc, rfl⟩ := h.shape
  by_cases h0 : cs.length = 0
  · have HW : Hid (casesW cs = 12) := by rw [hid_iff, casesW, if_pos (.inl h0)]
    have h0' : cs = [] := List.eq_nil_of_length_eq_zero h0
    subst h0'
    clear h h0 hok
    go_enter Tryz.func40, Tryz.ntmps40
    go_wp2
    go_ret
    exact ⟨by rw [HW.out]; rfl, 0, rfl⟩
  have h0i : ((cs.length : Int) == 0) = false := by rw [beq_eq_false_iff_ne]; omega
  have h0j : ¬ (cs = []) := fun e => h0 (by rw [e]; rfl)
  by_cases h6 : 6 < cs.length
  · have HW : Hid (casesW cs = 12) := by rw [hid_iff, casesW, if_pos (.inr h6)]
    have h6i : (6 : Int) < (cs.length : Int) := by omega
    clear h hok
    go_enter Tryz.func40, Tryz.ntmps40
    go_wp2
    go_ret
    exact ⟨by rw [HW.out]; rfl, 0, rfl⟩
  have HW : Hid (casesW cs = casesE [] cs) := by rw [hid_iff, casesW, if_neg (by omega)]
  have h6i : ¬ (6 : Int) < (cs.length : Int) := by omega
  go_enter Tryz.func40, Tryz.ntmps40
  go_wp2
  go_loopg [3] cs.length (fun g i wr => ∃ (k nn : Nat), g + k = cs.length ∧ i = .int .i64 (k : Int) ∧ Hid (casesE [] cs = casesE (cs.take k) (cs.drop k)) ∧ wr = w.drewN nn)
  case atStart => exact ⟨0, 0, by omega, rfl, by simp [Hid], rfl⟩
  case round =>
    obtain ⟨k, nn, hg, rfl, hq, hw⟩ := hrel
    have HWW := hidden hw
    have hr : CsR F wr (.slice va cs.length vc) cs := by rw [hw]; exact h
    clear hw
    by_cases hk : k < cs.length
    · obtain ⟨g1, o1, d1, f1, e1, _, _, t1, q1, r1⟩ := hr.at k hk
      simp only [Value.slice.injEq, true_and] at e1
      obtain ⟨rfl, rfl⟩ := e1
      have hki : (k : Int) < (cs.length : Int) := by omega
      have hc := hok _ (List.getElem_mem hk)
      have hst := casesE_at cs k hk
      obtain ⟨fa, fc, rfl⟩ := t1.shape
      have hBig := fun u => refBig (str cs[k].1) u (by rw [str_size]; have := hc.1; unfold Tk at this; omega)
      rw [str_data] at hBig
      by_cases hbig : bigR cs[k].1 = true
      · rw [hbig] at hBig
        go_wp2_with (go_at_call 39; refine (hBig _).mono ?_; rintro e u ⟨rfl, hu⟩; obtain rfl := hu.symm)
        go_loopg [4] k (fun g i wq => ∃ (m mm : Nat), g + m = k ∧ i = .int .i64 (m : Int) ∧ Hid ((cs.take m).any (fun d => decide (d.1 = cs[k].1)) = false) ∧ wq = wr.drewN mm)
        case atStart => exact ⟨0, 0, by omega, rfl, rfl, rfl⟩
        case round =>
          obtain ⟨m, mm, hgm, rfl, hqm, hwm⟩ := hrel
          rename World => wm
          have HWM := hidden hwm
          have hrm : CsR F wm (.slice (some ⟨g1, o1, none⟩) cs.length vc) cs := by rw [hwm]; exact hr
          have q1m : wm.cell? ⟨g1, o1 + k * 2, none⟩ = some (.string (str cs[k].1)) := by rw [hwm]; exact q1
          have r1m : wm.cell? ⟨g1, o1 + k * 2 + 1, none⟩ = some (.slice fa cs[k].2.length fc) := by rw [hwm]; exact r1
          have t1m : TxR F wm (.slice fa cs[k].2.length fc) cs[k].2 := by rw [hwm]; exact t1
          clear hwm
          by_cases hm : m < k
          · obtain ⟨g2, o2, d2, f2, e2, _, _, _, q2, _⟩ := hrm.at m (by omega)
            simp only [Value.slice.injEq, Option.some.injEq, Addr.mk.injEq, and_true, true_and] at e2
            obtain ⟨⟨rfl, rfl⟩, rfl⟩ := e2
            have hmi : (m : Int) < (k : Int) := by omega
            have hmc : (m : Int) < (cs.length : Int) := by omega
            have HN := hidden (any_next cs m cs[k].1 (by omega))
            have HB := hidden (any_bad cs k m cs[k].1 (by omega) hm)
            have he := eq_is cs[m].1 cs[k].1
            have HS := hidden hst
            clear hst hBig
            by_cases heq : cs[m].1 = cs[k].1
            · have HV : Hid (casesE [] cs = 13) := by
                rw [hid_iff, hq.out, HS.out]
                have : caseE (cs.take k) cs[k] = 13 := by
                  unfold caseE
                  rw [if_neg (by rw [hbig]; simp), if_pos (HB.out heq)]
                rw [this, if_neg (by decide)]
              rw [decide_eq_true heq] at he
              clear HN HB hqm hq HS heq hbig
              generalize cs[m].1 = nm at *
              generalize cs[k].1 = nk at *
              go_wp2_with fail
              go_quiet (fail)
              go_wp2
              go_ret
              exact ⟨by rw [HW.out, HV.out]; rfl, _, by rw [HWM.out, HWW.out, drewK, drewK]⟩
            · have HV : Hid ((cs.take (m + 1)).any (fun d => decide (d.1 = cs[k].1)) = false) := by
                rw [hid_iff, HN.out, hqm.out, decide_eq_false heq]
                rfl
              rw [decide_eq_false heq] at he
              clear HN HB heq
              generalize cs[m].1 = nm at *
              go_wp2_with fail
              go_quiet (fail)
              go_wp2
              go_roundg (k - (m + 1))
              case measure => omega
              case rel => exact ⟨m + 1, mm + _, by omega, by go_num, HV, by rw [HWM.out]; exact drewK _ _ _⟩
          · have hmi : ¬ (m : Int) < (k : Int) := by omega
            have hmk : m = k := by omega
            have HA := hqm.out
            rw [hmk] at HA
            have hcE : caseE (cs.take k) cs[k] = if 4 < cs[k].2.length then 19 else if cs[k].2.all rightR = true then 0 else 17 := by
              unfold caseE
              rw [if_neg (by rw [hbig]; simp), if_neg (by rw [HA]; simp)]
            have HS := hidden hst
            have HC := hidden hcE
            clear hst hBig hcE HA hqm hmk
            by_cases h4 : 4 < cs[k].2.length
            · have h4i : (4 : Int) < (cs[k].2.length : Int) := by omega
              have HV : Hid (casesE [] cs = 19) := by
                rw [hid_iff, hq.out, HS.out, HC.out, if_pos h4, if_neg (by decide)]
              clear HS HC hq hbig
              go_wp2
              go_ret
              exact ⟨by rw [HW.out, HV.out]; rfl, _, by rw [HWM.out, HWW.out, drewK]⟩
            · have h4i : ¬ (4 : Int) < (cs[k].2.length : Int) := by omega
              have hfr : ∀ f ∈ cs[k].2, Tk f := hc.2.2
              go_wp2
              go_loopg [5] cs[k].2.length (fun g i wq => ∃ (j : Nat), g + j = cs[k].2.length ∧ i = .int .i64 (j : Int) ∧ Hid ((cs[k].2.take j).all rightR = true) ∧ wq = wm)
              case atStart => exact ⟨0, by omega, rfl, rfl, rfl⟩
              case round =>
                obtain ⟨j, hgj, rfl, hqj, rfl⟩ := hrel
                by_cases hj : j < cs[k].2.length
                · obtain ⟨g3, o3, d3, e3, _, q3⟩ := t1m.at j hj
                  simp only [Value.slice.injEq, true_and] at e3
                  obtain ⟨rfl, rfl⟩ := e3
                  have hji : (j : Int) < (cs[k].2.length : Int) := by omega
                  have hR := fun u => refRight (str cs[k].2[j]) u
                  rw [str_data] at hR
                  have HN := hidden (allN7 cs[k].2 j hj)
                  have HB := hidden (all_bad cs[k].2 j hj)
                  by_cases hrt : rightR cs[k].2[j] = true
                  · have HV : Hid ((cs[k].2.take (j + 1)).all rightR = true) := by rw [hid_iff, HN.out, hqj.out, hrt]; rfl
                    rw [hrt] at hR
                    clear HN HB hqj hrt
                    generalize cs[k].2[j] = fx at *
                    go_wp2_with (go_at_call 42; refine (hR _).mono ?_; rintro e u ⟨rfl, hu⟩; obtain rfl := hu.symm)
                    go_roundg (cs[k].2.length - (j + 1))
                    case measure => omega
                    case rel => exact ⟨j + 1, by omega, by go_num, HV, rfl⟩
                  · have hrf : rightR cs[k].2[j] = false := by simpa using hrt
                    have HV : Hid (casesE [] cs = 17) := by
                      rw [hid_iff, hq.out, HS.out, HC.out, if_neg h4, HB.out hrf, if_neg (by simp), if_neg (by decide)]
                    rw [hrf] at hR
                    clear HN HB hqj hrt hrf HS HC hq
                    generalize cs[k].2[j] = fx at *
                    go_wp2_with (go_at_call 42; refine (hR _).mono ?_; rintro e u ⟨rfl, hu⟩; obtain rfl := hu.symm)
                    go_ret
                    exact ⟨by rw [HW.out, HV.out]; rfl, _, by rw [HWM.out, HWW.out, drewK]⟩
                · have hji : ¬ (j : Int) < (cs[k].2.length : Int) := by omega
                  have HV : Hid (casesE [] cs = casesE (cs.take (k + 1)) (cs.drop (k + 1))) := by
                    have ha := hqj.out
                    rw [List.take_of_length_le (by omega)] at ha
                    rw [hid_iff, hq.out, HS.out, HC.out, if_neg h4, if_pos ha, if_pos rfl]
                  clear HS HC hq hqj
                  go_wp2
                  go_roundg (cs.length - (k + 1))
                  case measure => omega
                  case rel => exact ⟨k + 1, nn + mm, by omega, by go_num, HV, by rw [HWM.out, HWW.out]; exact drewK _ _ _⟩
      · have hbf : bigR cs[k].1 = false := by simpa using hbig
        have HV : Hid (casesE [] cs = 13) := by
          rw [hid_iff, hq.out, hst]
          have : caseE (cs.take k) cs[k] = 13 := by
            unfold caseE
            rw [if_pos hbf]
          rw [this, if_neg (by decide)]
        rw [hbf] at hBig
        clear hst hq hbig hbf
        go_wp2_with (go_at_call 39; refine (hBig _).mono ?_; rintro e u ⟨rfl, hu⟩; obtain rfl := hu.symm)
        go_ret
        exact ⟨by rw [HW.out, HV.out]; rfl, nn, HWW.out⟩
    · have hki : ¬ (k : Int) < (cs.length : Int) := by omega
      have HV : Hid (casesE [] cs = 0) := by
        rw [hid_iff, hq.out, List.drop_of_length_le (by omega)]
        rfl
      clear hq
      go_wp2
      go_ret
      exact ⟨by rw [HW.out, HV.out]; rfl, nn, HWW.out⟩
end Go.Proofs.YtalbjbahgbkifaaGreat

namespace Go.Proofs.YtalbjbahgbkifaaGreat
open Go.RowKit

theorem kind_lt {kd : Int} (h : kd < 1) : kindE kd = false := by
  unfold kindE
  rw [decide_eq_false (by omega), decide_eq_false (by omega), decide_eq_false (by omega)]
  rfl
theorem kind_gt {kd : Int} (h : 3 < kd) : kindE kd = false := by
  unfold kindE
  rw [decide_eq_false (by omega), decide_eq_false (by omega), decide_eq_false (by omega)]
  rfl
theorem kind_in {kd : Int} (h1 : ¬ kd < 1) (h2 : ¬ 3 < kd) : kindE kd = true := by
  unfold kindE
  simp only [Bool.or_eq_true, decide_eq_true_eq]
  omega
theorem typeW (ty : List UInt8) (cs : List Cs) : (if ty ≠ [] then 12 else if cs.length = 0 then 12 else if 6 < cs.length then 12 else casesE [] cs) = if ty ≠ [] then 12 else casesW cs := by
  unfold casesW
  split
  · rfl
  · by_cases h0 : cs.length = 0
    · rw [if_pos h0, if_pos (.inl h0)]
    · by_cases h6 : 6 < cs.length
      · rw [if_neg h0, if_pos h6, if_pos (.inr h6)]
      · rw [if_neg h0, if_neg h6, if_neg (by omega)]
set_option maxHeartbeats 2000000 in
set_option maxRecDepth 1000000 in
theorem refRightW (F : Nat → Prop) (m : List UInt8) (v : Value) (l : List It) (w : World) (h : ItR F w v l) (hF : ∀ g, F g → g < w.heap.size) (hm : Tk m) (hok : ∀ x ∈ l, ItOk x) : Calls Tryz.prog 10 #[.agg #[.string (str m), v]] w (NumB (rightI m l) w) := by
  obtain ⟨va, vc, rfl⟩ := h.shape
  have hb0 : Below w.heap.size w (w.alloc (.cells #[.string (str m), .slice va l.length vc] 24)) := (Below.refl _ _).alloc (Nat.le_refl _) _
  have hN := heap_alloc_new w (.cells #[.string (str m), .slice va l.length vc] 24)
  have HI : Hid (ItR F (w.alloc (.cells #[.string (str m), .slice va l.length vc] 24)) (.slice va l.length vc) l) := h.below hb0 hF
  have hF0 : ∀ g, F g → g < (w.alloc (.cells #[.string (str m), .slice va l.length vc] 24)).heap.size := fun g hg => by have := hF g hg; simp; omega
  have hs0 : w.heap.size < (w.alloc (.cells #[.string (str m), .slice va l.length vc] 24)).heap.size := by simp
  have hV := fun u => refValue (str m) u (by rw [str_size]; unfold Tk at hm; omega)
  rw [str_data] at hV
  have HO : Hid (∀ x ∈ l, ItOk x) := hok
  clear h hm hok
  go_enter Tryz.func10, Tryz.ntmps10
  go_wp2_with fail
  generalize w.alloc (.cells #[.string (str m), .slice va l.length vc] 24) = w0 at *
  have c1 : w0.cell? ⟨w.heap.size, 1, none⟩ = some (.slice va l.length vc) := by rw [cell_of_row w0 _ 1 _ _ _ hN]; rfl
  refine (hV _).mono ?_
  rintro e w1 ⟨rfl, hw1⟩
  obtain rfl := hw1.symm
  cases hv : valueR m
  · have HR : Hid (rightI m l = 13) := by rw [hid_iff, rightI, if_pos hv]
    clear hv hV
    go_wp2
    go_ret
    exact ⟨by rw [HR.out]; rfl, hb0⟩
  by_cases h32 : 32 < l.length
  · have HR : Hid (rightI m l = 4) := by rw [hid_iff, rightI, if_neg (by rw [hv]; simp), if_pos h32]
    have h32i : (32 : Int) < (l.length : Int) := by omega
    clear hv hV
    go_wp2
    go_ret
    exact ⟨by rw [HR.out]; rfl, hb0⟩
  have HR : Hid (rightI m l = itemsE none l) := by rw [hid_iff, rightI, if_neg (by rw [hv]; simp), if_neg h32]
  have h32i : ¬ (32 : Int) < (l.length : Int) := by omega
  clear hv hV
  go_wp2
  clear c1
  go_loopg [3] l.length (fun g i wr => ∃ (k : Nat), g + k = l.length ∧ i = .int .i64 (k : Int) ∧ Hid (itemsE none l = itemsE (prevI l k) (l.drop k)) ∧ Below w0.heap.size w0 wr)
  case atStart => exact ⟨0, by omega, rfl, rfl, Below.refl _ _⟩
  case round =>
    obtain ⟨k, hg, rfl, hq, hbl⟩ := hrel
    rename World => wo
    have hbw := below_trans hb0 hbl
    have hcM : wo.cell? ⟨w.heap.size, 1, none⟩ = some (.slice va l.length vc) := by rw [cell_of_row wo _ 1 _ _ _ ((hbl.block _ hs0).trans hN)]; rfl
    by_cases hk : k < l.length
    · have hsent : True := trivial
      obtain ⟨g, o, cap, cv, e1, hFg, hC, q0, q1, q2, q3⟩ := (HI.out.below hbl hF0).at k hk
      simp only [Value.slice.injEq, true_and] at e1
      obtain ⟨rfl, rfl⟩ := e1
      have hki : (k : Int) < (l.length : Int) := by omega
      obtain ⟨ca, cc, rfl⟩ := hC.shape
      have hxo := HO.out _ (List.getElem_mem hk)
      have hat := itemsE_at l k hk
      have HP : Hid (∀ j, k = j + 1 → ∃ p, (prevI l k).any (fun q => decide (l[k].name ≤ q)) = decide (l[k].name ≤ p) ∧ wo.cell? ⟨g, o + j * 4 + 1, none⟩ = some (.string (str p))) := by
        rw [hid_iff]
        rintro j rfl
        obtain ⟨g', o', cap', cv', e1, _, _, _, q1', _⟩ := (HI.out.below hbl hF0).at j (by omega)
        simp only [Value.slice.injEq, Option.some.injEq, Addr.mk.injEq, and_true, true_and] at e1
        obtain ⟨⟨rfl, rfl⟩, _⟩ := e1
        have hj : j < l.length := by omega
        refine ⟨l[j].name, ?_, q1'⟩
        simp [prevI, hj]
      have HZ : Hid (k = 0 → (prevI l k).any (fun q => decide (l[k].name ≤ q)) = false) := by
        rw [hid_iff]
        rintro rfl
        rfl
      rcases hx : l[k] with ⟨kd, nm, ty, cs⟩
      rw [hx] at q0 q1 q2 q3 hC hxo hat HP HZ
      simp only at q0 q1 q2 q3 hC HP HZ
      obtain ⟨_, _, hnm, hty, hcl, hco⟩ := hxo
      simp only at hnm hty hcl hco
      have HT : Hid (∀ y, itemE (prevI l k) ⟨kd, nm, ty, cs⟩ = y → y ≠ 0 → rightI m l = y) := by
        rw [hid_iff]
        intro y hy hy0
        rw [HR.out, hq.out, hat, hy, if_neg hy0]
      have HX : Hid (itemE (prevI l k) ⟨kd, nm, ty, cs⟩ = 0 → Hid (itemsE none l = itemsE (prevI l (k + 1)) (l.drop (k + 1)))) := by
        rw [hid_iff]
        intro hy
        rw [hid_iff, hq.out, hat, if_pos hy]
      obtain ⟨pv, hpv⟩ : ∃ pv, (prevI l k).any (fun q => decide (nm ≤ q)) = pv := ⟨_, rfl⟩
      rw [hpv] at HP HZ
      have HPV := hidden hpv
      clear hx hat hq hpv
      have hb2 : Below wo.heap.size wo (wo.alloc (.cells #[.int .i64 kd, .string (str nm), .string (str ty), .slice ca cs.length cc] 34)) := (Below.refl _ _).alloc (Nat.le_refl _) _
      have hN2 := heap_alloc_new wo (.cells #[.int .i64 kd, .string (str nm), .string (str ty), .slice ca cs.length cc] 34)
      have hsz2 := hbl.size
      have HC0 : ∀ u, Below (wo.alloc (.cells #[.int .i64 kd, .string (str nm), .string (str ty), .slice ca cs.length cc] 34)).heap.size (wo.alloc (.cells #[.int .i64 kd, .string (str nm), .string (str ty), .slice ca cs.length cc] 34)) u → u.cell? ⟨wo.heap.size, 0, none⟩ = some (.int .i64 kd) ∧ u.cell? ⟨wo.heap.size, 1, none⟩ = some (.string (str nm)) ∧ u.cell? ⟨wo.heap.size, 2, none⟩ = some (.string (str ty)) ∧ u.cell? ⟨wo.heap.size, 3, none⟩ = some (.slice ca cs.length cc) ∧ u.cell? ⟨w.heap.size, 1, none⟩ = some (.slice (some ⟨g, o, none⟩) l.length vc) ∧ Below wo.heap.size wo u ∧ Below w.heap.size w u := by
        intro u hu
        have hn := (hu.block wo.heap.size (by simp)).trans hN2
        have hn1 := (hu.block w.heap.size (by simp; omega)).trans ((hb2.block _ (by omega)).trans ((hbl.block _ hs0).trans hN))
        have hbu : Below wo.heap.size wo u := below_trans hb2 hu
        exact ⟨by rw [cell_of_row u _ 0 _ _ _ hn]; rfl, by rw [cell_of_row u _ 1 _ _ _ hn]; rfl, by rw [cell_of_row u _ 2 _ _ _ hn]; rfl, by rw [cell_of_row u _ 3 _ _ _ hn]; rfl, by rw [cell_of_row u _ 1 _ _ _ hn1]; rfl, hbu, below_trans hbw hbu⟩
      have HC := hidden HC0
      obtain ⟨_, _, _, _, _, hbz, hbz'⟩ := HC0 _ (Below.refl _ _)
      have hbig := fun u => refBig (str nm) u (by rw [str_size]; unfold Tk at hnm; omega)
      have hval := fun u => refValue (str nm) u (by rw [str_size]; unfold Tk at hnm; omega)
      rw [str_data] at hbig hval
      by_cases hk0 : kd < 1
      · have HK := hidden (kind_lt hk0)
        clear HX HP HZ HC HC0 hbig hval
        go_wp2
        go_ret
        exact ⟨by rw [HT.out 12 (iE1 HK.out) (by decide)]; rfl, hbz'⟩
      by_cases hk3 : 3 < kd
      · have HK := hidden (kind_gt hk3)
        clear HX HP HZ HC HC0 hbig hval
        go_wp2
        go_ret
        exact ⟨by rw [HT.out 12 (iE1 HK.out) (by decide)]; rfl, hbz'⟩
      have HKD := hidden (kind_in hk0 hk3)
      obtain ⟨y0, y1, y2, y3, y4, _, _⟩ := HC0 _ (Below.refl _ _)
      have HND : Hid (namedE ⟨kd, nm, ty, cs⟩ = if kd = 1 then bigR nm else valueR nm) := rfl
      clear HC0 hN2
      clear HND
      go_upto_region 12 with fail
      generalize hWW : wo.alloc (.cells #[.int .i64 kd, .string (str nm), .string (str ty), .slice ca cs.length cc] 34) = W2 at *
      clear hWW
      clear hsent hcM q0 q1 q2 q3
      generalize hbg : (kd == 1) = bg
      cases bg
      · have hk1 : kd ≠ 1 := by simpa using hbg
        have HND : Hid (namedE ⟨kd, nm, ty, cs⟩ = valueR nm) := by rw [hid_iff]; unfold namedE; rw [if_neg hk1]
        clear hbg hbig
        obtain ⟨nd, HNV⟩ : ∃ nd, Hid (nd = valueR nm) := ⟨_, rfl⟩
        rw [← HNV.out] at hval
        cases nd
        · have HE : Hid (itemE (prevI l k) ⟨kd, nm, ty, cs⟩ = 13) := iE2 HKD.out (by rw [HND.out, ← HNV.out])
          have hb5 : ∀ n, Below w.heap.size w (W2.drewN n) := fun n => below_drewN hbz' n
          clear HX HP HZ HC HND HNV HPV HKD hk1
          go_quiet ((go_at_call 38; exact Calls.quiet_of_same (hval _)))
          go_wp2
          go_ret
          exact ⟨by rw [HT.out 13 HE.out (by decide)]; rfl, hb5 _⟩
        · have hnd : namedE ⟨kd, nm, ty, cs⟩ = true := by rw [HND.out, ← HNV.out]
          clear HND HNV
          go_cut [73] from 18 to 107 (fun c wx => c = .bool pv ∧ ∃ n, wx = W2.drewN n)
          case first =>
            cases k with
            | zero =>
              have hz := HZ.out rfl
              subst hz
              clear HT HX HP HZ HC HPV HKD hnd
              go_quiet ((go_at_call 38; exact Calls.quiet_of_same (hval _)))
              go_wp2_with fail
              go_meet
              exact ⟨rfl, _, rfl⟩
            | succ j =>
              obtain ⟨p, hp1, hp2⟩ := HP.out j rfl
              have hp3 := (World.cell?_of_block (a := ⟨g, o + j * 4 + 1, none⟩) (hb2.block g (World.block_lt_of_cell? wo _ hp2))).trans hp2
              have hge := geq_is p nm
              rw [← hp1] at hge
              have hj1 : IntKind.i64.wrap (((j + 1 : Nat) : Int) - 1) = (j : Int) := by rw [IntKind.wrap_i64]; omega
              have hj2 : (j : Int) < (l.length : Int) := by omega
              have hj3 : (0 : Int) < ((j + 1 : Nat) : Int) := by omega
              clear HT HX HP HZ HC HPV HKD hnd hp1 hp2
              go_quiet ((go_at_call 38; exact Calls.quiet_of_same (hval _)))
              go_wp2_with fail
              go_meet
              exact ⟨rfl, _, rfl⟩
          case rest =>
            obtain ⟨rfl, n, rfl⟩ := hcut
            have hb3' : Below W2.heap.size W2 (W2.drewN n) := belowK _ _
            clear y0 y1 y2 y3 y4 hval HP HZ
            generalize W2.drewN n = w4 at *
            obtain ⟨y0, y1, y2, y3, y4, hb4, hb5⟩ := HC.out w4 hb3'
            have hbl4 : Below w0.heap.size w0 w4 := below_trans hbl hb4
            have hC4 : CsR F w4 (.slice ca cs.length cc) cs := hC.below hb4 (fun g hg => Nat.lt_of_lt_of_le (hF0 g hg) hsz2)
            cases pv
            case true =>
              have HE := hidden (iE3 HKD.out hnd HPV.out)
              clear HX HC hnd HPV hC4
              go_wp2
              go_ret
              exact ⟨by rw [HT.out 13 HE.out (by decide)]; rfl, hb5⟩
            case false =>
              have HE := hidden (iE4 HKD.out hnd HPV.out hk1)
              clear hnd HPV
              by_cases hcs : 0 < cs.length
              · have HE' : Hid (itemE (prevI l k) ⟨kd, nm, ty, cs⟩ = 12) := by rw [hid_iff, HE.out]; exact if_pos hcs
                have hci : (0 : Int) < (cs.length : Int) := by omega
                clear HE hC4 HC HX
                go_wp2
                go_ret
                exact ⟨by rw [HT.out 12 HE'.out (by decide)]; rfl, hb5⟩
              · have hci : ¬ (0 : Int) < (cs.length : Int) := by omega
                have HE' : Hid (itemE (prevI l k) ⟨kd, nm, ty, cs⟩ = if rightR ty = false then 17 else if kd = 3 ∧ isFn ty = false then 17 else 0) := by rw [hid_iff, HE.out]; exact if_neg hcs
                have hpt := refPartsOf (str ty) w4
                have hri := fun u => refRight (str ty) u
                unfold PartsE at hpt
                rw [str_data] at hpt hri
                clear HE hC4
                go_wp2_with fail
                refine hpt.mono ?_
                rintro e w5 ⟨hc5, hb6⟩
                have hc6 : ∃ a b, e = .returned (.tuple #[a, .string b, .bool (isFn ty)]) := by
                  rcases hc5 with ⟨h1, v5, rfl, _⟩ | ⟨h1, rfl⟩
                  · exact ⟨_, _, by rw [h1]⟩
                  · exact ⟨_, _, by rw [h1]⟩
                obtain ⟨pa, pb, rfl⟩ := hc6
                have hb7 := below_trans hb5 hb6
                have hbl5 := below_trans hbl4 hb6
                obtain ⟨z0, z1, z2, z3, z4, _, _⟩ := HC.out w5 (below_trans hb3' hb6)
                clear hc5 hpt HC y0 y1 y2 y3 y4
                by_cases hrt : rightR ty = true
                · rw [hrt] at hri
                  by_cases hk33 : kd = 3
                  · subst hk33
                    cases hfn : isFn ty
                    · have HJ := hidden (HT.out 17 (by rw [HE'.out, if_neg (by rw [hrt]; simp), if_pos ⟨rfl, hfn⟩]) (by decide))
                      clear HT HX HE' hrt hfn
                      go_wp2_with (go_at_call 42; refine (hri _).mono ?_; rintro e u ⟨rfl, hu⟩; obtain rfl := hu.symm)
                      go_ret
                      exact ⟨by rw [HJ.out]; rfl, hb7⟩
                    · have HJ := HX.out (by rw [HE'.out, if_neg (by rw [hrt]; simp), if_neg (by rw [hfn]; simp)])
                      clear HT HX HE' hrt hfn
                      go_wp2_with (go_at_call 42; refine (hri _).mono ?_; rintro e u ⟨rfl, hu⟩; obtain rfl := hu.symm)
                      go_roundg (l.length - (k + 1))
                      case measure => omega
                      case rel => exact ⟨k + 1, by omega, by go_num, HJ, hbl5⟩
                  · have hk3f : (kd == 3) = false := by rw [beq_eq_false_iff_ne]; exact hk33
                    have HJ := HX.out (by rw [HE'.out, if_neg (by rw [hrt]; simp), if_neg (fun h => hk33 h.1)])
                    clear HT HX HE' hrt
                    generalize isFn ty = bf at *
                    go_wp2_with (go_at_call 42; refine (hri _).mono ?_; rintro e u ⟨rfl, hu⟩; obtain rfl := hu.symm)
                    go_roundg (l.length - (k + 1))
                    case measure => omega
                    case rel => exact ⟨k + 1, by omega, by go_num, HJ, hbl5⟩
                · have hrf : rightR ty = false := by simpa using hrt
                  rw [hrf] at hri
                  have HJ := hidden (HT.out 17 (by rw [HE'.out, if_pos hrf]) (by decide))
                  clear HT HX HE' hrt hrf
                  generalize isFn ty = bf at *
                  go_wp2_with (go_at_call 42; refine (hri _).mono ?_; rintro e u ⟨rfl, hu⟩; obtain rfl := hu.symm)
                  go_ret
                  exact ⟨by rw [HJ.out]; rfl, hb7⟩
      · have hk1 : kd = 1 := by simpa using hbg
        have HND : Hid (namedE ⟨kd, nm, ty, cs⟩ = bigR nm) := by rw [hid_iff]; unfold namedE; rw [if_pos hk1]
        clear hbg hval
        obtain ⟨nd, HNV⟩ : ∃ nd, Hid (nd = bigR nm) := ⟨_, rfl⟩
        rw [← HNV.out] at hbig
        cases nd
        · have HE : Hid (itemE (prevI l k) ⟨kd, nm, ty, cs⟩ = 13) := iE2 HKD.out (by rw [HND.out, ← HNV.out])
          have hb5 : ∀ n, Below w.heap.size w (W2.drewN n) := fun n => below_drewN hbz' n
          clear HX HP HZ HC HND HNV HPV HKD hk1
          go_quiet ((go_at_call 39; exact Calls.quiet_of_same (hbig _)))
          go_wp2
          go_ret
          exact ⟨by rw [HT.out 13 HE.out (by decide)]; rfl, hb5 _⟩
        · have hnd : namedE ⟨kd, nm, ty, cs⟩ = true := by rw [HND.out, ← HNV.out]
          clear HND HNV
          go_cut [73] from 18 to 107 (fun c wx => c = .bool pv ∧ ∃ n, wx = W2.drewN n)
          case first =>
            cases k with
            | zero =>
              have hz := HZ.out rfl
              subst hz
              clear HT HX HP HZ HC HPV HKD hnd
              go_quiet ((go_at_call 39; exact Calls.quiet_of_same (hbig _)))
              go_wp2_with fail
              go_meet
              exact ⟨rfl, _, rfl⟩
            | succ j =>
              obtain ⟨p, hp1, hp2⟩ := HP.out j rfl
              have hp3 := (World.cell?_of_block (a := ⟨g, o + j * 4 + 1, none⟩) (hb2.block g (World.block_lt_of_cell? wo _ hp2))).trans hp2
              have hge := geq_is p nm
              rw [← hp1] at hge
              have hj1 : IntKind.i64.wrap (((j + 1 : Nat) : Int) - 1) = (j : Int) := by rw [IntKind.wrap_i64]; omega
              have hj2 : (j : Int) < (l.length : Int) := by omega
              have hj3 : (0 : Int) < ((j + 1 : Nat) : Int) := by omega
              clear HT HX HP HZ HC HPV HKD hnd hp1 hp2
              go_quiet ((go_at_call 39; exact Calls.quiet_of_same (hbig _)))
              go_wp2_with fail
              go_meet
              exact ⟨rfl, _, rfl⟩
          case rest =>
            obtain ⟨rfl, n, rfl⟩ := hcut
            have hb3' : Below W2.heap.size W2 (W2.drewN n) := belowK _ _
            clear y0 y1 y2 y3 y4 hbig HP HZ
            generalize W2.drewN n = w4 at *
            obtain ⟨y0, y1, y2, y3, y4, hb4, hb5⟩ := HC.out w4 hb3'
            have hbl4 : Below w0.heap.size w0 w4 := below_trans hbl hb4
            have hC4 : CsR F w4 (.slice ca cs.length cc) cs := hC.below hb4 (fun g hg => Nat.lt_of_lt_of_le (hF0 g hg) hsz2)
            cases pv
            case true =>
              have HE := hidden (iE3 HKD.out hnd HPV.out)
              clear HX HC hnd HPV hC4
              go_wp2
              go_ret
              exact ⟨by rw [HT.out 13 HE.out (by decide)]; rfl, hb5⟩
            case false =>
              have HE := hidden ((iE5 HKD.out hnd HPV.out hk1).trans (typeW ty cs))
              clear hnd HPV
              have hne := nil_text ty
              by_cases hty0 : ty = []
              · rw [decide_eq_true hty0] at hne
                have HE' : Hid (itemE (prevI l k) ⟨kd, nm, ty, cs⟩ = casesW cs) := by rw [hid_iff, HE.out, if_neg (fun h => h hty0)]
                have hca := refCasesW F _ cs w4 hC4 hco hcl
                clear HE hty0 hC4 HC
                generalize casesW cs = y at *
                go_wp2_with fail
                refine hca.mono ?_
                rintro e w5 ⟨rfl, n5, hw5⟩
                have hb6 : Below w4.heap.size w4 w5 := by rw [hw5]; exact belowK _ _
                clear hw5 hca
                have hb7 := below_trans hb5 hb6
                have hbl5 := below_trans hbl4 hb6
                by_cases hy : y = 0
                · have HJ := HX.out (by rw [HE'.out]; exact hy)
                  subst hy
                  clear HT HX HE'
                  go_wp2
                  go_roundg (l.length - (k + 1))
                  case measure => omega
                  case rel => exact ⟨k + 1, by omega, by go_num, HJ, hbl5⟩
                · have hyn : ((y : Int) != 0) = true := by rw [bne_iff_ne]; omega
                  have HJ := hidden (HT.out y HE'.out hy)
                  clear HT HX HE' hy
                  go_wp2
                  go_ret
                  exact ⟨by rw [HJ.out]; rfl, hb7⟩
              · rw [decide_eq_false hty0] at hne
                have HE' : Hid (itemE (prevI l k) ⟨kd, nm, ty, cs⟩ = 12) := by rw [hid_iff, HE.out, if_pos hty0]
                clear HE hty0 hC4 HC HX
                go_wp2
                go_ret
                exact ⟨by rw [HT.out 12 HE'.out (by decide)]; rfl, hb5⟩
    · have hki : ¬ (k : Int) < (l.length : Int) := by omega
      have HZ : Hid (rightI m l = 0) := by
        rw [hid_iff, HR.out, hq.out, List.drop_of_length_le (by omega)]
        rfl
      clear hq
      go_wp2
      go_ret
      exact ⟨by rw [HZ.out]; rfl, hbw⟩
end Go.Proofs.YtalbjbahgbkifaaGreat

namespace Go.Proofs.YtalbjbahgbkifaaGreat
open Go.RowKit

/-- New bytes come back. -/
def RwE (L : List Nat) (w : World) (e : Ending) (w' : World) : Prop := ∃ v g, e = .returned v ∧ Wire.Row w' g v L ∧ w.heap.size ≤ g ∧ Below w.heap.size w w'
theorem rN (u : World) (v : Value) (b0 : Nat) (L : List Nat) (n : Nat) (hv : Wire.Rd u b0 v L) (hl : L.length ≤ 1000000000) (hn : n ≤ 1000000000) : Calls Tryz.prog 29 #[v, .int .u64 (n : Int)] u (RwE (L ++ Wire.enc n) u) := by
  refine (Wire.refnumber v b0 L n u (by omega) (by omega) hv).mono ?_
  rintro e w' ⟨v', g, rfl, h1, h2, h3⟩
  exact ⟨v', g, rfl, h1, h2, h3.below (Nat.le_refl _) (fun _ _ h => h)⟩
theorem rT (u : World) (v : Value) (b0 : Nat) (L : List Nat) (x : List UInt8) (hv : Wire.Rd u b0 v L) (hl : L.length ≤ 1000000000) (hn : x.length ≤ 1000000000) : Calls Tryz.prog 30 #[v, .string (str x)] u (RwE (L ++ txtB x) u) := by
  refine (Wire.reftext v b0 L (str x) u (by rw [str_size]; omega) hv).mono ?_
  rintro e w' ⟨v', g, rfl, h1, h2, h3⟩
  rw [List.append_assoc] at h1
  exact ⟨v', g, rfl, h1, h2, h3.below (Nat.le_refl _) (fun _ _ h => h)⟩
theorem rdV {w w' : World} {b : Nat} {v : Value} {l : List Nat} (h : Wire.Rd w b v l) (k : Below w.heap.size w w') : Wire.Rd w' b v l := by
  rcases h with h | ⟨a, cap, h1, h2, h3⟩
  · exact .inl h
  · refine .inr ⟨a, cap, h1, h2, fun j u hj => ?_⟩
    have := h3 j u hj
    rw [k.cell (World.block_lt_of_cell? w _ this)]
    exact this
theorem rowRd {w w' : World} {g : Nat} {v : Value} {L : List Nat} (h : Wire.Row w g v L) (k : Below w.heap.size w w') : Wire.Rd w' g v L := by
  rcases h.rd with h | ⟨a, cap, h1, h2, h3⟩
  · exact .inl h
  · refine .inr ⟨a, cap, h1, h2, fun j u hj => ?_⟩
    have := h3 j u hj
    rw [k.cell (World.block_lt_of_cell? w _ this)]
    exact this
theorem wrapU (n : Nat) (h : n ≤ 1000000000) : IntKind.u64.wrap ((n : Nat) : Int) = (n : Int) := by simp [IntKind.wrap, IntKind.bits, IntKind.signed]; omega
theorem fields_sz (fs : List (List UInt8)) (h : ∀ f ∈ fs, f.length ≤ 200) (hn : fs.length ≤ 4) (k : Nat) : (fieldsB (fs.take k)).length ≤ 840 := by
  have h1 := fieldsB_le fs k
  have h2 := fields_len fs h
  omega
theorem case_sz {c : Cs} (h : CsS c) : (caseB c).length ≤ 1000 := by
  have h5 := h.1
  have h6 := txtB_len c.1 (by omega)
  have h7 := fields_len c.2 h.2.2
  have h8 := Wire.enc_ten c.2.length (by have := h.2.1; omega)
  have := h.2.1
  simp only [caseB, List.length_append]
  omega
theorem cases_sz : ∀ (cs : List Cs), (∀ c ∈ cs, CsS c) → (casesB cs).length ≤ 1000 * cs.length
  | [], _ => by simp [casesB]
  | c :: r, h => by
    have h1 := case_sz (h c (by simp))
    have h2 := cases_sz r (fun d hd => h d (by simp [hd]))
    simp only [casesB, List.length_append, List.length_cons]
    omega
set_option maxHeartbeats 1000000 in
set_option maxRecDepth 1000000 in
theorem refCasesB (F : Nat → Prop) (v : Value) (b0 : Nat) (L : List Nat) (cv : Value) (cs : List Cs) (w : World) (hv : Wire.Rd w b0 v L) (hC : CsR F w cv cs) (hF : ∀ g, F g → g < w.heap.size) (hs : ∀ c ∈ cs, CsS c) (hn : cs.length ≤ 6) (hL : L.length ≤ 1000000) :
    Calls Tryz.prog 63 #[v, cv] w (RwE (L ++ (Wire.enc cs.length ++ casesB cs)) w) := by
  obtain ⟨ca, cc, rfl⟩ := hC.shape
  have hnum := rN w v b0 L cs.length hv (by omega) (by omega)
  have hw := wrapU cs.length (by omega)
  have hsz := cases_sz cs hs
  have hten := Wire.enc_ten cs.length (by omega)
  have hh := hidden hC
  have HS := hidden hs
  obtain ⟨va, vn, hvs⟩ := hv.shape
  subst hvs
  clear hv hC hs
  go_enter Tryz.func63, Tryz.ntmps63
  go_wp2_with fail
  refine hnum.mono ?_
  rintro e w1 ⟨v1, g1, rfl, hr1, hf1, hb1⟩
  go_wp2
  go_loopg [0, 5] cs.length (fun gk a i wr => ∃ (k g : Nat), gk + k = cs.length ∧ i = .int .i64 (k : Int) ∧ Wire.Row wr g a (L ++ (Wire.enc cs.length ++ casesB (cs.take k))) ∧ w.heap.size ≤ g ∧ Below w.heap.size w wr)
  case atStart => exact ⟨0, g1, by omega, rfl, by simpa [casesB] using hr1, hf1, hb1⟩
  case round =>
    obtain ⟨k, g, hg, rfl, hrow, hgf, hbr⟩ := hrel
    rename World => wo
    have hsr := hbr.size
    by_cases hk : k < cs.length
    · have hCo := hh.out.below hbr hF
      obtain ⟨gc, oc, dc, fv, e1, _, hFg, hT, q0, q1⟩ := hCo.at k hk
      simp only [Value.slice.injEq, true_and] at e1
      obtain ⟨rfl, rfl⟩ := e1
      have hki : (k : Int) < (cs.length : Int) := by omega
      have hcs := HS.out _ (List.getElem_mem hk)
      have hat := casesB_at cs k hk
      have hle := casesB_le cs k
      obtain ⟨fa, fc, rfl⟩ := hT.shape
      clear hh HS
      generalize cs[k] = c at *
      obtain ⟨nm, fs⟩ := c
      simp only at hT q0 q1 hcs
      have hnm := hcs.1
      have hfn := hcs.2.1
      have hff := hcs.2.2
      simp only at hnm hfn hff
      have hwf := wrapU fs.length (by omega)
      have hgl : gc < wo.heap.size := Nat.lt_of_lt_of_le (hF gc hFg) hsr
      have hS : ∀ u, Below wo.heap.size wo u → u.cell? ⟨gc, oc + k * 2, none⟩ = some (.string (str nm)) ∧ u.cell? ⟨gc, oc + k * 2 + 1, none⟩ = some (.slice fa fs.length fc) := fun u hu => by
        have b1 := hu.block gc hgl
        exact ⟨(World.cell?_of_block (a := ⟨gc, oc + k * 2, none⟩) b1).trans q0, (World.cell?_of_block (a := ⟨gc, oc + k * 2 + 1, none⟩) b1).trans q1⟩
      have hln : (L ++ (Wire.enc cs.length ++ casesB (cs.take k))).length ≤ 1010000 := by simp only [List.length_append]; omega
      generalize hLL : L ++ (Wire.enc cs.length ++ casesB (cs.take k)) = LL at *
      have hTx : ∀ u, Below wo.heap.size wo u → Calls Tryz.prog 30 #[_, .string (str nm)] u (RwE (LL ++ txtB nm) u) := fun u hu => rT u _ g LL nm (rowRd hrow hu) (by omega) (by omega)
      have htl := txtB_len nm (by omega)
      have hNu : ∀ u v2 g2, Wire.Row u g2 v2 (LL ++ txtB nm) → Calls Tryz.prog 29 #[v2, .int .u64 (fs.length : Int)] u (RwE ((LL ++ txtB nm) ++ Wire.enc fs.length) u) := fun u v2 g2 h => rN u v2 g2 _ fs.length h.rd (by simp only [List.length_append]; omega) (by omega)
      obtain ⟨oa, on, hos⟩ := hrow.rd.shape
      subst hos
      have G0 : Below wo.heap.size wo wo.drew := (Below.refl _ _).drew
      have HLL := hidden hLL
      clear hLL
      go_upto_region 5 with fail
      go_cut [0] from 12 to 52 (fun a wx => ∃ g3, Wire.Row wx g3 a ((LL ++ txtB nm) ++ Wire.enc fs.length) ∧ wo.heap.size ≤ g3 ∧ Below wo.heap.size wo wx)
      case first =>
        clear hat hle hT hCo HLL
        go_region_held3 (fun u => u.cell? ⟨gc, oc + k * 2, none⟩ = some (.string (str nm)) ∧ u.cell? ⟨gc, oc + k * 2 + 1, none⟩ = some (.slice fa fs.length fc)) (first | go_keep | exact hS _ (by assumption)) (first
          | (go_at_call 30; refine (hTx _ (by assumption)).mono ?_; rintro e w2 ⟨v2, g2, rfl, hr2, hf2, hb2⟩; have G2 := G0.trans (hb2.mono (Nat.le_refl _)))
          | (go_at_call 29; refine (hNu _ _ _ hr2).mono ?_; rintro e w3 ⟨v3, g3, rfl, hr3, hf3, hb3⟩; have G3 := G2.trans (hb3.mono G2.size)))
        all_goals (
          go_wp2_with fail
          go_meet
          exact ⟨_, hr3, Nat.le_trans G2.size hf3, G3⟩)
      case rest =>
        obtain ⟨g3, hr3, hf3, hb3⟩ := hcut
        rename World => w3
        have hs3 := hb3.size
        have hfb := fields_sz fs hff hfn
        have hTf := hT.below hb3 (fun g hg => Nat.lt_of_lt_of_le (hF g hg) hsr)
        have HTf := hidden hT
        obtain ⟨p0, p1⟩ := hS _ hb3
        clear hTx hNu hCo hT
        have hl3 : ((LL ++ txtB nm) ++ Wire.enc fs.length).length ≤ 1010100 := by
          have := Wire.enc_ten fs.length (by omega)
          simp only [List.length_append]
          omega
        go_wp2
        go_loopg [0, 6] fs.length (fun gk a i wr => ∃ (j g : Nat), gk + j = fs.length ∧ i = .int .i64 (j : Int) ∧ Wire.Row wr g a (((LL ++ txtB nm) ++ Wire.enc fs.length) ++ fieldsB (fs.take j)) ∧ wo.heap.size ≤ g ∧ Below wo.heap.size wo wr)
        case atStart => exact ⟨0, g3, by omega, rfl, by simpa [fieldsB] using hr3, hf3, hb3⟩
        case round =>
          obtain ⟨j, g4, hgj, rfl, hr4, hf4, hb4⟩ := hrel
          rename World => w4
          have hs4 := hb4.size
          clear p0 p1
          obtain ⟨p0, p1⟩ := hS _ hb4
          have hrl : (((LL ++ txtB nm) ++ Wire.enc fs.length) ++ fieldsB (fs.take j)).length ≤ 1020000 := by have := hfb j; rw [List.length_append]; omega
          generalize hR4 : ((LL ++ txtB nm) ++ Wire.enc fs.length) ++ fieldsB (fs.take j) = R4 at *
          have HR4 := hidden hR4
          clear hR4
          by_cases hj : j < fs.length
          · obtain ⟨gf, of, df, e5, _, q5⟩ := (HTf.out.below hb4 (fun g hg => Nat.lt_of_lt_of_le (hF g hg) hsr)).at j hj
            simp only [Value.slice.injEq, true_and] at e5
            obtain ⟨rfl, rfl⟩ := e5
            have hji : (j : Int) < (fs.length : Int) := by omega
            have hxl := hff _ (List.getElem_mem hj)
            have hfa := hidden (fieldsB_at fs j hj)
            have hfj := hfb j
            have htx := rT w4 _ g4 R4 fs[j] hr4.rd (by omega) (by omega)
            obtain ⟨xa, xn, hxs⟩ := hr4.rd.shape
            subst hxs
            generalize fs[j] = fx at *
            go_wp2_with fail
            refine htx.mono ?_
            rintro e w5 ⟨v5, g5, rfl, hr5, hf5, hb5⟩
            have hb6 := hb4.trans (hb5.mono hs4)
            go_wp2
            go_roundg (fs.length - (j + 1))
            case measure => omega
            case rel => exact ⟨j + 1, g5, by omega, by go_num, by rw [hfa.out, ← List.append_assoc, HR4.out]; exact hr5, Nat.le_trans hs4 hf5, hb6⟩
          · have hji : ¬ (j : Int) < (fs.length : Int) := by omega
            have HFIN : Hid (L ++ (Wire.enc cs.length ++ casesB (cs.take (k + 1))) = R4) := by
              have h1 := HR4.out
              rw [List.take_of_length_le (by omega)] at h1
              rw [hid_iff, hat, ← h1, ← HLL.out, caseB]
              simp only [List.append_assoc]
            have hb6 := hbr.trans (hb4.mono hsr)
            clear HR4 HLL hat
            go_wp2
            go_roundg (cs.length - (k + 1))
            case measure => omega
            case rel => exact ⟨k + 1, g4, by omega, by go_num, by rw [HFIN.out]; exact hr4, Nat.le_trans hsr hf4, hb6⟩
    · have hki : ¬ (k : Int) < (cs.length : Int) := by omega
      rw [List.take_of_length_le (by omega)] at hrow
      go_wp2
      go_ret
      exact ⟨_, g, rfl, hrow, hgf, hbr⟩
set_option maxHeartbeats 2000000 in
set_option maxRecDepth 1000000 in
theorem refItemB (F : Nat → Prop) (v : Value) (b0 : Nat) (L : List Nat) (x : It) (cv : Value) (w : World) (hv : Wire.Rd w b0 v L) (hC : CsR F w cv x.cases) (hF : ∀ g, F g → g < w.heap.size) (hs : ItS x) (hL : L.length ≤ 900000) :
    Calls Tryz.prog 31 #[v, itv x cv] w (RwE (L ++ itemB x) w) := by
  obtain ⟨ca, cc, rfl⟩ := hC.shape
  obtain ⟨kd, nm, ty, cs⟩ := x
  have hkd := hs.kind
  have hnm := hs.name
  simp only at hkd hnm hC
  obtain ⟨kn, rfl⟩ : ∃ kn : Nat, kd = (kn : Int) := ⟨kd.toNat, by omega⟩
  have HB : Hid (itemB ⟨(kn : Int), nm, ty, cs⟩ = Wire.enc kn ++ (txtB nm ++ (if (kn : Int) = 1 then Wire.enc cs.length ++ casesB cs else txtB ty))) := by rw [hid_iff]; unfold itemB; simp only [Int.toNat_natCast]
  unfold itv
  simp only
  have hb0 : Below w.heap.size w (w.alloc (.cells #[.int .i64 (kn : Int), .string (str nm), .string (str ty), .slice ca cs.length cc] 34)) := (Below.refl _ _).alloc (Nat.le_refl _) _
  have hN := World.alloc_heap_new w (.cells #[.int .i64 (kn : Int), .string (str nm), .string (str ty), .slice ca cs.length cc] 34)
  have hv0 := rdV hv hb0
  have hC0 := hC.below hb0 hF
  have hF0 : ∀ g, F g → g < (w.alloc (.cells #[.int .i64 (kn : Int), .string (str nm), .string (str ty), .slice ca cs.length cc] 34)).heap.size := fun g hg => by have := hF g hg; simp; omega
  have hlt : w.heap.size < (w.alloc (.cells #[.int .i64 (kn : Int), .string (str nm), .string (str ty), .slice ca cs.length cc] 34)).heap.size := by simp
  obtain ⟨va, vn, hvs⟩ := hv.shape
  subst hvs
  have hw := wrapU kn (by omega)
  clear hv hC
  go_enter Tryz.func31, Tryz.ntmps31
  go_upto_region 1 with fail
  generalize w.alloc (.cells #[.int .i64 (kn : Int), .string (str nm), .string (str ty), .slice ca cs.length cc] 34) = W0 at *
  have hS : ∀ u, Below W0.heap.size W0 u → u.cell? ⟨w.heap.size, 0, none⟩ = some (.int .i64 (kn : Int)) ∧ u.cell? ⟨w.heap.size, 1, none⟩ = some (.string (str nm)) ∧ u.cell? ⟨w.heap.size, 2, none⟩ = some (.string (str ty)) ∧ u.cell? ⟨w.heap.size, 3, none⟩ = some (.slice ca cs.length cc) := fun u hu => by
    have k1 := (hu.block w.heap.size hlt).trans hN
    exact ⟨by rw [cell_of_row _ _ 0 _ _ _ k1]; rfl, by rw [cell_of_row _ _ 1 _ _ _ k1]; rfl, by rw [cell_of_row _ _ 2 _ _ _ k1]; rfl, by rw [cell_of_row _ _ 3 _ _ _ k1]; rfl⟩
  have hNu : ∀ u, Below W0.heap.size W0 u → Calls Tryz.prog 29 #[.slice va L.length vn, .int .u64 (kn : Int)] u (RwE (L ++ Wire.enc kn) u) := fun u hu => rN u _ b0 L kn (rdV hv0 hu) (by omega) (by omega)
  have hek := Wire.enc_ten kn (by omega)
  have hTx : ∀ u v2 g2, Wire.Row u g2 v2 (L ++ Wire.enc kn) → Calls Tryz.prog 30 #[v2, .string (str nm)] u (RwE ((L ++ Wire.enc kn) ++ txtB nm) u) := fun u v2 g2 h => rT u v2 g2 _ nm h.rd (by simp only [List.length_append]; omega) (by omega)
  have htl := txtB_len nm (by omega)
  have G0 : Below W0.heap.size W0 W0.drew := (Below.refl _ _).drew
  obtain ⟨z0, z1, z2, z3⟩ := hS _ (Below.refl _ _)
  go_cut [0] (fun a wx => ∃ g3, Wire.Row wx g3 a ((L ++ Wire.enc kn) ++ txtB nm) ∧ Below W0.heap.size W0 wx)
  case first =>
    clear hC0 hs
    go_region_held3 (fun u => u.cell? ⟨w.heap.size, 0, none⟩ = some (.int .i64 (kn : Int)) ∧ u.cell? ⟨w.heap.size, 1, none⟩ = some (.string (str nm))) (first | go_keep | exact ⟨(hS _ (by assumption)).1, (hS _ (by assumption)).2.1⟩) (first
      | (go_at_call 29; refine (hNu _ (by assumption)).mono ?_; rintro e w2 ⟨v2, g2, rfl, hr2, hf2, hb2⟩; have G2 := G0.trans (hb2.mono (Nat.le_refl _)))
      | (go_at_call 30; refine (hTx _ _ _ hr2).mono ?_; rintro e w3 ⟨v3, g3, rfl, hr3, hf3, hb3⟩; have G3 := G2.trans (hb3.mono G2.size)))
    all_goals (
      go_wp2_with fail
      go_meet
      exact ⟨_, hr3, G3⟩)
  case rest =>
    obtain ⟨g3, hr3, hb3⟩ := hcut
    rename World => w3
    clear z0 z1 z2 z3
    obtain ⟨z0, z1, z2, z3⟩ := hS _ hb3
    have hs3 := hb3.size
    have hbw := hb0.trans (hb3.mono (by omega))
    have hl3 : ((L ++ Wire.enc kn) ++ txtB nm).length ≤ 900100 := by simp only [List.length_append]; omega
    clear hNu hTx hS
    generalize hRR : (L ++ Wire.enc kn) ++ txtB nm = R3 at *
    have HRR := hidden hRR
    clear hRR
    by_cases hk1 : kn = 1
    · have hc := hs.cases1 (by simp only; omega)
      simp only at hc
      have hca := refCasesB F _ g3 R3 _ cs w3 hr3.rd (hC0.below hb3 hF0) (fun g hg => Nat.lt_of_lt_of_le (hF0 g hg) hs3) hc.2.2 hc.2.1 (by omega)
      obtain ⟨xa, xn, hxs⟩ := hr3.rd.shape
      subst hxs
      have hkt : ((kn : Int) == 1) = true := by rw [beq_iff_eq]; omega
      have HF : Hid (L ++ itemB ⟨(kn : Int), nm, ty, cs⟩ = R3 ++ (Wire.enc cs.length ++ casesB cs)) := by
        rw [hid_iff, HB.out, if_pos (by omega), ← HRR.out]
        simp only [List.append_assoc]
      clear hr3 HB HRR hs hc hk1
      go_wp2_with fail
      refine hca.mono ?_
      rintro e w5 ⟨v5, g5, rfl, hr5, hf5, hb5⟩
      have hb6 := hbw.trans (hb5.mono (by omega))
      go_wp2
      go_ret
      exact ⟨_, g5, rfl, by rw [HF.out]; exact hr5, by have := hbw.size; omega, hb6⟩
    · have hc := hs.ty1 (by simp only; omega)
      simp only at hc
      have hta := rT w3 _ g3 R3 ty hr3.rd (by omega) (by omega)
      obtain ⟨xa, xn, hxs⟩ := hr3.rd.shape
      subst hxs
      have hkt : ((kn : Int) == 1) = false := by rw [beq_eq_false_iff_ne]; omega
      have HF : Hid (L ++ itemB ⟨(kn : Int), nm, ty, cs⟩ = R3 ++ txtB ty) := by
        rw [hid_iff, HB.out, if_neg (by omega), ← HRR.out]
        simp only [List.append_assoc]
      clear hr3 HB HRR hs hc hk1
      go_wp2_with fail
      refine hta.mono ?_
      rintro e w5 ⟨v5, g5, rfl, hr5, hf5, hb5⟩
      have hb6 := hbw.trans (hb5.mono (by omega))
      go_wp2
      go_ret
      exact ⟨_, g5, rfl, by rw [HF.out]; exact hr5, by have := hbw.size; omega, hb6⟩
theorem items_sz : ∀ (l : List It), (∀ x ∈ l, ∃ q, itemE q x = 0) → (itemsB l).length ≤ 7000 * l.length
  | [], _ => by simp [itemsB]
  | x :: r, h => by
    obtain ⟨q, hq⟩ := h x (by simp)
    have h1 := item_len hq
    have h2 := items_sz r (fun d hd => h d (by simp [hd]))
    simp only [itemsB, List.length_append, List.length_cons]
    omega
set_option maxHeartbeats 2000000 in
set_option maxRecDepth 1000000 in
theorem refEncodeB (F : Nat → Prop) (m : List UInt8) (v : Value) (l : List It) (w : World) (h : ItR F w v l) (hF : ∀ g, F g → g < w.heap.size) (hm : Tk m) (hok : ∀ x ∈ l, ItOk x) : Calls Tryz.prog 6 #[.agg #[.string (str m), v]] w (EncE m l w) := by
  obtain ⟨va, vc, rfl⟩ := h.shape
  have hb0 : Below w.heap.size w (w.alloc (.cells #[.string (str m), .slice va l.length vc] 24)) := (Below.refl _ _).alloc (Nat.le_refl _) _
  have hN := World.alloc_heap_new w (.cells #[.string (str m), .slice va l.length vc] 24)
  have hI0 := h.below hb0 hF
  have hF0 : ∀ g, F g → g < (w.alloc (.cells #[.string (str m), .slice va l.length vc] 24)).heap.size := fun g hg => by have := hF g hg; simp; omega
  have hlt : w.heap.size < (w.alloc (.cells #[.string (str m), .slice va l.length vc] 24)).heap.size := by simp
  have hri := refRightW F m (.slice va l.length vc) l _ hI0 hF0 hm hok
  clear h
  have hsh := right_short (m := m) (l := l)
  go_enter Tryz.func6, Tryz.ntmps6
  go_upto_region 1 with fail
  generalize w.alloc (.cells #[.string (str m), .slice va l.length vc] 24) = W0 at *
  have hS : ∀ u, Below W0.heap.size W0 u → u.cell? ⟨w.heap.size, 0, none⟩ = some (.string (str m)) ∧ u.cell? ⟨w.heap.size, 1, none⟩ = some (.slice va l.length vc) := fun u hu => by
    have k1 := (hu.block w.heap.size hlt).trans hN
    exact ⟨by rw [cell_of_row _ _ 0 _ _ _ k1]; rfl, by rw [cell_of_row _ _ 1 _ _ _ k1]; rfl⟩
  obtain ⟨z0, z1⟩ := hS _ (Below.refl _ _)
  go_wp2_with fail
  refine hri.mono ?_
  rintro e w1 ⟨rfl, hb1⟩
  have hs1 := hb1.size
  have hbw1 := hb0.trans (hb1.mono (by omega))
  clear hri z0 z1
  by_cases hy : rightI m l = 0
  · obtain ⟨hsz, hml, hll, hit⟩ := hsh hy
    have HY := hidden hy
    have HIT : Hid (∀ x ∈ l, ItS x) := fun x hx => (hit x hx).elim fun q hq => item_short hq
    have hisz := items_sz l hit
    rw [hy]
    obtain ⟨z0, z1⟩ := hS _ hb1
    have hw := wrapU l.length (by omega)
    have hTx : ∀ u, Below w1.heap.size w1 u → Calls Tryz.prog 30 #[.slice none 0 0, .string (str m)] u (RwE ([] ++ txtB m) u) := fun u hu => rT u _ 0 [] m (.inl ⟨rfl, rfl⟩) (by simp) (by omega)
    have htl := txtB_len m (by omega)
    have hNu : ∀ u v2 g2, Wire.Row u g2 v2 ([] ++ txtB m) → Calls Tryz.prog 29 #[v2, .int .u64 (l.length : Int)] u (RwE (([] ++ txtB m) ++ Wire.enc l.length) u) := fun u v2 g2 h => rN u v2 g2 _ l.length h.rd (by simp only [List.length_append, List.length_nil]; omega) (by omega)
    have G0 : Below w1.heap.size w1 w1.drew := (Below.refl _ _).drew
    have hS1 : ∀ u, Below w1.heap.size w1 u → u.cell? ⟨w.heap.size, 0, none⟩ = some (.string (str m)) ∧ u.cell? ⟨w.heap.size, 1, none⟩ = some (.slice va l.length vc) := fun u hu => hS u (hb1.trans (hu.mono hs1))
    clear hy hit hsh
    go_upto_region 4 with fail
    go_cut [5] (fun a wx => ∃ g3, Wire.Row wx g3 a (([] ++ txtB m) ++ Wire.enc l.length) ∧ w1.heap.size ≤ g3 ∧ Below w1.heap.size w1 wx)
    case first =>
      clear hS HY HIT
      go_region_held3 (fun u => u.cell? ⟨w.heap.size, 0, none⟩ = some (.string (str m)) ∧ u.cell? ⟨w.heap.size, 1, none⟩ = some (.slice va l.length vc)) (first | go_keep | exact hS1 _ (by assumption)) (first
        | (go_at_call 30; refine (hTx _ (by assumption)).mono ?_; rintro e w2 ⟨v2, g2, rfl, hr2, hf2, hb2⟩; have G2 := G0.trans (hb2.mono (Nat.le_refl _)))
        | (go_at_call 29; refine (hNu _ _ _ hr2).mono ?_; rintro e w3 ⟨v3, g3, rfl, hr3, hf3, hb3⟩; have G3 := G2.trans (hb3.mono G2.size)))
      all_goals (
        go_wp2_with fail
        go_meet
        exact ⟨_, hr3, Nat.le_trans G2.size hf3, G3⟩)
    case rest =>
      obtain ⟨g3, hr3, hf3, hb3⟩ := hcut
      rename World => w3
      clear z0 z1 hTx hNu
      have hten := Wire.enc_ten l.length (by omega)
      go_wp2
      go_loopg [5, 6] l.length (fun gk a i wr => ∃ (k g : Nat), gk + k = l.length ∧ i = .int .i64 (k : Int) ∧ Wire.Row wr g a ((([] ++ txtB m) ++ Wire.enc l.length) ++ itemsB (l.take k)) ∧ w.heap.size ≤ g ∧ Below w1.heap.size w1 wr)
      case atStart => exact ⟨0, g3, by omega, rfl, by simpa [itemsB] using hr3, by omega, hb3⟩
      case round =>
        obtain ⟨k, g, hg, rfl, hrow, hgf, hbr⟩ := hrel
        rename World => wo
        have hsr := hbr.size
        have hbo : Below W0.heap.size W0 wo := hb1.trans (hbr.mono hs1)
        have hbw := hb0.trans (hbo.mono (by omega))
        obtain ⟨z0, z1⟩ := hS1 _ hbr
        have hrl : ((([] ++ txtB m) ++ Wire.enc l.length) ++ itemsB (l.take k)).length ≤ 800000 := by
          have := itemsB_le l k
          simp only [List.length_append, List.length_nil]
          omega
        generalize hR4 : (([] ++ txtB m) ++ Wire.enc l.length) ++ itemsB (l.take k) = R4 at *
        have HR4 := hidden hR4
        clear hR4
        by_cases hk : k < l.length
        · have hI4 := hI0.below hbo hF0
          obtain ⟨gi, oi, di, cv, e1, hFg, hC, q0, q1, q2, q3⟩ := hI4.at k hk
          simp only [Value.slice.injEq, true_and] at e1
          obtain ⟨rfl, rfl⟩ := e1
          have hki : (k : Int) < (l.length : Int) := by omega
          have hfa := hidden (itemsB_at l k hk)
          have hits := HIT.out _ (List.getElem_mem hk)
          have hib := refItemB F _ g R4 l[k] cv wo hrow.rd hC (fun g hg => Nat.lt_of_lt_of_le (hF0 g hg) hbo.size) hits (by omega)
          obtain ⟨ca, cc, rfl⟩ := hC.shape
          obtain ⟨xa, xn, hxs⟩ := hrow.rd.shape
          subst hxs
          clear hits hC hI4 HIT
          generalize l[k] = x at *
          obtain ⟨kd, nm, ty, cs⟩ := x
          unfold itv at hib
          simp only at q0 q1 q2 q3 hib
          go_wp2_with fail
          refine hib.mono ?_
          rintro e w5 ⟨v5, g5, rfl, hr5, hf5, hb5⟩
          have hb6 := hbr.trans (hb5.mono hsr)
          have hf6 := hbw.size
          go_wp2
          go_roundg (l.length - (k + 1))
          case measure => omega
          case rel => exact ⟨k + 1, g5, by omega, by go_num, by rw [hfa.out, ← List.append_assoc, HR4.out]; exact hr5, by omega, hb6⟩
        · have hki : ¬ (k : Int) < (l.length : Int) := by omega
          have HFIN : Hid (ifaceB m l = R4) := by
            have h1 := HR4.out
            rw [List.take_of_length_le (by omega)] at h1
            rw [hid_iff, ← h1, ifaceB]
            simp only [List.append_assoc, List.nil_append]
          clear HR4
          go_wp2
          go_ret2
          exact ⟨.inl ⟨HY.out, _, g, rfl, by rw [HFIN.out]; exact hrow, hgf⟩, hbw⟩
  · have HY := hidden hy
    have hyn : ((rightI m l : Int) != 0) = true := by rw [bne_iff_ne]; omega
    clear hy hsh
    go_wp2
    go_ret2
    exact ⟨.inr ⟨HY.out, rfl⟩, hbw1⟩
end Go.Proofs.YtalbjbahgbkifaaGreat

namespace Go.Proofs.YtalbjbahgbkifaaGreat
open Wire (rNum rTake rEnd enc)

def refF {α : Type} (rd : Nat → Nat → α × Nat × Nat) : Nat → Nat → Nat → List α → List α × Nat × Nat
  | 0, p, y, acc => (acc, p, y)
  | n + 1, p, y, acc => if y ≠ 0 then (acc, p, y) else refF rd n (rd p y).2.1 (rd p y).2.2 (acc ++ [(rd p y).1])
def refL {α : Type} (l : List Nat) (rd : Nat → Nat → α × Nat × Nat) (p y : Nat) : List α × Nat × Nat := refF rd (rNum l p y 65535).1 (rNum l p y 65535).2.1 (rNum l p y 65535).2.2 []
def caseQ (l : List Nat) (p y : Nat) : Cs × Nat × Nat :=
  (((txtR l 24 p y).1, (refL l (txtR l 200) (txtR l 24 p y).2.1 (txtR l 24 p y).2.2).1), (refL l (txtR l 200) (txtR l 24 p y).2.1 (txtR l 24 p y).2.2).2)
def itemQT (l : List Nat) (k : Nat) (nm : List UInt8) (p y : Nat) : It × Nat × Nat :=
  if k = 1 then (⟨(k : Int), nm, [], (refL l (caseQ l) p y).1⟩, (refL l (caseQ l) p y).2) else (⟨(k : Int), nm, (txtR l 200 p y).1, []⟩, (txtR l 200 p y).2)
def itemQN (l : List Nat) (k p y : Nat) : It × Nat × Nat := itemQT l k (txtR l 24 p y).1 (txtR l 24 p y).2.1 (txtR l 24 p y).2.2
def itemQ (l : List Nat) (p y : Nat) : It × Nat × Nat := itemQN l (rNum l p y 65535).1 (rNum l p y 65535).2.1 (rNum l p y 65535).2.2
def itemsQ (l : List Nat) : List It × Nat × Nat := refL l (itemQ l) (txtR l 24 0 0).2.1 (txtR l 24 0 0).2.2

theorem refF_stop {α : Type} (rd : Nat → Nat → α × Nat × Nat) (n p y : Nat) (acc : List α) (h : n = 0 ∨ y ≠ 0) : refF rd n p y acc = (acc, p, y) := by
  cases n with
  | zero => rfl
  | succ n => rw [refF, if_pos (h.resolve_left (by omega))]
theorem refF_go {α : Type} (rd : Nat → Nat → α × Nat × Nat) (n p : Nat) (acc : List α) (h : 0 < n) : refF rd n p 0 acc = refF rd (n - 1) (rd p 0).2.1 (rd p 0).2.2 (acc ++ [(rd p 0).1]) := by
  cases n with
  | zero => omega
  | succ n => rw [refF, if_neg (by simp)]; rfl
theorem listF_stuck {α : Type} {rd : Nat → Nat → α × Nat × Nat} (hst : ∀ p y, y ≠ 0 → (rd p y).2 = (p, y)) : ∀ (n p y : Nat) (acc : List α), y ≠ 0 → (listF rd n p y acc).2 = (p, y)
  | 0, p, y, acc, h => rfl
  | n + 1, p, y, acc, h => by
    rw [listF, hst p y h]
    split
    · rfl
    · exact listF_stuck hst n p y _ h
theorem ref_list {α : Type} {rd rd' : Nat → Nat → α × Nat × Nat} (h2 : ∀ p y, (rd' p y).2 = (rd p y).2) (h1 : ∀ p y, (rd p y).2.2 = 0 → rd' p y = rd p y) (hst : ∀ p y, y ≠ 0 → (rd p y).2 = (p, y)) :
    ∀ (n p y : Nat) (acc : List α), (refF rd' n p y acc).2 = (listF rd n p y acc).2 ∧ ((listF rd n p y acc).2.2 = 0 → refF rd' n p y acc = listF rd n p y acc)
  | 0, p, y, acc => ⟨rfl, fun _ => rfl⟩
  | n + 1, p, y, acc => by
    by_cases hy : y = 0
    · subst hy
      rw [refF, if_neg (by simp)]
      by_cases hr : (rd p 0).2.2 = 0
      · rw [h1 p 0 hr, listF, if_neg (by rw [hr]; decide)]
        exact ref_list h2 h1 hst n _ _ _
      · rw [h2 p 0, refF_stop _ _ _ _ _ (.inr hr)]
        have hL : (listF rd (n + 1) p 0 acc).2 = (rd p 0).2 := by
          rw [listF]
          split
          · rfl
          · exact listF_stuck hst n _ _ _ hr
        rw [hL]
        exact ⟨rfl, fun e => absurd e hr⟩
    · rw [refF_stop _ _ _ _ _ (.inr hy), listF_stuck hst (n + 1) p y acc hy]
      exact ⟨rfl, fun e => absurd e hy⟩
theorem txt_stuck (l : List Nat) (most p y : Nat) (h : y ≠ 0) : (txtR l most p y).2 = (p, y) := by
  unfold txtR
  rw [num_stick l most p y h, take_stick l p y _ h]
theorem list_stuck {α : Type} (l : List Nat) (rd : Nat → Nat → α × Nat × Nat) (p y : Nat) (h : y ≠ 0) : (listR l rd p y).2 = (p, y) := by
  unfold listR
  rw [num_stick l 65535 p y h]
  rfl
theorem case_stuck (l : List Nat) (p y : Nat) (h : y ≠ 0) : (caseR l p y).2 = (p, y) := by
  show (listR l (txtR l 200) (txtR l 24 p y).2.1 (txtR l 24 p y).2.2).2 = (p, y)
  rw [txt_stuck l 24 p y h, list_stuck _ _ _ _ h]
theorem item_stuck (l : List Nat) (p y : Nat) (h : y ≠ 0) : (itemR l p y).2 = (p, y) := by
  unfold itemR
  rw [num_stick l 65535 p y h]
  show (itemT l 0 (txtR l 24 p y).1 (txtR l 24 p y).2.1 (txtR l 24 p y).2.2).2 = (p, y)
  rw [txt_stuck l 24 p y h]
  exact txt_stuck l 200 p y h
theorem refL_list {α : Type} (l : List Nat) {rd rd' : Nat → Nat → α × Nat × Nat} (h2 : ∀ p y, (rd' p y).2 = (rd p y).2) (h1 : ∀ p y, (rd p y).2.2 = 0 → rd' p y = rd p y) (hst : ∀ p y, y ≠ 0 → (rd p y).2 = (p, y)) (p y : Nat) :
    (refL l rd' p y).2 = (listR l rd p y).2 ∧ ((listR l rd p y).2.2 = 0 → refL l rd' p y = listR l rd p y) := ref_list h2 h1 hst _ _ _ _
theorem case_ref (l : List Nat) (p y : Nat) : (caseQ l p y).2 = (caseR l p y).2 ∧ ((caseR l p y).2.2 = 0 → caseQ l p y = caseR l p y) := by
  have h := refL_list l (rd := txtR l 200) (rd' := txtR l 200) (fun _ _ => rfl) (fun _ _ _ => rfl) (txt_stuck l 200) (txtR l 24 p y).2.1 (txtR l 24 p y).2.2
  refine ⟨h.1, fun e => ?_⟩
  unfold caseQ caseR
  rw [h.2 e]
theorem itemT_ref (l : List Nat) (k : Nat) (nm : List UInt8) (p y : Nat) : (itemQT l k nm p y).2 = (itemT l k nm p y).2 ∧ ((itemT l k nm p y).2.2 = 0 → itemQT l k nm p y = itemT l k nm p y) := by
  have h := refL_list l (rd := caseR l) (rd' := caseQ l) (fun p y => (case_ref l p y).1) (fun p y => (case_ref l p y).2) (case_stuck l) p y
  unfold itemQT itemT
  split
  · exact ⟨h.1, fun e => by rw [h.2 e]⟩
  · exact ⟨rfl, fun _ => rfl⟩
theorem item_ref (l : List Nat) (p y : Nat) : (itemQ l p y).2 = (itemR l p y).2 ∧ ((itemR l p y).2.2 = 0 → itemQ l p y = itemR l p y) := itemT_ref l _ _ _ _
/-- The whole: the same refusal and place; where nothing is refused the same items. -/
theorem items_ref (l : List Nat) : (itemsQ l).2 = (itemsR l).2 ∧ ((itemsR l).2.2 = 0 → itemsQ l = itemsR l) :=
  refL_list l (fun p y => (item_ref l p y).1) (fun p y => (item_ref l p y).2) (item_stuck l) _ _
theorem refF_le {α : Type} {l : List Nat} {rd : Nat → Nat → α × Nat × Nat} (hrd : ∀ p y, p ≤ l.length → (rd p y).2.1 ≤ l.length) : ∀ (n p y : Nat) (acc : List α), p ≤ l.length → (refF rd n p y acc).2.1 ≤ l.length
  | 0, p, y, acc, h => h
  | n + 1, p, y, acc, h => by
    rw [refF]
    split
    · exact h
    · exact refF_le hrd n _ _ _ (hrd p y h)
theorem refL_le {α : Type} {l : List Nat} {rd : Nat → Nat → α × Nat × Nat} (hrd : ∀ p y, p ≤ l.length → (rd p y).2.1 ≤ l.length) (p y : Nat) (h : p ≤ l.length) : (refL l rd p y).2.1 ≤ l.length := refF_le hrd _ _ _ _ (Wire.rNum_le l p y 65535 h)
end Go.Proofs.YtalbjbahgbkifaaGreat

namespace Go.Proofs.YtalbjbahgbkifaaGreat
open Go.RowKit

def QTxtE (l : List Nat) (most p y b b0 : Nat) (bv : Value) (w : World) (e : Ending) (w' : World) : Prop := e = .returned (.string (str (txtR l most p y).1)) ∧ Wire.QIs w' b b0 bv l (txtR l most p y).2.1 (txtR l most p y).2.2 ∧ Wire.Kept (fun k => k = b) w w'
theorem qtxt (most b b0 : Nat) (bv : Value) (l : List Nat) (p y : Nat) (w : World) (hm : most ≤ 65535) (hl : l.length ≤ 140737488351232) (h256 : ∀ x ∈ l, x < 256) (hp : p ≤ l.length) (hq : Wire.QIs w b b0 bv l p y) (hcap : ∃ a m c, bv = .slice a m c ∧ m ≤ c ∧ c ≤ maxLen) :
    Calls Tryz.prog 56 #[.pointer (some ⟨b, 0, none⟩), .int .i64 (most : Int)] w (QTxtE l most p y b b0 bv w) := by
  refine (Wire.qtext (most : Int) b b0 bv l p y w (by omega) (by omega) hl h256 hp hq hcap (Wire.rNum l p y most) (by rw [hid_iff, Int.toNat_natCast])).mono ?_
  rintro e w' ⟨rfl, h1, h2⟩
  exact ⟨by rw [Wire.toStr_eq]; rfl, h1, h2⟩
theorem qflag {w : World} {b b0 : Nat} {bv : Value} {l : List Nat} {p y : Nat} (h : Wire.QIs w b b0 bv l p y) : ∃ fl, w.cell? ⟨b, 2, none⟩ = some (.bool fl) ∧ (fl = true ↔ y ≠ 0) := by
  obtain ⟨A, r, Y, Z, h1, h2, h3, h4, h5⟩ := h
  obtain ⟨c0, c1, c2, _⟩ := Wire.qcells h1
  refine ⟨r, c2, ?_⟩
  rcases h5 with ⟨rfl, rfl, _⟩ | ⟨h, rfl, _⟩
  · simp
  · simp [h]
theorem step_textM {w : World} {ops : Array Oper} {o : Oper} {a : Act} {K : Act → World → Prop} {Q : Exit → Act → World → Prop} {E : Prop} (hgd : o.guard = none) (s x : Operand)
    (ho : o.op = .call { callee := .builtin .append, args := #[s, x], argTypes := #[25, 25] })
    (B : Nat) (v : Value) (ks : List (List UInt8)) (hs : a.eval s = v) (hown : w.ownsRow B 9 1 v ks.length (sc ks)) (n : List UInt8) (ad : Addr) (cp : Nat) (hx : a.eval x = .slice (some ad) 1 cp)
    (hnews : ∀ j u, ([.string (str n)] : List Value)[j]? = some u → w.cell? (ad.add j) = some u) (hlen : ks.length + 1 ≤ 100000) (hB : B ≤ w.heap.size)
    (h : ∀ g cap w', w'.ownsRow B 9 1 (.slice (some ⟨g, 0, none⟩) (ks.length + 1) cap) (ks ++ [n]).length (sc (ks ++ [n])) → w.grownBy w' v.ownBlock → K (a.put o.dst (.slice (some ⟨g, 0, none⟩) (ks.length + 1) cap)) w') :
    if Region.wanted o (yielded ops a.tmps) = true then Oper.wp Tryz.prog o a w K Q else E := by
  obtain ⟨i, z, hi, hz, h1, h2, h3⟩ := info_z infoS
  refine step_append_lies w hgd s x 25 ho B 9 i z 1 16 Tryz.underlying25 hi hz h1 h2 h3 (by decide) v _ (sc ks) hs hown ad 1 cp [.string (str n)] hx rfl hnews (fun u hu => ?_) (by decide) (by unfold maxLen; omega) (by omega) hB w.heap.size rfl ?_
  · simp only [List.mem_cons, List.not_mem_nil, or_false] at hu
    subst hu
    rfl
  · intro g cap w' q1 q2 q3 q4
    refine h g cap w' ?_ q2
    have e : sc (ks ++ [n]) = sc ks ++ [.string (str n)] := by simp [sc]
    rw [e]
    simpa using q1
/-- One text put behind the fields of the case in block cb. -/
theorem field_put {w2 wr w5 w7 : World} {b b0 cb : Nat} {bv : Value} {l : List Nat} {p y : Nat} {nm : List UInt8} {fv : Value} {fs : List (List UInt8)} {x : List UInt8} {o : Obj} {g cap : Nat} (hb : b < cb) (hcb : cb = w2.heap.size) (hg : b0 < cb ∨ l = [])
    (hC : wr.heap[cb]? = some (.cells #[.string (str nm), fv] 81 (0, 0))) (hown : wr.ownsRow (cb + 1) 9 1 fv fs.length (sc fs)) (K0 : Wire.Kept (fun k => k = b) w2 wr) (K5 : Wire.Kept (fun k => k = b) wr w5) (hq : Wire.QIs w5 b b0 bv l p y)
    (ho : w7.ownsRow (cb + 1) 9 1 (.slice (some ⟨g, 0, none⟩) (fs.length + 1) cap) (fs ++ [x]).length (sc (fs ++ [x]))) (hg7 : (w5.alloc o).grownBy w7 fv.ownBlock) :
    w7.cell? ⟨cb, 1, none⟩ = some fv ∧ w7.frozen? ⟨cb, 1, none⟩ = false ∧ Wire.QIs (w7.setCell ⟨cb, 1, none⟩ (.slice (some ⟨g, 0, none⟩) (fs.length + 1) cap)) b b0 bv l p y ∧
      (w7.setCell ⟨cb, 1, none⟩ (.slice (some ⟨g, 0, none⟩) (fs.length + 1) cap)).heap[cb]? = some (.cells #[.string (str nm), .slice (some ⟨g, 0, none⟩) (fs.length + 1) cap] 81 (0, 0)) ∧
      (w7.setCell ⟨cb, 1, none⟩ (.slice (some ⟨g, 0, none⟩) (fs.length + 1) cap)).ownsRow (cb + 1) 9 1 (.slice (some ⟨g, 0, none⟩) (fs.length + 1) cap) (fs ++ [x]).length (sc (fs ++ [x])) ∧
      Wire.Kept (fun k => k = b) w2 (w7.setCell ⟨cb, 1, none⟩ (.slice (some ⟨g, 0, none⟩) (fs.length + 1) cap)) := by
  have hcl : cb < wr.heap.size := (Array.getElem?_eq_some_iff.1 hC).1
  have hob : ∀ z, fv.ownBlock = some z → cb + 1 ≤ z := fun z hz => (owns_block hown hz).1
  have K7 := (wkept_alloc w5 o).trans (U := fun z => fv.ownBlock = some z) (wkept_grown hg7) (fun _ _ h => h.elim) (fun _ _ h => h)
  have hC5 := (K5.block cb hcl (by omega)).trans hC
  have hC7 := (K7.block cb (Nat.lt_of_lt_of_le hcl K5.size) (fun h => by have := hob _ h; omega)).trans hC5
  have hq7 := hq.kept K7 (fun h => by have := hob _ h; omega) (fun h => hg.resolve_left (fun e => by have := hob _ h; omega))
  have K8 := Wire.kept_set w7 cb 1 (.slice (some ⟨g, 0, none⟩) (fs.length + 1) cap)
  refine ⟨by rw [cell_of_row _ _ 1 _ _ _ hC7]; rfl, frozen_of_row w7 cb 1 _ _ hC7, hq7.kept K8 (by omega) (fun h => hg.resolve_left (fun e => by omega)), by simpa using heap_setCell_same w7 cb 1 _ _ (.slice (some ⟨g, 0, none⟩) (fs.length + 1) cap) hC7, owns_wkept ho K8 (fun z hz e => by omega), ?_⟩
  exact ((K0.trans K5 (U := fun k => k = b) (fun _ _ h => h) (fun _ _ h => h)).trans K7 (U := fun k => k = b) (fun _ _ h => h) (fun z hz h => by have := hob _ h; omega)).trans K8 (U := fun k => k = b) (fun _ _ h => h) (fun z hz h => by omega)
end Go.Proofs.YtalbjbahgbkifaaGreat

namespace Go.Proofs.YtalbjbahgbkifaaGreat
open Go.RowKit

theorem wrapM (n : Nat) (h : n ≤ 1000000000) : IntKind.u64.wrap ((n : Nat) : Int) = (n : Int) := by simp [IntKind.wrap, IntKind.bits, IntKind.signed]; omega
def RCasesE (RES : List Cs × Nat × Nat) (l : List Nat) (b b0 : Nat) (bv : Value) (w : World) (e : Ending) (w' : World) : Prop := ∃ v, e = .returned v ∧ CsR (Fr w w') w' v RES.1 ∧ RES.1.length ≤ 65535 ∧ Wire.QIs w' b b0 bv l RES.2.1 RES.2.2 ∧ Wire.Kept (fun x => x = b) w w'
set_option maxHeartbeats 2000000 in
set_option maxRecDepth 1000000 in
theorem refReadCases (b b0 : Nat) (bv : Value) (l : List Nat) (p y : Nat) (w : World) (hl : l.length ≤ 140737488351232) (h256 : ∀ x ∈ l, x < 256) (hp : p ≤ l.length) (hq : Wire.QIs w b b0 bv l p y) (hg0 : b0 < w.heap.size ∨ l = []) (hcap : ∃ a m c, bv = .slice a m c ∧ m ≤ c ∧ c ≤ maxLen) :
    Calls Tryz.prog 95 #[.pointer (some ⟨b, 0, none⟩), .int .i64 24, .int .i64 200] w (RCasesE (refL l (caseQ l) p y) l b b0 bv w) := by
  have hbl := hq.lt
  have hnum := Wire.qnumber b b0 bv l p y 65535 w hl h256 hp (by decide) hq hcap
  have hN := Wire.rNum_most l p y 65535
  have hp1 := Wire.rNum_le l p y 65535 hp
  have HL : Hid (refL l (caseQ l) p y = refF (caseQ l) (Wire.rNum l p y 65535).1 (Wire.rNum l p y 65535).2.1 (Wire.rNum l p y 65535).2.2 []) := rfl
  have Hcap := hidden hcap
  have HG := hidden hg0
  clear hcap hg0
  unfold Wire.QNumE at hnum
  generalize Wire.rNum l p y 65535 = R at *
  obtain ⟨N, p1, y1⟩ := R
  simp only at hnum hN hp1 HL
  generalize refL l (caseQ l) p y = RES at *
  go_enter Tryz.func95, Tryz.ntmps95
  go_wp2_with fail
  refine hnum.mono ?_
  rintro e w1 ⟨rfl, hq1, K1⟩
  clear hnum
  go_wp2
  go_loopg [7, 8] N (fun gk lv i wr => ∃ (k pk yk : Nat) (acc : List Cs), gk = k ∧ i = .int .u64 (k : Int) ∧ Hid (RES = refF (caseQ l) k pk yk acc) ∧ Hid (acc.length + k ≤ 65535) ∧ pk ≤ l.length ∧ Wire.QIs wr b b0 bv l pk yk ∧ CsI w.heap.size wr lv acc ∧ Wire.Kept (fun x => x = b) w wr)
  case atStart => exact ⟨N, p1, y1, [], rfl, rfl, HL, by simpa [Hid] using hN, hp1, hq1, CsI.nil _ _, K1⟩
  case round =>
    obtain ⟨k, pk, yk, acc, hgk0, rfl, hR, hak, hpk, hqr, hrow, Kr⟩ := hrel
    rename World => wo
    have hsr := Kr.size
    obtain ⟨fl, hfl, hfy⟩ := qflag hqr
    by_cases hgo : 0 < k ∧ yk = 0
    · obtain ⟨hk, rfl⟩ := hgo
      have hff : fl = false := by simpa using hfy
      subst hff
      clear hfy
      have hki : (0 : Int) < (k : Int) := by omega
      have hkle : k ≤ 65535 := by have := hak.out; omega
      have hwk : IntKind.u64.wrap ((k : Int) - 1) = ((k - 1 : Nat) : Int) := by rw [show (k : Int) - 1 = ((k - 1 : Nat) : Int) by omega]; exact wrapM (k - 1) (by omega)
      have htx := qtxt 24 b b0 bv l pk 0 wo (by decide) hl h256 hpk hqr Hcap.out
      have hst := refF_go (caseQ l) k pk acc hk
      have HC : Hid (caseQ l pk 0 = (((txtR l 24 pk 0).1, (refL l (txtR l 200) (txtR l 24 pk 0).2.1 (txtR l 24 pk 0).2.2).1), (refL l (txtR l 200) (txtR l 24 pk 0).2.1 (txtR l 24 pk 0).2.2).2)) := rfl
      have hple := txt_le l 24 pk 0 hpk
      unfold QTxtE at htx
      generalize txtR l 24 pk 0 = X at *
      obtain ⟨nm, px, yx⟩ := X
      simp only at htx hple HC
      have hfp := refL_le (txt_le l 200) px yx hple
      have HF : Hid (refL l (txtR l 200) px yx = refF (txtR l 200) (Wire.rNum l px yx 65535).1 (Wire.rNum l px yx 65535).2.1 (Wire.rNum l px yx 65535).2.2 []) := rfl
      have hN2 := Wire.rNum_most l px yx 65535
      have hp2 := Wire.rNum_le l px yx 65535 hple
      have hnu : ∀ u, Wire.QIs u b b0 bv l px yx → Calls Tryz.prog 57 #[.pointer (some ⟨b, 0, none⟩), .int .u64 65535] u (Wire.QNumE u b b0 bv l (Wire.rNum l px yx 65535)) := fun u hu => Wire.qnumber b b0 bv l px yx 65535 u hl h256 hple (by decide) hu Hcap.out
      generalize Wire.rNum l px yx 65535 = R2 at *
      obtain ⟨N2, p2, y2⟩ := R2
      simp only at hN2 hp2 HF
      unfold Wire.QNumE at hnu
      simp only at hnu
      generalize refL l (txtR l 200) px yx = FR at *
      rw [HC.out] at hst
      simp only at hst
      have HE0 : Hid (RES = refF (caseQ l) (k - 1) FR.2.1 FR.2.2 (acc ++ [(nm, FR.1)])) := by rw [hid_iff, hR.out, hst]
      clear hst HC hR
      obtain ⟨la, lc, hlv⟩ := hrow.shape
      subst hlv
      have HRow := hidden hrow
      clear hrow
      go_wp2_with fail
      refine htx.mono ?_
      rintro e w2 ⟨rfl, hq2, K2⟩
      have hs2 := K2.size
      have hq3 := hq2.kept (wkept_alloc w2 (.cells #[.string (str nm), .slice none 0 0] 81)) (fun h => h) (fun h => h.elim)
      have hC3 := World.alloc_heap_new w2 (.cells #[.string (str nm), .slice none 0 0] 81)
      have K3 := wkept_alloc w2 (.cells #[.string (str nm), .slice none 0 0] 81)
      have hz3 : w2.heap.size < (w2.alloc (.cells #[.string (str nm), .slice none 0 0] 81)).heap.size := by simp
      clear htx hfl hqr
      go_wp2_with fail
      generalize w2.alloc (.cells #[.string (str nm), .slice none 0 0] 81) = w3 at *
      refine (hnu w3 hq3).mono ?_
      rintro e w4 ⟨rfl, hq4, K4⟩
      have hC4 := (K4.block w2.heap.size hz3 (by omega)).trans hC3
      have K4' : Wire.Kept (fun x => x = b) w2 w4 := K3.trans K4 (fun _ _ h => h.elim) (fun _ _ h => h)
      clear hnu hC3 K3 K4 hq3
      go_wp2
      go_loopg [10] N2 (fun gj i wr => ∃ (j pj yj : Nat) (fs : List (List UInt8)) (fv : Value), gj = j ∧ i = .int .u64 (j : Int) ∧ Hid (FR = refF (txtR l 200) j pj yj fs) ∧ Hid (fs.length + j ≤ 65535) ∧ pj ≤ l.length ∧ Wire.QIs wr b b0 bv l pj yj ∧ wr.heap[w2.heap.size]? = some (.cells #[.string (str nm), fv] 81 (0, 0)) ∧ wr.ownsRow (w2.heap.size + 1) 9 1 fv fs.length (sc fs) ∧ Wire.Kept (fun x => x = b) w2 wr)
      case atStart => exact ⟨N2, p2, y2, [], _, rfl, rfl, HF, by simpa [Hid] using hN2, hp2, hq4, hC4, World.ownsRow_nil _ _ _ _, K4'⟩
      case round =>
        obtain ⟨j, pj, yj, fs, fv, hgj0, rfl, hR2, haj, hpj, hqj, hCj, hown, Kj⟩ := hrel
        rename World => wj
        have hsj := Kj.size
        obtain ⟨fj, hfj, hfz⟩ := qflag hqj
        by_cases hgj : 0 < j ∧ yj = 0
        · obtain ⟨hj, rfl⟩ := hgj
          have hjf : fj = false := by simpa using hfz
          subst hjf
          clear hfz
          have hji : (0 : Int) < (j : Int) := by omega
          have hjle : j ≤ 65535 := by have := haj.out; omega
          have hwj : IntKind.u64.wrap ((j : Int) - 1) = ((j - 1 : Nat) : Int) := by rw [show (j : Int) - 1 = ((j - 1 : Nat) : Int) by omega]; exact wrapM (j - 1) (by omega)
          have htx : ∀ u, Below wj.heap.size wj u → Calls Tryz.prog 56 #[.pointer (some ⟨b, 0, none⟩), .int .i64 200] u (QTxtE l 200 pj 0 b b0 bv u) := fun u hu => qtxt 200 b b0 bv l pj 0 u (by decide) hl h256 hpj (hqj.kept (wkept_below hu) (fun h => h) (fun h => h.elim)) Hcap.out
          have hst := refF_go (txtR l 200) j pj fs hj
          have hple2 := txt_le l 200 pj 0 hpj
          unfold QTxtE at htx
          generalize txtR l 200 pj 0 = X2 at *
          obtain ⟨x, qx, zx⟩ := X2
          simp only at htx hple2 hst
          have HE2 : Hid (FR = refF (txtR l 200) (j - 1) qx zx (fs ++ [x])) := by rw [hid_iff, hR2.out, hst]
          clear hst hR2
          obtain ⟨fa, fc, rfl⟩ : ∃ fa fc, fv = .slice fa fs.length fc := by
            rcases hown.2 with ⟨rfl, hz⟩ | ⟨g, cap, cur, rfl, _⟩
            · exact ⟨none, 0, by rw [hz]⟩
            · exact ⟨_, _, rfl⟩
          have c1 : wj.cell? ⟨w2.heap.size, 1, none⟩ = some (.slice fa fs.length fc) := by rw [cell_of_row _ _ 1 _ _ _ hCj]; rfl
          have G0 : Below wj.heap.size wj wj.drew := (Below.refl _ _).drew
          have hSl : fs.length + 1 ≤ 100000 := by have := haj.out; omega
          have hcl : w2.heap.size < wj.heap.size := (Array.getElem?_eq_some_iff.1 hCj).1
          have hfin := fun (w5 w7 : World) (g cap : Nat) (o : Obj) K5 hq5 ho hg7 => field_put (w2 := w2) (wr := wj) (w5 := w5) (w7 := w7) (b := b) (b0 := b0) (bv := bv) (l := l) (p := qx) (y := zx) (x := x) (o := o) (g := g) (cap := cap) (show b < w2.heap.size by omega) rfl (HG.out.imp_left (fun e => by omega)) hCj hown Kj K5 hq5 ho hg7
          have hO5 : ∀ u, Wire.Kept (fun k => k = b) wj u → u.ownsRow (w2.heap.size + 1) 9 1 (.slice fa fs.length fc) fs.length (sc fs) := fun u hu => owns_wkept hown hu (fun z hz e => by omega)
          have hc5 : ∀ u, Wire.Kept (fun k => k = b) wj u → u.cell? ⟨w2.heap.size, 1, none⟩ = some (.slice fa fs.length fc) := fun u hu => by rw [cell_of_row _ _ 1 _ _ _ ((hu.block w2.heap.size hcl (by omega)).trans hCj)]; rfl
          clear hown hCj Kj HRow HE0 hpj
          go_wp2_with fail
          go_region_law (first
            | (refine step_textM (by rfl) (.tmp 42) (.tmp 46) (by rfl) (w2.heap.size + 1) _ fs (by rfl) (hO6.alloc _) x _ 1 (by rfl) (cells_new _ _ _) hSl hB5 ?_; intro g7 cap7 w7 ho7 hg7; obtain ⟨c7, f7, hq8, hC8, ho8, K8⟩ := hfin w5 w7 g7 cap7 _ K5' hq5 ho7 hg7)
            | (go_simp; go_at_call 56; refine (htx _ (by assumption)).mono ?_; rintro e w5 ⟨rfl, hq5, K5⟩; have K5' : Wire.Kept (fun k => k = b) wj w5 := (wkept_below G0).trans K5 (fun _ _ h => h.elim) (fun _ _ h => h); have c5 := hc5 _ K5'; have c6 := hc5 _ (K5'.trans (wkept_alloc w5 (.cells #[.string (str x)] 9)) (fun _ _ h => h) (fun _ _ h => h.elim)); have hO6 := hO5 _ K5'; have hB5 : w2.heap.size + 1 ≤ (w5.alloc (.cells #[.string (str x)] 9)).heap.size := by (have := K5'.size; simp; omega)))
          all_goals (
            clear hfin hO5 hc5 htx c1 c5 c6 c7 f7 hO6 hB5 ho7 hg7 K5 K5' hq5 hfj hqj
            go_wp2
            go_roundg (j - 1)
            case measure => omega
            case rel => exact ⟨j - 1, qx, zx, fs ++ [x], _, rfl, by first | rfl | rw [hwj] | go_num, HE2, by (have := haj.out; rw [hid_iff, List.length_append, List.length_singleton]; omega), hple2, hq8, hC8, ho8, K8⟩)
        · have hor : j = 0 ∨ (0 < j ∧ fj = true) := by
            rcases Nat.eq_zero_or_pos j with h | h
            · exact .inl h
            · exact .inr ⟨h, hfz.2 (fun e => hgj ⟨h, e⟩)⟩
          have HEF : FR = (fs, pj, yj) := by
            rw [hR2.out]
            refine refF_stop _ _ _ _ _ ?_
            rcases hor with h | h
            · exact .inl h
            · exact .inr (hfz.1 h.2)
          subst HEF
          simp only at HE0
          clear hfz hgj hR2 HF hfp
          obtain ⟨fa, fc, rfl⟩ : ∃ fa fc, fv = .slice fa fs.length fc := by
            rcases hown.2 with ⟨rfl, hz⟩ | ⟨g, cap, cur, rfl, _⟩
            · exact ⟨none, 0, by rw [hz]⟩
            · exact ⟨_, _, rfl⟩
          have n0 : wj.cell? ⟨w2.heap.size, 0, none⟩ = some (.string (str nm)) := by rw [cell_of_row _ _ 0 _ _ _ hCj]; rfl
          have n1 : wj.cell? ⟨w2.heap.size, 1, none⟩ = some (.slice fa fs.length fc) := by rw [cell_of_row _ _ 1 _ _ _ hCj]; rfl
          have hT : TxR (fun z => w.heap.size ≤ z ∧ z < wj.heap.size ∧ some z ≠ (Value.slice la acc.length lc).ownBlock) wj (.slice fa fs.length fc) fs := (tx_own hown).frame fun z hz => by
            have h1 := hz.1
            exact ⟨⟨by omega, hz.2, fun e => by have := (HRow.out.block e.symm).2; omega⟩, rfl⟩
          have K2j : Wire.Kept (fun x => x = b) wo wj := K2.trans Kj (fun _ _ h => h) (fun _ _ h => h)
          have hI := HRow.out.wkept K2j (fun z hz e => by omega)
          have Kw : Wire.Kept (fun x => x = b) w wj := Kr.trans K2j (fun _ _ h => h) (fun _ _ h => h)
          have hob0 : ∀ z, (Value.slice la acc.length lc).ownBlock = some z → w.heap.size ≤ z := fun z hz => (hI.block hz).1
          have hal : acc.length ≤ 65535 := by have := hak.out; omega
          have hsw := Kw.size
          clear hown hCj Kj K2j K2 Kr HRow hq2 hq4 K4' hC4
          rcases hor with rfl | ⟨hj, rfl⟩
          all_goals (
            try have hji : (0 : Int) < (j : Int) := by omega
            go_wp2_with (at_builtin; refine append_case rfl (.tmp 49) (.tmp 51) rfl w.heap.size _ acc rfl (hI.wkept (wkept_alloc _ _) (fun _ _ h => h)) (nm, fs) (.slice fa fs.length fc) _ _ rfl (cells_new _ _ _) ?hT ?len ?hB ?next)
            case hT => exact hT.frame fun z hz => ⟨⟨hz.1, by have := hz.2.1; simp; omega, hz.2.2⟩, Below.heap_alloc _ _ _ hz.2.1⟩
            case len => omega
            case hB => first | omega | (simp; omega)
            case next =>
              intro gq cap w5 j1 j2
              have K5 := ((wkept_alloc wj (.cells #[.string (str nm), .slice fa fs.length fc] 81)).trans (U := fun z => (Value.slice la acc.length lc).ownBlock = some z) (wkept_grown j2) (fun _ _ h => h.elim) (fun _ _ h => h))
              have hq5 := hqj.kept K5 (fun h => by have := hob0 _ h; omega) (fun h => HG.out.resolve_left (fun e => by have := hob0 _ h; omega))
              have K5' : Wire.Kept (fun x => x = b) w w5 := Kw.trans K5 (fun _ _ h => h) (fun z hz h => absurd (hob0 z h) (by omega))
              clear K5 Kw j2 hI hT
              go_wp2
              go_roundg (k - 1)
              case measure => omega
              case rel => exact ⟨k - 1, pj, yj, acc ++ [(nm, fs)], rfl, by first | rfl | rw [hwk] | go_num, HE0, by (have := hak.out; rw [hid_iff, List.length_append, List.length_singleton]; omega), hpj, hq5, j1, K5'⟩)
    · have hor : k = 0 ∨ (0 < k ∧ fl = true) := by
        rcases Nat.eq_zero_or_pos k with h | h
        · exact .inl h
        · exact .inr ⟨h, hfy.2 (fun e => hgo ⟨h, e⟩)⟩
      have HE : RES = (acc, pk, yk) := by
        rw [hR.out]
        refine refF_stop _ _ _ _ _ ?_
        rcases hor with h | h
        · exact .inl h
        · exact .inr (hfy.1 h.2)
      subst HE
      clear hR hfy hgo HL
      obtain ⟨la, lc, hlv⟩ := hrow.shape
      subst hlv
      have hal : acc.length ≤ 65535 := by have := hak.out; omega
      rcases hor with rfl | ⟨hk, rfl⟩
      all_goals (
        try have hki : (0 : Int) < (k : Int) := by omega
        go_wp2
        go_ret
        exact ⟨_, rfl, hrow.row, hal, hqr, Kr⟩)
end Go.Proofs.YtalbjbahgbkifaaGreat

namespace Go.Proofs.YtalbjbahgbkifaaGreat
open Go.RowKit

def RItemE (RES : It × Nat × Nat) (l : List Nat) (b b0 : Nat) (bv : Value) (w : World) (e : Ending) (w' : World) : Prop := ∃ fv, e = .returned (itv RES.1 fv) ∧ CsR (Fr w w') w' fv RES.1.cases ∧ RES.1.cases.length ≤ 65535 ∧ Wire.QIs w' b b0 bv l RES.2.1 RES.2.2 ∧ Wire.Kept (fun x => x = b) w w'
set_option maxHeartbeats 4000000 in
set_option maxRecDepth 1000000 in
theorem refReadItem (b b0 : Nat) (bv : Value) (l : List Nat) (p y : Nat) (w : World) (hl : l.length ≤ 140737488351232) (h256 : ∀ x ∈ l, x < 256) (hp : p ≤ l.length) (hq : Wire.QIs w b b0 bv l p y) (hg0 : b0 < w.heap.size ∨ l = []) (hcap : ∃ a m c, bv = .slice a m c ∧ m ≤ c ∧ c ≤ maxLen) :
    Calls Tryz.prog 58 #[.pointer (some ⟨b, 0, none⟩)] w (RItemE (itemQ l p y) l b b0 bv w) := by
  have hbl := hq.lt
  have HR : itemQ l p y = itemQN l (Wire.rNum l p y 65535).1 (Wire.rNum l p y 65535).2.1 (Wire.rNum l p y 65535).2.2 := rfl
  have hN := Wire.rNum_most l p y 65535
  have hp1 := Wire.rNum_le l p y 65535 hp
  rw [HR]
  clear HR
  have Hcap := hidden hcap
  have HG := hidden hg0
  clear hcap hg0
  have hA1 := World.alloc_heap_new w (.cells #[.int .i64 0, .string ⟨#[]⟩, .string ⟨#[]⟩, .slice none 0 0] 34)
  have K1 : Wire.Kept (fun x => x = b) w (w.alloc (.cells #[.int .i64 0, .string ⟨#[]⟩, .string ⟨#[]⟩, .slice none 0 0] 34)) := (Wire.Kept.refl _ _).trans (wkept_alloc _ _) (fun _ _ h => h) (fun _ _ h => h.elim)
  have hq1 := hq.kept (wkept_alloc w (.cells #[.int .i64 0, .string ⟨#[]⟩, .string ⟨#[]⟩, .slice none 0 0] 34)) (fun h => h) (fun h => h.elim)
  have hnum := Wire.qnumber b b0 bv l p y 65535 _ hl h256 hp (by decide) hq1 Hcap.out
  unfold Wire.QNumE at hnum
  generalize Wire.rNum l p y 65535 = X at *
  obtain ⟨kn, p1, y1⟩ := X
  simp only at hnum hN hp1
  have htx : ∀ u, Wire.QIs u b b0 bv l p1 y1 → Calls Tryz.prog 56 #[.pointer (some ⟨b, 0, none⟩), .int .i64 24] u (QTxtE l 24 p1 y1 b b0 bv u) := fun u hu => qtxt 24 b b0 bv l p1 y1 u (by decide) hl h256 hp1 hu Hcap.out
  have hp2 := txt_le l 24 p1 y1 hp1
  unfold itemQN
  unfold QTxtE at htx
  generalize txtR l 24 p1 y1 = Y at *
  obtain ⟨nm, p2, y2⟩ := Y
  simp only at htx hp2 ⊢
  have hci : IntKind.i64.wrap (kn : Int) = (kn : Int) := by rw [IntKind.wrap_i64]; omega
  have hkb : (kn : Int) ≤ 65535 := by omega
  go_enter Tryz.func58, Tryz.ntmps58
  go_wp2_with fail
  generalize (w.alloc (.cells #[.int .i64 0, .string ⟨#[]⟩, .string ⟨#[]⟩, .slice none 0 0] 34)) = W2 at *
  refine hnum.mono ?_
  rintro e w3 ⟨rfl, hq3, KN⟩
  have hz2 : w.heap.size < W2.heap.size := (Array.getElem?_eq_some_iff.1 hA1).1
  have hs3 : w.heap.size < w3.heap.size := Nat.lt_of_lt_of_le hz2 KN.size
  have hA3 := (KN.block w.heap.size (by omega) (by omega)).trans hA1
  have hA4 := (Below.heap_alloc w3 (.cells #[.int .i64 (kn : Int), .string ⟨#[]⟩, .string ⟨#[]⟩, .slice none 0 0] 34) w.heap.size hs3).trans hA3
  have hC4 := World.alloc_heap_new w3 (.cells #[.int .i64 (kn : Int), .string ⟨#[]⟩, .string ⟨#[]⟩, .slice none 0 0] 34)
  have hr4 := hq3.kept (wkept_alloc w3 (.cells #[.int .i64 (kn : Int), .string ⟨#[]⟩, .string ⟨#[]⟩, .slice none 0 0] 34)) (fun h => h) (fun h => h.elim)
  have K4 : Wire.Kept (fun x => x = b) w (w3.alloc (.cells #[.int .i64 (kn : Int), .string ⟨#[]⟩, .string ⟨#[]⟩, .slice none 0 0] 34)) := (K1.trans KN (U := fun x => x = b) (fun _ _ h => h) (fun _ _ h => h)).trans (wkept_alloc _ _) (fun _ _ h => h) (fun _ _ h => h.elim)
  have ht4 := htx _ hr4
  clear hnum htx KN K1 hq3 hq1 hA1 hA3
  go_wp2_with fail
  generalize w3.alloc (.cells #[.int .i64 (kn : Int), .string ⟨#[]⟩, .string ⟨#[]⟩, .slice none 0 0] 34) = w4 at *
  refine ht4.mono ?_
  rintro e w5 ⟨rfl, hrw5, KT⟩
  have hz4 : w3.heap.size < w4.heap.size := (Array.getElem?_eq_some_iff.1 hC4).1
  have hAw5 := (KT.block w.heap.size (by omega) (by omega)).trans hA4
  have hCw5 := (KT.block (w3.heap.size) (by omega) (by omega)).trans hC4
  have Kw5 : Wire.Kept (fun x => x = b) w w5 := K4.trans KT (fun _ _ h => h) (fun _ _ h => h)
  have c1 : w5.cell? ⟨w3.heap.size, 1, none⟩ = some (.string ⟨#[]⟩) := by rw [cell_of_row _ _ 1 _ _ _ hCw5]; rfl
  have f1 := frozen_of_row w5 (w3.heap.size) 1 _ _ hCw5
  have hA6 := (Below.heap_setCell w5 ⟨w3.heap.size, 1, none⟩ (.string (str nm)) w.heap.size (by show w.heap.size ≠ w3.heap.size; omega)).trans hAw5
  have hC6 : (w5.setCell ⟨w3.heap.size, 1, none⟩ (.string (str nm))).heap[w3.heap.size]? = some (.cells #[.int .i64 (kn : Int), .string (str nm), .string ⟨#[]⟩, .slice none 0 0] 34 (0, 0)) := by simpa using heap_setCell_same w5 (w3.heap.size) 1 _ _ (.string (str nm)) hCw5
  have KS6 := Wire.kept_set w5 (w3.heap.size) 1 (.string (str nm))
  have hr6 := hrw5.kept KS6 (by omega) (fun h => HG.out.resolve_left (fun e => by omega))
  have K6 : Wire.Kept (fun x => x = b) w (w5.setCell ⟨w3.heap.size, 1, none⟩ (.string (str nm))) := Kw5.trans KS6 (fun _ _ h => h) (fun z hz h => by omega)
  have g0 : (w5.setCell ⟨w3.heap.size, 1, none⟩ (.string (str nm))).cell? ⟨w3.heap.size, 0, none⟩ = some (.int .i64 (kn : Int)) := by rw [cell_of_row _ _ 0 _ _ _ hC6]; rfl
  clear ht4 KT KS6 hrw5 Kw5 hAw5 hCw5 hr4 K4 hA4 hC4
  by_cases hk1 : kn = 1
  · subst hk1
    have hRT : itemQT l 1 nm p2 y2 = (⟨((1 : Nat) : Int), nm, [], (refL l (caseQ l) p2 y2).1⟩, (refL l (caseQ l) p2 y2).2) := rfl
    have HRT := hidden hRT
    have hlist := refReadCases b b0 bv l p2 y2 _ hl h256 hp2 hr6 (HG.out.imp_left (fun e => Nat.lt_of_lt_of_le e K6.size)) Hcap.out
    generalize refL l (caseQ l) p2 y2 = V at *
    obtain ⟨cs, p3, y3⟩ := V
    unfold RCasesE at hlist
    simp only at hlist
    clear hRT
    go_wp2_with fail
    generalize w5.setCell ⟨w3.heap.size, 1, none⟩ (.string (str nm)) = w6 at *
    refine hlist.mono ?_
    rintro e w7 ⟨fv, rfl, hT7, hf7, hrw7, KL⟩
    obtain ⟨fa, fc, rfl⟩ := hT7.shape
    have hz6 : w3.heap.size < w6.heap.size := (Array.getElem?_eq_some_iff.1 hC6).1
    have hAw7 := (KL.block w.heap.size (by omega) (by omega)).trans hA6
    have hCw7 := (KL.block (w3.heap.size) (by omega) (by omega)).trans hC6
    have Kw7 : Wire.Kept (fun x => x = b) w w7 := K6.trans KL (fun _ _ h => h) (fun _ _ h => h)
    have c3 : w7.cell? ⟨w3.heap.size, 3, none⟩ = some (.slice none 0 0) := by rw [cell_of_row _ _ 3 _ _ _ hCw7]; rfl
    have f3 := frozen_of_row w7 (w3.heap.size) 3 _ _ hCw7
    have hA8 := (Below.heap_setCell w7 ⟨w3.heap.size, 3, none⟩ (.slice fa cs.length fc) w.heap.size (by show w.heap.size ≠ w3.heap.size; omega)).trans hAw7
    have hC8 : (w7.setCell ⟨w3.heap.size, 3, none⟩ (.slice fa cs.length fc)).heap[w3.heap.size]? = some (.cells #[.int .i64 ((1 : Nat) : Int), .string (str nm), .string ⟨#[]⟩, .slice fa cs.length fc] 34 (0, 0)) := by simpa using heap_setCell_same w7 (w3.heap.size) 3 _ _ (.slice fa cs.length fc) hCw7
    have KS8 := Wire.kept_set w7 (w3.heap.size) 3 (.slice fa cs.length fc)
    have hr8 := hrw7.kept KS8 (by omega) (fun h => HG.out.resolve_left (fun e => by omega))
    have K8 : Wire.Kept (fun x => x = b) w (w7.setCell ⟨w3.heap.size, 3, none⟩ (.slice fa cs.length fc)) := Kw7.trans KS8 (fun _ _ h => h) (fun z hz h => by omega)
    have K9 := wkept_setRow (w7.setCell ⟨w3.heap.size, 3, none⟩ (.slice fa cs.length fc)) w.heap.size #[.int .i64 ((1 : Nat) : Int), .string (str nm), .string ⟨#[]⟩, .slice fa cs.length fc]
    have hT9 : CsR (Fr w ((w7.setCell ⟨w3.heap.size, 3, none⟩ (.slice fa cs.length fc)).setRow w.heap.size #[.int .i64 ((1 : Nat) : Int), .string (str nm), .string ⟨#[]⟩, .slice fa cs.length fc])) ((w7.setCell ⟨w3.heap.size, 3, none⟩ (.slice fa cs.length fc)).setRow w.heap.size #[.int .i64 ((1 : Nat) : Int), .string (str nm), .string ⟨#[]⟩, .slice fa cs.length fc]) (.slice fa cs.length fc) cs := hT7.frame fun z hz => by
      have h1 := hz.1
      have h2 := hz.2
      have h3 := KS8.size
      have h4 := K9.size
      exact ⟨⟨by omega, by omega⟩, (K9.block z (by omega) (by omega)).trans (KS8.block z h2 (by omega))⟩
    have hr9 := hr8.kept K9 (by omega) (fun h => HG.out.resolve_left (fun e => by omega))
    have K9f : Wire.Kept (fun x => x = b) w ((w7.setCell ⟨w3.heap.size, 3, none⟩ (.slice fa cs.length fc)).setRow w.heap.size #[.int .i64 ((1 : Nat) : Int), .string (str nm), .string ⟨#[]⟩, .slice fa cs.length fc]) := K8.trans K9 (fun _ _ h => h) (fun z hz h => by omega)
    have d0 : (w7.setCell ⟨w3.heap.size, 3, none⟩ (.slice fa cs.length fc)).cell? ⟨w3.heap.size, 0, none⟩ = some (.int .i64 ((1 : Nat) : Int)) := by rw [cell_of_row _ _ 0 _ _ _ hC8]; rfl
    have d1 : (w7.setCell ⟨w3.heap.size, 3, none⟩ (.slice fa cs.length fc)).cell? ⟨w3.heap.size, 1, none⟩ = some (.string (str nm)) := by rw [cell_of_row _ _ 1 _ _ _ hC8]; rfl
    have d2 : (w7.setCell ⟨w3.heap.size, 3, none⟩ (.slice fa cs.length fc)).cell? ⟨w3.heap.size, 2, none⟩ = some (.string ⟨#[]⟩) := by rw [cell_of_row _ _ 2 _ _ _ hC8]; rfl
    have d3 : (w7.setCell ⟨w3.heap.size, 3, none⟩ (.slice fa cs.length fc)).cell? ⟨w3.heap.size, 3, none⟩ = some (.slice fa cs.length fc) := by rw [cell_of_row _ _ 3 _ _ _ hC8]; rfl
    clear hlist hT7 KL KS8 K9 hrw7 Kw7 hAw7 hCw7 hr6 K6 hA6 hC6 hr8 K8
    go_wp2_with (refine wpList_store_row rfl 34 (.tmp 2) (.tmp 20) rfl w.heap.size #[.int .i64 ((1 : Nat) : Int), .string (str nm), .string ⟨#[]⟩, .slice fa cs.length fc] rfl rfl 34 #[.int .i64 0, .string ⟨#[]⟩, .string ⟨#[]⟩, .slice none 0 0] hA8 sizeIt rfl (by kernel_rfl) ?_)
    (try simp only [Exit.inBlock, Exit.then])
    refine bodyPost_ret (results_cell_row rfl _ _ w.heap.size 34 #[.int .i64 ((1 : Nat) : Int), .string (str nm), .string ⟨#[]⟩, .slice fa cs.length fc] (0, 0) _ rfl (setRow_heap _ w.heap.size _ _ 34 (0, 0) hA8) Tryz.underlying34 rfl sizeIt) rfl ?_
    rw [HRT.out]
    exact ⟨_, rfl, hT9, hf7, hr9, K9f⟩
  · have hRT : itemQT l kn nm p2 y2 = (⟨(kn : Int), nm, (txtR l 200 p2 y2).1, []⟩, (txtR l 200 p2 y2).2) := by unfold itemQT; rw [if_neg hk1]
    have HRT := hidden hRT
    have htt := qtxt 200 b b0 bv l p2 y2 _ (by decide) hl h256 hp2 hr6 Hcap.out
    unfold QTxtE at htt
    generalize txtR l 200 p2 y2 = V at *
    obtain ⟨ty, p3, y3⟩ := V
    simp only at htt
    have hkf : ((kn : Int) == 1) = false := by rw [beq_eq_false_iff_ne]; omega
    clear hRT hk1
    go_wp2_with fail
    generalize w5.setCell ⟨w3.heap.size, 1, none⟩ (.string (str nm)) = w6 at *
    refine htt.mono ?_
    rintro e w7 ⟨rfl, hrw7, KL⟩
    have hz6 : w3.heap.size < w6.heap.size := (Array.getElem?_eq_some_iff.1 hC6).1
    have hAw7 := (KL.block w.heap.size (by omega) (by omega)).trans hA6
    have hCw7 := (KL.block (w3.heap.size) (by omega) (by omega)).trans hC6
    have Kw7 : Wire.Kept (fun x => x = b) w w7 := K6.trans KL (fun _ _ h => h) (fun _ _ h => h)
    have c2 : w7.cell? ⟨w3.heap.size, 2, none⟩ = some (.string ⟨#[]⟩) := by rw [cell_of_row _ _ 2 _ _ _ hCw7]; rfl
    have f2 := frozen_of_row w7 (w3.heap.size) 2 _ _ hCw7
    have hA8 := (Below.heap_setCell w7 ⟨w3.heap.size, 2, none⟩ (.string (str ty)) w.heap.size (by show w.heap.size ≠ w3.heap.size; omega)).trans hAw7
    have hC8 : (w7.setCell ⟨w3.heap.size, 2, none⟩ (.string (str ty))).heap[w3.heap.size]? = some (.cells #[.int .i64 (kn : Int), .string (str nm), .string (str ty), .slice none 0 0] 34 (0, 0)) := by simpa using heap_setCell_same w7 (w3.heap.size) 2 _ _ (.string (str ty)) hCw7
    have KS8 := Wire.kept_set w7 (w3.heap.size) 2 (.string (str ty))
    have hr8 := hrw7.kept KS8 (by omega) (fun h => HG.out.resolve_left (fun e => by omega))
    have K8 : Wire.Kept (fun x => x = b) w (w7.setCell ⟨w3.heap.size, 2, none⟩ (.string (str ty))) := Kw7.trans KS8 (fun _ _ h => h) (fun z hz h => by omega)
    have K9 := wkept_setRow (w7.setCell ⟨w3.heap.size, 2, none⟩ (.string (str ty))) w.heap.size #[.int .i64 (kn : Int), .string (str nm), .string (str ty), .slice none 0 0]
    have hr9 := hr8.kept K9 (by omega) (fun h => HG.out.resolve_left (fun e => by omega))
    have K9f : Wire.Kept (fun x => x = b) w ((w7.setCell ⟨w3.heap.size, 2, none⟩ (.string (str ty))).setRow w.heap.size #[.int .i64 (kn : Int), .string (str nm), .string (str ty), .slice none 0 0]) := K8.trans K9 (fun _ _ h => h) (fun z hz h => by omega)
    have d0 : (w7.setCell ⟨w3.heap.size, 2, none⟩ (.string (str ty))).cell? ⟨w3.heap.size, 0, none⟩ = some (.int .i64 (kn : Int)) := by rw [cell_of_row _ _ 0 _ _ _ hC8]; rfl
    have d1 : (w7.setCell ⟨w3.heap.size, 2, none⟩ (.string (str ty))).cell? ⟨w3.heap.size, 1, none⟩ = some (.string (str nm)) := by rw [cell_of_row _ _ 1 _ _ _ hC8]; rfl
    have d2 : (w7.setCell ⟨w3.heap.size, 2, none⟩ (.string (str ty))).cell? ⟨w3.heap.size, 2, none⟩ = some (.string (str ty)) := by rw [cell_of_row _ _ 2 _ _ _ hC8]; rfl
    have d3 : (w7.setCell ⟨w3.heap.size, 2, none⟩ (.string (str ty))).cell? ⟨w3.heap.size, 3, none⟩ = some (.slice none 0 0) := by rw [cell_of_row _ _ 3 _ _ _ hC8]; rfl
    clear htt KL KS8 K9 hrw7 Kw7 hAw7 hCw7 hr6 K6 hA6 hC6 hr8 K8
    go_wp2_with (refine wpList_store_row rfl 34 (.tmp 2) (.tmp 20) rfl w.heap.size #[.int .i64 (kn : Int), .string (str nm), .string (str ty), .slice none 0 0] rfl rfl 34 #[.int .i64 0, .string ⟨#[]⟩, .string ⟨#[]⟩, .slice none 0 0] hA8 sizeIt rfl (by kernel_rfl) ?_)
    (try simp only [Exit.inBlock, Exit.then])
    refine bodyPost_ret (results_cell_row rfl _ _ w.heap.size 34 #[.int .i64 (kn : Int), .string (str nm), .string (str ty), .slice none 0 0] (0, 0) _ rfl (setRow_heap _ w.heap.size _ _ 34 (0, 0) hA8) Tryz.underlying34 rfl sizeIt) rfl ?_
    rw [HRT.out]
    exact ⟨_, rfl, .inl ⟨none, 0, rfl, rfl⟩, by simp, hr9, K9f⟩
end Go.Proofs.YtalbjbahgbkifaaGreat

namespace Go.Proofs.YtalbjbahgbkifaaGreat
open Go.RowKit

theorem step_itemJ {w : World} {ops : Array Oper} {o : Oper} {a : Act} {K : Act → World → Prop} {Q : Exit → Act → World → Prop} {E : Prop} (hgd : o.guard = none) (s x : Operand)
    (ho : o.op = .call { callee := .builtin .append, args := #[s, x], argTypes := #[22, 22] })
    (B : Nat) (v : Value) (xs : List It) (hs : a.eval s = v) (hI : ItI B w v xs) (c : It) (fv : Value) (ad : Addr) (cp : Nat) (hx : a.eval x = .slice (some ad) 1 cp)
    (hnews : ∀ j u, ([.int .i64 c.kind, .string (str c.name), .string (str c.ty), fv] : List Value)[j]? = some u → w.cell? (ad.add j) = some u) (hT : CsR (fun g => B ≤ g ∧ g < w.heap.size ∧ some g ≠ v.ownBlock) w fv c.cases) (hlen : xs.length + 1 ≤ 1000000) (hB : B ≤ w.heap.size)
    (h : ∀ g cap w', ItI B w' (.slice (some ⟨g, 0, none⟩) (xs.length + 1) cap) (xs ++ [c]) → w.grownBy w' v.ownBlock → K (a.put o.dst (.slice (some ⟨g, 0, none⟩) (xs.length + 1) cap)) w') :
    if Region.wanted o (yielded ops a.tmps) = true then Oper.wp Tryz.prog o a w K Q else E := by
  obtain ⟨i, z, hi, hz, h1, h2, h3⟩ := info_z infoIt5
  obtain ⟨ps, rfl, p2, p3⟩ := hI
  refine step_append_lies w hgd s x 22 ho B 34 i z 4 64 Tryz.underlying22 hi hz h1 h2 h3 (by decide) v _ (rowJ ps) hs p2 ad 1 cp [.int .i64 c.kind, .string (str c.name), .string (str c.ty), fv] hx rfl hnews (fun u hu => ?_) (by decide) (by unfold maxLen; omega) (by omega) hB w.heap.size rfl ?_
  · simp only [List.mem_cons, List.not_mem_nil, or_false] at hu
    rcases hu with rfl | rfl | rfl | rfl
    · rfl
    · rfl
    · rfl
    · exact hT.one
  · intro g cap w' q1 q2 q3 q4
    refine h g cap w' ⟨ps ++ [(c, fv)], by simp, by rw [rowJ_snoc]; simpa using q1, fun p hp => ?_⟩ q2
    have key : ∀ fv' (xs : List Cs), CsR (fun g => B ≤ g ∧ g < w.heap.size ∧ some g ≠ v.ownBlock) w fv' xs → CsR (fun g' => B ≤ g' ∧ g' < w'.heap.size ∧ some g' ≠ (Value.slice (some ⟨g, 0, none⟩) ((ps.map (·.1)).length + 1) cap).ownBlock) w' fv' xs := fun fv' xs ht => ht.frame fun g' hg' => by
      refine ⟨⟨hg'.1, Nat.lt_of_lt_of_le hg'.2.1 q2.size, fun e => ?_⟩, q2.block g' hg'.2.1 hg'.2.2⟩
      simp only [Value.ownBlock, Option.some.injEq] at e
      subst e
      rcases q3 with q3 | q3
      · exact hg'.2.2 q3.symm
      · have := hg'.2.1
        omega
    rcases List.mem_append.1 hp with hp | hp
    · exact key _ _ (p3 p hp)
    · rw [List.mem_singleton.1 hp]
      exact key _ _ hT
/-- One item put behind those of the interface in block cb. -/
theorem item_put {w wr w5 w7 : World} {b b0 cb : Nat} {bv : Value} {l : List Nat} {p y : Nat} {nm : List UInt8} {iv : Value} {xs : List It} {x : It} {o : Obj} {g cap : Nat} {Z : Array Value} {tz : TypeId} (hwb : w.heap.size < b) (hb : b < cb) (hg : b0 < cb ∨ l = [])
    (hA : wr.heap[w.heap.size]? = some (.cells Z tz (0, 0))) (hC : wr.heap[cb]? = some (.cells #[.string (str nm), iv] 24 (0, 0))) (hown : ItI (cb + 1) wr iv xs) (K0 : Below w.heap.size w wr) (K5 : Wire.Kept (fun k => k = b) wr w5) (hq : Wire.QIs w5 b b0 bv l p y)
    (ho : ItI (cb + 1) w7 (.slice (some ⟨g, 0, none⟩) (xs.length + 1) cap) (xs ++ [x])) (hg7 : (w5.alloc o).grownBy w7 iv.ownBlock) :
    w7.cell? ⟨cb, 1, none⟩ = some iv ∧ w7.frozen? ⟨cb, 1, none⟩ = false ∧ Wire.QIs (w7.setCell ⟨cb, 1, none⟩ (.slice (some ⟨g, 0, none⟩) (xs.length + 1) cap)) b b0 bv l p y ∧
      (w7.setCell ⟨cb, 1, none⟩ (.slice (some ⟨g, 0, none⟩) (xs.length + 1) cap)).heap[w.heap.size]? = some (.cells Z tz (0, 0)) ∧
      (w7.setCell ⟨cb, 1, none⟩ (.slice (some ⟨g, 0, none⟩) (xs.length + 1) cap)).heap[cb]? = some (.cells #[.string (str nm), .slice (some ⟨g, 0, none⟩) (xs.length + 1) cap] 24 (0, 0)) ∧
      ItI (cb + 1) (w7.setCell ⟨cb, 1, none⟩ (.slice (some ⟨g, 0, none⟩) (xs.length + 1) cap)) (.slice (some ⟨g, 0, none⟩) (xs.length + 1) cap) (xs ++ [x]) ∧
      Below w.heap.size w (w7.setCell ⟨cb, 1, none⟩ (.slice (some ⟨g, 0, none⟩) (xs.length + 1) cap)) := by
  have hcl : cb < wr.heap.size := (Array.getElem?_eq_some_iff.1 hC).1
  have hob : ∀ z, iv.ownBlock = some z → cb + 1 ≤ z := fun z hz => (hown.block hz).1
  have K7 := (wkept_alloc w5 o).trans (U := fun z => iv.ownBlock = some z) (wkept_grown hg7) (fun _ _ h => h.elim) (fun _ _ h => h)
  have hC5 := (K5.block cb hcl (by omega)).trans hC
  have hC7 := (K7.block cb (Nat.lt_of_lt_of_le hcl K5.size) (fun h => by have := hob _ h; omega)).trans hC5
  have hA5 := (K5.block w.heap.size (by omega) (by omega)).trans hA
  have hA7 := (K7.block w.heap.size (by have := K5.size; omega) (fun h => by have := hob _ h; omega)).trans hA5
  have hq7 := hq.kept K7 (fun h => by have := hob _ h; omega) (fun h => hg.resolve_left (fun e => by have := hob _ h; omega))
  have K8 := Wire.kept_set w7 cb 1 (.slice (some ⟨g, 0, none⟩) (xs.length + 1) cap)
  have s5 := K5.size
  have s7 := K7.size
  refine ⟨by rw [cell_of_row _ _ 1 _ _ _ hC7]; rfl, frozen_of_row w7 cb 1 _ _ hC7, hq7.kept K8 (by omega) (fun h => hg.resolve_left (fun e => by omega)), (K8.block w.heap.size (by omega) (by omega)).trans hA7, by simpa using heap_setCell_same w7 cb 1 _ _ (.slice (some ⟨g, 0, none⟩) (xs.length + 1) cap) hC7, ho.wkept K8 (fun z hz e => by omega), ?_⟩
  exact ((K0.trans (K5.below (B := w.heap.size) (by omega) (fun x hx h => by omega))).trans (K7.below (B := w.heap.size) (by omega) (fun x hx h => by have := hob _ h; omega))).trans (K8.below (B := w.heap.size) (by omega) (fun x hx h => by omega))
theorem end_ref (l : List Nat) : endR l = Wire.rEnd l (itemsQ l).2.1 (itemsQ l).2.2 ∧ ((endR l).1 = 0 → itemsQ l = itemsR l) := by
  obtain ⟨h1, h2⟩ := items_ref l
  refine ⟨by unfold endR; rw [h1], fun e => h2 ?_⟩
  unfold endR Wire.rEnd at e
  split at e
  · rename_i h
    exact absurd e h
  · rename_i h
    exact Classical.not_not.1 h
end Go.Proofs.YtalbjbahgbkifaaGreat

namespace Go.Proofs.YtalbjbahgbkifaaGreat
open Go.RowKit

set_option maxHeartbeats 4000000 in
set_option maxRecDepth 1000000 in
theorem refDecode (bv : Value) (b0 : Nat) (l : List Nat) (w : World) (hl : l.length ≤ 140737488351232) (h256 : ∀ x ∈ l, x < 256) (hv : Wire.Rd w b0 bv l) (hg0 : b0 < w.heap.size ∨ l = []) (hcap : ∃ a m c, bv = .slice a m c ∧ m ≤ c ∧ c ≤ maxLen) : Calls Tryz.prog 21 #[bv] w (DecE l w) := by
  have hA1 : ((w.alloc (.cells #[.string ⟨#[]⟩, .slice none 0 0] 24)).alloc (.cells #[bv, .int .i64 0, .bool false, .int .i64 0, .int .i64 0] 100)).heap[w.heap.size]? = some (.cells #[.string ⟨#[]⟩, .slice none 0 0] 24 (0, 0)) := (Below.heap_alloc _ _ _ (by simp)).trans (World.alloc_heap_new w _)
  have hR1 : ((w.alloc (.cells #[.string ⟨#[]⟩, .slice none 0 0] 24)).alloc (.cells #[bv, .int .i64 0, .bool false, .int .i64 0, .int .i64 0] 100)).heap[w.heap.size + 1]? = some (.cells #[bv, .int .i64 0, .bool false, .int .i64 0, .int .i64 0] 100 (0, 0)) := by have := World.alloc_heap_new (w.alloc (.cells #[.string ⟨#[]⟩, .slice none 0 0] 24)) (.cells #[bv, .int .i64 0, .bool false, .int .i64 0, .int .i64 0] 100); simpa using this
  have hB1 : Below w.heap.size w ((w.alloc (.cells #[.string ⟨#[]⟩, .slice none 0 0] 24)).alloc (.cells #[bv, .int .i64 0, .bool false, .int .i64 0, .int .i64 0] 100)) := ((Below.refl _ _).alloc (Nat.le_refl _) _).alloc (by simp) _
  have hq1 : Wire.QIs ((w.alloc (.cells #[.string ⟨#[]⟩, .slice none 0 0] 24)).alloc (.cells #[bv, .int .i64 0, .bool false, .int .i64 0, .int .i64 0] 100)) (w.heap.size + 1) b0 bv l 0 0 := ⟨0, false, 0, 0, ⟨_, hR1⟩, hv.kept (wkept_below hB1) (fun h => h), fun e => hg0.resolve_left (fun h => by omega), Nat.zero_le _, .inl ⟨rfl, rfl, rfl⟩⟩
  have hxB := dec_bad l
  have hxR := dec_right l
  have hio := items_ok l
  have hmo := name_ok l
  have hple := txt_le l 24 0 0 (Nat.zero_le _)
  have HI : Hid (itemsQ l = refF (itemQ l) (Wire.rNum l (txtR l 24 0 0).2.1 (txtR l 24 0 0).2.2 65535).1 (Wire.rNum l (txtR l 24 0 0).2.1 (txtR l 24 0 0).2.2 65535).2.1 (Wire.rNum l (txtR l 24 0 0).2.1 (txtR l 24 0 0).2.2 65535).2.2 []) := rfl
  obtain ⟨hE1, hE2⟩ := end_ref l
  have HE1 := hidden hE1
  have HE2 := hidden hE2
  have Hcap := hidden hcap
  have HG := hidden hg0
  obtain ⟨ba, bn, bc, hbv, _⟩ := hcap
  have htx := qtxt 24 (w.heap.size + 1) b0 bv l 0 0 _ (by decide) hl h256 (Nat.zero_le _) hq1 Hcap.out
  unfold QTxtE at htx
  unfold DecE
  clear hE1 hE2 hg0 hv
  generalize txtR l 24 0 0 = X at *
  obtain ⟨nm, p1, y1⟩ := X
  simp only at htx hple hmo HI hxR ⊢
  have hnu : ∀ u, Wire.QIs u (w.heap.size + 1) b0 bv l p1 y1 → Calls Tryz.prog 57 #[.pointer (some ⟨w.heap.size + 1, 0, none⟩), .int .u64 65535] u (Wire.QNumE u (w.heap.size + 1) b0 bv l (Wire.rNum l p1 y1 65535)) := fun u hu => Wire.qnumber (w.heap.size + 1) b0 bv l p1 y1 65535 u hl h256 hple (by decide) hu Hcap.out
  have hN := Wire.rNum_most l p1 y1 65535
  have hpn := Wire.rNum_le l p1 y1 65535 hple
  generalize Wire.rNum l p1 y1 65535 = R at *
  obtain ⟨N, p2, y2⟩ := R
  unfold Wire.QNumE at hnu
  simp only at hnu hN hpn HI
  generalize itemsQ l = Y at *
  have Hbv := hidden hbv
  subst hbv
  go_enter Tryz.func21, Tryz.ntmps21
  go_wp2_with fail
  generalize ((w.alloc (.cells #[.string ⟨#[]⟩, .slice none 0 0] 24)).alloc (.cells #[.slice ba bn bc, .int .i64 0, .bool false, .int .i64 0, .int .i64 0] 100)) = W1 at *
  generalize Value.slice ba bn bc = bv at *
  refine htx.mono ?_
  rintro e w2 ⟨rfl, hq2, K2⟩
  have hz1 : w.heap.size + 1 < W1.heap.size := (Array.getElem?_eq_some_iff.1 hR1).1
  have hs2 := K2.size
  have hA2 := (K2.block w.heap.size (by omega) (by omega)).trans hA1
  have hB2 := hB1.trans (K2.below (B := w.heap.size) (by omega) (fun x hx h => by omega))
  have hA3 := (Below.heap_alloc w2 (.cells #[.string (str nm), .slice none 0 0] 24) w.heap.size (by omega)).trans hA2
  have hC3 := World.alloc_heap_new w2 (.cells #[.string (str nm), .slice none 0 0] 24)
  have hq3 := hq2.kept (wkept_alloc w2 (.cells #[.string (str nm), .slice none 0 0] 24)) (fun h => h) (fun h => h.elim)
  have hB3 := hB2.trans ((wkept_alloc w2 (.cells #[.string (str nm), .slice none 0 0] 24)).below (B := w.heap.size) (by omega) (fun _ _ h => h))
  have hz3 : w2.heap.size < (w2.alloc (.cells #[.string (str nm), .slice none 0 0] 24)).heap.size := by simp
  have hn3 := hnu _ hq3
  clear htx hnu K2 hA1 hR1 hB1 hq1 hA2 hB2 hq2
  go_wp2_with fail
  generalize w2.alloc (.cells #[.string (str nm), .slice none 0 0] 24) = w3 at *
  refine hn3.mono ?_
  rintro e w4 ⟨rfl, hq4, K4⟩
  have hA4 := (K4.block w.heap.size (by omega) (by omega)).trans hA3
  have hC4 := (K4.block w2.heap.size hz3 (by omega)).trans hC3
  have hB4 := hB3.trans (K4.below (B := w.heap.size) (by omega) (fun x hx h => by omega))
  clear hn3 hA3 hC3 hB3 hq3 K4
  go_wp2
  go_loopg [7] N (fun gk i wr => ∃ (k pk yk : Nat) (xs : List It) (iv : Value), gk = k ∧ i = .int .u64 (k : Int) ∧ Hid (Y = refF (itemQ l) k pk yk xs) ∧ Hid (xs.length + k ≤ 65535) ∧ pk ≤ l.length ∧ Wire.QIs wr (w.heap.size + 1) b0 bv l pk yk ∧ wr.heap[w.heap.size]? = some (.cells #[.string ⟨#[]⟩, .slice none 0 0] 24 (0, 0)) ∧ wr.heap[w2.heap.size]? = some (.cells #[.string (str nm), iv] 24 (0, 0)) ∧ ItI (w2.heap.size + 1) wr iv xs ∧ Below w.heap.size w wr)
  case atStart => exact ⟨N, p2, y2, [], _, rfl, rfl, HI, by simpa [Hid] using hN, hpn, hq4, hA4, hC4, ItI.nil _ _, hB4⟩
  case round =>
    obtain ⟨k, pk, yk, xs, iv, hgk0, rfl, hR, hak, hpk, hqr, hAr, hCr, hI, hBr⟩ := hrel
    rename World => wo
    have hsr := hBr.size
    have hcl : w2.heap.size < wo.heap.size := (Array.getElem?_eq_some_iff.1 hCr).1
    obtain ⟨fl, hfl, hfy⟩ := qflag hqr
    obtain ⟨ia, ic, rfl⟩ := hI.shape
    clear hA4 hC4 hB4 hq4
    by_cases hgo : 0 < k ∧ yk = 0
    · obtain ⟨hk, rfl⟩ := hgo
      have hff : fl = false := by simpa using hfy
      subst hff
      clear hfy
      have hki : (0 : Int) < (k : Int) := by omega
      have hkle : k ≤ 65535 := by have := hak.out; omega
      have hwk : IntKind.u64.wrap ((k : Int) - 1) = ((k - 1 : Nat) : Int) := by rw [show (k : Int) - 1 = ((k - 1 : Nat) : Int) by omega]; exact wrapM (k - 1) (by omega)
      have hit : ∀ u, Below wo.heap.size wo u → Calls Tryz.prog 58 #[.pointer (some ⟨w.heap.size + 1, 0, none⟩)] u (RItemE (itemQ l pk 0) l (w.heap.size + 1) b0 bv u) := fun u hu => refReadItem (w.heap.size + 1) b0 bv l pk 0 u hl h256 hpk (hqr.kept (wkept_below hu) (fun h => h) (fun h => h.elim)) (HG.out.imp_left (fun e => by have := hu.size; omega)) Hcap.out
      have hst := refF_go (itemQ l) k pk xs hk
      have hpi : (itemQ l pk 0).2.1 ≤ l.length := by rw [(item_ref l pk 0).1]; exact item_le l pk 0 hpk
      unfold RItemE at hit
      generalize itemQ l pk 0 = X at *
      obtain ⟨x, px, yx⟩ := X
      simp only at hit hpi hst
      have HE0 : Hid (Y = refF (itemQ l) (k - 1) px yx (xs ++ [x])) := by rw [hid_iff, hR.out, hst]
      clear hst hR
      obtain ⟨kd, xn, xt, xc⟩ := x
      have c1 : wo.cell? ⟨w2.heap.size, 1, none⟩ = some (.slice ia xs.length ic) := by rw [cell_of_row _ _ 1 _ _ _ hCr]; rfl
      have G0 : Below wo.heap.size wo wo.drew := (Below.refl _ _).drew
      have hSl : xs.length + 1 ≤ 1000000 := by have := hak.out; omega
      have hfin := fun (w5 w7 : World) (g cap : Nat) (o : Obj) K5 hq5 ho hg7 => item_put (w := w) (wr := wo) (w5 := w5) (w7 := w7) (b := w.heap.size + 1) (b0 := b0) (cb := w2.heap.size) (bv := bv) (l := l) (p := px) (y := yx) (x := ⟨kd, xn, xt, xc⟩) (o := o) (g := g) (cap := cap) (by omega) (by omega) (HG.out.imp_left (fun e => by omega)) hAr hCr hI hBr K5 hq5 ho hg7
      have hO5 : ∀ u, Wire.Kept (fun k => k = w.heap.size + 1) wo u → ItI (w2.heap.size + 1) u (.slice ia xs.length ic) xs := fun u hu => hI.wkept hu (fun z hz e => by omega)
      have hc5 : ∀ u, Wire.Kept (fun k => k = w.heap.size + 1) wo u → u.cell? ⟨w2.heap.size, 1, none⟩ = some (.slice ia xs.length ic) := fun u hu => by rw [cell_of_row _ _ 1 _ _ _ ((hu.block w2.heap.size hcl (by omega)).trans hCr)]; rfl
      have hT5 : ∀ (u v : World) (cv : Value) (o : Obj), u.heap.size = wo.heap.size → CsR (Fr u v) v cv xc → CsR (fun g => w2.heap.size + 1 ≤ g ∧ g < (v.alloc o).heap.size ∧ some g ≠ (Value.slice ia xs.length ic).ownBlock) (v.alloc o) cv xc := fun u v cv o hu h => h.frame fun z hz => by
        have h1 := hz.1
        have h2 := hz.2
        exact ⟨⟨by omega, by simp; omega, fun e => by have := (hI.block e.symm).2; omega⟩, Below.heap_alloc _ _ _ h2⟩
      clear hCr hBr hpk hAr
      go_wp2_with fail
      go_region_law (first
        | (refine step_itemJ (by rfl) (.tmp 30) (.tmp 33) (by rfl) (w2.heap.size + 1) _ xs (by rfl) (hO6.wkept (wkept_alloc _ _) (fun _ _ h => h)) ⟨kd, xn, xt, xc⟩ _ _ 1 (by rfl) (cells_new _ _ _) hT6 hSl hB5 ?_; intro g7 cap7 w7 ho7 hg7; obtain ⟨c7, f7, hq8, hA8, hC8, ho8, K8⟩ := hfin w5 w7 g7 cap7 _ K5' hq5 ho7 hg7)
        | (go_simp; go_at_call 58; refine (hit _ (by assumption)).mono ?_; rintro e w5 ⟨fv, rfl, hT4, hf4, hq5, K5⟩; obtain ⟨fa, fc, rfl⟩ := hT4.shape; unfold itv; have K5' : Wire.Kept (fun k => k = w.heap.size + 1) wo w5 := (wkept_below G0).trans K5 (fun _ _ h => h.elim) (fun _ _ h => h); have c5 := hc5 _ K5'; have c6 := hc5 _ (K5'.trans (wkept_alloc w5 (.cells #[.int .i64 kd, .string (str xn), .string (str xt), .slice fa xc.length fc] 34)) (fun _ _ h => h) (fun _ _ h => h.elim)); have hO6 := hO5 _ K5'; have hT6 := hT5 _ w5 _ (.cells #[.int .i64 kd, .string (str xn), .string (str xt), .slice fa xc.length fc] 34) rfl hT4; have hB5 : w2.heap.size + 1 ≤ (w5.alloc (.cells #[.int .i64 kd, .string (str xn), .string (str xt), .slice fa xc.length fc] 34)).heap.size := by (have := K5'.size; simp; omega)))
      all_goals (
        clear hfin hO5 hc5 hit c1 c5 c6 c7 f7 hO6 hB5 hT5 hT6 hT4 ho7 hg7 K5 K5' hq5 hfl hqr hI
        go_wp2
        go_roundg (k - 1)
        case measure => omega
        case rel => exact ⟨k - 1, px, yx, xs ++ [⟨kd, xn, xt, xc⟩], _, rfl, by first | rfl | rw [hwk] | go_num, HE0, by (have := hak.out; rw [hid_iff, List.length_append, List.length_singleton]; omega), hpi, hq8, hA8, hC8, ho8, K8⟩)
    · have hor : k = 0 ∨ (0 < k ∧ fl = true) := by
        rcases Nat.eq_zero_or_pos k with h | h
        · exact .inl h
        · exact .inr ⟨h, hfy.2 (fun e => hgo ⟨h, e⟩)⟩
      have HEY : Y = (xs, pk, yk) := by
        rw [hR.out]
        refine refF_stop _ _ _ _ _ ?_
        rcases hor with h | h
        · exact .inl h
        · exact .inr (hfy.1 h.2)
      subst HEY
      clear hR hfy hgo HI
      have hYe : Hid ((endR l).1 = 0 → (itemsR l).1 = xs) := fun e => by rw [← HE2.out e]
      have hend := Wire.qend (w.heap.size + 1) b0 bv l pk yk wo hl hqr
      have hE := HE1.out
      simp only at hE
      rw [← hE] at hend
      clear hE HE1 HE2 hqr
      have hT7 : ItR (fun z => w2.heap.size < z ∧ z < wo.heap.size) wo (.slice ia xs.length ic) xs := hI.row.frame fun z hz => ⟨⟨by have := hz.1; omega, hz.2⟩, rfl⟩
      clear hI
      rcases hor with rfl | ⟨hk, rfl⟩
      all_goals (
        try have hki : (0 : Int) < (k : Int) := by omega
        go_wp2_with fail
        refine hend.mono ?_
        rintro e w8 ⟨rfl, K8⟩
        have hA8 := (K8.block w.heap.size (by omega) (fun h => h)).trans hAr
        have hC8 := (K8.block w2.heap.size hcl (fun h => h)).trans hCr
        have hs8 := K8.size
        have hb8 := hBr.trans (K8.below (B := w.heap.size) (by omega) (fun _ _ h => h))
        have hT8 : ItR (fun z => w2.heap.size < z ∧ z < w8.heap.size) w8 (.slice ia xs.length ic) xs := hT7.frame fun z hz => ⟨⟨hz.1, Nat.lt_of_lt_of_le hz.2 hs8⟩, K8.block z hz.2 (fun h => h)⟩
        clear hend K8 hAr hCr hBr hT7 hfl
        by_cases hz : (endR l).1 = 0
        · have hxr := hxR hz
          have hYx := hYe.out hz
          rw [hYx] at hio hxr
          have HYx := hidden hYx
          clear hxB hxR hYe hYx
          have d0 : w8.cell? ⟨w2.heap.size, 0, none⟩ = some (.string (str nm)) := by rw [cell_of_row _ _ 0 _ _ _ hC8]; rfl
          have d1 : w8.cell? ⟨w2.heap.size, 1, none⟩ = some (.slice ia xs.length ic) := by rw [cell_of_row _ _ 1 _ _ _ hC8]; rfl
          have hri := refRightW (fun z => w2.heap.size < z ∧ z < w8.heap.size) nm (.slice ia xs.length ic) xs w8 hT8 (fun z hz => hz.2) hmo hio
          rw [hz]
          generalize rightI nm xs = yr at *
          have HX := hidden hxr
          clear hxr
          generalize (endR l).2 = zq at *
          go_wp2_with fail
          refine hri.mono ?_
          rintro e w9 ⟨rfl, hb9⟩
          have hA9 := (hb9.block w.heap.size (by omega)).trans hA8
          have hC9 := (hb9.block w2.heap.size (by omega)).trans hC8
          have hs9 := hb9.size
          have hbw9 : Below w.heap.size w w9 := hb8.trans (hb9.mono (by omega))
          have hT9 : ItR (fun z => w2.heap.size < z ∧ z < w9.heap.size) w9 (.slice ia xs.length ic) xs := hT8.frame fun z hz => ⟨⟨hz.1, Nat.lt_of_lt_of_le hz.2 hs9⟩, hb9.block z hz.2⟩
          clear hri hb9 d0 d1 hA8 hC8 hT8 hb8
          by_cases hy : yr = 0
          · subst hy
            have d0 : w9.cell? ⟨w2.heap.size, 0, none⟩ = some (.string (str nm)) := by rw [cell_of_row _ _ 0 _ _ _ hC9]; rfl
            have d1 : w9.cell? ⟨w2.heap.size, 1, none⟩ = some (.slice ia xs.length ic) := by rw [cell_of_row _ _ 1 _ _ _ hC9]; rfl
            have KR := wkept_setRow w9 w.heap.size #[.string (str nm), .slice ia xs.length ic]
            have hbR := hbw9.trans (KR.below (B := w.heap.size) (by omega) (fun x hx h => by omega))
            have hTR : ItR (Fr w (w9.setRow w.heap.size #[.string (str nm), .slice ia xs.length ic])) (w9.setRow w.heap.size #[.string (str nm), .slice ia xs.length ic]) (.slice ia xs.length ic) xs := hT9.frame fun z hz => ⟨⟨by have := hz.1; omega, by have := hz.2; have := KR.size; omega⟩, KR.block z hz.2 (by have := hz.1; omega)⟩
            clear KR
            go_wp2_with (refine wpList_store_row rfl 24 (.tmp 2) (.tmp 50) rfl w.heap.size #[.string (str nm), .slice ia xs.length ic] rfl rfl 24 #[.string ⟨#[]⟩, .slice none 0 0] hA9 sizeIf rfl (by kernel_rfl) ?_)
            (try simp only [Exit.inBlock, Exit.then])
            refine bodyPost_ret (res8 rfl _ _ w.heap.size 24 #[.string (str nm), .slice ia xs.length ic] (0, 0) _ rfl (setRow_heap _ w.heap.size _ _ 24 (0, 0) hA9) Tryz.underlying24 rfl sizeIf) rfl ?_
            exact ⟨.inr ⟨by rw [HX.out], _, rfl, by rw [HYx.out]; exact hTR⟩, hbR⟩
          · have hyn : ((yr : Int) != 0) = true := by rw [bne_iff_ne]; omega
            have KR := wkept_setRow w9 w.heap.size #[.string ⟨#[]⟩, .slice none 0 0]
            have hbR := hbw9.trans (KR.below (B := w.heap.size) (by omega) (fun x hx h => by omega))
            clear KR
            go_wp2_with (refine wpList_store_row rfl 24 (.tmp 2) (.tmp 47) rfl w.heap.size #[.string ⟨#[]⟩, .slice none 0 0] rfl rfl 24 #[.string ⟨#[]⟩, .slice none 0 0] hA9 sizeIf rfl (by kernel_rfl) ?_)
            (try simp only [Exit.inBlock, Exit.then])
            refine bodyPost_ret (res8 rfl _ _ w.heap.size 24 #[.string ⟨#[]⟩, .slice none 0 0] (0, 0) _ rfl (setRow_heap _ w.heap.size _ _ 24 (0, 0) hA9) Tryz.underlying24 rfl sizeIf) rfl ?_
            exact ⟨.inl ⟨by rw [HX.out]; exact hy, by rw [HX.out]; rfl⟩, hbR⟩
        · have HX := hidden (hxB hz)
          clear hxB hxR hYe
          have HZ : Hid (¬ (endR l).1 = 0) := hz
          have hzn : (((endR l).1 : Int) == 0) = false := by rw [beq_eq_false_iff_ne]; omega
          have hzm : (((endR l).1 : Int) != 0) = true := by rw [bne_iff_ne]; omega
          have KR := wkept_setRow w8 w.heap.size #[.string ⟨#[]⟩, .slice none 0 0]
          have hbR := hb8.trans (KR.below (B := w.heap.size) (by omega) (fun x hx h => by omega))
          clear KR hz
          generalize (endR l) = E at *
          obtain ⟨ey, eq⟩ := E
          simp only at hzn hzm HZ
          go_wp2_with (refine wpList_store_row rfl 24 (.tmp 2) (.tmp 47) rfl w.heap.size #[.string ⟨#[]⟩, .slice none 0 0] rfl rfl 24 #[.string ⟨#[]⟩, .slice none 0 0] hA8 sizeIf rfl (by kernel_rfl) ?_)
          (try simp only [Exit.inBlock, Exit.then])
          refine bodyPost_ret (res8 rfl _ _ w.heap.size 24 #[.string ⟨#[]⟩, .slice none 0 0] (0, 0) _ rfl (setRow_heap _ w.heap.size _ _ 24 (0, 0) hA8) Tryz.underlying24 rfl sizeIf) rfl ?_
          exact ⟨.inl ⟨by rw [HX.out]; exact HZ.out, by rw [HX.out]; rfl⟩, hbR⟩)
end Go.Proofs.YtalbjbahgbkifaaGreat
