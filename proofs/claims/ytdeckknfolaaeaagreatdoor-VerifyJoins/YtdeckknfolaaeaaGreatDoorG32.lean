/-
  A walk's arrive, whoever waits: states as one.
  And: verify's symbolsByPlace and looseEnd, of an object without relocations and of code without references. Takes and Refs.
-/
import Derived.Test.YtdeckknfolaaeaaGreatDoorG31
import Derived.Test.YtdeckknfolaaeaaGreatDoorG28
import Derived.BigQuiet
import Derived.Deep.QuietTactic
import Derived.Test.YtdeckknfolaaeaaGreatDoorG14
import Derived.Test.YtdeckknfolaaeaaGreatDoorG19
import Derived.Test.YtdeckknfolaaeaaGreatDoorG30
namespace Go.Proofs.YtdeckknfolaaeaaGreatDoor
open Go.RowKit Go.Maps

theorem joinS_bad {s t : St} {r : List St} (h : t.stack ≠ s.stack) : joinS s (t :: r) = none := by rw [joinS, if_neg h]
theorem joinS_good {s t : St} {r : List St} (h : t.stack = s.stack) : joinS s (t :: r) = joinS ⟨s.stack, joinL s.locals t.locals⟩ r := by rw [joinS, if_pos h]
theorem arr_start {col : Nat → Tag} {w : World} {wb : Nat} {u : ObV} {m res : List UInt8} {sy : Value} {mb n : Nat} {ps : List Int} {cur : Int} {wt : List (Int × St)} {sv lv : Value} (h : VbR col w wb u m res sy mb n ps cur wt sv lv) (p : Int) (hcp : cur < p) {s0 : St} {v3 v4 rv : Value} {qr : List (St × Value × Value)} (q2 : w.ownsRow 0 95 2 rv (qr.length + 1) (((s0, v3, v4) :: qr).flatMap fun q => [q.2.1, q.2.2])) (q3 : ∀ g, rv.ownBlock = some g → col g = (1, p, 0))
    (q4 : ∀ (i : Nat) q, ((s0, v3, v4) :: qr)[i]? = some q → SkR col (2, p, i) w q.2.1 q.1.stack ∧ LcR col (3, p, i) w q.2.2 q.1.locals) :
    ArrR col ((w.setCell ⟨wb, 11, none⟩ v3).setCell ⟨wb, 12, none⟩ v4) wb u m res sy mb n ps p wt s0 v3 v4 rv ((s0, v3, v4) :: qr) ∧ Kc col ownT w ((w.setCell ⟨wb, 11, none⟩ v3).setCell ⟨wb, 12, none⟩ v4) := by
  have k1 := kc_box (w := w) h.tag 11 v3
  have k2 := kc_box (w := w.setCell ⟨wb, 11, none⟩ v3) h.tag 12 v4
  have hK : Kc col (fun t => t = (7, 0, 0)) w ((w.setCell ⟨wb, 11, none⟩ v3).setCell ⟨wb, 12, none⟩ v4) := k1.trans (Agr.refl _ _) k2
  have hB1 := (h.setS v3).setL v4
  obtain ⟨hs3, hs4⟩ := q4 0 _ rfl
  exact ⟨⟨⟨⟨hB1.box, hB1.tag, hB1.wait.later (by omega)⟩, hs3.kept hK (Agr.refl _ _) (by simp), hs4.kept hK (Agr.refl _ _) (by simp)⟩, owns_same q2 fun g hg => hK.block g (q2.lt g hg).2 (by show ¬ (col g = _); rw [q3 g hg]; simp), q3, fun j q _ hq => ⟨(q4 j q hq).1.kept hK (Agr.refl _ _) (by simp), (q4 j q hq).2.kept hK (Agr.refl _ _) (by simp)⟩⟩, hK.mono fun _ => kc7⟩
theorem strRow_drew' {w : World} {v : Value} {xs : List (List UInt8)} (h : StrRow w v xs) (n : Nat) : StrRow (w.drewN n) v xs := h
set_option maxRecDepth 1000000 in
set_option maxHeartbeats 4000000 in
theorem varrN {col : Nat → Tag} {w : World} {wb : Nat} {u : ObV} {m res : List UInt8} {sy : Value} {mb n : Nat} {ps : List Int} {cur : Int} {wt : List (Int × St)} {sv lv : Value} (h : VbR col w wb u m res sy mb n ps cur wt sv lv) (p : Int) (hp : p ∈ ps) (hcp : cur < p) (hpb : -9223372036854775808 ≤ p ∧ p ≤ 9223372036854775807) (s0 : St) (rest : List St) (hw : waitS wt p = s0 :: rest) (L : Nat) (hL : L ≤ 256) (hs0 : OkS L s0) (hrs : ∀ s ∈ rest, OkS L s) (hrl : rest.length ≤ 1000000) (hrp : 0 < rest.length) :
    Calls Tryz.prog 135 #[.pointer (some ⟨wb, 0, none⟩), .int .i64 p] w (ArrE col w wb u m res sy mb n ps wt p (joinS s0 rest)) := by
  obtain ⟨⟨c9, c10, c11, c12⟩, f11, f12⟩ := h.cells
  have H := hidden h
  obtain ⟨f, hM, hmt, hfs, hfr⟩ := h.wait
  obtain ⟨rv, hrv, hR⟩ := hfr p hp hcp
  have hlk := hM.look p hpb Tryz.underlying93 (z := .slice none 0 0) (Tryz.zeroValue151 _)
  rw [hrv] at hlk
  simp only [Option.getD_some] at hlk
  obtain ⟨qs, q1, q2, q3, q4⟩ := hR
  rw [hw] at q1 q2
  obtain ⟨v3, v4, qr, rfl, hqr⟩ : ∃ v3 v4 qr, qs = (s0, v3, v4) :: qr ∧ qr.map (·.1) = rest := by
    match qs, q1 with
    | (s', v3, v4) :: qr, e =>
      simp only [List.map_cons, List.cons.injEq] at e
      exact ⟨v3, v4, qr, by rw [e.1], e.2⟩
  have hql : qr.length = rest.length := by rw [← hqr, List.length_map]
  rw [List.length_cons, ← hql] at q2
  obtain ⟨hA0, hK0⟩ := arr_start H.out p hcp q2 q3 q4
  rcases q2.2 with ⟨_, hn⟩ | ⟨g, cap, cu, rfl, _, hgg, hcap, _, hcs, htk⟩
  · simp at hn
  · have r0 : w.cell? ⟨g, 0, none⟩ = some v3 := by rw [q2.cellAt 0 (by omega)]; rfl
    have r1 : w.cell? ⟨g, 1, none⟩ = some v4 := by rw [q2.cellAt 1 (by omega)]; rfl
    obtain ⟨hs3, hs4⟩ := q4 0 _ rfl
    simp only at hs3 hs4
    obtain ⟨sa, scp, rfl⟩ := hs3.row.shape
    obtain ⟨la, lcp, rfl⟩ := hs4.row.shape
    have hcne : ¬ cap = 1 := by omega
    have hqb : qr.length ≤ 1000000 := by omega
    have hcapi : ((qr.length : Nat) : Int) + 1 ≤ (cap : Int) := by omega
    have HA0 := hidden hA0
    have HK0 := hidden hK0
    have HQ := hidden hqr
    have HQL := hidden hql
    have HS0 := hidden hs0
    have HRS := hidden hrs
    clear h hfr hM q2 q3 q4 hfs hrv H hgg hcs htk hA0 hK0 q1 hqr hs0 hrs hw hql hs3 hs4
    go_enter Tryz.func135, Tryz.ntmps135
    go_wp2_with fail
    · go_loopg [28] qr.length (fun gk i wr => ∃ (k : Nat) (lo : List (List UInt8)), gk + k = qr.length ∧ i = .int .i64 (k : Int) ∧ joinS s0 rest = joinS ⟨s0.stack, lo⟩ (rest.drop k) ∧ lo.length = s0.locals.length ∧ Kc col ownT w wr ∧ ∃ col', Agr w.heap.size col col' ∧ ArrR col' wr wb u m res sy mb n ps p wt ⟨s0.stack, lo⟩ (.slice sa s0.stack.length scp) (.slice la s0.locals.length lcp) (.slice (some ⟨g, 0, none⟩) (qr.length + 1) cap) ((s0, .slice sa s0.stack.length scp, .slice la s0.locals.length lcp) :: qr))
      case atStart => exact ⟨0, s0.locals, rfl, rfl, rfl, rfl, HK0.out, col, Agr.refl _ _, HA0.out⟩
      case round =>
        obtain ⟨k, lo, hgk, rfl, hjo, hlo, hK, col1, hAg, hR⟩ := hrel
        rename World => wr
        have HJ := hidden hjo
        have HLO := hidden hlo
        have HGK := hidden hgk
        clear hjo hlo hgk
        by_cases hk : k < qr.length
        · have hki : (k : Int) < (qr.length : Int) := by omega
          obtain ⟨q, hq⟩ : ∃ q, qr[k]? = some q := ⟨qr[k], List.getElem?_eq_getElem hk⟩
          obtain ⟨s, v5, v6⟩ := q
          have hsr : rest[k]? = some s := by rw [← HQ.out, List.getElem?_map, hq]; rfl
          have hsk : OkS L s := HRS.out s (List.mem_of_getElem? hsr)
          have hdrop : rest.drop k = s :: rest.drop (k + 1) := by
            obtain ⟨h1, h2⟩ := List.getElem?_eq_some_iff.1 hsr
            rw [List.drop_eq_getElem_cons h1, h2]
          obtain ⟨e3, e4⟩ := hR.rest (k + 1) (s, v5, v6) (by omega) (by rw [List.getElem?_cons_succ]; exact hq)
          simp only at e3 e4
          obtain ⟨xa, xc, rfl⟩ := e3.row.shape
          obtain ⟨ya, yc, rfl⟩ := e4.row.shape
          obtain ⟨d0, d1⟩ := hR.next k _ hq
          simp only at d0 d1
          obtain ⟨⟨x9, x10, x11, x12⟩, y11, y12⟩ := hR.vw.base.cells
          have hb2 : Below wr.heap.size wr (wr.alloc (.cells #[.slice xa s.stack.length xc, .slice ya s.locals.length yc] 95)) := (Below.refl _ wr).alloc (Nat.le_refl _) _
          have hz2 : (wr.alloc (.cells #[.slice xa s.stack.length xc, .slice ya s.locals.length yc] 95)).heap.size = wr.heap.size + 1 := by simp
          have z0 : (wr.alloc (.cells #[.slice xa s.stack.length xc, .slice ya s.locals.length yc] 95)).cell? ⟨wr.heap.size, 0, none⟩ = some (.slice xa s.stack.length xc) := new_cell wr _ _ 0 _ rfl
          have z1 : (wr.alloc (.cells #[.slice xa s.stack.length xc, .slice ya s.locals.length yc] 95)).cell? ⟨wr.heap.size, 1, none⟩ = some (.slice ya s.locals.length yc) := new_cell wr _ _ 1 _ rfl
          have hs5 := e3.row.below hb2
          have hs6 := e4.row.below hb2
          have hR2 := hR.kept (S := fun _ => False) (Kc.below hb2) (colF_agr col1 wr.heap.size) (fun _ h => h.elim)
          have hK2 : Kc col ownT w (wr.alloc (.cells #[.slice xa s.stack.length xc, .slice ya s.locals.length yc] 95)) := hK.trans hAg (Kc.below hb2)
          have hAg2 : Agr w.heap.size col (colF col1 wr.heap.size) := hAg.trans (colF_agr _ _) hK.size
          obtain ⟨⟨t9, t10, t11, t12⟩, s11, s12⟩ := hR2.vw.base.cells
          have hst0 := hR2.vw.stack.row
          go_wp2_with fail
          generalize wr.alloc (.cells #[.slice xa s.stack.length xc, .slice ya s.locals.length yc] 95) = W2 at *
          have hEq : ∀ nn, Calls Tryz.prog 205 #[.slice xa s.stack.length xc, .slice sa s0.stack.length scp] (W2.drewN nn) fun e w' => e = .returned (.bool (decide (s.stack = s0.stack))) ∧ ∃ q, w' = (W2.drewN nn).drewN q := fun nn => vequal _ _ _ _ (W2.drewN nn) (strRow_drew' hs5 nn) (strRow_drew' hst0 nn) (by have := hsk.1; omega) (by have := HS0.out.1; omega)
          have HR2 := hidden hR2
          have HK2 := hidden hK2
          have HA2 := hidden hAg2
          have HQK := hidden hq
          clear hq d0 d1 hb2 e3 e4 hR hs5 hst0 hR2 hK2 hAg2 hK hAg x9 x10 x11 x12 y11 y12
          cases hd : decide (s.stack = s0.stack)
          · have hne : s.stack ≠ s0.stack := of_decide_eq_false hd
            have HJ2 : Hid (joinS s0 rest = none) := by rw [hid_iff, HJ.out, hdrop, joinS_bad (s := ⟨s0.stack, lo⟩) hne]
            rw [hd] at hEq
            clear hd hne hdrop
            go_quiet ((go_at_call 205; exact Calls.quiet_of (hEq _)))
            go_wp2
            go_ret
            rw [HJ2.out]
            exact ⟨rfl, HK2.out.trans HA2.out (kc_drewN _ _ _ _), fun s hs => by cases hs⟩
          · have hee : s.stack = s0.stack := of_decide_eq_true hd
            have HJ2 : Hid (joinS s0 rest = joinS ⟨s0.stack, joinL lo s.locals⟩ (rest.drop (k + 1))) := by rw [hid_iff, HJ.out, hdrop, joinS_good (s := ⟨s0.stack, lo⟩) hee]
            rw [hd] at hEq
            clear hd hee hdrop
            go_quiet ((go_at_call 205; exact Calls.quiet_of (hEq _)))
            have hR3 := HR2.out.kept (kc_drewN _ (fun _ => False) W2 nq) (Agr.refl _ _) (fun _ h => h.elim)
            have hK3 := HK2.out.trans HA2.out (kc_drewN _ ownT W2 nq)
            have HR3 := hidden hR3
            have HK3 := hidden hK3
            clear hR3 hK3 t9 t10 t11 t12 s11 s12 z0 hEq
            go_wp2_with fail
            go_loopg [44] s.locals.length (fun gk i wq => ∃ (j : Nat), gk + j = s.locals.length ∧ i = .int .i64 (j : Int) ∧ Kc col ownT w wq ∧ ∃ col', Agr w.heap.size col col' ∧ ArrR col' wq wb u m res sy mb n ps p wt ⟨s0.stack, midL lo s.locals j⟩ (.slice sa s0.stack.length scp) (.slice la s0.locals.length lcp) (.slice (some ⟨g, 0, none⟩) (qr.length + 1) cap) ((s0, .slice sa s0.stack.length scp, .slice la s0.locals.length lcp) :: qr))
            case atStart => exact ⟨0, by omega, rfl, HK3.out, _, HA2.out, by rw [mid_zero]; exact HR3.out⟩
            case round =>
              obtain ⟨j, hgj, rfl, hK4, col2, hAg4, hR4⟩ := hrel
              rename World => wq
              have HGJ := hidden hgj
              have hL1 : s.locals.length = s0.locals.length := hsk.2.trans HS0.out.2.symm
              have hL2 : lo.length = s0.locals.length := HLO.out
              have hLb : s.locals.length ≤ 256 := by have := hsk.2; omega
              by_cases hj : j < s.locals.length
              · have hji : (j : Int) < (s.locals.length : Int) := by omega
                have hji2 : (j : Int) < (s0.locals.length : Int) := by omega
                have e4 := (hR4.rest (k + 1) _ (by omega) (by rw [List.getElem?_cons_succ]; exact HQK.out)).2.row
                simp only at e4
                obtain ⟨yb, yo, yc', e1, q1⟩ := strRow_atV e4 j hj
                simp only [Value.slice.injEq, true_and] at e1
                obtain ⟨rfl, rfl⟩ := e1
                have hml : (midL lo s.locals j).length = s0.locals.length := by rw [mid_len _ _ (by omega)]; exact hL2
                have hmj : (midL lo s.locals j)[j]'(by omega) = lo[j]'(by omega) := by
                  have := mid_at lo s.locals (k := j) (by omega)
                  exact (List.getElem?_eq_some_iff.1 this).2
                obtain ⟨lb, lof, lc', e2, q2⟩ := strRow_atV hR4.vw.locs.row j (by rw [hml]; omega)
                simp only [Value.slice.injEq] at e2
                obtain ⟨rfl, -, rfl⟩ := e2
                simp only at q2
                rw [hmj] at q2
                obtain ⟨⟨x9, x10, x11, x12⟩, y11, y12⟩ := hR4.vw.base.cells
                have hnq := eq_is (s.locals[j]) (lo[j]'(by omega))
                have HSA : Hid (s.locals[j] = lo[j]'(by omega) → midL lo s.locals (j + 1) = midL lo s.locals j) := fun e => mid_same lo s.locals (by omega) hj e
                have HSE : Hid (s.locals[j] ≠ lo[j]'(by omega) → midL lo s.locals (j + 1) = (midL lo s.locals j).set j []) := fun e => mid_set lo s.locals (by omega) hj e
                generalize s.locals[j] = t at *
                generalize lo[j]'(by omega) = t2 at *
                by_cases htt : t = t2
                · rw [decide_eq_true htt] at hnq
                  have HM := hidden (HSA.out htt)
                  have HR4 := hidden hR4
                  have HK4 := hidden hK4
                  have HA4 := hidden hAg4
                  clear htt HSA HSE hR4 hK4 hAg4 e4 hml hmj hgj
                  go_wp2
                  go_roundg (s.locals.length - (j + 1))
                  case measure => have := HGJ.out; omega
                  case rel => exact ⟨j + 1, by have := HGJ.out; omega, by go_num, HK4.out, col2, HA4.out, by rw [HM.out]; exact HR4.out⟩
                · rw [decide_eq_false htt] at hnq
                  have HM := hidden (HSE.out htt)
                  have hR5 : ArrR col2 wq wb u m res sy mb n ps p wt ⟨s0.stack, midL lo s.locals j⟩ (.slice sa s0.stack.length scp) (.slice (some ⟨lb, lof, none⟩) (midL lo s.locals j).length lcp) (.slice (some ⟨g, 0, none⟩) (qr.length + 1) cap) ((s0, .slice sa s0.stack.length scp, .slice (some ⟨lb, lof, none⟩) s0.locals.length lcp) :: qr) := by rw [hml]; exact hR4
                  obtain ⟨rfl, hfz, hR6, hK6⟩ := hR5.put j (by omega)
                  rw [hml] at hR6
                  have HR6 := hidden hR6
                  have HK6 := hidden (hK4.trans hAg4 hK6)
                  have HA4 := hidden hAg4
                  simp only [Nat.zero_add] at q2
                  clear htt HSA HSE hR4 hR5 hR6 hK4 hK6 hAg4 e4 hml hmj hgj
                  go_wp2
                  go_roundg (s.locals.length - (j + 1))
                  case measure => have := HGJ.out; omega
                  case rel => exact ⟨j + 1, by have := HGJ.out; omega, by go_num, HK6.out, col2, HA4.out, by rw [HM.out]; exact HR6.out⟩
              · have hji : ¬ (j : Int) < (s.locals.length : Int) := by omega
                have hma : midL lo s.locals j = joinL lo s.locals := mid_all lo s.locals (by omega)
                have hjl : (joinL lo s.locals).length = s0.locals.length := by rw [join_len']; exact hL2
                rw [hma] at hR4
                have HR4 := hidden hR4
                have HK4 := hidden hK4
                have HA4 := hidden hAg4
                have HJL := hidden hjl
                clear hR4 hK4 hAg4 hma hjl hgj hL1 hL2
                go_wp2
                go_roundg (qr.length - (k + 1))
                case measure => have := HGK.out; omega
                case rel => exact ⟨k + 1, joinL lo s.locals, by have := HGK.out; omega, by go_num, HJ2.out, HJL.out, HK4.out, col2, HA4.out, HR4.out⟩
        · have hki : ¬ (k : Int) < (qr.length : Int) := by omega
          have HJ2 : Hid (joinS s0 rest = some ⟨s0.stack, lo⟩) := by
            rw [hid_iff, HJ.out, List.drop_eq_nil_of_le (by have := HQL.out; omega), joinS]
          have HR := hidden hR
          have HK := hidden hK
          have HA := hidden hAg
          clear hR hK hAg
          go_wp2
          go_ret
          rw [HJ2.out]
          exact ⟨rfl, HK.out, fun s hs => by
            cases hs
            exact ⟨col1, _, _, HA.out, HR.out.vw⟩⟩
/-- Arrive, whoever waits. -/
theorem varrive {u : ObV} {m res : List UInt8} {L : Nat} (hL : L ≤ 256) {col : Nat → Tag} {W : World} {wb : Nat} {sy : Value} {mb n : Nat} {ps : List Int} {cur : Int} {wt : List (Int × St)} {sv lv : Value} {p : Int} (h : VbR col W wb u m res sy mb n ps cur wt sv lv) (hp : p ∈ ps) (hcp : cur < p) (hpb : 0 ≤ p ∧ p ≤ 1000000) (hok : OkW L wt) (hl : wt.length ≤ 1000000) :
    Calls Tryz.prog 135 #[.pointer (some ⟨wb, 0, none⟩), .int .i64 p] W (ArrE col W wb u m res sy mb n ps wt p (arriveR wt p)) := by
  cases hw : waitS wt p with
  | nil =>
    have hr : arriveR wt p = none := by rw [arriveR, hw]
    rw [hr]
    refine (varrive0 h p hp hcp (by omega) hw).mono ?_
    rintro e w' ⟨rfl, rfl⟩
    exact ⟨rfl, Kc.refl _ _ _, fun s hs => by cases hs⟩
  | cons s0 rest =>
    have hr : arriveR wt p = joinS s0 rest := by rw [arriveR, hw]
    have hs : ∀ s, s ∈ s0 :: rest → OkS L s := fun s hs => wait_ok hok (by rw [hw]; exact hs)
    have hlen := wait_len wt p
    rw [hw, List.length_cons] at hlen
    rw [hr]
    cases rest with
    | nil =>
      refine (varrive1 h p hp hcp (by omega) s0 hw).mono ?_
      rintro e w' ⟨rfl, h1, h2⟩
      exact ⟨rfl, h1, fun s hs => by
        cases hs
        exact h2⟩
    | cons s1 r => exact varrN h p hp hcp (by omega) s0 (s1 :: r) hw L hL (hs _ (by simp)) (fun s h => hs s (by simp [h])) (by omega) (by simp)
end Go.Proofs.YtdeckknfolaaeaaGreatDoor

namespace Go.Proofs.YtdeckknfolaaeaaGreatDoor
open Go.RowKit Go.Maps

set_option maxRecDepth 1000000 in
set_option maxHeartbeats 2000000 in
theorem vsyms0 (m : List UInt8) (a1 a2 a3 a4 a5 a6 a7 : Option Addr) (n1 n2 n3 n4 n5 n6 c1 c2 c3 c4 c5 c6 c7 : Nat) (n : Int) (w : World) : Calls Tryz.prog 28 #[.agg #[.string (str m), .slice a1 n1 c1, .slice a2 n2 c2, .slice a3 n3 c3, .slice a4 n4 c4, .slice a5 n5 c5, .slice a6 n6 c6, .slice a7 0 c7], .int .i64 n] w fun e w' => e = .returned (.map (some (w.heap.size + 1))) ∧ MapI w' (w.heap.size + 1) 0 (fun _ => none) ∧ Below w.heap.size w w' := by
  have hmm := @run_makeMap Tryz.prog
  have hb0 : Below w.heap.size w (w.alloc (.cells #[.string (str m), .slice a1 n1 c1, .slice a2 n2 c2, .slice a3 n3 c3, .slice a4 n4 c4, .slice a5 n5 c5, .slice a6 n6 c6, .slice a7 0 c7] 31)) := (Below.refl _ w).alloc (Nat.le_refl _) _
  have hN := MapI.new (w.alloc (.cells #[.string (str m), .slice a1 n1 c1, .slice a2 n2 c2, .slice a3 n3 c3, .slice a4 n4 c4, .slice a5 n5 c5, .slice a6 n6 c6, .slice a7 0 c7] 31))
  rw [World.size_alloc] at hN
  have hb1 : Below w.heap.size w ((w.alloc (.cells #[.string (str m), .slice a1 n1 c1, .slice a2 n2 c2, .slice a3 n3 c3, .slice a4 n4 c4, .slice a5 n5 c5, .slice a6 n6 c6, .slice a7 0 c7] 31)).alloc (.map #[] 0)) := hb0.alloc (by simp) _
  have HF := hidden (And.intro hN hb1)
  clear hN hb0 hb1
  go_enter Tryz.func28, Tryz.ntmps28
  go_wp2_with fail
  go_loopg [12] 0 (fun g i wr => g = 0 ∧ i = .int .i64 0 ∧ wr = (w.alloc (.cells #[.string (str m), .slice a1 n1 c1, .slice a2 n2 c2, .slice a3 n3 c3, .slice a4 n4 c4, .slice a5 n5 c5, .slice a6 n6 c6, .slice a7 0 c7] 31)).alloc (.map #[] 0))
  case atStart => exact ⟨rfl, rfl, rfl⟩
  case round =>
    obtain ⟨-, rfl, hw0⟩ := hrel
    subst hw0
    go_wp2
    go_ret
    exact ⟨rfl, HF.out.1, HF.out.2⟩
set_option maxRecDepth 1000000 in
set_option maxHeartbeats 2000000 in
theorem vloose0 (m : List UInt8) (a1 a2 a3 a4 a5 a6 a7 ar : Option Addr) (n1 n2 n3 n4 n5 n6 c1 c2 c3 c4 c5 c6 c7 cr : Nat) (n : Int) (sy : Value) (w : World) : Calls Tryz.prog 29 #[.agg #[.string (str m), .slice a1 n1 c1, .slice a2 n2 c2, .slice a3 n3 c3, .slice a4 n4 c4, .slice a5 n5 c5, .slice a6 n6 c6, .slice a7 0 c7], .int .i64 n, .slice ar 0 cr, sy] w fun e w' => e = .returned (.tuple #[.int .i64 0, .bool false]) ∧ Below w.heap.size w w' := by
  have hb0 : Below w.heap.size w (w.alloc (.cells #[.string (str m), .slice a1 n1 c1, .slice a2 n2 c2, .slice a3 n3 c3, .slice a4 n4 c4, .slice a5 n5 c5, .slice a6 n6 c6, .slice a7 0 c7] 31)) := (Below.refl _ w).alloc (Nat.le_refl _) _
  have HF := hidden hb0
  clear hb0
  go_enter Tryz.func29, Tryz.ntmps29
  go_wp2_with fail
  go_loopg [18] 0 (fun g i wr => g = 0 ∧ i = .int .i64 0 ∧ wr = w.alloc (.cells #[.string (str m), .slice a1 n1 c1, .slice a2 n2 c2, .slice a3 n3 c3, .slice a4 n4 c4, .slice a5 n5 c5, .slice a6 n6 c6, .slice a7 0 c7] 31))
  case atStart => exact ⟨rfl, rfl, rfl⟩
  case round =>
    obtain ⟨-, rfl, hw0⟩ := hrel
    subst hw0
    go_wp2_with fail
    go_loopg [35] 0 (fun g i wr => g = 0 ∧ i = .int .i64 0 ∧ wr = w.alloc (.cells #[.string (str m), .slice a1 n1 c1, .slice a2 n2 c2, .slice a3 n3 c3, .slice a4 n4 c4, .slice a5 n5 c5, .slice a6 n6 c6, .slice a7 0 c7] 31))
    case atStart => exact ⟨rfl, rfl, rfl⟩
    case round =>
      obtain ⟨-, rfl, hw0⟩ := hrel
      subst hw0
      go_wp2
      go_ret2
      exact ⟨rfl, HF.out⟩
end Go.Proofs.YtdeckknfolaaeaaGreatDoor

namespace Go.Proofs.YtdeckknfolaaeaaGreatDoor.Wire
open Go.RowKit

/-- What both Takes answer. -/
def TkE (op : Int) (w : World) (e : Ending) (w' : World) : Prop := e = .returned (.tuple #[.int .i64 (((takesR op).getD 0 : Nat) : Int), .bool (takesR op).isSome]) ∧ w' = w
set_option maxHeartbeats 1000000 in
set_option maxRecDepth 1000000 in
theorem ctakes (op : Int) (w : World) : Calls Tryz.prog 72 #[.int .i64 op] w (TkE op w) := by
  have key : ∀ (s : List Nat) (okv : Bool) (n : Int) (r : Nat) (ok : Bool), layS op = s → isOp op = okv → Lib.indexByte (toStr s).data.toList (Int.toNat 114).toUInt8 = n → takesR op = (if ok then some r else none) → (ok = false ∧ n = -1 ∨ ok = true ∧ 0 ≤ n ∧ n < 100 ∧ (r : Int) = 1 + n) → Calls Tryz.prog 72 #[.int .i64 op] w (TkE op w) := by
    intro s okv n r ok hs ho hn ht hr
    have hly := clayout op w
    have hi := Tryz.strings_IndexByte (toStr s) 114 w
    rw [hs, ho] at hly
    rw [hn] at hi
    unfold TkE
    have HT := hidden ht
    clear hn hs ho ht
    generalize toStr s = S at *
    rcases hr with ⟨rfl, rfl⟩ | ⟨rfl, h0, h1, h2⟩
    · go_enter Tryz.func72, Tryz.ntmps72
      go_wp2_with fail
      refine hly.mono ?_
      rintro e w1 ⟨rfl, rfl⟩
      go_wp2_with fail
      refine hi.mono ?_
      rintro e w1 ⟨rfl, rfl⟩
      go_wp2
      go_ret2
      rw [HT.out]
      exact ⟨rfl, rfl⟩
    · have H2 := hidden h2
      clear h2
      go_enter Tryz.func72, Tryz.ntmps72
      go_wp2_with fail
      refine hly.mono ?_
      rintro e w1 ⟨rfl, rfl⟩
      go_wp2_with fail
      refine hi.mono ?_
      rintro e w1 ⟨rfl, rfl⟩
      go_wp2
      go_ret2
      rw [HT.out]
      refine ⟨?_, rfl⟩
      show Ending.returned (.tuple #[.int .i64 (1 + n), .bool true]) = Ending.returned (.tuple #[.int .i64 (r : Int), .bool true])
      rw [H2.out]
  rcases op_cases op with rfl | rfl | rfl | rfl | rfl | rfl | rfl | rfl | rfl | rfl | rfl | rfl | rfl | rfl | rfl | h
  · exact key [110] true (-1) 0 false rfl rfl (by decide) rfl (.inl ⟨rfl, rfl⟩)
  · exact key [116] true (-1) 0 false rfl rfl (by decide) rfl (.inl ⟨rfl, rfl⟩)
  · exact key [97] true (-1) 0 false rfl rfl (by decide) rfl (.inl ⟨rfl, rfl⟩)
  · exact key [97] true (-1) 0 false rfl rfl (by decide) rfl (.inl ⟨rfl, rfl⟩)
  · exact key [103] true (-1) 0 false rfl rfl (by decide) rfl (.inl ⟨rfl, rfl⟩)
  · exact key [103] true (-1) 0 false rfl rfl (by decide) rfl (.inl ⟨rfl, rfl⟩)
  · exact key [97] true (-1) 0 false rfl rfl (by decide) rfl (.inl ⟨rfl, rfl⟩)
  · exact key [97, 98] true (-1) 0 false rfl rfl (by decide) rfl (.inl ⟨rfl, rfl⟩)
  · exact key [97, 114] true 1 2 true rfl rfl (by decide) rfl (.inr ⟨rfl, by decide, by decide, rfl⟩)
  · exact key [97, 114, 103] true 1 2 true rfl rfl (by decide) rfl (.inr ⟨rfl, by decide, by decide, rfl⟩)
  · exact key [114] true 0 1 true rfl rfl (by decide) rfl (.inr ⟨rfl, by decide, by decide, rfl⟩)
  · exact key [114] true 0 1 true rfl rfl (by decide) rfl (.inr ⟨rfl, by decide, by decide, rfl⟩)
  · exact key [97, 114] true 1 2 true rfl rfl (by decide) rfl (.inr ⟨rfl, by decide, by decide, rfl⟩)
  · exact key [97] true (-1) 0 false rfl rfl (by decide) rfl (.inl ⟨rfl, rfl⟩)
  · exact key [] true (-1) 0 false rfl rfl (by decide) rfl (.inl ⟨rfl, rfl⟩)
  · have h0 : ¬ (1 ≤ op ∧ op ≤ 15) := of_decide_eq_false h
    refine key [] false (-1) 0 false (lay_none h) h (by decide) ?_ (.inl ⟨rfl, rfl⟩)
    unfold takesR
    rw [if_neg (by omega), if_neg (by omega)]
    rfl
/-- A whole number's cell. -/
def cInt : Cel Int := fun _ _ x c => c = [.int .i64 x]
theorem cInt_ok : CelOk 1 cInt where
  frame := fun _ h => h
  len := fun h => by rw [h]; rfl
  one := fun h u hu => by
    rw [h] at hu
    simp only [List.mem_singleton] at hu
    rw [hu]
    rfl
theorem infoInt1 : (Tryz.prog.info? 3).map (fun i => (i.zero.map (fun z => z.cells.size), i.size, i.bytes)) = some (some 1, 1, 8) := by kernel_rfl
theorem RowG.iwR {B : Nat} {w : World} {v : Value} {l : List Int} (h : RowG cInt 3 1 B w v l) : IwR (fun g => B ≤ g ∧ g < w.heap.size) w v l := by
  by_cases h0 : l.length = 0
  · obtain ⟨a, c, rfl⟩ := h.shape
    refine .inl ⟨a, c, by rw [h0], List.eq_nil_of_length_eq_zero h0⟩
  · obtain ⟨g, cap, _, hv, hc, hg, _⟩ := h.at cInt_ok 0 (by omega)
    refine .inr ⟨g, 0, cap, hv, hc, hg, fun j x hj => ?_⟩
    obtain ⟨hjl, rfl⟩ := List.getElem?_eq_some_iff.1 hj
    obtain ⟨g2, cap2, c, hv2, _, _, hc1, hcell⟩ := h.at cInt_ok j hjl
    rw [hv] at hv2
    simp only [Value.slice.injEq, Option.some.injEq, Addr.mk.injEq, and_true, true_and] at hv2
    obtain ⟨rfl, rfl⟩ := hv2
    have := hcell 0 (.int .i64 l[j]) (by rw [hc1]; rfl)
    rw [Nat.zero_add]
    simpa using this
/-- What Refs leaves. -/
def RefsE (l : List Ins) (w : World) (e : Ending) (w' : World) : Prop := ∃ v, e = .returned v ∧ IwR (fun g => w.heap.size ≤ g ∧ g < w'.heap.size) w' v (refsR l) ∧ Kept (fun _ => False) w w'
theorem refs_take (l : List Ins) (k : Nat) (hk : k < l.length) : refsR (l.take (k + 1)) = refsR (l.take k) ++ (match takesR l[k].op with | none => [] | some n => [l[k].pl + (n : Int)]) := by
  rw [List.take_succ_eq_append_getElem hk]
  unfold refsR
  rw [List.filterMap_append]
  congr 1
  cases h : takesR l[k].op with
  | none => simp [h]
  | some n => simp [h]
theorem refs_len (l : List Ins) : (refsR l).length ≤ l.length := List.length_filterMap_le _ _
set_option maxHeartbeats 4000000 in
set_option maxRecDepth 1000000 in
theorem crefs (F : Nat → Prop) (v : Value) (l : List Ins) (w : World) (hR : InsR F w v l) (hF : ∀ g, F g → g < w.heap.size) (hl : l.length ≤ 1000000) (hpl : ∀ i ∈ l, -1000000000000 ≤ i.pl ∧ i.pl ≤ 1000000000000) : Calls Tryz.prog 30 #[v] w (RefsE l w) := by
  obtain ⟨va, vc, rfl⟩ := hR.shape
  go_enter Tryz.func30, Tryz.ntmps30
  go_wp2
  go_loopg [3, 10] l.length (fun gk ov i wr => ∃ k : Nat, gk + k = l.length ∧ i = .int .i64 k ∧ RowG cInt 3 1 w.heap.size wr ov (refsR (l.take k)) ∧ Kept (fun _ => False) w wr)
  case atStart => exact ⟨0, rfl, rfl, RowG.nil _ _ _ _ _, Kept.refl _ _⟩
  case round =>
    obtain ⟨k, hgk, rfl, hO, hK⟩ := hrel
    have hzr := hK.size
    by_cases hk : k < l.length
    · have hRr := hR.kept hK (fun g hg => ⟨hF g hg, fun h => h⟩)
      obtain ⟨ga, o, cap, tv, hv, hcap, hT, q0, q1, q2, q3, q4, q5, q6⟩ := hRr.at k hk
      simp only [Value.slice.injEq, true_and] at hv
      obtain ⟨rfl, rfl⟩ := hv
      have hP := hpl l[k] (List.getElem_mem hk)
      have HT := hidden (refs_take l k hk)
      have hrl := refs_len (l.take k)
      rw [List.length_take] at hrl
      generalize l[k] = X at *
      obtain ⟨hbx, K4⟩ := box_new wr X tv
      have h1c := insC_one hT
      have hzz := zIns_heap wr
      have hO4 := hO.kept cInt_ok K4 (fun _ _ h => h)
      have hK4 := hK.trans K4 (fun _ _ h => h) (fun _ _ h => h)
      have hz4 := K4.size
      obtain ⟨c0, c1, c2, c3, c4, c5, c6⟩ := hbx.cells
      have htk := ctakes X.op ((wr.alloc (.cells #[.int .i64 0, .int .i64 0, .int .i64 0, .int .i64 0, .complex .f64 0 0, .string ⟨#[]⟩, .slice none 0 0] 144)).setRow wr.heap.size (insC X tv))
      unfold TkE at htk
      have HGK := hidden hgk
      clear hgk hRr
      go_wp2_with (refine wpList_store_row rfl 144 (.tmp 5) (.tmp 13) rfl wr.heap.size (insC X tv) rfl rfl 144 #[.int .i64 0, .int .i64 0, .int .i64 0, .int .i64 0, .complex .f64 0 0, .string ⟨#[]⟩, .slice none 0 0] hzz sizeIns rfl h1c ?_)
      clear hzz q0 q1 q2 q3 q4 q5 q6 hT hK
      generalize (wr.alloc (.cells #[.int .i64 0, .int .i64 0, .int .i64 0, .int .i64 0, .complex .f64 0 0, .string ⟨#[]⟩, .slice none 0 0] 144)).setRow wr.heap.size (insC X tv) = W4 at *
      refine htk.mono ?_
      rintro e0 w5 ⟨rfl, rfl⟩
      clear htk
      obtain ⟨oa, oc, rfl⟩ := hO.shape
      cases htt : takesR X.op with
      | none =>
        rw [htt] at HT
        simp only [Option.getD_none, Option.isSome_none]
        go_wp2
        go_roundg (l.length - (k + 1))
        case measure => have := HGK.out; omega
        case rel => exact ⟨k + 1, by omega, by go_num, by rw [HT.out]; simpa using hO4, hK4⟩
      | some n =>
        rw [htt] at HT
        have hn2 : n ≤ 2 := by
          unfold takesR at htt
          split at htt
          · simp at htt; omega
          · split at htt
            · simp at htt; omega
            · cases htt
        simp only [Option.getD_some, Option.isSome_some]
        have K6 : Kept (fun _ => False) w5 (w5.alloc (.cells #[.int .i64 (X.pl + (n : Int))] 3)) := (Kept.refl _ w5).alloc _
        have hO6 := hO4.kept cInt_ok K6 (fun _ _ h => h)
        have hHO := hidden (fun z (hz : (Value.slice oa (refsR (l.take k)).length oc).ownBlock = some z) => (hO.block hz).1)
        go_wp2_with (at_builtin; refine append_rowG cInt_ok rfl (.tmp 21) (.tmp 26) 56 rfl Tryz.underlying56 infoInt1 (by decide) _ (refsR (l.take k)) rfl hO6 (X.pl + (n : Int)) [.int .i64 (X.pl + (n : Int))] ⟨w5.heap.size, 0, none⟩ 1 rfl (cells_new w5 [.int .i64 (X.pl + (n : Int))] 3) rfl ?len ?byt ?hB ?next)
        case len => unfold maxLen; omega
        case byt => omega
        case hB =>
          have := K6.size
          omega
        case next =>
          intro g2 cap2 w6 hrow7 hg7
          have K7 : Kept (fun z => (Value.slice oa (refsR (l.take k)).length oc).ownBlock = some z) w5 w6 := (K6.mono (fun _ _ h => h.elim)).grown hg7 (fun k e _ => e)
          have hk7 := hK4.trans K7 (fun _ _ h => h) (fun x hx h => by have := hHO.out x h; omega)
          clear hO6 hg7 K7 K6 hO hO4 c0 c1 c2 c3 c4 c5 c6 hbx
          go_wp2
          go_roundg (l.length - (k + 1))
          case measure => have := HGK.out; omega
          case rel => exact ⟨k + 1, by omega, by go_num, by rw [HT.out]; exact hrow7, hk7⟩
    · have hk2 : l.length ≤ k := by omega
      obtain ⟨oa, oc, rfl⟩ := hO.shape
      rw [List.take_of_length_le hk2] at hO
      have HL : Hid (l.take k = l) := List.take_of_length_le hk2
      go_wp2
      go_ret
      rw [HL.out]
      exact ⟨_, rfl, hO.iwR, hK⟩
end Go.Proofs.YtdeckknfolaaeaaGreatDoor.Wire
