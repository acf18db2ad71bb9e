/-
  A walk's through: a function's instructions, one behind the other.
  And: slices.Equal of two rows of texts.
-/
import Derived.Test.YtdeckknfolaaeaaGreatDoorG30
import Derived.BigQuiet
import Derived.Deep.QuietTactic
import Derived.Test.YtdeckknfolaaeaaGreatDoorG15
import Derived.Test.YtdeckknfolaaeaaGreatDoorG29
namespace Go.Proofs.YtdeckknfolaaeaaGreatDoor
open Go.RowKit Go.Maps

/-- What stands ahead of the k-th instruction. -/
structure RunR (col : Nat → Tag) (w wr : World) (wb : Nat) (u : ObV) (m res : List UInt8) (sy : Value) (mb : Nat) (oth : Wire.Ins → Wk → Nat × Wk) (is : List Wire.Ins) (L : Nat) (R : Nat × Int) (k : Nat) : Prop where
  kc : Kc col ownT w wr
  run : ∃ col' n cur wt sv lv, Agr w.heap.size col col' ∧ VbR col' wr wb u m res sy mb n (is.map (·.pl)) cur wt sv lv ∧ n ≤ is.length + 1 + 2 * k ∧ wt.length ≤ 1 + 2 * k ∧ OkW L wt ∧ (∀ j (hj : j < is.length), k ≤ j → cur < is[j].pl) ∧ thruV res oth (is.map (·.pl)) (is.drop k) wt = R
/-- Arrive where these wait, at any time. -/
def ArrAll (u : ObV) (m res : List UInt8) (L : Nat) : Prop := ∀ (col : Nat → Tag) (W : World) (wb : Nat) (sy : Value) (mb n : Nat) (ps : List Int) (cur : Int) (wt : List (Int × St)) (sv lv : Value) (p : Int), VbR col W wb u m res sy mb n ps cur wt sv lv → p ∈ ps → cur < p → (0 ≤ p ∧ p ≤ 1000000) → OkW L wt → wt.length ≤ 1000000 →
  Calls Tryz.prog 135 #[.pointer (some ⟨wb, 0, none⟩), .int .i64 p] W (ArrE col W wb u m res sy mb n ps wt p (arriveR wt p))
theorem kc_box' {col : Nat → Tag} {w : World} {wb : Nat} (h : col wb = (7, 0, 0)) (i : Nat) (v : Value) : Kc col (fun t => t = (7, 0, 0)) w (w.setCell ⟨wb, i, none⟩ v) := kc_box h i v
set_option maxRecDepth 1000000 in
set_option maxHeartbeats 4000000 in
theorem vthru {col : Nat → Tag} {w : World} {wb : Nat} {u : ObV} {m res : List UInt8} {sy X sv0 lv0 : Value} (oth : Wire.Ins → Wk → Nat × Wk) (L : Nat) (hArr : ArrAll u m res L) (F : Nat → Prop) (is : List Wire.Ins) (v : Value) (hbox : w.heap[wb]? = some (.cells (wkC u m res sy X sv0 lv0) 97 (0, 0))) (htag : col wb = (7, 0, 0)) (hI : Wire.InsR F w v is) (hF : ∀ g, F g → g < w.heap.size ∧ ¬ ownT (col g))
    (fl : List (List UInt8)) (lv : Value) (hlv : LcR col (3, 0, 0) w lv fl) (hfl : fl.length = L) (hL : L ≤ 256) (hfit : FitI is) :
    Calls Tryz.prog 31 #[.pointer (some ⟨wb, 0, none⟩), v, .agg #[.slice none 0 0, lv]] w fun e w' => e = .returned (.tuple #[.int .i64 ((thruE res oth is fl).1 : Int), .int .i64 (thruE res oth is fl).2]) ∧ Kc col ownT w w' := by
  subst hfl
  obtain ⟨va, vc, rfl⟩ := hI.shape
  have hwb : wb < w.heap.size := (Array.getElem?_eq_some_iff.1 hbox).1
  obtain ⟨la, lc, rfl⟩ := hlv.row.shape
  have hb1 : Below w.heap.size w (w.alloc (.cells #[.slice none 0 0, .slice la fl.length lc] 95)) := (Below.refl _ w).alloc (Nat.le_refl _) _
  by_cases h0 : is = []
  · subst h0
    have HB := hidden hb1
    clear hb1 hbox htag hI hF hlv hfit
    go_enter Tryz.func31, Tryz.ntmps31
    go_wp2
    go_ret2
    exact ⟨rfl, Kc.below HB.out⟩
  · have hpos : 0 < is.length := List.length_pos_iff.2 h0
    have hne : (((is.length : Nat) : Int) == 0) = false := by simpa using h0
    have hlen := hfit.len
    have HR : Hid (thruE res oth is fl = thruV res oth (is.map (·.pl)) is [(0, ⟨[], fl⟩)]) := by
      cases is with
      | nil => exact absurd rfl h0
      | cons i r => rfl
    generalize thruE res oth is fl = R at *
    have hmm := @run_makeMap Tryz.prog
    have hfz2 := frozen_of_row w wb 10 _ _ hbox
    have hc10 : w.cell? ⟨wb, 10, none⟩ = some X := by rw [cell_of_row _ _ 10 _ _ _ hbox]; rfl
    obtain ⟨ws, hws⟩ : ∃ ws, ws = w.setCell ⟨wb, 10, none⟩ (.map (some (w.heap.size + 1))) := ⟨_, rfl⟩
    have hks : Kc col (fun t => t = (7, 0, 0)) w ws := by rw [hws]; exact kc_box htag 10 _
    have hzs : ws.heap.size = w.heap.size := by rw [hws]; simp
    have hbs : ws.heap[wb]? = some (.cells (wkC u m res sy (.map (some (w.heap.size + 1))) sv0 lv0) 97 (0, 0)) := by rw [hws]; exact heap_setCell_same _ wb 10 _ _ _ hbox
    have hz1 : (ws.alloc (.cells #[.slice none 0 0, .slice la fl.length lc] 95)).heap.size = w.heap.size + 1 := by simp [hzs]
    have hfb1 := World.alloc_heap_new ws (.cells #[.slice none 0 0, .slice la fl.length lc] 95)
    rw [hzs] at hfb1
    have hmp2 := MapI.new (ws.alloc (.cells #[.slice none 0 0, .slice la fl.length lc] 95))
    rw [hz1] at hmp2
    have hL0 : LayR ((ws.alloc (.cells #[.slice none 0 0, .slice la fl.length lc] 95)).alloc (.map #[] 0)) wb u m res sy (w.heap.size + 1) sv0 lv0 is 0 := ⟨(Below.heap_alloc _ _ _ (by omega)).trans ((Below.heap_alloc _ _ _ (by omega)).trans hbs), by simpa using hmp2⟩
    have hK0 : Kc col (fun t => t = (7, 0, 0)) w ((ws.alloc (.cells #[.slice none 0 0, .slice la fl.length lc] 95)).alloc (.map #[] 0)) := hks.trans (Agr.refl _ _) (Kc.below (((Below.refl _ ws).alloc (Nat.le_refl _) _).alloc (by omega) _))
    have hfb3 : ((ws.alloc (.cells #[.slice none 0 0, .slice la fl.length lc] 95)).alloc (.map #[] 0)).heap[w.heap.size]? = some (.cells #[.slice none 0 0, .slice la fl.length lc] 95 (0, 0)) := (Below.heap_alloc _ _ _ (by omega)).trans hfb1
    subst hws
    have HL0 := hidden hL0
    have HK0 := hidden hK0
    have HFB := hidden hfb3
    have HLV := hidden hlv
    have HBX := hidden hbox
    have HI := hidden hI
    have HF := hidden hF
    have HT := hidden htag
    clear hL0 hK0 hfb3 hmp2 hbs hks hzs hb1 hfb1 hz1 hlv hbox hI hF htag
    go_enter Tryz.func31, Tryz.ntmps31
    go_wp2_with fail
    clear hne
    go_loopg [22] is.length (fun gk i wr => ∃ (j : Nat), gk + j = is.length ∧ i = .int .i64 (j : Int) ∧ LayR wr wb u m res sy (w.heap.size + 1) sv0 lv0 is j ∧ Kc col (fun t => t = (7, 0, 0)) w wr ∧ wr.heap[w.heap.size]? = some (.cells #[.slice none 0 0, .slice la fl.length lc] 95 (0, 0)))
    case atStart => exact ⟨0, by omega, rfl, HL0.out, HK0.out, HFB.out⟩
    case round =>
      obtain ⟨j, hgj, rfl, hLj, hKj, hFj⟩ := hrel
      rename World => wr
      have HG := hidden hgj
      by_cases hj : j < is.length
      · have hji : (j : Int) < ((is.length : Nat) : Int) := by omega
        have hIr := HI.out.frame (G := F) (w' := wr) fun g hg => ⟨hg, hKj.block g (HF.out g hg).1 (fun e => (HF.out g hg).2 (by rw [e]; simp [ownT]))⟩
        obtain ⟨ga, o, cap, tv, hv, hcap, hT, q0, q1, q2, q3, q4, q5, q6⟩ := hIr.at j hj
        simp only [Value.slice.injEq, true_and] at hv
        obtain ⟨rfl, rfl⟩ := hv
        have hpl := hfit.pl _ (List.getElem_mem hj)
        obtain ⟨hbx, K4⟩ := Wire.box_new wr is[j] tv
        have h1c := Wire.insC_one hT
        have hzz := Wire.zIns_heap wr
        have hb4 := below_kept K4
        have hz4 := K4.size
        obtain ⟨c0, -⟩ := hbx.cells
        have hL4 := hLj.frame hb4
        have hc := hL4.cell
        obtain ⟨w6, r6, hL6, hg6, hs6⟩ := (hL4.frame (w' := ((wr.alloc (.cells #[.int .i64 0, .int .i64 0, .int .i64 0, .int .i64 0, .complex .f64 0 0, .string ⟨#[]⟩, .slice none 0 0] 144)).setRow wr.heap.size (Wire.insC is[j] tv)).drew) (Below.refl _ _).drew).put hj (by have := HBX.out; omega) hlen hpl
        have hzj0 : w.heap.size < wr.heap.size := (Array.getElem?_eq_some_iff.1 hFj).1
        have hbD := hb4.drew
        have h46 : Below (w.heap.size + 1) wr w6 := ⟨hg6.os.trans hbD.os, hg6.tape.trans hbD.tape, hg6.output.trans hbD.output, Nat.le_trans hbD.size hg6.size, fun b hb => (hg6.block b (Nat.lt_of_lt_of_le (by omega) hbD.size) (by simp; omega)).trans (hbD.block b (by omega))⟩
        have hzw := hKj.size
        have hK6 : Kc col (fun t => t = (7, 0, 0)) w w6 := ⟨h46.os.trans hKj.os, h46.tape.trans hKj.tape, h46.output.trans hKj.output, Nat.le_trans hKj.size h46.size, fun b hb hn => (h46.block b (by omega)).trans (hKj.block b hb hn)⟩
        have hF6 := (h46.block w.heap.size (by omega)).trans hFj
        have HL6 := hidden hL6
        have HK6 := hidden hK6
        have HF6 := hidden hF6
        have hzj : w.heap.size < wr.heap.size := (Array.getElem?_eq_some_iff.1 hFj).1
        clear hIr hgj hLj hKj hFj hL4 hL6 hg6 hb4 hbx K4 hT h46 hK6 hF6 hbD hzw
        go_wp2_with (refine wpList_store_row rfl 144 (.tmp 9) (.tmp 25) rfl wr.heap.size (Wire.insC is[j] tv) rfl rfl 144 #[.int .i64 0, .int .i64 0, .int .i64 0, .int .i64 0, .complex .f64 0 0, .string ⟨#[]⟩, .slice none 0 0] hzz Wire.sizeIns rfl h1c ?_)
        clear hzz q0 q1 q2 q3 q4 q5 q6
        generalize (wr.alloc (.cells #[.int .i64 0, .int .i64 0, .int .i64 0, .int .i64 0, .complex .f64 0 0, .string ⟨#[]⟩, .slice none 0 0] 144)).setRow wr.heap.size (Wire.insC is[j] tv) = W4 at *
        generalize hpj : is[j].pl = pj at *
        go_region
        all_goals
          go_wp2
          go_roundg (is.length - (j + 1))
          case measure => have := HG.out; omega
          case rel => exact ⟨j + 1, by have := HG.out; omega, by go_num, HL6.out, HK6.out, HF6.out⟩
      · have hje : j = is.length := by omega
        subst hje
        have hji : ¬ ((is.length : Nat) : Int) < ((is.length : Nat) : Int) := by omega
        have x0 : wr.cell? ⟨w.heap.size, 0, none⟩ = some (.slice none 0 0) := by rw [cell_of_row _ _ 0 _ _ _ hFj]; rfl
        have x1 : wr.cell? ⟨w.heap.size, 1, none⟩ = some (.slice la fl.length lc) := by rw [cell_of_row _ _ 1 _ _ _ hFj]; rfl
        have hc := hLj.cell
        have hc2 := cell_more hc (.cells #[.slice none 0 0, .slice la fl.length lc] 95)
        have hYb : Below wr.heap.size wr (wr.alloc (.cells #[.slice none 0 0, .slice la fl.length lc] 95)).drew := ((Below.refl _ wr).alloc (Nat.le_refl _) _).drew
        obtain ⟨w6, r6, hM6, hg6, hs6⟩ := ((hLj.frame hYb).map).put (by omega) 0 (by omega) (.slice (some ⟨wr.heap.size, 0, none⟩) 1 1) Tryz.underlying93
        obtain ⟨col6, hA6, hV6⟩ := thr_start hfit hpos hLj hwb (Nat.le_succ _) HT.out HLV.out hKj hYb (Nat.le_refl _) (by show wr.heap.size < (wr.alloc _).heap.size; rw [World.size_alloc]; omega) (World.alloc_heap_new wr _) hM6 hg6
        have hzw := hKj.size
        have hml := hLj.map.lt
        have hK6 : Kc col ownT w w6 := by
          have h1 : Kc col ownT w (wr.alloc (.cells #[.slice none 0 0, .slice la fl.length lc] 95)).drew := (hKj.mono fun _ => kc7).trans (Agr.refl _ _) (Kc.below hYb)
          exact ⟨hg6.os.trans h1.os, hg6.tape.trans h1.tape, hg6.output.trans h1.output, Nat.le_trans h1.size hg6.size, fun b hb hn => (hg6.block b (Nat.lt_of_lt_of_le (by omega) hYb.size) (by simp; omega)).trans (h1.block b hb hn)⟩
        have HRun : Hid (RunR col w w6 wb u m res sy (w.heap.size + 1) oth is fl.length R 0) := ⟨hK6, col6, is.length + 1, -1, _, sv0, lv0, hA6, hV6, by omega, by simp, fun x hx => by
            rw [List.mem_singleton.1 hx]
            exact ⟨Nat.zero_le _, rfl⟩, fun j hj _ => by
            have := (hfit.pl _ (List.getElem_mem hj)).1
            omega, HR.out.symm⟩
        clear hLj hKj hFj hYb hM6 hg6 hA6 hV6 hK6 hml
        go_wp2_with fail
        go_region
        all_goals
          clear x0 x1 hc hc2 r6
          go_wp2_with fail
          go_loopg [41] is.length (fun gk i wq => ∃ (k : Nat), gk + k = is.length ∧ i = .int .i64 (k : Int) ∧ RunR col w wq wb u m res sy (w.heap.size + 1) oth is fl.length R k)
          case atStart => exact ⟨0, by omega, rfl, HRun.out⟩
          case round =>
            obtain ⟨k, hgk, rfl, hRun⟩ := hrel
            rename World => wq
            have HGK := hidden hgk
            obtain ⟨hKw, col', n, cur, wt, sv, lv, hA, hV, hn, hwl, hok, hcur, hth⟩ := hRun
            clear HRun hgk
            by_cases hk : k < is.length
            · have hki : (k : Int) < ((is.length : Nat) : Int) := by omega
              have hIr := HI.out.frame (G := F) (w' := wq) fun g hg => ⟨hg, hKw.block g (HF.out g hg).1 (HF.out g hg).2⟩
              obtain ⟨ga, o, cap, tv, hv, hcap, hT, q0, q1, q2, q3, q4, q5, q6⟩ := hIr.at k hk
              simp only [Value.slice.injEq, true_and] at hv
              obtain ⟨rfl, rfl⟩ := hv
              have hmem := List.getElem_mem hk
              have hpl := hfit.pl _ hmem
              obtain ⟨hbx, K4⟩ := Wire.box_new wq is[k] tv
              have h1c := Wire.insC_one hT
              have hzz := Wire.zIns_heap wq
              have hb4 := below_kept K4
              have hpm : is[k].pl ∈ is.map (·.pl) := List.mem_map.2 ⟨_, hmem, rfl⟩
              have hV4 := hV.kept (S := fun _ => False) (Kc.below hb4) (colZ_agr col' wq.heap.size) (fun _ h => h.elim)
              have hcz := hKw.size
              have hF4 : ∀ g, F g → g < wq.heap.size ∧ ¬ ownT (colZ col' wq.heap.size g) := fun g hg => by
                have h1 := (HF.out g hg).1
                refine ⟨by omega, ?_⟩
                rw [colZ_agr col' wq.heap.size g (by omega), hA g h1]
                exact (HF.out g hg).2
              have hI4 := hT.frame (G := F) (w' := (wq.alloc (.cells #[.int .i64 0, .int .i64 0, .int .i64 0, .int .i64 0, .complex .f64 0 0, .string ⟨#[]⟩, .slice none 0 0] 144)).setRow wq.heap.size (Wire.insC is[k] tv)) fun g hg => ⟨hg, hb4.block g (hF4 g hg).1⟩
              have hstep := vstep (n := n) (wt := wt) (ps := is.map (·.pl)) (res := res) (m := m) (u := u) (sy := sy) (mb := w.heap.size + 1) (wb := wb) (col := colZ col' wq.heap.size) oth F is[k] tv hI4 (fun g hg => ⟨Nat.lt_of_lt_of_le (hF4 g hg).1 hb4.size, (hF4 g hg).2⟩)
                (fun W hW => hArr _ W wb sy _ n _ cur wt sv lv is[k].pl (hV4.kept (S := fun _ => False) (Kc.below hW) (colZ_agr _ _) (fun _ h => h.elim)) hpm (hcur k hk (Nat.le_refl _)) hpl hok (by omega))
                (fun p hp => ⟨(hfit.tos _ hmem p hp).1, by have := (hfit.tos _ hmem p hp).1; omega, by have := (hfit.tos _ hmem p hp).2; omega⟩) (by have := hfit.tl _ hmem; omega) (hfit.a _ hmem).1 (hfit.a _ hmem).2 (hfit.op _ hmem) (hfit.h56 _ hmem) (by omega) (fun p => by have := wait_len wt p; omega) (fun s hs => ⟨(arrive_ok hok hs).1, by have := (arrive_ok hok hs).2; omega⟩)
              have HB4 := hidden hb4
              have HV4 := hidden hV4
              have HKw := hidden hKw
              have HA := hidden hA
              have HN := hidden (And.intro hn hwl)
              have HOK := hidden hok
              have HCUR := hidden hcur
              have HTH := hidden hth
              have HBX := hidden hbx
              have hbx' : ((wq.alloc (.cells #[.int .i64 0, .int .i64 0, .int .i64 0, .int .i64 0, .complex .f64 0 0, .string ⟨#[]⟩, .slice none 0 0] 144)).setRow wq.heap.size (Wire.insC is[k] tv)).heap[wq.heap.size]? = some (.cells (Wire.insC is[k] tv) 144 (0, 0)) := hbx
              clear hIr hT hbx K4 hb4 hV4 hV hKw hA hn hwl hok hcur hth hI4 hF4 hpl hpm
              go_wp2_with (first | (refine wpList_store_row rfl 144 (.tmp 11) (.tmp 45) rfl wq.heap.size (Wire.insC is[k] tv) rfl rfl 144 #[.int .i64 0, .int .i64 0, .int .i64 0, .int .i64 0, .complex .f64 0 0, .string ⟨#[]⟩, .slice none 0 0] hzz Wire.sizeIns rfl h1c ?_) | (refine wpList_load_row rfl 144 (.tmp 11) rfl wq.heap.size rfl 144 (Wire.insC is[k] tv) (0, 0) _ hbx' Tryz.underlying144 rfl Wire.sizeIns ?_))
              clear hzz q0 q1 q2 q3 q4 q5 q6 h1c
              generalize (wq.alloc (.cells #[.int .i64 0, .int .i64 0, .int .i64 0, .int .i64 0, .complex .f64 0 0, .string ⟨#[]⟩, .slice none 0 0] 144)).setRow wq.heap.size (Wire.insC is[k] tv) = W4 at *
              have hdrop : is.drop k = is[k] :: is.drop (k + 1) := List.drop_eq_getElem_cons hk
              have HTH2 : Hid (thruV res oth (is.map (·.pl)) (is[k] :: is.drop (k + 1)) wt = R) := by rw [hid_iff, ← hdrop]; exact HTH.out
              have HSO : Hid ((stepV res oth (is.map (·.pl)) is[k] wt).1 = 0 → OkS fl.length (stepV res oth (is.map (·.pl)) is[k] wt).2.st ∧ OkW fl.length (stepV res oth (is.map (·.pl)) is[k] wt).2.wt ∧ (stepV res oth (is.map (·.pl)) is[k] wt).2.wt.length ≤ wt.length + 1) := fun h => stepV_ok res oth _ _ wt (hfit.op _ hmem) HOK.out h
              have HASC : Hid (∀ (j : Nat) (hj : j < is.length), k + 1 ≤ j → is[k].pl < is[j].pl) := fun j hj hkj => hfit.asc k j hj hkj
              refine hstep.mono ?_
              rintro e w5 ⟨rfl, k5, q5⟩
              have hbx5 := (k5.block wq.heap.size (by have := HBX.out.lt; omega) (colZ_new _ (Nat.le_refl _))).trans hbx'
              have y0 : w5.cell? ⟨wq.heap.size, 0, none⟩ = some (.int .i64 is[k].pl) := by rw [cell_of_row _ _ 0 _ _ _ hbx5]; rfl
              have y1 : w5.cell? ⟨wq.heap.size, 1, none⟩ = some (.int .i64 is[k].op) := by rw [cell_of_row _ _ 1 _ _ _ hbx5]; rfl
              have hAz : Agr w.heap.size col (colZ col' wq.heap.size) := HA.out.trans (colZ_agr _ _) hcz
              have hKF : Kc col ownT w w5 := (HKw.out.trans HA.out (Kc.below HB4.out)).trans (HA.out.trans (colZ_agr _ _) hcz) k5
              have HKF := hidden hKF
              have HIn : Hid (∀ h1 : k + 1 < is.length, w5.cell? ⟨ga, o + (k + 1) * 7, none⟩ = some (.int .i64 (is[k + 1]'h1).pl)) := fun h1 => by
                have hIr := HI.out.frame (G := F) (w' := w5) fun g hg => ⟨hg, hKF.block g (HF.out g hg).1 (HF.out g hg).2⟩
                obtain ⟨ga', o', cap', tv', hv', _, _, r0, _⟩ := hIr.at (k + 1) h1
                simp only [Value.slice.injEq, Option.some.injEq, Addr.mk.injEq, true_and, and_true] at hv'
                obtain ⟨⟨rfl, rfl⟩, rfl⟩ := hv'
                exact r0
              have hgo := vgoes is[k].op w5
              have HQ5 := hidden q5
              clear hstep hbx5 hbx' k5 q5 hKF hdrop
              have HPL : Hid (∀ h1 : k + 1 < is.length, (is[k + 1]'h1).pl ∈ is.map (·.pl) ∧ 0 ≤ (is[k + 1]'h1).pl ∧ (is[k + 1]'h1).pl ≤ 1000000) := fun h1 => ⟨List.mem_map.2 ⟨_, List.getElem_mem h1, rfl⟩, hfit.pl _ (List.getElem_mem h1)⟩
              generalize is[k] = I at *
              obtain ⟨SV, hSV⟩ : ∃ SV, SV = stepV res oth (is.map (·.pl)) I wt := ⟨_, rfl⟩
              rw [← hSV] at HSO HQ5 ⊢
              have HSV := hidden hSV
              clear hSV
              by_cases h0 : SV.1 = 0
              · have h0i : ((SV.1 : Nat) : Int) = 0 := by omega
                obtain ⟨c5, sv5, lv5, hA5, hV5⟩ := HQ5.out h0
                obtain ⟨ho1, ho2, ho3⟩ := HSO.out h0
                have hA05 : Agr w.heap.size col c5 := (HA.out.trans (colZ_agr _ _) hcz).trans hA5 (Nat.le_trans hcz HB4.out.size)
                rw [h0i]
                go_wp2_with fail
                refine hgo.mono ?_
                rintro e w6 ⟨rfl, hw6⟩
                obtain rfl := hw6.symm
                cases ho : onV I.op
                · have HR2 : Hid (RunR col w w5 wb u m res sy (w.heap.size + 1) oth is fl.length R (k + 1)) := ⟨HKF.out, c5, n + 1, I.pl, SV.2.wt, sv5, lv5, hA05, hV5.base, by have := HN.out.1; omega, by have := HN.out.2; omega, ho2, HASC.out, by
                    rw [HSV.out, ← thru_off (by rw [← HSV.out]; exact h0) ho]
                    exact HTH2.out⟩
                  clear hA5 hV5 ho1 ho2 ho3 hA05 hgo h0 h0i
                  go_wp2
                  go_roundg (is.length - (k + 1))
                  case measure => have := HGK.out; omega
                  case rel => exact ⟨k + 1, by have := HGK.out; omega, by go_num, HR2.out⟩
                · by_cases hlast : k + 1 = is.length
                  · have hb : (((k : Int) + 1) == ((is.length : Nat) : Int)) = true := by
                      rw [beq_iff_eq]
                      omega
                    have HR2 : Hid (R = (10, I.pl)) := by
                      rw [hid_iff, ← HTH2.out, List.drop_eq_nil_of_le (by omega)]
                      exact thru_end (by rw [← HSV.out]; exact h0) ho
                    clear hA5 hV5 ho1 ho2 ho3 hA05 hgo h0 h0i hlast
                    go_wp2_with fail
                    go_quiet (fail)
                    go_wp2
                    go_ret2
                    rw [HR2.out]
                    exact ⟨rfl, HKF.out.trans (Agr.refl _ _) (kc_drewN _ _ _ _)⟩
                  · have hk1 : k + 1 < is.length := by omega
                    have hk1i : (k : Int) + 1 < ((is.length : Nat) : Int) := by omega
                    have hb : (((k : Int) + 1) == ((is.length : Nat) : Int)) = false := by
                      rw [beq_eq_false_iff_ne]
                      omega
                    have z0 := HIn.out hk1
                    obtain ⟨hpm, hp0, hp1⟩ := HPL.out hk1
                    have hlt := HASC.out (k + 1) hk1 (Nat.le_refl _)
                    have HR1 : Hid (thruV res oth (is.map (·.pl)) (is.drop (k + 1)) (goV SV.2 (is[k + 1]'hk1).pl []).wt = R) := by
                      rw [hid_iff, ← HTH2.out, List.drop_eq_getElem_cons hk1, thru_on (by rw [← HSV.out]; exact h0) ho, HSV.out]
                    have HASC2 : Hid (∀ (j : Nat) (hj : j < is.length), k + 1 ≤ j → I.pl < is[j].pl) := HASC
                    generalize (is[k + 1]'hk1).pl = pn at *
                    have hgt := vgo hV5 pn hpm hlt (by omega) (.slice none 0 0) [] (.inl ⟨rfl, none, 0, rfl⟩) ho1.1 (by simp) (by have := ho1.2; omega) (by have := HN.out.1; omega) (by have := wait_len SV.2.wt pn; have := HN.out.2; omega)
                    have HGV := hidden (goV_ok ho1 ho2 pn)
                    have HO := hidden ho3
                    have HA05 := hidden hA05
                    clear hA5 hV5 ho1 ho2 ho3 hA05 hgo h0 h0i hlast hpm
                    go_wp2_with fail
                    refine hgt.mono ?_
                    rintro e w6 ⟨rfl, k6, c6, sv6, lv6, hA6, hV6⟩
                    have HR2 : Hid (RunR col w w6 wb u m res sy (w.heap.size + 1) oth is fl.length R (k + 1)) := ⟨HKF.out.trans HA05.out k6, c6, n + 1 + 1, I.pl, (goV SV.2 pn []).wt, sv6, lv6, HA05.out.trans hA6 HKF.out.size, hV6.base, by have := HN.out.1; omega, by have := HN.out.2; have := HO.out; have := HGV.out.2.2; omega, HGV.out.2.1, HASC2.out, HR1.out⟩
                    clear hgt k6 hA6 hV6 z0
                    go_wp2
                    go_roundg (is.length - (k + 1))
                    case measure => have := HGK.out; omega
                    case rel => exact ⟨k + 1, by have := HGK.out; omega, by go_num, HR2.out⟩
              · have h0i : ¬ ((SV.1 : Nat) : Int) = 0 := by omega
                have HR2 : Hid (R = (SV.1, I.pl)) := by
                  rw [hid_iff, ← HTH2.out, HSV.out]
                  exact thru_bad (by rw [← HSV.out]; exact h0)
                clear hgo h0
                go_wp2_with fail
                go_quiet (fail)
                go_wp2
                go_ret2
                rw [HR2.out]
                exact ⟨rfl, HKF.out.trans (Agr.refl _ _) (kc_drewN _ _ _ _)⟩
            · have hki : ¬ (k : Int) < ((is.length : Nat) : Int) := by omega
              have HR2 : Hid (R = (0, 0)) := by
                rw [hid_iff, ← hth, List.drop_eq_nil_of_le (by omega), thruV]
              have HKw := hidden hKw
              clear hKw hA hV hn hwl hok hcur hth
              go_wp2
              go_ret2
              rw [HR2.out]
              exact ⟨rfl, HKw.out⟩
end Go.Proofs.YtdeckknfolaaeaaGreatDoor

namespace Go.Proofs.YtdeckknfolaaeaaGreatDoor
open Go.RowKit Go.Maps

theorem str_inj' {a b : List UInt8} (h : str a = str b) : a = b := by
  have := congrArg (fun s => s.data.toList) h
  simpa [str] using this
theorem map_str_inj : ∀ {a b : List (List UInt8)}, a.map str = b.map str → a = b
  | [], [], _ => rfl
  | [], _ :: _, h => by simp at h
  | _ :: _, [], h => by simp at h
  | x :: a, y :: b, h => by
    simp only [List.map_cons, List.cons.injEq] at h
    rw [str_inj' h.1, map_str_inj h.2]
theorem cells_getD {w : World} {b o : Nat} {xs : List (List UInt8)} (h : ∀ (j : Nat) x, xs[j]? = some x → w.cell? ⟨b, o + j, none⟩ = some (.string (str x))) : ∀ j, j < (xs.map str).length → w.cell? ⟨b, o + j, none⟩ = some (.string ((xs.map str).getD j ByteArray.empty)) := fun j hj => by
  rw [List.length_map] at hj
  rw [h j _ (List.getElem?_eq_getElem hj)]
  simp [hj]
theorem vequal (v1 v2 : Value) (xs ys : List (List UInt8)) (w : World) (h1 : StrRow w v1 xs) (h2 : StrRow w v2 ys) (hl1 : xs.length ≤ 1000000) (hl2 : ys.length ≤ 1000000) :
    Calls Tryz.prog 205 #[v1, v2] w fun e w' => e = .returned (.bool (decide (xs = ys))) ∧ ∃ q, w' = w.drewN q := by
  obtain ⟨a1, c1, rfl⟩ := h1.shape
  obtain ⟨a2, c2, rfl⟩ := h2.shape
  by_cases hl : xs.length = ys.length
  · rcases h1 with ⟨rfl, -⟩ | ⟨b1, o1, k1, e1, -, -, q1⟩
    · have hy : ys = [] := List.length_eq_zero_iff.1 hl.symm
      subst hy
      refine (Tryz.slices_Equal_string_empty a1 a2 c1 0 c2 w (by omega)).mono ?_
      rintro e w' ⟨rfl, rfl⟩
      exact ⟨rfl, 0, rfl⟩
    · rcases h2 with ⟨rfl, -⟩ | ⟨b2, o2, k2, e2, -, -, q2⟩
      · have hx : xs = [] := List.length_eq_zero_iff.1 hl
        subst hx
        refine (Tryz.slices_Equal_string_empty a1 a2 c1 0 c2 w (by omega)).mono ?_
        rintro e w' ⟨rfl, rfl⟩
        exact ⟨rfl, 0, rfl⟩
      · simp only [Value.slice.injEq, true_and] at e1 e2
        obtain ⟨rfl, rfl⟩ := e1
        obtain ⟨rfl, rfl⟩ := e2
        refine (Tryz.slices_Equal_string b1 o1 xs.length c1 b2 o2 ys.length c2 (xs.map str) (ys.map str) w (by simp) (by simp) (by omega) (by omega) (cells_getD q1) (cells_getD q2)).mono ?_
        rintro e w' ⟨rfl, hq⟩
        refine ⟨?_, hq⟩
        rw [List.take_of_length_le (by simp), List.take_of_length_le (by simp)]
        by_cases h : xs = ys
        · rw [decide_eq_true h, decide_eq_true (congrArg _ h)]
        · rw [decide_eq_false h, decide_eq_false (fun e => h (map_str_inj e))]
  · refine (Tryz.slices_Equal_string_lens a1 a2 xs.length c1 ys.length c2 w hl).mono ?_
    rintro e w' ⟨rfl, rfl⟩
    exact ⟨by rw [decide_eq_false (fun h => hl (congrArg _ h))], 0, rfl⟩
end Go.Proofs.YtdeckknfolaaeaaGreatDoor
