/-
  The package's Same, and what it calls.
-/
import Derived.Deep.LoopGhost
import Derived.Test.YtalbjbahgbkifaaGreatIfaceMem
namespace Go.Proofs.YtalbjbahgbkifaaGreat
open Go.RowKit

theorem take_both {α : Type} {xs ys : List α} {k : Nat} (hx : k < xs.length) (hy : k < ys.length) (h : xs.take k = ys.take k) (he : xs[k] = ys[k]) : xs.take (k + 1) = ys.take (k + 1) := by
  rw [List.take_succ_eq_append_getElem hx, List.take_succ_eq_append_getElem hy, h, he]
set_option maxHeartbeats 2000000 in
set_option maxRecDepth 1000000 in
theorem equalS (F : Nat → Prop) (v v' : Value) (xs ys : List (List UInt8)) (w : World) (h : TxR F w v xs) (h' : TxR F w v' ys) (_hl : xs.length ≤ 8796093022208) (_hl' : ys.length ≤ 8796093022208) : Calls Tryz.prog 81 #[v, v'] w (BoolE (decide (xs = ys)) w) := by
  obtain ⟨va, vc, hv⟩ := h.shape
  obtain ⟨ua, uc, hu⟩ := h'.shape
  by_cases hn : xs.length = ys.length
  · have hn' : ((xs.length : Int) != (ys.length : Int)) = false := by simp; omega
    have h1 := hidden h
    have h2 := hidden h'
    clear h h'
    subst hv hu
    go_enter Tryz.func81, Tryz.ntmps81
    go_wp2
    go_loopg [13] xs.length (fun g i wr => ∃ (k n : Nat), g + k = xs.length ∧ i = .int .i64 (k : Int) ∧ Hid (xs.take k = ys.take k) ∧ wr = w.drewN n)
    case atStart => exact ⟨0, 0, rfl, rfl, rfl, rfl⟩
    case round =>
      obtain ⟨k, n, hg, rfl, ht, rfl⟩ := hrel
      by_cases hk : k < xs.length
      · have hky : k < ys.length := by omega
        obtain ⟨b1, o1, c1, e1, _, q1⟩ := h1.out.at k hk
        obtain ⟨b2, o2, c2, e2, _, q2⟩ := h2.out.at k hky
        simp only [Value.slice.injEq, true_and] at e1 e2
        obtain ⟨rfl, rfl⟩ := e1
        obtain ⟨rfl, rfl⟩ := e2
        have hki : (k : Int) < (xs.length : Int) := by omega
        have hkj : (k : Int) < (ys.length : Int) := by omega
        by_cases he : xs[k] = ys[k]
        · have HT : Hid (xs.take (k + 1) = ys.take (k + 1)) := take_both hk hky ht.out he
          rw [← he] at q2
          generalize xs[k] = x at *
          clear he ht hn
          go_wp2
          go_region
          go_wp2
          go_roundg (xs.length - (k + 1))
          case measure => omega
          case rel => exact ⟨k + 1, n + 1, by omega, by go_num, HT, rfl⟩
        · have HE : Hid (decide (xs = ys) = false) := decide_eq_false (fun e => he (by subst e; rfl))
          have hne : ((str xs[k]).toList == (str ys[k]).toList) = false := by
            rw [eq_is, decide_eq_false he]
          have hne' : ((str xs[k]).toList != (str ys[k]).toList) = true := by simp only [bne, hne]; rfl
          clear he ht hn
          generalize xs[k] = x at *
          generalize ys[k] = y at *
          go_wp2
          go_region
          go_wp2
          go_ret
          exact ⟨(by rw [HE.out]; first | done | rfl), n + 1, rfl⟩
      · have HE : Hid (decide (xs = ys) = true) := by
          refine decide_eq_true ?_
          have := ht.out
          rwa [List.take_of_length_le (by omega), List.take_of_length_le (by omega)] at this
        have hki : ¬ (k : Int) < (xs.length : Int) := by omega
        have hkj : ¬ (k : Int) < (ys.length : Int) := by omega
        clear ht hn
        go_wp2
        go_ret
        exact ⟨(by rw [HE.out]; first | done | rfl), n, rfl⟩
  · have hn' : ((xs.length : Int) != (ys.length : Int)) = true := by simp; omega
    have HE : Hid (decide (xs = ys) = false) := decide_eq_false (fun e => hn (by rw [e]))
    clear hn h h'
    subst hv hu
    go_enter Tryz.func81, Tryz.ntmps81
    go_wp2
    go_ret
    exact ⟨(by rw [HE.out]; first | done | rfl), 0, rfl⟩
set_option maxHeartbeats 2000000 in
set_option maxRecDepth 1000000 in
theorem sameCase (F : Nat → Prop) (c d : Cs) (fv gv : Value) (w : World) (h : TxR F w fv c.2) (h' : TxR F w gv d.2) (hF : ∀ g, F g → g < w.heap.size) (hc : CsOk c) (hd : CsOk d) : Calls Tryz.prog 49 #[csv c fv, csv d gv] w (BoolB (decide (c = d)) w) := by
  obtain ⟨n, fs⟩ := c
  obtain ⟨n2, fs2⟩ := d
  obtain ⟨fa, fc, rfl⟩ := h.shape
  obtain ⟨fa2, fc2, rfl⟩ := h'.shape
  have hb0 : Below w.heap.size w ((w.alloc (.cells #[.string (str n), .slice fa fs.length fc] 81)).alloc (.cells #[.string (str n2), .slice fa2 fs2.length fc2] 81)) := ((Below.refl _ _).alloc (Nat.le_refl _) _).alloc (by simp) _
  have hq := equalS F _ _ fs fs2 ((w.alloc (.cells #[.string (str n), .slice fa fs.length fc] 81)).alloc (.cells #[.string (str n2), .slice fa2 fs2.length fc2] 81)) (h.below hb0 hF) (h'.below hb0 hF) hc.2.1 hd.2.1
  unfold csv
  simp only at hq ⊢
  have he := eq_is n n2
  clear h h' hc hd
  by_cases hn : n = n2
  · rw [decide_eq_true hn] at he
    have HD : Hid (decide ((n, fs) = (n2, fs2)) = decide (fs = fs2)) := by
      rw [hid_iff]
      subst hn
      simp
    generalize decide (fs = fs2) = r at *
    clear hn
    go_enter Tryz.func49, Tryz.ntmps49
    go_wp2_with fail
    refine hq.mono ?_
    rintro e w1 ⟨rfl, k, rfl⟩
    have hb1 := below_drewN hb0 k
    go_wp2
    go_ret
    exact ⟨(by rw [HD.out]; first | done | rfl), hb1⟩
  · rw [decide_eq_false hn] at he
    have HD : Hid (decide ((n, fs) = (n2, fs2)) = false) := decide_eq_false (fun e => hn (congrArg Prod.fst e))
    clear hn hq
    go_enter Tryz.func49, Tryz.ntmps49
    go_wp2
    go_ret
    exact ⟨(by rw [HD.out]; first | done | rfl), hb0⟩
set_option maxHeartbeats 2000000 in
set_option maxRecDepth 1000000 in
theorem equalFunc (F : Nat → Prop) (v v' : Value) (xs ys : List Cs) (w : World) (h : CsR F w v xs) (h' : CsR F w v' ys) (hF : ∀ g, F g → g < w.heap.size) (_hl : xs.length ≤ 3518437208883) (_hl' : ys.length ≤ 3518437208883) (hx : ∀ c ∈ xs, CsOk c) (hy : ∀ c ∈ ys, CsOk c) :
    Calls Tryz.prog 48 #[v, v', .func (.func 49) #[] #[]] w (BoolB (decide (xs = ys)) w) := by
  obtain ⟨va, vc, hv⟩ := h.shape
  obtain ⟨ua, uc, hu⟩ := h'.shape
  by_cases hn : xs.length = ys.length
  · have hn' : ((xs.length : Int) != (ys.length : Int)) = false := by simp; omega
    have h1 := hidden h
    have h2 := hidden h'
    have h3 := hidden hx
    have h4 := hidden hy
    clear h h' hx hy
    subst hv hu
    go_enter Tryz.func48, Tryz.ntmps48
    go_wp2
    go_loopg [17] xs.length (fun g i wr => ∃ (k : Nat), g + k = xs.length ∧ i = .int .i64 (k : Int) ∧ Hid (xs.take k = ys.take k) ∧ Below w.heap.size w wr)
    case atStart => exact ⟨0, rfl, rfl, rfl, Below.refl _ _⟩
    case round =>
      obtain ⟨k, hg, rfl, ht, hbl⟩ := hrel
      by_cases hk : k < xs.length
      · have hky : k < ys.length := by omega
        obtain ⟨b1, o1, c1, fv, e1, _, _, hT1, q1, r1⟩ := (h1.out.below hbl hF).at k hk
        obtain ⟨b2, o2, c2, gv, e2, _, _, hT2, q2, r2⟩ := (h2.out.below hbl hF).at k hky
        simp only [Value.slice.injEq, true_and] at e1 e2
        obtain ⟨rfl, rfl⟩ := e1
        obtain ⟨rfl, rfl⟩ := e2
        have hki : (k : Int) < (xs.length : Int) := by omega
        have hkj : (k : Int) < (ys.length : Int) := by omega
        have hC1 := h3.out _ (List.getElem_mem hk)
        have hC2 := h4.out _ (List.getElem_mem hky)
        obtain ⟨fa, fc, rfl⟩ := hT1.shape
        obtain ⟨fa2, fc2, rfl⟩ := hT2.shape
        have HE0 : Hid (xs[k] = ys[k] → xs.take (k + 1) = ys.take (k + 1)) := take_both hk hky ht.out
        have HE1 : Hid (¬ xs[k] = ys[k] → decide (xs = ys) = false) := fun he => decide_eq_false (fun e => he (by subst e; rfl))
        rcases hxk : xs[k] with ⟨n, fs⟩
        rcases hyk : ys[k] with ⟨n2, fs2⟩
        rw [hxk] at q1 r1 hT1 hC1 HE0 HE1
        rw [hyk] at q2 r2 hT2 hC2 HE0 HE1
        simp only at q1 r1 q2 r2 hT1 hT2
        have hb0 : Below wr.heap.size wr ((wr.alloc (.cells #[.string (str n), .slice fa fs.length fc] 81)).alloc (.cells #[.string (str n2), .slice fa2 fs2.length fc2] 81)) := ((Below.refl _ _).alloc (Nat.le_refl _) _).alloc (by simp) _
        have hFr : ∀ g, F g → g < wr.heap.size := fun g hg => Nat.lt_of_lt_of_le (hF g hg) hbl.size
        have hs := sameCase F (n, fs) (n2, fs2) _ _ ((wr.alloc (.cells #[.string (str n), .slice fa fs.length fc] 81)).alloc (.cells #[.string (str n2), .slice fa2 fs2.length fc2] 81)) (hT1.below hb0 hFr) (hT2.below hb0 hFr) (fun g hg => Nat.lt_of_lt_of_le (hFr g hg) hb0.size) hC1 hC2
        unfold csv at hs
        simp only at hs
        have hb1 := below_trans hbl hb0
        have q2a := cell_more q2 (.cells #[.string (str n), .slice fa fs.length fc] 81)
        have r2a := cell_more r2 (.cells #[.string (str n), .slice fa fs.length fc] 81)
        by_cases he : (n, fs) = (n2, fs2)
        · rw [decide_eq_true he] at hs
          have HT : Hid (xs.take (k + 1) = ys.take (k + 1)) := HE0.out he
          clear HE0 HE1 hxk hyk hT1 hT2 hC1 hC2 ht he hn hFr
          go_wp2_with fail
          refine hs.mono ?_
          rintro e w5 ⟨rfl, hb5⟩
          have hb6 := below_trans hb1 hb5
          clear hs
          go_wp2
          go_roundg (xs.length - (k + 1))
          case measure => omega
          case rel => exact ⟨k + 1, by omega, by go_num, HT, hb6⟩
        · rw [decide_eq_false he] at hs
          have HE : Hid (decide (xs = ys) = false) := HE1.out he
          clear HE0 HE1 hxk hyk hT1 hT2 hC1 hC2 ht he hn hFr
          go_wp2_with fail
          refine hs.mono ?_
          rintro e w5 ⟨rfl, hb5⟩
          have hb6 := below_trans hb1 hb5
          clear hs
          go_wp2
          go_ret
          exact ⟨(by rw [HE.out]; first | done | rfl), hb6⟩
      · have HE : Hid (decide (xs = ys) = true) := by
          refine decide_eq_true ?_
          have := ht.out
          rwa [List.take_of_length_le (by omega), List.take_of_length_le (by omega)] at this
        have hki : ¬ (k : Int) < (xs.length : Int) := by omega
        have hkj : ¬ (k : Int) < (ys.length : Int) := by omega
        clear ht hn
        go_wp2
        go_ret
        exact ⟨(by rw [HE.out]; first | done | rfl), hbl⟩
  · have hn' : ((xs.length : Int) != (ys.length : Int)) = true := by simp; omega
    have HE : Hid (decide (xs = ys) = false) := decide_eq_false (fun e => hn (by rw [e]))
    clear hn h h'
    subst hv hu
    go_enter Tryz.func48, Tryz.ntmps48
    go_wp2
    go_ret
    exact ⟨(by rw [HE.out]; first | done | rfl), Below.refl _ _⟩
set_option maxHeartbeats 4000000 in
set_option maxRecDepth 1000000 in
theorem same7 (F : Nat → Prop) (x y : It) (cv dv : Value) (w : World) (h : CsR F w cv x.cases) (h' : CsR F w dv y.cases) (hF : ∀ g, F g → g < w.heap.size) (hx : ItOk x) (hy : ItOk y) : Calls Tryz.prog 15 #[itv x cv, itv y dv] w (BoolB (sameI x y) w) := by
  obtain ⟨k1, n1, t1, c1⟩ := x
  obtain ⟨k2, n2, t2, c2⟩ := y
  obtain ⟨ca, cc, rfl⟩ := h.shape
  obtain ⟨ca2, cc2, rfl⟩ := h'.shape
  have hb0 : Below w.heap.size w ((w.alloc (.cells #[.int .i64 k1, .string (str n1), .string (str t1), .slice ca c1.length cc] 34)).alloc (.cells #[.int .i64 k2, .string (str n2), .string (str t2), .slice ca2 c2.length cc2] 34)) := ((Below.refl _ _).alloc (Nat.le_refl _) _).alloc (by simp) _
  obtain ⟨_, _, _, _, hx1, hx2⟩ := hx
  obtain ⟨_, _, _, _, hy1, hy2⟩ := hy
  have hq := equalFunc F _ _ c1 c2 ((w.alloc (.cells #[.int .i64 k1, .string (str n1), .string (str t1), .slice ca c1.length cc] 34)).alloc (.cells #[.int .i64 k2, .string (str n2), .string (str t2), .slice ca2 c2.length cc2] 34)) (h.below hb0 hF) (h'.below hb0 hF) (fun g hg => Nat.lt_of_lt_of_le (hF g hg) hb0.size) hx1 hy1 hx2 hy2
  unfold itv sameI
  simp only at hq ⊢
  have he := eq_is n1 n2
  have hf := eq_is t1 t2
  clear h h' hx1 hx2 hy1 hy2
  by_cases hk : k1 = k2
  · subst hk
    by_cases hn : n1 = n2
    · rw [decide_eq_true hn] at he
      by_cases ht : t1 = t2
      · rw [decide_eq_true ht] at hf
        have HD : Hid ((decide (k1 = k1) && (decide (n1 = n2) && (decide (t1 = t2) && decide (c1 = c2)))) = decide (c1 = c2)) := by
          rw [hid_iff, decide_eq_true hn, decide_eq_true ht, decide_eq_true rfl]
          simp
        rw [HD.out]
        generalize decide (c1 = c2) = r at *
        clear hn ht HD
        go_enter Tryz.func15, Tryz.ntmps15
        go_wp2_with fail
        refine hq.mono ?_
        rintro e w1 ⟨rfl, hb1⟩
        have hb2 := below_trans hb0 hb1
        go_wp2
        go_ret
        exact ⟨rfl, hb2⟩
      · rw [decide_eq_false ht] at hf
        have HD : Hid ((decide (k1 = k1) && (decide (n1 = n2) && (decide (t1 = t2) && decide (c1 = c2)))) = false) := by
          rw [hid_iff, decide_eq_false ht]
          simp
        rw [HD.out]
        clear hn ht HD hq
        go_enter Tryz.func15, Tryz.ntmps15
        go_wp2
        go_ret
        exact ⟨rfl, hb0⟩
    · rw [decide_eq_false hn] at he
      have HD : Hid ((decide (k1 = k1) && (decide (n1 = n2) && (decide (t1 = t2) && decide (c1 = c2)))) = false) := by
        rw [hid_iff, decide_eq_false hn]
        simp
      rw [HD.out]
      clear hn HD hq hf
      go_enter Tryz.func15, Tryz.ntmps15
      go_wp2
      go_ret
      exact ⟨rfl, hb0⟩
  · have hkb : (k1 == k2) = false := by rw [beq_eq_false_iff_ne]; exact hk
    rw [decide_eq_false hk, Bool.false_and]
    clear hk hq hf he
    go_enter Tryz.func15, Tryz.ntmps15
    go_wp2
    go_ret
    exact ⟨rfl, hb0⟩
end Go.Proofs.YtalbjbahgbkifaaGreat
