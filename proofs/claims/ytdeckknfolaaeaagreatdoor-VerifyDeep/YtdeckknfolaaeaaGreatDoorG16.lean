/-
  The package's Same, and what it calls.
  And: The package's Breaks.
-/
import Derived.Deep.LoopGhost
import Derived.Test.YtdeckknfolaaeaaGreatDoorG10
import Derived.Deep.CutRange
import Derived.Deep.RegionHeld3
import Derived.Deep.RegionWith
import Derived.Maps.OwnSet
import Derived.Maps.OwnOps
import Derived.Test.YtdeckknfolaaeaaGreatDoorG15
import Derived.Test.YtdeckknfolaaeaaGreatDoorG04
namespace Go.Proofs.YtdeckknfolaaeaaGreatDoor
open Go.RowKit

theorem take_both {α : Type} {xs ys : List α} {k : Nat} (hx : k < xs.length) (hy : k < ys.length) (h : xs.take k = ys.take k) (he : xs[k] = ys[k]) : xs.take (k + 1) = ys.take (k + 1) := by
  rw [List.take_succ_eq_append_getElem hx, List.take_succ_eq_append_getElem hy, h, he]
set_option maxHeartbeats 2000000 in
set_option maxRecDepth 1000000 in
theorem equalS (F : Nat → Prop) (v v' : Value) (xs ys : List (List UInt8)) (w : World) (h : TxR F w v xs) (h' : TxR F w v' ys) (_hl : xs.length ≤ 8796093022208) (_hl' : ys.length ≤ 8796093022208) : Calls Tryz.prog 205 #[v, v'] w (BoolE (decide (xs = ys)) w) := by
  obtain ⟨va, vc, hv⟩ := h.shape
  obtain ⟨ua, uc, hu⟩ := h'.shape
  by_cases hn : xs.length = ys.length
  · have hn' : ((xs.length : Int) != (ys.length : Int)) = false := by simp; omega
    have h1 := hidden h
    have h2 := hidden h'
    clear h h'
    subst hv hu
    go_enter Tryz.func205, Tryz.ntmps205
    go_wp2
    go_loopg [13] xs.length (fun g i wr => ∃ (k n : Nat), g + k = xs.length ∧ i = .int .i64 (k : Int) ∧ Hid (xs.take k = ys.take k) ∧ wr = w.drewN n)
    case atStart => exact ⟨0, 0, rfl, rfl, rfl, rfl⟩
    case round =>
      obtain ⟨k, n, hg, rfl, ht, rfl⟩ := hrel
      by_cases hk : k < xs.length
      · have hky : k < ys.length := by omega
        obtain ⟨b1, o1, c1, e1, _, q1⟩ := h1.out.at k hk
        obtain ⟨b2, o2, c2, e2, _, q2⟩ := h2.out.at k hky
        simp only [Value.slice.injEq, true_and] at e1 e2
        obtain ⟨rfl, rfl⟩ := e1
        obtain ⟨rfl, rfl⟩ := e2
        have hki : (k : Int) < (xs.length : Int) := by omega
        have hkj : (k : Int) < (ys.length : Int) := by omega
        by_cases he : xs[k] = ys[k]
        · have HT : Hid (xs.take (k + 1) = ys.take (k + 1)) := take_both hk hky ht.out he
          rw [← he] at q2
          generalize xs[k] = x at *
          clear he ht hn
          go_wp2
          go_region
          go_wp2
          go_roundg (xs.length - (k + 1))
          case measure => omega
          case rel => exact ⟨k + 1, n + 1, by omega, by go_num, HT, rfl⟩
        · have HE : Hid (decide (xs = ys) = false) := decide_eq_false (fun e => he (by subst e; rfl))
          have hne : ((str xs[k]).toList == (str ys[k]).toList) = false := by
            rw [eq_is, decide_eq_false he]
          have hne' : ((str xs[k]).toList != (str ys[k]).toList) = true := by simp only [bne, hne]; rfl
          clear he ht hn
          generalize xs[k] = x at *
          generalize ys[k] = y at *
          go_wp2
          go_region
          go_wp2
          go_ret
          exact ⟨(by rw [HE.out]; first | done | rfl), n + 1, rfl⟩
      · have HE : Hid (decide (xs = ys) = true) := by
          refine decide_eq_true ?_
          have := ht.out
          rwa [List.take_of_length_le (by omega), List.take_of_length_le (by omega)] at this
        have hki : ¬ (k : Int) < (xs.length : Int) := by omega
        have hkj : ¬ (k : Int) < (ys.length : Int) := by omega
        clear ht hn
        go_wp2
        go_ret
        exact ⟨(by rw [HE.out]; first | done | rfl), n, rfl⟩
  · have hn' : ((xs.length : Int) != (ys.length : Int)) = true := by simp; omega
    have HE : Hid (decide (xs = ys) = false) := decide_eq_false (fun e => hn (by rw [e]))
    clear hn h h'
    subst hv hu
    go_enter Tryz.func205, Tryz.ntmps205
    go_wp2
    go_ret
    exact ⟨(by rw [HE.out]; first | done | rfl), 0, rfl⟩
set_option maxHeartbeats 2000000 in
set_option maxRecDepth 1000000 in
theorem sameCase (F : Nat → Prop) (c d : Cs) (fv gv : Value) (w : World) (h : TxR F w fv c.2) (h' : TxR F w gv d.2) (hF : ∀ g, F g → g < w.heap.size) (hc : CsOk c) (hd : CsOk d) : Calls Tryz.prog 167 #[csv c fv, csv d gv] w (BoolB (decide (c = d)) w) := by
  obtain ⟨n, fs⟩ := c
  obtain ⟨n2, fs2⟩ := d
  obtain ⟨fa, fc, rfl⟩ := h.shape
  obtain ⟨fa2, fc2, rfl⟩ := h'.shape
  have hb0 : Below w.heap.size w ((w.alloc (.cells #[.string (str n), .slice fa fs.length fc] 58)).alloc (.cells #[.string (str n2), .slice fa2 fs2.length fc2] 58)) := ((Below.refl _ _).alloc (Nat.le_refl _) _).alloc (by simp) _
  have hq := equalS F _ _ fs fs2 ((w.alloc (.cells #[.string (str n), .slice fa fs.length fc] 58)).alloc (.cells #[.string (str n2), .slice fa2 fs2.length fc2] 58)) (h.below hb0 hF) (h'.below hb0 hF) hc.2.1 hd.2.1
  unfold csv
  simp only at hq ⊢
  have he := eq_is n n2
  clear h h' hc hd
  by_cases hn : n = n2
  · rw [decide_eq_true hn] at he
    have HD : Hid (decide ((n, fs) = (n2, fs2)) = decide (fs = fs2)) := by
      rw [hid_iff]
      subst hn
      simp
    generalize decide (fs = fs2) = r at *
    clear hn
    go_enter Tryz.func167, Tryz.ntmps167
    go_wp2_with fail
    refine hq.mono ?_
    rintro e w1 ⟨rfl, k, rfl⟩
    have hb1 := below_drewN hb0 k
    go_wp2
    go_ret
    exact ⟨(by rw [HD.out]; first | done | rfl), hb1⟩
  · rw [decide_eq_false hn] at he
    have HD : Hid (decide ((n, fs) = (n2, fs2)) = false) := decide_eq_false (fun e => hn (congrArg Prod.fst e))
    clear hn hq
    go_enter Tryz.func167, Tryz.ntmps167
    go_wp2
    go_ret
    exact ⟨(by rw [HD.out]; first | done | rfl), hb0⟩
set_option maxHeartbeats 2000000 in
set_option maxRecDepth 1000000 in
theorem equalFunc (F : Nat → Prop) (v v' : Value) (xs ys : List Cs) (w : World) (h : CsR F w v xs) (h' : CsR F w v' ys) (hF : ∀ g, F g → g < w.heap.size) (_hl : xs.length ≤ 3518437208883) (_hl' : ys.length ≤ 3518437208883) (hx : ∀ c ∈ xs, CsOk c) (hy : ∀ c ∈ ys, CsOk c) :
    Calls Tryz.prog 166 #[v, v', .func (.func 167) #[] #[]] w (BoolB (decide (xs = ys)) w) := by
  obtain ⟨va, vc, hv⟩ := h.shape
  obtain ⟨ua, uc, hu⟩ := h'.shape
  by_cases hn : xs.length = ys.length
  · have hn' : ((xs.length : Int) != (ys.length : Int)) = false := by simp; omega
    have h1 := hidden h
    have h2 := hidden h'
    have h3 := hidden hx
    have h4 := hidden hy
    clear h h' hx hy
    subst hv hu
    go_enter Tryz.func166, Tryz.ntmps166
    go_wp2
    go_loopg [17] xs.length (fun g i wr => ∃ (k : Nat), g + k = xs.length ∧ i = .int .i64 (k : Int) ∧ Hid (xs.take k = ys.take k) ∧ Below w.heap.size w wr)
    case atStart => exact ⟨0, rfl, rfl, rfl, Below.refl _ _⟩
    case round =>
      obtain ⟨k, hg, rfl, ht, hbl⟩ := hrel
      by_cases hk : k < xs.length
      · have hky : k < ys.length := by omega
        obtain ⟨b1, o1, c1, fv, e1, _, _, hT1, q1, r1⟩ := (h1.out.below hbl hF).at k hk
        obtain ⟨b2, o2, c2, gv, e2, _, _, hT2, q2, r2⟩ := (h2.out.below hbl hF).at k hky
        simp only [Value.slice.injEq, true_and] at e1 e2
        obtain ⟨rfl, rfl⟩ := e1
        obtain ⟨rfl, rfl⟩ := e2
        have hki : (k : Int) < (xs.length : Int) := by omega
        have hkj : (k : Int) < (ys.length : Int) := by omega
        have hC1 := h3.out _ (List.getElem_mem hk)
        have hC2 := h4.out _ (List.getElem_mem hky)
        obtain ⟨fa, fc, rfl⟩ := hT1.shape
        obtain ⟨fa2, fc2, rfl⟩ := hT2.shape
        have HE0 : Hid (xs[k] = ys[k] → xs.take (k + 1) = ys.take (k + 1)) := take_both hk hky ht.out
        have HE1 : Hid (¬ xs[k] = ys[k] → decide (xs = ys) = false) := fun he => decide_eq_false (fun e => he (by subst e; rfl))
        rcases hxk : xs[k] with ⟨n, fs⟩
        rcases hyk : ys[k] with ⟨n2, fs2⟩
        rw [hxk] at q1 r1 hT1 hC1 HE0 HE1
        rw [hyk] at q2 r2 hT2 hC2 HE0 HE1
        simp only at q1 r1 q2 r2 hT1 hT2
        have hb0 : Below wr.heap.size wr ((wr.alloc (.cells #[.string (str n), .slice fa fs.length fc] 58)).alloc (.cells #[.string (str n2), .slice fa2 fs2.length fc2] 58)) := ((Below.refl _ _).alloc (Nat.le_refl _) _).alloc (by simp) _
        have hFr : ∀ g, F g → g < wr.heap.size := fun g hg => Nat.lt_of_lt_of_le (hF g hg) hbl.size
        have hs := sameCase F (n, fs) (n2, fs2) _ _ ((wr.alloc (.cells #[.string (str n), .slice fa fs.length fc] 58)).alloc (.cells #[.string (str n2), .slice fa2 fs2.length fc2] 58)) (hT1.below hb0 hFr) (hT2.below hb0 hFr) (fun g hg => Nat.lt_of_lt_of_le (hFr g hg) hb0.size) hC1 hC2
        unfold csv at hs
        simp only at hs
        have hb1 := below_trans hbl hb0
        have q2a := cell_more q2 (.cells #[.string (str n), .slice fa fs.length fc] 58)
        have r2a := cell_more r2 (.cells #[.string (str n), .slice fa fs.length fc] 58)
        by_cases he : (n, fs) = (n2, fs2)
        · rw [decide_eq_true he] at hs
          have HT : Hid (xs.take (k + 1) = ys.take (k + 1)) := HE0.out he
          clear HE0 HE1 hxk hyk hT1 hT2 hC1 hC2 ht he hn hFr
          go_wp2_with fail
          refine hs.mono ?_
          rintro e w5 ⟨rfl, hb5⟩
          have hb6 := below_trans hb1 hb5
          clear hs
          go_wp2
          go_roundg (xs.length - (k + 1))
          case measure => omega
          case rel => exact ⟨k + 1, by omega, by go_num, HT, hb6⟩
        · rw [decide_eq_false he] at hs
          have HE : Hid (decide (xs = ys) = false) := HE1.out he
          clear HE0 HE1 hxk hyk hT1 hT2 hC1 hC2 ht he hn hFr
          go_wp2_with fail
          refine hs.mono ?_
          rintro e w5 ⟨rfl, hb5⟩
          have hb6 := below_trans hb1 hb5
          clear hs
          go_wp2
          go_ret
          exact ⟨(by rw [HE.out]; first | done | rfl), hb6⟩
      · have HE : Hid (decide (xs = ys) = true) := by
          refine decide_eq_true ?_
          have := ht.out
          rwa [List.take_of_length_le (by omega), List.take_of_length_le (by omega)] at this
        have hki : ¬ (k : Int) < (xs.length : Int) := by omega
        have hkj : ¬ (k : Int) < (ys.length : Int) := by omega
        clear ht hn
        go_wp2
        go_ret
        exact ⟨(by rw [HE.out]; first | done | rfl), hbl⟩
  · have hn' : ((xs.length : Int) != (ys.length : Int)) = true := by simp; omega
    have HE : Hid (decide (xs = ys) = false) := decide_eq_false (fun e => hn (by rw [e]))
    clear hn h h'
    subst hv hu
    go_enter Tryz.func166, Tryz.ntmps166
    go_wp2
    go_ret
    exact ⟨(by rw [HE.out]; first | done | rfl), Below.refl _ _⟩
set_option maxHeartbeats 4000000 in
set_option maxRecDepth 1000000 in
theorem same7 (F : Nat → Prop) (x y : It) (cv dv : Value) (w : World) (h : CsR F w cv x.cases) (h' : CsR F w dv y.cases) (hF : ∀ g, F g → g < w.heap.size) (hx : ItOk x) (hy : ItOk y) : Calls Tryz.prog 96 #[itv x cv, itv y dv] w (BoolB (sameI x y) w) := by
  obtain ⟨k1, n1, t1, c1⟩ := x
  obtain ⟨k2, n2, t2, c2⟩ := y
  obtain ⟨ca, cc, rfl⟩ := h.shape
  obtain ⟨ca2, cc2, rfl⟩ := h'.shape
  have hb0 : Below w.heap.size w ((w.alloc (.cells #[.int .i64 k1, .string (str n1), .string (str t1), .slice ca c1.length cc] 47)).alloc (.cells #[.int .i64 k2, .string (str n2), .string (str t2), .slice ca2 c2.length cc2] 47)) := ((Below.refl _ _).alloc (Nat.le_refl _) _).alloc (by simp) _
  obtain ⟨_, _, _, _, hx1, hx2⟩ := hx
  obtain ⟨_, _, _, _, hy1, hy2⟩ := hy
  have hq := equalFunc F _ _ c1 c2 ((w.alloc (.cells #[.int .i64 k1, .string (str n1), .string (str t1), .slice ca c1.length cc] 47)).alloc (.cells #[.int .i64 k2, .string (str n2), .string (str t2), .slice ca2 c2.length cc2] 47)) (h.below hb0 hF) (h'.below hb0 hF) (fun g hg => Nat.lt_of_lt_of_le (hF g hg) hb0.size) hx1 hy1 hx2 hy2
  unfold itv sameI
  simp only at hq ⊢
  have he := eq_is n1 n2
  have hf := eq_is t1 t2
  clear h h' hx1 hx2 hy1 hy2
  by_cases hk : k1 = k2
  · subst hk
    by_cases hn : n1 = n2
    · rw [decide_eq_true hn] at he
      by_cases ht : t1 = t2
      · rw [decide_eq_true ht] at hf
        have HD : Hid ((decide (k1 = k1) && (decide (n1 = n2) && (decide (t1 = t2) && decide (c1 = c2)))) = decide (c1 = c2)) := by
          rw [hid_iff, decide_eq_true hn, decide_eq_true ht, decide_eq_true rfl]
          simp
        rw [HD.out]
        generalize decide (c1 = c2) = r at *
        clear hn ht HD
        go_enter Tryz.func96, Tryz.ntmps96
        go_wp2_with fail
        refine hq.mono ?_
        rintro e w1 ⟨rfl, hb1⟩
        have hb2 := below_trans hb0 hb1
        go_wp2
        go_ret
        exact ⟨rfl, hb2⟩
      · rw [decide_eq_false ht] at hf
        have HD : Hid ((decide (k1 = k1) && (decide (n1 = n2) && (decide (t1 = t2) && decide (c1 = c2)))) = false) := by
          rw [hid_iff, decide_eq_false ht]
          simp
        rw [HD.out]
        clear hn ht HD hq
        go_enter Tryz.func96, Tryz.ntmps96
        go_wp2
        go_ret
        exact ⟨rfl, hb0⟩
    · rw [decide_eq_false hn] at he
      have HD : Hid ((decide (k1 = k1) && (decide (n1 = n2) && (decide (t1 = t2) && decide (c1 = c2)))) = false) := by
        rw [hid_iff, decide_eq_false hn]
        simp
      rw [HD.out]
      clear hn HD hq hf
      go_enter Tryz.func96, Tryz.ntmps96
      go_wp2
      go_ret
      exact ⟨rfl, hb0⟩
  · have hkb : (k1 == k2) = false := by rw [beq_eq_false_iff_ne]; exact hk
    rw [decide_eq_false hk, Bool.false_and]
    clear hk hq hf he
    go_enter Tryz.func96, Tryz.ntmps96
    go_wp2
    go_ret
    exact ⟨rfl, hb0⟩
end Go.Proofs.YtdeckknfolaaeaaGreatDoor

namespace Go.Proofs.YtdeckknfolaaeaaGreatDoor
open Go.RowKit Go.Maps

theorem ownsMap_below {H : Type} {w w' : World} {B b n : Nat} {k : TypeId} {R : Value → Option (DataW H × List MemPlace)} {D : DataW H} (h : w.ownsMap Tryz.prog k R b n D) (hb : Below B w w') (hlt : b < B) : w'.ownsMap Tryz.prog k R b n D := by
  obtain ⟨es, c, h1, h2⟩ := h
  exact ⟨es, c, (hb.block b hlt).trans h1, h2⟩
theorem lookup_yes {w : World} {ops : Array Oper} {rest : List Oper} {o : Oper} {a : Act} {Q : Exit → Act → World → Prop} (hg : o.guard = none) (m x : Operand) (hop : o.op = Op.lookup 109 m x true)
    (b n : Nat) (D : DataW Nat) (hm : a.eval m = .map (some b)) (hown : w.ownsMap Tryz.prog 9 (plainElem Tryz.prog 3) b n D) (key : Value) (hx : a.eval x = key) (kl : Lit) (hkey : keyOf Tryz.prog 9 key = some kl)
    (j : Nat) (hj : has D kl = true ∧ D.atKey kl (.lit (.int .i64 0)) = .lit (.int .i64 (j : Int)))
    (hK : wpList Tryz.prog ops Q rest (a.put o.dst (.tuple #[.int .i64 (j : Int), .bool true])) w) : wpList Tryz.prog ops Q (o :: rest) a w := by
  refine wpList_lookup_own_ok_int w hg m x 109 hop 9 3 .i64 (string_keyed Tryz.underlying9) Tryz.underlying109 Tryz.underlying3 (Tryz.zeroValue3 _) b n D hm hown key kl hx hkey ?_
  intro c hc _
  rw [hj.2] at hc
  simp only [DataW.lit.injEq, Lit.int.injEq, true_and] at hc
  subst hc
  rw [hj.1]
  exact hK
theorem lookup_no {w : World} {ops : Array Oper} {rest : List Oper} {o : Oper} {a : Act} {Q : Exit → Act → World → Prop} (hg : o.guard = none) (m x : Operand) (hop : o.op = Op.lookup 109 m x true)
    (b n : Nat) (D : DataW Nat) (hm : a.eval m = .map (some b)) (hown : w.ownsMap Tryz.prog 9 (plainElem Tryz.prog 3) b n D) (key : Value) (hx : a.eval x = key) (kl : Lit) (hkey : keyOf Tryz.prog 9 key = some kl)
    (hj : has D kl = false)
    (hK : ∀ c : Int, wpList Tryz.prog ops Q rest (a.put o.dst (.tuple #[.int .i64 c, .bool false])) w) : wpList Tryz.prog ops Q (o :: rest) a w := by
  refine wpList_lookup_own_ok_int w hg m x 109 hop 9 3 .i64 (string_keyed Tryz.underlying9) Tryz.underlying109 Tryz.underlying3 (Tryz.zeroValue3 _) b n D hm hown key kl hx hkey ?_
  intro c hc _
  rw [hj]
  exact hK c
/-- A look-up, whatever it finds: the place, or any number. -/
theorem lookup_any {w : World} {ops : Array Oper} {rest : List Oper} {o : Oper} {a : Act} {Q : Exit → Act → World → Prop} (hg : o.guard = none) (m x : Operand) (hop : o.op = Op.lookup 109 m x true)
    (b n : Nat) (l : List It) (hm : a.eval m = .map (some b)) (hown : w.ownsMap Tryz.prog 9 (plainElem Tryz.prog 3) b n (plL (H := Nat) 0 l)) (key : Value) (hx : a.eval x = key) (q : List UInt8) (hkey : keyOf Tryz.prog 9 key = some (.string q))
    (hK : ∀ (c : Int) (r : Bool), Hid (r = (findI l q).isSome) → Hid (∀ y, findI l q = some y → ∃ j, ∃ h : j < l.length, l[j] = y ∧ c = (j : Int)) → wpList Tryz.prog ops Q rest (a.put o.dst (.tuple #[.int .i64 c, .bool r])) w) : wpList Tryz.prog ops Q (o :: rest) a w := by
  refine wpList_lookup_own_ok_int w hg m x 109 hop 9 3 .i64 (string_keyed Tryz.underlying9) Tryz.underlying109 Tryz.underlying3 (Tryz.zeroValue3 _) b n _ hm hown key _ hx hkey ?_
  intro c hc _
  refine hK c _ (plL_has q 0 l) fun y hy => ?_
  obtain ⟨j, h1, h2, h3⟩ := plL_at (H := Nat) q (.lit (.int .i64 0)) 0 l y hy
  rw [h3] at hc
  simp only [DataW.lit.injEq, Lit.int.injEq, true_and, Nat.zero_add] at hc
  exact ⟨j, h1, h2, hc.symm⟩
theorem append_textN {w : World} {ops : Array Oper} {rest : List Oper} {o : Oper} {a : Act} {Q : Exit → Act → World → Prop} (hgd : o.guard = none) (s x : Operand)
    (ho : o.op = .call { callee := .builtin .append, args := #[s, x], argTypes := #[25, 25] })
    (B : Nat) (v : Value) (acc : List (List UInt8)) (hs : a.eval s = v) (hown : w.ownsRow B 9 1 v acc.length (sc acc))
    (ad : Addr) (c : Nat) (n : List UInt8) (hx : a.eval x = .slice (some ad) 1 c) (hnews : ∀ j u, (sc [n])[j]? = some u → w.cell? (ad.add j) = some u)
    (hlen : acc.length + 1 ≤ 8796093022208) (hB : B ≤ w.heap.size)
    (h : ∀ ad' c' w', w'.ownsRow B 9 1 (.slice (some ad') (acc.length + 1) c') (acc ++ [n]).length (sc (acc ++ [n])) → w.grownBy w' v.ownBlock → wpList Tryz.prog ops Q rest (a.put o.dst (.slice (some ad') (acc.length + 1) c')) w') :
    wpList Tryz.prog ops Q (o :: rest) a w := by
  obtain ⟨i, z, hi, hz, h1, h2, h3⟩ := info_z infoS
  refine wpList_append_own w hgd s x 25 ho B 9 i z 1 16 Tryz.underlying25 hi hz h1 h2 h3 (by decide) v acc.length (sc acc) hs hown ad 1 c (sc [n]) hx rfl hnews (fun u hu => ?_) (by unfold maxLen; omega) (by omega) hB ?_
  · obtain ⟨_, _, rfl⟩ := List.mem_map.1 hu
    rfl
  intro v' w' k1 k2 k3
  rcases k1.2 with ⟨rfl, hz⟩ | ⟨g, cap, cur, rfl, _⟩
  · omega
  · rw [← sc_append] at k1
    exact h ⟨g, 0, none⟩ cap w' (by simpa using k1) k2
theorem StrRow.atJ {w : World} {v : Value} {xs : List (List UInt8)} (h : StrRow w v xs) (i : Nat) (hi : i < xs.length) : ∃ bk o c, v = .slice (some ⟨bk, o, none⟩) xs.length c ∧ w.cell? ⟨bk, o + i, none⟩ = some (.string (str xs[i])) := by
  rcases h with ⟨rfl, _⟩ | ⟨bk, o, c, h1, _, _, h3⟩
  · simp at hi
  · exact ⟨bk, o, c, h1, h3 i _ (List.getElem?_eq_getElem hi)⟩
theorem broken_step (l l2 : List It) (ys acc : List (List UInt8)) (k : Nat) (h : k < ys.length) (hq : acc ++ (ys.drop k).filter (brokenI l l2) = ys.filter (brokenI l l2)) : (if brokenI l l2 ys[k] then acc ++ [ys[k]] else acc) ++ (ys.drop (k + 1)).filter (brokenI l l2) = ys.filter (brokenI l l2) := by
  rw [List.drop_eq_getElem_cons h, List.filter_cons] at hq
  rw [← hq]
  split <;> simp
theorem once_tk {xs : List (List UInt8)} (h : ∀ x ∈ xs, Tk x) : (∀ x ∈ onceR xs, Tk x) ∧ (onceR xs).length ≤ xs.length := by
  constructor
  · intro x hx
    exact h x ((onceR_mem xs x).1 hx)
  · rw [onceR_is]
    have := compactO_len (sortR xs)
    rwa [sortR_length] at this
end Go.Proofs.YtdeckknfolaaeaaGreatDoor
