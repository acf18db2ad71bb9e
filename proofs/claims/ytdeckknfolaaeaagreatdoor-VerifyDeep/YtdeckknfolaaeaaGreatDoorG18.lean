/-
  slices.IndexFunc and slices.ContainsFunc at the lists of an object; isGlobal, isFun.
  And: The package's rightCase. Sign, and other small functions of the package object.
-/
import Derived.Test.YtdeckknfolaaeaaGreatDoorG15
import Derived.Test.YtdeckknfolaaeaaGreatDoorG17
import Derived.Deep.RegionWith
import Derived.Deep.CutRange
import Derived.Deep.RegionHeld3
import Derived.Test.YtdeckknfolaaeaaGreatDoorG07
namespace Go.Proofs.YtdeckknfolaaeaaGreatDoor
open Go.RowKit

set_option maxHeartbeats 2000000 in
set_option maxRecDepth 1000000 in
theorem idxI (F : Nat → Prop) (v : Value) (l : List It) (b : Nat) (p : It → Bool) (w : World) (h : ItR F w v l) (hF : ∀ g, F g → g < w.heap.size) (hl : l.length ≤ 3518437208883) 
    (hp : ∀ (k : Nat) (hk : k < l.length) (cv : Value) (wr : World), Below w.heap.size w wr → CsR F wr cv l[k].cases → Calls Tryz.prog 80 #[itv l[k] cv, .pointer (some ⟨b, 0, none⟩)] wr (BoolB (p l[k]) wr)) :
    Calls Tryz.prog 156 #[v, .func (.func 80) #[] #[.pointer (some ⟨b, 0, none⟩)]] w (IdxB (l.any p) w) := by
  obtain ⟨va, vc, rfl⟩ := h.shape
  have H := hidden h
  have HP := hidden hp
  clear h hp
  go_enter Tryz.func156, Tryz.ntmps156
  go_wp2
  go_loopg [8] l.length (fun g i wr => ∃ (k : Nat), g + k = l.length ∧ i = .int .i64 (k : Int) ∧ Hid ((l.take k).any p = false) ∧ Below w.heap.size w wr)
  case atStart => exact ⟨0, by omega, rfl, by rw [hid_iff]; rfl, Below.refl _ _⟩
  case round =>
    obtain ⟨k, hg, rfl, hq, hbw⟩ := hrel
    by_cases hk : k < l.length
    · obtain ⟨g, o, cap, cv, e1, hFg, hC, q0, q1, q2, q3⟩ := (H.out.below hbw hF).at k hk
      simp only [Value.slice.injEq, true_and] at e1
      obtain ⟨rfl, rfl⟩ := e1
      have hc := HP.out k hk cv wr hbw hC
      unfold itv at hc
      generalize l[k].name = xn at *
      generalize l[k].kind = xk at *
      generalize l[k].ty = xt at *
      have hki : (k : Int) < (l.length : Int) := by omega
      cases hx : p l[k]
      · rw [hx] at hc
        have HQ : Hid ((l.take (k + 1)).any p = false) := by
          rw [hid_iff, List.take_succ_eq_append_getElem hk, List.any_append, hq.out, List.any_cons, hx]
          rfl
        clear hq hx
        go_wp2_with fail
        refine hc.mono ?_
        rintro e w1 ⟨rfl, hb1⟩
        have hb2 := below_trans hbw hb1
        go_wp2
        go_roundg (l.length - (k + 1))
        case measure => omega
        case rel => exact ⟨k + 1, by omega, by go_num, HQ, hb2⟩
      · rw [hx] at hc
        have HA : Hid (l.any p = true) := by
          rw [hid_iff, List.any_eq_true]
          exact ⟨_, List.getElem_mem hk, hx⟩
        clear hq hx
        go_wp2_with fail
        refine hc.mono ?_
        rintro e w1 ⟨rfl, hb1⟩
        have hb2 := below_trans hbw hb1
        go_wp2
        go_ret
        exact ⟨(k : Int), rfl, by rw [HA.out]; exact decide_eq_true (by omega), by omega, by omega, hb2⟩
    · have hki : ¬ (k : Int) < (l.length : Int) := by omega
      have HA : Hid (l.any p = false) := by
        have := hq.out
        rwa [List.take_of_length_le (by omega)] at this
      clear hq
      go_wp2
      go_ret
      exact ⟨-1, rfl, (by rw [HA.out]; first | done | rfl), by omega, by omega, hbw⟩
set_option maxHeartbeats 1000000 in
set_option maxRecDepth 1000000 in
theorem conI (F : Nat → Prop) (v : Value) (l : List It) (b : Nat) (p : It → Bool) (w : World) (h : ItR F w v l) (hF : ∀ g, F g → g < w.heap.size) (hl : l.length ≤ 3518437208883) 
    (hp : ∀ (k : Nat) (hk : k < l.length) (cv : Value) (wr : World), Below w.heap.size w wr → CsR F wr cv l[k].cases → Calls Tryz.prog 80 #[itv l[k] cv, .pointer (some ⟨b, 0, none⟩)] wr (BoolB (p l[k]) wr)) :
    Calls Tryz.prog 79 #[v, .func (.func 80) #[] #[.pointer (some ⟨b, 0, none⟩)]] w (BoolB (l.any p) w) := by
  have hi := idxI F v l b p w h hF hl  hp
  obtain ⟨va, vc, rfl⟩ := h.shape
  generalize l.any p = r at *
  clear h hF hp
  go_enter Tryz.func79, Tryz.ntmps79
  go_wp2_with fail
  refine hi.mono ?_
  rintro e w1 ⟨i, rfl, hr, hi1, hi2, hb1⟩
  go_wp2
  go_ret
  exact ⟨(by rw [← hr]; first | done | rfl), hb1⟩
def glv (x : Gl) : Value := .agg #[.string (str x.name), .string (str x.ty), .int .i64 x.fn]
def fnv (x : Fn) (pv kv : Value) : Value := .agg #[.string (str x.name), pv, .int .i64 x.caps, .string (str x.res), .int .i64 x.locals, kv]
def syv (x : Sy) (cv : Value) : Value := .agg #[.string (str x.mod), .int .i64 x.item.kind, .string (str x.item.name), .string (str x.item.ty), cv]
def rlv (x : Rl) : Value := .agg #[.int .i64 x.fn, .int .i64 x.place, .int .i64 x.sym]

set_option maxHeartbeats 2000000 in
set_option maxRecDepth 1000000 in
theorem idxG (F : Nat → Prop) (v : Value) (l : List Gl) (b : Nat) (p : Gl → Bool) (w : World) (h : GlR F w v l) (hF : ∀ g, F g → g < w.heap.size) (hl : l.length ≤ 3518437208883) 
    (hp : ∀ (k : Nat) (hk : k < l.length) (wr : World), Below w.heap.size w wr → Calls Tryz.prog 159 #[glv l[k], .pointer (some ⟨b, 0, none⟩)] wr (BoolB (p l[k]) wr)) :
    Calls Tryz.prog 222 #[v, .func (.func 159) #[] #[.pointer (some ⟨b, 0, none⟩)]] w (IdxB (l.any p) w) := by
  obtain ⟨va, vc, rfl⟩ := h.shape
  have H := hidden h
  have HP := hidden hp
  clear h hp
  go_enter Tryz.func222, Tryz.ntmps222
  go_wp2
  go_loopg [8] l.length (fun g i wr => ∃ (k : Nat), g + k = l.length ∧ i = .int .i64 (k : Int) ∧ Hid ((l.take k).any p = false) ∧ Below w.heap.size w wr)
  case atStart => exact ⟨0, by omega, rfl, by rw [hid_iff]; rfl, Below.refl _ _⟩
  case round =>
    obtain ⟨k, hg, rfl, hq, hbw⟩ := hrel
    by_cases hk : k < l.length
    · obtain ⟨g, o, cap, cs, e1, hcap, hFg, hC, hcell⟩ := (H.out.below cGl_stay hbw hF).at k hk
      simp only [Value.slice.injEq, true_and] at e1
      obtain ⟨rfl, rfl⟩ := e1
      have hc := HP.out k hk wr hbw
      unfold cGl at hC
      subst hC
      have q0 := hcell 0 _ rfl
      have q1 := hcell 1 _ rfl
      have q2 := hcell 2 _ rfl
      simp only [Nat.add_zero] at q0
      clear hcell
      unfold glv at hc
      generalize l[k].name = xn at *
      generalize l[k].ty = xt at *
      generalize l[k].fn = xf at *
      have hki : (k : Int) < (l.length : Int) := by omega
      cases hx : p l[k]
      · rw [hx] at hc
        have HQ : Hid ((l.take (k + 1)).any p = false) := by
          rw [hid_iff, List.take_succ_eq_append_getElem hk, List.any_append, hq.out, List.any_cons, hx]
          rfl
        clear hq hx
        go_wp2_with fail
        refine hc.mono ?_
        rintro e w1 ⟨rfl, hb1⟩
        have hb2 := below_trans hbw hb1
        go_wp2
        go_roundg (l.length - (k + 1))
        case measure => omega
        case rel => exact ⟨k + 1, by omega, by go_num, HQ, hb2⟩
      · rw [hx] at hc
        have HA : Hid (l.any p = true) := by
          rw [hid_iff, List.any_eq_true]
          exact ⟨_, List.getElem_mem hk, hx⟩
        clear hq hx
        go_wp2_with fail
        refine hc.mono ?_
        rintro e w1 ⟨rfl, hb1⟩
        have hb2 := below_trans hbw hb1
        go_wp2
        go_ret
        exact ⟨(k : Int), rfl, by rw [HA.out]; exact decide_eq_true (by omega), by omega, by omega, hb2⟩
    · have hki : ¬ (k : Int) < (l.length : Int) := by omega
      have HA : Hid (l.any p = false) := by
        have := hq.out
        rwa [List.take_of_length_le (by omega)] at this
      clear hq
      go_wp2
      go_ret
      exact ⟨-1, rfl, (by rw [HA.out]; first | done | rfl), by omega, by omega, hbw⟩
set_option maxHeartbeats 1000000 in
set_option maxRecDepth 1000000 in
theorem conG (F : Nat → Prop) (v : Value) (l : List Gl) (b : Nat) (p : Gl → Bool) (w : World) (h : GlR F w v l) (hF : ∀ g, F g → g < w.heap.size) (hl : l.length ≤ 3518437208883) 
    (hp : ∀ (k : Nat) (hk : k < l.length) (wr : World), Below w.heap.size w wr → Calls Tryz.prog 159 #[glv l[k], .pointer (some ⟨b, 0, none⟩)] wr (BoolB (p l[k]) wr)) :
    Calls Tryz.prog 158 #[v, .func (.func 159) #[] #[.pointer (some ⟨b, 0, none⟩)]] w (BoolB (l.any p) w) := by
  have hi := idxG F v l b p w h hF hl  hp
  obtain ⟨va, vc, rfl⟩ := h.shape
  generalize l.any p = r at *
  clear h hF hp
  go_enter Tryz.func158, Tryz.ntmps158
  go_wp2_with fail
  refine hi.mono ?_
  rintro e w1 ⟨i, rfl, hr, hi1, hi2, hb1⟩
  go_wp2
  go_ret
  exact ⟨(by rw [← hr]; first | done | rfl), hb1⟩

set_option maxHeartbeats 2000000 in
set_option maxRecDepth 1000000 in
theorem idxF (F : Nat → Prop) (v : Value) (l : List Fn) (b : Nat) (p : Fn → Bool) (w : World) (h : FnR F w v l) (hF : ∀ g, F g → g < w.heap.size) (hl : l.length ≤ 3518437208883) 
    (hp : ∀ (k : Nat) (hk : k < l.length) (pv kv : Value) (wr : World), Below w.heap.size w wr → Calls Tryz.prog 161 #[fnv l[k] pv kv, .pointer (some ⟨b, 0, none⟩)] wr (BoolB (p l[k]) wr)) :
    Calls Tryz.prog 223 #[v, .func (.func 161) #[] #[.pointer (some ⟨b, 0, none⟩)]] w (IdxB (l.any p) w) := by
  obtain ⟨va, vc, rfl⟩ := h.shape
  have H := hidden h
  have HP := hidden hp
  clear h hp
  go_enter Tryz.func223, Tryz.ntmps223
  go_wp2
  go_loopg [8] l.length (fun g i wr => ∃ (k : Nat), g + k = l.length ∧ i = .int .i64 (k : Int) ∧ Hid ((l.take k).any p = false) ∧ Below w.heap.size w wr)
  case atStart => exact ⟨0, by omega, rfl, by rw [hid_iff]; rfl, Below.refl _ _⟩
  case round =>
    obtain ⟨k, hg, rfl, hq, hbw⟩ := hrel
    by_cases hk : k < l.length
    · obtain ⟨g, o, cap, cs, e1, hcap, hFg, hC, hcell⟩ := (H.out.below cFn_stay hbw hF).at k hk
      simp only [Value.slice.injEq, true_and] at e1
      obtain ⟨rfl, rfl⟩ := e1
      obtain ⟨pv, kv, rfl, hpv, hkv⟩ := hC
      have hc := HP.out k hk pv kv wr hbw
      have q0 := hcell 0 _ rfl
      have q1 := hcell 1 _ rfl
      have q2 := hcell 2 _ rfl
      have q3 := hcell 3 _ rfl
      have q4 := hcell 4 _ rfl
      have q5 := hcell 5 _ rfl
      simp only [Nat.add_zero] at q0
      clear hcell hpv hkv
      unfold fnv at hc
      generalize l[k].name = xn at *
      generalize l[k].res = xt at *
      generalize l[k].caps = xf at *
      generalize l[k].locals = xl at *
      have hki : (k : Int) < (l.length : Int) := by omega
      cases hx : p l[k]
      · rw [hx] at hc
        have HQ : Hid ((l.take (k + 1)).any p = false) := by
          rw [hid_iff, List.take_succ_eq_append_getElem hk, List.any_append, hq.out, List.any_cons, hx]
          rfl
        clear hq hx
        go_wp2_with fail
        refine hc.mono ?_
        rintro e w1 ⟨rfl, hb1⟩
        have hb2 := below_trans hbw hb1
        go_wp2
        go_roundg (l.length - (k + 1))
        case measure => omega
        case rel => exact ⟨k + 1, by omega, by go_num, HQ, hb2⟩
      · rw [hx] at hc
        have HA : Hid (l.any p = true) := by
          rw [hid_iff, List.any_eq_true]
          exact ⟨_, List.getElem_mem hk, hx⟩
        clear hq hx
        go_wp2_with fail
        refine hc.mono ?_
        rintro e w1 ⟨rfl, hb1⟩
        have hb2 := below_trans hbw hb1
        go_wp2
        go_ret
        exact ⟨(k : Int), rfl, by rw [HA.out]; exact decide_eq_true (by omega), by omega, by omega, hb2⟩
    · have hki : ¬ (k : Int) < (l.length : Int) := by omega
      have HA : Hid (l.any p = false) := by
        have := hq.out
        rwa [List.take_of_length_le (by omega)] at this
      clear hq
      go_wp2
      go_ret
      exact ⟨-1, rfl, (by rw [HA.out]; first | done | rfl), by omega, by omega, hbw⟩
set_option maxHeartbeats 1000000 in
set_option maxRecDepth 1000000 in
theorem conF (F : Nat → Prop) (v : Value) (l : List Fn) (b : Nat) (p : Fn → Bool) (w : World) (h : FnR F w v l) (hF : ∀ g, F g → g < w.heap.size) (hl : l.length ≤ 3518437208883) 
    (hp : ∀ (k : Nat) (hk : k < l.length) (pv kv : Value) (wr : World), Below w.heap.size w wr → Calls Tryz.prog 161 #[fnv l[k] pv kv, .pointer (some ⟨b, 0, none⟩)] wr (BoolB (p l[k]) wr)) :
    Calls Tryz.prog 160 #[v, .func (.func 161) #[] #[.pointer (some ⟨b, 0, none⟩)]] w (BoolB (l.any p) w) := by
  have hi := idxF F v l b p w h hF hl  hp
  obtain ⟨va, vc, rfl⟩ := h.shape
  generalize l.any p = r at *
  clear h hF hp
  go_enter Tryz.func160, Tryz.ntmps160
  go_wp2_with fail
  refine hi.mono ?_
  rintro e w1 ⟨i, rfl, hr, hi1, hi2, hb1⟩
  go_wp2
  go_ret
  exact ⟨(by rw [← hr]; first | done | rfl), hb1⟩

set_option maxHeartbeats 2000000 in
set_option maxRecDepth 1000000 in
theorem idxS (F : Nat → Prop) (v : Value) (l : List Sy) (sv : Value) (p : Sy → Bool) (w : World) (h : SyR F w v l) (hF : ∀ g, F g → g < w.heap.size) (hl : l.length ≤ 3518437208883) 
    (hp : ∀ (k : Nat) (hk : k < l.length) (cv : Value) (wr : World), Below w.heap.size w wr → Calls Tryz.prog 90 #[sv, syv l[k] cv] wr (BoolB (p l[k]) wr)) :
    Calls Tryz.prog 164 #[v, .func (.func 90) #[sv] #[]] w (IdxB (l.any p) w) := by
  obtain ⟨va, vc, rfl⟩ := h.shape
  have H := hidden h
  have HP := hidden hp
  clear h hp
  go_enter Tryz.func164, Tryz.ntmps164
  go_wp2
  go_loopg [8] l.length (fun g i wr => ∃ (k : Nat), g + k = l.length ∧ i = .int .i64 (k : Int) ∧ Hid ((l.take k).any p = false) ∧ Below w.heap.size w wr)
  case atStart => exact ⟨0, by omega, rfl, by rw [hid_iff]; rfl, Below.refl _ _⟩
  case round =>
    obtain ⟨k, hg, rfl, hq, hbw⟩ := hrel
    by_cases hk : k < l.length
    · obtain ⟨g, o, cap, cs, e1, hcap, hFg, hC, hcell⟩ := (H.out.below cSy_stay hbw hF).at k hk
      simp only [Value.slice.injEq, true_and] at e1
      obtain ⟨rfl, rfl⟩ := e1
      obtain ⟨cv, rfl, hcv⟩ := hC
      have hc := HP.out k hk cv wr hbw
      have q0 := hcell 0 _ rfl
      have q1 := hcell 1 _ rfl
      have q2 := hcell 2 _ rfl
      have q3 := hcell 3 _ rfl
      have q4 := hcell 4 _ rfl
      simp only [Nat.add_zero] at q0
      clear hcell hcv
      unfold syv at hc
      generalize l[k].mod = xn at *
      generalize l[k].item.name = xm at *
      generalize l[k].item.ty = xt at *
      generalize l[k].item.kind = xk at *
      have hki : (k : Int) < (l.length : Int) := by omega
      cases hx : p l[k]
      · rw [hx] at hc
        have HQ : Hid ((l.take (k + 1)).any p = false) := by
          rw [hid_iff, List.take_succ_eq_append_getElem hk, List.any_append, hq.out, List.any_cons, hx]
          rfl
        clear hq hx
        go_wp2_with fail
        refine hc.mono ?_
        rintro e w1 ⟨rfl, hb1⟩
        have hb2 := below_trans hbw hb1
        go_wp2
        go_roundg (l.length - (k + 1))
        case measure => omega
        case rel => exact ⟨k + 1, by omega, by go_num, HQ, hb2⟩
      · rw [hx] at hc
        have HA : Hid (l.any p = true) := by
          rw [hid_iff, List.any_eq_true]
          exact ⟨_, List.getElem_mem hk, hx⟩
        clear hq hx
        go_wp2_with fail
        refine hc.mono ?_
        rintro e w1 ⟨rfl, hb1⟩
        have hb2 := below_trans hbw hb1
        go_wp2
        go_ret
        exact ⟨(k : Int), rfl, by rw [HA.out]; exact decide_eq_true (by omega), by omega, by omega, hb2⟩
    · have hki : ¬ (k : Int) < (l.length : Int) := by omega
      have HA : Hid (l.any p = false) := by
        have := hq.out
        rwa [List.take_of_length_le (by omega)] at this
      clear hq
      go_wp2
      go_ret
      exact ⟨-1, rfl, (by rw [HA.out]; first | done | rfl), by omega, by omega, hbw⟩
set_option maxHeartbeats 1000000 in
set_option maxRecDepth 1000000 in
theorem conS (F : Nat → Prop) (v : Value) (l : List Sy) (sv : Value) (p : Sy → Bool) (w : World) (h : SyR F w v l) (hF : ∀ g, F g → g < w.heap.size) (hl : l.length ≤ 3518437208883) 
    (hp : ∀ (k : Nat) (hk : k < l.length) (cv : Value) (wr : World), Below w.heap.size w wr → Calls Tryz.prog 90 #[sv, syv l[k] cv] wr (BoolB (p l[k]) wr)) :
    Calls Tryz.prog 89 #[v, .func (.func 90) #[sv] #[]] w (BoolB (l.any p) w) := by
  have hi := idxS F v l sv p w h hF hl  hp
  obtain ⟨va, vc, rfl⟩ := h.shape
  generalize l.any p = r at *
  clear h hF hp
  go_enter Tryz.func89, Tryz.ntmps89
  go_wp2_with fail
  refine hi.mono ?_
  rintro e w1 ⟨i, rfl, hr, hi1, hi2, hb1⟩
  go_wp2
  go_ret
  exact ⟨(by rw [← hr]; first | done | rfl), hb1⟩

set_option maxHeartbeats 1000000 in
set_option maxRecDepth 1000000 in
theorem predI (x : It) (cv : Value) (b : Nat) (n : List UInt8) (w : World) (hb : w.cell? ⟨b, 1, none⟩ = some (.string (str n))) : Calls Tryz.prog 80 #[itv x cv, .pointer (some ⟨b, 0, none⟩)] w (BoolB (decide (x.name = n)) w) := by
  obtain ⟨xk, xn, xt, xc⟩ := x
  unfold itv
  simp only
  have hbl : b < w.heap.size := World.block_lt_of_cell? w _ hb
  have hb0 : Below w.heap.size w (w.alloc (.cells #[.int .i64 xk, .string (str xn), .string (str xt), cv] 47)) := (Below.refl _ _).alloc (Nat.le_refl _) _
  have he := eq_is xn n
  generalize decide (xn = n) = r at *
  go_enter Tryz.func80, Tryz.ntmps80
  go_wp2
  go_ret
  exact ⟨rfl, hb0⟩
set_option maxHeartbeats 1000000 in
set_option maxRecDepth 1000000 in
theorem predG (x : Gl) (b : Nat) (n : List UInt8) (w : World) (hb : w.cell? ⟨b, 0, none⟩ = some (.string (str n))) : Calls Tryz.prog 159 #[glv x, .pointer (some ⟨b, 0, none⟩)] w (BoolB (decide (x.name = n)) w) := by
  obtain ⟨xn, xt, xf⟩ := x
  unfold glv
  simp only
  have hbl : b < w.heap.size := World.block_lt_of_cell? w _ hb
  have hb0 : Below w.heap.size w (w.alloc (.cells #[.string (str xn), .string (str xt), .int .i64 xf] 60)) := (Below.refl _ _).alloc (Nat.le_refl _) _
  have he := eq_is xn n
  generalize decide (xn = n) = r at *
  go_enter Tryz.func159, Tryz.ntmps159
  go_wp2
  go_ret
  exact ⟨rfl, hb0⟩
set_option maxHeartbeats 1000000 in
set_option maxRecDepth 1000000 in
theorem predF (x : Fn) (pv kv : Value) (b : Nat) (n : List UInt8) (w : World) (hb : w.cell? ⟨b, 0, none⟩ = some (.string (str n))) : Calls Tryz.prog 161 #[fnv x pv kv, .pointer (some ⟨b, 0, none⟩)] w (BoolB (decide (x.name = n)) w) := by
  obtain ⟨xn, xp, xc, xr, xl, xk⟩ := x
  unfold fnv
  simp only
  have hbl : b < w.heap.size := World.block_lt_of_cell? w _ hb
  have hb0 : Below w.heap.size w (w.alloc (.cells #[.string (str xn), pv, .int .i64 xc, .string (str xr), .int .i64 xl, kv] 63)) := (Below.refl _ _).alloc (Nat.le_refl _) _
  have he := eq_is xn n
  generalize decide (xn = n) = r at *
  go_enter Tryz.func161, Tryz.ntmps161
  go_wp2
  go_ret
  exact ⟨rfl, hb0⟩

set_option maxHeartbeats 1000000 in
set_option maxRecDepth 1000000 in
theorem isGlobal (F : Nat → Prop) (v : Value) (l : List Gl) (n : List UInt8) (w : World) (h : GlR F w v l) (hF : ∀ g, F g → g < w.heap.size) (hl : l.length ≤ 3518437208883) :
    Calls Tryz.prog 82 #[v, .string (str n)] w (BoolB (l.any (fun d => decide (d.name = n))) w) := by
  have hb0 : Below w.heap.size w (w.alloc (.cells #[.string (str n)] 9)) := (Below.refl _ _).alloc (Nat.le_refl _) _
  have hc := cells_new w [.string (str n)] 9 0 _ rfl
  rw [add_at] at hc
  have hi := conG F v l w.heap.size (fun d => decide (d.name = n)) _ (h.below cGl_stay hb0 hF) (fun g hg => by have := hF g hg; simp; omega) hl (fun k hk wr hbw => predG l[k] w.heap.size n wr ((World.cell?_of_block (a := ⟨w.heap.size, 0, none⟩) (hbw.block w.heap.size (by simp))).trans hc))
  obtain ⟨va, vc, rfl⟩ := h.shape
  generalize l.any (fun d => decide (d.name = n)) = r at *
  clear h hF hc
  go_enter Tryz.func82, Tryz.ntmps82
  go_wp2_with fail
  refine hi.mono ?_
  rintro e w1 ⟨rfl, hb1⟩
  have hb2 := below_trans hb0 hb1
  go_wp2
  go_ret
  exact ⟨rfl, hb2⟩

set_option maxHeartbeats 1000000 in
set_option maxRecDepth 1000000 in
theorem isFun (F : Nat → Prop) (v : Value) (l : List Fn) (n : List UInt8) (w : World) (h : FnR F w v l) (hF : ∀ g, F g → g < w.heap.size) (hl : l.length ≤ 3518437208883) :
    Calls Tryz.prog 84 #[v, .string (str n)] w (BoolB (l.any (fun d => decide (d.name = n))) w) := by
  have hb0 : Below w.heap.size w (w.alloc (.cells #[.string (str n)] 9)) := (Below.refl _ _).alloc (Nat.le_refl _) _
  have hc := cells_new w [.string (str n)] 9 0 _ rfl
  rw [add_at] at hc
  have hi := conF F v l w.heap.size (fun d => decide (d.name = n)) _ (h.below cFn_stay hb0 hF) (fun g hg => by have := hF g hg; simp; omega) hl (fun k hk pv kv wr hbw => predF l[k] pv kv w.heap.size n wr ((World.cell?_of_block (a := ⟨w.heap.size, 0, none⟩) (hbw.block w.heap.size (by simp))).trans hc))
  obtain ⟨va, vc, rfl⟩ := h.shape
  generalize l.any (fun d => decide (d.name = n)) = r at *
  clear h hF hc
  go_enter Tryz.func84, Tryz.ntmps84
  go_wp2_with fail
  refine hi.mono ?_
  rintro e w1 ⟨rfl, hb1⟩
  have hb2 := below_trans hb0 hb1
  go_wp2
  go_ret
  exact ⟨rfl, hb2⟩
end Go.Proofs.YtdeckknfolaaeaaGreatDoor

namespace Go.Proofs.YtdeckknfolaaeaaGreatDoor
open Go.RowKit

theorem below_drew {H : Nat} {w w1 : World} (h : Below H w w1) : Below H w w1.drew := ⟨h.os, h.tape, h.output, h.size, h.block⟩
theorem below_undrew {w w1 : World} (h : Below w.drew.heap.size w.drew w1) : Below w.heap.size w w1 := ⟨h.os, h.tape, h.output, h.size, h.block⟩
set_option maxHeartbeats 4000000 in
set_option maxRecDepth 1000000 in
theorem rightCase (F : Nat → Prop) (v : Value) (cs : List Cs) (i : Nat) (w : World) (h : CsR F w v cs) (hF : ∀ g, F g → g < w.heap.size) (hl : cs.length ≤ 3518437208883) (hok : ∀ c ∈ cs, CsOk c) (hi : i < cs.length) :
    Calls Tryz.prog 219 #[v, .int .i64 (i : Int)] w (NumB (caseE (cs.take i) cs[i]) w) := by
  obtain ⟨g, o, cap, fv, rfl, hcap, hFg, hT, q0, q1⟩ := h.at i hi
  have hc := hok _ (List.getElem_mem hi)
  obtain ⟨hc1, hc2, hc3⟩ := hc
  obtain ⟨fa, fc, rfl⟩ := hT.shape
  have hHT := CsR.take h hFg hcap i (by omega)
  have hlt : (cs.take i).length ≤ 3518437208883 := by rw [List.length_take]; omega
  have i0 : (0 : Int) ≤ (i : Int) := by omega
  have i1 : (i : Int) < (cs.length : Int) := by omega
  have i2 : (i : Int) ≤ (cap : Int) := by omega
  have i3 : (i : Int) ≤ (cs.length : Int) := by omega
  generalize hn : cs[i].1 = n at *
  generalize hfs : cs[i].2 = fs at *
  have HE : Hid (caseE (cs.take i) cs[i] = if bigR n = false then 13 else if (cs.take i).any (fun d => decide (d.1 = n)) = true then 13 else if 4 < fs.length then 19 else if fs.all rightR = true then 0 else 17) := by
    rw [hid_iff, ← hn, ← hfs]
    rfl
  have hb0 : Below w.heap.size w (w.alloc (.cells #[.string (str n), .slice fa fs.length fc] 58)) := (Below.refl _ _).alloc (Nat.le_refl _) _
  have hN := heap_alloc_new w (.cells #[.string (str n), .slice fa fs.length fc] 58)
  have hB := fun u => big (str n) u (by rw [str_size]; unfold Tk at hc1; omega)
  rw [str_data] at hB
  have hH : ∀ u, Below w.heap.size w u → Calls Tryz.prog 245 #[.slice (some ⟨g, o, none⟩) i cap, .string (str n)] u (BoolB ((cs.take i).any (fun d => decide (d.1 = n))) u) := fun u hu =>
    hasCase F _ (cs.take i) n u (hHT.below hu hF) (fun g hg => Nat.lt_of_lt_of_le (hF g hg) hu.size) hlt
  have hA : ∀ u, Below w.heap.size w u → Calls Tryz.prog 246 #[.slice fa fs.length fc] u (BoolB (fs.all rightR) u) := fun u hu =>
    allTypes F _ fs u (hT.below hu hF) (fun g hg => Nat.lt_of_lt_of_le (hF g hg) hu.size) hc2
  generalize (cs.take i).any (fun d => decide (d.1 = n)) = an at *
  generalize fs.all rightR = al at *
  have hQ : ∀ u, Below (w.alloc (.cells #[.string (str n), .slice fa fs.length fc] 58)).heap.size (w.alloc (.cells #[.string (str n), .slice fa fs.length fc] 58)) u → u.cell? ⟨w.heap.size, 1, none⟩ = some (.slice fa fs.length fc) := fun u hu => by
    have hn := (hu.block w.heap.size (by simp)).trans hN
    rw [cell_of_row u _ 1 _ _ _ hn]
    rfl
  clear h hT hHT hok hc1 hc3 hlt hn hfs hN
  cases hbg : bigR n
  · rw [hbg] at hB
    have HV : Hid (caseE (cs.take i) cs[i] = 13) := by rw [hid_iff, HE.out, if_pos hbg]
    clear hH hA hQ hbg HE
    go_enter Tryz.func219, Tryz.ntmps219
    go_wp2_with fail
    refine (hB _).mono ?_
    rintro e w1 ⟨rfl, hw1⟩
    obtain rfl := hw1.symm
    go_wp2
    go_ret
    exact ⟨(by rw [HV.out]; rfl), hb0⟩
  · rw [hbg] at hB
    have HE2 := HE.out
    rw [if_neg (by rw [hbg]; simp)] at HE2
    have HE3 := hidden HE2
    clear hbg HE HE2
    go_enter Tryz.func219, Tryz.ntmps219
    go_wp2_with fail
    refine (hB _).mono ?_
    rintro e w1 ⟨rfl, hw1⟩
    obtain rfl := hw1.symm
    go_wp2_with fail
    go_cut [10] from 15 to 20 (fun c wx => c = .bool an ∧ Below (w.alloc (.cells #[.string (str n), .slice fa fs.length fc] 58)).heap.size (w.alloc (.cells #[.string (str n), .slice fa fs.length fc] 58)) wx)
    case first =>
      go_region_with (go_at_call 245; refine (hH _ (by first | exact below_drew hb0 | exact hb0)).mono ?_; rintro e w2 ⟨rfl, hb2⟩)
      all_goals (
        go_wp2_with fail
        go_meet
        exact ⟨rfl, below_undrew hb2⟩)
    case rest =>
      obtain ⟨rfl, hb3⟩ := hcut
      have hb4 := below_trans hb0 hb3
      have y1 := hQ _ hb3
      clear hb3 hQ hB hH
      cases an
      · by_cases h4 : 4 < fs.length
        · have HV : Hid (caseE (cs.take i) cs[i] = 19) := by rw [hid_iff, HE3.out, if_neg (by simp), if_pos h4]
          have h4i : (4 : Int) < (fs.length : Int) := by omega
          clear hA HE3
          go_wp2
          go_ret
          exact ⟨(by rw [HV.out]; rfl), hb4⟩
        · have h4i : ¬ (4 : Int) < (fs.length : Int) := by omega
          have hA2 := hA _ hb4
          clear hA
          go_wp2_with fail
          refine hA2.mono ?_
          rintro e w5 ⟨rfl, hb5⟩
          have hb6 := below_trans hb4 hb5
          clear hA2
          cases al
          · have HV : Hid (caseE (cs.take i) cs[i] = 17) := by rw [hid_iff, HE3.out, if_neg (by simp), if_neg h4, if_neg (by simp)]
            clear HE3
            go_wp2
            go_ret
            exact ⟨(by rw [HV.out]; rfl), hb6⟩
          · have HV : Hid (caseE (cs.take i) cs[i] = 0) := by rw [hid_iff, HE3.out, if_neg (by simp), if_neg h4, if_pos rfl]
            clear HE3
            go_wp2
            go_ret
            exact ⟨(by rw [HV.out]; rfl), hb6⟩
      · have HV : Hid (caseE (cs.take i) cs[i] = 13) := by rw [hid_iff, HE3.out, if_pos rfl]
        clear hA HE3
        go_wp2
        go_ret
        exact ⟨(by rw [HV.out]; rfl), hb4⟩
end Go.Proofs.YtdeckknfolaaeaaGreatDoor

namespace Go.Proofs.YtdeckknfolaaeaaGreatDoor
open Go.RowKit

set_option maxRecDepth 1000000 in
theorem isIndex (n c : Int) (w : World) : Calls Tryz.prog 83 #[.int .i64 n, .int .i64 c] w (Pu (.bool (inO n c)) w) := by
  by_cases h0 : 0 ≤ n
  · by_cases h1 : n < c
    · have HV : Hid (inO n c = true) := by rw [hid_iff]; simp [inO, h0, h1]
      go_enter Tryz.func83, Tryz.ntmps83
      go_wp2
      go_ret
      exact ⟨by rw [HV.out]; rfl, rfl⟩
    · have HV : Hid (inO n c = false) := by rw [hid_iff]; simp [inO, h1]
      go_enter Tryz.func83, Tryz.ntmps83
      go_wp2
      go_ret
      exact ⟨by rw [HV.out]; rfl, rfl⟩
  · have HV : Hid (inO n c = false) := by rw [hid_iff]; simp [inO, h0]
    go_enter Tryz.func83, Tryz.ntmps83
    go_wp2
    go_ret
    exact ⟨by rw [HV.out]; rfl, rfl⟩
theorem addk (b o k : Nat) : (⟨b, o, none⟩ : Addr).add k = ⟨b, o + k, none⟩ := by
  by_cases h0 : k = 0
  · subst h0; simp [Addr.add]
  · simp [Addr.add, h0]
set_option maxHeartbeats 1000000 in
set_option maxRecDepth 1000000 in
theorem osign (F : Nat → Prop) (f : Fn) (pv kv : Value) (w : World) (hp : TxC F w pv f.params) (hF : ∀ g, F g → g < w.heap.size) (hok : FnOk f) (hl : f.params.length ≤ 1000000) (hj : (joinR (f.params.drop (cutO f))).length ≤ 1000000000) (hr : f.res.length ≤ 1000000000) :
    Calls Tryz.prog 46 #[fnv f pv kv] w (TextB (signO f) w) := by
  obtain ⟨nm, ps, cp, rs, lc, cd⟩ := f
  obtain ⟨va, vc, rfl⟩ := hp.1.shape
  have hvc : ps.length ≤ vc := hp.2 _ _ _ rfl
  unfold fnv
  simp only at *
  have hcut : cutO ⟨nm, ps, cp, rs, lc, cd⟩ = min (max cp 0).toNat ps.length := rfl
  have HS : Hid (signO ⟨nm, ps, cp, rs, lc, cd⟩ = funcR (ps.drop (cutO ⟨nm, ps, cp, rs, lc, cd⟩)) rs) := rfl
  obtain ⟨k, hk⟩ : ∃ k : Nat, min (max cp 0) (ps.length : Int) = (k : Int) := ⟨(min (max cp 0) (ps.length : Int)).toNat, by omega⟩
  have hkc : cutO ⟨nm, ps, cp, rs, lc, cd⟩ = k := by rw [hcut]; omega
  rw [hkc] at HS hj
  clear hcut hkc hok
  have hkl : k ≤ ps.length := by omega
  have hb0 : Below w.heap.size w (w.alloc (.cells #[.string (str nm), .slice va ps.length vc, .int .i64 cp, .string (str rs), .int .i64 lc, kv] 63)) := (Below.refl _ _).alloc (Nat.le_refl _) _
  have hS : ∀ a' n' c', n' = ps.length - k → (ps.length - k = 0 ∨ a' = va.map (·.add k) ∧ c' = vc - k) → StrRow w (.slice a' n' c') (ps.drop k) := by
    rintro a' n' c' rfl ha
    by_cases h0 : ps.length - k = 0
    · exact .inl ⟨List.drop_of_length_le (by omega), a', c', by rw [h0]⟩
    · rcases ha with h1 | ⟨rfl, rfl⟩
      · exact absurd h1 h0
      · rcases hp.1 with ⟨a, c0, e, rfl⟩ | ⟨g, o, cap, e, hg, hcell⟩
        · exact absurd (by simp) h0
        · simp only [Value.slice.injEq, true_and] at e
          obtain ⟨rfl, rfl⟩ := e
          refine .inr ⟨g, o + k, vc - k, by simp [addk], hF g hg, by simp; omega, fun j x hx => ?_⟩
          rw [List.getElem?_drop] at hx
          rw [Nat.add_assoc]
          exact hcell _ x hx
  have hT : ∀ u a' n' c', Below w.heap.size w u → n' = ps.length - k → (ps.length - k = 0 ∨ a' = va.map (·.add k) ∧ c' = vc - k) → Calls Tryz.prog 47 #[.slice a' n' c', .string (str rs)] u (TextB (funcR (ps.drop k) rs) u) := by
    intro u a' n' c' hu h1 h2
    exact func _ _ rs u ((hS a' n' c' h1 h2).below hu) (by simp; omega) hj hr
  generalize funcR (ps.drop k) rs = res at *
  clear hS hj hr
  have k0 : (0 : Int) ≤ (k : Int) := by omega
  have k1 : (k : Int) ≤ (ps.length : Int) := by omega
  have k2 : (k : Int) ≤ (vc : Int) := by omega
  have k3 : (ps.length : Int) ≤ (vc : Int) := by omega
  have hva : va = none ∧ ps.length = 0 ∨ ∃ b o sp, va = some ⟨b, o, sp⟩ := by
    rcases va with _ | ⟨b, o, sp⟩
    · left
      rcases hp.1 with ⟨a, c0, e, h⟩ | ⟨g, o, cap, e, hg, hcell⟩
      · exact ⟨rfl, by rw [h]; rfl⟩
      · simp at e
    · exact .inr ⟨b, o, sp, rfl⟩
  clear hp
  generalize ps.length = n at *
  rcases hva with ⟨rfl, h0⟩ | ⟨b, o, sp, rfl⟩
  · subst h0
    by_cases hv : vc = k
    · subst hv
      go_enter Tryz.func46, Tryz.ntmps46
      go_wp2_with fail
      go_region_with (go_at_call 47; refine (hT _ _ _ _ (by first | exact below_drew hb0 | exact hb0) (by omega) (by first | exact .inl (by omega) | exact .inr ⟨rfl, rfl⟩)).mono ?_; rintro e w2 ⟨rfl, hb2⟩)
      all_goals (
        go_wp2
        go_ret
        exact ⟨(by rw [HS.out]; first | done | rfl), by first | exact below_trans hb0 (below_undrew hb2) | exact below_trans hb0 hb2⟩)
    · have hvi : ¬ (vc : Int) = (k : Int) := by omega
      go_enter Tryz.func46, Tryz.ntmps46
      go_wp2_with fail
      go_region_with (go_at_call 47; refine (hT _ _ _ _ (by first | exact below_drew hb0 | exact hb0) (by omega) (by first | exact .inl (by omega) | exact .inr ⟨rfl, rfl⟩)).mono ?_; rintro e w2 ⟨rfl, hb2⟩)
      all_goals (
        go_wp2
        go_ret
        exact ⟨(by rw [HS.out]; first | done | rfl), by first | exact below_trans hb0 (below_undrew hb2) | exact below_trans hb0 hb2⟩)
  · by_cases hv : vc = k
    · subst hv
      go_enter Tryz.func46, Tryz.ntmps46
      go_wp2_with fail
      go_region_with (go_at_call 47; refine (hT _ _ _ _ (by first | exact below_drew hb0 | exact hb0) (by omega) (by first | exact .inl (by omega) | exact .inr ⟨rfl, rfl⟩)).mono ?_; rintro e w2 ⟨rfl, hb2⟩)
      all_goals (
        go_wp2
        go_ret
        exact ⟨(by rw [HS.out]; first | done | rfl), by first | exact below_trans hb0 (below_undrew hb2) | exact below_trans hb0 hb2⟩)
    · have hvi : ¬ (vc : Int) = (k : Int) := by omega
      go_enter Tryz.func46, Tryz.ntmps46
      go_wp2_with fail
      go_region_with (go_at_call 47; refine (hT _ _ _ _ (by first | exact below_drew hb0 | exact hb0) (by omega) (by first | exact .inl (by omega) | exact .inr ⟨rfl, rfl⟩)).mono ?_; rintro e w2 ⟨rfl, hb2⟩)
      all_goals (
        go_wp2
        go_ret
        exact ⟨(by rw [HS.out]; first | done | rfl), by first | exact below_trans hb0 (below_undrew hb2) | exact below_trans hb0 hb2⟩)
end Go.Proofs.YtdeckknfolaaeaaGreatDoor
