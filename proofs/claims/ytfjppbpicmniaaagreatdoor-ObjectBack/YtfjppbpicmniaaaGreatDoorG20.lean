/-
  The package's isKind, isNamed, allTypes, hasCase, isFunction, rightValue.
  And: slices.IndexFunc and slices.ContainsFunc at the lists of an object; isGlobal, isFun.
-/
import Derived.Deep.LoopGhost
import Derived.Deep.RegionLaw
import Derived.Test.YtfjppbpicmniaaaGreatDoorG09
import Derived.Test.YtfjppbpicmniaaaGreatDoorG05
import Derived.Test.YtfjppbpicmniaaaGreatDoorG10
namespace Go.Proofs.YtfjppbpicmniaaaGreatDoor
open Go.RowKit

set_option maxRecDepth 1000000 in
theorem isKind (k : Int) (w : World) : Calls Tryz.prog 170 #[.int .i64 k] w (Pu (.bool (kindE k)) w) := by
  unfold kindE
  by_cases h1 : k = 1
  · subst h1
    go_enter Tryz.func170, Tryz.ntmps170
    go_wp2
    go_ret
    exact ⟨rfl, rfl⟩
  · by_cases h2 : k = 2
    · subst h2
      go_enter Tryz.func170, Tryz.ntmps170
      go_wp2
      go_ret
      exact ⟨rfl, rfl⟩
    · have e1 : (k == 1) = false := by rw [beq_eq_false_iff_ne]; exact h1
      have e2 : (k == 2) = false := by rw [beq_eq_false_iff_ne]; exact h2
      rw [decide_eq_false h1, decide_eq_false h2, Bool.false_or, Bool.false_or]
      by_cases h3 : k = 3
      · subst h3
        go_enter Tryz.func170, Tryz.ntmps170
        go_wp2
        go_ret
        exact ⟨rfl, rfl⟩
      · have e3 : (k == 3) = false := by rw [beq_eq_false_iff_ne]; exact h3
        rw [decide_eq_false h3]
        clear h1 h2 h3
        go_enter Tryz.func170, Tryz.ntmps170
        go_wp2
        go_ret
        exact ⟨rfl, rfl⟩
set_option maxHeartbeats 1000000 in
set_option maxRecDepth 1000000 in
theorem isNamed (x : It) (cv : Value) (w : World) (hn : Tk x.name) : Calls Tryz.prog 171 #[itv x cv] w (BoolB (namedE x) w) := by
  obtain ⟨k, n, t, c⟩ := x
  unfold itv namedE
  unfold Tk at hn
  simp only at hn ⊢
  have hb0 : Below w.heap.size w (w.alloc (.cells #[.int .i64 k, .string (str n), .string (str t), cv] 78)) := (Below.refl _ _).alloc (Nat.le_refl _) _
  have hB := fun u => big (str n) u (by rw [str_size]; omega)
  have hV := fun u => value (str n) u (by rw [str_size]; omega)
  rw [str_data] at hB hV
  by_cases h1 : k = 1
  · subst h1
    rw [if_pos rfl]
    generalize bigR n = r at *
    clear hV hn
    go_enter Tryz.func171, Tryz.ntmps171
    go_wp2_with fail
    refine (hB _).mono ?_
    rintro e w1 ⟨rfl, rfl⟩
    go_wp2
    go_ret
    exact ⟨rfl, hb0⟩
  · have e1 : (k == 1) = false := by rw [beq_eq_false_iff_ne]; exact h1
    rw [if_neg h1]
    generalize valueR n = r at *
    clear hB hn h1
    go_enter Tryz.func171, Tryz.ntmps171
    go_wp2_with fail
    refine (hV _).mono ?_
    rintro e w1 ⟨rfl, rfl⟩
    go_wp2
    go_ret
    exact ⟨rfl, hb0⟩
theorem all_next {xs : List (List UInt8)} {k : Nat} (hk : k < xs.length) (h : (xs.take k).all rightR = true) (hr : rightR xs[k] = true) : (xs.take (k + 1)).all rightR = true := by
  rw [List.take_succ_eq_append_getElem hk, List.all_append, h, List.all_cons, hr]
  rfl
theorem all_not {xs : List (List UInt8)} {k : Nat} (hk : k < xs.length) (hr : rightR xs[k] = false) : xs.all rightR = false := by
  rw [Bool.eq_false_iff]
  intro h
  have := List.all_eq_true.1 h _ (List.getElem_mem hk)
  rw [hr] at this
  cases this
set_option maxHeartbeats 2000000 in
set_option maxRecDepth 1000000 in
theorem allTypes (F : Nat → Prop) (v : Value) (xs : List (List UInt8)) (w : World) (h : TxR F w v xs) (hF : ∀ g, F g → g < w.heap.size) (hl : xs.length ≤ 8796093022208) : Calls Tryz.prog 198 #[v] w (BoolB (xs.all rightR) w) := by
  obtain ⟨va, vc, rfl⟩ := h.shape
  have H := hidden h
  clear h
  go_enter Tryz.func198, Tryz.ntmps198
  go_wp2
  go_loopg [7] xs.length (fun g i wr => ∃ (k : Nat), g + k = xs.length ∧ i = .int .i64 (k : Int) ∧ Hid ((xs.take k).all rightR = true) ∧ Below w.heap.size w wr)
  case atStart => exact ⟨0, by omega, rfl, by rw [hid_iff]; rfl, Below.refl _ _⟩
  case round =>
    obtain ⟨k, hg, rfl, hq, hbl⟩ := hrel
    by_cases hk : k < xs.length
    · obtain ⟨g, o, cap, e1, hFg, q⟩ := (H.out.below hbl hF).at k hk
      simp only [Value.slice.injEq, true_and] at e1
      obtain ⟨rfl, rfl⟩ := e1
      have hki : (k : Int) < (xs.length : Int) := by omega
      have hr := fun u => right (str xs[k]) u
      rw [str_data] at hr
      cases hb : rightR xs[k]
      · rw [hb] at hr
        have HF : Hid (xs.all rightR = false) := all_not hk hb
        generalize xs[k] = x at *
        clear hq hb
        go_wp2_with fail
        refine (hr _).mono ?_
        rintro e w1 ⟨rfl, hb1⟩
        go_wp2
        go_ret
        exact ⟨(by rw [HF.out]; first | done | rfl), below_trans hbl hb1⟩
      · rw [hb] at hr
        have HQ : Hid ((xs.take (k + 1)).all rightR = true) := all_next hk hq.out hb
        generalize xs[k] = x at *
        clear hq hb
        go_wp2_with fail
        refine (hr _).mono ?_
        rintro e w1 ⟨rfl, hb1⟩
        have hb2 := below_trans hbl hb1
        go_wp2
        go_roundg (xs.length - (k + 1))
        case measure => omega
        case rel => exact ⟨k + 1, by omega, by go_num, HQ, hb2⟩
    · have hki : ¬ (k : Int) < (xs.length : Int) := by omega
      have HA : Hid (xs.all rightR = true) := by
        have := hq.out
        rwa [List.take_of_length_le (by omega)] at this
      clear hq
      go_wp2
      go_ret
      exact ⟨(by rw [HA.out]; first | done | rfl), hbl⟩
set_option maxHeartbeats 1000000 in
set_option maxRecDepth 1000000 in
theorem hasCase1 (c : Cs) (fv : Value) (b : Nat) (n : List UInt8) (w : World) (hb : w.cell? ⟨b, 0, none⟩ = some (.string (str n))) : Calls Tryz.prog 212 #[csv c fv, .pointer (some ⟨b, 0, none⟩)] w (BoolB (decide (c.1 = n)) w) := by
  obtain ⟨x, fs⟩ := c
  unfold csv
  simp only
  have hbl := World.block_lt_of_cell? w _ hb
  have hb0 : Below w.heap.size w (w.alloc (.cells #[.string (str x), fv] 204)) := (Below.refl _ _).alloc (Nat.le_refl _) _
  have he := eq_is x n
  generalize decide (x = n) = r at *
  have hlt : b < w.heap.size := hbl
  clear hbl
  go_enter Tryz.func212, Tryz.ntmps212
  go_wp2
  go_ret
  exact ⟨rfl, hb0⟩
/-- Where the case of that name is. -/
def IdxB (r : Bool) (w : World) (e : Ending) (w' : World) : Prop := ∃ i : Int, e = .returned (.int .i64 i) ∧ decide (0 ≤ i) = r ∧ -1 ≤ i ∧ i ≤ 9223372036854775807 ∧ Below w.heap.size w w'
set_option maxHeartbeats 2000000 in
set_option maxRecDepth 1000000 in
theorem indexFunc (F : Nat → Prop) (v : Value) (cs : List Cs) (b : Nat) (n : List UInt8) (w : World) (h : CsR F w v cs) (hF : ∀ g, F g → g < w.heap.size) (hl : cs.length ≤ 3518437208883) (hb : w.cell? ⟨b, 0, none⟩ = some (.string (str n))) :
    Calls Tryz.prog 219 #[v, .func (.func 212) #[] #[.pointer (some ⟨b, 0, none⟩)]] w (IdxB (cs.any (fun d => decide (d.1 = n))) w) := by
  obtain ⟨va, vc, rfl⟩ := h.shape
  have H := hidden h
  have HB := hidden hb
  have hbl : b < w.heap.size := World.block_lt_of_cell? w _ hb
  clear h hb
  go_enter Tryz.func219, Tryz.ntmps219
  go_wp2
  go_loopg [8] cs.length (fun g i wr => ∃ (k : Nat), g + k = cs.length ∧ i = .int .i64 (k : Int) ∧ Hid ((cs.take k).any (fun d => decide (d.1 = n)) = false) ∧ Below w.heap.size w wr)
  case atStart => exact ⟨0, by omega, rfl, by rw [hid_iff]; rfl, Below.refl _ _⟩
  case round =>
    obtain ⟨k, hg, rfl, hq, hbw⟩ := hrel
    by_cases hk : k < cs.length
    · obtain ⟨g, o, cap, fv, e1, _, hFg, _, q0, q1⟩ := (H.out.below hbw hF).at k hk
      simp only [Value.slice.injEq, true_and] at e1
      obtain ⟨rfl, rfl⟩ := e1
      have hki : (k : Int) < (cs.length : Int) := by omega
      have hc := hasCase1 cs[k] fv b n wr ((World.cell?_of_block (a := ⟨b, 0, none⟩) (hbw.block b hbl)).trans HB.out)
      unfold csv at hc
      by_cases hx : cs[k].1 = n
      · rw [decide_eq_true hx] at hc
        have HA : Hid (cs.any (fun d => decide (d.1 = n)) = true) := by
          rw [hid_iff, List.any_eq_true]
          exact ⟨_, List.getElem_mem hk, decide_eq_true hx⟩
        generalize cs[k].1 = x at *
        clear hq hx
        go_wp2_with fail
        refine hc.mono ?_
        rintro e w1 ⟨rfl, hb1⟩
        have hb2 := below_trans hbw hb1
        go_wp2
        go_ret
        exact ⟨(k : Int), rfl, by rw [HA.out]; exact decide_eq_true (by omega), by omega, by omega, hb2⟩
      · rw [decide_eq_false hx] at hc
        have HQ : Hid ((cs.take (k + 1)).any (fun d => decide (d.1 = n)) = false) := by
          rw [hid_iff, List.take_succ_eq_append_getElem hk, List.any_append, hq.out, List.any_cons, decide_eq_false hx]
          rfl
        generalize cs[k].1 = x at *
        clear hq hx
        go_wp2_with fail
        refine hc.mono ?_
        rintro e w1 ⟨rfl, hb1⟩
        have hb2 := below_trans hbw hb1
        go_wp2
        go_roundg (cs.length - (k + 1))
        case measure => omega
        case rel => exact ⟨k + 1, by omega, by go_num, HQ, hb2⟩
    · have hki : ¬ (k : Int) < (cs.length : Int) := by omega
      have HA : Hid (cs.any (fun d => decide (d.1 = n)) = false) := by
        have := hq.out
        rwa [List.take_of_length_le (by omega)] at this
      clear hq
      go_wp2
      go_ret
      exact ⟨-1, rfl, (by rw [HA.out]; first | done | rfl), by omega, by omega, hbw⟩
set_option maxHeartbeats 1000000 in
set_option maxRecDepth 1000000 in
theorem containsFunc (F : Nat → Prop) (v : Value) (cs : List Cs) (b : Nat) (n : List UInt8) (w : World) (h : CsR F w v cs) (hF : ∀ g, F g → g < w.heap.size) (hl : cs.length ≤ 3518437208883) (hb : w.cell? ⟨b, 0, none⟩ = some (.string (str n))) :
    Calls Tryz.prog 211 #[v, .func (.func 212) #[] #[.pointer (some ⟨b, 0, none⟩)]] w (BoolB (cs.any (fun d => decide (d.1 = n))) w) := by
  have hi := indexFunc F v cs b n w h hF hl hb
  obtain ⟨va, vc, rfl⟩ := h.shape
  generalize cs.any (fun d => decide (d.1 = n)) = r at *
  clear h hF hb
  go_enter Tryz.func211, Tryz.ntmps211
  go_wp2_with fail
  refine hi.mono ?_
  rintro e w1 ⟨i, rfl, hr, hi1, hi2, hb1⟩
  go_wp2
  go_ret
  exact ⟨(by rw [← hr]; first | done | rfl), hb1⟩
set_option maxHeartbeats 1000000 in
set_option maxRecDepth 1000000 in
theorem hasCase (F : Nat → Prop) (v : Value) (cs : List Cs) (n : List UInt8) (w : World) (h : CsR F w v cs) (hF : ∀ g, F g → g < w.heap.size) (hl : cs.length ≤ 3518437208883) :
    Calls Tryz.prog 197 #[v, .string (str n)] w (BoolB (cs.any (fun d => decide (d.1 = n))) w) := by
  have hb0 : Below w.heap.size w (w.alloc (.cells #[.string (str n)] 9)) := (Below.refl _ _).alloc (Nat.le_refl _) _
  have hc := cells_new w [.string (str n)] 9 0 _ rfl
  rw [add_at] at hc
  have hi := containsFunc F v cs w.heap.size n _ (h.below hb0 hF) (fun g hg => by have := hF g hg; simp; omega) hl hc
  obtain ⟨va, vc, rfl⟩ := h.shape
  generalize cs.any (fun d => decide (d.1 = n)) = r at *
  clear h hF hc
  go_enter Tryz.func197, Tryz.ntmps197
  go_wp2_with fail
  refine hi.mono ?_
  rintro e w1 ⟨rfl, hb1⟩
  have hb2 := below_trans hb0 hb1
  go_wp2
  go_ret
  exact ⟨rfl, hb2⟩
set_option maxHeartbeats 1000000 in
set_option maxRecDepth 1000000 in
theorem isFunction (s : List UInt8) (w : World) : Calls Tryz.prog 196 #[.string (str s)] w (BoolB (isFnT s) w) := by
  have hp := partsOf (str s) w
  unfold PartsE at hp
  rw [str_data] at hp
  go_enter Tryz.func196, Tryz.ntmps196
  go_wp2_with fail
  refine hp.mono ?_
  rintro e w1 ⟨⟨h1, v, rfl, hv⟩ | ⟨h1, rfl⟩, hb⟩
  · obtain ⟨va, vc, rfl⟩ := hv.shape
    have H1 : Hid (isFnT s = true) := h1
    clear h1 hv hp
    go_wp2
    go_ret
    exact ⟨(by rw [H1.out]; first | done | rfl), hb⟩
  · have H1 : Hid (isFnT s = false) := h1
    clear h1 hp
    go_wp2
    go_ret
    exact ⟨(by rw [H1.out]; first | done | rfl), hb⟩
set_option maxHeartbeats 2000000 in
set_option maxRecDepth 1000000 in
theorem rightValue (F : Nat → Prop) (x : It) (cv : Value) (w : World) (h : CsR F w cv x.cases) (ht : Tk x.ty) : Calls Tryz.prog 172 #[itv x cv] w (NumB (valueE x) w) := by
  obtain ⟨k, n, t, c⟩ := x
  obtain ⟨va, vc, rfl⟩ := h.shape
  unfold itv valueE
  simp only at ht ⊢
  have hb0 : Below w.heap.size w (w.alloc (.cells #[.int .i64 k, .string (str n), .string (str t), .slice va c.length vc] 78)) := (Below.refl _ _).alloc (Nat.le_refl _) _
  have hR := fun u => right (str t) u
  have hI := fun u => isFunction t u
  rw [str_data] at hR
  clear h ht
  by_cases hc : 0 < c.length
  · rw [if_pos hc]
    have hci : (0 : Int) < (c.length : Int) := by omega
    clear hR hI
    go_enter Tryz.func172, Tryz.ntmps172
    go_wp2
    go_ret
    exact ⟨rfl, hb0⟩
  · rw [if_neg hc]
    have hci : ¬ (0 : Int) < (c.length : Int) := by omega
    cases hr : rightR t
    · rw [hr] at hR
      rw [if_pos rfl]
      clear hI hr
      go_enter Tryz.func172, Tryz.ntmps172
      go_wp2_with fail
      refine (hR _).mono ?_
      rintro e w1 ⟨rfl, hb1⟩
      have hb2 := below_trans hb0 hb1
      go_wp2
      go_ret
      exact ⟨rfl, hb2⟩
    · rw [hr] at hR
      rw [if_neg (by simp)]
      have q0 : ∀ u, Below (w.alloc (.cells #[.int .i64 k, .string (str n), .string (str t), .slice va c.length vc] 78)).heap.size (w.alloc (.cells #[.int .i64 k, .string (str n), .string (str t), .slice va c.length vc] 78)) u → u.cell? ⟨w.heap.size, 0, none⟩ = some (.int .i64 k) ∧ u.cell? ⟨w.heap.size, 2, none⟩ = some (.string (str t)) := by
        intro u hu
        have hn := (hu.block w.heap.size (by simp)).trans (heap_alloc_new w (.cells #[.int .i64 k, .string (str n), .string (str t), .slice va c.length vc] 78))
        exact ⟨by rw [cell_of_row u _ 0 _ _ _ hn]; rfl, by rw [cell_of_row u _ 2 _ _ _ hn]; rfl⟩
      clear hr
      by_cases hk : k = 3
      · subst hk
        cases hf : isFnT t
        · rw [hf] at hI
          rw [if_pos ⟨rfl, rfl⟩]
          clear hf
          go_enter Tryz.func172, Tryz.ntmps172
          go_wp2_with fail
          refine (hR _).mono ?_
          rintro e w1 ⟨rfl, hb1⟩
          obtain ⟨y0, y2⟩ := q0 w1 hb1
          have hb2 := below_trans hb0 hb1
          go_wp2_with fail
          refine (hI _).mono ?_
          rintro e w3 ⟨rfl, hb3⟩
          have hb4 := below_trans hb2 hb3
          go_wp2
          go_ret
          exact ⟨rfl, hb4⟩
        · rw [hf] at hI
          rw [if_neg (by simp)]
          clear hf
          go_enter Tryz.func172, Tryz.ntmps172
          go_wp2_with fail
          refine (hR _).mono ?_
          rintro e w1 ⟨rfl, hb1⟩
          obtain ⟨y0, y2⟩ := q0 w1 hb1
          have hb2 := below_trans hb0 hb1
          go_wp2_with fail
          refine (hI _).mono ?_
          rintro e w3 ⟨rfl, hb3⟩
          have hb4 := below_trans hb2 hb3
          go_wp2
          go_ret
          exact ⟨rfl, hb4⟩
      · have ek : (k == 3) = false := by rw [beq_eq_false_iff_ne]; exact hk
        rw [if_neg (fun h => hk h.1)]
        clear hk hI
        go_enter Tryz.func172, Tryz.ntmps172
        go_wp2_with fail
        refine (hR _).mono ?_
        rintro e w1 ⟨rfl, hb1⟩
        obtain ⟨y0, y2⟩ := q0 w1 hb1
        have hb2 := below_trans hb0 hb1
        go_wp2
        go_ret
        exact ⟨rfl, hb2⟩
end Go.Proofs.YtfjppbpicmniaaaGreatDoor

namespace Go.Proofs.YtfjppbpicmniaaaGreatDoor
open Go.RowKit

set_option maxHeartbeats 2000000 in
set_option maxRecDepth 1000000 in
theorem idxI (F : Nat → Prop) (v : Value) (l : List It) (b : Nat) (p : It → Bool) (w : World) (h : ItR F w v l) (hF : ∀ g, F g → g < w.heap.size) (hl : l.length ≤ 3518437208883) 
    (hp : ∀ (k : Nat) (hk : k < l.length) (cv : Value) (wr : World), Below w.heap.size w wr → CsR F wr cv l[k].cases → Calls Tryz.prog 74 #[itv l[k] cv, .pointer (some ⟨b, 0, none⟩)] wr (BoolB (p l[k]) wr)) :
    Calls Tryz.prog 132 #[v, .func (.func 74) #[] #[.pointer (some ⟨b, 0, none⟩)]] w (IdxB (l.any p) w) := by
  obtain ⟨va, vc, rfl⟩ := h.shape
  have H := hidden h
  have HP := hidden hp
  clear h hp
  go_enter Tryz.func132, Tryz.ntmps132
  go_wp2
  go_loopg [8] l.length (fun g i wr => ∃ (k : Nat), g + k = l.length ∧ i = .int .i64 (k : Int) ∧ Hid ((l.take k).any p = false) ∧ Below w.heap.size w wr)
  case atStart => exact ⟨0, by omega, rfl, by rw [hid_iff]; rfl, Below.refl _ _⟩
  case round =>
    obtain ⟨k, hg, rfl, hq, hbw⟩ := hrel
    by_cases hk : k < l.length
    · obtain ⟨g, o, cap, cv, e1, hFg, hC, q0, q1, q2, q3⟩ := (H.out.below hbw hF).at k hk
      simp only [Value.slice.injEq, true_and] at e1
      obtain ⟨rfl, rfl⟩ := e1
      have hc := HP.out k hk cv wr hbw hC
      unfold itv at hc
      generalize l[k].name = xn at *
      generalize l[k].kind = xk at *
      generalize l[k].ty = xt at *
      have hki : (k : Int) < (l.length : Int) := by omega
      cases hx : p l[k]
      · rw [hx] at hc
        have HQ : Hid ((l.take (k + 1)).any p = false) := by
          rw [hid_iff, List.take_succ_eq_append_getElem hk, List.any_append, hq.out, List.any_cons, hx]
          rfl
        clear hq hx
        go_wp2_with fail
        refine hc.mono ?_
        rintro e w1 ⟨rfl, hb1⟩
        have hb2 := below_trans hbw hb1
        go_wp2
        go_roundg (l.length - (k + 1))
        case measure => omega
        case rel => exact ⟨k + 1, by omega, by go_num, HQ, hb2⟩
      · rw [hx] at hc
        have HA : Hid (l.any p = true) := by
          rw [hid_iff, List.any_eq_true]
          exact ⟨_, List.getElem_mem hk, hx⟩
        clear hq hx
        go_wp2_with fail
        refine hc.mono ?_
        rintro e w1 ⟨rfl, hb1⟩
        have hb2 := below_trans hbw hb1
        go_wp2
        go_ret
        exact ⟨(k : Int), rfl, by rw [HA.out]; exact decide_eq_true (by omega), by omega, by omega, hb2⟩
    · have hki : ¬ (k : Int) < (l.length : Int) := by omega
      have HA : Hid (l.any p = false) := by
        have := hq.out
        rwa [List.take_of_length_le (by omega)] at this
      clear hq
      go_wp2
      go_ret
      exact ⟨-1, rfl, (by rw [HA.out]; first | done | rfl), by omega, by omega, hbw⟩
set_option maxHeartbeats 1000000 in
set_option maxRecDepth 1000000 in
theorem conI (F : Nat → Prop) (v : Value) (l : List It) (b : Nat) (p : It → Bool) (w : World) (h : ItR F w v l) (hF : ∀ g, F g → g < w.heap.size) (hl : l.length ≤ 3518437208883) 
    (hp : ∀ (k : Nat) (hk : k < l.length) (cv : Value) (wr : World), Below w.heap.size w wr → CsR F wr cv l[k].cases → Calls Tryz.prog 74 #[itv l[k] cv, .pointer (some ⟨b, 0, none⟩)] wr (BoolB (p l[k]) wr)) :
    Calls Tryz.prog 73 #[v, .func (.func 74) #[] #[.pointer (some ⟨b, 0, none⟩)]] w (BoolB (l.any p) w) := by
  have hi := idxI F v l b p w h hF hl  hp
  obtain ⟨va, vc, rfl⟩ := h.shape
  generalize l.any p = r at *
  clear h hF hp
  go_enter Tryz.func73, Tryz.ntmps73
  go_wp2_with fail
  refine hi.mono ?_
  rintro e w1 ⟨i, rfl, hr, hi1, hi2, hb1⟩
  go_wp2
  go_ret
  exact ⟨(by rw [← hr]; first | done | rfl), hb1⟩
def glv (x : Gl) : Value := .agg #[.string (str x.name), .string (str x.ty), .int .i64 x.fn]
def fnv (x : Fn) (pv kv : Value) : Value := .agg #[.string (str x.name), pv, .int .i64 x.caps, .string (str x.res), .int .i64 x.locals, kv]
def syv (x : Sy) (cv : Value) : Value := .agg #[.string (str x.mod), .int .i64 x.item.kind, .string (str x.item.name), .string (str x.item.ty), cv]
def rlv (x : Rl) : Value := .agg #[.int .i64 x.fn, .int .i64 x.place, .int .i64 x.sym]

set_option maxHeartbeats 2000000 in
set_option maxRecDepth 1000000 in
theorem idxG (F : Nat → Prop) (v : Value) (l : List Gl) (b : Nat) (p : Gl → Bool) (w : World) (h : GlR F w v l) (hF : ∀ g, F g → g < w.heap.size) (hl : l.length ≤ 3518437208883) 
    (hp : ∀ (k : Nat) (hk : k < l.length) (wr : World), Below w.heap.size w wr → Calls Tryz.prog 135 #[glv l[k], .pointer (some ⟨b, 0, none⟩)] wr (BoolB (p l[k]) wr)) :
    Calls Tryz.prog 177 #[v, .func (.func 135) #[] #[.pointer (some ⟨b, 0, none⟩)]] w (IdxB (l.any p) w) := by
  obtain ⟨va, vc, rfl⟩ := h.shape
  have H := hidden h
  have HP := hidden hp
  clear h hp
  go_enter Tryz.func177, Tryz.ntmps177
  go_wp2
  go_loopg [8] l.length (fun g i wr => ∃ (k : Nat), g + k = l.length ∧ i = .int .i64 (k : Int) ∧ Hid ((l.take k).any p = false) ∧ Below w.heap.size w wr)
  case atStart => exact ⟨0, by omega, rfl, by rw [hid_iff]; rfl, Below.refl _ _⟩
  case round =>
    obtain ⟨k, hg, rfl, hq, hbw⟩ := hrel
    by_cases hk : k < l.length
    · obtain ⟨g, o, cap, cs, e1, hcap, hFg, hC, hcell⟩ := (H.out.below cGl_stay hbw hF).at k hk
      simp only [Value.slice.injEq, true_and] at e1
      obtain ⟨rfl, rfl⟩ := e1
      have hc := HP.out k hk wr hbw
      unfold cGl at hC
      subst hC
      have q0 := hcell 0 _ rfl
      have q1 := hcell 1 _ rfl
      have q2 := hcell 2 _ rfl
      simp only [Nat.add_zero] at q0
      clear hcell
      unfold glv at hc
      generalize l[k].name = xn at *
      generalize l[k].ty = xt at *
      generalize l[k].fn = xf at *
      have hki : (k : Int) < (l.length : Int) := by omega
      cases hx : p l[k]
      · rw [hx] at hc
        have HQ : Hid ((l.take (k + 1)).any p = false) := by
          rw [hid_iff, List.take_succ_eq_append_getElem hk, List.any_append, hq.out, List.any_cons, hx]
          rfl
        clear hq hx
        go_wp2_with fail
        refine hc.mono ?_
        rintro e w1 ⟨rfl, hb1⟩
        have hb2 := below_trans hbw hb1
        go_wp2
        go_roundg (l.length - (k + 1))
        case measure => omega
        case rel => exact ⟨k + 1, by omega, by go_num, HQ, hb2⟩
      · rw [hx] at hc
        have HA : Hid (l.any p = true) := by
          rw [hid_iff, List.any_eq_true]
          exact ⟨_, List.getElem_mem hk, hx⟩
        clear hq hx
        go_wp2_with fail
        refine hc.mono ?_
        rintro e w1 ⟨rfl, hb1⟩
        have hb2 := below_trans hbw hb1
        go_wp2
        go_ret
        exact ⟨(k : Int), rfl, by rw [HA.out]; exact decide_eq_true (by omega), by omega, by omega, hb2⟩
    · have hki : ¬ (k : Int) < (l.length : Int) := by omega
      have HA : Hid (l.any p = false) := by
        have := hq.out
        rwa [List.take_of_length_le (by omega)] at this
      clear hq
      go_wp2
      go_ret
      exact ⟨-1, rfl, (by rw [HA.out]; first | done | rfl), by omega, by omega, hbw⟩
set_option maxHeartbeats 1000000 in
set_option maxRecDepth 1000000 in
theorem conG (F : Nat → Prop) (v : Value) (l : List Gl) (b : Nat) (p : Gl → Bool) (w : World) (h : GlR F w v l) (hF : ∀ g, F g → g < w.heap.size) (hl : l.length ≤ 3518437208883) 
    (hp : ∀ (k : Nat) (hk : k < l.length) (wr : World), Below w.heap.size w wr → Calls Tryz.prog 135 #[glv l[k], .pointer (some ⟨b, 0, none⟩)] wr (BoolB (p l[k]) wr)) :
    Calls Tryz.prog 134 #[v, .func (.func 135) #[] #[.pointer (some ⟨b, 0, none⟩)]] w (BoolB (l.any p) w) := by
  have hi := idxG F v l b p w h hF hl  hp
  obtain ⟨va, vc, rfl⟩ := h.shape
  generalize l.any p = r at *
  clear h hF hp
  go_enter Tryz.func134, Tryz.ntmps134
  go_wp2_with fail
  refine hi.mono ?_
  rintro e w1 ⟨i, rfl, hr, hi1, hi2, hb1⟩
  go_wp2
  go_ret
  exact ⟨(by rw [← hr]; first | done | rfl), hb1⟩

set_option maxHeartbeats 2000000 in
set_option maxRecDepth 1000000 in
theorem idxF (F : Nat → Prop) (v : Value) (l : List Fn) (b : Nat) (p : Fn → Bool) (w : World) (h : FnR F w v l) (hF : ∀ g, F g → g < w.heap.size) (hl : l.length ≤ 3518437208883) 
    (hp : ∀ (k : Nat) (hk : k < l.length) (pv kv : Value) (wr : World), Below w.heap.size w wr → Calls Tryz.prog 137 #[fnv l[k] pv kv, .pointer (some ⟨b, 0, none⟩)] wr (BoolB (p l[k]) wr)) :
    Calls Tryz.prog 178 #[v, .func (.func 137) #[] #[.pointer (some ⟨b, 0, none⟩)]] w (IdxB (l.any p) w) := by
  obtain ⟨va, vc, rfl⟩ := h.shape
  have H := hidden h
  have HP := hidden hp
  clear h hp
  go_enter Tryz.func178, Tryz.ntmps178
  go_wp2
  go_loopg [8] l.length (fun g i wr => ∃ (k : Nat), g + k = l.length ∧ i = .int .i64 (k : Int) ∧ Hid ((l.take k).any p = false) ∧ Below w.heap.size w wr)
  case atStart => exact ⟨0, by omega, rfl, by rw [hid_iff]; rfl, Below.refl _ _⟩
  case round =>
    obtain ⟨k, hg, rfl, hq, hbw⟩ := hrel
    by_cases hk : k < l.length
    · obtain ⟨g, o, cap, cs, e1, hcap, hFg, hC, hcell⟩ := (H.out.below cFn_stay hbw hF).at k hk
      simp only [Value.slice.injEq, true_and] at e1
      obtain ⟨rfl, rfl⟩ := e1
      obtain ⟨pv, kv, rfl, hpv, hkv⟩ := hC
      have hc := HP.out k hk pv kv wr hbw
      have q0 := hcell 0 _ rfl
      have q1 := hcell 1 _ rfl
      have q2 := hcell 2 _ rfl
      have q3 := hcell 3 _ rfl
      have q4 := hcell 4 _ rfl
      have q5 := hcell 5 _ rfl
      simp only [Nat.add_zero] at q0
      clear hcell hpv hkv
      unfold fnv at hc
      generalize l[k].name = xn at *
      generalize l[k].res = xt at *
      generalize l[k].caps = xf at *
      generalize l[k].locals = xl at *
      have hki : (k : Int) < (l.length : Int) := by omega
      cases hx : p l[k]
      · rw [hx] at hc
        have HQ : Hid ((l.take (k + 1)).any p = false) := by
          rw [hid_iff, List.take_succ_eq_append_getElem hk, List.any_append, hq.out, List.any_cons, hx]
          rfl
        clear hq hx
        go_wp2_with fail
        refine hc.mono ?_
        rintro e w1 ⟨rfl, hb1⟩
        have hb2 := below_trans hbw hb1
        go_wp2
        go_roundg (l.length - (k + 1))
        case measure => omega
        case rel => exact ⟨k + 1, by omega, by go_num, HQ, hb2⟩
      · rw [hx] at hc
        have HA : Hid (l.any p = true) := by
          rw [hid_iff, List.any_eq_true]
          exact ⟨_, List.getElem_mem hk, hx⟩
        clear hq hx
        go_wp2_with fail
        refine hc.mono ?_
        rintro e w1 ⟨rfl, hb1⟩
        have hb2 := below_trans hbw hb1
        go_wp2
        go_ret
        exact ⟨(k : Int), rfl, by rw [HA.out]; exact decide_eq_true (by omega), by omega, by omega, hb2⟩
    · have hki : ¬ (k : Int) < (l.length : Int) := by omega
      have HA : Hid (l.any p = false) := by
        have := hq.out
        rwa [List.take_of_length_le (by omega)] at this
      clear hq
      go_wp2
      go_ret
      exact ⟨-1, rfl, (by rw [HA.out]; first | done | rfl), by omega, by omega, hbw⟩
set_option maxHeartbeats 1000000 in
set_option maxRecDepth 1000000 in
theorem conF (F : Nat → Prop) (v : Value) (l : List Fn) (b : Nat) (p : Fn → Bool) (w : World) (h : FnR F w v l) (hF : ∀ g, F g → g < w.heap.size) (hl : l.length ≤ 3518437208883) 
    (hp : ∀ (k : Nat) (hk : k < l.length) (pv kv : Value) (wr : World), Below w.heap.size w wr → Calls Tryz.prog 137 #[fnv l[k] pv kv, .pointer (some ⟨b, 0, none⟩)] wr (BoolB (p l[k]) wr)) :
    Calls Tryz.prog 136 #[v, .func (.func 137) #[] #[.pointer (some ⟨b, 0, none⟩)]] w (BoolB (l.any p) w) := by
  have hi := idxF F v l b p w h hF hl  hp
  obtain ⟨va, vc, rfl⟩ := h.shape
  generalize l.any p = r at *
  clear h hF hp
  go_enter Tryz.func136, Tryz.ntmps136
  go_wp2_with fail
  refine hi.mono ?_
  rintro e w1 ⟨i, rfl, hr, hi1, hi2, hb1⟩
  go_wp2
  go_ret
  exact ⟨(by rw [← hr]; first | done | rfl), hb1⟩

set_option maxHeartbeats 2000000 in
set_option maxRecDepth 1000000 in
theorem idxS (F : Nat → Prop) (v : Value) (l : List Sy) (sv : Value) (p : Sy → Bool) (w : World) (h : SyR F w v l) (hF : ∀ g, F g → g < w.heap.size) (hl : l.length ≤ 3518437208883) 
    (hp : ∀ (k : Nat) (hk : k < l.length) (cv : Value) (wr : World), Below w.heap.size w wr → Calls Tryz.prog 83 #[sv, syv l[k] cv] wr (BoolB (p l[k]) wr)) :
    Calls Tryz.prog 139 #[v, .func (.func 83) #[sv] #[]] w (IdxB (l.any p) w) := by
  obtain ⟨va, vc, rfl⟩ := h.shape
  have H := hidden h
  have HP := hidden hp
  clear h hp
  go_enter Tryz.func139, Tryz.ntmps139
  go_wp2
  go_loopg [8] l.length (fun g i wr => ∃ (k : Nat), g + k = l.length ∧ i = .int .i64 (k : Int) ∧ Hid ((l.take k).any p = false) ∧ Below w.heap.size w wr)
  case atStart => exact ⟨0, by omega, rfl, by rw [hid_iff]; rfl, Below.refl _ _⟩
  case round =>
    obtain ⟨k, hg, rfl, hq, hbw⟩ := hrel
    by_cases hk : k < l.length
    · obtain ⟨g, o, cap, cs, e1, hcap, hFg, hC, hcell⟩ := (H.out.below cSy_stay hbw hF).at k hk
      simp only [Value.slice.injEq, true_and] at e1
      obtain ⟨rfl, rfl⟩ := e1
      obtain ⟨cv, rfl, hcv⟩ := hC
      have hc := HP.out k hk cv wr hbw
      have q0 := hcell 0 _ rfl
      have q1 := hcell 1 _ rfl
      have q2 := hcell 2 _ rfl
      have q3 := hcell 3 _ rfl
      have q4 := hcell 4 _ rfl
      simp only [Nat.add_zero] at q0
      clear hcell hcv
      unfold syv at hc
      generalize l[k].mod = xn at *
      generalize l[k].item.name = xm at *
      generalize l[k].item.ty = xt at *
      generalize l[k].item.kind = xk at *
      have hki : (k : Int) < (l.length : Int) := by omega
      cases hx : p l[k]
      · rw [hx] at hc
        have HQ : Hid ((l.take (k + 1)).any p = false) := by
          rw [hid_iff, List.take_succ_eq_append_getElem hk, List.any_append, hq.out, List.any_cons, hx]
          rfl
        clear hq hx
        go_wp2_with fail
        refine hc.mono ?_
        rintro e w1 ⟨rfl, hb1⟩
        have hb2 := below_trans hbw hb1
        go_wp2
        go_roundg (l.length - (k + 1))
        case measure => omega
        case rel => exact ⟨k + 1, by omega, by go_num, HQ, hb2⟩
      · rw [hx] at hc
        have HA : Hid (l.any p = true) := by
          rw [hid_iff, List.any_eq_true]
          exact ⟨_, List.getElem_mem hk, hx⟩
        clear hq hx
        go_wp2_with fail
        refine hc.mono ?_
        rintro e w1 ⟨rfl, hb1⟩
        have hb2 := below_trans hbw hb1
        go_wp2
        go_ret
        exact ⟨(k : Int), rfl, by rw [HA.out]; exact decide_eq_true (by omega), by omega, by omega, hb2⟩
    · have hki : ¬ (k : Int) < (l.length : Int) := by omega
      have HA : Hid (l.any p = false) := by
        have := hq.out
        rwa [List.take_of_length_le (by omega)] at this
      clear hq
      go_wp2
      go_ret
      exact ⟨-1, rfl, (by rw [HA.out]; first | done | rfl), by omega, by omega, hbw⟩
set_option maxHeartbeats 1000000 in
set_option maxRecDepth 1000000 in
theorem conS (F : Nat → Prop) (v : Value) (l : List Sy) (sv : Value) (p : Sy → Bool) (w : World) (h : SyR F w v l) (hF : ∀ g, F g → g < w.heap.size) (hl : l.length ≤ 3518437208883) 
    (hp : ∀ (k : Nat) (hk : k < l.length) (cv : Value) (wr : World), Below w.heap.size w wr → Calls Tryz.prog 83 #[sv, syv l[k] cv] wr (BoolB (p l[k]) wr)) :
    Calls Tryz.prog 82 #[v, .func (.func 83) #[sv] #[]] w (BoolB (l.any p) w) := by
  have hi := idxS F v l sv p w h hF hl  hp
  obtain ⟨va, vc, rfl⟩ := h.shape
  generalize l.any p = r at *
  clear h hF hp
  go_enter Tryz.func82, Tryz.ntmps82
  go_wp2_with fail
  refine hi.mono ?_
  rintro e w1 ⟨i, rfl, hr, hi1, hi2, hb1⟩
  go_wp2
  go_ret
  exact ⟨(by rw [← hr]; first | done | rfl), hb1⟩

set_option maxHeartbeats 1000000 in
set_option maxRecDepth 1000000 in
theorem predI (x : It) (cv : Value) (b : Nat) (n : List UInt8) (w : World) (hb : w.cell? ⟨b, 1, none⟩ = some (.string (str n))) : Calls Tryz.prog 74 #[itv x cv, .pointer (some ⟨b, 0, none⟩)] w (BoolB (decide (x.name = n)) w) := by
  obtain ⟨xk, xn, xt, xc⟩ := x
  unfold itv
  simp only
  have hbl : b < w.heap.size := World.block_lt_of_cell? w _ hb
  have hb0 : Below w.heap.size w (w.alloc (.cells #[.int .i64 xk, .string (str xn), .string (str xt), cv] 78)) := (Below.refl _ _).alloc (Nat.le_refl _) _
  have he := eq_is xn n
  generalize decide (xn = n) = r at *
  go_enter Tryz.func74, Tryz.ntmps74
  go_wp2
  go_ret
  exact ⟨rfl, hb0⟩
set_option maxHeartbeats 1000000 in
set_option maxRecDepth 1000000 in
theorem predG (x : Gl) (b : Nat) (n : List UInt8) (w : World) (hb : w.cell? ⟨b, 0, none⟩ = some (.string (str n))) : Calls Tryz.prog 135 #[glv x, .pointer (some ⟨b, 0, none⟩)] w (BoolB (decide (x.name = n)) w) := by
  obtain ⟨xn, xt, xf⟩ := x
  unfold glv
  simp only
  have hbl : b < w.heap.size := World.block_lt_of_cell? w _ hb
  have hb0 : Below w.heap.size w (w.alloc (.cells #[.string (str xn), .string (str xt), .int .i64 xf] 74)) := (Below.refl _ _).alloc (Nat.le_refl _) _
  have he := eq_is xn n
  generalize decide (xn = n) = r at *
  go_enter Tryz.func135, Tryz.ntmps135
  go_wp2
  go_ret
  exact ⟨rfl, hb0⟩
set_option maxHeartbeats 1000000 in
set_option maxRecDepth 1000000 in
theorem predF (x : Fn) (pv kv : Value) (b : Nat) (n : List UInt8) (w : World) (hb : w.cell? ⟨b, 0, none⟩ = some (.string (str n))) : Calls Tryz.prog 137 #[fnv x pv kv, .pointer (some ⟨b, 0, none⟩)] w (BoolB (decide (x.name = n)) w) := by
  obtain ⟨xn, xp, xc, xr, xl, xk⟩ := x
  unfold fnv
  simp only
  have hbl : b < w.heap.size := World.block_lt_of_cell? w _ hb
  have hb0 : Below w.heap.size w (w.alloc (.cells #[.string (str xn), pv, .int .i64 xc, .string (str xr), .int .i64 xl, kv] 52)) := (Below.refl _ _).alloc (Nat.le_refl _) _
  have he := eq_is xn n
  generalize decide (xn = n) = r at *
  go_enter Tryz.func137, Tryz.ntmps137
  go_wp2
  go_ret
  exact ⟨rfl, hb0⟩

set_option maxHeartbeats 1000000 in
set_option maxRecDepth 1000000 in
theorem isGlobal (F : Nat → Prop) (v : Value) (l : List Gl) (n : List UInt8) (w : World) (h : GlR F w v l) (hF : ∀ g, F g → g < w.heap.size) (hl : l.length ≤ 3518437208883) :
    Calls Tryz.prog 76 #[v, .string (str n)] w (BoolB (l.any (fun d => decide (d.name = n))) w) := by
  have hb0 : Below w.heap.size w (w.alloc (.cells #[.string (str n)] 9)) := (Below.refl _ _).alloc (Nat.le_refl _) _
  have hc := cells_new w [.string (str n)] 9 0 _ rfl
  rw [add_at] at hc
  have hi := conG F v l w.heap.size (fun d => decide (d.name = n)) _ (h.below cGl_stay hb0 hF) (fun g hg => by have := hF g hg; simp; omega) hl (fun k hk wr hbw => predG l[k] w.heap.size n wr ((World.cell?_of_block (a := ⟨w.heap.size, 0, none⟩) (hbw.block w.heap.size (by simp))).trans hc))
  obtain ⟨va, vc, rfl⟩ := h.shape
  generalize l.any (fun d => decide (d.name = n)) = r at *
  clear h hF hc
  go_enter Tryz.func76, Tryz.ntmps76
  go_wp2_with fail
  refine hi.mono ?_
  rintro e w1 ⟨rfl, hb1⟩
  have hb2 := below_trans hb0 hb1
  go_wp2
  go_ret
  exact ⟨rfl, hb2⟩

set_option maxHeartbeats 1000000 in
set_option maxRecDepth 1000000 in
theorem isFun (F : Nat → Prop) (v : Value) (l : List Fn) (n : List UInt8) (w : World) (h : FnR F w v l) (hF : ∀ g, F g → g < w.heap.size) (hl : l.length ≤ 3518437208883) :
    Calls Tryz.prog 78 #[v, .string (str n)] w (BoolB (l.any (fun d => decide (d.name = n))) w) := by
  have hb0 : Below w.heap.size w (w.alloc (.cells #[.string (str n)] 9)) := (Below.refl _ _).alloc (Nat.le_refl _) _
  have hc := cells_new w [.string (str n)] 9 0 _ rfl
  rw [add_at] at hc
  have hi := conF F v l w.heap.size (fun d => decide (d.name = n)) _ (h.below cFn_stay hb0 hF) (fun g hg => by have := hF g hg; simp; omega) hl (fun k hk pv kv wr hbw => predF l[k] pv kv w.heap.size n wr ((World.cell?_of_block (a := ⟨w.heap.size, 0, none⟩) (hbw.block w.heap.size (by simp))).trans hc))
  obtain ⟨va, vc, rfl⟩ := h.shape
  generalize l.any (fun d => decide (d.name = n)) = r at *
  clear h hF hc
  go_enter Tryz.func78, Tryz.ntmps78
  go_wp2_with fail
  refine hi.mono ?_
  rintro e w1 ⟨rfl, hb1⟩
  have hb2 := below_trans hb0 hb1
  go_wp2
  go_ret
  exact ⟨rfl, hb2⟩
end Go.Proofs.YtfjppbpicmniaaaGreatDoor
