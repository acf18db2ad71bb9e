/-
  The package's made: the text of a tree whose parts are read.
-/
import Derived.Test.YtcjlifhehiolkaaGreatTypesMake
namespace Go.Proofs.YtcjlifhehiolkaaGreat
open Go.RowKit

def MadeE (r : Except Nat (List UInt8)) (w : World) (e : Ending) (w' : World) : Prop :=
  (match r with
  | .ok x => e = .returned (.tuple #[.string (str x), .int .i64 0])
  | .error y => e = .returned (.tuple #[.string (str []), .int .i64 (y : Int)])) ∧ Below w.heap.size w w'
theorem madeE_ok {r : Except Nat (List UInt8)} {x : List UInt8} {w w' : World} (h : r = .ok x) (hb : Below w.heap.size w w') : MadeE r w (.returned (.tuple #[.string (str x), .int .i64 0])) w' := by
  subst h
  exact ⟨rfl, hb⟩
theorem madeE_no {r : Except Nat (List UInt8)} {y : Nat} {z : Int} {x : ByteArray} {w w' : World} (h : r = .error y) (hz : z = (y : Int)) (hx : x = str []) (hb : Below w.heap.size w w') : MadeE r w (.returned (.tuple #[.string x, .int .i64 z])) w' := by
  subst h hz hx
  exact ⟨rfl, hb⟩
/-- The three ends of it. -/
theorem lim_cases (x : List UInt8) : (x = [] ∧ lim x = .error 12) ∨ (x ≠ [] ∧ 200 < x.length ∧ lim x = .error 3) ∨ (x ≠ [] ∧ x.length ≤ 200 ∧ lim x = .ok x) := by
  unfold lim
  by_cases h : x = []
  · exact .inl ⟨h, if_pos h⟩
  · rw [if_neg h]
    by_cases h2 : 200 < x.length
    · exact .inr (.inl ⟨h, h2, if_pos h2⟩)
    · exact .inr (.inr ⟨h, by omega, if_neg h2⟩)
theorem join_len : ∀ (ps : List (List UInt8)), (∀ y ∈ ps, y.length ≤ 200) → (joinR ps).length ≤ 201 * ps.length
  | [], _ => by simp [joinR_nil]
  | [x], h => by have := h x (by simp); rw [joinR_one]; simp; omega
  | x :: y :: r, h => by
    have h1 := h x (by simp)
    have h2 := join_len (y :: r) (fun z hz => h z (List.mem_cons_of_mem _ hz))
    rw [joinR_two]
    simp only [List.length_append, List.length_cons] at h2 ⊢
    omega
theorem empty_str (x : List UInt8) (h : x ≠ []) : (str x).toList.isEmpty = false := by
  rw [Lib.toList_data, str_data]
  simpa using h
theorem empty_nil : (str []).toList.isEmpty = true := by rw [Lib.toList_data]; rfl

set_option maxHeartbeats 4000000 in
set_option maxRecDepth 1000000 in
theorem made_atom (F : Nat → Prop) (t : Tr) (g o : Nat) (tv : Value) (m : List UInt8) (w : World) (hF : ∀ g, F g → g < w.heap.size) (h : PT F w g o t) (htx : t.text.length ≤ 8192) (hm : m.length ≤ 140737488355328) (hform : formR t = 1) (ys : List (List UInt8)) :
    Calls Tryz.prog 36 #[.agg #[.pointer (some ⟨g, o, none⟩), tv], .string (str m)] w (MadeE (madeR m t ys) w) := by
  have HM : Hid (madeR m t ys = lim (atomR t.text m)) := by simp [hid_iff, madeR, hform]
  have hb0 : Below w.heap.size w (w.alloc (.cells #[.pointer (some ⟨g, o, none⟩), tv] 73)) := (Below.refl _ _).alloc (Nat.le_refl _) _
  have hF0 : ∀ b, F b → b < (w.alloc (.cells #[.pointer (some ⟨g, o, none⟩), tv] 73)).heap.size := fun b hg => by have := hF b hg; simp; omega
  have hp0 := h.below hb0 hF
  have hf := formOf F t g o _ hF0 hp0
  rw [hform] at hf
  have hat := fun u => ofAtom t.text m u htx hm
  have hxl : (atomR t.text m).length ≤ 140737488355328 + 8193 := by
    unfold atomR
    split
    · omega
    · split
      · simp; omega
      · simp
  generalize atomR t.text m = x at *
  have hxs : (str x).size = x.length := rfl
  clear hform
  go_enter Tryz.func36, Tryz.ntmps36
  go_wp2_with fail
  refine hf.mono ?_
  rintro e w1 ⟨rfl, hb1⟩
  have b0 : w1.cell? ⟨w.heap.size, 0, none⟩ = some (.pointer (some ⟨g, o, none⟩)) := below_cell hb1 (by simp) (by simp)
  have hb2 := below_trans hb0 hb1
  obtain ⟨hFg, kv, hT, q0, q1, q2, q3⟩ := hp0.below hb1 hF0
  clear hf hp0 h hb0 hb1 hF0 q0 q1 q3 hT
  go_wp2_with fail
  refine (hat _).mono ?_
  rintro e w3 ⟨rfl, hb3⟩
  have hb4 := below_trans hb2 hb3
  clear b0 q2 hb2 hb3 hat
  rcases lim_cases x with ⟨h1, h2⟩ | ⟨h1, h2, h3⟩ | ⟨h1, h2, h3⟩
  · subst h1
    rw [h2] at HM
    have k1 := empty_nil
    go_wp2
    go_ret2
    exact madeE_no HM.out rfl rfl hb4
  · rw [h3] at HM
    have k1 := empty_str x h1
    have k2 : (200 : Int) < (x.length : Int) := by omega
    clear h1 h3
    go_wp2
    go_ret2
    exact madeE_no HM.out rfl rfl hb4
  · rw [h3] at HM
    have k1 := empty_str x h1
    have k2 : ¬ (200 : Int) < (x.length : Int) := by omega
    clear h1 h3
    go_wp2
    go_ret2
    exact madeE_ok HM.out hb4
set_option maxHeartbeats 4000000 in
set_option maxRecDepth 1000000 in
theorem made_none (F : Nat → Prop) (t : Tr) (g o : Nat) (tv : Value) (m : List UInt8) (w : World) (hF : ∀ g, F g → g < w.heap.size) (h : PT F w g o t) (hform : formR t = 0) (ys : List (List UInt8)) :
    Calls Tryz.prog 36 #[.agg #[.pointer (some ⟨g, o, none⟩), tv], .string (str m)] w (MadeE (madeR m t ys) w) := by
  have HM : Hid (madeR m t ys = .error 12) := by simp [hid_iff, madeR, hform]
  have hb0 : Below w.heap.size w (w.alloc (.cells #[.pointer (some ⟨g, o, none⟩), tv] 73)) := (Below.refl _ _).alloc (Nat.le_refl _) _
  have hF0 : ∀ b, F b → b < (w.alloc (.cells #[.pointer (some ⟨g, o, none⟩), tv] 73)).heap.size := fun b hg => by have := hF b hg; simp; omega
  have hp0 := h.below hb0 hF
  have hf := formOf F t g o _ hF0 hp0
  rw [hform] at hf
  clear hform
  go_enter Tryz.func36, Tryz.ntmps36
  go_wp2_with fail
  refine hf.mono ?_
  rintro e w1 ⟨rfl, hb1⟩
  have hb2 := below_trans hb0 hb1
  clear hf hp0 h hb0 hb1 hF0
  go_wp2
  go_ret2
  exact madeE_no HM.out rfl rfl hb2
set_option maxHeartbeats 4000000 in
set_option maxRecDepth 1000000 in
theorem made_arr (F : Nat → Prop) (t : Tr) (g o : Nat) (tv : Value) (m : List UInt8) (w : World) (hF : ∀ g, F g → g < w.heap.size) (h : PT F w g o t) (hform : formR t = 2) (ys : List (List UInt8)) (hv : StrRow w tv ys) (hn : ys.length = 1) (hl : ∀ y ∈ ys, y.length ≤ 200) :
    Calls Tryz.prog 36 #[.agg #[.pointer (some ⟨g, o, none⟩), tv], .string (str m)] w (MadeE (madeR m t ys) w) := by
  have HM : Hid (madeR m t ys = lim (arrR (ys.getD 0 []))) := by simp [hid_iff, madeR, hform]
  have hb0 : Below w.heap.size w (w.alloc (.cells #[.pointer (some ⟨g, o, none⟩), tv] 73)) := (Below.refl _ _).alloc (Nat.le_refl _) _
  have hF0 : ∀ b, F b → b < (w.alloc (.cells #[.pointer (some ⟨g, o, none⟩), tv] 73)).heap.size := fun b hg => by have := hF b hg; simp; omega
  have hp0 := h.below hb0 hF
  have hf := formOf F t g o _ hF0 hp0
  rw [hform] at hf
  clear hform
  obtain ⟨y, rfl⟩ : ∃ y, ys = [y] := by
    match ys, hn with
    | [y], _ => exact ⟨y, rfl⟩
  have hy := hl y (by simp)
  replace HM : Hid (madeR m t [y] = lim (arrR y)) := HM
  have har := fun u => array y u (by omega)
  have hxl : (arrR y).length ≤ 300 := by simp [arrR]; omega
  generalize arrR y = x at *
  have hxs : (str x).size = x.length := rfl
  go_enter Tryz.func36, Tryz.ntmps36
  go_wp2_with fail
  refine hf.mono ?_
  rintro e w1 ⟨rfl, hb1⟩
  have b1 : w1.cell? ⟨w.heap.size, 1, none⟩ = some tv := below_cell hb1 (by simp) (by simp)
  have hb4 := below_trans hb0 hb1
  have hv1 := (hv.below hb0).below hb1
  clear hf hp0 h hb0 hb1 hF0 hv
  rcases hv1 with ⟨h1, _⟩ | ⟨bk, q, c, rfl, h1, h2, h3⟩
  · simp at h1
  have h4 := h3 0 y rfl
  rw [Nat.add_zero] at h4
  simp only [List.length_singleton] at b1
  clear h1 h2 h3
  go_wp2_with fail
  refine (har _).mono ?_
  rintro e w3 ⟨rfl, rfl⟩
  clear har b1 h4
  rcases lim_cases x with ⟨h1, h2⟩ | ⟨h1, h2, h3⟩ | ⟨h1, h2, h3⟩
  · subst h1
    rw [h2] at HM
    have k1 := empty_nil
    go_wp2
    go_ret2
    exact madeE_no HM.out rfl rfl hb4
  · rw [h3] at HM
    have k1 := empty_str x h1
    have k2 : (200 : Int) < (x.length : Int) := by omega
    clear h1 h3
    go_wp2
    go_ret2
    exact madeE_no HM.out rfl rfl hb4
  · rw [h3] at HM
    have k1 := empty_str x h1
    have k2 : ¬ (200 : Int) < (x.length : Int) := by omega
    clear h1 h3
    go_wp2
    go_ret2
    exact madeE_ok HM.out hb4
set_option maxHeartbeats 4000000 in
set_option maxRecDepth 1000000 in
theorem made_fn (F : Nat → Prop) (t : Tr) (g o : Nat) (tv : Value) (m : List UInt8) (w : World) (hF : ∀ g, F g → g < w.heap.size) (h : PT F w g o t) (hform : formR t = 3) (ys : List (List UInt8)) (hv : StrRow w tv ys) (n : Nat) (hn : ys.length = n + 1) (hl : ∀ y ∈ ys, y.length ≤ 200) (hbig : n ≤ 100000) :
    Calls Tryz.prog 36 #[.agg #[.pointer (some ⟨g, o, none⟩), tv], .string (str m)] w (MadeE (madeR m t ys) w) := by
  have HM : Hid (madeR m t ys = if 6 < ys.length - 1 then .error 19 else lim (funcR (ys.take (ys.length - 1)) (ys.getD (ys.length - 1) []))) := by simp [hid_iff, madeR, hform]
  have hb0 : Below w.heap.size w (w.alloc (.cells #[.pointer (some ⟨g, o, none⟩), tv] 73)) := (Below.refl _ _).alloc (Nat.le_refl _) _
  have hF0 : ∀ b, F b → b < (w.alloc (.cells #[.pointer (some ⟨g, o, none⟩), tv] 73)).heap.size := fun b hg => by have := hF b hg; simp; omega
  have hp0 := h.below hb0 hF
  have hf := formOf F t g o _ hF0 hp0
  rw [hform] at hf
  clear hform
  rw [hn, Nat.add_sub_cancel] at HM
  go_enter Tryz.func36, Tryz.ntmps36
  go_wp2_with fail
  refine hf.mono ?_
  rintro e w1 ⟨rfl, hb1⟩
  have b1 : w1.cell? ⟨w.heap.size, 1, none⟩ = some tv := below_cell hb1 (by simp) (by simp)
  have hb4 := below_trans hb0 hb1
  have hv1 := (hv.below hb0).below hb1
  clear hf hp0 h hb0 hb1 hF0 hv
  rcases hv1 with ⟨h1, _⟩ | ⟨bk, q, c, rfl, h1, h2, h3⟩
  · subst h1
    simp at hn
  rw [hn] at b1 h2
  by_cases h6 : 6 < n
  · have h6' : (6 : Int) < (n : Int) := by omega
    rw [if_pos h6] at HM
    clear h1 h2 h3 hl hn
    go_wp2
    go_ret2
    exact madeE_no HM.out rfl rfl hb4
  have h6' : ¬ (6 : Int) < (n : Int) := by omega
  rw [if_neg h6] at HM
  have h4 : w1.cell? ⟨bk, q + n, none⟩ = some (.string (str (ys.getD n []))) := by
    refine h3 n _ ?_
    rw [List.getD_eq_getElem?_getD, List.getElem?_eq_getElem (by omega)]
    rfl
  have hyl : (ys.getD n []).length ≤ 200 := by
    rw [List.getD_eq_getElem?_getD, List.getElem?_eq_getElem (by omega)]
    exact hl _ (List.getElem_mem _)
  have hrow : StrRow w1 (.slice (some ⟨bk, q, none⟩) n c) (ys.take n) := by
    refine .inr ⟨bk, q, c, by rw [List.length_take, hn, Nat.min_eq_left (by omega)], h1, by rw [List.length_take]; omega, fun j x hj => h3 j x ?_⟩
    rw [List.getElem?_take] at hj
    split at hj
    · exact hj
    · cases hj
  have hjl : (joinR (ys.take n)).length ≤ 201 * n := by
    have := join_len (ys.take n) (fun y hy => hl y (List.mem_of_mem_take hy))
    rw [List.length_take, hn, Nat.min_eq_left (by omega)] at this
    exact this
  have hfn := fun u (hu : Below w1.heap.size w1 u) => func (.slice (some ⟨bk, q, none⟩) n c) (ys.take n) (ys.getD n []) u (hrow.below hu) (by rw [List.length_take]; omega) (by omega) (by omega)
  have hxl : (funcR (ys.take n) (ys.getD n [])).length ≤ 2000 := by simp only [funcR, List.length_cons, List.length_append]; omega
  generalize funcR (ys.take n) (ys.getD n []) = x at *
  generalize ys.getD n [] = r at *
  have hxs : (str x).size = x.length := rfl
  have k1 : (0 : Int) ≤ (n : Int) := by omega
  have k2 : (n : Int) ≤ (c : Int) := by omega
  have k3 : (n : Int) < ((n + 1 : Nat) : Int) := by omega
  clear h3 hl hn hjl hrow hyl
  go_wp2_with fail
  go_region_with (first
    | (go_at_call 60; refine (hfn _ (below_drewN (Below.refl _ _) _)).mono ?_; rintro e w3 ⟨rfl, hb3⟩))
  all_goals (
    have hb5 := below_trans (below_drewN hb4 _) hb3
    clear hfn b1 h4 hb3 hb4 k1 k2 k3
    rcases lim_cases x with ⟨h1, h2⟩ | ⟨h1, h2, h3⟩ | ⟨h1, h2, h3⟩
    · subst h1
      rw [h2] at HM
      have k1 := empty_nil
      go_wp2
      go_ret2
      exact madeE_no HM.out rfl rfl hb5
    · rw [h3] at HM
      have k1 := empty_str x h1
      have k2 : (200 : Int) < (x.length : Int) := by omega
      clear h1 h3
      go_wp2
      go_ret2
      exact madeE_no HM.out rfl rfl hb5
    · rw [h3] at HM
      have k1 := empty_str x h1
      have k2 : ¬ (200 : Int) < (x.length : Int) := by omega
      clear h1 h3
      go_wp2
      go_ret2
      exact madeE_ok HM.out hb5)
/-- made. -/
theorem madeOf (F : Nat → Prop) (t : Tr) (g o : Nat) (tv : Value) (m : List UInt8) (w : World) (hF : ∀ g, F g → g < w.heap.size) (h : PT F w g o t) (htx : t.text.length ≤ 8192) (hm : m.length ≤ 140737488355328) (ys : List (List UInt8)) (hv : StrRow w tv ys) (hn : ys.length = (partsT t).length) (hl : ∀ y ∈ ys, y.length ≤ 200) (hbig : ys.length ≤ 100000) :
    Calls Tryz.prog 36 #[.agg #[.pointer (some ⟨g, o, none⟩), tv], .string (str m)] w (MadeE (madeR m t ys) w) := by
  rcases form_cases t with h0 | h0 | h0 | h0
  · exact made_none F t g o tv m w hF h h0 ys
  · exact made_atom F t g o tv m w hF h htx hm h0 ys
  · rw [partsT_arr h0] at hn
    exact made_arr F t g o tv m w hF h h0 ys hv hn hl
  · rw [partsT_fn h0, List.length_append] at hn
    exact made_fn F t g o tv m w hF h h0 ys hv (kid t 1).kids.length hn hl (by simp at hn; omega)
end Go.Proofs.YtcjlifhehiolkaaGreat
