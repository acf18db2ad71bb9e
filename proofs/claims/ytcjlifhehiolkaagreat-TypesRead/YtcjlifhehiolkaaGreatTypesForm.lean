/-
  The package's isWord, formOf, within: what a tree in memory stands for, and what it is made of.
-/
import Derived.Test.YtcjlifhehiolkaaGreatTreeMem
import Derived.Test.YtcjlifhehiolkaaGreatTypesTree
import Derived.Test.YtcjlifhehiolkaaGreatTypesNames
namespace Go.Proofs.YtcjlifhehiolkaaGreat
open Go.RowKit

theorem below_cell {H : Nat} {w w1 : World} {g o : Nat} {v : Value} (hb : Below H w w1) (h : w.cell? ⟨g, o, none⟩ = some v) (hg : g < H) : w1.cell? ⟨g, o, none⟩ = some v := by
  rw [World.cell?_of_block (w := w) (hb.block g hg)]
  exact h
theorem TL.below {F : Nat → Prop} {H : Nat} {w w1 : World} {kv : Value} {l : List Tr} (h : TL F w kv l) (hb : Below H w w1) (hF : ∀ g, F g → g < H) : TL F w1 kv l := h.frame fun g hg => ⟨hg, hb.block g (hF g hg)⟩
/-- A tree in memory, at an address. -/
def PT (F : Nat → Prop) (w : World) (g o : Nat) (t : Tr) : Prop :=
  F g ∧ ∃ kv, TL F w kv t.kids ∧ w.cell? ⟨g, o, none⟩ = some (.int .i64 (t.kind : Int)) ∧ w.cell? ⟨g, o + 1, none⟩ = some (.int .i64 (t.place : Int)) ∧ w.cell? ⟨g, o + 2, none⟩ = some (.string (str t.text)) ∧ w.cell? ⟨g, o + 3, none⟩ = some kv
theorem PT.below {F : Nat → Prop} {H : Nat} {w w1 : World} {g o : Nat} {t : Tr} (h : PT F w g o t) (hb : Below H w w1) (hF : ∀ g, F g → g < H) : PT F w1 g o t := by
  obtain ⟨h1, kv, h2, h3, h4, h5, h6⟩ := h
  have hg := hF g h1
  exact ⟨h1, kv, h2.below hb hF, below_cell hb h3 hg, below_cell hb h4 hg, below_cell hb h5 hg, below_cell hb h6 hg⟩

set_option maxHeartbeats 1000000 in
set_option maxRecDepth 1000000 in
theorem isWord (t : Tr) (kv : Value) (x : List UInt8) (w : World) : Calls Tryz.prog 87 #[trv t kv, .string (str x)] w (BoolB (isWordR t x) w) := by
  have hb : Below w.heap.size w (w.alloc (.cells #[.int .i64 (t.kind : Int), .int .i64 (t.place : Int), .string (str t.text), kv] 34)) := (Below.refl _ _).alloc (Nat.le_refl _) _
  unfold trv
  by_cases h3 : t.kind = 3
  · have h3' : ((t.kind : Int) == 3) = true := by rw [beq_iff_eq]; omega
    have HR : Hid (isWordR t x = ((str t.text).toList == (str x).toList)) := by
      rw [hid_iff, isWordR, decide_eq_true h3, Bool.true_and, Lib.toList_data, Lib.toList_data, str_data, str_data, Bool.eq_iff_iff, decide_eq_true_iff, beq_iff_eq]
    clear h3
    go_enter Tryz.func87, Tryz.ntmps87
    go_wp2
    go_ret
    exact ⟨by rw [HR.out]; rfl, hb⟩
  · have h3' : ((t.kind : Int) == 3) = false := by rw [beq_eq_false_iff_ne]; omega
    have HR : Hid (isWordR t x = false) := by rw [hid_iff, isWordR, decide_eq_false h3, Bool.false_and]
    clear h3
    go_enter Tryz.func87, Tryz.ntmps87
    go_wp2
    go_ret
    exact ⟨by rw [HR.out]; rfl, hb⟩

theorem formR_one {t : Tr} (h : t.kind = 3) : formR t = 1 := by simp [formR, h]
theorem formR_bad {t : Tr} (h : t.kind ≠ 3) (h1 : t.kind ≠ 1) : formR t = 0 := by simp [formR, h, h1]
theorem formR_arr {t : Tr} (h1 : t.kind = 1) (h2 : t.kids.length = 2) (hw : isWordR (kid t 0) arrayL = true) : formR t = 2 := by simp [formR, h1, h2, hw]
theorem formR_arr_no {t : Tr} (h1 : t.kind = 1) (h2 : t.kids.length = 2) (hw : isWordR (kid t 0) arrayL = false) : formR t = 0 := by simp [formR, h1, h2, hw]
theorem formR_fn {t : Tr} (h1 : t.kind = 1) (h2 : t.kids.length = 3) (hw : isWordR (kid t 0) fnL = true) : formR t = if (kid t 1).kind = 1 then 3 else 0 := by simp [formR, h1, h2, hw]
theorem formR_fn_no {t : Tr} (h1 : t.kind = 1) (h2 : t.kids.length = 3) (hw : isWordR (kid t 0) fnL = false) : formR t = 0 := by simp [formR, h1, h2, hw]
theorem formR_len {t : Tr} (h1 : t.kind = 1) (h2 : t.kids.length ≠ 2) (h3 : t.kids.length ≠ 3) : formR t = 0 := by simp [formR, h1, h2, h3]
theorem kid_get {t : Tr} {i : Nat} (h : i < t.kids.length) : t.kids[i] = kid t i := by simp [kid, h]
/-- A Kid in memory. -/
theorem TL.kid {F : Nat → Prop} {w : World} {kv : Value} {t : Tr} (h : TL F w kv t.kids) (i : Nat) (hi : i < t.kids.length) : ∃ g cap, kv = .slice (some ⟨g, 0, none⟩) t.kids.length cap ∧ PT F w g (i * 4) (kid t i) := by
  obtain ⟨g, cap, kv', h1, h2, h3, h4, h5, h6, h7⟩ := h.at i hi
  rw [kid_get hi] at h3 h4 h5 h6
  exact ⟨g, cap, h1, h2, kv', h3, h4, h5, h6, h7⟩
def NumB (n : Nat) (w : World) (e : Ending) (w' : World) : Prop := e = .returned (.int .i64 (n : Int)) ∧ Below w.heap.size w w'

set_option maxHeartbeats 2000000 in
set_option maxRecDepth 1000000 in
theorem formOf (F : Nat → Prop) (t : Tr) (g o : Nat) (w : World) (hF : ∀ g, F g → g < w.heap.size) (h : PT F w g o t) : Calls Tryz.prog 57 #[.pointer (some ⟨g, o, none⟩)] w (NumB (formR t) w) := by
  obtain ⟨hFg, kv, hT, q0, q1, q2, q3⟩ := h
  have hg := hF g hFg
  by_cases h3 : t.kind = 3
  · have h3' : ((t.kind : Int) == 3) = true := by rw [beq_iff_eq]; omega
    have HR : Hid (formR t = 1) := formR_one h3
    clear h3
    go_enter Tryz.func57, Tryz.ntmps57
    go_wp2
    go_ret
    exact ⟨by rw [HR.out]; rfl, Below.refl _ _⟩
  have h3' : ((t.kind : Int) == 3) = false := by rw [beq_eq_false_iff_ne]; omega
  by_cases h1 : t.kind ≠ 1
  · have h1' : ((t.kind : Int) != 1) = true := by simp; omega
    have HR : Hid (formR t = 0) := formR_bad h3 h1
    clear h3 h1
    go_enter Tryz.func57, Tryz.ntmps57
    go_wp2
    go_ret
    exact ⟨by rw [HR.out]; rfl, Below.refl _ _⟩
  replace h1 : t.kind = 1 := by omega
  have h1' : ((t.kind : Int) != 1) = false := by simp; omega
  obtain ⟨ka, kc, hks⟩ := hT.shape
  by_cases h2 : t.kids.length = 2
  · have h2' : ((t.kids.length : Int) == 2) = true := by rw [beq_iff_eq]; omega
    have h4' : ((t.kids.length : Int) == 3) = false := by rw [beq_eq_false_iff_ne]; omega
    have hl0 : (0 : Int) < (t.kids.length : Int) := by omega
    obtain ⟨g0, cap0, hk0, hF0, kv0, _, c0, c1, c2, c3⟩ := hT.kid 0 (by omega)
    simp only [Nat.zero_mul, Nat.zero_add] at c0 c1 c2 c3
    have hiw := isWord (kid t 0) kv0 arrayL
    unfold trv at hiw
    rw [hk0] at q3
    cases hw : isWordR (kid t 0) arrayL
    · have HR : Hid (formR t = 0) := formR_arr_no h1 h2 hw
      rw [hw] at hiw
      clear h3 h1 h2 hw hT hks
      generalize t.kids.length = n at *
      generalize kid t 0 = k at *
      go_enter Tryz.func57, Tryz.ntmps57
      go_wp2_with fail
      refine (hiw _).mono ?_
      rintro e w1 ⟨rfl, hb⟩
      have q3' := below_cell hb q3 hg
      clear q0 q1 q2 q3 c0 c1 c2 c3 hiw
      go_wp2
      go_ret
      exact ⟨by rw [HR.out]; rfl, hb⟩
    · have HR : Hid (formR t = 2) := formR_arr h1 h2 hw
      rw [hw] at hiw
      clear h3 h1 h2 hw hT hks
      generalize t.kids.length = n at *
      generalize kid t 0 = k at *
      go_enter Tryz.func57, Tryz.ntmps57
      go_wp2_with fail
      refine (hiw _).mono ?_
      rintro e w1 ⟨rfl, hb⟩
      clear q0 q1 q2 q3 c0 c1 c2 c3 hiw
      go_wp2
      go_ret
      exact ⟨by rw [HR.out]; rfl, hb⟩
  · have h2' : ((t.kids.length : Int) == 2) = false := by rw [beq_eq_false_iff_ne]; omega
    by_cases h4 : t.kids.length = 3
    · have h4' : ((t.kids.length : Int) == 3) = true := by rw [beq_iff_eq]; omega
      have hl0 : (0 : Int) < (t.kids.length : Int) := by omega
      have hl1 : (1 : Int) < (t.kids.length : Int) := by omega
      obtain ⟨g0, cap0, hk0, hF0, kv0, _, c0, c1, c2, c3⟩ := hT.kid 0 (by omega)
      obtain ⟨g1, cap1, hk1, hF1, kv1, _, d0, _, _, _⟩ := hT.kid 1 (by omega)
      simp only [Nat.zero_mul, Nat.zero_add] at c0 c1 c2 c3
      simp only [Nat.one_mul] at d0
      rw [hk0] at hk1
      simp only [Value.slice.injEq, Option.some.injEq, Addr.mk.injEq, and_true, true_and] at hk1
      obtain ⟨rfl, _⟩ := hk1
      have hiw := isWord (kid t 0) kv0 fnL
      unfold trv at hiw
      rw [hk0] at q3
      have hg0 := hF g0 hF0
      cases hw : isWordR (kid t 0) fnL
      · have HR : Hid (formR t = 0) := formR_fn_no h1 h4 hw
        rw [hw] at hiw
        clear h3 h1 h2 h4 hw hT hks
        generalize t.kids.length = n at *
        generalize kid t 0 = k at *
        go_enter Tryz.func57, Tryz.ntmps57
        go_wp2_with fail
        refine (hiw _).mono ?_
        rintro e w1 ⟨rfl, hb⟩
        clear q0 q1 q2 q3 c0 c1 c2 c3 d0 hiw
        go_wp2
        go_ret
        exact ⟨by rw [HR.out]; rfl, hb⟩
      · have HR : Hid (formR t = if (kid t 1).kind = 1 then 3 else 0) := formR_fn h1 h4 hw
        rw [hw] at hiw
        clear h3 h1 h2 h4 hw hT hks
        generalize t.kids.length = n at *
        generalize kid t 0 = k at *
        generalize (kid t 1).kind = kk at *
        by_cases hkk : kk = 1
        · have hkk' : ((kk : Int) == 1) = true := by rw [beq_iff_eq]; omega
          rw [if_pos hkk] at HR
          clear hkk
          go_enter Tryz.func57, Tryz.ntmps57
          go_wp2_with fail
          refine (hiw _).mono ?_
          rintro e w1 ⟨rfl, hb⟩
          have q3' := below_cell hb q3 hg
          have d0' := below_cell hb d0 hg0
          clear q0 q1 q2 q3 c0 c1 c2 c3 d0 hiw
          go_wp2
          go_ret
          exact ⟨by rw [HR.out]; rfl, hb⟩
        · have hkk' : ((kk : Int) == 1) = false := by rw [beq_eq_false_iff_ne]; omega
          rw [if_neg hkk] at HR
          clear hkk
          go_enter Tryz.func57, Tryz.ntmps57
          go_wp2_with fail
          refine (hiw _).mono ?_
          rintro e w1 ⟨rfl, hb⟩
          have q3' := below_cell hb q3 hg
          have d0' := below_cell hb d0 hg0
          clear q0 q1 q2 q3 c0 c1 c2 c3 d0 hiw
          go_wp2
          go_ret
          exact ⟨by rw [HR.out]; rfl, hb⟩
    · have h4' : ((t.kids.length : Int) == 3) = false := by rw [beq_eq_false_iff_ne]; omega
      have HR : Hid (formR t = 0) := formR_len h1 h2 h4
      rw [hks] at q3
      clear h3 h1 h2 h4 hT hks
      generalize t.kids.length = n at *
      go_enter Tryz.func57, Tryz.ntmps57
      go_wp2
      go_ret
      exact ⟨by rw [HR.out]; rfl, Below.refl _ _⟩
end Go.Proofs.YtcjlifhehiolkaaGreat
