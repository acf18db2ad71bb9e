/-
  The package's within, ofAtom, made.
-/
import Derived.BigQuiet
import Derived.Test.YtcjlifhehiolkaaGreatTypesForm
namespace Go.Proofs.YtcjlifhehiolkaaGreat
open Go.RowKit

/-- The part at an index, or none. -/
def WithinE (F : Nat → Prop) (t : Tr) (i : Nat) (w : World) (e : Ending) (w' : World) : Prop :=
  ((∃ (h : i < (partsT t).length) (g o : Nat), e = .returned (.pointer (some ⟨g, o, none⟩)) ∧ PT F w' g o (partsT t)[i]) ∨ (¬ i < (partsT t).length ∧ e = .returned (.pointer none))) ∧ Below w.heap.size w w'
theorem withinE_yes {F : Nat → Prop} {t u : Tr} {i : Nat} {w w' : World} {g o : Nat} (h : (partsT t)[i]? = some u) (hp : PT F w' g o u) (hb : Below w.heap.size w w') : WithinE F t i w (.returned (.pointer (some ⟨g, o, none⟩))) w' := by
  obtain ⟨h1, rfl⟩ := List.getElem?_eq_some_iff.1 h
  exact ⟨.inl ⟨h1, g, o, rfl, hp⟩, hb⟩
theorem withinE_no {F : Nat → Prop} {t : Tr} {i : Nat} {w w' : World} (h : (partsT t).length ≤ i) (hb : Below w.heap.size w w') : WithinE F t i w (.returned (.pointer none)) w' := ⟨.inr ⟨by omega, rfl⟩, hb⟩
theorem partsT_arr {t : Tr} (h : formR t = 2) : partsT t = [kid t 1] := by simp [partsT, h]
theorem partsT_fn {t : Tr} (h : formR t = 3) : partsT t = (kid t 1).kids ++ [kid t 2] := by simp [partsT, h]
theorem partsT_no {t : Tr} (h2 : formR t ≠ 2) (h3 : formR t ≠ 3) : partsT t = [] := by simp [partsT, h2, h3]
theorem form_cases (t : Tr) : formR t = 0 ∨ formR t = 1 ∨ formR t = 2 ∨ formR t = 3 := by
  unfold formR
  repeat' split
  all_goals simp

set_option maxHeartbeats 2000000 in
set_option maxRecDepth 1000000 in
theorem within (F : Nat → Prop) (t : Tr) (g o i : Nat) (w : World) (hF : ∀ g, F g → g < w.heap.size) (h : PT F w g o t) : Calls Tryz.prog 35 #[.pointer (some ⟨g, o, none⟩), .int .i64 (i : Int)] w (WithinE F t i w) := by
  have hf := formOf F t g o w hF h
  rcases form_cases t with h0 | h0 | h0 | h0
  · have HP : Hid ((partsT t).length ≤ i) := by rw [hid_iff, partsT_no (by omega) (by omega)]; simp
    rw [h0] at hf
    clear h0
    go_enter Tryz.func35, Tryz.ntmps35
    go_wp2_with (go_at_call 57; refine hf.mono ?_; rintro e w1 ⟨rfl, hb⟩)
    go_ret
    exact withinE_no HP.out hb
  · have HP : Hid ((partsT t).length ≤ i) := by rw [hid_iff, partsT_no (by omega) (by omega)]; simp
    rw [h0] at hf
    clear h0
    go_enter Tryz.func35, Tryz.ntmps35
    go_wp2_with (go_at_call 57; refine hf.mono ?_; rintro e w1 ⟨rfl, hb⟩)
    go_ret
    exact withinE_no HP.out hb
  · have hl := form2 h0
    have hpa := partsT_arr h0
    rw [h0] at hf
    by_cases hi : i = 0
    · subst hi
      have HP : Hid ((partsT t)[0]? = some (kid t 1)) := by rw [hid_iff, hpa]; rfl
      clear h0 hpa
      go_enter Tryz.func35, Tryz.ntmps35
      go_wp2_with fail
      refine hf.mono ?_
      rintro e w1 ⟨rfl, hb⟩
      obtain ⟨hFg, kv, hT, q0, q1, q2, q3⟩ := h.below hb hF
      obtain ⟨g0, cap0, hk0, hp1⟩ := hT.kid 1 (by omega)
      rw [hk0] at q3
      have hl1 : (1 : Int) < (t.kids.length : Int) := by omega
      clear q0 q1 q2 h hT hk0 hf hl
      generalize t.kids.length = n at *
      go_wp2
      go_ret
      exact withinE_yes HP.out hp1 hb
    · have hi' : ((i : Int) == 0) = false := by rw [beq_eq_false_iff_ne]; omega
      have HP : Hid ((partsT t).length ≤ i) := by rw [hid_iff, hpa]; simp; omega
      clear h0 hpa hi
      go_enter Tryz.func35, Tryz.ntmps35
      go_wp2_with (go_at_call 57; refine hf.mono ?_; rintro e w1 ⟨rfl, hb⟩)
      go_ret
      exact withinE_no HP.out hb
  · have hl := form3 h0
    have hpa := partsT_fn h0
    rw [h0] at hf
    go_enter Tryz.func35, Tryz.ntmps35
    go_wp2_with fail
    refine hf.mono ?_
    rintro e w1 ⟨rfl, hb⟩
    obtain ⟨hFg, kv, hT, q0, q1, q2, q3⟩ := h.below hb hF
    obtain ⟨g0, cap0, hk0, hF0, kv1, hT1, d0, d1, d2, d3⟩ := hT.kid 1 (by omega)
    obtain ⟨g2, cap2, hk2, hp2⟩ := hT.kid 2 (by omega)
    rw [hk0] at hk2
    simp only [Value.slice.injEq, Option.some.injEq, Addr.mk.injEq, and_true, true_and] at hk2
    obtain ⟨rfl, rfl⟩ := hk2
    rw [hk0] at q3
    have hl1 : (1 : Int) < (t.kids.length : Int) := by omega
    have hl2 : (2 : Int) < (t.kids.length : Int) := by omega
    obtain ⟨ka, kc, hka⟩ := hT1.shape
    simp only [Nat.one_mul] at d3
    by_cases hi : i < (kid t 1).kids.length
    · obtain ⟨g3, cap3, hk3, hp3⟩ := hT1.kid i hi
      have HP : Hid ((partsT t)[i]? = some (kid (kid t 1) i)) := by
        rw [hid_iff, hpa, List.getElem?_append_left hi, List.getElem?_eq_getElem hi, kid_get hi]
      rw [hk3] at d3
      have hi' : (i : Int) < ((kid t 1).kids.length : Int) := by omega
      clear q0 q1 q2 h hT hk0 hf hl h0 hpa d0 d1 d2 hT1 hka hk3 hp2
      generalize t.kids.length = n at *
      generalize (kid t 1).kids.length = n1 at *
      go_wp2
      go_ret
      exact withinE_yes HP.out hp3 hb
    · have hi' : ¬ (i : Int) < ((kid t 1).kids.length : Int) := by omega
      rw [hka] at d3
      by_cases hie : i = (kid t 1).kids.length
      · have HP : Hid ((partsT t)[i]? = some (kid t 2)) := by
          rw [hid_iff, hpa, hie]; simp
        have hie' : ((i : Int) == ((kid t 1).kids.length : Int)) = true := by rw [beq_iff_eq]; omega
        clear q0 q1 q2 h hT hk0 hf hl h0 hpa d0 d1 d2 hT1 hka hi hie
        generalize t.kids.length = n at *
        generalize (kid t 1).kids.length = n1 at *
        go_wp2
        go_ret
        exact withinE_yes HP.out hp2 hb
      · have HP : Hid ((partsT t).length ≤ i) := by rw [hid_iff, hpa]; simp; omega
        have hie' : ((i : Int) == ((kid t 1).kids.length : Int)) = false := by rw [beq_eq_false_iff_ne]; omega
        clear q0 q1 q2 h hT hk0 hf hl h0 hpa d0 d1 d2 hT1 hka hi hie hp2
        generalize t.kids.length = n at *
        generalize (kid t 1).kids.length = n1 at *
        go_wp2
        go_ret
        exact withinE_no HP.out hb

set_option maxHeartbeats 2000000 in
set_option maxRecDepth 1000000 in
theorem ofAtom (x m : List UInt8) (w : World) (hx : x.length ≤ 8192) (hm : m.length ≤ 140737488355328) : Calls Tryz.prog 58 #[.string (str x), .string (str m)] w (TextB (atomR x m) w) := by
  have hxs : (str x).size = x.length := rfl
  have hms : (str m).size = m.length := rfl
  have hr := fun u => rightWord (str x) u (by rw [str_size]; omega)
  rw [str_data] at hr
  have hb := fun u => big (str x) u (by rw [str_size]; omega)
  rw [str_data] at hb
  have hc := fun u => sClone (str x) u (by rw [str_size]; omega)
  cases h1 : wordOk x
  · rw [h1] at hr
    cases h2 : bigR x
    · rw [h2] at hb
      have HR : Hid (atomR x m = []) := by simp [hid_iff, atomR, h1, h2]
      clear h1 h2
      go_enter Tryz.func58, Tryz.ntmps58
      go_wp2_with fail
      refine (hr _).mono ?_
      rintro e w1 ⟨rfl, n, rfl⟩
      go_wp2_with fail
      refine (hb _).mono ?_
      rintro e w1 ⟨rfl, rfl⟩
      go_wp2
      go_ret
      exact ⟨by rw [HR.out]; rfl, below_drewN (Below.refl _ _) n⟩
    · rw [h2] at hb
      have HR : Hid (str m ++ (⟨#[46]⟩ : ByteArray) ++ str x = str (atomR x m)) := by
        rw [hid_iff, show (⟨#[46]⟩ : ByteArray) = str [46] from rfl, str_append, str_append]
        simp [atomR, h1, h2]
      clear h1 h2
      go_enter Tryz.func58, Tryz.ntmps58
      go_wp2_with fail
      refine (hr _).mono ?_
      rintro e w1 ⟨rfl, n, rfl⟩
      go_wp2_with fail
      refine (hb _).mono ?_
      rintro e w1 ⟨rfl, rfl⟩
      go_wp2
      go_ret
      exact ⟨by rw [← HR.out]; rfl, below_drewN (Below.refl _ _) n⟩
  · rw [h1] at hr
    have HR : Hid (atomR x m = x) := by simp [hid_iff, atomR, h1]
    clear h1
    go_enter Tryz.func58, Tryz.ntmps58
    go_wp2_with fail
    refine (hr _).mono ?_
    rintro e w1 ⟨rfl, n, rfl⟩
    go_wp2_with fail
    refine (hc _).mono ?_
    rintro e w1 ⟨rfl, hb1⟩
    go_wp2
    go_ret
    exact ⟨by rw [HR.out]; rfl, below_trans (w1 := w.drewN n) (below_drewN (Below.refl _ _) n) hb1⟩
end Go.Proofs.YtcjlifhehiolkaaGreat
