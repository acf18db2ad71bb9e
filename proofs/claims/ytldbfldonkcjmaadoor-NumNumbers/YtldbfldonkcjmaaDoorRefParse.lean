/-
  The document's Parse: its walk.
-/
import Derived.Test.YtldbfldonkcjmaaDoorParseWalk
namespace Go.Proofs.YtldbfldonkcjmaaDoor
open Go.RowKit Ieee

set_option maxRecDepth 1000000 in
theorem madeX (p q : Int) (hp : p.natAbs < 9007199254740992) (hq : q.natAbs < 9007199254740992) (w : World) : Calls Tryd.prog 35 #[.int .i64 p, .int .i64 q] w (Pu (.tuple #[.complex .f64 (floatOfInt .f64 (fit p q).1) (floatOfInt .f64 (fit p q).2.1), .int .i64 (fit p q).2.2]) w) := by
  have f1 := Fl.mk p hp
  have f2 := Fl.mk q hq
  by_cases hf : p.natAbs ≤ 1048576 ∧ q.natAbs ≤ 1048576
  · rw [fit, if_pos hf]
    have hR := rright_yes _ _ p q ⟨f1, hf.1⟩ ⟨f2, hf.2⟩
    go_enter Tryd.func35, Tryd.ntmps35
    go_wp2_with fail
    refine (rof p q _).mono ?_
    rintro e w1 ⟨rfl, rfl⟩
    go_wp2_with fail
    refine (hR _).mono ?_
    rintro e w1 ⟨rfl, rfl⟩
    go_wp2
    go_ret2
    exact ⟨rfl, rfl⟩
  · rw [fit, if_neg hf]
    have hN : NotRt (floatOfInt .f64 p) ∨ NotRt (floatOfInt .f64 q) := by
      by_cases h : p.natAbs ≤ 1048576
      · exact .inr (not_rt f2 (fun h' => hf ⟨h, h'⟩))
      · exact .inl (not_rt f1 h)
    have hR := rright_no _ _ hN
    go_enter Tryd.func35, Tryd.ntmps35
    go_wp2_with fail
    refine (rof p q _).mono ?_
    rintro e w1 ⟨rfl, rfl⟩
    go_wp2_with fail
    refine (hR _).mono ?_
    rintro e w1 ⟨rfl, rfl⟩
    go_wp2
    go_ret2
    exact ⟨by rw [fl_zero]; rfl, rfl⟩
set_option maxRecDepth 1000000 in
theorem rright3 (p q : Int) (hp : p.natAbs < 9007199254740992) (hq : q.natAbs < 9007199254740992) (w : World) : Calls Tryd.prog 38 #[.int .i64 p, .int .i64 q] w (ParseE (right3 p q) w) := by
  have hm := madeX p q hp hq
  by_cases hf : p.natAbs ≤ 1048576 ∧ q.natAbs ≤ 1048576
  · rw [right3, if_pos hf]
    rw [fit, if_pos hf] at hm
    clear hf hp hq
    go_enter Tryd.func38, Tryd.ntmps38
    go_wp2_with fail
    refine (hm _).mono ?_
    rintro e w1 ⟨rfl, rfl⟩
    go_wp2
    go_ret2
    exact ⟨rfl, 0, rfl⟩
  · rw [right3, if_neg hf]
    rw [fit, if_neg hf] at hm
    clear hf hp hq
    go_enter Tryd.func38, Tryd.ntmps38
    go_wp2_with fail
    refine (hm _).mono ?_
    rintro e w1 ⟨rfl, rfl⟩
    go_wp2
    go_ret2
    exact ⟨rfl, 0, rfl⟩

/-- How the text begins: with a minus, or not. -/
theorem ahead_or (s : ByteArray) : (minusAhead s = true ∧ s.toList.isEmpty = false ∧ ∃ h : 0 < s.size, (s[0].toNat : Int) = 45) ∨ (minusAhead s = false ∧ s.toList.isEmpty = true) ∨
    (minusAhead s = false ∧ s.toList.isEmpty = false ∧ ∃ h : 0 < s.size, ((s[0].toNat : Int) == 45) = false) := by
  by_cases h : s.toList.isEmpty = true
  · refine .inr (.inl ⟨?_, h⟩)
    unfold minusAhead
    rw [ByteArray.toList_eq, List.isEmpty_iff] at h
    rw [h]
    rfl
  · have h' := Bool.eq_false_iff.2 h
    have hp := empty_size s h'
    unfold minusAhead
    rw [head_at s hp]
    by_cases hx : s[0] = 45
    · exact .inl ⟨by rw [hx]; rfl, h', hp, by rw [hx]; rfl⟩
    · refine .inr (.inr ⟨by simpa using hx, h', hp, ?_⟩)
      have : s[0].toNat ≠ 45 := fun e => hx (UInt8.toNat_inj.1 (by rw [e]; rfl))
      simp; omega

set_option maxHeartbeats 1600000 in
set_option maxRecDepth 1000000 in
theorem rparse_m (s : ByteArray) (hs : s.size ≤ 9223372036854775806) (hm : minusAhead s = true) (he : s.toList.isEmpty = false) (h0 : 0 < s.size) (hc0 : (s[0].toNat : Int) = 45) (w : World) : Calls Tryd.prog 26 #[.string s] w (ParseE (parseW numB s) w) := by
  have hc1 : cutS s = s.extract 1 s.size := by unfold cutS; rw [if_pos hm]
  have hq1 : (1 : Int) ≤ (s.size : Int) := by omega
  have hq0 : (0 : Int) < (s.size : Int) := by omega
  have hsg0 : sgn (minusAhead s) (numB (cutS s)) = -(numB (cutS s) : Int) := by rw [hm]; rfl
  have hr := part (cutS s) (Nat.le_trans (cutS_size s) hs)
  have hN := numB_le (cutS s)
  have hsz : ((cutS s).extract (pre (cutS s)).length (cutS s).size).size ≤ 9223372036854775806 := Nat.le_trans (extract_size _ _) (Nat.le_trans (cutS_size s) hs)
  unfold PartB at hr
  unfold parseW
  rw [hsg0]
  clear hsg0 hm
  rw [hc1] at hr hN hsz ⊢
  clear hc1
  generalize numB (s.extract 1 s.size) = N at *
  generalize (s.extract 1 s.size).extract (pre (s.extract 1 s.size)).length (s.extract 1 s.size).size = r at *
  generalize hkk : (pre (s.extract 1 s.size)).length = k at *
  by_cases hk : k = 0
  · rw [if_pos hk]
    have hb : decide (0 < k) = false := by simp [hk]
    rw [hb] at hr
    clear hk hb hkk
    go_enter Tryd.func26, Tryd.ntmps26
    go_wp2_with fail
    refine (hr _).mono ?_
    rintro e w1 ⟨rfl, n, rfl⟩
    go_wp2
    go_ret2
    exact parseE_zero _ _
  have hb : decide (0 < k) = true := by simp; omega
  rw [if_neg hk]
  rw [hb] at hr
  clear hk hb hkk
  have i1 := rright3 (-(N : Int)) 0 (by omega) (by decide)
  have i2 := rright3 0 (-(N : Int)) (by decide) (by omega)
  unfold restW
  by_cases h1 : r.toList.isEmpty = true
  · rw [if_pos h1]
    clear i2
    go_enter Tryd.func26, Tryd.ntmps26
    go_wp2_with fail
    refine (hr _).mono ?_
    rintro e w1 ⟨rfl, n, rfl⟩
    go_wp2_with fail
    refine (i1 _).mono ?_
    rintro e w2 ⟨rfl, n2, rfl⟩
    go_wp2
    go_ret2
    exact ⟨rfl, _, rfl⟩
  rw [if_neg h1]
  have h1' := Bool.eq_false_iff.2 h1
  have hp := empty_size r h1'
  have hp1 : (1 : Int) ≤ (r.size : Int) := by omega
  have hp0 : (0 : Int) < (r.size : Int) := by omega
  clear h1 i1
  by_cases h2 : (r.toList == [105]) = true
  · rw [if_pos h2]
    go_enter Tryd.func26, Tryd.ntmps26
    go_wp2_with fail
    refine (hr _).mono ?_
    rintro e w1 ⟨rfl, n, rfl⟩
    go_wp2_with fail
    refine (i2 _).mono ?_
    rintro e w2 ⟨rfl, n2, rfl⟩
    go_wp2
    go_ret2
    exact ⟨rfl, _, rfl⟩
  rw [if_neg h2]
  have h2' := Bool.eq_false_iff.2 h2
  clear h2 i2
  rw [head_at r hp]
  have hx : (r.extract 1 r.size).size ≤ 9223372036854775806 := Nat.le_trans (extract_size _ _) hsz
  generalize hy : r.extract 1 r.size = r2 at *
  by_cases h3 : r[0] = 43
  · rw [if_pos (by rw [h3])]
    have hcc : (r[0].toNat : Int) = 43 := by rw [h3]; rfl
    have hr2 := part r2 hx
    have hN2 := numB_le r2
    unfold PartB at hr2
    unfold tailW
    have hsq : sgn false (numB r2) = (numB r2 : Int) := rfl
    rw [hsq]
    clear hsq
    generalize numB r2 = q at *
    generalize r2.extract (pre r2).length r2.size = r3 at *
    clear h3
    by_cases hk2 : (pre r2).length = 0
    · have hb2 : decide (0 < (pre r2).length) = false := by simp [hk2]
      rw [hb2] at hr2
      rw [if_pos hk2]
      clear hb2 hk2
      go_enter Tryd.func26, Tryd.ntmps26
      go_wp2_with fail
      refine (hr _).mono ?_
      rintro e w1 ⟨rfl, n, rfl⟩
      go_wp2_with fail
      refine (hr2 _).mono ?_
      rintro e w2 ⟨rfl, n2, rfl⟩
      go_wp2
      go_ret2
      exact parseE_zero _ _
    have hb2 : decide (0 < (pre r2).length) = true := by simp; omega
    rw [hb2] at hr2
    rw [if_neg hk2]
    clear hb2 hk2
    by_cases h5 : (r3.toList == [105]) = true
    · rw [if_pos h5]
      have i3 := rright3 (-(N : Int)) ((q : Int)) (by omega) (by omega)
      go_enter Tryd.func26, Tryd.ntmps26
      go_wp2_with fail
      refine (hr _).mono ?_
      rintro e w1 ⟨rfl, n, rfl⟩
      go_wp2_with fail
      refine (hr2 _).mono ?_
      rintro e w2 ⟨rfl, n2, rfl⟩
      go_wp2_with fail
      refine (i3 _).mono ?_
      rintro e w2 ⟨rfl, n3, rfl⟩
      go_wp2
      go_ret2
      exact ⟨rfl, _, rfl⟩
    · rw [if_neg h5]
      have h5' := Bool.eq_false_iff.2 h5
      clear h5
      go_enter Tryd.func26, Tryd.ntmps26
      go_wp2_with fail
      refine (hr _).mono ?_
      rintro e w1 ⟨rfl, n, rfl⟩
      go_wp2_with fail
      refine (hr2 _).mono ?_
      rintro e w2 ⟨rfl, n2, rfl⟩
      go_wp2
      go_ret2
      exact parseE_zero _ _
  rw [if_neg (by simpa using h3)]
  by_cases h4 : r[0] = 45
  · rw [if_pos (by rw [h4])]
    have hcc : (r[0].toNat : Int) = 45 := by rw [h4]; rfl
    have hr2 := part r2 hx
    have hN2 := numB_le r2
    unfold PartB at hr2
    unfold tailW
    have hsq : sgn true (numB r2) = -(numB r2 : Int) := rfl
    rw [hsq]
    clear hsq
    generalize numB r2 = q at *
    generalize r2.extract (pre r2).length r2.size = r3 at *
    clear h3 h4
    by_cases hk2 : (pre r2).length = 0
    · have hb2 : decide (0 < (pre r2).length) = false := by simp [hk2]
      rw [hb2] at hr2
      rw [if_pos hk2]
      clear hb2 hk2
      go_enter Tryd.func26, Tryd.ntmps26
      go_wp2_with fail
      refine (hr _).mono ?_
      rintro e w1 ⟨rfl, n, rfl⟩
      go_wp2_with fail
      refine (hr2 _).mono ?_
      rintro e w2 ⟨rfl, n2, rfl⟩
      go_wp2
      go_ret2
      exact parseE_zero _ _
    have hb2 : decide (0 < (pre r2).length) = true := by simp; omega
    rw [hb2] at hr2
    rw [if_neg hk2]
    clear hb2 hk2
    by_cases h5 : (r3.toList == [105]) = true
    · rw [if_pos h5]
      have i3 := rright3 (-(N : Int)) (-(q : Int)) (by omega) (by omega)
      go_enter Tryd.func26, Tryd.ntmps26
      go_wp2_with fail
      refine (hr _).mono ?_
      rintro e w1 ⟨rfl, n, rfl⟩
      go_wp2_with fail
      refine (hr2 _).mono ?_
      rintro e w2 ⟨rfl, n2, rfl⟩
      go_wp2_with fail
      refine (i3 _).mono ?_
      rintro e w2 ⟨rfl, n3, rfl⟩
      go_wp2
      go_ret2
      exact ⟨rfl, _, rfl⟩
    · rw [if_neg h5]
      have h5' := Bool.eq_false_iff.2 h5
      clear h5
      go_enter Tryd.func26, Tryd.ntmps26
      go_wp2_with fail
      refine (hr _).mono ?_
      rintro e w1 ⟨rfl, n, rfl⟩
      go_wp2_with fail
      refine (hr2 _).mono ?_
      rintro e w2 ⟨rfl, n2, rfl⟩
      go_wp2
      go_ret2
      exact parseE_zero _ _
  rw [if_neg (by simpa using h4)]
  have h3' : ((r[0].toNat : Int) != 43) = true := by
    have : r[0].toNat ≠ 43 := fun e => h3 (UInt8.toNat_inj.1 (by rw [e]; rfl))
    simp; omega
  have h4' : ((r[0].toNat : Int) != 45) = true := by
    have : r[0].toNat ≠ 45 := fun e => h4 (UInt8.toNat_inj.1 (by rw [e]; rfl))
    simp; omega
  clear h3 h4
  go_enter Tryd.func26, Tryd.ntmps26
  go_wp2_with fail
  refine (hr _).mono ?_
  rintro e w1 ⟨rfl, n, rfl⟩
  go_wp2
  go_ret2
  exact parseE_zero _ _
set_option maxHeartbeats 1600000 in
set_option maxRecDepth 1000000 in
theorem rparse_e (s : ByteArray) (hs : s.size ≤ 9223372036854775806) (hm : minusAhead s = false) (he : s.toList.isEmpty = true) (w : World) : Calls Tryd.prog 26 #[.string s] w (ParseE (parseW numB s) w) := by
  have hc1 : cutS s = s := by unfold cutS; rw [hm]; rfl
  have hsg0 : sgn (minusAhead s) (numB (cutS s)) = (numB (cutS s) : Int) := by rw [hm]; rfl
  have hr := part (cutS s) (Nat.le_trans (cutS_size s) hs)
  have hN := numB_le (cutS s)
  have hsz : ((cutS s).extract (pre (cutS s)).length (cutS s).size).size ≤ 9223372036854775806 := Nat.le_trans (extract_size _ _) (Nat.le_trans (cutS_size s) hs)
  unfold PartB at hr
  unfold parseW
  rw [hsg0]
  clear hsg0 hm
  rw [hc1] at hr hN hsz ⊢
  clear hc1
  generalize numB (s) = N at *
  generalize (s).extract (pre (s)).length (s).size = r at *
  generalize hkk : (pre (s)).length = k at *
  by_cases hk : k = 0
  · rw [if_pos hk]
    have hb : decide (0 < k) = false := by simp [hk]
    rw [hb] at hr
    clear hk hb hkk
    go_enter Tryd.func26, Tryd.ntmps26
    go_wp2_with fail
    refine (hr _).mono ?_
    rintro e w1 ⟨rfl, n, rfl⟩
    go_wp2
    go_ret2
    exact parseE_zero _ _
  have hb : decide (0 < k) = true := by simp; omega
  rw [if_neg hk]
  rw [hb] at hr
  clear hk hb hkk
  have i1 := rright3 ((N : Int)) 0 (by omega) (by decide)
  have i2 := rright3 0 ((N : Int)) (by decide) (by omega)
  unfold restW
  by_cases h1 : r.toList.isEmpty = true
  · rw [if_pos h1]
    clear i2
    go_enter Tryd.func26, Tryd.ntmps26
    go_wp2_with fail
    refine (hr _).mono ?_
    rintro e w1 ⟨rfl, n, rfl⟩
    go_wp2_with fail
    refine (i1 _).mono ?_
    rintro e w2 ⟨rfl, n2, rfl⟩
    go_wp2
    go_ret2
    exact ⟨rfl, _, rfl⟩
  rw [if_neg h1]
  have h1' := Bool.eq_false_iff.2 h1
  have hp := empty_size r h1'
  have hp1 : (1 : Int) ≤ (r.size : Int) := by omega
  have hp0 : (0 : Int) < (r.size : Int) := by omega
  clear h1 i1
  by_cases h2 : (r.toList == [105]) = true
  · rw [if_pos h2]
    go_enter Tryd.func26, Tryd.ntmps26
    go_wp2_with fail
    refine (hr _).mono ?_
    rintro e w1 ⟨rfl, n, rfl⟩
    go_wp2_with fail
    refine (i2 _).mono ?_
    rintro e w2 ⟨rfl, n2, rfl⟩
    go_wp2
    go_ret2
    exact ⟨rfl, _, rfl⟩
  rw [if_neg h2]
  have h2' := Bool.eq_false_iff.2 h2
  clear h2 i2
  rw [head_at r hp]
  have hx : (r.extract 1 r.size).size ≤ 9223372036854775806 := Nat.le_trans (extract_size _ _) hsz
  generalize hy : r.extract 1 r.size = r2 at *
  by_cases h3 : r[0] = 43
  · rw [if_pos (by rw [h3])]
    have hcc : (r[0].toNat : Int) = 43 := by rw [h3]; rfl
    have hr2 := part r2 hx
    have hN2 := numB_le r2
    unfold PartB at hr2
    unfold tailW
    have hsq : sgn false (numB r2) = (numB r2 : Int) := rfl
    rw [hsq]
    clear hsq
    generalize numB r2 = q at *
    generalize r2.extract (pre r2).length r2.size = r3 at *
    clear h3
    by_cases hk2 : (pre r2).length = 0
    · have hb2 : decide (0 < (pre r2).length) = false := by simp [hk2]
      rw [hb2] at hr2
      rw [if_pos hk2]
      clear hb2 hk2
      go_enter Tryd.func26, Tryd.ntmps26
      go_wp2_with fail
      refine (hr _).mono ?_
      rintro e w1 ⟨rfl, n, rfl⟩
      go_wp2_with fail
      refine (hr2 _).mono ?_
      rintro e w2 ⟨rfl, n2, rfl⟩
      go_wp2
      go_ret2
      exact parseE_zero _ _
    have hb2 : decide (0 < (pre r2).length) = true := by simp; omega
    rw [hb2] at hr2
    rw [if_neg hk2]
    clear hb2 hk2
    by_cases h5 : (r3.toList == [105]) = true
    · rw [if_pos h5]
      have i3 := rright3 ((N : Int)) ((q : Int)) (by omega) (by omega)
      go_enter Tryd.func26, Tryd.ntmps26
      go_wp2_with fail
      refine (hr _).mono ?_
      rintro e w1 ⟨rfl, n, rfl⟩
      go_wp2_with fail
      refine (hr2 _).mono ?_
      rintro e w2 ⟨rfl, n2, rfl⟩
      go_wp2_with fail
      refine (i3 _).mono ?_
      rintro e w2 ⟨rfl, n3, rfl⟩
      go_wp2
      go_ret2
      exact ⟨rfl, _, rfl⟩
    · rw [if_neg h5]
      have h5' := Bool.eq_false_iff.2 h5
      clear h5
      go_enter Tryd.func26, Tryd.ntmps26
      go_wp2_with fail
      refine (hr _).mono ?_
      rintro e w1 ⟨rfl, n, rfl⟩
      go_wp2_with fail
      refine (hr2 _).mono ?_
      rintro e w2 ⟨rfl, n2, rfl⟩
      go_wp2
      go_ret2
      exact parseE_zero _ _
  rw [if_neg (by simpa using h3)]
  by_cases h4 : r[0] = 45
  · rw [if_pos (by rw [h4])]
    have hcc : (r[0].toNat : Int) = 45 := by rw [h4]; rfl
    have hr2 := part r2 hx
    have hN2 := numB_le r2
    unfold PartB at hr2
    unfold tailW
    have hsq : sgn true (numB r2) = -(numB r2 : Int) := rfl
    rw [hsq]
    clear hsq
    generalize numB r2 = q at *
    generalize r2.extract (pre r2).length r2.size = r3 at *
    clear h3 h4
    by_cases hk2 : (pre r2).length = 0
    · have hb2 : decide (0 < (pre r2).length) = false := by simp [hk2]
      rw [hb2] at hr2
      rw [if_pos hk2]
      clear hb2 hk2
      go_enter Tryd.func26, Tryd.ntmps26
      go_wp2_with fail
      refine (hr _).mono ?_
      rintro e w1 ⟨rfl, n, rfl⟩
      go_wp2_with fail
      refine (hr2 _).mono ?_
      rintro e w2 ⟨rfl, n2, rfl⟩
      go_wp2
      go_ret2
      exact parseE_zero _ _
    have hb2 : decide (0 < (pre r2).length) = true := by simp; omega
    rw [hb2] at hr2
    rw [if_neg hk2]
    clear hb2 hk2
    by_cases h5 : (r3.toList == [105]) = true
    · rw [if_pos h5]
      have i3 := rright3 ((N : Int)) (-(q : Int)) (by omega) (by omega)
      go_enter Tryd.func26, Tryd.ntmps26
      go_wp2_with fail
      refine (hr _).mono ?_
      rintro e w1 ⟨rfl, n, rfl⟩
      go_wp2_with fail
      refine (hr2 _).mono ?_
      rintro e w2 ⟨rfl, n2, rfl⟩
      go_wp2_with fail
      refine (i3 _).mono ?_
      rintro e w2 ⟨rfl, n3, rfl⟩
      go_wp2
      go_ret2
      exact ⟨rfl, _, rfl⟩
    · rw [if_neg h5]
      have h5' := Bool.eq_false_iff.2 h5
      clear h5
      go_enter Tryd.func26, Tryd.ntmps26
      go_wp2_with fail
      refine (hr _).mono ?_
      rintro e w1 ⟨rfl, n, rfl⟩
      go_wp2_with fail
      refine (hr2 _).mono ?_
      rintro e w2 ⟨rfl, n2, rfl⟩
      go_wp2
      go_ret2
      exact parseE_zero _ _
  rw [if_neg (by simpa using h4)]
  have h3' : ((r[0].toNat : Int) != 43) = true := by
    have : r[0].toNat ≠ 43 := fun e => h3 (UInt8.toNat_inj.1 (by rw [e]; rfl))
    simp; omega
  have h4' : ((r[0].toNat : Int) != 45) = true := by
    have : r[0].toNat ≠ 45 := fun e => h4 (UInt8.toNat_inj.1 (by rw [e]; rfl))
    simp; omega
  clear h3 h4
  go_enter Tryd.func26, Tryd.ntmps26
  go_wp2_with fail
  refine (hr _).mono ?_
  rintro e w1 ⟨rfl, n, rfl⟩
  go_wp2
  go_ret2
  exact parseE_zero _ _
set_option maxHeartbeats 1600000 in
set_option maxRecDepth 1000000 in
theorem rparse_p (s : ByteArray) (hs : s.size ≤ 9223372036854775806) (hm : minusAhead s = false) (he : s.toList.isEmpty = false) (h0 : 0 < s.size) (hc0 : ((s[0].toNat : Int) == 45) = false) (w : World) : Calls Tryd.prog 26 #[.string s] w (ParseE (parseW numB s) w) := by
  have hc1 : cutS s = s := by unfold cutS; rw [hm]; rfl
  have hq0 : (0 : Int) < (s.size : Int) := by omega
  have hsg0 : sgn (minusAhead s) (numB (cutS s)) = (numB (cutS s) : Int) := by rw [hm]; rfl
  have hr := part (cutS s) (Nat.le_trans (cutS_size s) hs)
  have hN := numB_le (cutS s)
  have hsz : ((cutS s).extract (pre (cutS s)).length (cutS s).size).size ≤ 9223372036854775806 := Nat.le_trans (extract_size _ _) (Nat.le_trans (cutS_size s) hs)
  unfold PartB at hr
  unfold parseW
  rw [hsg0]
  clear hsg0 hm
  rw [hc1] at hr hN hsz ⊢
  clear hc1
  generalize numB (s) = N at *
  generalize (s).extract (pre (s)).length (s).size = r at *
  generalize hkk : (pre (s)).length = k at *
  by_cases hk : k = 0
  · rw [if_pos hk]
    have hb : decide (0 < k) = false := by simp [hk]
    rw [hb] at hr
    clear hk hb hkk
    go_enter Tryd.func26, Tryd.ntmps26
    go_wp2_with fail
    refine (hr _).mono ?_
    rintro e w1 ⟨rfl, n, rfl⟩
    go_wp2
    go_ret2
    exact parseE_zero _ _
  have hb : decide (0 < k) = true := by simp; omega
  rw [if_neg hk]
  rw [hb] at hr
  clear hk hb hkk
  have i1 := rright3 ((N : Int)) 0 (by omega) (by decide)
  have i2 := rright3 0 ((N : Int)) (by decide) (by omega)
  unfold restW
  by_cases h1 : r.toList.isEmpty = true
  · rw [if_pos h1]
    clear i2
    go_enter Tryd.func26, Tryd.ntmps26
    go_wp2_with fail
    refine (hr _).mono ?_
    rintro e w1 ⟨rfl, n, rfl⟩
    go_wp2_with fail
    refine (i1 _).mono ?_
    rintro e w2 ⟨rfl, n2, rfl⟩
    go_wp2
    go_ret2
    exact ⟨rfl, _, rfl⟩
  rw [if_neg h1]
  have h1' := Bool.eq_false_iff.2 h1
  have hp := empty_size r h1'
  have hp1 : (1 : Int) ≤ (r.size : Int) := by omega
  have hp0 : (0 : Int) < (r.size : Int) := by omega
  clear h1 i1
  by_cases h2 : (r.toList == [105]) = true
  · rw [if_pos h2]
    go_enter Tryd.func26, Tryd.ntmps26
    go_wp2_with fail
    refine (hr _).mono ?_
    rintro e w1 ⟨rfl, n, rfl⟩
    go_wp2_with fail
    refine (i2 _).mono ?_
    rintro e w2 ⟨rfl, n2, rfl⟩
    go_wp2
    go_ret2
    exact ⟨rfl, _, rfl⟩
  rw [if_neg h2]
  have h2' := Bool.eq_false_iff.2 h2
  clear h2 i2
  rw [head_at r hp]
  have hx : (r.extract 1 r.size).size ≤ 9223372036854775806 := Nat.le_trans (extract_size _ _) hsz
  generalize hy : r.extract 1 r.size = r2 at *
  by_cases h3 : r[0] = 43
  · rw [if_pos (by rw [h3])]
    have hcc : (r[0].toNat : Int) = 43 := by rw [h3]; rfl
    have hr2 := part r2 hx
    have hN2 := numB_le r2
    unfold PartB at hr2
    unfold tailW
    have hsq : sgn false (numB r2) = (numB r2 : Int) := rfl
    rw [hsq]
    clear hsq
    generalize numB r2 = q at *
    generalize r2.extract (pre r2).length r2.size = r3 at *
    clear h3
    by_cases hk2 : (pre r2).length = 0
    · have hb2 : decide (0 < (pre r2).length) = false := by simp [hk2]
      rw [hb2] at hr2
      rw [if_pos hk2]
      clear hb2 hk2
      go_enter Tryd.func26, Tryd.ntmps26
      go_wp2_with fail
      refine (hr _).mono ?_
      rintro e w1 ⟨rfl, n, rfl⟩
      go_wp2_with fail
      refine (hr2 _).mono ?_
      rintro e w2 ⟨rfl, n2, rfl⟩
      go_wp2
      go_ret2
      exact parseE_zero _ _
    have hb2 : decide (0 < (pre r2).length) = true := by simp; omega
    rw [hb2] at hr2
    rw [if_neg hk2]
    clear hb2 hk2
    by_cases h5 : (r3.toList == [105]) = true
    · rw [if_pos h5]
      have i3 := rright3 ((N : Int)) ((q : Int)) (by omega) (by omega)
      go_enter Tryd.func26, Tryd.ntmps26
      go_wp2_with fail
      refine (hr _).mono ?_
      rintro e w1 ⟨rfl, n, rfl⟩
      go_wp2_with fail
      refine (hr2 _).mono ?_
      rintro e w2 ⟨rfl, n2, rfl⟩
      go_wp2_with fail
      refine (i3 _).mono ?_
      rintro e w2 ⟨rfl, n3, rfl⟩
      go_wp2
      go_ret2
      exact ⟨rfl, _, rfl⟩
    · rw [if_neg h5]
      have h5' := Bool.eq_false_iff.2 h5
      clear h5
      go_enter Tryd.func26, Tryd.ntmps26
      go_wp2_with fail
      refine (hr _).mono ?_
      rintro e w1 ⟨rfl, n, rfl⟩
      go_wp2_with fail
      refine (hr2 _).mono ?_
      rintro e w2 ⟨rfl, n2, rfl⟩
      go_wp2
      go_ret2
      exact parseE_zero _ _
  rw [if_neg (by simpa using h3)]
  by_cases h4 : r[0] = 45
  · rw [if_pos (by rw [h4])]
    have hcc : (r[0].toNat : Int) = 45 := by rw [h4]; rfl
    have hr2 := part r2 hx
    have hN2 := numB_le r2
    unfold PartB at hr2
    unfold tailW
    have hsq : sgn true (numB r2) = -(numB r2 : Int) := rfl
    rw [hsq]
    clear hsq
    generalize numB r2 = q at *
    generalize r2.extract (pre r2).length r2.size = r3 at *
    clear h3 h4
    by_cases hk2 : (pre r2).length = 0
    · have hb2 : decide (0 < (pre r2).length) = false := by simp [hk2]
      rw [hb2] at hr2
      rw [if_pos hk2]
      clear hb2 hk2
      go_enter Tryd.func26, Tryd.ntmps26
      go_wp2_with fail
      refine (hr _).mono ?_
      rintro e w1 ⟨rfl, n, rfl⟩
      go_wp2_with fail
      refine (hr2 _).mono ?_
      rintro e w2 ⟨rfl, n2, rfl⟩
      go_wp2
      go_ret2
      exact parseE_zero _ _
    have hb2 : decide (0 < (pre r2).length) = true := by simp; omega
    rw [hb2] at hr2
    rw [if_neg hk2]
    clear hb2 hk2
    by_cases h5 : (r3.toList == [105]) = true
    · rw [if_pos h5]
      have i3 := rright3 ((N : Int)) (-(q : Int)) (by omega) (by omega)
      go_enter Tryd.func26, Tryd.ntmps26
      go_wp2_with fail
      refine (hr _).mono ?_
      rintro e w1 ⟨rfl, n, rfl⟩
      go_wp2_with fail
      refine (hr2 _).mono ?_
      rintro e w2 ⟨rfl, n2, rfl⟩
      go_wp2_with fail
      refine (i3 _).mono ?_
      rintro e w2 ⟨rfl, n3, rfl⟩
      go_wp2
      go_ret2
      exact ⟨rfl, _, rfl⟩
    · rw [if_neg h5]
      have h5' := Bool.eq_false_iff.2 h5
      clear h5
      go_enter Tryd.func26, Tryd.ntmps26
      go_wp2_with fail
      refine (hr _).mono ?_
      rintro e w1 ⟨rfl, n, rfl⟩
      go_wp2_with fail
      refine (hr2 _).mono ?_
      rintro e w2 ⟨rfl, n2, rfl⟩
      go_wp2
      go_ret2
      exact parseE_zero _ _
  rw [if_neg (by simpa using h4)]
  have h3' : ((r[0].toNat : Int) != 43) = true := by
    have : r[0].toNat ≠ 43 := fun e => h3 (UInt8.toNat_inj.1 (by rw [e]; rfl))
    simp; omega
  have h4' : ((r[0].toNat : Int) != 45) = true := by
    have : r[0].toNat ≠ 45 := fun e => h4 (UInt8.toNat_inj.1 (by rw [e]; rfl))
    simp; omega
  clear h3 h4
  go_enter Tryd.func26, Tryd.ntmps26
  go_wp2_with fail
  refine (hr _).mono ?_
  rintro e w1 ⟨rfl, n, rfl⟩
  go_wp2
  go_ret2
  exact parseE_zero _ _
theorem rparse (s : ByteArray) (hs : s.size ≤ 9223372036854775806) (w : World) : Calls Tryd.prog 26 #[.string s] w (ParseE (parseW numB s) w) := by
  rcases ahead_or s with ⟨h1, h2, h3, h4⟩ | ⟨h1, h2⟩ | ⟨h1, h2, h3, h4⟩
  · exact rparse_m s hs h1 h2 h3 h4 w
  · exact rparse_e s hs h1 h2 w
  · exact rparse_p s hs h1 h2 h3 h4 w
end Go.Proofs.YtldbfldonkcjmaaDoor
