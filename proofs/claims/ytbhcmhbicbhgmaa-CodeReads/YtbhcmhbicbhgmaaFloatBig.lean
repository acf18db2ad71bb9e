/-
  The float of a whole number that is too great is no right part.
-/
import Derived.Test.YtbhcmhbicbhgmaaRight
namespace Go.Proofs.Ytbhcmhbicbhgmaa.Num
open Go.RowKit Ieee

theorem cut_ge (neg : Bool) (n d : Nat) (h : d ≤ n.log2) : n / 2 ^ d ≤ Toward.even.cut neg n d := by
  unfold Toward.cut
  simp only [Nat.min_eq_left (show d ≤ n.log2 + 2 by omega), Nat.shiftLeft_eq, Nat.one_mul]
  exact Nat.le_add_right _ _
theorem big_word (neg : Bool) (N : Nat) (h : 9007199254740992 ≤ N) : ∃ R, double.nearest neg N 0 = double.word neg R ∧ 4845873199050653696 ≤ R ∧ R ≤ 9218868437227405312 := by
  have hl : 53 ≤ N.log2 := (Nat.le_log2 (by omega)).2 (by simpa using h)
  have elp : double.leastPlace = -1074 := by decide
  have ebi : double.binade = 4503599627370496 := by decide
  have einf : double.infRung = 9218868437227405312 := by decide
  have hfb : double.fractionBits = 52 := rfl
  have hlast : max ((0 : Int) + N.log2 - double.fractionBits) double.leastPlace = (N.log2 : Int) - 52 := by rw [elp, hfb]; omega
  unfold Format.nearest
  rw [if_neg (by omega)]
  simp only [hlast]
  refine ⟨_, rfl, ?_, by rw [einf]; exact Nat.min_le_right _ _⟩
  have e0 : ((0 : Int) - ((N.log2 : Int) - 52)).toNat = 0 := by omega
  have e1 : ((N.log2 : Int) - 52 - 0).toNat = N.log2 - 52 := by omega
  have e2 : ((N.log2 : Int) - 52 - double.leastPlace).toNat = N.log2 + 1022 := by rw [elp]; omega
  rw [e0, e1, e2, ebi, einf, Nat.shiftLeft_zero]
  have hc := cut_ge neg N (N.log2 - 52) (by omega)
  have hk : 4503599627370496 ≤ N / 2 ^ (N.log2 - 52) := by
    rw [Nat.le_div_iff_mul_le (Nat.two_pow_pos _)]
    have e3 : 4503599627370496 * 2 ^ (N.log2 - 52) = 2 ^ N.log2 := by
      rw [show (4503599627370496 : Nat) = 2 ^ 52 by decide, ← Nat.pow_add, show 52 + (N.log2 - 52) = N.log2 by omega]
    rw [e3]
    exact Nat.log2_self_le (by omega)
  refine Nat.le_min.2 ⟨?_, by decide⟩
  have h3 : 1075 * 4503599627370496 ≤ (N.log2 + 1022) * 4503599627370496 := Nat.mul_le_mul_right _ (by omega)
  omega
theorem big_not (n : Int) (h : 9007199254740992 ≤ n.natAbs) : NotRt (floatOfInt .f64 n) := by
  intro v hv
  obtain ⟨R, e, h1, h2⟩ := big_word (decide (n < 0)) n.natAbs h
  have e' : floatOfInt .f64 n = double.word (decide (n < 0)) R := e
  rw [e'] at hv
  obtain ⟨hf, hs⟩ := hv
  unfold Fl at hf
  generalize decide (n < 0) = neg at hf
  have elp : double.leastPlace = -1074 := by decide
  have ebi : double.binade = 4503599627370496 := by decide
  have einf : double.infRung = 9218868437227405312 := by decide
  have esw : double.signWeight = 9223372036854775808 := by decide
  have hneg : (double.word neg R / 9223372036854775808 % 2 == 1) = neg := by
    unfold Format.word
    rw [esw]
    cases neg <;> simp <;> omega
  have hmod : double.word neg R % 9223372036854775808 = R := by
    unfold Format.word
    rw [esw]
    cases neg <;> simp <;> omega
  unfold Format.read at hf
  simp only [esw, ebi, einf, elp, hneg, hmod] at hf
  rw [if_neg (by omega)] at hf
  by_cases hlt : R < 9218868437227405312
  · rw [if_pos hlt] at hf
    have hq : 1076 ≤ R / 4503599627370496 := by omega
    have hk := hf.at 0 (by omega)
    unfold signed at hk
    rw [Nat.shiftLeft_eq] at hk
    have hpow := Nat.two_pow_pos ((-1074 : Int) + ((R / 4503599627370496 - 1 : Nat) : Int) + ((0 : Nat) : Int)).toNat
    generalize 2 ^ ((-1074 : Int) + ((R / 4503599627370496 - 1 : Nat) : Int) + ((0 : Nat) : Int)).toNat = T at hk hpow
    have hm : 4503599627370496 ≤ (4503599627370496 + R % 4503599627370496) * T := Nat.le_trans (by omega) (Nat.le_mul_of_pos_right _ hpow)
    generalize (4503599627370496 + R % 4503599627370496) * T = Y at hk hm
    rw [Int.pow_zero, Int.mul_one] at hk
    split at hk <;> omega
  · rw [if_neg hlt, if_pos (by omega)] at hf
    obtain ⟨_, _, _, hx⟩ := hf.num
    cases hx
/-- The float of a whole number is right just if it is small enough. -/
theorem rt_int (n : Int) : Rt (floatOfInt .f64 n) n ∧ n.natAbs ≤ 1048576 ∨ NotRt (floatOfInt .f64 n) ∧ ¬ n.natAbs ≤ 1048576 := by
  by_cases h : n.natAbs ≤ 1048576
  · exact .inl ⟨⟨Fl.mk n (by omega), h⟩, h⟩
  · refine .inr ⟨?_, h⟩
    by_cases h1 : n.natAbs < 9007199254740992
    · intro v hv
      have := Is.uniq (read_fl n h1) hv.1
      subst this
      exact h hv.2
    · exact big_not n (by omega)
theorem fl_lt (n : Int) : floatOfInt .f64 n < 18446744073709551616 := by
  by_cases h1 : n.natAbs < 9007199254740992
  · by_cases hn : n = 0
    · subst hn; rw [fl_zero]; decide
    · rw [fl_word n hn h1]
      have hl := log2_le n.natAbs (by omega) h1
      have hr := rung_mant n.natAbs (by omega) h1
      have esw : double.signWeight = 9223372036854775808 := by decide
      unfold Format.word rung
      rw [esw]
      split <;> omega
  · obtain ⟨R, e, h1, h2⟩ := big_word (decide (n < 0)) n.natAbs (by omega)
    have e' : floatOfInt .f64 n = double.word (decide (n < 0)) R := e
    have esw : double.signWeight = 9223372036854775808 := by decide
    rw [e']
    unfold Format.word
    rw [esw]
    split <;> omega
/-- Right of a number of two whole parts. -/
theorem right_int (a b : Int) (w : World) : Calls Try.prog 41 #[.complex .f64 (floatOfInt .f64 a) (floatOfInt .f64 b)] w (Pu (.bool (decide (a.natAbs ≤ 1048576) && decide (b.natAbs ≤ 1048576))) w) := by
  have ha := fl_lt a
  have hb := fl_lt b
  rcases rt_int a with ⟨h1, h2⟩ | ⟨h1, h2⟩
  · rcases rt_int b with ⟨h3, h4⟩ | ⟨h3, h4⟩
    · rw [decide_eq_true h2, decide_eq_true h4]
      exact right_yes _ _ a b ha hb h1 h3 w
    · rw [decide_eq_true h2, decide_eq_false h4]
      exact right_no _ _ ha hb (.inr h3) w
  · rw [decide_eq_false h2, Bool.false_and]
    exact right_no _ _ ha hb (.inl h1) w
end Go.Proofs.Ytbhcmhbicbhgmaa.Num
