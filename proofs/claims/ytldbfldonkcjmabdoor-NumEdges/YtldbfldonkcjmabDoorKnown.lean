/-
  What the laws share: of, near, Within, whole, and 'known', which answers true.
-/
import Derived.Test.YtldbfldonkcjmabDoorRefParse
namespace Go.Proofs.YtldbfldonkcjmabDoor
open Go.RowKit Ieee

set_option maxRecDepth 1000000 in
theorem ofC (a b : Int) (w : World) : Calls Tryd.prog 7 #[.int .i64 a, .int .i64 b] w (Pu (.complex .f64 (floatOfInt .f64 a) (floatOfInt .f64 b)) w) := by
  go_enter Tryd.func7, Tryd.ntmps7
  go_wp2
  go_ret
  exact ⟨rfl, rfl⟩

theorem tmod_emod (n m : Int) (hm : 0 < m) : (0 ≤ n.tmod m ∧ n.tmod m = n % m) ∨ (n.tmod m < 0 ∧ n.tmod m + m = n % m) := by
  have h := Int.tmod_eq_emod (a := n) (b := m)
  have h1 := Int.emod_nonneg n (show m ≠ 0 by omega)
  have h2 := Int.emod_lt_of_pos n hm
  by_cases hc : 0 ≤ n ∨ m ∣ n
  · rw [if_pos hc] at h
    left
    omega
  · rw [if_neg hc] at h
    right
    omega
set_option maxRecDepth 1000000 in
theorem within (n : Int) (hi : Nat) (_h0 : -9223372036854775808 ≤ n) (_h1 : n ≤ 9223372036854775807) (hh : hi ≤ 1000000000) (w : World) : Calls Tryd.prog 5 #[.int .i64 n, .int .i64 0, .int .i64 hi] w (Pu (.int .i64 (n % ((hi : Int) + 1))) w) := by
  have hb := Int.emod_lt_of_pos n (show 0 < (hi : Int) + 1 by omega)
  have hb0 := Int.emod_nonneg n (show (hi : Int) + 1 ≠ 0 by omega)
  have hne : ¬ ((hi : Int) + 1 = 0) := by omega
  have hpos : (0 : Int) < (hi : Int) + 1 := by omega
  rcases tmod_emod n (hi + 1) (by omega) with ⟨h2, h3⟩ | ⟨h2, h3⟩
  · rw [← h3] at hb hb0 ⊢
    generalize hz : n.tmod ((hi : Int) + 1) = z at *
    clear h3
    go_enter Tryd.func5, Tryd.ntmps5
    go_wp2
    go_ret
    exact ⟨rfl, rfl⟩
  · rw [← h3] at hb hb0 ⊢
    generalize hz : n.tmod ((hi : Int) + 1) = z at *
    clear h3
    rw [← Int.add_assoc]
    go_enter Tryd.func5, Tryd.ntmps5
    go_wp2
    go_ret
    exact ⟨rfl, rfl⟩

def nr (a : Int) : Int := a % 2097157 - 1048578
theorem nr_le (a : Int) : -1048578 ≤ nr a ∧ nr a ≤ 1048578 := by
  unfold nr
  omega
theorem cut_leB (B : Nat) (s : Bool) (m : Nat) (i : Int) (k : Nat) (hk : 0 ≤ i + k) (h : m * 2 ^ (i + k).toNat ≤ B * 2 ^ k) : Toward.zero.cut s (m <<< i.toNat) (-i).toNat ≤ B := by
  unfold Toward.cut
  simp only [Bool.toNat_false, Nat.add_zero, Nat.shiftLeft_eq, Nat.one_mul]
  by_cases hi : 0 ≤ i
  · have e0 : (-i).toNat = 0 := by omega
    rw [e0, Nat.zero_min, Nat.pow_zero, Nat.div_one]
    refine Nat.le_of_mul_le_mul_right ?_ (Nat.two_pow_pos k)
    rw [Nat.mul_assoc, ← Nat.pow_add, show i.toNat + k = (i + k).toNat by omega]
    exact h
  · have e0 : i.toNat = 0 := by omega
    rw [e0, Nat.pow_zero, Nat.mul_one]
    have hm : m ≤ B * 2 ^ (-i).toNat := by
      refine Nat.le_of_mul_le_mul_right ?_ (Nat.two_pow_pos (i + k).toNat)
      rw [Nat.mul_assoc, ← Nat.pow_add, show (-i).toNat + (i + k).toNat = k by omega]
      exact h
    by_cases hd : (-i).toNat ≤ m.log2 + 2
    · rw [Nat.min_eq_left hd]
      exact Nat.div_le_of_le_mul (by rw [Nat.mul_comm]; exact hm)
    · rw [Nat.min_eq_right (by omega)]
      have : m < 2 ^ (m.log2 + 2) := Nat.lt_of_lt_of_le (Nat.lt_log2_self (n := m)) (Nat.pow_le_pow_right (by decide) (by omega))
      rw [Nat.div_eq_of_lt this]
      omega
theorem e15 : floatOfInt .f64 1000000000000000 = 4831355200913801216 := by decide +kernel
theorem e15m : floatOfInt .f64 (-1000000000000000) = 14054727237768577024 := by decide +kernel
/-- A float between two whole numbers can be cut to an int64. -/
theorem mid_int (x : Nat) (h1 : (double.order x (floatOfInt .f64 (-1000000000000000)) == some .gt) = true) (h2 : (double.order x (floatOfInt .f64 1000000000000000) == some .lt) = true) :
    ∃ v : Int, v.natAbs ≤ 1000000000000000 ∧ floatToIntVal .f64 x .i64 = some v := by
  have hfl := Fl.mk 1000000000000000 (by decide)
  have hfm := Fl.mk (-1000000000000000) (by decide)
  unfold Format.order at h1 h2
  obtain ⟨t, n, j, e⟩ := Is.num hfl
  obtain ⟨t', n', j', e'⟩ := Is.num hfm
  have hfl' : Is (.number t n j) 1000000000000000 := by rw [← e]; exact hfl
  have hfm' : Is (.number t' n' j') (-1000000000000000) := by rw [← e']; exact hfm
  rw [e'] at h1
  rw [e] at h2
  cases hx : double.read x with
  | nan s q => rw [hx] at h1; simp [Datum.order] at h1
  | infinity s => rw [hx] at h1 h2; cases s <;> simp [Datum.order] at h1 h2
  | number s m i =>
    rw [hx] at h1 h2
    let k : Nat := i.natAbs + j.natAbs + j'.natAbs
    have g1 : 0 ≤ i + (k : Int) := by omega
    have g2 : 0 ≤ j + (k : Int) := by omega
    have g3 : 0 ≤ j' + (k : Int) := by omega
    rw [order_at k g1 g3, hfm'.at k g3] at h1
    rw [order_at k g1 g2, hfl'.at k g2] at h2
    have q1 : (-1000000000000000 : Int) * 2 ^ k < signed s m (i + k).toNat := by
      have := eq_of_beq h1
      rw [Option.some.injEq, Int.compare_eq_gt] at this
      exact this
    have q2 : signed s m (i + k).toNat < (1000000000000000 : Int) * 2 ^ k := by
      have := eq_of_beq h2
      rw [Option.some.injEq, Int.compare_eq_lt] at this
      exact this
    have e1 : (signed s m (i + k).toNat).natAbs = m * 2 ^ (i + k).toNat := by
      unfold signed
      rw [Nat.shiftLeft_eq]
      split <;> omega
    have e2 : (1000000000000000 : Int) * 2 ^ k = ((1000000000000000 * 2 ^ k : Nat) : Int) := by simp
    rw [Int.neg_mul, e2] at q1
    rw [e2] at q2
    have hb : m * 2 ^ (i + k).toNat ≤ 1000000000000000 * 2 ^ k := by omega
    have hc := cut_leB 1000000000000000 s m i k g1 hb
    refine ⟨signed s (Toward.zero.cut s (m <<< i.toNat) (-i).toNat) 0, ?_, ?_⟩
    · unfold signed
      rw [Nat.shiftLeft_zero]
      split <;> omega
    · unfold floatToIntVal
      have ht : (FloatKind.f64.decode x).toInt .zero = some (signed s (Toward.zero.cut s (m <<< i.toNat) (-i).toNat) 0) := by
        show (double.read x).toInt .zero = _
        rw [hx]
        rfl
      rw [ht]
      simp only
      rw [if_pos]
      unfold signed
      rw [Nat.shiftLeft_zero]
      constructor
      · show (-9223372036854775808 : Int) ≤ _
        split <;> omega
      · show _ ≤ (9223372036854775807 : Int)
        split <;> omega
def WholeE (w : World) (e : Ending) (w' : World) : Prop := (∃ v : Int, e = .returned (.int .i64 v) ∧ -9223372036854775808 ≤ v ∧ v ≤ 9223372036854775807) ∧ w' = w
theorem two_mul : two ⟨#[109, 117, 108]⟩ 1 2 3 (-1) = (5, 5, 0) := by decide +kernel
theorem two_add : two ⟨#[97, 100, 100]⟩ 1048576 0 1 0 = (0, 0, 44) := by decide +kernel
theorem parse_2i : parseW numA ⟨#[50, 105]⟩ = (0, 2, true) := by decide +kernel
theorem text_m3 : text 0 (-3) = ⟨#[45, 51, 105]⟩ := by
  have e : itoaS (-3) = ⟨#[45, 51]⟩ := by
    unfold itoaS Lib.itoa
    rw [if_pos (by decide), show (-3 : Int).natAbs = 3 from rfl, dec_small (by decide)]
    rfl
  unfold text
  rw [if_neg (by decide), if_pos rfl, e]
  rfl
theorem fl1 : floatOfInt .f64 1 = 4607182418800017408 := by decide +kernel
theorem flRt (n : Int) (h : n.natAbs ≤ 1048576) : Rt (floatOfInt .f64 n) n := ⟨Fl.mk n (by omega), h⟩
theorem zeroRt : Rt 0 0 := ⟨Fl.zero, by decide⟩
theorem oneRt : Rt 4607182418800017408 1 := by rw [← fl1]; exact flRt 1 (by decide)
theorem below_drewN (w : World) (n : Nat) : Below w.heap.size w (w.drewN n) := ⟨rfl, rfl, rfl, Nat.le_refl _, fun _ _ => rfl⟩
def KnownE (w : World) (e : Ending) (w' : World) : Prop := e = .returned (.bool true) ∧ Below w.heap.size w w'
set_option maxHeartbeats 800000 in
set_option maxRecDepth 1000000 in
theorem known_true (w : World) (ht : Tab w) : Calls Tryd.prog 8 #[] w (KnownE w) := by
  have t1 := two_right ⟨#[109, 117, 108]⟩ (floatOfInt .f64 1) (floatOfInt .f64 2) (floatOfInt .f64 3) (floatOfInt .f64 (-1)) 1 2 3 (-1) (fl_lt _) (fl_lt _) (fl_lt _) (fl_lt _) (flRt _ (by decide)) (flRt _ (by decide)) (flRt _ (by decide)) (flRt _ (by decide))
  have t2 := two_right ⟨#[97, 100, 100]⟩ (floatOfInt .f64 1048576) (floatOfInt .f64 0) 4607182418800017408 0 1048576 0 1 0 (fl_lt _) (fl_lt _) (by decide) (by decide) (flRt _ (by decide)) (flRt _ (by decide)) oneRt zeroRt
  have t3 := parse ⟨#[50, 105]⟩ (by decide)
  have t4 := text_right (floatOfInt .f64 0) (floatOfInt .f64 (-3)) 0 (-3) (fl_lt _) (fl_lt _) (flRt _ (by decide)) (flRt _ (by decide))
  rw [two_mul] at t1
  rw [two_add] at t2
  rw [parse_2i] at t3
  rw [text_m3] at t4
  have o1 : (FloatKind.f64.format.order (floatOfInt .f64 0) (floatOfInt .f64 0) == some .eq) = true := (Fl.eq (Fl.mk 0 (by decide)) (Fl.mk 0 (by decide))).trans rfl
  have o2 : (FloatKind.f64.format.order (floatOfInt .f64 2) (floatOfInt .f64 2) == some .eq) = true := (Fl.eq (Fl.mk 2 (by decide)) (Fl.mk 2 (by decide))).trans rfl
  go_enter Tryd.func8, Tryd.ntmps8
  go_wp2_with fail
  refine (ofC _ _ _).mono ?_
  rintro e u1 ⟨rfl, rfl⟩
  go_wp2_with fail
  refine (ofC _ _ _).mono ?_
  rintro e u1 ⟨rfl, rfl⟩
  go_wp2_with fail
  refine (t1 _).mono ?_
  rintro e u1 ⟨r1, r2, rfl, f1, f2, _, _, _, _, rfl⟩
  have q1 : (FloatKind.f64.format.order r1 (floatOfInt .f64 5) == some .eq) = true := (Fl.eq f1 (Fl.mk 5 (by decide))).trans rfl
  have q2 : (FloatKind.f64.format.order r2 (floatOfInt .f64 5) == some .eq) = true := (Fl.eq f2 (Fl.mk 5 (by decide))).trans rfl
  clear f1 f2
  go_wp2_with fail
  refine (ofC _ _ _).mono ?_
  rintro e u1 ⟨rfl, rfl⟩
  go_wp2_with fail
  refine (t2 _).mono ?_
  rintro e u1 ⟨r3, r4, rfl, _, _, _, _, _, _, rfl⟩
  go_wp2_with fail
  refine (t3 _).mono ?_
  rintro e u1 ⟨rfl, n1, rfl⟩
  go_wp2_with fail
  refine (ofC _ _ _).mono ?_
  rintro e u1 ⟨rfl, rfl⟩
  go_wp2_with fail
  refine (ofC _ _ _).mono ?_
  rintro e u2 ⟨rfl, rfl⟩
  go_wp2_with fail
  refine (t4 _ (ht.below (below_drewN u1 n1))).mono ?_
  rintro e u3 ⟨rfl, k3⟩
  have k4 := (below_drewN u1 n1).trans k3
  clear k3
  go_wp2_with fail
  refine (ofC _ _ _).mono ?_
  rintro e u4 ⟨rfl, rfl⟩
  go_wp2
  go_ret
  exact ⟨rfl, k4⟩
end Go.Proofs.YtldbfldonkcjmabDoor
