/-
  The package's Two and One: what each call answers, by the whole numbers that its arguments are.
-/
import Derived.Test.YtldbfldonkcjmaaDoorRight
namespace Go.Proofs.YtldbfldonkcjmaaDoor
open Go.RowKit Ieee

/-- Parts that may be, or the refusal. -/
def fit (p q : Int) : Int × Int × Int := if p.natAbs ≤ 1048576 ∧ q.natAbs ≤ 1048576 then (p, q, 0) else (0, 0, 44)
def two (op : ByteArray) (a b c d : Int) : Int × Int × Int :=
  if (op.toList == [97, 100, 100]) = true then fit (a + c) (b + d) else if (op.toList == [115, 117, 98]) = true then fit (a - c) (b - d) else if (op.toList == [109, 117, 108]) = true then fit (a * c - b * d) (a * d + b * c) else (0, 0, 1)
def one (op : ByteArray) (a b : Int) : Int × Int × Int :=
  if (op.toList == [110, 101, 103]) = true then (-a, -b, 0) else if (op.toList == [99, 111, 110, 106]) = true then (a, -b, 0) else if (op.toList == [114, 101]) = true then (a, 0, 0) else if (op.toList == [105, 109]) = true then (b, 0, 0) else (0, 0, 1)
/-- What a call answers: the parts' floats (0 is +0), and the refusal. -/
def NumE (s : Int × Int × Int) (w : World) (e : Ending) (w' : World) : Prop :=
  ∃ r1 r2, e = .returned (.tuple #[.complex .f64 r1 r2, .int .i64 s.2.2]) ∧ Fl r1 s.1 ∧ Fl r2 s.2.1 ∧ (s.1 = 0 → r1 = 0) ∧ (s.2.1 = 0 → r2 = 0) ∧ r1 < 18446744073709551616 ∧ r2 < 18446744073709551616 ∧ w' = w
theorem numE_zero (k : Int) (w : World) : NumE (0, 0, k) w (.returned (.tuple #[.complex .f64 0 0, .int .i64 k])) w := ⟨0, 0, rfl, Fl.zero, Fl.zero, fun _ => rfl, fun _ => rfl, by decide, by decide, rfl⟩

set_option maxRecDepth 1000000 in
theorem two_arg (op : ByteArray) (p1 p2 q1 q2 : Nat) (h1 : p1 < 18446744073709551616) (h2 : p2 < 18446744073709551616) (h3 : q1 < 18446744073709551616) (h4 : q2 < 18446744073709551616) (h : (NotRt p1 ∨ NotRt p2) ∨ (NotRt q1 ∨ NotRt q2)) (w : World) :
    Calls Tryd.prog 11 #[.string op, .complex .f64 p1 p2, .complex .f64 q1 q2] w (NumE (0, 0, 1) w) := by
  by_cases hp : NotRt p1 ∨ NotRt p2
  · go_enter Tryd.func11, Tryd.ntmps11
    go_wp2_with fail
    refine (right_no p1 p2 h1 h2 hp _).mono ?_
    rintro e w1 ⟨rfl, rfl⟩
    go_wp2
    go_ret2
    exact numE_zero 1 _
  · have hq : NotRt q1 ∨ NotRt q2 := h.resolve_left hp
    obtain ⟨a, ha⟩ : ∃ v, Rt p1 v := (rt_or p1).resolve_right (fun h => hp (.inl h))
    obtain ⟨b, hb⟩ : ∃ v, Rt p2 v := (rt_or p2).resolve_right (fun h => hp (.inr h))
    go_enter Tryd.func11, Tryd.ntmps11
    go_wp2_with fail
    refine (right_yes p1 p2 a b h1 h2 ha hb _).mono ?_
    rintro e w1 ⟨rfl, rfl⟩
    go_wp2_with fail
    refine (right_no q1 q2 h3 h4 hq _).mono ?_
    rintro e w1 ⟨rfl, rfl⟩
    go_wp2
    go_ret2
    exact numE_zero 1 _

theorem bits_lt {op : BinOp} {x y r : Nat} (h : floatBits op .f64 x y = some r) : r < 18446744073709551616 := by
  have := floatBits_wf h
  simpa [Lit.wf] using this
theorem not_rt {x : Nat} {n : Int} (h : Fl x n) (hn : ¬ n.natAbs ≤ 1048576) : NotRt x := fun v hv => hn (by rw [Is.uniq h hv.1]; exact hv.2)
theorem mul_small {a b : Int} (ha : a.natAbs ≤ 1048576) (hb : b.natAbs ≤ 1048576) : (a * b).natAbs ≤ 1099511627776 := by
  rw [Int.natAbs_mul]
  exact Nat.mul_le_mul ha hb

set_option maxRecDepth 1000000 in
theorem two_op (op : ByteArray) (p1 p2 q1 q2 : Nat) (a b c d : Int) (h1 : p1 < 18446744073709551616) (h2 : p2 < 18446744073709551616) (h3 : q1 < 18446744073709551616) (h4 : q2 < 18446744073709551616) (ha : Rt p1 a) (hb : Rt p2 b) (hc : Rt q1 c) (hd : Rt q2 d)
    (n1 : (op.toList == [97, 100, 100]) = false) (n2 : (op.toList == [115, 117, 98]) = false) (n3 : (op.toList == [109, 117, 108]) = false) (w : World) :
    Calls Tryd.prog 11 #[.string op, .complex .f64 p1 p2, .complex .f64 q1 q2] w (NumE (0, 0, 1) w) := by
  go_enter Tryd.func11, Tryd.ntmps11
  go_wp2_with fail
  refine (right_yes p1 p2 a b h1 h2 ha hb _).mono ?_
  rintro e w1 ⟨rfl, rfl⟩
  go_wp2_with fail
  refine (right_yes q1 q2 c d h3 h4 hc hd _).mono ?_
  rintro e w1 ⟨rfl, rfl⟩
  go_wp2
  go_ret2
  exact numE_zero 1 _

/-- One of the three, once its sum, difference or product is known. -/
def Way (op : ByteArray) (p1 p2 q1 q2 r1 r2 : Nat) : Prop :=
  ((op.toList == [97, 100, 100]) = true ∧ ∀ w : World, (binOp .add 23 (.complex .f64 p1 p2) (.complex .f64 q1 q2)).run Tryd.prog w = .ok (.complex .f64 r1 r2) w) ∨
  ((op.toList == [97, 100, 100]) = false ∧ (op.toList == [115, 117, 98]) = true ∧ ∀ w : World, (binOp .sub 23 (.complex .f64 p1 p2) (.complex .f64 q1 q2)).run Tryd.prog w = .ok (.complex .f64 r1 r2) w) ∨
  ((op.toList == [97, 100, 100]) = false ∧ (op.toList == [115, 117, 98]) = false ∧ (op.toList == [109, 117, 108]) = true ∧ ∀ w : World, (binOp .mul 23 (.complex .f64 p1 p2) (.complex .f64 q1 q2)).run Tryd.prog w = .ok (.complex .f64 r1 r2) w)

set_option maxRecDepth 1000000 in
theorem two_way (op : ByteArray) (p1 p2 q1 q2 r1 r2 : Nat) (a b c d p q : Int) (h1 : p1 < 18446744073709551616) (h2 : p2 < 18446744073709551616) (h3 : q1 < 18446744073709551616) (h4 : q2 < 18446744073709551616) (ha : Rt p1 a) (hb : Rt p2 b) (hc : Rt q1 c) (hd : Rt q2 d)
    (hr1 : r1 < 18446744073709551616) (hr2 : r2 < 18446744073709551616) (hp : Fl r1 p) (hq : Fl r2 q) (hway : Way op p1 p2 q1 q2 r1 r2) (w : World) :
    Calls Tryd.prog 11 #[.string op, .complex .f64 p1 p2, .complex .f64 q1 q2] w (NumE (fit p q) w) := by
  by_cases hf : p.natAbs ≤ 1048576 ∧ q.natAbs ≤ 1048576
  · rw [fit, if_pos hf]
    have hR := right_yes r1 r2 p q hr1 hr2 ⟨hp, hf.1⟩ ⟨hq, hf.2⟩
    rcases hway with ⟨k1, hb⟩ | ⟨k1, k2, hb⟩ | ⟨k1, k2, k3, hb⟩
    all_goals
      go_enter Tryd.func11, Tryd.ntmps11
      go_wp2_with fail
      refine (right_yes p1 p2 a b h1 h2 ha (by assumption) _).mono ?_
      rintro e w1 ⟨rfl, rfl⟩
      go_wp2_with fail
      refine (right_yes q1 q2 c d h3 h4 hc hd _).mono ?_
      rintro e w1 ⟨rfl, rfl⟩
      go_wp2_with fail
      refine (hR _).mono ?_
      rintro e w1 ⟨rfl, rfl⟩
      go_wp2_with fail
      refine (cwz r1 r2 p q hp hq _).mono ?_
      rintro e w1 ⟨rfl, rfl⟩
      go_wp2
      go_ret2
      exact ⟨_, _, rfl, wz_fl hp, wz_fl hq, wz_zero _ _, wz_zero _ _, by unfold wz; split <;> omega, by unfold wz; split <;> omega, rfl⟩
  · rw [fit, if_neg hf]
    have hN : NotRt r1 ∨ NotRt r2 := by
      by_cases h : p.natAbs ≤ 1048576
      · exact .inr (not_rt hq (fun h' => hf ⟨h, h'⟩))
      · exact .inl (not_rt hp h)
    have hR := right_no r1 r2 hr1 hr2 hN
    rcases hway with ⟨k1, hb⟩ | ⟨k1, k2, hb⟩ | ⟨k1, k2, k3, hb⟩
    all_goals
      go_enter Tryd.func11, Tryd.ntmps11
      go_wp2_with fail
      refine (right_yes p1 p2 a b h1 h2 ha (by assumption) _).mono ?_
      rintro e w1 ⟨rfl, rfl⟩
      go_wp2_with fail
      refine (right_yes q1 q2 c d h3 h4 hc hd _).mono ?_
      rintro e w1 ⟨rfl, rfl⟩
      go_wp2_with fail
      refine (hR _).mono ?_
      rintro e w1 ⟨rfl, rfl⟩
      go_wp2
      go_ret2
      exact numE_zero 44 _

theorem two_right (op : ByteArray) (p1 p2 q1 q2 : Nat) (a b c d : Int) (h1 : p1 < 18446744073709551616) (h2 : p2 < 18446744073709551616) (h3 : q1 < 18446744073709551616) (h4 : q2 < 18446744073709551616) (ha : Rt p1 a) (hb : Rt p2 b) (hc : Rt q1 c) (hd : Rt q2 d) (w : World) :
    Calls Tryd.prog 11 #[.string op, .complex .f64 p1 p2, .complex .f64 q1 q2] w (NumE (two op a b c d) w) := by
  have a20 := ha.2
  have b20 := hb.2
  have c20 := hc.2
  have d20 := hd.2
  unfold two
  by_cases k1 : (op.toList == [97, 100, 100]) = true
  · rw [if_pos k1]
    obtain ⟨r1, e1, f1⟩ := Fl.add ha.1 hc.1 (by omega)
    obtain ⟨r2, e2, f2⟩ := Fl.add hb.1 hd.1 (by omega)
    exact two_way op p1 p2 q1 q2 r1 r2 a b c d _ _ h1 h2 h3 h4 ha hb hc hd (bits_lt e1) (bits_lt e2) f1 f2 (.inl ⟨k1, fun w => run_complex_sum w .add (.inl rfl) 23 .f64 p1 p2 q1 q2 r1 r2 (by simp [cSumBits, e1, e2])⟩) w
  rw [if_neg k1]
  have k1' := Bool.eq_false_iff.2 k1
  by_cases k2 : (op.toList == [115, 117, 98]) = true
  · rw [if_pos k2]
    obtain ⟨r1, e1, f1⟩ := Fl.sub ha.1 hc.1 (by omega)
    obtain ⟨r2, e2, f2⟩ := Fl.sub hb.1 hd.1 (by omega)
    exact two_way op p1 p2 q1 q2 r1 r2 a b c d _ _ h1 h2 h3 h4 ha hb hc hd (bits_lt e1) (bits_lt e2) f1 f2 (.inr (.inl ⟨k1', k2, fun w => run_complex_sum w .sub (.inr rfl) 23 .f64 p1 p2 q1 q2 r1 r2 (by simp [cSumBits, e1, e2])⟩)) w
  rw [if_neg k2]
  have k2' := Bool.eq_false_iff.2 k2
  by_cases k3 : (op.toList == [109, 117, 108]) = true
  · rw [if_pos k3]
    have m1 := mul_small a20 c20
    have m2 := mul_small b20 d20
    have m3 := mul_small a20 d20
    have m4 := mul_small b20 c20
    obtain ⟨x1, e1, f1⟩ := Fl.mul ha.1 hc.1 (by omega)
    obtain ⟨x2, e2, f2⟩ := Fl.mul hb.1 hd.1 (by omega)
    obtain ⟨x3, e3, f3⟩ := Fl.mul ha.1 hd.1 (by omega)
    obtain ⟨x4, e4, f4⟩ := Fl.mul hb.1 hc.1 (by omega)
    obtain ⟨r1, e5, f5⟩ := Fl.sub f1 f2 (by omega)
    obtain ⟨r2, e6, f6⟩ := Fl.add f3 f4 (by omega)
    exact two_way op p1 p2 q1 q2 r1 r2 a b c d _ _ h1 h2 h3 h4 ha hb hc hd (bits_lt e5) (bits_lt e6) f5 f6 (.inr (.inr ⟨k1', k2', k3, fun w => run_complex_mul w 23 p1 p2 q1 q2 r1 r2 (by simp [cMulBits, e1, e2, e3, e4, e5, e6])⟩)) w
  rw [if_neg k3]
  exact two_op op p1 p2 q1 q2 a b c d h1 h2 h3 h4 ha hb hc hd k1' k2' (Bool.eq_false_iff.2 k3) w
end Go.Proofs.YtldbfldonkcjmaaDoor
