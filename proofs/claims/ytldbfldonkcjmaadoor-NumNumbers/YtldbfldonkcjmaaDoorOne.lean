/-
  The package's One, Less and Index: what each call answers.
-/
import Derived.Test.YtldbfldonkcjmaaDoorTwo
namespace Go.Proofs.YtldbfldonkcjmaaDoor
open Go.RowKit Ieee

def neg (x : Nat) : Nat := Op.negFloat .f64 x
theorem neg_eq (x : Nat) : neg x = x ^^^ 2 ^ 63 := rfl
theorem neg_div (x : Nat) : neg x / 9223372036854775808 % 2 = (x / 9223372036854775808 + 1) % 2 := by
  have h := Nat.xor_div_two_pow (a := x) (b := 2 ^ 63) (n := 63)
  rw [neg_eq]
  rw [show (2 : Nat) ^ 63 / 2 ^ 63 = 1 by decide] at h
  rw [show (2 : Nat) ^ 63 = 9223372036854775808 by decide] at h ⊢
  rw [h]
  have h2 := Nat.xor_mod_two_pow (a := x / 9223372036854775808) (b := 1) (n := 1)
  rw [Nat.pow_one] at h2
  rw [h2]
  rcases Nat.mod_two_eq_zero_or_one (x / 9223372036854775808) with h | h
  · rw [h, show (x / 9223372036854775808 + 1) % 2 = 1 by omega]; decide
  · rw [h, show (x / 9223372036854775808 + 1) % 2 = 0 by omega]; decide
theorem neg_mod (x : Nat) : neg x % 9223372036854775808 = x % 9223372036854775808 := by
  have h := Nat.xor_mod_two_pow (a := x) (b := 2 ^ 63) (n := 63)
  rw [neg_eq]
  rw [show (2 : Nat) ^ 63 % 2 ^ 63 = 0 by decide, Nat.xor_zero] at h
  rw [show (2 : Nat) ^ 63 = 9223372036854775808 by decide] at h ⊢
  exact h
theorem neg_lt (x : Nat) (h : x < 18446744073709551616) : neg x < 18446744073709551616 := by
  rw [neg_eq]
  have := Nat.xor_lt_two_pow (x := x) (y := 2 ^ 63) (n := 64) (by simpa using h) (by decide)
  simpa using this
theorem read_neg (x : Nat) : double.read (neg x) = (double.read x).opposite := by
  have esw : double.signWeight = 9223372036854775808 := by decide
  unfold Format.read
  simp only [esw, neg_div, neg_mod]
  have hb : ((x / 9223372036854775808 + 1) % 2 == 1) = !(x / 9223372036854775808 % 2 == 1) := by
    rcases Nat.mod_two_eq_zero_or_one (x / 9223372036854775808) with h | h
    · rw [h, show (x / 9223372036854775808 + 1) % 2 = 1 by omega]; rfl
    · rw [h, show (x / 9223372036854775808 + 1) % 2 = 0 by omega]; rfl
  rw [hb]
  split
  · rfl
  · split
    · rfl
    · split <;> rfl
theorem Fl.neg {x : Nat} {n : Int} (h : Fl x n) : Fl (neg x) (-n) := by
  show Is _ _
  rw [read_neg]
  exact Is.opposite h

set_option maxRecDepth 1000000 in
theorem one_arg (op : ByteArray) (p1 p2 : Nat) (h1 : p1 < 18446744073709551616) (h2 : p2 < 18446744073709551616) (h : NotRt p1 ∨ NotRt p2) (w : World) :
    Calls Tryd.prog 10 #[.string op, .complex .f64 p1 p2] w (NumE (0, 0, 1) w) := by
  go_enter Tryd.func10, Tryd.ntmps10
  go_wp2_with fail
  refine (right_no p1 p2 h1 h2 h _).mono ?_
  rintro e w1 ⟨rfl, rfl⟩
  go_wp2
  go_ret2
  exact numE_zero 1 _

/-- One of the four, once its parts are known. -/
def Way1 (op : ByteArray) (p1 p2 r1 r2 : Nat) : Prop :=
  ((op.toList == [110, 101, 103]) = true ∧ r1 = neg p1 ∧ r2 = neg p2) ∨
  ((op.toList == [110, 101, 103]) = false ∧ (op.toList == [99, 111, 110, 106]) = true ∧ r1 = p1 ∧ r2 = neg p2) ∨
  ((op.toList == [110, 101, 103]) = false ∧ (op.toList == [99, 111, 110, 106]) = false ∧ (op.toList == [114, 101]) = true ∧ r1 = p1 ∧ r2 = 0) ∨
  ((op.toList == [110, 101, 103]) = false ∧ (op.toList == [99, 111, 110, 106]) = false ∧ (op.toList == [114, 101]) = false ∧ (op.toList == [105, 109]) = true ∧ r1 = p2 ∧ r2 = 0)
set_option maxRecDepth 1000000 in
theorem one_way (op : ByteArray) (p1 p2 r1 r2 : Nat) (a b p q : Int) (h1 : p1 < 18446744073709551616) (h2 : p2 < 18446744073709551616) (ha : Rt p1 a) (hb : Rt p2 b)
    (hr1 : r1 < 18446744073709551616) (hr2 : r2 < 18446744073709551616) (hp : Fl r1 p) (hq : Fl r2 q) (hway : Way1 op p1 p2 r1 r2) (w : World) :
    Calls Tryd.prog 10 #[.string op, .complex .f64 p1 p2] w (NumE (p, q, 0) w) := by
  have hneg : ∀ (w : World) (x : Nat), (Op.unary .neg (.float .f64 x)).run Tryd.prog w = .ok (.float .f64 (neg x)) w := fun _ _ => rfl
  have hnegc : ∀ (w : World) (x y : Nat), (Op.unary .neg (.complex .f64 x y)).run Tryd.prog w = .ok (.complex .f64 (neg x) (neg y)) w := fun _ _ _ => rfl
  have hfin : ∀ w : World, NumE (p, q, 0) w (.returned (.tuple #[.complex .f64 (wz r1 p) (wz r2 q), .int .i64 0])) w := fun w => ⟨_, _, rfl, wz_fl hp, wz_fl hq, wz_zero _ _, wz_zero _ _, by unfold wz; split <;> omega, by unfold wz; split <;> omega, rfl⟩
  have hR := right_yes p1 p2 a b h1 h2 ha hb
  have hC := cwz r1 r2 p q hp hq
  clear hr1 hr2 hp hq ha hb
  rcases hway with ⟨k1, e1, e2⟩ | ⟨k1, k2, e1, e2⟩ | ⟨k1, k2, k3, e1, e2⟩ | ⟨k1, k2, k3, k4, e1, e2⟩
  all_goals
    subst e1 e2
    go_enter Tryd.func10, Tryd.ntmps10
    go_wp2_with fail
    refine (hR _).mono ?_
    rintro e w1 ⟨rfl, rfl⟩
    go_wp2_with fail
    refine (hC _).mono ?_
    rintro e w1 ⟨rfl, rfl⟩
    go_wp2
    go_ret2
    exact hfin _
set_option maxRecDepth 1000000 in
theorem one_op (op : ByteArray) (p1 p2 : Nat) (a b : Int) (h1 : p1 < 18446744073709551616) (h2 : p2 < 18446744073709551616) (ha : Rt p1 a) (hb : Rt p2 b)
    (n1 : (op.toList == [110, 101, 103]) = false) (n2 : (op.toList == [99, 111, 110, 106]) = false) (n3 : (op.toList == [114, 101]) = false) (n4 : (op.toList == [105, 109]) = false) (w : World) :
    Calls Tryd.prog 10 #[.string op, .complex .f64 p1 p2] w (NumE (0, 0, 1) w) := by
  go_enter Tryd.func10, Tryd.ntmps10
  go_wp2_with fail
  refine (right_yes p1 p2 a b h1 h2 ha hb _).mono ?_
  rintro e w1 ⟨rfl, rfl⟩
  go_wp2
  go_ret2
  exact numE_zero 1 _
theorem one_right (op : ByteArray) (p1 p2 : Nat) (a b : Int) (h1 : p1 < 18446744073709551616) (h2 : p2 < 18446744073709551616) (ha : Rt p1 a) (hb : Rt p2 b) (w : World) :
    Calls Tryd.prog 10 #[.string op, .complex .f64 p1 p2] w (NumE (one op a b) w) := by
  unfold one
  by_cases k1 : (op.toList == [110, 101, 103]) = true
  · rw [if_pos k1]
    exact one_way op p1 p2 _ _ a b _ _ h1 h2 ha hb (neg_lt _ h1) (neg_lt _ h2) ha.1.neg hb.1.neg (.inl ⟨k1, rfl, rfl⟩) w
  rw [if_neg k1]
  have k1' := Bool.eq_false_iff.2 k1
  by_cases k2 : (op.toList == [99, 111, 110, 106]) = true
  · rw [if_pos k2]
    exact one_way op p1 p2 _ _ a b _ _ h1 h2 ha hb h1 (neg_lt _ h2) ha.1 hb.1.neg (.inr (.inl ⟨k1', k2, rfl, rfl⟩)) w
  rw [if_neg k2]
  have k2' := Bool.eq_false_iff.2 k2
  by_cases k3 : (op.toList == [114, 101]) = true
  · rw [if_pos k3]
    exact one_way op p1 p2 _ _ a b _ _ h1 h2 ha hb h1 (by decide) ha.1 Fl.zero (.inr (.inr (.inl ⟨k1', k2', k3, rfl, rfl⟩))) w
  rw [if_neg k3]
  have k3' := Bool.eq_false_iff.2 k3
  by_cases k4 : (op.toList == [105, 109]) = true
  · rw [if_pos k4]
    exact one_way op p1 p2 _ _ a b _ _ h1 h2 ha hb h2 (by decide) hb.1 Fl.zero (.inr (.inr (.inr ⟨k1', k2', k3', k4, rfl, rfl⟩))) w
  rw [if_neg k4]
  exact one_op op p1 p2 a b h1 h2 ha hb k1' k2' k3' (Bool.eq_false_iff.2 k4) w

/-- Less, of right numbers. -/
def less (a b c d : Int) : Bool := if a = c then decide (b < d) else decide (a < c)
set_option maxRecDepth 1000000 in
theorem less_right (p1 p2 q1 q2 : Nat) (a b c d : Int) (h1 : p1 < 18446744073709551616) (h2 : p2 < 18446744073709551616) (h3 : q1 < 18446744073709551616) (h4 : q2 < 18446744073709551616) (ha : Rt p1 a) (hb : Rt p2 b) (hc : Rt q1 c) (hd : Rt q2 d) (w : World) :
    Calls Tryd.prog 20 #[.complex .f64 p1 p2, .complex .f64 q1 q2] w (Pu (.bool (less a b c d)) w) := by
  have e1 : (FloatKind.f64.format.order p1 q1 == some .eq) = decide (a = c) := Fl.eq ha.1 hc.1
  have e2 : (FloatKind.f64.format.order p1 q1 == some .lt) = decide (a < c) := Fl.lt ha.1 hc.1
  have e3 : (FloatKind.f64.format.order p2 q2 == some .lt) = decide (b < d) := Fl.lt hb.1 hd.1
  have hR := right_yes p1 p2 a b h1 h2 ha hb
  have hS := right_yes q1 q2 c d h3 h4 hc hd
  unfold less
  by_cases hac : a = c
  · rw [if_pos hac]
    rw [decide_eq_true hac] at e1
    have e1' : (FloatKind.f64.format.order p1 q1 != some .eq) = false := by rw [bne, e1]; rfl
    clear e1 e2 hac ha hb hc hd
    generalize decide (b < d) = r at e3
    go_enter Tryd.func20, Tryd.ntmps20
    go_wp2_with fail
    refine (hR _).mono ?_
    rintro e w1 ⟨rfl, rfl⟩
    go_wp2_with fail
    refine (hS _).mono ?_
    rintro e w1 ⟨rfl, rfl⟩
    go_wp2
    go_ret
    exact ⟨rfl, rfl⟩
  · rw [if_neg hac]
    rw [decide_eq_false hac] at e1
    have e1' : (FloatKind.f64.format.order p1 q1 != some .eq) = true := by rw [bne, e1]; rfl
    clear e1 e3 hac ha hb hc hd
    generalize decide (a < c) = r at e2
    go_enter Tryd.func20, Tryd.ntmps20
    go_wp2_with fail
    refine (hR _).mono ?_
    rintro e w1 ⟨rfl, rfl⟩
    go_wp2_with fail
    refine (hS _).mono ?_
    rintro e w1 ⟨rfl, rfl⟩
    go_wp2
    go_ret
    exact ⟨rfl, rfl⟩
set_option maxRecDepth 1000000 in
theorem less_no (p1 p2 q1 q2 : Nat) (h1 : p1 < 18446744073709551616) (h2 : p2 < 18446744073709551616) (h3 : q1 < 18446744073709551616) (h4 : q2 < 18446744073709551616) (h : (NotRt p1 ∨ NotRt p2) ∨ (NotRt q1 ∨ NotRt q2)) (w : World) :
    Calls Tryd.prog 20 #[.complex .f64 p1 p2, .complex .f64 q1 q2] w (Pu (.bool false) w) := by
  by_cases hp : NotRt p1 ∨ NotRt p2
  · go_enter Tryd.func20, Tryd.ntmps20
    go_wp2_with fail
    refine (right_no p1 p2 h1 h2 hp _).mono ?_
    rintro e w1 ⟨rfl, rfl⟩
    go_wp2
    go_ret
    exact ⟨rfl, rfl⟩
  · have hq : NotRt q1 ∨ NotRt q2 := h.resolve_left hp
    obtain ⟨a, ha⟩ : ∃ v, Rt p1 v := (rt_or p1).resolve_right (fun h => hp (.inl h))
    obtain ⟨b, hb⟩ : ∃ v, Rt p2 v := (rt_or p2).resolve_right (fun h => hp (.inr h))
    go_enter Tryd.func20, Tryd.ntmps20
    go_wp2_with fail
    refine (right_yes p1 p2 a b h1 h2 ha hb _).mono ?_
    rintro e w1 ⟨rfl, rfl⟩
    go_wp2_with fail
    refine (right_no q1 q2 h3 h4 hq _).mono ?_
    rintro e w1 ⟨rfl, rfl⟩
    go_wp2
    go_ret
    exact ⟨rfl, rfl⟩

theorem to_int (x : Nat) (a : Int) (h : Rt x a) : floatToIntVal .f64 x .i64 = some a := by
  unfold floatToIntVal
  have e : (FloatKind.f64.decode x).toInt .zero = some a := (Is.toInt h.1).1
  rw [e]
  have := h.2
  simp only
  rw [if_pos]
  constructor
  · show (-9223372036854775808 : Int) ≤ a
    omega
  · show a ≤ (9223372036854775807 : Int)
    omega
theorem conv_int (x : Nat) (a : Int) (h : Rt x a) (w : World) : (convert 31 3 (.float .f64 x)).run Tryd.prog w = .ok (.int .i64 a) w :=
  run_convert_float_int w 31 3 .f64 .i64 x a (by kernel_rfl) Tryd.underlying3 (to_int x a h)
theorem conv_int64 (x : Nat) (a : Int) (h : Rt x a) (w : World) : (convert 31 2 (.float .f64 x)).run Tryd.prog w = .ok (.int .i64 a) w :=
  run_convert_float_int w 31 2 .f64 .i64 x a (by kernel_rfl) Tryd.underlying2 (to_int x a h)

/-- Index, of right numbers. -/
def index (a b : Int) : Int × Bool := if b = 0 ∧ 0 ≤ a then (a, true) else (0, false)
set_option maxRecDepth 1000000 in
theorem index_right (p1 p2 : Nat) (a b : Int) (h1 : p1 < 18446744073709551616) (h2 : p2 < 18446744073709551616) (ha : Rt p1 a) (hb : Rt p2 b) (w : World) :
    Calls Tryd.prog 13 #[.complex .f64 p1 p2] w (Pu (.tuple #[.int .i64 (index a b).1, .bool (index a b).2]) w) := by
  have e1 : (FloatKind.f64.format.order p2 0 == some .eq) = decide (b = 0) := Fl.eq hb.1 Fl.zero
  have e2 : (FloatKind.f64.format.order p1 0 == some .lt) = decide (a < 0) := Fl.lt ha.1 Fl.zero
  have hR := right_yes p1 p2 a b h1 h2 ha hb
  have hcv := conv_int p1 a ha
  unfold index
  by_cases hb0 : b = 0
  · rw [decide_eq_true hb0] at e1
    have e1' : (FloatKind.f64.format.order p2 0 != some .eq) = false := by rw [bne, e1]; rfl
    by_cases ha0 : a < 0
    · rw [decide_eq_true ha0] at e2
      rw [if_neg (by omega)]
      clear e1 ha0 hb0 ha hb
      go_enter Tryd.func13, Tryd.ntmps13
      go_wp2_with fail
      refine (hR _).mono ?_
      rintro e w1 ⟨rfl, rfl⟩
      go_wp2
      go_ret2
      exact ⟨rfl, rfl⟩
    · rw [decide_eq_false ha0] at e2
      rw [if_pos (by omega)]
      clear e1 ha0 hb0 ha hb
      go_enter Tryd.func13, Tryd.ntmps13
      go_wp2_with fail
      refine (hR _).mono ?_
      rintro e w1 ⟨rfl, rfl⟩
      go_wp2
      go_ret2
      exact ⟨rfl, rfl⟩
  · rw [decide_eq_false hb0] at e1
    have e1' : (FloatKind.f64.format.order p2 0 != some .eq) = true := by rw [bne, e1]; rfl
    rw [if_neg (by omega)]
    clear e1 e2 hb0 ha hb
    go_enter Tryd.func13, Tryd.ntmps13
    go_wp2_with fail
    refine (hR _).mono ?_
    rintro e w1 ⟨rfl, rfl⟩
    go_wp2
    go_ret2
    exact ⟨rfl, rfl⟩
set_option maxRecDepth 1000000 in
theorem index_no (p1 p2 : Nat) (h1 : p1 < 18446744073709551616) (h2 : p2 < 18446744073709551616) (h : NotRt p1 ∨ NotRt p2) (w : World) :
    Calls Tryd.prog 13 #[.complex .f64 p1 p2] w (Pu (.tuple #[.int .i64 0, .bool false]) w) := by
  go_enter Tryd.func13, Tryd.ntmps13
  go_wp2_with fail
  refine (right_no p1 p2 h1 h2 h _).mono ?_
  rintro e w1 ⟨rfl, rfl⟩
  go_wp2
  go_ret2
  exact ⟨rfl, rfl⟩
end Go.Proofs.YtldbfldonkcjmaaDoor
