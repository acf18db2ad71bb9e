/-
  The package's One, Less and Index: what each call answers.
-/
import Derived.Test.YtldbfldonkcjmabDoorTwo
namespace Go.Proofs.YtldbfldonkcjmabDoor
open Go.RowKit Ieee

def neg (x : Nat) : Nat := Op.negFloat .f64 x
theorem neg_eq (x : Nat) : neg x = x ^^^ 2 ^ 63 := rfl
theorem neg_div (x : Nat) : neg x / 9223372036854775808 % 2 = (x / 9223372036854775808 + 1) % 2 := by
  have h := Nat.xor_div_two_pow (a := x) (b := 2 ^ 63) (n := 63)
  rw [neg_eq]
  rw [show (2 : Nat) ^ 63 / 2 ^ 63 = 1 by decide] at h
  rw [show (2 : Nat) ^ 63 = 9223372036854775808 by decide] at h ⊢
  rw [h]
  have h2 := Nat.xor_mod_two_pow (a := x / 9223372036854775808) (b := 1) (n := 1)
  rw [Nat.pow_one] at h2
  rw [h2]
  rcases Nat.mod_two_eq_zero_or_one (x / 9223372036854775808) with h | h
  · rw [h, show (x / 9223372036854775808 + 1) % 2 = 1 by omega]; decide
  · rw [h, show (x / 9223372036854775808 + 1) % 2 = 0 by omega]; decide
theorem neg_mod (x : Nat) : neg x % 9223372036854775808 = x % 9223372036854775808 := by
  have h := Nat.xor_mod_two_pow (a := x) (b := 2 ^ 63) (n := 63)
  rw [neg_eq]
  rw [show (2 : Nat) ^ 63 % 2 ^ 63 = 0 by decide, Nat.xor_zero] at h
  rw [show (2 : Nat) ^ 63 = 9223372036854775808 by decide] at h ⊢
  exact h
theorem neg_lt (x : Nat) (h : x < 18446744073709551616) : neg x < 18446744073709551616 := by
  rw [neg_eq]
  have := Nat.xor_lt_two_pow (x := x) (y := 2 ^ 63) (n := 64) (by simpa using h) (by decide)
  simpa using this
theorem read_neg (x : Nat) : double.read (neg x) = (double.read x).opposite := by
  have esw : double.signWeight = 9223372036854775808 := by decide
  unfold Format.read
  simp only [esw, neg_div, neg_mod]
  have hb : ((x / 9223372036854775808 + 1) % 2 == 1) = !(x / 9223372036854775808 % 2 == 1) := by
    rcases Nat.mod_two_eq_zero_or_one (x / 9223372036854775808) with h | h
    · rw [h, show (x / 9223372036854775808 + 1) % 2 = 1 by omega]; rfl
    · rw [h, show (x / 9223372036854775808 + 1) % 2 = 0 by omega]; rfl
  rw [hb]
  split
  · rfl
  · split
    · rfl
    · split <;> rfl
theorem Fl.neg {x : Nat} {n : Int} (h : Fl x n) : Fl (neg x) (-n) := by
  show Is _ _
  rw [read_neg]
  exact Is.opposite h

/-- One of the four, once its parts are known. -/
def Way1 (op : ByteArray) (p1 p2 r1 r2 : Nat) : Prop :=
  ((op.toList == [110, 101, 103]) = true ∧ r1 = neg p1 ∧ r2 = neg p2) ∨
  ((op.toList == [110, 101, 103]) = false ∧ (op.toList == [99, 111, 110, 106]) = true ∧ r1 = p1 ∧ r2 = neg p2) ∨
  ((op.toList == [110, 101, 103]) = false ∧ (op.toList == [99, 111, 110, 106]) = false ∧ (op.toList == [114, 101]) = true ∧ r1 = p1 ∧ r2 = 0) ∨
  ((op.toList == [110, 101, 103]) = false ∧ (op.toList == [99, 111, 110, 106]) = false ∧ (op.toList == [114, 101]) = false ∧ (op.toList == [105, 109]) = true ∧ r1 = p2 ∧ r2 = 0)
/-- Less, of right numbers. -/
def less (a b c d : Int) : Bool := if a = c then decide (b < d) else decide (a < c)
theorem to_int (x : Nat) (a : Int) (h : Rt x a) : floatToIntVal .f64 x .i64 = some a := by
  unfold floatToIntVal
  have e : (FloatKind.f64.decode x).toInt .zero = some a := (Is.toInt h.1).1
  rw [e]
  have := h.2
  simp only
  rw [if_pos]
  constructor
  · show (-9223372036854775808 : Int) ≤ a
    omega
  · show a ≤ (9223372036854775807 : Int)
    omega
theorem conv_int (x : Nat) (a : Int) (h : Rt x a) (w : World) : (convert 36 3 (.float .f64 x)).run Tryd.prog w = .ok (.int .i64 a) w :=
  run_convert_float_int w 36 3 .f64 .i64 x a (by kernel_rfl) Tryd.underlying3 (to_int x a h)
theorem conv_int64 (x : Nat) (a : Int) (h : Rt x a) (w : World) : (convert 36 2 (.float .f64 x)).run Tryd.prog w = .ok (.int .i64 a) w :=
  run_convert_float_int w 36 2 .f64 .i64 x a (by kernel_rfl) Tryd.underlying2 (to_int x a h)

/-- Index, of right numbers. -/
def index (a b : Int) : Int × Bool := if b = 0 ∧ 0 ≤ a then (a, true) else (0, false)
end Go.Proofs.YtldbfldonkcjmabDoor
