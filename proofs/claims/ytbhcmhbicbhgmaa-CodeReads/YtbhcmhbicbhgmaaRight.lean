/-
  What the package's Right says of a number, part by part; the parts without a nought below.
-/
import Derived.Test.YtbhcmhbicbhgmaaChecked
import Derived.Test.YtbhcmhbicbhgmaaFloat
import Derived.WalkKit
import Derived.WalkSpells
import Derived.WalkLawsBesides
import Derived.WalkMore
import Derived.Deep.QuietTactic
import Derived.BigQuiet
import Derived.Laws.Externs
import Derived.Deep.Upon
import Derived.Outline
import Derived.Laws.DeepBits32
namespace Go.Proofs.Ytbhcmhbicbhgmaa.Num
open Go.RowKit Ieee

theorem call_bits (x : Nat) (w : World) : (callFunc 71 #[.float .f64 x]).run Try.prog w = .ok (.value (.int .u64 x)) w := by
  rw [run_callFunc_extern (P := Try.prog) (f := 71) (fn := Try.f71) (e := Extern.MathFloatBits.float64bits) Try.func71 (by kernel_rfl) (by kernel_rfl) (by kernel_rfl) (by kernel_rfl)]
  rfl
theorem call_frombits (x : Int) (w : World) : (callFunc 70 #[.int .u64 x]).run Try.prog w = .ok (.value (.float .f64 x.toNat)) w := by
  rw [run_callFunc_extern (P := Try.prog) (f := 70) (fn := Try.f70) (e := Extern.MathFloatBits.float64frombits) Try.func70 (by kernel_rfl) (by kernel_rfl) (by kernel_rfl) (by kernel_rfl)]
  rfl
theorem call_trunc (x : Nat) (h : Small (double.read x)) (w : World) : (callFunc 72 #[.float .f64 x]).run Try.prog w = .ok (.value (.float .f64 (double.write ((double.read x).integral .zero)))) w := by
  rw [run_callFunc_extern (P := Try.prog) (f := 72) (fn := Try.f72) (e := Extern.MathFloor.toIntegral "math.archTrunc" .zero) Try.func72 (by kernel_rfl) (by kernel_rfl) (by kernel_rfl) (by kernel_rfl)]
  obtain ⟨s, m, i, e, _⟩ := h
  have e' : FloatKind.f64.decode x = .number s m i := e
  have key : Extern.MathFloor.toIntegral "math.archTrunc" .zero #[.float .f64 x] = pure (.float .f64 (FloatKind.f64.encode ((Datum.number s m i).integral .zero))) := by
    show (match FloatKind.f64.decode x with | .nan s t => _ | d => pure (Value.float .f64 (FloatKind.f64.encode (d.integral .zero)))) = _
    rw [e']
  rw [key, e]
  rfl

theorem andnot_sign (x : Nat) (hx : x < 18446744073709551616) : bits .andNot .u64 (x : Int) 9223372036854775808 = ((x % 9223372036854775808 : Nat) : Int) := by
  show IntKind.u64.wrap ((BitVec.ofInt 64 (x : Int) &&& ~~~BitVec.ofInt 64 9223372036854775808).toNat : Int) = _
  have e1 : ~~~BitVec.ofInt 64 9223372036854775808 = BitVec.ofNat 64 9223372036854775807 := by decide
  have e2 : (BitVec.ofInt 64 (x : Int)).toNat = x := by
    rw [BitVec.toNat_ofInt]
    have : ((2 ^ 64 : Nat) : Int) = 18446744073709551616 := by decide
    rw [this]
    omega
  rw [e1, BitVec.toNat_and, e2, BitVec.toNat_ofNat]
  rw [show 9223372036854775807 % 2 ^ 64 = 2 ^ 63 - 1 by decide, Nat.and_two_pow_sub_one_eq_mod, IntKind.wrap_u64]
  rw [show (2 : Nat) ^ 63 = 9223372036854775808 by decide]
  omega

set_option maxRecDepth 1000000 in
theorem mabs (x : Nat) (hx : x < 18446744073709551616) (w : World) : Calls Try.prog 67 #[.float .f64 x] w fun e w' => e = .returned (.float .f64 (x % 9223372036854775808)) ∧ w' = w := by
  have h1 := call_bits
  have h2 := call_frombits
  have h3 := andnot_sign x hx
  go_enter Try.func67, Try.ntmps67
  go_wp2
  go_ret
  exact ⟨rfl, rfl⟩
set_option maxRecDepth 1000000 in
theorem mtrunc (x : Nat) (h : Small (double.read x)) (w : World) : Calls Try.prog 68 #[.float .f64 x] w fun e w' => e = .returned (.float .f64 (double.write ((double.read x).integral .zero))) ∧ w' = w := by
  have h1 := call_trunc x h
  go_enter Try.func68, Try.ntmps68
  go_wp2
  go_ret
  exact ⟨rfl, rfl⟩

theorem fl20 : floatOfInt .f64 1048576 = 4697254411347427328 := by decide
theorem flm20 : floatOfInt .f64 (-1048576) = 13920626448202203136 := by decide


/-- What a call answers that leaves the world as it was. -/
def Pu (v : Value) (w : World) (e : Ending) (w' : World) : Prop := e = .returned v ∧ w' = w
/-- Not a right part. -/
def NotRt (x : Nat) : Prop := ∀ v, ¬ Rt x v
theorem rt_or (x : Nat) : (∃ v, Rt x v) ∨ NotRt x := by
  by_cases h : ∃ v, Rt x v
  · exact .inl h
  · exact .inr (fun v hv => h ⟨v, hv⟩)

set_option maxRecDepth 1000000 in
theorem rightPart_big (x : Nat) (hx : x < 18446744073709551616) (h : ¬ Small (double.read x)) (w : World) : Calls Try.prog 61 #[.float .f64 x] w (Pu (.bool false) w) := by
  have hle : (double.order (x % 9223372036854775808) 4697254411347427328 == some .lt || double.order (x % 9223372036854775808) 4697254411347427328 == some .eq) = false := by
    rw [← fl20]
    exact Bool.eq_false_iff.2 (fun h' => h ((abs_small x).1 h'))
  have hle' : (FloatKind.f64.format.order (x % 9223372036854775808) 4697254411347427328 == some .lt || FloatKind.f64.format.order (x % 9223372036854775808) 4697254411347427328 == some .eq) = false := hle
  clear hle
  go_enter Try.func61, Try.ntmps61
  go_wp2_with fail
  refine (mabs x hx _).mono ?_
  rintro e w1 ⟨rfl, rfl⟩
  go_wp2
  go_ret
  exact ⟨rfl, rfl⟩
set_option maxRecDepth 1000000 in
theorem rightPart_small (x : Nat) (hx : x < 18446744073709551616) (h : Small (double.read x)) (w : World) : Calls Try.prog 61 #[.float .f64 x] w (Pu (.bool (double.order x (double.write ((double.read x).integral .zero)) == some .eq)) w) := by
  have hle : (double.order (x % 9223372036854775808) 4697254411347427328 == some .lt || double.order (x % 9223372036854775808) 4697254411347427328 == some .eq) = true := by
    rw [← fl20]
    exact (abs_small x).2 h
  have hle' : (FloatKind.f64.format.order (x % 9223372036854775808) 4697254411347427328 == some .lt || FloatKind.f64.format.order (x % 9223372036854775808) 4697254411347427328 == some .eq) = true := hle
  clear hle
  go_enter Try.func61, Try.ntmps61
  go_wp2_with fail
  refine (mabs x hx _).mono ?_
  rintro e w1 ⟨rfl, rfl⟩
  go_wp2_with fail
  refine (mtrunc x h _).mono ?_
  rintro e w1 ⟨rfl, rfl⟩
  go_wp2
  go_ret
  exact ⟨rfl, rfl⟩
theorem rightPart_yes (x : Nat) (v : Int) (hx : x < 18446744073709551616) (h : Rt x v) (w : World) : Calls Try.prog 61 #[.float .f64 x] w (Pu (.bool true) w) := by
  have hs := Is.small h.1 h.2
  have hy : Fl (double.write ((double.read x).integral .zero)) v := read_write (Is.toInt h.1).2 (by have := h.2; omega)
  have := rightPart_small x hx hs w
  rw [Fl.eq h.1 hy] at this
  simpa using this
theorem rightPart_no (x : Nat) (hx : x < 18446744073709551616) (h : NotRt x) (w : World) : Calls Try.prog 61 #[.float .f64 x] w (Pu (.bool false) w) := by
  by_cases hs : Small (double.read x)
  · obtain ⟨v, hv, _, hi⟩ := hs.whole
    have hy : Fl (double.write ((double.read x).integral .zero)) v := read_write hi (by omega)
    have := rightPart_small x hx hs w
    have hne : (double.order x (double.write ((double.read x).integral .zero)) == some .eq) = false :=
      beq_eq_false_iff_ne.2 (fun e => h v ⟨Is.of_order hy e, hv⟩)
    rw [hne] at this
    exact this
  · exact rightPart_big x hx hs w

set_option maxRecDepth 1000000 in
theorem right_yes (x y : Nat) (a b : Int) (hx : x < 18446744073709551616) (hy : y < 18446744073709551616) (h1 : Rt x a) (h2 : Rt y b) (w : World) : Calls Try.prog 41 #[.complex .f64 x y] w (Pu (.bool true) w) := by
  go_enter Try.func41, Try.ntmps41
  go_wp2_with fail
  refine (rightPart_yes x a hx h1 _).mono ?_
  rintro e w1 ⟨rfl, rfl⟩
  go_wp2_with fail
  refine (rightPart_yes y b hy h2 _).mono ?_
  rintro e w1 ⟨rfl, rfl⟩
  go_wp2
  go_ret
  exact ⟨rfl, rfl⟩
set_option maxRecDepth 1000000 in
theorem right_no (x y : Nat) (hx : x < 18446744073709551616) (hy : y < 18446744073709551616) (h : NotRt x ∨ NotRt y) (w : World) : Calls Try.prog 41 #[.complex .f64 x y] w (Pu (.bool false) w) := by
  rcases rt_or x with ⟨a, h1⟩ | h1
  · have h2 : NotRt y := by
      rcases h with h | h
      · exact absurd h1 (h a)
      · exact h
    go_enter Try.func41, Try.ntmps41
    go_wp2_with fail
    refine (rightPart_yes x a hx h1 _).mono ?_
    rintro e w1 ⟨rfl, rfl⟩
    go_wp2_with fail
    refine (rightPart_no y hy h2 _).mono ?_
    rintro e w1 ⟨rfl, rfl⟩
    go_wp2
    go_ret
    exact ⟨rfl, rfl⟩
  · go_enter Try.func41, Try.ntmps41
    go_wp2_with fail
    refine (rightPart_no x hx h1 _).mono ?_
    rintro e w1 ⟨rfl, rfl⟩
    go_wp2
    go_ret
    exact ⟨rfl, rfl⟩

theorem rt_lt {x : Nat} (h : x < 18446744073709551616) : x < 18446744073709551616 := h
def wz (x : Nat) (n : Int) : Nat := if n = 0 then 0 else x
theorem wz_fl {x : Nat} {n : Int} (h : Fl x n) : Fl (wz x n) n := by
  unfold wz
  split
  · rename_i e; subst e; exact Fl.zero
  · exact h
theorem wz_zero (x : Nat) (n : Int) (h : n = 0) : wz x n = 0 := if_pos h
end Go.Proofs.Ytbhcmhbicbhgmaa.Num
