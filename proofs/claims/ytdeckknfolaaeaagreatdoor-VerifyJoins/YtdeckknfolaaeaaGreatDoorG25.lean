/-
  What the package's Right says of a number, part by part; the parts without a nought below.
  And: The float of a whole number that is too great is no right part. The small functions of code: what stands behind an operation's byte, how many ways, a byte, a pair, a number that is read. Where an instruction goes: the ways that are read, in a row of the call's own.
-/
import Derived.Test.YtdeckknfolaaeaaGreatDoorChecked
import Derived.Test.YtdeckknfolaaeaaGreatDoorG24
import Derived.WalkKit
import Derived.WalkSpells
import Derived.WalkLawsBesides
import Derived.WalkMore
import Derived.Deep.QuietTactic
import Derived.BigQuiet
import Derived.Laws.Externs
import Derived.Deep.Upon
import Derived.Outline
import Derived.Laws.DeepBits32
import Derived.Test.YtdeckknfolaaeaaGreatDoorShelf
import Derived.Test.YtdeckknfolaaeaaGreatDoorG14
import Derived.Deep.LoopGhost
import Derived.Laws.IdiomCopy
import Derived.Deep.OwnRows
namespace Go.Proofs.YtdeckknfolaaeaaGreatDoor.Num
open Go.RowKit Ieee

theorem call_bits (x : Nat) (w : World) : (callFunc 290 #[.float .f64 x]).run Tryz.prog w = .ok (.value (.int .u64 x)) w := by
  rw [run_callFunc_extern (P := Tryz.prog) (f := 290) (fn := Tryz.f290) (e := Extern.MathFloatBits.float64bits) Tryz.func290 (by kernel_rfl) (by kernel_rfl) (by kernel_rfl) (by kernel_rfl)]
  rfl
theorem call_frombits (x : Int) (w : World) : (callFunc 289 #[.int .u64 x]).run Tryz.prog w = .ok (.value (.float .f64 x.toNat)) w := by
  rw [run_callFunc_extern (P := Tryz.prog) (f := 289) (fn := Tryz.f289) (e := Extern.MathFloatBits.float64frombits) Tryz.func289 (by kernel_rfl) (by kernel_rfl) (by kernel_rfl) (by kernel_rfl)]
  rfl
theorem call_trunc (x : Nat) (h : Small (double.read x)) (w : World) : (callFunc 291 #[.float .f64 x]).run Tryz.prog w = .ok (.value (.float .f64 (double.write ((double.read x).integral .zero)))) w := by
  rw [run_callFunc_extern (P := Tryz.prog) (f := 291) (fn := Tryz.f291) (e := Extern.MathFloor.toIntegral "math.archTrunc" .zero) Tryz.func291 (by kernel_rfl) (by kernel_rfl) (by kernel_rfl) (by kernel_rfl)]
  obtain ⟨s, m, i, e, _⟩ := h
  have e' : FloatKind.f64.decode x = .number s m i := e
  have key : Extern.MathFloor.toIntegral "math.archTrunc" .zero #[.float .f64 x] = pure (.float .f64 (FloatKind.f64.encode ((Datum.number s m i).integral .zero))) := by
    show (match FloatKind.f64.decode x with | .nan s t => _ | d => pure (Value.float .f64 (FloatKind.f64.encode (d.integral .zero)))) = _
    rw [e']
  rw [key, e]
  rfl

theorem andnot_sign (x : Nat) (hx : x < 18446744073709551616) : bits .andNot .u64 (x : Int) 9223372036854775808 = ((x % 9223372036854775808 : Nat) : Int) := by
  show IntKind.u64.wrap ((BitVec.ofInt 64 (x : Int) &&& ~~~BitVec.ofInt 64 9223372036854775808).toNat : Int) = _
  have e1 : ~~~BitVec.ofInt 64 9223372036854775808 = BitVec.ofNat 64 9223372036854775807 := by decide
  have e2 : (BitVec.ofInt 64 (x : Int)).toNat = x := by
    rw [BitVec.toNat_ofInt]
    have : ((2 ^ 64 : Nat) : Int) = 18446744073709551616 := by decide
    rw [this]
    omega
  rw [e1, BitVec.toNat_and, e2, BitVec.toNat_ofNat]
  rw [show 9223372036854775807 % 2 ^ 64 = 2 ^ 63 - 1 by decide, Nat.and_two_pow_sub_one_eq_mod, IntKind.wrap_u64]
  rw [show (2 : Nat) ^ 63 = 9223372036854775808 by decide]
  omega

set_option maxRecDepth 1000000 in
theorem mabs (x : Nat) (hx : x < 18446744073709551616) (w : World) : Calls Tryz.prog 269 #[.float .f64 x] w fun e w' => e = .returned (.float .f64 (x % 9223372036854775808)) ∧ w' = w := by
  have h1 := call_bits
  have h2 := call_frombits
  have h3 := andnot_sign x hx
  go_enter Tryz.func269, Tryz.ntmps269
  go_wp2
  go_ret
  exact ⟨rfl, rfl⟩
set_option maxRecDepth 1000000 in
theorem mtrunc (x : Nat) (h : Small (double.read x)) (w : World) : Calls Tryz.prog 270 #[.float .f64 x] w fun e w' => e = .returned (.float .f64 (double.write ((double.read x).integral .zero))) ∧ w' = w := by
  have h1 := call_trunc x h
  go_enter Tryz.func270, Tryz.ntmps270
  go_wp2
  go_ret
  exact ⟨rfl, rfl⟩

theorem fl20 : floatOfInt .f64 1048576 = 4697254411347427328 := by decide
theorem flm20 : floatOfInt .f64 (-1048576) = 13920626448202203136 := by decide


/-- What a call answers that leaves the world as it was. -/
def Pu (v : Value) (w : World) (e : Ending) (w' : World) : Prop := e = .returned v ∧ w' = w
/-- Not a right part. -/
def NotRt (x : Nat) : Prop := ∀ v, ¬ Rt x v
theorem rt_or (x : Nat) : (∃ v, Rt x v) ∨ NotRt x := by
  by_cases h : ∃ v, Rt x v
  · exact .inl h
  · exact .inr (fun v hv => h ⟨v, hv⟩)

set_option maxRecDepth 1000000 in
theorem rightPart_big (x : Nat) (hx : x < 18446744073709551616) (h : ¬ Small (double.read x)) (w : World) : Calls Tryz.prog 236 #[.float .f64 x] w (Pu (.bool false) w) := by
  have hle : (double.order (x % 9223372036854775808) 4697254411347427328 == some .lt || double.order (x % 9223372036854775808) 4697254411347427328 == some .eq) = false := by
    rw [← fl20]
    exact Bool.eq_false_iff.2 (fun h' => h ((abs_small x).1 h'))
  have hle' : (FloatKind.f64.format.order (x % 9223372036854775808) 4697254411347427328 == some .lt || FloatKind.f64.format.order (x % 9223372036854775808) 4697254411347427328 == some .eq) = false := hle
  clear hle
  go_enter Tryz.func236, Tryz.ntmps236
  go_wp2_with fail
  refine (mabs x hx _).mono ?_
  rintro e w1 ⟨rfl, rfl⟩
  go_wp2
  go_ret
  exact ⟨rfl, rfl⟩
set_option maxRecDepth 1000000 in
theorem rightPart_small (x : Nat) (hx : x < 18446744073709551616) (h : Small (double.read x)) (w : World) : Calls Tryz.prog 236 #[.float .f64 x] w (Pu (.bool (double.order x (double.write ((double.read x).integral .zero)) == some .eq)) w) := by
  have hle : (double.order (x % 9223372036854775808) 4697254411347427328 == some .lt || double.order (x % 9223372036854775808) 4697254411347427328 == some .eq) = true := by
    rw [← fl20]
    exact (abs_small x).2 h
  have hle' : (FloatKind.f64.format.order (x % 9223372036854775808) 4697254411347427328 == some .lt || FloatKind.f64.format.order (x % 9223372036854775808) 4697254411347427328 == some .eq) = true := hle
  clear hle
  go_enter Tryz.func236, Tryz.ntmps236
  go_wp2_with fail
  refine (mabs x hx _).mono ?_
  rintro e w1 ⟨rfl, rfl⟩
  go_wp2_with fail
  refine (mtrunc x h _).mono ?_
  rintro e w1 ⟨rfl, rfl⟩
  go_wp2
  go_ret
  exact ⟨rfl, rfl⟩
theorem rightPart_yes (x : Nat) (v : Int) (hx : x < 18446744073709551616) (h : Rt x v) (w : World) : Calls Tryz.prog 236 #[.float .f64 x] w (Pu (.bool true) w) := by
  have hs := Is.small h.1 h.2
  have hy : Fl (double.write ((double.read x).integral .zero)) v := read_write (Is.toInt h.1).2 (by have := h.2; omega)
  have := rightPart_small x hx hs w
  rw [Fl.eq h.1 hy] at this
  simpa using this
theorem rightPart_no (x : Nat) (hx : x < 18446744073709551616) (h : NotRt x) (w : World) : Calls Tryz.prog 236 #[.float .f64 x] w (Pu (.bool false) w) := by
  by_cases hs : Small (double.read x)
  · obtain ⟨v, hv, _, hi⟩ := hs.whole
    have hy : Fl (double.write ((double.read x).integral .zero)) v := read_write hi (by omega)
    have := rightPart_small x hx hs w
    have hne : (double.order x (double.write ((double.read x).integral .zero)) == some .eq) = false :=
      beq_eq_false_iff_ne.2 (fun e => h v ⟨Is.of_order hy e, hv⟩)
    rw [hne] at this
    exact this
  · exact rightPart_big x hx hs w

set_option maxRecDepth 1000000 in
theorem right_yes (x y : Nat) (a b : Int) (hx : x < 18446744073709551616) (hy : y < 18446744073709551616) (h1 : Rt x a) (h2 : Rt y b) (w : World) : Calls Tryz.prog 201 #[.complex .f64 x y] w (Pu (.bool true) w) := by
  go_enter Tryz.func201, Tryz.ntmps201
  go_wp2_with fail
  refine (rightPart_yes x a hx h1 _).mono ?_
  rintro e w1 ⟨rfl, rfl⟩
  go_wp2_with fail
  refine (rightPart_yes y b hy h2 _).mono ?_
  rintro e w1 ⟨rfl, rfl⟩
  go_wp2
  go_ret
  exact ⟨rfl, rfl⟩
set_option maxRecDepth 1000000 in
theorem right_no (x y : Nat) (hx : x < 18446744073709551616) (hy : y < 18446744073709551616) (h : NotRt x ∨ NotRt y) (w : World) : Calls Tryz.prog 201 #[.complex .f64 x y] w (Pu (.bool false) w) := by
  rcases rt_or x with ⟨a, h1⟩ | h1
  · have h2 : NotRt y := by
      rcases h with h | h
      · exact absurd h1 (h a)
      · exact h
    go_enter Tryz.func201, Tryz.ntmps201
    go_wp2_with fail
    refine (rightPart_yes x a hx h1 _).mono ?_
    rintro e w1 ⟨rfl, rfl⟩
    go_wp2_with fail
    refine (rightPart_no y hy h2 _).mono ?_
    rintro e w1 ⟨rfl, rfl⟩
    go_wp2
    go_ret
    exact ⟨rfl, rfl⟩
  · go_enter Tryz.func201, Tryz.ntmps201
    go_wp2_with fail
    refine (rightPart_no x hx h1 _).mono ?_
    rintro e w1 ⟨rfl, rfl⟩
    go_wp2
    go_ret
    exact ⟨rfl, rfl⟩

theorem rt_lt {x : Nat} (h : x < 18446744073709551616) : x < 18446744073709551616 := h
def wz (x : Nat) (n : Int) : Nat := if n = 0 then 0 else x
theorem wz_fl {x : Nat} {n : Int} (h : Fl x n) : Fl (wz x n) n := by
  unfold wz
  split
  · rename_i e; subst e; exact Fl.zero
  · exact h
theorem wz_zero (x : Nat) (n : Int) (h : n = 0) : wz x n = 0 := if_pos h
end Go.Proofs.YtdeckknfolaaeaaGreatDoor.Num

namespace Go.Proofs.YtdeckknfolaaeaaGreatDoor.Num
open Go.RowKit Ieee

theorem cut_ge (neg : Bool) (n d : Nat) (h : d ≤ n.log2) : n / 2 ^ d ≤ Toward.even.cut neg n d := by
  unfold Toward.cut
  simp only [Nat.min_eq_left (show d ≤ n.log2 + 2 by omega), Nat.shiftLeft_eq, Nat.one_mul]
  exact Nat.le_add_right _ _
theorem big_word (neg : Bool) (N : Nat) (h : 9007199254740992 ≤ N) : ∃ R, double.nearest neg N 0 = double.word neg R ∧ 4845873199050653696 ≤ R ∧ R ≤ 9218868437227405312 := by
  have hl : 53 ≤ N.log2 := (Nat.le_log2 (by omega)).2 (by simpa using h)
  have elp : double.leastPlace = -1074 := by decide
  have ebi : double.binade = 4503599627370496 := by decide
  have einf : double.infRung = 9218868437227405312 := by decide
  have hfb : double.fractionBits = 52 := rfl
  have hlast : max ((0 : Int) + N.log2 - double.fractionBits) double.leastPlace = (N.log2 : Int) - 52 := by rw [elp, hfb]; omega
  unfold Format.nearest
  rw [if_neg (by omega)]
  simp only [hlast]
  refine ⟨_, rfl, ?_, by rw [einf]; exact Nat.min_le_right _ _⟩
  have e0 : ((0 : Int) - ((N.log2 : Int) - 52)).toNat = 0 := by omega
  have e1 : ((N.log2 : Int) - 52 - 0).toNat = N.log2 - 52 := by omega
  have e2 : ((N.log2 : Int) - 52 - double.leastPlace).toNat = N.log2 + 1022 := by rw [elp]; omega
  rw [e0, e1, e2, ebi, einf, Nat.shiftLeft_zero]
  have hc := cut_ge neg N (N.log2 - 52) (by omega)
  have hk : 4503599627370496 ≤ N / 2 ^ (N.log2 - 52) := by
    rw [Nat.le_div_iff_mul_le (Nat.two_pow_pos _)]
    have e3 : 4503599627370496 * 2 ^ (N.log2 - 52) = 2 ^ N.log2 := by
      rw [show (4503599627370496 : Nat) = 2 ^ 52 by decide, ← Nat.pow_add, show 52 + (N.log2 - 52) = N.log2 by omega]
    rw [e3]
    exact Nat.log2_self_le (by omega)
  refine Nat.le_min.2 ⟨?_, by decide⟩
  have h3 : 1075 * 4503599627370496 ≤ (N.log2 + 1022) * 4503599627370496 := Nat.mul_le_mul_right _ (by omega)
  omega
theorem big_not (n : Int) (h : 9007199254740992 ≤ n.natAbs) : NotRt (floatOfInt .f64 n) := by
  intro v hv
  obtain ⟨R, e, h1, h2⟩ := big_word (decide (n < 0)) n.natAbs h
  have e' : floatOfInt .f64 n = double.word (decide (n < 0)) R := e
  rw [e'] at hv
  obtain ⟨hf, hs⟩ := hv
  unfold Fl at hf
  generalize decide (n < 0) = neg at hf
  have elp : double.leastPlace = -1074 := by decide
  have ebi : double.binade = 4503599627370496 := by decide
  have einf : double.infRung = 9218868437227405312 := by decide
  have esw : double.signWeight = 9223372036854775808 := by decide
  have hneg : (double.word neg R / 9223372036854775808 % 2 == 1) = neg := by
    unfold Format.word
    rw [esw]
    cases neg <;> simp <;> omega
  have hmod : double.word neg R % 9223372036854775808 = R := by
    unfold Format.word
    rw [esw]
    cases neg <;> simp <;> omega
  unfold Format.read at hf
  simp only [esw, ebi, einf, elp, hneg, hmod] at hf
  rw [if_neg (by omega)] at hf
  by_cases hlt : R < 9218868437227405312
  · rw [if_pos hlt] at hf
    have hq : 1076 ≤ R / 4503599627370496 := by omega
    have hk := hf.at 0 (by omega)
    unfold signed at hk
    rw [Nat.shiftLeft_eq] at hk
    have hpow := Nat.two_pow_pos ((-1074 : Int) + ((R / 4503599627370496 - 1 : Nat) : Int) + ((0 : Nat) : Int)).toNat
    generalize 2 ^ ((-1074 : Int) + ((R / 4503599627370496 - 1 : Nat) : Int) + ((0 : Nat) : Int)).toNat = T at hk hpow
    have hm : 4503599627370496 ≤ (4503599627370496 + R % 4503599627370496) * T := Nat.le_trans (by omega) (Nat.le_mul_of_pos_right _ hpow)
    generalize (4503599627370496 + R % 4503599627370496) * T = Y at hk hm
    rw [Int.pow_zero, Int.mul_one] at hk
    split at hk <;> omega
  · rw [if_neg hlt, if_pos (by omega)] at hf
    obtain ⟨_, _, _, hx⟩ := hf.num
    cases hx
/-- The float of a whole number is right just if it is small enough. -/
theorem rt_int (n : Int) : Rt (floatOfInt .f64 n) n ∧ n.natAbs ≤ 1048576 ∨ NotRt (floatOfInt .f64 n) ∧ ¬ n.natAbs ≤ 1048576 := by
  by_cases h : n.natAbs ≤ 1048576
  · exact .inl ⟨⟨Fl.mk n (by omega), h⟩, h⟩
  · refine .inr ⟨?_, h⟩
    by_cases h1 : n.natAbs < 9007199254740992
    · intro v hv
      have := Is.uniq (read_fl n h1) hv.1
      subst this
      exact h hv.2
    · exact big_not n (by omega)
theorem fl_lt (n : Int) : floatOfInt .f64 n < 18446744073709551616 := by
  by_cases h1 : n.natAbs < 9007199254740992
  · by_cases hn : n = 0
    · subst hn; rw [fl_zero]; decide
    · rw [fl_word n hn h1]
      have hl := log2_le n.natAbs (by omega) h1
      have hr := rung_mant n.natAbs (by omega) h1
      have esw : double.signWeight = 9223372036854775808 := by decide
      unfold Format.word rung
      rw [esw]
      split <;> omega
  · obtain ⟨R, e, h1, h2⟩ := big_word (decide (n < 0)) n.natAbs (by omega)
    have e' : floatOfInt .f64 n = double.word (decide (n < 0)) R := e
    have esw : double.signWeight = 9223372036854775808 := by decide
    rw [e']
    unfold Format.word
    rw [esw]
    split <;> omega
/-- Right of a number of two whole parts. -/
theorem right_int (a b : Int) (w : World) : Calls Tryz.prog 201 #[.complex .f64 (floatOfInt .f64 a) (floatOfInt .f64 b)] w (Pu (.bool (decide (a.natAbs ≤ 1048576) && decide (b.natAbs ≤ 1048576))) w) := by
  have ha := fl_lt a
  have hb := fl_lt b
  rcases rt_int a with ⟨h1, h2⟩ | ⟨h1, h2⟩
  · rcases rt_int b with ⟨h3, h4⟩ | ⟨h3, h4⟩
    · rw [decide_eq_true h2, decide_eq_true h4]
      exact right_yes _ _ a b ha hb h1 h3 w
    · rw [decide_eq_true h2, decide_eq_false h4]
      exact right_no _ _ ha hb (.inr h3) w
  · rw [decide_eq_false h2, Bool.false_and]
    exact right_no _ _ ha hb (.inl h1) w
end Go.Proofs.YtdeckknfolaaeaaGreatDoor.Num

namespace Go.Proofs.YtdeckknfolaaeaaGreatDoor.Wire
open Go.RowKit

set_option maxHeartbeats 1000000 in
set_option maxRecDepth 1000000 in
theorem clayout (op : Int) (w : World) : Calls Tryz.prog 124 #[.int .i64 op] w fun e w' => e = .returned (.tuple #[.string (toStr (layS op)), .bool (isOp op)]) ∧ w' = w := by
  rcases op_cases op with rfl | rfl | rfl | rfl | rfl | rfl | rfl | rfl | rfl | rfl | rfl | rfl | rfl | rfl | rfl | h
  all_goals try (go_enter Tryz.func124, Tryz.ntmps124; go_wp2; go_ret2; exact ⟨rfl, rfl⟩)
  have HL := hidden (lay_none h)
  have HI := hidden h
  have h0 : ¬ (1 ≤ op ∧ op ≤ 15) := of_decide_eq_false h
  have h1 : op ≠ 1 := by omega
  have h2 : op ≠ 2 := by omega
  have h3 : op ≠ 3 := by omega
  have h4 : op ≠ 4 := by omega
  have h5 : op ≠ 5 := by omega
  have h6 : op ≠ 6 := by omega
  have h7 : op ≠ 7 := by omega
  have h8 : op ≠ 8 := by omega
  have h9 : op ≠ 9 := by omega
  have h10 : op ≠ 10 := by omega
  have h11 : op ≠ 11 := by omega
  have h12 : op ≠ 12 := by omega
  have h13 : op ≠ 13 := by omega
  have h14 : op ≠ 14 := by omega
  have h15 : op ≠ 15 := by omega
  clear h h0
  go_enter Tryz.func124, Tryz.ntmps124
  go_wp2
  go_ret2
  rw [HL.out, HI.out]
  exact ⟨rfl, rfl⟩

set_option maxHeartbeats 1000000 in
set_option maxRecDepth 1000000 in
theorem cways (op a : Int) (v0 v3 v4 v5 v6 : Value) (w : World) : Calls Tryz.prog 131 #[.agg #[v0, .int .i64 op, .int .i64 a, v3, v4, v5, v6]] w fun e w' => e = .returned (.int .i64 (waysR op a)) ∧ Kept (fun _ => False) w w' := by
  have hk : Kept (fun _ => False) w (w.alloc (.cells #[v0, .int .i64 op, .int .i64 a, v3, v4, v5, v6] 144)) := (Kept.refl _ w).alloc _
  by_cases h5 : op = 5
  · subst h5
    go_enter Tryz.func131, Tryz.ntmps131
    go_wp2
    go_ret
    exact ⟨rfl, hk⟩
  · by_cases h6 : op = 6
    · subst h6
      go_enter Tryz.func131, Tryz.ntmps131
      go_wp2
      go_ret
      exact ⟨rfl, hk⟩
    · by_cases h10 : op = 10
      · subst h10
        go_enter Tryz.func131, Tryz.ntmps131
        go_wp2
        go_ret
        exact ⟨rfl, hk⟩
      · have HW : Hid (waysR op a = 0) := by
          unfold waysR Hid
          rw [if_neg (by omega), if_neg h10]
        go_enter Tryz.func131, Tryz.ntmps131
        go_wp2
        go_ret
        rw [HW.out]
        exact ⟨rfl, hk⟩

set_option maxHeartbeats 1000000 in
set_option maxRecDepth 1000000 in
theorem ccount (op a : Int) (v0 v3 v4 v5 v6 : Value) (w : World) : Calls Tryz.prog 128 #[.agg #[v0, .int .i64 op, .int .i64 a, v3, v4, v5, v6]] w fun e w' => e = .returned (.bool (rcR op a)) ∧ Kept (fun _ => False) w w' := by
  have hk : Kept (fun _ => False) w (w.alloc (.cells #[v0, .int .i64 op, .int .i64 a, v3, v4, v5, v6] 144)) := (Kept.refl _ w).alloc _
  by_cases h10 : op = 10
  · subst h10
    by_cases h1 : 1 ≤ a
    · by_cases h2 : a ≤ 6
      · have HR : Hid (rcR 10 a = true) := by simp [Hid, rcR, h1, h2]
        go_enter Tryz.func128, Tryz.ntmps128
        go_wp2
        go_ret
        rw [HR.out]
        exact ⟨rfl, hk⟩
      · have HR : Hid (rcR 10 a = false) := by simp [Hid, rcR, h2]
        go_enter Tryz.func128, Tryz.ntmps128
        go_wp2
        go_ret
        rw [HR.out]
        exact ⟨rfl, hk⟩
    · have HR : Hid (rcR 10 a = false) := by simp [Hid, rcR, h1]
      go_enter Tryz.func128, Tryz.ntmps128
      go_wp2
      go_ret
      rw [HR.out]
      exact ⟨rfl, hk⟩
  · have HR : Hid (rcR op a = true) := by simp [Hid, rcR, h10]
    go_enter Tryz.func128, Tryz.ntmps128
    go_wp2
    go_ret
    rw [HR.out]
    exact ⟨rfl, hk⟩

/-- What a reader's call leaves: the answer, where the reader stands, and nothing else turned. -/
def RQ (l : List Nat) (b g : Nat) (v : Value) (p y : Nat) (w : World) (e : Ending) (w' : World) : Prop := e = .returned v ∧ RIs w' b g l p y ∧ Kept (fun k => k = b) w w'

theorem cfail (ok : Bool) (b g : Nat) (l : List Nat) (p why : Nat) (w : World) (hr : RIs w b g l p why) : Calls Tryz.prog 125 #[.pointer (some ⟨b, 0, none⟩), .bool ok] w (RQ l b g (.tuple #[]) p (fU why ok) w) := by
  cases ok
  · go_enter Tryz.func125, Tryz.ntmps125
    go_wp2_with fail
    refine (rfail 12 b g l p why _ hr).mono ?_
    rintro e w1 ⟨rfl, h1, h2⟩
    go_wp2
    go_end0
    exact ⟨rfl, h1, h2⟩
  · go_enter Tryz.func125, Tryz.ntmps125
    go_wp2
    go_end0
    exact ⟨rfl, hr, Kept.refl _ _⟩

theorem take_one (l : List Nat) (p y : Nat) (h256 : ∀ x ∈ l, x < 256) : (rTake l p y 1).1 = [] ∨ ∃ x, (rTake l p y 1).1 = [x] ∧ x < 256 := by
  unfold rTake
  split
  · exact .inl rfl
  · split
    · exact .inl rfl
    · rename_i h1 h2
      have hp : p < l.length := by omega
      refine .inr ⟨l[p], ?_, h256 _ (List.getElem_mem hp)⟩
      simp only [show (1 : Int).toNat = 1 from rfl, List.drop_eq_getElem_cons hp, List.take_succ_cons, List.take_zero]
theorem take_two (l : List Nat) (p y : Nat) (h256 : ∀ x ∈ l, x < 256) : (rTake l p y 2).1 = [] ∨ ∃ x z, (rTake l p y 2).1 = [x, z] ∧ x < 256 ∧ z < 256 := by
  unfold rTake
  split
  · exact .inl rfl
  · split
    · exact .inl rfl
    · rename_i h1 h2
      have hp : p < l.length := by omega
      have hq : p + 1 < l.length := by omega
      refine .inr ⟨l[p], l[p + 1], ?_, h256 _ (List.getElem_mem hp), h256 _ (List.getElem_mem hq)⟩
      simp only [show (2 : Int).toNat = 2 from rfl, List.drop_eq_getElem_cons hp, List.drop_eq_getElem_cons hq, List.take_succ_cons, List.take_zero]

set_option maxHeartbeats 1000000 in
set_option maxRecDepth 1000000 in
theorem cbyte (b g : Nat) (l : List Nat) (p why : Nat) (w : World) (hl : l.length ≤ 140737488355328) (h256 : ∀ x ∈ l, x < 256) (hp : p ≤ l.length) (hr : RIs w b g l p why) :
    Calls Tryz.prog 123 #[.pointer (some ⟨b, 0, none⟩)] w (RQ l b g (.int .i64 ((rB l p why).1 : Nat)) (rB l p why).2.1 (rB l p why).2.2 w) := by
  have hcall := rraw 1 b g l p why w (by decide) hl hp hr
  unfold rB
  rcases take_one l p why h256 with h | ⟨x, h, hx⟩
  · rw [h] at hcall ⊢
    generalize rTake l p why 1 = T at *
    go_enter Tryz.func123, Tryz.ntmps123
    go_wp2_with fail
    refine hcall.mono ?_
    rintro e w1 ⟨v', g', rfl, h1, h2, h3, h4⟩
    obtain ⟨a', c', rfl⟩ := h1.rd.shape
    go_wp2
    go_ret
    exact ⟨rfl, h3, h4⟩
  · rw [h] at hcall ⊢
    generalize rTake l p why 1 = T at *
    go_enter Tryz.func123, Tryz.ntmps123
    go_wp2_with fail
    refine hcall.mono ?_
    rintro e w1 ⟨v', g', rfl, h1, h2, h3, h4⟩
    rcases h1.shape with ⟨_, h0⟩ | ⟨cap, rfl, hc, _⟩
    · cases h0
    · have hc0 : w1.cell? ⟨g', 0, none⟩ = some (.int .u8 (x : Int)) := h1.cell 0 (by simp)
      simp only [List.length_cons, List.length_nil, Nat.zero_add] at h1 hc ⊢
      go_wp2
      go_ret
      exact ⟨rfl, h3, h4⟩

theorem pair_or (x z : Nat) (hx : x < 256) (hz : z < 256) : bits .or .i64 ((x : Int) * 256) (z : Int) = ((x * 256 + z : Nat) : Int) := by
  have e : (x : Int) * 256 = ((x * 256 : Nat) : Int) := by omega
  rw [e]
  show IntKind.i64.wrap ((BitVec.ofInt 64 ((x * 256 : Nat) : Int) ||| BitVec.ofInt 64 (z : Int)).toNat : Int) = _
  rw [BitVec.toNat_or, ofInt_u64 _ (by omega), ofInt_u64 _ (by omega), nat_join 8 (x * 256) z (by omega) (by omega)]
  rw [IntKind.wrap_i64]
  omega
set_option maxHeartbeats 1000000 in
set_option maxRecDepth 1000000 in
theorem cpair (b g : Nat) (l : List Nat) (p why : Nat) (w : World) (hl : l.length ≤ 140737488355328) (h256 : ∀ x ∈ l, x < 256) (hp : p ≤ l.length) (hr : RIs w b g l p why) :
    Calls Tryz.prog 129 #[.pointer (some ⟨b, 0, none⟩)] w (RQ l b g (.int .i64 ((rP l p why).1 : Nat)) (rP l p why).2.1 (rP l p why).2.2 w) := by
  have hcall := rraw 2 b g l p why w (by decide) hl hp hr
  unfold rP
  rcases take_two l p why h256 with h | ⟨x, z, h, hx, hz⟩
  · rw [h] at hcall ⊢
    generalize rTake l p why 2 = T at *
    go_enter Tryz.func129, Tryz.ntmps129
    go_wp2_with fail
    refine hcall.mono ?_
    rintro e w1 ⟨v', g', rfl, h1, h2, h3, h4⟩
    obtain ⟨a', c', rfl⟩ := h1.rd.shape
    go_wp2
    go_ret
    exact ⟨rfl, h3, h4⟩
  · rw [h] at hcall ⊢
    have HP := hidden (pair_or x z hx hz)
    generalize rTake l p why 2 = T at *
    go_enter Tryz.func129, Tryz.ntmps129
    go_wp2_with fail
    refine hcall.mono ?_
    rintro e w1 ⟨v', g', rfl, h1, h2, h3, h4⟩
    rcases h1.shape with ⟨_, h0⟩ | ⟨cap, rfl, hc, _⟩
    · cases h0
    · have hc0 : w1.cell? ⟨g', 0, none⟩ = some (.int .u8 (x : Int)) := h1.cell 0 (by simp)
      have hc1 : w1.cell? ⟨g', 1, none⟩ = some (.int .u8 (z : Int)) := h1.cell 1 (by simp)
      simp only [List.length_cons, List.length_nil, Nat.zero_add] at h1 hc ⊢
      go_wp2
      go_quiet (fail)
      go_wp2
      go_ret
      refine ⟨?_, h3.kept (kept_drewN w1 _) (fun h => h) (fun h => h), h4.trans (kept_drewN w1 _) (fun _ _ h => h) (fun _ _ h => h.elim)⟩
      rw [HP.out]
      rfl

set_option maxHeartbeats 1000000 in
set_option maxRecDepth 1000000 in
theorem cnumber (b g : Nat) (l : List Nat) (p why : Nat) (w : World) (hl : l.length ≤ 140737488355328) (h256 : ∀ x ∈ l, x < 256) (hp : p ≤ l.length) (hr : RIs w b g l p why) :
    Calls Tryz.prog 126 #[.pointer (some ⟨b, 0, none⟩)] w (RQ l b g (.complex .f64 (floatOfInt .f64 (rN l p why).1.1) (floatOfInt .f64 (rN l p why).1.2)) (rN l p why).2.1 (rN l p why).2.2 w) := by
  have h1 := rsigned b g l p why w hl h256 hp hr
  have hp1 := rNum_le l p why 18446744073709551615 hp
  unfold rN
  generalize rNum l p why 18446744073709551615 = R at *
  obtain ⟨n1, p1, y1⟩ := R
  simp only at h1 hp1 ⊢
  have h2 : ∀ u, RIs u b g l p1 y1 → _ := fun u hu => rsigned b g l p1 y1 u hl h256 hp1 hu
  generalize rNum l p1 y1 18446744073709551615 = R at *
  obtain ⟨n2, p2, y2⟩ := R
  simp only at h2 ⊢
  generalize zag n1 = a1 at *
  generalize zag n2 = a2 at *
  go_enter Tryz.func126, Tryz.ntmps126
  go_wp2_with fail
  refine h1.mono ?_
  rintro e w1 ⟨rfl, k1, k2⟩
  go_wp2_with fail
  refine (h2 _ k1).mono ?_
  rintro e w2 ⟨rfl, k3, k4⟩
  go_wp2_with fail
  refine (Num.right_int a1 a2 _).mono ?_
  rintro e w3 ⟨rfl, rfl⟩
  go_wp2_with fail
  refine (cfail _ b g l p2 y2 _ k3).mono ?_
  rintro e w4 ⟨rfl, k5, k6⟩
  go_wp2
  go_ret
  exact ⟨rfl, k5, (k2.trans k4 (fun _ _ h => h) (fun _ _ h => h)).trans k6 (fun _ _ h => h) (fun _ _ h => h)⟩

set_option maxHeartbeats 1000000 in
theorem crefusal (b g : Nat) (l : List Nat) (p why : Nat) (w : World) (hl : l.length ≤ 140737488355328) (hy : Yw why) (hr : RIs w b g l p why) :
    Calls Tryz.prog 70 #[.pointer (some ⟨b, 0, none⟩)] w fun e w' => e = .returned (.int .i64 (cw why : Nat)) ∧ Kept (fun _ => False) w w' := by
  have h1 := rend b g l p why w hl hr
  rcases hy with rfl | rfl | rfl | rfl
  · by_cases hlt : p < l.length
    · rw [show rEnd l p 0 = (11, p) by simp [rEnd, hlt]] at h1
      go_enter Tryz.func70, Tryz.ntmps70
      go_wp2_with fail
      refine h1.mono ?_
      rintro e w1 ⟨rfl, k1⟩
      go_wp2
      go_ret
      exact ⟨rfl, k1⟩
    · rw [show rEnd l p 0 = (0, 0) by simp [rEnd, hlt]] at h1
      go_enter Tryz.func70, Tryz.ntmps70
      go_wp2_with fail
      refine h1.mono ?_
      rintro e w1 ⟨rfl, k1⟩
      go_wp2
      go_ret
      exact ⟨rfl, k1⟩
  all_goals
    go_enter Tryz.func70, Tryz.ntmps70
    go_wp2_with fail
    refine h1.mono ?_
    rintro e w1 ⟨rfl, k1⟩
    go_wp2
    go_ret
    exact ⟨rfl, k1⟩
end Go.Proofs.YtdeckknfolaaeaaGreatDoor.Wire

namespace Go.Proofs.YtdeckknfolaaeaaGreatDoor.Wire
open Go.RowKit

/-- Whole numbers in a row, in a block of F. -/
def IwR (F : Nat → Prop) (w : World) (v : Value) (xs : List Int) : Prop :=
  (∃ a c, v = .slice a 0 c ∧ xs = []) ∨ ∃ g o cap, v = .slice (some ⟨g, o, none⟩) xs.length cap ∧ xs.length ≤ cap ∧ F g ∧ ∀ (j : Nat) x, xs[j]? = some x → w.cell? ⟨g, o + j, none⟩ = some (.int .i64 x)
theorem IwR.frame {F G : Nat → Prop} {w w' : World} (hF : ∀ g, F g → G g ∧ w'.heap[g]? = w.heap[g]?) {v : Value} {xs : List Int} (h : IwR F w v xs) : IwR G w' v xs := by
  rcases h with h | ⟨g, o, cap, h1, h1', h2, h3⟩
  · exact .inl h
  · exact .inr ⟨g, o, cap, h1, h1', (hF g h2).1, fun j x hj => by rw [World.cell?_of_block (w := w) (hF g h2).2]; exact h3 j x hj⟩
theorem IwR.shape {F : Nat → Prop} {w : World} {v : Value} {xs : List Int} (h : IwR F w v xs) : ∃ a c, v = .slice a xs.length c := by
  rcases h with ⟨a, c, rfl, rfl⟩ | ⟨g, o, cap, rfl, _⟩
  · exact ⟨a, c, rfl⟩
  · exact ⟨_, _, rfl⟩
theorem IwR.nil (F : Nat → Prop) (w : World) : IwR F w (.slice none 0 0) [] := .inl ⟨none, 0, rfl, rfl⟩
theorem IwR.one {F : Nat → Prop} {w : World} {v : Value} {xs : List Int} (h : IwR F w v xs) : v.oneCell' = true := by
  obtain ⟨a, c, rfl⟩ := h.shape
  rfl
def ics (xs : List Int) : List Value := xs.map (Value.int .i64)
theorem ics_at (xs : List Int) (j : Nat) (x : Int) (h : xs[j]? = some x) : (ics xs)[j]? = some (.int .i64 x) := by simp [ics, h]
theorem Tryz.infoInt : (Tryz.prog.info? 3).map (fun i => (i.zero, i.size, i.bytes)) = some (some (.int .i64 0), 1, 8) := by kernel_rfl
/-- A block that holds these whole numbers. -/
def IBlk (w : World) (g : Nat) (xs : List Int) : Prop := w.heap[g]? = some (.cells (ics xs).toArray 3 (0, 0))
theorem IBlk.lt {w : World} {g : Nat} {xs : List Int} (h : IBlk w g xs) : g < w.heap.size := (Array.getElem?_eq_some_iff.1 h).1
theorem IBlk.kept {S : Nat → Prop} {w w' : World} {g : Nat} {xs : List Int} (h : IBlk w g xs) (k : Kept S w w') (hg : ¬ S g) : IBlk w' g xs := (k.block g h.lt hg).trans h
theorem IBlk.cell {w : World} {g : Nat} {xs : List Int} (h : IBlk w g xs) (j : Nat) : w.cell? ⟨g, j, none⟩ = (ics xs)[j]? := by
  rw [cell_of_row _ _ _ _ _ _ h]
  simp
theorem IBlk.set {w : World} {g : Nat} {xs : List Int} (h : IBlk w g xs) (j : Nat) (x : Int) : IBlk (w.setCell ⟨g, j, none⟩ (.int .i64 x)) g (xs.set j x) := by
  unfold IBlk at *
  rw [heap_setCell_same w g j _ _ _ h]
  simp [ics, List.map_set]
theorem IBlk.row {F : Nat → Prop} {w : World} {g cap : Nat} {xs : List Int} (h : IBlk w g xs) (hF : F g) (hc : xs.length ≤ cap) : IwR F w (.slice (some ⟨g, 0, none⟩) xs.length cap) xs :=
  .inr ⟨g, 0, cap, rfl, hc, hF, fun j x hj => by rw [Nat.zero_add, h.cell, ics_at xs j x hj]⟩

/-- What readWays leaves. -/
def WaysE (l : List Nat) (b g : Nat) (R : List Int × Nat × Nat) (w : World) (e : Ending) (w' : World) : Prop :=
  ∃ v, e = .returned v ∧ IwR (fun z => w.heap.size ≤ z ∧ z < w'.heap.size) w' v R.1 ∧ RIs w' b g l R.2.1 R.2.2 ∧ Kept (fun k => k = b) w w'
theorem way_step (l : List Nat) (bh : Int) (n p y : Nat) : rW l bh (n + 1) p y = ((bh + ((rP l p y).1 : Nat)) :: (rW l bh n (rP l p y).2.1 (rP l p y).2.2).1, (rW l bh n (rP l p y).2.1 (rP l p y).2.2).2) := rfl
theorem set_mid (ds : List Int) (m : Nat) (x : Int) : (ds ++ List.replicate (m + 1) 0).set ds.length x = (ds ++ [x]) ++ List.replicate m 0 := by
  rw [List.set_append_right _ _ (Nat.le_refl _), Nat.sub_self, List.replicate_succ, List.set_cons_zero]
  simp
theorem pair_lt (l : List Nat) (p y : Nat) (h256 : ∀ x ∈ l, x < 256) : (rP l p y).1 < 65536 := by
  unfold rP
  rcases take_two l p y h256 with h | ⟨x, z, h, hx, hz⟩
  · rw [h]; simp
  · rw [h]
    show x * 256 + z < 65536
    omega
set_option maxHeartbeats 1000000 in
set_option maxRecDepth 1000000 in
theorem creadWays (b g : Nat) (l : List Nat) (p why at0 n : Nat) (w : World) (hl : l.length ≤ 140737488355328) (h256 : ∀ x ∈ l, x < 256) (hp : p ≤ l.length) (hy : Yw why) (ha : at0 ≤ 140737488355328) (hn : n ≤ 255) (hr : RIs w b g l p why) :
    Calls Tryz.prog 130 #[.pointer (some ⟨b, 0, none⟩), .int .i64 at0, .int .i64 n] w (WaysE l b g (rW l ((at0 : Nat) + 2 * (n : Int)) n p why) w) := by
  have hmk : ∀ u : World, (Instr.makeSlice 56 (.int .i64 (n : Int)) (.int .i64 (n : Int))).run Tryz.prog u = .ok (.slice (some ⟨u.heap.size, 0, none⟩) n n) (u.alloc (.cells (madeCells #[.int .i64 0] n) 3)) :=
    fun u => run_make_row' (P := Tryz.prog) 56 3 (.int .i64 0) 8 Tryz.underlying56 Tryz.infoInt rfl .i64 .i64 n (by omega) (by omega) u
  have hI0 : IBlk (w.alloc (.cells (madeCells #[.int .i64 0] n) 3)) w.heap.size (List.replicate n 0) := by
    have h := heap_alloc_new w (.cells (madeCells #[.int .i64 0] n) 3)
    unfold IBlk
    rw [h]
    congr 2
    apply Array.ext'
    rw [toList_madeCells_one]
    simp [ics]
  have hK0 : Kept (fun k => k = b) w (w.alloc (.cells (madeCells #[.int .i64 0] n) 3)) := (Kept.refl _ w).alloc _
  have hr0 := hr.kept ((Kept.refl (fun _ => False) w).alloc (.cells (madeCells #[.int .i64 0] n) 3)) (fun h => h) (fun h => h)
  have hb := hr.lt
  have hg := hr.gt
  obtain ⟨bh, HB⟩ : ∃ bh : Int, Hid (bh = (at0 : Nat) + 2 * (n : Int)) := ⟨_, rfl⟩
  have hbh0 : 0 ≤ bh := by have := HB.out; omega
  have hbh1 : bh ≤ 150000000000000 := by have := HB.out; omega
  have HW : Hid (∀ R, R = rW l bh n p why → R = rW l ((at0 : Nat) + 2 * (n : Int)) n p why) := by
    intro R h
    rw [h, HB.out]
  have hgoal : WaysE l b g (rW l ((at0 : Nat) + 2 * (n : Int)) n p why) w = WaysE l b g (rW l bh n p why) w := by rw [HB.out]
  rw [hgoal]
  clear HW hgoal
  have hB := HB.out
  clear HB
  go_enter Tryz.func130, Tryz.ntmps130
  go_wp2
  rw [← hB]
  clear hB hmk
  go_loopg [18] n (fun gk i wr => ∃ (k p1 y1 : Nat) (ds : List Int), gk + k = n ∧ i = .int .i64 k ∧ ds.length = k ∧ IBlk wr w.heap.size (ds ++ List.replicate (n - k) 0) ∧ RIs wr b g l p1 y1 ∧ p1 ≤ l.length ∧ Yw y1 ∧ Kept (fun k => k = b) w wr ∧ rW l bh n p why = (ds ++ (rW l bh (n - k) p1 y1).1, (rW l bh (n - k) p1 y1).2))
  case atStart => exact ⟨0, p, why, [], rfl, rfl, rfl, by simpa using hI0, hr0, hp, hy, hK0, by simp⟩
  case round =>
    obtain ⟨k, p1, y1, ds, hgk, rfl, hdk, hI, hR, hp1, hy1, hK, hW⟩ := hrel
    clear hI0 hK0 hr0 hr
    have hz := hK.size
    have hIl := hI.lt
    by_cases hk : k < n
    · have hc := cpair b g l p1 y1 wr hl h256 hp1 hR
      have hs := rP_step l p1 y1 hp1 hy1
      have hlt := pair_lt l p1 y1 h256
      have HW := hidden hW
      clear hW
      have HS := way_step l bh (n - (k + 1)) p1 y1
      rw [show n - (k + 1) + 1 = n - k by omega] at HS
      have HS := hidden HS
      generalize rP l p1 y1 = R at *
      obtain ⟨q, p2, y2⟩ := R
      simp only at hc hs hlt HS
      have HG : Hid (gk + k = n) := hgk
      have HD : Hid (ds.length = k) := hdk
      clear hgk hdk
      go_wp2_with fail
      refine hc.mono ?_
      rintro e w1 ⟨rfl, k1, k2⟩
      have hI1 := hI.kept k2 (by omega)
      have hcell : w1.cell? ⟨w.heap.size, k, none⟩ = some (.int .i64 0) := by
        rw [hI1.cell]
        refine ics_at _ _ _ ?_
        have := HD.out
        rw [List.getElem?_append_right (by omega), List.getElem?_replicate, if_pos (by omega)]
      have hfz := frozen_of_row w1 w.heap.size k _ _ hI1
      have hI2 := hI1.set k (bh + (q : Int))
      have HI2 : Hid (IBlk (w1.setCell ⟨w.heap.size, k, none⟩ (.int .i64 (bh + (q : Int)))) w.heap.size ((ds ++ [bh + (q : Int)]) ++ List.replicate (n - (k + 1)) 0)) := by
        rw [show n - k = n - (k + 1) + 1 by omega] at hI2
        have := set_mid ds (n - (k + 1)) (bh + (q : Int))
        rw [HD.out] at this
        rw [this] at hI2
        exact hI2
      have K3 : Kept (fun z => z = b) w (w1.setCell ⟨w.heap.size, k, none⟩ (.int .i64 (bh + (q : Int)))) := (hK.trans k2 (fun _ _ h => h) (fun _ _ h => h)).setCell (p := ⟨w.heap.size, k, none⟩) (fun h => by simp at h) _
      have k3 := k1.kept (kept_set w1 w.heap.size k (.int .i64 (bh + (q : Int)))) (by omega) (by omega)
      clear hI2 hI1 hI
      go_wp2
      go_roundg (n - (k + 1))
      case measure => have := HG.out; omega
      case rel =>
        refine ⟨k + 1, p2, y2, ds ++ [bh + (q : Int)], by omega, by go_num, by rw [List.length_append, HD.out]; rfl, HI2.out, k3, hs.1, hs.2.1, K3, ?_⟩
        rw [HW.out, HS.out]
        simp
    · have hkn : k = n := by omega
      subst hkn
      have HW := hidden hW
      have HD : Hid (ds.length = k) := hdk
      clear hW hdk
      rw [Nat.sub_self, List.replicate_zero, List.append_nil] at hI
      go_wp2
      go_ret
      refine ⟨_, rfl, ?_, ?_, hK⟩
      · rw [HW.out, Nat.sub_self]
        show IwR _ _ _ (ds ++ [])
        rw [List.append_nil]
        have := hI.row (F := fun z => w.heap.size ≤ z ∧ z < wr.heap.size) (cap := k) ⟨Nat.le_refl _, hIl⟩ (by rw [HD.out]; exact Nat.le_refl _)
        rw [HD.out] at this
        exact this
      · rw [HW.out, Nat.sub_self]
        exact hR
end Go.Proofs.YtdeckknfolaaeaaGreatDoor.Wire
