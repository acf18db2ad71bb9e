/-
  The package's One, Less and Index: what each call answers.
  And: The document's own answers: Parts, made, Two, One, Less, Index: what each call answers. The document's own answers, on: One, Less, Index. The package's Text and the document's: what each call answers. The document's digits and Text: what each call answers. Digits at a text's beginning: the package's readPart and the document's part. The package's Parse and the document's: what each call answers. The package's Parse: its walk.
-/
import Derived.Test.YtchfhkfepghfjaaPfAn
import Derived.Test.YtchfhkfepghfjaaPfAa
import Derived.Lib.SmallJoins
import Derived.Lib.ItoaLen
import Derived.Deep.LoopGhost
import Derived.Lib.IndexBytes
namespace Go.Proofs.Ytchfhkfepghfjaa.Num
open Go.RowKit Ieee

def neg (x : Nat) : Nat := Op.negFloat .f64 x
theorem neg_eq (x : Nat) : neg x = x ^^^ 2 ^ 63 := rfl
theorem neg_div (x : Nat) : neg x / 9223372036854775808 % 2 = (x / 9223372036854775808 + 1) % 2 := by
  have h := Nat.xor_div_two_pow (a := x) (b := 2 ^ 63) (n := 63)
  rw [neg_eq]
  rw [show (2 : Nat) ^ 63 / 2 ^ 63 = 1 by decide] at h
  rw [show (2 : Nat) ^ 63 = 9223372036854775808 by decide] at h ⊢
  rw [h]
  have h2 := Nat.xor_mod_two_pow (a := x / 9223372036854775808) (b := 1) (n := 1)
  rw [Nat.pow_one] at h2
  rw [h2]
  rcases Nat.mod_two_eq_zero_or_one (x / 9223372036854775808) with h | h
  · rw [h, show (x / 9223372036854775808 + 1) % 2 = 1 by omega]; decide
  · rw [h, show (x / 9223372036854775808 + 1) % 2 = 0 by omega]; decide
theorem neg_mod (x : Nat) : neg x % 9223372036854775808 = x % 9223372036854775808 := by
  have h := Nat.xor_mod_two_pow (a := x) (b := 2 ^ 63) (n := 63)
  rw [neg_eq]
  rw [show (2 : Nat) ^ 63 % 2 ^ 63 = 0 by decide, Nat.xor_zero] at h
  rw [show (2 : Nat) ^ 63 = 9223372036854775808 by decide] at h ⊢
  exact h
theorem neg_lt (x : Nat) (h : x < 18446744073709551616) : neg x < 18446744073709551616 := by
  rw [neg_eq]
  have := Nat.xor_lt_two_pow (x := x) (y := 2 ^ 63) (n := 64) (by simpa using h) (by decide)
  simpa using this
theorem read_neg (x : Nat) : double.read (neg x) = (double.read x).opposite := by
  have esw : double.signWeight = 9223372036854775808 := by decide
  unfold Format.read
  simp only [esw, neg_div, neg_mod]
  have hb : ((x / 9223372036854775808 + 1) % 2 == 1) = !(x / 9223372036854775808 % 2 == 1) := by
    rcases Nat.mod_two_eq_zero_or_one (x / 9223372036854775808) with h | h
    · rw [h, show (x / 9223372036854775808 + 1) % 2 = 1 by omega]; rfl
    · rw [h, show (x / 9223372036854775808 + 1) % 2 = 0 by omega]; rfl
  rw [hb]
  split
  · rfl
  · split
    · rfl
    · split <;> rfl
theorem Fl.neg {x : Nat} {n : Int} (h : Fl x n) : Fl (neg x) (-n) := by
  show Is _ _
  rw [read_neg]
  exact Is.opposite h

/-- One of the four, once its parts are known. -/
def Way1 (op : ByteArray) (p1 p2 r1 r2 : Nat) : Prop :=
  ((op.toList == [110, 101, 103]) = true ∧ r1 = neg p1 ∧ r2 = neg p2) ∨
  ((op.toList == [110, 101, 103]) = false ∧ (op.toList == [99, 111, 110, 106]) = true ∧ r1 = p1 ∧ r2 = neg p2) ∨
  ((op.toList == [110, 101, 103]) = false ∧ (op.toList == [99, 111, 110, 106]) = false ∧ (op.toList == [114, 101]) = true ∧ r1 = p1 ∧ r2 = 0) ∨
  ((op.toList == [110, 101, 103]) = false ∧ (op.toList == [99, 111, 110, 106]) = false ∧ (op.toList == [114, 101]) = false ∧ (op.toList == [105, 109]) = true ∧ r1 = p2 ∧ r2 = 0)
/-- Less, of right numbers. -/
def less (a b c d : Int) : Bool := if a = c then decide (b < d) else decide (a < c)
theorem to_int (x : Nat) (a : Int) (h : Rt x a) : floatToIntVal .f64 x .i64 = some a := by
  unfold floatToIntVal
  have e : (FloatKind.f64.decode x).toInt .zero = some a := (Is.toInt h.1).1
  rw [e]
  have := h.2
  simp only
  rw [if_pos]
  constructor
  · show (-9223372036854775808 : Int) ≤ a
    omega
  · show a ≤ (9223372036854775807 : Int)
    omega
theorem conv_int (x : Nat) (a : Int) (h : Rt x a) (w : World) : (convert 100 3 (.float .f64 x)).run Try.prog w = .ok (.int .i64 a) w :=
  run_convert_float_int w 100 3 .f64 .i64 x a (by kernel_rfl) Try.underlying3 (to_int x a h)
theorem conv_int64 (x : Nat) (a : Int) (h : Rt x a) (w : World) : (convert 100 2 (.float .f64 x)).run Try.prog w = .ok (.int .i64 a) w :=
  run_convert_float_int w 100 2 .f64 .i64 x a (by kernel_rfl) Try.underlying2 (to_int x a h)

/-- Index, of right numbers. -/
def index (a b : Int) : Int × Bool := if b = 0 ∧ 0 ≤ a then (a, true) else (0, false)
end Go.Proofs.Ytchfhkfepghfjaa.Num

namespace Go.Proofs.Ytchfhkfepghfjaa.Num
open Go.RowKit Ieee

def geB (x : Nat) : Bool := FloatKind.f64.format.order x 13920626448202203136 == some .gt || FloatKind.f64.format.order x 13920626448202203136 == some .eq
def leB (x : Nat) : Bool := FloatKind.f64.format.order x 4697254411347427328 == some .lt || FloatKind.f64.format.order x 4697254411347427328 == some .eq
theorem small_iff (x : Nat) : (geB x = true ∧ leB x = true) ↔ Small (double.read x) := by
  have := two_small x
  rw [fl20, flm20] at this
  exact this

theorem toInt_small (x : Nat) (h : Small (double.read x)) : ∃ v : Int, v.natAbs ≤ 1048576 ∧ floatToIntVal .f64 x .i64 = some v ∧ (Fl x v ∨ (double.order (floatOfInt .f64 v) x == some .eq) = false) := by
  obtain ⟨v, hv, ht, _⟩ := h.whole
  refine ⟨v, hv, ?_, ?_⟩
  · unfold floatToIntVal
    have e : (FloatKind.f64.decode x).toInt .zero = some v := ht
    rw [e]
    simp only
    rw [if_pos]
    constructor
    · show (-9223372036854775808 : Int) ≤ v
      omega
    · show v ≤ (9223372036854775807 : Int)
      omega
  · have hf := Fl.mk v (by omega)
    have hs : (double.order (floatOfInt .f64 v) x == some .eq) = (double.order x (floatOfInt .f64 v) == some .eq) := order_symm_eq _ _
    rw [hs]
    by_cases h : double.order x (floatOfInt .f64 v) = some .eq
    · exact .inl (Is.of_order hf h)
    · exact .inr (beq_eq_false_iff_ne.2 h)

def PartsNo (w : World) (e : Ending) (w' : World) : Prop := (∃ u v : Int, e = .returned (.tuple #[.int .i64 u, .int .i64 v, .bool false])) ∧ w' = w

theorem fl_lt (n : Int) : floatOfInt .f64 n < 18446744073709551616 := by
  have := floatOfInt_wf .f64 n
  simpa [Lit.wf] using this
theorem fl_eq_zero (n : Int) (h : n = 0) : floatOfInt .f64 n = 0 := by subst h; exact fl_zero

end Go.Proofs.Ytchfhkfepghfjaa.Num

namespace Go.Proofs.Ytchfhkfepghfjaa.Num
open Go.RowKit Ieee

theorem fit_one (p q : Int) (h1 : p.natAbs ≤ 1048576) (h2 : q.natAbs ≤ 1048576) : fit p q = (p, q, 0) := if_pos ⟨h1, h2⟩

end Go.Proofs.Ytchfhkfepghfjaa.Num

namespace Go.Proofs.Ytchfhkfepghfjaa.Num
open Go.RowKit Ieee

def Tab (w : World) : Prop := Lib.TabIs Try.prog w "internal/strconv.uint64pow10" .u64 Lib.pow10Tab
def itoaS (n : Int) : ByteArray := ⟨(Lib.itoa n).toArray⟩
theorem itoaS_size (n : Int) (h0 : -9223372036854775808 ≤ n) (h1 : n ≤ 9223372036854775807) : (itoaS n).size ≤ 21 := by
  have := Lib.itoa_length_le n h0 h1
  simpa [itoaS, ByteArray.size] using this
/-- A call that answers a text, and lays new memory alone. -/
def TextE (s : ByteArray) (w : World) (e : Ending) (w' : World) : Prop := e = .returned (.string s) ∧ Below w.heap.size w w'

def iS : ByteArray := ⟨#[105]⟩
def plusS : ByteArray := ⟨#[43]⟩
def text (a b : Int) : ByteArray :=
  if b = 0 then itoaS a else if a = 0 then itoaS b ++ ⟨#[105]⟩ else if 0 < b then itoaS a ++ ⟨#[43]⟩ ++ (itoaS b ++ ⟨#[105]⟩) else itoaS a ++ (itoaS b ++ ⟨#[105]⟩)

end Go.Proofs.Ytchfhkfepghfjaa.Num

namespace Go.Proofs.Ytchfhkfepghfjaa.Num
open Go.RowKit Ieee

theorem dig_piece : ∀ d : Fin 10, (⟨#[48, 49, 50, 51, 52, 53, 54, 55, 56, 57]⟩ : ByteArray).extract d.val (d.val + 1) = ⟨#[UInt8.ofNat (48 + d.val)]⟩ := by decide +kernel
theorem dec_small {u : Nat} (h : u < 10) : Lib.decDigits u = [UInt8.ofNat (48 + u)] := by rw [Lib.decDigits, dif_pos h]
theorem dec_big {u : Nat} (h : ¬ u < 10) : Lib.decDigits u = Lib.decDigits (u / 10) ++ [UInt8.ofNat (48 + u % 10)] := by rw [Lib.decDigits, dif_neg h]
/-- What is ahead of the digits that were taken. -/
def ahead (m : Nat) : List UInt8 := if m = 0 then [] else Lib.decDigits m
theorem dec_step (m : Nat) : Lib.decDigits m = ahead (m / 10) ++ [UInt8.ofNat (48 + m % 10)] := by
  by_cases h : m < 10
  · rw [dec_small h, ahead, if_pos (by omega), show m % 10 = m by omega]; rfl
  · rw [dec_big h, ahead, if_neg (by omega)]
theorem ahead_step (m : Nat) (h : m ≠ 0) : ahead m = ahead (m / 10) ++ [UInt8.ofNat (48 + m % 10)] := by
  rw [← dec_step, ahead, if_neg h]
theorem pre_eq (x : UInt8) (s : ByteArray) : (⟨#[x]⟩ : ByteArray) ++ s = ⟨(x :: s.data.toList).toArray⟩ := by
  apply ByteArray.ext
  rw [ByteArray.data_append]
  apply Array.ext'
  simp

theorem dig_step (m : Nat) (l : ByteArray) : ((⟨#[48, 49, 50, 51, 52, 53, 54, 55, 56, 57]⟩ : ByteArray).extract (m % 10) (m % 10 + 1) ++ l).size = l.size + 1 ∧
    ((⟨#[48, 49, 50, 51, 52, 53, 54, 55, 56, 57]⟩ : ByteArray).extract (m % 10) (m % 10 + 1) ++ l).toList.isEmpty = false ∧
    ((⟨#[48, 49, 50, 51, 52, 53, 54, 55, 56, 57]⟩ : ByteArray).extract (m % 10) (m % 10 + 1) ++ l).data.toList = UInt8.ofNat (48 + m % 10) :: l.data.toList := by
  have hp := dig_piece ⟨m % 10, Nat.mod_lt _ (by decide)⟩
  simp only at hp
  have e : ((⟨#[48, 49, 50, 51, 52, 53, 54, 55, 56, 57]⟩ : ByteArray).extract (m % 10) (m % 10 + 1) ++ l).data.toList = UInt8.ofNat (48 + m % 10) :: l.data.toList := by
    rw [hp, pre_eq]
  refine ⟨?_, ?_, e⟩
  · have h := congrArg List.length e
    rw [List.length_cons, Array.length_toList, Array.length_toList] at h
    exact h
  · rw [ByteArray.toList_eq, e]
    rfl
end Go.Proofs.Ytchfhkfepghfjaa.Num

namespace Go.Proofs.Ytchfhkfepghfjaa.Num
open Go.RowKit Ieee

def dig (c : UInt8) : Bool := decide (48 ≤ c.toNat) && decide (c.toNat ≤ 57)
def accA (n : Nat) (c : UInt8) : Nat := if n ≤ 1048576 then 10 * n + (c.toNat - 48) else n
def accB (n : Nat) (c : UInt8) : Nat := if n < 1099511627776 then 10 * n + (c.toNat - 48) else n
def pre (s : ByteArray) : List UInt8 := s.data.toList.takeWhile dig
def numA (s : ByteArray) : Nat := (pre s).foldl accA 0
def numB (s : ByteArray) : Nat := (pre s).foldl accB 0

theorem tw_take : ∀ (l : List UInt8) (k : Nat), (∀ c ∈ l.take k, dig c = true) → (∀ c, l[k]? = some c → dig c = false) → l.takeWhile dig = l.take k
  | [], k, _, _ => by simp
  | x :: r, 0, _, h2 => by
    have := h2 x rfl
    simp [this]
  | x :: r, k + 1, h1, h2 => by
    have hx := h1 x (by simp)
    rw [List.takeWhile_cons_of_pos hx, List.take_succ_cons, tw_take r k (fun c hc => h1 c (by simp [hc])) (fun c hc => h2 c (by simpa using hc))]
theorem get_k (s : ByteArray) (k : Nat) (hk : k < s.size) : s.data.toList[k]? = some s[k] := by
  have hk' : k < s.data.toList.length := by rw [Array.length_toList]; exact hk
  rw [List.getElem?_eq_getElem hk']
  rfl
/-- The first k bytes are digits; their number is m. -/
def Got (acc : Nat → UInt8 → Nat) (s : ByteArray) (k m : Nat) : Prop := m = (s.data.toList.take k).foldl acc 0 ∧ ∀ c ∈ s.data.toList.take k, dig c = true
theorem Got.zero (acc : Nat → UInt8 → Nat) (s : ByteArray) : Got acc s 0 0 := ⟨rfl, by simp⟩
theorem Got.step {acc : Nat → UInt8 → Nat} {s : ByteArray} {k m : Nat} (h : Got acc s k m) (hk : k < s.size) (hd : dig s[k] = true) : Got acc s (k + 1) (acc m s[k]) := by
  have e : s.data.toList.take (k + 1) = s.data.toList.take k ++ [s[k]] := by
    rw [List.take_add_one, get_k s k hk]
    rfl
  refine ⟨?_, ?_⟩
  · rw [e, List.foldl_append, ← h.1]
    rfl
  · rw [e]
    intro c hc
    rcases List.mem_append.1 hc with hc | hc
    · exact h.2 c hc
    · rw [List.mem_singleton.1 hc]; exact hd
theorem Got.done {acc : Nat → UInt8 → Nat} {s : ByteArray} {k m : Nat} (h : Got acc s k m) (hks : k ≤ s.size) (hd : ∀ hk : k < s.size, dig s[k] = false) : (pre s).foldl acc 0 = m ∧ (pre s).length = k := by
  have e : pre s = s.data.toList.take k := by
    refine tw_take _ _ h.2 (fun c hc => ?_)
    by_cases hk : k < s.size
    · rw [get_k s k hk] at hc
      cases hc
      exact hd hk
    · rw [List.getElem?_eq_none (by rw [Array.length_toList]; exact Nat.le_of_not_lt hk)] at hc
      cases hc
  rw [e]
  refine ⟨h.1.symm, ?_⟩
  rw [List.length_take, Nat.min_eq_left (by rw [Array.length_toList]; exact hks)]

/-- What readPart answers. -/
def PartA (s : ByteArray) (below : Bool) (w : World) (e : Ending) (w' : World) : Prop :=
  e = .returned (.tuple #[.float .f64 (floatOfInt .f64 (if below then -(numA s : Int) else (numA s : Int))), .string (s.extract (pre s).length s.size), .bool (decide (0 < (pre s).length))]) ∧ ∃ n, w' = w.drewN n
theorem partA_mk {s : ByteArray} {below : Bool} {k m n : Nat} {z : Int} {b : Bool} (w : World) (h : numA s = m ∧ (pre s).length = k) (hz : z = if below then -(m : Int) else (m : Int)) (hb : b = decide (0 < k)) :
    PartA s below w (.returned (.tuple #[.float .f64 (floatOfInt .f64 z), .string (s.extract k s.size), .bool b])) (w.drewN n) := by
  unfold PartA
  rw [h.1, h.2, hz, hb]
  exact ⟨rfl, n, rfl⟩

set_option maxHeartbeats 800000 in
set_option maxRecDepth 1000000 in
theorem readPart (s : ByteArray) (below : Bool) (hs : s.size ≤ 9223372036854775806) (w : World) : Calls Try.prog 48 #[.string s, .bool below] w (PartA s below w) := by
  go_enter Try.func48, Try.ntmps48
  go_wp2
  go_loopg [7, 8] s.size (fun g n i wr => ∃ (m k : Nat), g + k = s.size ∧ n = .int .i64 m ∧ i = .int .i64 k ∧ m ≤ 10485769 ∧ wr = w ∧ Hid (Got accA s k m))
  case atStart => exact ⟨0, 0, rfl, rfl, rfl, by decide, rfl, Got.zero _ _⟩
  case round =>
    obtain ⟨m, k, hg, rfl, rfl, hm, hw, hinv⟩ := hrel
    subst hw
    by_cases hk : k < s.size
    · by_cases hd : dig s[k] = true
      · have hst := hinv.out.step hk hd
        simp only [dig, Bool.and_eq_true, decide_eq_true_eq] at hd
        obtain ⟨d1, d2⟩ := hd
        have d1' : (48 : Int) ≤ (s[k].toNat : Int) := by omega
        have d2' : (s[k].toNat : Int) ≤ 57 := by omega
        by_cases hc : m ≤ 1048576
        · have hc' : (m : Int) ≤ 1048576 := by omega
          have HST : Hid (Got accA s (k + 1) (10 * m + (s[k].toNat - 48))) := by
            rw [accA, if_pos hc] at hst
            exact hst
          clear hst hinv
          go_wp2
          go_roundg (s.size - (k + 1))
          case measure => omega
          case rel => exact ⟨10 * m + (s[k].toNat - 48), k + 1, by omega, by go_num, by go_num, by omega, rfl, HST⟩
        · have hc' : ¬ ((m : Int) ≤ 1048576) := by omega
          have HST : Hid (Got accA s (k + 1) m) := by
            rw [accA, if_neg hc] at hst
            exact hst
          clear hst hinv
          go_wp2
          go_roundg (s.size - (k + 1))
          case measure => omega
          case rel => exact ⟨m, k + 1, by omega, by go_num, by go_num, by omega, rfl, HST⟩
      · have hdn : Hid (numA s = m ∧ (pre s).length = k) := hinv.out.done (by omega) (fun _ => Bool.eq_false_iff.2 hd)
        have hd' : s[k].toNat < 48 ∨ (48 ≤ s[k].toNat ∧ 57 < s[k].toNat) := by
          simp only [dig, Bool.and_eq_true, decide_eq_true_eq] at hd
          omega
        have hks : (k : Int) ≤ (s.size : Int) := by omega
        clear hinv hd
        rcases hd' with d1 | ⟨d1, d2⟩
        · have d1' : ¬ ((48 : Int) ≤ (s[k].toNat : Int)) := by omega
          cases below
          · go_wp2
            go_quiet (fail)
            go_wp2
            go_ret3
            exact partA_mk _ hdn.out rfl rfl
          · go_wp2
            go_quiet (fail)
            go_wp2
            go_ret3
            exact partA_mk _ hdn.out rfl rfl
        · have d1' : (48 : Int) ≤ (s[k].toNat : Int) := by omega
          have d2' : ¬ ((s[k].toNat : Int) ≤ 57) := by omega
          cases below
          · go_wp2
            go_quiet (fail)
            go_wp2
            go_ret3
            exact partA_mk _ hdn.out rfl rfl
          · go_wp2
            go_quiet (fail)
            go_wp2
            go_ret3
            exact partA_mk _ hdn.out rfl rfl
    · have hdn : Hid (numA s = m ∧ (pre s).length = k) := hinv.out.done (by omega) (fun h => absurd h hk)
      have hks : (k : Int) ≤ (s.size : Int) := by omega
      clear hinv
      cases below
      · go_wp2
        go_quiet (fail)
        go_wp2
        go_ret3
        exact partA_mk _ hdn.out rfl rfl
      · go_wp2
        go_quiet (fail)
        go_wp2
        go_ret3
        exact partA_mk _ hdn.out rfl rfl

/-- What the document's part answers. -/
def PartB (s : ByteArray) (w : World) (e : Ending) (w' : World) : Prop :=
  e = .returned (.tuple #[.int .i64 (numB s), .string (s.extract (pre s).length s.size), .bool (decide (0 < (pre s).length))]) ∧ ∃ n, w' = w.drewN n
theorem partB_mk {s : ByteArray} {k m n : Nat} {b : Bool} (w : World) (h : numB s = m ∧ (pre s).length = k) (hb : b = decide (0 < k)) :
    PartB s w (.returned (.tuple #[.int .i64 m, .string (s.extract k s.size), .bool b])) (w.drewN n) := by
  unfold PartB
  rw [h.1, h.2, hb]
  exact ⟨rfl, n, rfl⟩
end Go.Proofs.Ytchfhkfepghfjaa.Num

namespace Go.Proofs.Ytchfhkfepghfjaa.Num
open Go.RowKit Ieee

def minusAhead (s : ByteArray) : Bool := s.data.toList.head? == some 45
def cutS (s : ByteArray) : ByteArray := if minusAhead s then s.extract 1 s.size else s
def right3 (p q : Int) : Int × Int × Bool := if p.natAbs ≤ 1048576 ∧ q.natAbs ≤ 1048576 then (p, q, true) else (0, 0, false)
def sgn (b : Bool) (n : Nat) : Int := if b then -(n : Int) else (n : Int)
def tailW (N : ByteArray → Nat) (p : Int) (m : Bool) (s2 : ByteArray) : Int × Int × Bool :=
  if (pre s2).length = 0 then (0, 0, false) else if ((s2.extract (pre s2).length s2.size).toList == [105]) = true then right3 p (sgn m (N s2)) else (0, 0, false)
def restW (N : ByteArray → Nat) (p : Int) (r : ByteArray) : Int × Int × Bool :=
  if r.toList.isEmpty = true then right3 p 0 else if (r.toList == [105]) = true then right3 0 p
  else if r.data.toList.head? = some 43 then tailW N p false (r.extract 1 r.size) else if r.data.toList.head? = some 45 then tailW N p true (r.extract 1 r.size) else (0, 0, false)
def parseW (N : ByteArray → Nat) (s : ByteArray) : Int × Int × Bool :=
  if (pre (cutS s)).length = 0 then (0, 0, false) else restW N (sgn (minusAhead s) (N (cutS s))) ((cutS s).extract (pre (cutS s)).length (cutS s).size)
def ParseE (r : Int × Int × Bool) (w : World) (e : Ending) (w' : World) : Prop :=
  e = .returned (.tuple #[.complex .f64 (floatOfInt .f64 r.1) (floatOfInt .f64 r.2.1), .bool r.2.2]) ∧ ∃ n, w' = w.drewN n

theorem extract_list (s : ByteArray) (a : Nat) : s.extract a s.size = ⟨(s.data.toList.drop a).toArray⟩ := by
  have := Lib.extract_to_end s a
  apply ByteArray.ext
  apply Array.ext'
  rw [this]
theorem cut (s : ByteArray) (w : World) : Calls Try.prog 47 #[.string s, .string ⟨#[45]⟩] w (Pu (.tuple #[.string (cutS s), .bool (minusAhead s)]) w) := by
  have h := Try.strings_CutPrefix s ⟨#[45]⟩ w
  have e1 : Lib.hasPrefix s.data.toList [45] = minusAhead s := by
    unfold Lib.hasPrefix minusAhead
    cases s.data.toList with
    | nil => rfl
    | cons x r =>
      simp only [List.isPrefixOf, List.head?_cons, Bool.and_true]
      by_cases hx : x = 45
      · subst hx; rfl
      · have h1 : (45 == x) = false := by simpa using fun e => hx e.symm
        rw [h1]
        simpa using hx
  have e2 : (⟨(Lib.trimPrefix s.data.toList [45]).toArray⟩ : ByteArray) = cutS s := by
    unfold Lib.trimPrefix cutS
    rw [e1]
    split
    · rw [extract_list]; rfl
    · rfl
  have e3 : (⟨#[45]⟩ : ByteArray).data.toList = [45] := rfl
  rw [e3, e1, e2] at h
  exact h
theorem extract_size (s : ByteArray) (a : Nat) : (s.extract a s.size).size ≤ s.size := by
  simp only [ByteArray.size_extract]
  omega
theorem cutS_size (s : ByteArray) : (cutS s).size ≤ s.size := by
  unfold cutS
  split
  · exact extract_size s 1
  · exact Nat.le_refl _

theorem fold_le (acc : Nat → UInt8 → Nat) (B : Nat) (hacc : ∀ n c, n ≤ B → dig c = true → acc n c ≤ B) : ∀ (l : List UInt8) (n : Nat), (∀ c ∈ l, dig c = true) → n ≤ B → l.foldl acc n ≤ B
  | [], n, _, h => h
  | x :: r, n, h1, h => fold_le acc B hacc r _ (fun c hc => h1 c (by simp [hc])) (hacc n x h (h1 x (by simp)))
theorem all_pre (s : ByteArray) : ∀ c ∈ pre s, dig c = true := by
  have : ∀ l : List UInt8, ∀ c ∈ l.takeWhile dig, dig c = true := by
    intro l
    induction l with
    | nil => simp
    | cons x r ih =>
      by_cases hx : dig x = true
      · rw [List.takeWhile_cons_of_pos hx]
        intro c hc
        rcases List.mem_cons.1 hc with rfl | hc
        · exact hx
        · exact ih c hc
      · rw [List.takeWhile_cons_of_neg hx]
        simp
  exact this _
theorem dig_le {c : UInt8} (h : dig c = true) : c.toNat - 48 ≤ 9 := by
  simp only [dig, Bool.and_eq_true, decide_eq_true_eq] at h
  omega
theorem numA_le (s : ByteArray) : numA s ≤ 10485769 := fold_le accA _ (fun n c hn hc => by have := dig_le hc; unfold accA; split <;> omega) _ 0 (all_pre s) (by decide)
theorem numB_le (s : ByteArray) : numB s ≤ 10995116277769 := fold_le accB _ (fun n c hn hc => by have := dig_le hc; unfold accB; split <;> omega) _ 0 (all_pre s) (by decide)
/-- The two numbers are the same, or are both too great. -/
theorem numAB (s : ByteArray) : numA s = numB s ∨ (1048576 < numA s ∧ 1048576 < numB s) := by
  have : ∀ (l : List UInt8) (n m : Nat), (n = m ∧ n ≤ 1048576) ∨ (1048576 < n ∧ 1048576 < m) → (l.foldl accA n = l.foldl accB m ∧ l.foldl accA n ≤ 1048576) ∨ (1048576 < l.foldl accA n ∧ 1048576 < l.foldl accB m) := by
    intro l
    induction l with
    | nil => intro n m h; exact h
    | cons x r ih =>
      intro n m h
      refine ih _ _ ?_
      unfold accA accB
      split <;> split <;> omega
  rcases this (pre s) 0 0 (.inl ⟨rfl, by decide⟩) with h | h
  · exact .inl h.1
  · exact .inr h
theorem right3_big (p q : Int) (h : 1048576 < p.natAbs ∨ 1048576 < q.natAbs) : right3 p q = (0, 0, false) := if_neg (by omega)
theorem sgn_abs (b : Bool) (n : Nat) : (sgn b n).natAbs = n := by cases b <;> simp [sgn]
theorem tailAB (p p' : Int) (h : p = p' ∨ (1048576 < p.natAbs ∧ 1048576 < p'.natAbs)) (m : Bool) (s : ByteArray) : tailW numA p m s = tailW numB p' m s := by
  unfold tailW
  split
  · rfl
  split
  · rcases h with rfl | h
    · rcases numAB s with e | e
      · rw [e]
      · rw [right3_big _ _ (.inr (by rw [sgn_abs]; exact e.1)), right3_big _ _ (.inr (by rw [sgn_abs]; exact e.2))]
    · rw [right3_big _ _ (.inl h.1), right3_big _ _ (.inl h.2)]
  · rfl
theorem restAB (p p' : Int) (h : p = p' ∨ (1048576 < p.natAbs ∧ 1048576 < p'.natAbs)) (r : ByteArray) : restW numA p r = restW numB p' r := by
  unfold restW
  split
  · rcases h with rfl | h
    · rfl
    · rw [right3_big _ _ (.inl h.1), right3_big _ _ (.inl h.2)]
  split
  · rcases h with rfl | h
    · rfl
    · rw [right3_big _ _ (.inr h.1), right3_big _ _ (.inr h.2)]
  split
  · exact tailAB p p' h _ _
  split
  · exact tailAB p p' h _ _
  · rfl
theorem parseAB (s : ByteArray) : parseW numA s = parseW numB s := by
  unfold parseW
  split
  · rfl
  · refine restAB _ _ ?_ _
    rcases numAB (cutS s) with e | e
    · rw [e]; exact .inl rfl
    · exact .inr (by rw [sgn_abs, sgn_abs]; exact e)

set_option maxRecDepth 1000000 in
theorem ifRight (p q : Int) (hp : p.natAbs < 9007199254740992) (hq : q.natAbs < 9007199254740992) (w : World) : Calls Try.prog 49 #[.complex .f64 (floatOfInt .f64 p) (floatOfInt .f64 q)] w (ParseE (right3 p q) w) := by
  have f1 := Fl.mk p hp
  have f2 := Fl.mk q hq
  have l1 := fl_lt p
  have l2 := fl_lt q
  by_cases hf : p.natAbs ≤ 1048576 ∧ q.natAbs ≤ 1048576
  · rw [right3, if_pos hf]
    have hR := right_yes _ _ p q l1 l2 ⟨f1, hf.1⟩ ⟨f2, hf.2⟩
    go_enter Try.func49, Try.ntmps49
    go_wp2_with fail
    refine (hR _).mono ?_
    rintro e w1 ⟨rfl, rfl⟩
    go_wp2
    go_ret2
    exact ⟨rfl, 0, rfl⟩
  · rw [right3, if_neg hf]
    have hN : NotRt (floatOfInt .f64 p) ∨ NotRt (floatOfInt .f64 q) := by
      by_cases h : p.natAbs ≤ 1048576
      · exact .inr (not_rt f2 (fun h' => hf ⟨h, h'⟩))
      · exact .inl (not_rt f1 h)
    have hR := right_no _ _ l1 l2 hN
    go_enter Try.func49, Try.ntmps49
    go_wp2_with fail
    refine (hR _).mono ?_
    rintro e w1 ⟨rfl, rfl⟩
    go_wp2
    go_ret2
    exact ⟨by rw [fl_zero]; rfl, 0, rfl⟩
end Go.Proofs.Ytchfhkfepghfjaa.Num

namespace Go.Proofs.Ytchfhkfepghfjaa.Num
open Go.RowKit Ieee

theorem parseE_mk {r : Int × Int × Bool} {w : World} {n m : Nat} {e : Ending} {w' : World} (h : ParseE r (w.drewN n) e w') (hm : m = n) : ParseE r (w.drewN m) e w' := by subst hm; exact h
theorem parseE_on {r : Int × Int × Bool} {w : World} {n : Nat} {e : Ending} {w' : World} (h : ParseE r (w.drewN n) e w') : ParseE r w e w' := by
  obtain ⟨h1, k, h2⟩ := h
  exact ⟨h1, n + k, by rw [h2, World.drewN_drewN]⟩
theorem parseE_zero (w : World) (n : Nat) : ParseE (0, 0, false) w (.returned (.tuple #[.complex .f64 0 0, .bool false])) (w.drewN n) := ⟨by rw [fl_zero], n, rfl⟩
theorem drewN0 (w : World) : w.drewN 0 = w := rfl

theorem quiet_add {P : Program} {f : FuncId} {args : Array Value} {w : World} {n x : Nat} {v : Value} (h : Calls P f args (w.drewN (n + x)) fun e w' => e = .returned v ∧ ∃ m, w' = (w.drewN (n + x)).drewN m) :
    Calls P f args (w.drewN (n + x)) fun e w'' => e = .returned v ∧ ∃ m, w'' = w.drewN (n + m) :=
  h.mono fun _ _ ⟨he, m, hm⟩ => ⟨he, x + m, by rw [hm, World.drewN_drewN, Nat.add_assoc]⟩

theorem head_at (r : ByteArray) (h : 0 < r.size) : r.data.toList.head? = some r[0] := by
  rw [List.head?_eq_getElem?]
  exact get_k r 0 h
theorem empty_size (r : ByteArray) (h : r.toList.isEmpty = false) : 0 < r.size := by
  rw [ByteArray.toList_eq] at h
  have : r.data.toList ≠ [] := by intro e; rw [e] at h; cases h
  have h2 := List.length_pos_iff.2 this
  rw [Array.length_toList] at h2
  exact h2

set_option maxHeartbeats 800000 in
set_option maxRecDepth 1000000 in
theorem parse_none (s : ByteArray) (hs : s.size ≤ 9223372036854775806) (hk : (pre (cutS s)).length = 0) (w : World) : Calls Try.prog 32 #[.string s] w (ParseE (0, 0, false) w) := by
  have hc := cut s
  have hr := readPart (cutS s) (minusAhead s) (Nat.le_trans (cutS_size s) hs)
  have hb : decide (0 < (pre (cutS s)).length) = false := by simp [hk]
  unfold PartA at hr
  rw [hb] at hr
  generalize cutS s = s1 at *
  generalize minusAhead s = b at *
  generalize floatOfInt .f64 (if b then -(numA s1 : Int) else (numA s1 : Int)) = x at *
  generalize s1.extract (pre s1).length s1.size = r at *
  clear hk hb
  go_enter Try.func32, Try.ntmps32
  go_wp2_with fail
  refine (hc _).mono ?_
  rintro e w1 ⟨rfl, rfl⟩
  go_wp2_with fail
  refine (hr _).mono ?_
  rintro e w2 ⟨rfl, n, rfl⟩
  go_wp2
  go_ret2
  exact parseE_zero _ _

set_option maxHeartbeats 800000 in
set_option maxRecDepth 1000000 in
theorem parse_some (s : ByteArray) (hs : s.size ≤ 9223372036854775806) (hk : (pre (cutS s)).length ≠ 0) (w : World) :
    Calls Try.prog 32 #[.string s] w (ParseE (restW numA (sgn (minusAhead s) (numA (cutS s))) ((cutS s).extract (pre (cutS s)).length (cutS s).size)) w) := by
  have hc := cut s
  have hr := readPart (cutS s) (minusAhead s) (Nat.le_trans (cutS_size s) hs)
  have hb : decide (0 < (pre (cutS s)).length) = true := by simp; omega
  have hN := numA_le (cutS s)
  have hsz : ((cutS s).extract (pre (cutS s)).length (cutS s).size).size ≤ 9223372036854775806 := Nat.le_trans (extract_size _ _) (Nat.le_trans (cutS_size s) hs)
  have hsg : (if minusAhead s then -(numA (cutS s) : Int) else (numA (cutS s) : Int)) = sgn (minusAhead s) (numA (cutS s)) := rfl
  have hpa := sgn_abs (minusAhead s) (numA (cutS s))
  unfold PartA at hr
  rw [hb, hsg] at hr
  clear hb hk hsg
  generalize sgn (minusAhead s) (numA (cutS s)) = p at *
  generalize (cutS s).extract (pre (cutS s)).length (cutS s).size = r at *
  generalize cutS s = s1 at *
  generalize minusAhead s = b at *
  have i1 := ifRight p 0 (by omega) (by decide)
  have i2 := ifRight 0 p (by decide) (by omega)
  rw [fl_zero] at i1 i2
  unfold restW
  by_cases h1 : r.toList.isEmpty = true
  · rw [if_pos h1]
    clear i2
    generalize floatOfInt .f64 p = x at *
    go_enter Try.func32, Try.ntmps32
    go_wp2_with fail
    refine (hc _).mono ?_
    rintro e w1 ⟨rfl, rfl⟩
    go_wp2_with fail
    refine (hr _).mono ?_
    rintro e w2 ⟨rfl, n, rfl⟩
    go_wp2_with fail
    refine (i1 _).mono ?_
    rintro e w2 ⟨rfl, n2, rfl⟩
    go_wp2
    go_ret2
    exact ⟨rfl, n + n2, rfl⟩
  rw [if_neg h1]
  have h1' := Bool.eq_false_iff.2 h1
  have hp := empty_size r h1'
  have hp1 : (1 : Int) ≤ (r.size : Int) := by omega
  have hp0 : (0 : Int) < (r.size : Int) := by omega
  clear h1 i1
  by_cases h2 : (r.toList == [105]) = true
  · rw [if_pos h2]
    generalize floatOfInt .f64 p = x at *
    go_enter Try.func32, Try.ntmps32
    go_wp2_with fail
    refine (hc _).mono ?_
    rintro e w1 ⟨rfl, rfl⟩
    go_wp2_with fail
    refine (hr _).mono ?_
    rintro e w2 ⟨rfl, n, rfl⟩
    go_wp2_with fail
    refine (i2 _).mono ?_
    rintro e w2 ⟨rfl, n2, rfl⟩
    go_wp2
    go_ret2
    exact ⟨rfl, n + n2, rfl⟩
  rw [if_neg h2]
  have h2' := Bool.eq_false_iff.2 h2
  clear h2 i2
  rw [head_at r hp]
  have hx : (r.extract 1 r.size).size ≤ 9223372036854775806 := Nat.le_trans (extract_size _ _) hsz
  generalize hy : r.extract 1 r.size = r2 at *
  by_cases h3 : r[0] = 43
  · rw [if_pos (by rw [h3])]
    have hcc : (r[0].toNat : Int) = 43 := by rw [h3]; rfl
    have hr2 := readPart r2 false hx
    have hN2 := numA_le r2
    have hpb := sgn_abs false (numA r2)
    have hsg : (if false = true then -(numA r2 : Int) else (numA r2 : Int)) = sgn false (numA r2) := rfl
    unfold PartA at hr2
    rw [hsg] at hr2
    clear hsg
    unfold tailW
    generalize sgn false (numA r2) = q at *
    generalize r2.extract (pre r2).length r2.size = r3 at *
    clear h3
    by_cases hk2 : (pre r2).length = 0
    · have hb2 : decide (0 < (pre r2).length) = false := by simp [hk2]
      rw [hb2] at hr2
      rw [if_pos hk2]
      clear hb2 hk2 hN2 hpb
      generalize floatOfInt .f64 p = x at *
      generalize floatOfInt .f64 q = y at *
      go_enter Try.func32, Try.ntmps32
      go_wp2_with fail
      refine (hc _).mono ?_
      rintro e w1 ⟨rfl, rfl⟩
      go_wp2_with fail
      refine (hr _).mono ?_
      rintro e w2 ⟨rfl, n, rfl⟩
      go_wp2
      go_quiet ((go_at_call 48; refine quiet_add (hr2 _)))
      go_wp2
      go_ret2
      exact parseE_zero _ _
    have hb2 : decide (0 < (pre r2).length) = true := by simp; omega
    rw [hb2] at hr2
    rw [if_neg hk2]
    clear hb2 hk2
    by_cases h5 : (r3.toList == [105]) = true
    · rw [if_pos h5]
      have i3 := ifRight p q (by omega) (by omega)
      generalize floatOfInt .f64 p = x at *
      generalize floatOfInt .f64 q = y at *
      go_enter Try.func32, Try.ntmps32
      go_wp2_with fail
      refine (hc _).mono ?_
      rintro e w1 ⟨rfl, rfl⟩
      go_wp2_with fail
      refine (hr _).mono ?_
      rintro e w2 ⟨rfl, n, rfl⟩
      go_wp2
      go_quiet ((go_at_call 48; refine quiet_add (hr2 _)))
      go_wp2_with fail
      refine (i3 _).mono ?_
      rintro e w2 ⟨rfl, n2, rfl⟩
      go_wp2
      go_ret2
      exact ⟨rfl, _, rfl⟩
    · rw [if_neg h5]
      have h5' := Bool.eq_false_iff.2 h5
      clear h5
      generalize floatOfInt .f64 p = x at *
      generalize floatOfInt .f64 q = y at *
      go_enter Try.func32, Try.ntmps32
      go_wp2_with fail
      refine (hc _).mono ?_
      rintro e w1 ⟨rfl, rfl⟩
      go_wp2_with fail
      refine (hr _).mono ?_
      rintro e w2 ⟨rfl, n, rfl⟩
      go_wp2
      go_quiet ((go_at_call 48; refine quiet_add (hr2 _)))
      go_wp2
      go_ret2
      exact parseE_zero _ _
  rw [if_neg (by simpa using h3)]
  by_cases h4 : r[0] = 45
  · rw [if_pos (by rw [h4])]
    have hcc : (r[0].toNat : Int) = 45 := by rw [h4]; rfl
    have hr2 := readPart r2 true hx
    have hN2 := numA_le r2
    have hpb := sgn_abs true (numA r2)
    have hsg : (if true = true then -(numA r2 : Int) else (numA r2 : Int)) = sgn true (numA r2) := rfl
    unfold PartA at hr2
    rw [hsg] at hr2
    clear hsg
    unfold tailW
    generalize sgn true (numA r2) = q at *
    generalize r2.extract (pre r2).length r2.size = r3 at *
    clear h3 h4
    by_cases hk2 : (pre r2).length = 0
    · have hb2 : decide (0 < (pre r2).length) = false := by simp [hk2]
      rw [hb2] at hr2
      rw [if_pos hk2]
      clear hb2 hk2 hN2 hpb
      generalize floatOfInt .f64 p = x at *
      generalize floatOfInt .f64 q = y at *
      go_enter Try.func32, Try.ntmps32
      go_wp2_with fail
      refine (hc _).mono ?_
      rintro e w1 ⟨rfl, rfl⟩
      go_wp2_with fail
      refine (hr _).mono ?_
      rintro e w2 ⟨rfl, n, rfl⟩
      go_wp2
      go_quiet ((go_at_call 48; refine quiet_add (hr2 _)))
      go_wp2
      go_ret2
      exact parseE_zero _ _
    have hb2 : decide (0 < (pre r2).length) = true := by simp; omega
    rw [hb2] at hr2
    rw [if_neg hk2]
    clear hb2 hk2
    by_cases h5 : (r3.toList == [105]) = true
    · rw [if_pos h5]
      have i3 := ifRight p q (by omega) (by omega)
      generalize floatOfInt .f64 p = x at *
      generalize floatOfInt .f64 q = y at *
      go_enter Try.func32, Try.ntmps32
      go_wp2_with fail
      refine (hc _).mono ?_
      rintro e w1 ⟨rfl, rfl⟩
      go_wp2_with fail
      refine (hr _).mono ?_
      rintro e w2 ⟨rfl, n, rfl⟩
      go_wp2
      go_quiet ((go_at_call 48; refine quiet_add (hr2 _)))
      go_wp2_with fail
      refine (i3 _).mono ?_
      rintro e w2 ⟨rfl, n2, rfl⟩
      go_wp2
      go_ret2
      exact ⟨rfl, _, rfl⟩
    · rw [if_neg h5]
      have h5' := Bool.eq_false_iff.2 h5
      clear h5
      generalize floatOfInt .f64 p = x at *
      generalize floatOfInt .f64 q = y at *
      go_enter Try.func32, Try.ntmps32
      go_wp2_with fail
      refine (hc _).mono ?_
      rintro e w1 ⟨rfl, rfl⟩
      go_wp2_with fail
      refine (hr _).mono ?_
      rintro e w2 ⟨rfl, n, rfl⟩
      go_wp2
      go_quiet ((go_at_call 48; refine quiet_add (hr2 _)))
      go_wp2
      go_ret2
      exact parseE_zero _ _
  rw [if_neg (by simpa using h4)]
  have h3' : ((r[0].toNat : Int) != 43) = true := by
    have : r[0].toNat ≠ 43 := fun e => h3 (UInt8.toNat_inj.1 (by rw [e]; rfl))
    simp; omega
  have h4' : ((r[0].toNat : Int) != 45) = true := by
    have : r[0].toNat ≠ 45 := fun e => h4 (UInt8.toNat_inj.1 (by rw [e]; rfl))
    simp; omega
  clear h3 h4
  generalize floatOfInt .f64 p = x at *
  go_enter Try.func32, Try.ntmps32
  go_wp2_with fail
  refine (hc _).mono ?_
  rintro e w1 ⟨rfl, rfl⟩
  go_wp2_with fail
  refine (hr _).mono ?_
  rintro e w2 ⟨rfl, n, rfl⟩
  go_wp2
  go_ret2
  exact parseE_zero _ _

theorem parse (s : ByteArray) (hs : s.size ≤ 9223372036854775806) (w : World) : Calls Try.prog 32 #[.string s] w (ParseE (parseW numA s) w) := by
  unfold parseW
  split
  · rename_i h; exact parse_none s hs h w
  · rename_i h; exact parse_some s hs h w
end Go.Proofs.Ytchfhkfepghfjaa.Num
