/-
  Whole numbers as floats: what reading, writing, sums, products and orders of such floats give, and which floats are whole parts.
  And: What the package's Right says of a number, part by part; the parts without a nought below. The package's Two and One: what each call answers, by the whole numbers that its arguments are. The package's One, Less and Index: what each call answers. The document's own answers: Parts, made, Two, One, Less, Index: what each call answers. The document's own answers, on: One, Less, Index. The package's Text and the document's: what each call answers. The document's digits and Text: what each call answers. Digits at a text's beginning: the package's readPart and the document's part. The package's Parse and the document's: what each call answers. The package's Parse: its walk. The document's Parse: its walk.
-/
import Derived.Laws.ComplexArith
import Derived.Test.YtcokihblicgbpaaChecked
import Derived.WalkKit
import Derived.WalkSpells
import Derived.WalkLawsBesides
import Derived.WalkMore
import Derived.Deep.QuietTactic
import Derived.BigQuiet
import Derived.Laws.Externs
import Derived.Deep.Upon
import Derived.Outline
import Derived.Laws.DeepBits32
import Derived.Test.YtcokihblicgbpaaShelf
import Derived.Lib.SmallJoins
import Derived.Lib.ItoaLen
import Derived.Deep.LoopGhost
import Derived.Lib.IndexBytes
namespace Go.Proofs.Ytcokihblicgbpaa.Num
open Ieee

theorem shl_add (m a b : Nat) : m <<< (a + b) = (m <<< a) * 2 ^ b := by
  rw [Nat.shiftLeft_eq, Nat.shiftLeft_eq, Nat.pow_add, Nat.mul_assoc]
theorem signed_add (s : Bool) (m a b : Nat) : signed s m (a + b) = signed s m a * 2 ^ b := by
  unfold signed
  rw [shl_add]
  split
  · rw [Int.natCast_mul, Int.neg_mul]; congr 2
  · rw [Int.natCast_mul]; congr 1
theorem pow_pos (k : Nat) : (0 : Int) < 2 ^ k := Int.pow_pos (by decide)

/-- A datum that is the whole number n. -/
def Is (d : Datum) (n : Int) : Prop := ∃ (s : Bool) (m : Nat) (i : Int) (k : Nat), d = .number s m i ∧ 0 ≤ i + k ∧ signed s m (i + k).toNat = n * 2 ^ k

theorem Is.at {s : Bool} {m : Nat} {i n : Int} (h : Is (.number s m i) n) (k : Nat) (hk : 0 ≤ i + k) : signed s m (i + k).toNat = n * 2 ^ k := by
  obtain ⟨s', m', i', k0, e, h0, h1⟩ := h
  cases e
  have e1 := signed_add s m (i + k).toNat k0
  have e2 := signed_add s m (i + k0).toNat k
  have e3 : (i + k).toNat + k0 = (i + k0).toNat + k := by omega
  rw [e3, e2, h1] at e1
  refine Int.eq_of_mul_eq_mul_right (Int.ne_of_gt (pow_pos k0)) ?_
  rw [← e1, Int.mul_assoc, Int.mul_assoc, Int.mul_comm (2 ^ k0)]
theorem Is.mk {s : Bool} {m : Nat} {i n : Int} (k : Nat) (hk : 0 ≤ i + k) (h : signed s m (i + k).toNat = n * 2 ^ k) : Is (.number s m i) n := ⟨s, m, i, k, rfl, hk, h⟩
theorem Is.num {d : Datum} {n : Int} (h : Is d n) : ∃ s m i, d = .number s m i := by
  obtain ⟨s, m, i, _, e, _⟩ := h
  exact ⟨s, m, i, e⟩
theorem Is.uniq {d : Datum} {a b : Int} (ha : Is d a) (hb : Is d b) : a = b := by
  obtain ⟨s, m, i, k, rfl, h0, h1⟩ := ha
  have h2 := hb.at k h0
  exact Int.eq_of_mul_eq_mul_right (Int.ne_of_gt (pow_pos k)) (h1.symm.trans h2)

theorem cmp_mul (a b : Int) (k : Nat) : compare (a * 2 ^ k) (b * 2 ^ k) = compare a b := by
  have hp := pow_pos k
  rcases Int.lt_trichotomy a b with h | h | h
  · rw [Int.compare_eq_lt.2 h, Int.compare_eq_lt.2 (Int.mul_lt_mul_of_pos_right h hp)]
  · subst h; simp
  · rw [Int.compare_eq_gt.2 h, Int.compare_eq_gt.2 (Int.mul_lt_mul_of_pos_right h hp)]

theorem order_at {s t : Bool} {m n : Nat} {i j : Int} (k : Nat) (hi : 0 ≤ i + k) (hj : 0 ≤ j + k) : Datum.order (.number s m i) (.number t n j) = some (compare (signed s m (i + k).toNat) (signed t n (j + k).toNat)) := by
  have e1 : (i + k).toNat = (i - min i j).toNat + (min i j + k).toNat := by omega
  have e2 : (j + k).toNat = (j - min i j).toNat + (min i j + k).toNat := by omega
  rw [e1, e2, signed_add, signed_add, cmp_mul]
  rfl
theorem big2 (i j : Int) : ∃ k : Nat, 0 ≤ i + k ∧ 0 ≤ j + k := ⟨i.natAbs + j.natAbs, by omega, by omega⟩
theorem Is.order {d e : Datum} {a b : Int} (hd : Is d a) (he : Is e b) : d.order e = some (compare a b) := by
  obtain ⟨s, m, i, rfl⟩ := hd.num
  obtain ⟨t, n, j, rfl⟩ := he.num
  obtain ⟨k, h1, h2⟩ := big2 i j
  rw [order_at k h1 h2, hd.at k h1, he.at k h2, cmp_mul]
/-- Against a whole number it counts alone which one it is. -/
theorem Is.order_same {d e e' : Datum} {v : Int} (he : Is e v) (he' : Is e' v) : d.order e = d.order e' := by
  obtain ⟨t, n, j, rfl⟩ := he.num
  obtain ⟨t', n', j', rfl⟩ := he'.num
  cases d with
  | nan _ _ => rfl
  | infinity _ => rfl
  | number s m i =>
    let k : Nat := i.natAbs + j.natAbs + j'.natAbs
    have h1 : 0 ≤ i + (k : Int) := by omega
    have h2 : 0 ≤ j + (k : Int) := by omega
    have h3 : 0 ≤ j' + (k : Int) := by omega
    rw [order_at k h1 h2, order_at k h1 h3, he.at k h2, he'.at k h3]
theorem Is.of_order {d e : Datum} {v : Int} (he : Is e v) (h : d.order e = some .eq) : Is d v := by
  obtain ⟨t, n, j, rfl⟩ := he.num
  cases d with
  | nan _ _ => cases h
  | infinity s => cases s <;> simp [Datum.order] at h
  | number s m i =>
    obtain ⟨k, h1, h2⟩ := big2 i j
    rw [order_at k h1 h2, he.at k h2, Option.some.injEq, Int.compare_eq_eq] at h
    exact Is.mk k h1 h

theorem Is.sum {d e : Datum} {a b : Int} (hd : Is d a) (he : Is e b) : ∃ r, d.sum e = some r ∧ Is r (a + b) := by
  obtain ⟨s, m, i, rfl⟩ := hd.num
  obtain ⟨t, n, j, rfl⟩ := he.num
  obtain ⟨k, h1, h2⟩ := big2 i j
  refine ⟨_, rfl, ?_⟩
  refine Is.mk k (by omega) ?_
  have e1 : (i + k).toNat = (i - min i j).toNat + (min i j + k).toNat := by omega
  have e2 : (j + k).toNat = (j - min i j).toNat + (min i j + k).toNat := by omega
  have g1 := hd.at k h1
  have g2 := he.at k h2
  rw [e1, signed_add] at g1
  rw [e2, signed_add] at g2
  have hz : ∀ x : Int, signed (if x = 0 then s && t else decide (x < 0)) x.natAbs (min i j + k).toNat = x * 2 ^ (min i j + (k : Int)).toNat := by
    intro x
    have e0 := signed_add (if x = 0 then s && t else decide (x < 0)) x.natAbs 0 (min i j + k).toNat
    rw [Nat.zero_add] at e0
    rw [e0]
    congr 1
    unfold signed
    simp only [Nat.shiftLeft_zero]
    by_cases hx : x = 0
    · subst hx; cases s <;> cases t <;> simp
    · rw [if_neg hx]
      by_cases hn : x < 0
      · simp [hn]; omega
      · simp [hn]; omega
  rw [hz, Int.add_mul, Int.add_mul, g1, g2]
theorem Is.product {d e : Datum} {a b : Int} (hd : Is d a) (he : Is e b) : ∃ r, d.product e = some r ∧ Is r (a * b) := by
  obtain ⟨s, m, i, rfl⟩ := hd.num
  obtain ⟨t, n, j, rfl⟩ := he.num
  obtain ⟨k, h1, h2⟩ := big2 i j
  refine ⟨_, rfl, ?_⟩
  refine Is.mk (k + k) (by omega) ?_
  have g1 := hd.at k h1
  have g2 := he.at k h2
  have e : (i + j + ((k + k : Nat) : Int)).toNat = (i + k).toNat + (j + k).toNat := by omega
  have hm : signed (s ^^ t) (m * n) ((i + k).toNat + (j + k).toNat) = signed s m (i + k).toNat * signed t n (j + k).toNat := by
    generalize (i + (k : Int)).toNat = x
    generalize (j + (k : Int)).toNat = y
    have h : (m * n) <<< (x + y) = (m <<< x) * (n <<< y) := by
      simp only [Nat.shiftLeft_eq, Nat.pow_add]
      rw [Nat.mul_mul_mul_comm]
    unfold signed
    rw [h]
    generalize m <<< x = p
    generalize n <<< y = q
    cases s <;> cases t <;> simp [Int.neg_mul, Int.mul_neg]
  rw [e, hm, g1, g2, Int.pow_add]
  generalize (2 : Int) ^ k = z
  simp [Int.mul_comm, Int.mul_left_comm]
theorem Is.opposite {d : Datum} {a : Int} (hd : Is d a) : Is d.opposite (-a) := by
  obtain ⟨s, m, i, k, rfl, h1, h2⟩ := hd
  refine Is.mk k h1 ?_
  rw [Int.neg_mul, ← h2]
  unfold signed
  cases s <;> simp

/-! ### Writing -/

theorem log2_mul (a k : Nat) (h : a ≠ 0) : (a * 2 ^ k).log2 = a.log2 + k := by
  have hp : 0 < 2 ^ k := Nat.two_pow_pos k
  have h1 := (Nat.log2_eq_iff h).1 rfl
  rw [Nat.log2_eq_iff (Nat.mul_ne_zero h (by omega))]
  refine ⟨?_, ?_⟩
  · rw [Nat.pow_add]; exact Nat.mul_le_mul_right _ h1.1
  · rw [show a.log2 + k + 1 = (a.log2 + 1) + k by omega, Nat.pow_add]; exact Nat.mul_lt_mul_of_pos_right h1.2 hp

theorem cut_exact (neg : Bool) (a k : Nat) (h : a ≠ 0) : Toward.even.cut neg (a * 2 ^ k) k = a := by
  have hp : 0 < 2 ^ k := Nat.two_pow_pos k
  unfold Toward.cut
  have hm : min k ((a * 2 ^ k).log2 + 2) = k := by rw [log2_mul a k h]; omega
  simp only [hm, Nat.shiftLeft_eq, Nat.one_mul, Nat.mul_mod_left, Nat.mul_div_cancel a hp]
  simp

/-- Where the word of a whole number N lies: 0 < N < 2^53. -/
def rung (N : Nat) : Nat := (N.log2 + 1022) * 4503599627370496 + N * 2 ^ (52 - N.log2)

theorem log2_le (N : Nat) (h0 : 0 < N) (h1 : N < 9007199254740992) : N.log2 ≤ 52 := by
  have : N.log2 < 53 := (Nat.log2_lt (by omega)).2 (by simpa using h1)
  omega
theorem rung_mant (N : Nat) (h0 : 0 < N) (h1 : N < 9007199254740992) : 4503599627370496 ≤ N * 2 ^ (52 - N.log2) ∧ N * 2 ^ (52 - N.log2) < 9007199254740992 := by
  have hl := log2_le N h0 h1
  have h := (Nat.log2_eq_iff (n := N) (by omega)).1 rfl
  have e : 2 ^ N.log2 * 2 ^ (52 - N.log2) = 4503599627370496 := by rw [← Nat.pow_add, show N.log2 + (52 - N.log2) = 52 by omega]
  have e2 : 2 ^ (N.log2 + 1) * 2 ^ (52 - N.log2) = 9007199254740992 := by rw [← Nat.pow_add, show N.log2 + 1 + (52 - N.log2) = 53 by omega]
  refine ⟨?_, ?_⟩
  · rw [← e]; exact Nat.mul_le_mul_right _ h.1
  · rw [← e2]; exact Nat.mul_lt_mul_of_pos_right h.2 (Nat.two_pow_pos _)

theorem pow_eq (m a b c d : Nat) (h : a + b = c + d) : m * 2 ^ a * 2 ^ b = m * 2 ^ c * 2 ^ d := by
  rw [Nat.mul_assoc, Nat.mul_assoc, ← Nat.pow_add, ← Nat.pow_add, h]
theorem nearest_exact (neg : Bool) (mag N : Nat) (place : Int) (h0 : 0 < N) (h1 : N < 9007199254740992) (k : Nat) (hk : 0 ≤ place + k) (h : mag * 2 ^ (place + k).toNat = N * 2 ^ k) : double.nearest neg mag place = double.word neg (rung N) := by
  have hl := log2_le N h0 h1
  have hm0 : mag ≠ 0 := by
    rintro rfl
    have hp := Nat.two_pow_pos k
    rw [Nat.zero_mul] at h
    have := Nat.mul_pos h0 hp
    omega
  have hlog : (mag.log2 : Int) + place = N.log2 := by
    have e := congrArg Nat.log2 h
    rw [log2_mul _ _ hm0, log2_mul _ _ (by omega)] at e
    omega
  have elp : double.leastPlace = -1074 := by decide
  have ebi : double.binade = 4503599627370496 := by decide
  have einf : double.infRung = 9218868437227405312 := by decide
  have hfb : double.fractionBits = 52 := rfl
  have hlast : max (place + mag.log2 - double.fractionBits) double.leastPlace = (N.log2 : Int) - 52 := by rw [elp, hfb]; omega
  unfold Format.nearest
  rw [if_neg hm0]
  simp only [hlast]
  have hkept : Toward.even.cut neg (mag <<< (place - ((N.log2 : Int) - 52)).toNat) ((N.log2 : Int) - 52 - place).toNat = N * 2 ^ (52 - N.log2) := by
    by_cases hp : (N.log2 : Int) - 52 ≤ place
    · have e0 : ((N.log2 : Int) - 52 - place).toNat = 0 := by omega
      have e1 := cut_exact neg (mag <<< (place - ((N.log2 : Int) - 52)).toNat) 0 (by rw [Nat.shiftLeft_eq]; exact Nat.mul_ne_zero hm0 (by have := Nat.two_pow_pos (place - ((N.log2 : Int) - 52)).toNat; omega))
      rw [Nat.pow_zero, Nat.mul_one] at e1
      rw [e0, e1, Nat.shiftLeft_eq]
      refine Nat.eq_of_mul_eq_mul_right (Nat.two_pow_pos (k + 52)) ?_
      rw [pow_eq mag _ _ (place + k).toNat (52 + (52 - N.log2)) (by omega), h]
      exact pow_eq N _ _ _ _ (by omega)
    · have e0 : (place - ((N.log2 : Int) - 52)).toNat = 0 := by omega
      have e1 : mag = N * 2 ^ (52 - N.log2) * 2 ^ ((N.log2 : Int) - 52 - place).toNat := by
        refine Nat.eq_of_mul_eq_mul_right (Nat.two_pow_pos (place + k).toNat) ?_
        rw [h, Nat.mul_assoc, Nat.mul_assoc, ← Nat.pow_add, ← Nat.pow_add, show 52 - N.log2 + (((N.log2 : Int) - 52 - place).toNat + (place + k).toNat) = k by omega]
      rw [e0, Nat.shiftLeft_zero]
      generalize ((N.log2 : Int) - 52 - place).toNat = q at e1 ⊢
      rw [e1]
      exact cut_exact neg _ q (Nat.mul_ne_zero (by omega) (by have := Nat.two_pow_pos (52 - N.log2); omega))
  rw [hkept, elp, ebi, einf]
  have hr := rung_mant N h0 h1
  have e3 : ((N.log2 : Int) - 52 - -1074).toNat = N.log2 + 1022 := by omega
  rw [e3, Nat.min_eq_left (by omega)]
  rfl

theorem read_rung (neg : Bool) (N : Nat) (h0 : 0 < N) (h1 : N < 9007199254740992) : double.read (double.word neg (rung N)) = .number neg (N * 2 ^ (52 - N.log2)) ((N.log2 : Int) - 52) := by
  have hl := log2_le N h0 h1
  have hr := rung_mant N h0 h1
  have elp : double.leastPlace = -1074 := by decide
  have ebi : double.binade = 4503599627370496 := by decide
  have einf : double.infRung = 9218868437227405312 := by decide
  have esw : double.signWeight = 9223372036854775808 := by decide
  have hlt : rung N < 9218868437227405312 := by unfold rung; omega
  have hneg : (double.word neg (rung N) / 9223372036854775808 % 2 == 1) = neg := by
    unfold Format.word
    rw [esw]
    cases neg <;> simp <;> omega
  have hmod : double.word neg (rung N) % 9223372036854775808 = rung N := by
    unfold Format.word
    rw [esw]
    cases neg <;> simp <;> omega
  unfold Format.read
  simp only [esw, ebi, einf, elp, hneg, hmod]
  rw [if_neg (by unfold rung; omega), if_pos hlt]
  have e : rung N = (N.log2 + 1022) * 4503599627370496 + N * 2 ^ (52 - N.log2) := rfl
  generalize N * 2 ^ (52 - N.log2) = M at e hr ⊢
  generalize rung N = R at e ⊢
  have q1 : R / 4503599627370496 = N.log2 + 1023 := by omega
  have q2 : R % 4503599627370496 = M - 4503599627370496 := by omega
  have q3 : 4503599627370496 + (M - 4503599627370496) = M := by omega
  have q4 : (-1074 : Int) + ((N.log2 + 1023 - 1 : Nat) : Int) = (N.log2 : Int) - 52 := by omega
  rw [q1, q2, q3, q4]

/-- The word of a whole number below 2^53, or of a nought of either sign. -/
theorem write_is {d : Datum} {n : Int} (hd : Is d n) (hn : n ≠ 0) (h1 : n.natAbs < 9007199254740992) : double.write d = double.word (n < 0) (rung n.natAbs) := by
  obtain ⟨s, m, i, k, rfl, h2, h3⟩ := hd
  have hp := pow_pos k
  have hs : s = decide (n < 0) := by
    have hsg : ∀ x : Nat, (if s then -(x : Int) else x) = n * 2 ^ k → s = decide (n < 0) := by
      intro x hx
      cases s
      · simp only [Bool.false_eq_true, if_false] at hx
        by_cases h : n < 0
        · have := Int.mul_neg_of_neg_of_pos h hp
          omega
        · simp [h]
      · simp only [if_true] at hx
        by_cases h : n < 0
        · simp [h]
        · have := Int.mul_pos (show 0 < n by omega) hp
          omega
    exact hsg _ h3
  have hmag : m * 2 ^ (i + k).toNat = n.natAbs * 2 ^ k := by
    have e := congrArg Int.natAbs h3
    rw [Int.natAbs_mul, Int.natAbs_pow] at e
    have e2 : (signed s m (i + k).toNat).natAbs = m * 2 ^ (i + k).toNat := by
      unfold signed
      rw [Nat.shiftLeft_eq]
      split
      · rw [Int.natAbs_neg, Int.natAbs_natCast]
      · rw [Int.natAbs_natCast]
    rw [e2] at e
    exact e
  rw [← hs]
  exact nearest_exact s m n.natAbs i (by omega) h1 k h2 hmag
theorem write_zero {d : Datum} (hd : Is d 0) : ∃ s, double.write d = double.word s 0 ∧ d.neg = s := by
  obtain ⟨s, m, i, k, rfl, h2, h3⟩ := hd
  have hm : m = 0 := by
    have e : (m <<< (i + k).toNat : Nat) = 0 := by
      unfold signed at h3
      rw [Int.zero_mul] at h3
      split at h3 <;> omega
    rw [Nat.shiftLeft_eq] at e
    rcases Nat.mul_eq_zero.1 e with h | h
    · exact h
    · exact absurd h (Nat.ne_of_gt (Nat.two_pow_pos _))
  subst hm
  exact ⟨s, rfl, rfl⟩

/-- A whole number's float. -/
theorem fl_word (n : Int) (hn : n ≠ 0) (h1 : n.natAbs < 9007199254740992) : floatOfInt .f64 n = double.word (n < 0) (rung n.natAbs) := by
  have h : Is (.number (n < 0) n.natAbs 0) n := Is.mk 0 (by simp) (by
    unfold signed
    by_cases h : n < 0 <;> simp [h] <;> omega)
  exact write_is h hn h1
theorem fl_zero : floatOfInt .f64 0 = 0 := by decide
theorem read_zero (s : Bool) : double.read (double.word s 0) = .number s 0 (-1074) := by cases s <;> decide
theorem is_zero (s : Bool) (i : Int) : Is (.number s 0 i) 0 := by
  refine Is.mk i.natAbs (by omega) ?_
  unfold signed
  rw [Nat.zero_shiftLeft, Int.zero_mul]
  cases s <;> rfl
/-- It is read as the number. -/
theorem read_fl (n : Int) (h1 : n.natAbs < 9007199254740992) : Is (double.read (floatOfInt .f64 n)) n := by
  by_cases hn : n = 0
  · subst hn
    rw [fl_zero, show (0 : Nat) = double.word false 0 from rfl, read_zero]
    exact is_zero _ _
  · rw [fl_word n hn h1, read_rung _ _ (by omega) h1]
    have hl := log2_le n.natAbs (by omega) h1
    refine Is.mk (52 - n.natAbs.log2) (by omega) ?_
    have e : ((n.natAbs.log2 : Int) - 52 + ((52 - n.natAbs.log2 : Nat) : Int)).toNat = 0 := by omega
    rw [e]
    unfold signed
    rw [Nat.shiftLeft_zero, Int.natCast_mul]
    have e2 : ((2 ^ (52 - n.natAbs.log2) : Nat) : Int) = 2 ^ (52 - n.natAbs.log2) := by simp
    rw [e2]
    by_cases h : n < 0
    · rw [if_pos (by simpa using h), ← Int.neg_mul]
      congr 1
      omega
    · rw [if_neg (by simpa using h)]
      congr 1
      omega
/-- What is written of a datum that is a whole number is read as that number. -/
theorem read_write {d : Datum} {n : Int} (hd : Is d n) (h1 : n.natAbs < 9007199254740992) : Is (double.read (double.write d)) n := by
  by_cases hn : n = 0
  · subst hn
    obtain ⟨s, e, _⟩ := write_zero hd
    rw [e, read_zero]
    exact is_zero _ _
  · rw [write_is hd hn h1, ← fl_word n hn h1]
    exact read_fl n h1

/-- A float that is the whole number n. -/
def Fl (x : Nat) (n : Int) : Prop := Is (double.read x) n
theorem Fl.mk (n : Int) (h : n.natAbs < 9007199254740992) : Fl (floatOfInt .f64 n) n := read_fl n h
theorem Fl.zero : Fl 0 0 := Fl.mk 0 (by decide)
theorem Fl.order {x y : Nat} {a b : Int} (hx : Fl x a) (hy : Fl y b) : double.order x y = some (compare a b) := Is.order hx hy
theorem Fl.eq {x y : Nat} {a b : Int} (hx : Fl x a) (hy : Fl y b) : (double.order x y == some .eq) = decide (a = b) := by
  rw [hx.order hy]
  rcases Int.lt_trichotomy a b with h | h | h
  · rw [Int.compare_eq_lt.2 h]; simp; omega
  · subst h; simp
  · rw [Int.compare_eq_gt.2 h]; simp; omega
theorem Fl.lt {x y : Nat} {a b : Int} (hx : Fl x a) (hy : Fl y b) : (double.order x y == some .lt) = decide (a < b) := by
  rw [hx.order hy]
  rcases Int.lt_trichotomy a b with h | h | h
  · rw [Int.compare_eq_lt.2 h]; simp [h]
  · subst h; simp
  · rw [Int.compare_eq_gt.2 h]; simp; omega
theorem Fl.gt {x y : Nat} {a b : Int} (hx : Fl x a) (hy : Fl y b) : (double.order x y == some .gt) = decide (b < a) := by
  rw [hx.order hy]
  rcases Int.lt_trichotomy a b with h | h | h
  · rw [Int.compare_eq_lt.2 h]; simp; omega
  · subst h; simp
  · rw [Int.compare_eq_gt.2 h]; simp [h]
theorem Fl.add {x y : Nat} {a b : Int} (hx : Fl x a) (hy : Fl y b) (h : (a + b).natAbs < 9007199254740992) : ∃ r, floatBits .add .f64 x y = some r ∧ Fl r (a + b) := by
  obtain ⟨d, e, hd⟩ := Is.sum hx hy
  exact ⟨double.write d, by show Option.map double.write ((double.read x).sum (double.read y)) = _; rw [e]; rfl, read_write hd h⟩
theorem Fl.sub {x y : Nat} {a b : Int} (hx : Fl x a) (hy : Fl y b) (h : (a - b).natAbs < 9007199254740992) : ∃ r, floatBits .sub .f64 x y = some r ∧ Fl r (a - b) := by
  obtain ⟨d, e, hd⟩ := Is.sum hx (Is.opposite hy)
  rw [← Int.sub_eq_add_neg] at hd
  exact ⟨double.write d, by show Option.map double.write ((double.read x).sum (double.read y).opposite) = _; rw [e]; rfl, read_write hd h⟩
theorem Fl.mul {x y : Nat} {a b : Int} (hx : Fl x a) (hy : Fl y b) (h : (a * b).natAbs < 9007199254740992) : ∃ r, floatBits .mul .f64 x y = some r ∧ Fl r (a * b) := by
  obtain ⟨d, e, hd⟩ := Is.product hx hy
  exact ⟨double.write d, by show Option.map double.write ((double.read x).product (double.read y)) = _; rw [e]; rfl, read_write hd h⟩

/-! ### Floats that are made whole -/

/-- A number that is at most 2^20, either way. -/
def Small (d : Datum) : Prop := ∃ s m i, d = .number s m i ∧ ∃ k : Nat, 0 ≤ i + k ∧ m * 2 ^ (i + k).toNat ≤ 1048576 * 2 ^ k

theorem cut_le (s : Bool) (m : Nat) (i : Int) (k : Nat) (hk : 0 ≤ i + k) (h : m * 2 ^ (i + k).toNat ≤ 1048576 * 2 ^ k) : Toward.zero.cut s (m <<< i.toNat) (-i).toNat ≤ 1048576 := by
  unfold Toward.cut
  simp only [Bool.toNat_false, Nat.add_zero, Nat.shiftLeft_eq, Nat.one_mul]
  by_cases hi : 0 ≤ i
  · have e0 : (-i).toNat = 0 := by omega
    rw [e0, Nat.zero_min, Nat.pow_zero, Nat.div_one]
    refine Nat.le_of_mul_le_mul_right ?_ (Nat.two_pow_pos k)
    rw [Nat.mul_assoc, ← Nat.pow_add, show i.toNat + k = (i + k).toNat by omega]
    exact h
  · have e0 : i.toNat = 0 := by omega
    rw [e0, Nat.pow_zero, Nat.mul_one]
    have hm : m ≤ 1048576 * 2 ^ (-i).toNat := by
      refine Nat.le_of_mul_le_mul_right ?_ (Nat.two_pow_pos (i + k).toNat)
      rw [Nat.mul_assoc, ← Nat.pow_add, show (-i).toNat + (i + k).toNat = k by omega]
      exact h
    by_cases hd : (-i).toNat ≤ m.log2 + 2
    · rw [Nat.min_eq_left hd]
      exact Nat.div_le_of_le_mul (by rw [Nat.mul_comm]; exact hm)
    · rw [Nat.min_eq_right (by omega)]
      have : m < 2 ^ (m.log2 + 2) := Nat.lt_of_lt_of_le (Nat.lt_log2_self (n := m)) (Nat.pow_le_pow_right (by decide) (by omega))
      rw [Nat.div_eq_of_lt this]
      omega
/-- Cut towards nought it is a whole number of at most 2^20; what is written of that is read as it. -/
theorem Small.whole {d : Datum} (h : Small d) : ∃ v : Int, v.natAbs ≤ 1048576 ∧ d.toInt .zero = some v ∧ Is (d.integral .zero) v := by
  obtain ⟨s, m, i, rfl, k, hk, hm⟩ := h
  have hc := cut_le s m i k hk hm
  refine ⟨signed s (Toward.zero.cut s (m <<< i.toNat) (-i).toNat) 0, ?_, rfl, ?_⟩
  · unfold signed
    rw [Nat.shiftLeft_zero]
    split <;> omega
  · exact Is.mk 0 (by simp) (by simp)
theorem cut_zero_exact (s : Bool) (a k : Nat) : Toward.zero.cut s (a * 2 ^ k) k = a := by
  have hp : 0 < 2 ^ k := Nat.two_pow_pos k
  by_cases h : a = 0
  · subst h
    unfold Toward.cut
    simp
  · unfold Toward.cut
    have hm : min k ((a * 2 ^ k).log2 + 2) = k := by rw [log2_mul a k h]; omega
    simp only [hm, Nat.shiftLeft_eq, Nat.one_mul, Nat.mul_div_cancel a hp]
    simp
theorem Is.toInt {d : Datum} {v : Int} (h : Is d v) : d.toInt .zero = some v ∧ Is (d.integral .zero) v := by
  obtain ⟨s, m, i, rfl⟩ := h.num
  have key : signed s (Toward.zero.cut s (m <<< i.toNat) (-i).toNat) 0 = v := by
    by_cases hi : 0 ≤ i
    · have e0 : (-i).toNat = 0 := by omega
      have e1 := cut_zero_exact s (m <<< i.toNat) 0
      rw [Nat.pow_zero, Nat.mul_one] at e1
      have e2 := h.at 0 (by simpa using hi)
      simp only [Int.natCast_zero, Int.add_zero, Int.pow_zero, Int.mul_one] at e2
      rw [e0, e1, ← e2]
      unfold signed
      rw [Nat.shiftLeft_zero]
    · have e0 : i.toNat = 0 := by omega
      have e2 := h.at (-i).toNat (by omega)
      have e3 : (i + ((-i).toNat : Int)).toNat = 0 := by omega
      rw [e3] at e2
      have e4 : m = v.natAbs * 2 ^ (-i).toNat := by
        have e := congrArg Int.natAbs e2
        rw [Int.natAbs_mul, Int.natAbs_pow] at e
        rw [show (2 : Int).natAbs = 2 from rfl] at e
        rw [← e]
        unfold signed
        rw [Nat.shiftLeft_zero]
        split <;> omega
      rw [e0, Nat.shiftLeft_zero, e4, cut_zero_exact]
      refine Int.eq_of_mul_eq_mul_right (Int.ne_of_gt (pow_pos (-i).toNat)) ?_
      rw [← e2, ← signed_add, Nat.zero_add]
      have e5 := signed_add s v.natAbs 0 (-i).toNat
      rw [Nat.zero_add] at e5
      unfold signed
      rw [Nat.shiftLeft_zero, Nat.shiftLeft_eq, ← e4]
  refine ⟨by show some _ = some _; rw [key], ?_⟩
  exact Is.mk 0 (by simp) (by simpa using key)
theorem Is.small {d : Datum} {v : Int} (h : Is d v) (hv : v.natAbs ≤ 1048576) : Small d := by
  obtain ⟨s, m, i, k, rfl, h1, h2⟩ := h
  refine ⟨s, m, i, rfl, k, h1, ?_⟩
  have e := congrArg Int.natAbs h2
  rw [Int.natAbs_mul, Int.natAbs_pow, show (2 : Int).natAbs = 2 from rfl] at e
  have e2 : (signed s m (i + k).toNat).natAbs = m * 2 ^ (i + k).toNat := by
    unfold signed
    rw [Nat.shiftLeft_eq]
    split <;> omega
  rw [← e2, e]
  exact Nat.mul_le_mul_right _ hv

/-- The part without its sign. -/
theorem read_abs (x : Nat) : double.read (x % 9223372036854775808) = (match double.read x with | .number _ m i => .number false m i | .infinity _ => .infinity false | .nan _ t => .nan false t) := by
  have esw : double.signWeight = 9223372036854775808 := by decide
  unfold Format.read
  simp only [esw]
  have h1 : x % 9223372036854775808 / 9223372036854775808 % 2 = 0 := by omega
  have h2 : x % 9223372036854775808 % 9223372036854775808 = x % 9223372036854775808 := by omega
  rw [h1, h2]
  split
  · rfl
  · split
    · rfl
    · split <;> rfl
/-- 'at most 2^20 without its sign' is what Small says. -/
theorem abs_small (x : Nat) : (double.order (x % 9223372036854775808) (floatOfInt .f64 1048576) == some .lt || double.order (x % 9223372036854775808) (floatOfInt .f64 1048576) == some .eq) = true ↔ Small (double.read x) := by
  have hfl := Fl.mk 1048576 (by decide)
  unfold Format.order
  rw [read_abs]
  obtain ⟨t, n, j, e⟩ := Is.num hfl
  have hfl' : Is (.number t n j) 1048576 := by rw [← e]; exact hfl
  rw [e]
  cases hx : double.read x with
  | nan s q => simp [Datum.order, Small]
  | infinity s => simp [Datum.order, Small]
  | number s m i =>
    obtain ⟨k, h1, h2⟩ := big2 i j
    simp only
    rw [order_at k h1 h2, hfl'.at k h2]
    have e1 : signed false m (i + k).toNat = ((m * 2 ^ (i + k).toNat : Nat) : Int) := by
      unfold signed
      rw [Nat.shiftLeft_eq]
      simp
    have e2 : (1048576 : Int) * 2 ^ k = ((1048576 * 2 ^ k : Nat) : Int) := by simp
    rw [e1, e2]
    constructor
    · intro h
      refine ⟨s, m, i, rfl, k, h1, ?_⟩
      rcases Int.lt_trichotomy ((m * 2 ^ (i + k).toNat : Nat) : Int) ((1048576 * 2 ^ k : Nat) : Int) with h' | h' | h'
      · omega
      · omega
      · rw [Int.compare_eq_gt.2 h'] at h
        simp at h
    · rintro ⟨s', m', i', e3, k', h1', h3⟩
      cases e3
      have h4 : m * 2 ^ (i + k).toNat ≤ 1048576 * 2 ^ k := by
        refine Nat.le_of_mul_le_mul_right ?_ (Nat.two_pow_pos k')
        rw [pow_eq m (i + k).toNat k' (i + k').toNat k (by omega), pow_eq 1048576 k k' k' k (by omega)]
        exact Nat.mul_le_mul_right _ h3
      rcases Int.lt_trichotomy ((m * 2 ^ (i + k).toNat : Nat) : Int) ((1048576 * 2 ^ k : Nat) : Int) with h' | h' | h'
      · rw [Int.compare_eq_lt.2 h']; rfl
      · rw [h']; simp
      · omega
/-- The same by two bounds. -/
theorem two_small (x : Nat) : ((double.order x (floatOfInt .f64 (-1048576)) == some .gt || double.order x (floatOfInt .f64 (-1048576)) == some .eq) = true ∧ (double.order x (floatOfInt .f64 1048576) == some .lt || double.order x (floatOfInt .f64 1048576) == some .eq) = true) ↔ Small (double.read x) := by
  have hfl := Fl.mk 1048576 (by decide)
  have hfm := Fl.mk (-1048576) (by decide)
  unfold Format.order
  obtain ⟨t, n, j, e⟩ := Is.num hfl
  obtain ⟨t', n', j', e'⟩ := Is.num hfm
  have hfl' : Is (.number t n j) 1048576 := by rw [← e]; exact hfl
  have hfm' : Is (.number t' n' j') (-1048576) := by rw [← e']; exact hfm
  rw [e, e']
  cases hx : double.read x with
  | nan s q => simp [Datum.order, Small]
  | infinity s => cases s <;> simp [Datum.order, Small]
  | number s m i =>
    let k : Nat := i.natAbs + j.natAbs + j'.natAbs
    have h1 : 0 ≤ i + (k : Int) := by omega
    have h2 : 0 ≤ j + (k : Int) := by omega
    have h3 : 0 ≤ j' + (k : Int) := by omega
    rw [order_at k h1 h2, order_at k h1 h3, hfl'.at k h2, hfm'.at k h3]
    have e1 : (signed s m (i + k).toNat).natAbs = m * 2 ^ (i + k).toNat := by
      unfold signed
      rw [Nat.shiftLeft_eq]
      split <;> omega
    have e2 : (1048576 : Int) * 2 ^ k = ((1048576 * 2 ^ k : Nat) : Int) := by simp
    rw [Int.neg_mul, e2]
    have hS : Small (.number s m i) ↔ m * 2 ^ (i + k).toNat ≤ 1048576 * 2 ^ k := by
      constructor
      · rintro ⟨s', m', i', e3, k', h1', h3⟩
        cases e3
        refine Nat.le_of_mul_le_mul_right ?_ (Nat.two_pow_pos k')
        rw [pow_eq m (i + k).toNat k' (i + k').toNat k (by omega), pow_eq 1048576 k k' k' k (by omega)]
        exact Nat.mul_le_mul_right _ h3
      · intro h
        exact ⟨s, m, i, rfl, k, h1, h⟩
    rw [hS]
    generalize signed s m (i + k).toNat = S at e1 ⊢
    generalize m * 2 ^ (i + (k : Int)).toNat = M at e1 ⊢
    generalize 1048576 * 2 ^ k = B
    have hc : ∀ a b : Int, (some (compare a b) == some Ordering.lt || some (compare a b) == some Ordering.eq) = decide (a ≤ b) := by
      intro a b
      rcases Int.lt_trichotomy a b with h' | h' | h'
      · rw [Int.compare_eq_lt.2 h']; simp; omega
      · subst h'; simp
      · rw [Int.compare_eq_gt.2 h']; simp; omega
    have hc' : ∀ a b : Int, (some (compare a b) == some Ordering.gt || some (compare a b) == some Ordering.eq) = decide (b ≤ a) := by
      intro a b
      rcases Int.lt_trichotomy a b with h' | h' | h'
      · rw [Int.compare_eq_lt.2 h']; simp; omega
      · subst h'; simp
      · rw [Int.compare_eq_gt.2 h']; simp; omega
    rw [hc, hc', decide_eq_true_eq, decide_eq_true_eq]
    omega

/-- A right part: a float that is a whole number of at most 2^20. -/
def Rt (x : Nat) (v : Int) : Prop := Fl x v ∧ v.natAbs ≤ 1048576

theorem order_symm_eq (d e : Datum) : (d.order e == some .eq) = (e.order d == some .eq) := by
  have key : ∀ d e : Datum, d.order e = some .eq → e.order d = some .eq := by
    intro d e h
    cases d with
    | nan _ _ => cases h
    | infinity s =>
      cases e with
      | nan _ _ => cases h
      | infinity t => cases s <;> cases t <;> simp [Datum.order] at h ⊢ <;> revert h <;> decide
      | number t n j => cases s <;> simp [Datum.order] at h
    | number s m i =>
      cases e with
      | nan _ _ => cases h
      | infinity t => cases t <;> simp [Datum.order] at h
      | number t n j =>
        obtain ⟨k, h1, h2⟩ := big2 i j
        rw [order_at k h1 h2, Option.some.injEq, Int.compare_eq_eq] at h
        rw [order_at k h2 h1, h]
        simp
  by_cases h : d.order e = some .eq
  · rw [h, key d e h]
  · by_cases h' : e.order d = some .eq
    · exact absurd (key e d h') h
    · rw [beq_eq_false_iff_ne.2 h, beq_eq_false_iff_ne.2 h']
end Go.Proofs.Ytcokihblicgbpaa.Num

namespace Go.Proofs.Ytcokihblicgbpaa.Num
open Go.RowKit Ieee

theorem andnot_sign (x : Nat) (hx : x < 18446744073709551616) : bits .andNot .u64 (x : Int) 9223372036854775808 = ((x % 9223372036854775808 : Nat) : Int) := by
  show IntKind.u64.wrap ((BitVec.ofInt 64 (x : Int) &&& ~~~BitVec.ofInt 64 9223372036854775808).toNat : Int) = _
  have e1 : ~~~BitVec.ofInt 64 9223372036854775808 = BitVec.ofNat 64 9223372036854775807 := by decide
  have e2 : (BitVec.ofInt 64 (x : Int)).toNat = x := by
    rw [BitVec.toNat_ofInt]
    have : ((2 ^ 64 : Nat) : Int) = 18446744073709551616 := by decide
    rw [this]
    omega
  rw [e1, BitVec.toNat_and, e2, BitVec.toNat_ofNat]
  rw [show 9223372036854775807 % 2 ^ 64 = 2 ^ 63 - 1 by decide, Nat.and_two_pow_sub_one_eq_mod, IntKind.wrap_u64]
  rw [show (2 : Nat) ^ 63 = 9223372036854775808 by decide]
  omega

theorem fl20 : floatOfInt .f64 1048576 = 4697254411347427328 := by decide
theorem flm20 : floatOfInt .f64 (-1048576) = 13920626448202203136 := by decide


/-- What a call answers that leaves the world as it was. -/
def Pu (v : Value) (w : World) (e : Ending) (w' : World) : Prop := e = .returned v ∧ w' = w
/-- Not a right part. -/
def NotRt (x : Nat) : Prop := ∀ v, ¬ Rt x v
theorem rt_or (x : Nat) : (∃ v, Rt x v) ∨ NotRt x := by
  by_cases h : ∃ v, Rt x v
  · exact .inl h
  · exact .inr (fun v hv => h ⟨v, hv⟩)

theorem rt_lt {x : Nat} (h : x < 18446744073709551616) : x < 18446744073709551616 := h
def wz (x : Nat) (n : Int) : Nat := if n = 0 then 0 else x
theorem wz_fl {x : Nat} {n : Int} (h : Fl x n) : Fl (wz x n) n := by
  unfold wz
  split
  · rename_i e; subst e; exact Fl.zero
  · exact h
theorem wz_zero (x : Nat) (n : Int) (h : n = 0) : wz x n = 0 := if_pos h
end Go.Proofs.Ytcokihblicgbpaa.Num

namespace Go.Proofs.Ytcokihblicgbpaa.Num
open Go.RowKit Ieee

/-- Parts that may be, or the refusal. -/
def fit (p q : Int) : Int × Int × Int := if p.natAbs ≤ 1048576 ∧ q.natAbs ≤ 1048576 then (p, q, 0) else (0, 0, 44)
def two (op : ByteArray) (a b c d : Int) : Int × Int × Int :=
  if (op.toList == [97, 100, 100]) = true then fit (a + c) (b + d) else if (op.toList == [115, 117, 98]) = true then fit (a - c) (b - d) else if (op.toList == [109, 117, 108]) = true then fit (a * c - b * d) (a * d + b * c) else (0, 0, 1)
def one (op : ByteArray) (a b : Int) : Int × Int × Int :=
  if (op.toList == [110, 101, 103]) = true then (-a, -b, 0) else if (op.toList == [99, 111, 110, 106]) = true then (a, -b, 0) else if (op.toList == [114, 101]) = true then (a, 0, 0) else if (op.toList == [105, 109]) = true then (b, 0, 0) else (0, 0, 1)
/-- What a call answers: the parts' floats (0 is +0), and the refusal. -/
def NumE (s : Int × Int × Int) (w : World) (e : Ending) (w' : World) : Prop :=
  ∃ r1 r2, e = .returned (.tuple #[.complex .f64 r1 r2, .int .i64 s.2.2]) ∧ Fl r1 s.1 ∧ Fl r2 s.2.1 ∧ (s.1 = 0 → r1 = 0) ∧ (s.2.1 = 0 → r2 = 0) ∧ r1 < 18446744073709551616 ∧ r2 < 18446744073709551616 ∧ w' = w
theorem numE_zero (k : Int) (w : World) : NumE (0, 0, k) w (.returned (.tuple #[.complex .f64 0 0, .int .i64 k])) w := ⟨0, 0, rfl, Fl.zero, Fl.zero, fun _ => rfl, fun _ => rfl, by decide, by decide, rfl⟩

theorem bits_lt {op : BinOp} {x y r : Nat} (h : floatBits op .f64 x y = some r) : r < 18446744073709551616 := by
  have := floatBits_wf h
  simpa [Lit.wf] using this
theorem not_rt {x : Nat} {n : Int} (h : Fl x n) (hn : ¬ n.natAbs ≤ 1048576) : NotRt x := fun v hv => hn (by rw [Is.uniq h hv.1]; exact hv.2)
theorem mul_small {a b : Int} (ha : a.natAbs ≤ 1048576) (hb : b.natAbs ≤ 1048576) : (a * b).natAbs ≤ 1099511627776 := by
  rw [Int.natAbs_mul]
  exact Nat.mul_le_mul ha hb

/-- One of the three, once its sum, difference or product is known. -/
def Way (op : ByteArray) (p1 p2 q1 q2 r1 r2 : Nat) : Prop :=
  ((op.toList == [97, 100, 100]) = true ∧ ∀ w : World, (binOp .add 22 (.complex .f64 p1 p2) (.complex .f64 q1 q2)).run Try.prog w = .ok (.complex .f64 r1 r2) w) ∨
  ((op.toList == [97, 100, 100]) = false ∧ (op.toList == [115, 117, 98]) = true ∧ ∀ w : World, (binOp .sub 22 (.complex .f64 p1 p2) (.complex .f64 q1 q2)).run Try.prog w = .ok (.complex .f64 r1 r2) w) ∨
  ((op.toList == [97, 100, 100]) = false ∧ (op.toList == [115, 117, 98]) = false ∧ (op.toList == [109, 117, 108]) = true ∧ ∀ w : World, (binOp .mul 22 (.complex .f64 p1 p2) (.complex .f64 q1 q2)).run Try.prog w = .ok (.complex .f64 r1 r2) w)

end Go.Proofs.Ytcokihblicgbpaa.Num

namespace Go.Proofs.Ytcokihblicgbpaa.Num
open Go.RowKit Ieee

def neg (x : Nat) : Nat := Op.negFloat .f64 x
theorem neg_eq (x : Nat) : neg x = x ^^^ 2 ^ 63 := rfl
theorem neg_div (x : Nat) : neg x / 9223372036854775808 % 2 = (x / 9223372036854775808 + 1) % 2 := by
  have h := Nat.xor_div_two_pow (a := x) (b := 2 ^ 63) (n := 63)
  rw [neg_eq]
  rw [show (2 : Nat) ^ 63 / 2 ^ 63 = 1 by decide] at h
  rw [show (2 : Nat) ^ 63 = 9223372036854775808 by decide] at h ⊢
  rw [h]
  have h2 := Nat.xor_mod_two_pow (a := x / 9223372036854775808) (b := 1) (n := 1)
  rw [Nat.pow_one] at h2
  rw [h2]
  rcases Nat.mod_two_eq_zero_or_one (x / 9223372036854775808) with h | h
  · rw [h, show (x / 9223372036854775808 + 1) % 2 = 1 by omega]; decide
  · rw [h, show (x / 9223372036854775808 + 1) % 2 = 0 by omega]; decide
theorem neg_mod (x : Nat) : neg x % 9223372036854775808 = x % 9223372036854775808 := by
  have h := Nat.xor_mod_two_pow (a := x) (b := 2 ^ 63) (n := 63)
  rw [neg_eq]
  rw [show (2 : Nat) ^ 63 % 2 ^ 63 = 0 by decide, Nat.xor_zero] at h
  rw [show (2 : Nat) ^ 63 = 9223372036854775808 by decide] at h ⊢
  exact h
theorem neg_lt (x : Nat) (h : x < 18446744073709551616) : neg x < 18446744073709551616 := by
  rw [neg_eq]
  have := Nat.xor_lt_two_pow (x := x) (y := 2 ^ 63) (n := 64) (by simpa using h) (by decide)
  simpa using this
theorem read_neg (x : Nat) : double.read (neg x) = (double.read x).opposite := by
  have esw : double.signWeight = 9223372036854775808 := by decide
  unfold Format.read
  simp only [esw, neg_div, neg_mod]
  have hb : ((x / 9223372036854775808 + 1) % 2 == 1) = !(x / 9223372036854775808 % 2 == 1) := by
    rcases Nat.mod_two_eq_zero_or_one (x / 9223372036854775808) with h | h
    · rw [h, show (x / 9223372036854775808 + 1) % 2 = 1 by omega]; rfl
    · rw [h, show (x / 9223372036854775808 + 1) % 2 = 0 by omega]; rfl
  rw [hb]
  split
  · rfl
  · split
    · rfl
    · split <;> rfl
theorem Fl.neg {x : Nat} {n : Int} (h : Fl x n) : Fl (neg x) (-n) := by
  show Is _ _
  rw [read_neg]
  exact Is.opposite h

/-- One of the four, once its parts are known. -/
def Way1 (op : ByteArray) (p1 p2 r1 r2 : Nat) : Prop :=
  ((op.toList == [110, 101, 103]) = true ∧ r1 = neg p1 ∧ r2 = neg p2) ∨
  ((op.toList == [110, 101, 103]) = false ∧ (op.toList == [99, 111, 110, 106]) = true ∧ r1 = p1 ∧ r2 = neg p2) ∨
  ((op.toList == [110, 101, 103]) = false ∧ (op.toList == [99, 111, 110, 106]) = false ∧ (op.toList == [114, 101]) = true ∧ r1 = p1 ∧ r2 = 0) ∨
  ((op.toList == [110, 101, 103]) = false ∧ (op.toList == [99, 111, 110, 106]) = false ∧ (op.toList == [114, 101]) = false ∧ (op.toList == [105, 109]) = true ∧ r1 = p2 ∧ r2 = 0)
/-- Less, of right numbers. -/
def less (a b c d : Int) : Bool := if a = c then decide (b < d) else decide (a < c)
theorem to_int (x : Nat) (a : Int) (h : Rt x a) : floatToIntVal .f64 x .i64 = some a := by
  unfold floatToIntVal
  have e : (FloatKind.f64.decode x).toInt .zero = some a := (Is.toInt h.1).1
  rw [e]
  have := h.2
  simp only
  rw [if_pos]
  constructor
  · show (-9223372036854775808 : Int) ≤ a
    omega
  · show a ≤ (9223372036854775807 : Int)
    omega
theorem conv_int (x : Nat) (a : Int) (h : Rt x a) (w : World) : (convert 149 3 (.float .f64 x)).run Try.prog w = .ok (.int .i64 a) w :=
  run_convert_float_int w 149 3 .f64 .i64 x a (by kernel_rfl) Try.underlying3 (to_int x a h)
theorem conv_int64 (x : Nat) (a : Int) (h : Rt x a) (w : World) : (convert 149 2 (.float .f64 x)).run Try.prog w = .ok (.int .i64 a) w :=
  run_convert_float_int w 149 2 .f64 .i64 x a (by kernel_rfl) Try.underlying2 (to_int x a h)

/-- Index, of right numbers. -/
def index (a b : Int) : Int × Bool := if b = 0 ∧ 0 ≤ a then (a, true) else (0, false)
end Go.Proofs.Ytcokihblicgbpaa.Num

namespace Go.Proofs.Ytcokihblicgbpaa.Num
open Go.RowKit Ieee

def geB (x : Nat) : Bool := FloatKind.f64.format.order x 13920626448202203136 == some .gt || FloatKind.f64.format.order x 13920626448202203136 == some .eq
def leB (x : Nat) : Bool := FloatKind.f64.format.order x 4697254411347427328 == some .lt || FloatKind.f64.format.order x 4697254411347427328 == some .eq
theorem small_iff (x : Nat) : (geB x = true ∧ leB x = true) ↔ Small (double.read x) := by
  have := two_small x
  rw [fl20, flm20] at this
  exact this

theorem toInt_small (x : Nat) (h : Small (double.read x)) : ∃ v : Int, v.natAbs ≤ 1048576 ∧ floatToIntVal .f64 x .i64 = some v ∧ (Fl x v ∨ (double.order (floatOfInt .f64 v) x == some .eq) = false) := by
  obtain ⟨v, hv, ht, _⟩ := h.whole
  refine ⟨v, hv, ?_, ?_⟩
  · unfold floatToIntVal
    have e : (FloatKind.f64.decode x).toInt .zero = some v := ht
    rw [e]
    simp only
    rw [if_pos]
    constructor
    · show (-9223372036854775808 : Int) ≤ v
      omega
    · show v ≤ (9223372036854775807 : Int)
      omega
  · have hf := Fl.mk v (by omega)
    have hs : (double.order (floatOfInt .f64 v) x == some .eq) = (double.order x (floatOfInt .f64 v) == some .eq) := order_symm_eq _ _
    rw [hs]
    by_cases h : double.order x (floatOfInt .f64 v) = some .eq
    · exact .inl (Is.of_order hf h)
    · exact .inr (beq_eq_false_iff_ne.2 h)

set_option maxRecDepth 1000000 in
theorem parts_yes (x y : Nat) (a b : Int) (h1 : Rt x a) (h2 : Rt y b) (w : World) : Calls Try.prog 92 #[.complex .f64 x y] w (Pu (.tuple #[.int .i64 a, .int .i64 b, .bool true]) w) := by
  obtain ⟨g1, l1⟩ := (small_iff x).2 (Is.small h1.1 h1.2)
  obtain ⟨g2, l2⟩ := (small_iff y).2 (Is.small h2.1 h2.2)
  unfold geB at g1 g2
  unfold leB at l1 l2
  have c1 := conv_int64 x a h1
  have c2 := conv_int64 y b h2
  have a20 := h1.2
  have b20 := h2.2
  have e1 : (FloatKind.f64.format.order (floatOfInt .f64 a) x == some .eq) = true := (Fl.eq (Fl.mk a (by omega)) h1.1).trans (decide_eq_true rfl)
  have e2 : (FloatKind.f64.format.order (floatOfInt .f64 b) y == some .eq) = true := (Fl.eq (Fl.mk b (by omega)) h2.1).trans (decide_eq_true rfl)
  clear h1 h2
  go_enter Try.func92, Try.ntmps92
  go_wp2
  go_ret3
  exact ⟨rfl, rfl⟩

def PartsNo (w : World) (e : Ending) (w' : World) : Prop := (∃ u v : Int, e = .returned (.tuple #[.int .i64 u, .int .i64 v, .bool false])) ∧ w' = w

set_option maxHeartbeats 400000 in
set_option maxRecDepth 1000000 in
theorem parts_no (x y : Nat) (h : NotRt x ∨ NotRt y) (w : World) : Calls Try.prog 92 #[.complex .f64 x y] w (PartsNo w) := by
  by_cases hx : Small (double.read x)
  · obtain ⟨g1, l1⟩ := (small_iff x).2 hx
    unfold geB at g1
    unfold leB at l1
    by_cases hy : Small (double.read y)
    · obtain ⟨g2, l2⟩ := (small_iff y).2 hy
      unfold geB at g2
      unfold leB at l2
      obtain ⟨a, ha, ca, ea⟩ := toInt_small x hx
      obtain ⟨b, hb, cb, eb⟩ := toInt_small y hy
      have c1 := fun w => run_convert_float_int (P := Try.prog) w 149 2 .f64 .i64 x a (by kernel_rfl) Try.underlying2 ca
      have c2 := fun w => run_convert_float_int (P := Try.prog) w 149 2 .f64 .i64 y b (by kernel_rfl) Try.underlying2 cb
      have hor : (double.order (floatOfInt .f64 a) x == some .eq) = false ∨ ((double.order (floatOfInt .f64 a) x == some .eq) = true ∧ (double.order (floatOfInt .f64 b) y == some .eq) = false) := by
        rcases ea with ea | ea
        · rcases eb with eb | eb
          · rcases h with h | h
            · exact absurd ⟨ea, ha⟩ (h a)
            · exact absurd ⟨eb, hb⟩ (h b)
          · refine .inr ⟨?_, eb⟩
            have := Fl.eq (Fl.mk a (by omega)) ea
            simpa using this
        · exact .inl ea
      clear ca cb ea eb ha hb h hx hy
      rcases hor with k1 | ⟨k1, k2⟩
      · have k1' : (FloatKind.f64.format.order (floatOfInt .f64 a) x == some .eq) = false := k1
        clear k1
        go_enter Try.func92, Try.ntmps92
        go_wp2
        go_ret3
        exact ⟨⟨_, _, rfl⟩, rfl⟩
      · have k1' : (FloatKind.f64.format.order (floatOfInt .f64 a) x == some .eq) = true := k1
        have k2' : (FloatKind.f64.format.order (floatOfInt .f64 b) y == some .eq) = false := k2
        clear k1 k2
        go_enter Try.func92, Try.ntmps92
        go_wp2
        go_ret3
        exact ⟨⟨_, _, rfl⟩, rfl⟩
    · have hn : geB y = false ∨ (geB y = true ∧ leB y = false) := by
        cases hg : geB y
        · exact .inl rfl
        · refine .inr ⟨rfl, ?_⟩
          cases hl : leB y
          · rfl
          · exact absurd ((small_iff y).1 ⟨hg, hl⟩) hy
      unfold geB leB at hn
      clear hx hy h
      rcases hn with g2 | ⟨g2, l2⟩
      · go_enter Try.func92, Try.ntmps92
        go_wp2
        go_ret3
        exact ⟨⟨_, _, rfl⟩, rfl⟩
      · go_enter Try.func92, Try.ntmps92
        go_wp2
        go_ret3
        exact ⟨⟨_, _, rfl⟩, rfl⟩
  · have hn : geB x = false ∨ (geB x = true ∧ leB x = false) := by
      cases hg : geB x
      · exact .inl rfl
      · refine .inr ⟨rfl, ?_⟩
        cases hl : leB x
        · rfl
        · exact absurd ((small_iff x).1 ⟨hg, hl⟩) hx
    unfold geB leB at hn
    clear hx h
    rcases hn with g2 | ⟨g2, l2⟩
    · go_enter Try.func92, Try.ntmps92
      go_wp2
      go_ret3
      exact ⟨⟨_, _, rfl⟩, rfl⟩
    · go_enter Try.func92, Try.ntmps92
      go_wp2
      go_ret3
      exact ⟨⟨_, _, rfl⟩, rfl⟩

set_option maxRecDepth 1000000 in
theorem rright_yes (x y : Nat) (a b : Int) (h1 : Rt x a) (h2 : Rt y b) (w : World) : Calls Try.prog 89 #[.complex .f64 x y] w (Pu (.bool true) w) := by
  go_enter Try.func89, Try.ntmps89
  go_wp2_with fail
  refine (parts_yes x y a b h1 h2 _).mono ?_
  rintro e w1 ⟨rfl, rfl⟩
  go_wp2
  go_ret
  exact ⟨rfl, rfl⟩
set_option maxRecDepth 1000000 in
theorem rright_no (x y : Nat) (h : NotRt x ∨ NotRt y) (w : World) : Calls Try.prog 89 #[.complex .f64 x y] w (Pu (.bool false) w) := by
  go_enter Try.func89, Try.ntmps89
  go_wp2_with fail
  refine (parts_no x y h _).mono ?_
  rintro e w1 ⟨⟨u, v, rfl⟩, rfl⟩
  go_wp2
  go_ret
  exact ⟨rfl, rfl⟩

theorem fl_lt (n : Int) : floatOfInt .f64 n < 18446744073709551616 := by
  have := floatOfInt_wf .f64 n
  simpa [Lit.wf] using this
theorem fl_eq_zero (n : Int) (h : n = 0) : floatOfInt .f64 n = 0 := by subst h; exact fl_zero

set_option maxRecDepth 1000000 in
theorem rof (p q : Int) (w : World) : Calls Try.prog 88 #[.int .i64 p, .int .i64 q] w (Pu (.complex .f64 (floatOfInt .f64 p) (floatOfInt .f64 q)) w) := by
  go_enter Try.func88, Try.ntmps88
  go_wp2
  go_ret
  exact ⟨rfl, rfl⟩
set_option maxRecDepth 1000000 in
theorem made (p q : Int) (hp : p.natAbs < 9007199254740992) (hq : q.natAbs < 9007199254740992) (w : World) : Calls Try.prog 82 #[.int .i64 p, .int .i64 q] w (NumE (fit p q) w) := by
  have f1 := Fl.mk p hp
  have f2 := Fl.mk q hq
  by_cases hf : p.natAbs ≤ 1048576 ∧ q.natAbs ≤ 1048576
  · rw [fit, if_pos hf]
    have hR := rright_yes _ _ p q ⟨f1, hf.1⟩ ⟨f2, hf.2⟩
    go_enter Try.func82, Try.ntmps82
    go_wp2_with fail
    refine (rof p q _).mono ?_
    rintro e w1 ⟨rfl, rfl⟩
    go_wp2_with fail
    refine (hR _).mono ?_
    rintro e w1 ⟨rfl, rfl⟩
    go_wp2
    go_ret2
    exact ⟨_, _, rfl, f1, f2, fl_eq_zero p, fl_eq_zero q, fl_lt p, fl_lt q, rfl⟩
  · rw [fit, if_neg hf]
    have hN : NotRt (floatOfInt .f64 p) ∨ NotRt (floatOfInt .f64 q) := by
      by_cases h : p.natAbs ≤ 1048576
      · exact .inr (not_rt f2 (fun h' => hf ⟨h, h'⟩))
      · exact .inl (not_rt f1 h)
    have hR := rright_no _ _ hN
    go_enter Try.func82, Try.ntmps82
    go_wp2_with fail
    refine (rof p q _).mono ?_
    rintro e w1 ⟨rfl, rfl⟩
    go_wp2_with fail
    refine (hR _).mono ?_
    rintro e w1 ⟨rfl, rfl⟩
    go_wp2
    go_ret2
    exact numE_zero 44 _

end Go.Proofs.Ytcokihblicgbpaa.Num

namespace Go.Proofs.Ytcokihblicgbpaa.Num
open Go.RowKit Ieee

theorem fit_one (p q : Int) (h1 : p.natAbs ≤ 1048576) (h2 : q.natAbs ≤ 1048576) : fit p q = (p, q, 0) := if_pos ⟨h1, h2⟩

end Go.Proofs.Ytcokihblicgbpaa.Num

namespace Go.Proofs.Ytcokihblicgbpaa.Num
open Go.RowKit Ieee

def Tab (w : World) : Prop := Lib.TabIs Try.prog w "internal/strconv.uint64pow10" .u64 Lib.pow10Tab
def itoaS (n : Int) : ByteArray := ⟨(Lib.itoa n).toArray⟩
theorem itoaS_size (n : Int) (h0 : -9223372036854775808 ≤ n) (h1 : n ≤ 9223372036854775807) : (itoaS n).size ≤ 21 := by
  have := Lib.itoa_length_le n h0 h1
  simpa [itoaS, ByteArray.size] using this
/-- A call that answers a text, and lays new memory alone. -/
def TextE (s : ByteArray) (w : World) (e : Ending) (w' : World) : Prop := e = .returned (.string s) ∧ Below w.heap.size w w'

def iS : ByteArray := ⟨#[105]⟩
def plusS : ByteArray := ⟨#[43]⟩
def text (a b : Int) : ByteArray :=
  if b = 0 then itoaS a else if a = 0 then itoaS b ++ ⟨#[105]⟩ else if 0 < b then itoaS a ++ ⟨#[43]⟩ ++ (itoaS b ++ ⟨#[105]⟩) else itoaS a ++ (itoaS b ++ ⟨#[105]⟩)

end Go.Proofs.Ytcokihblicgbpaa.Num

namespace Go.Proofs.Ytcokihblicgbpaa.Num
open Go.RowKit Ieee

theorem dig_piece : ∀ d : Fin 10, (⟨#[48, 49, 50, 51, 52, 53, 54, 55, 56, 57]⟩ : ByteArray).extract d.val (d.val + 1) = ⟨#[UInt8.ofNat (48 + d.val)]⟩ := by decide +kernel
theorem dec_small {u : Nat} (h : u < 10) : Lib.decDigits u = [UInt8.ofNat (48 + u)] := by rw [Lib.decDigits, dif_pos h]
theorem dec_big {u : Nat} (h : ¬ u < 10) : Lib.decDigits u = Lib.decDigits (u / 10) ++ [UInt8.ofNat (48 + u % 10)] := by rw [Lib.decDigits, dif_neg h]
/-- What is ahead of the digits that were taken. -/
def ahead (m : Nat) : List UInt8 := if m = 0 then [] else Lib.decDigits m
theorem dec_step (m : Nat) : Lib.decDigits m = ahead (m / 10) ++ [UInt8.ofNat (48 + m % 10)] := by
  by_cases h : m < 10
  · rw [dec_small h, ahead, if_pos (by omega), show m % 10 = m by omega]; rfl
  · rw [dec_big h, ahead, if_neg (by omega)]
theorem ahead_step (m : Nat) (h : m ≠ 0) : ahead m = ahead (m / 10) ++ [UInt8.ofNat (48 + m % 10)] := by
  rw [← dec_step, ahead, if_neg h]
theorem pre_eq (x : UInt8) (s : ByteArray) : (⟨#[x]⟩ : ByteArray) ++ s = ⟨(x :: s.data.toList).toArray⟩ := by
  apply ByteArray.ext
  rw [ByteArray.data_append]
  apply Array.ext'
  simp

theorem dig_step (m : Nat) (l : ByteArray) : ((⟨#[48, 49, 50, 51, 52, 53, 54, 55, 56, 57]⟩ : ByteArray).extract (m % 10) (m % 10 + 1) ++ l).size = l.size + 1 ∧
    ((⟨#[48, 49, 50, 51, 52, 53, 54, 55, 56, 57]⟩ : ByteArray).extract (m % 10) (m % 10 + 1) ++ l).toList.isEmpty = false ∧
    ((⟨#[48, 49, 50, 51, 52, 53, 54, 55, 56, 57]⟩ : ByteArray).extract (m % 10) (m % 10 + 1) ++ l).data.toList = UInt8.ofNat (48 + m % 10) :: l.data.toList := by
  have hp := dig_piece ⟨m % 10, Nat.mod_lt _ (by decide)⟩
  simp only at hp
  have e : ((⟨#[48, 49, 50, 51, 52, 53, 54, 55, 56, 57]⟩ : ByteArray).extract (m % 10) (m % 10 + 1) ++ l).data.toList = UInt8.ofNat (48 + m % 10) :: l.data.toList := by
    rw [hp, pre_eq]
  refine ⟨?_, ?_, e⟩
  · have h := congrArg List.length e
    rw [List.length_cons, Array.length_toList, Array.length_toList] at h
    exact h
  · rw [ByteArray.toList_eq, e]
    rfl
end Go.Proofs.Ytcokihblicgbpaa.Num

namespace Go.Proofs.Ytcokihblicgbpaa.Num
open Go.RowKit Ieee

def dig (c : UInt8) : Bool := decide (48 ≤ c.toNat) && decide (c.toNat ≤ 57)
def accA (n : Nat) (c : UInt8) : Nat := if n ≤ 1048576 then 10 * n + (c.toNat - 48) else n
def accB (n : Nat) (c : UInt8) : Nat := if n < 1099511627776 then 10 * n + (c.toNat - 48) else n
def pre (s : ByteArray) : List UInt8 := s.data.toList.takeWhile dig
def numA (s : ByteArray) : Nat := (pre s).foldl accA 0
def numB (s : ByteArray) : Nat := (pre s).foldl accB 0

theorem tw_take : ∀ (l : List UInt8) (k : Nat), (∀ c ∈ l.take k, dig c = true) → (∀ c, l[k]? = some c → dig c = false) → l.takeWhile dig = l.take k
  | [], k, _, _ => by simp
  | x :: r, 0, _, h2 => by
    have := h2 x rfl
    simp [this]
  | x :: r, k + 1, h1, h2 => by
    have hx := h1 x (by simp)
    rw [List.takeWhile_cons_of_pos hx, List.take_succ_cons, tw_take r k (fun c hc => h1 c (by simp [hc])) (fun c hc => h2 c (by simpa using hc))]
theorem get_k (s : ByteArray) (k : Nat) (hk : k < s.size) : s.data.toList[k]? = some s[k] := by
  have hk' : k < s.data.toList.length := by rw [Array.length_toList]; exact hk
  rw [List.getElem?_eq_getElem hk']
  rfl
/-- The first k bytes are digits; their number is m. -/
def Got (acc : Nat → UInt8 → Nat) (s : ByteArray) (k m : Nat) : Prop := m = (s.data.toList.take k).foldl acc 0 ∧ ∀ c ∈ s.data.toList.take k, dig c = true
theorem Got.zero (acc : Nat → UInt8 → Nat) (s : ByteArray) : Got acc s 0 0 := ⟨rfl, by simp⟩
theorem Got.step {acc : Nat → UInt8 → Nat} {s : ByteArray} {k m : Nat} (h : Got acc s k m) (hk : k < s.size) (hd : dig s[k] = true) : Got acc s (k + 1) (acc m s[k]) := by
  have e : s.data.toList.take (k + 1) = s.data.toList.take k ++ [s[k]] := by
    rw [List.take_add_one, get_k s k hk]
    rfl
  refine ⟨?_, ?_⟩
  · rw [e, List.foldl_append, ← h.1]
    rfl
  · rw [e]
    intro c hc
    rcases List.mem_append.1 hc with hc | hc
    · exact h.2 c hc
    · rw [List.mem_singleton.1 hc]; exact hd
theorem Got.done {acc : Nat → UInt8 → Nat} {s : ByteArray} {k m : Nat} (h : Got acc s k m) (hks : k ≤ s.size) (hd : ∀ hk : k < s.size, dig s[k] = false) : (pre s).foldl acc 0 = m ∧ (pre s).length = k := by
  have e : pre s = s.data.toList.take k := by
    refine tw_take _ _ h.2 (fun c hc => ?_)
    by_cases hk : k < s.size
    · rw [get_k s k hk] at hc
      cases hc
      exact hd hk
    · rw [List.getElem?_eq_none (by rw [Array.length_toList]; exact Nat.le_of_not_lt hk)] at hc
      cases hc
  rw [e]
  refine ⟨h.1.symm, ?_⟩
  rw [List.length_take, Nat.min_eq_left (by rw [Array.length_toList]; exact hks)]

/-- What readPart answers. -/
def PartA (s : ByteArray) (below : Bool) (w : World) (e : Ending) (w' : World) : Prop :=
  e = .returned (.tuple #[.float .f64 (floatOfInt .f64 (if below then -(numA s : Int) else (numA s : Int))), .string (s.extract (pre s).length s.size), .bool (decide (0 < (pre s).length))]) ∧ ∃ n, w' = w.drewN n
theorem partA_mk {s : ByteArray} {below : Bool} {k m n : Nat} {z : Int} {b : Bool} (w : World) (h : numA s = m ∧ (pre s).length = k) (hz : z = if below then -(m : Int) else (m : Int)) (hb : b = decide (0 < k)) :
    PartA s below w (.returned (.tuple #[.float .f64 (floatOfInt .f64 z), .string (s.extract k s.size), .bool b])) (w.drewN n) := by
  unfold PartA
  rw [h.1, h.2, hz, hb]
  exact ⟨rfl, n, rfl⟩

/-- What the document's part answers. -/
def PartB (s : ByteArray) (w : World) (e : Ending) (w' : World) : Prop :=
  e = .returned (.tuple #[.int .i64 (numB s), .string (s.extract (pre s).length s.size), .bool (decide (0 < (pre s).length))]) ∧ ∃ n, w' = w.drewN n
theorem partB_mk {s : ByteArray} {k m n : Nat} {b : Bool} (w : World) (h : numB s = m ∧ (pre s).length = k) (hb : b = decide (0 < k)) :
    PartB s w (.returned (.tuple #[.int .i64 m, .string (s.extract k s.size), .bool b])) (w.drewN n) := by
  unfold PartB
  rw [h.1, h.2, hb]
  exact ⟨rfl, n, rfl⟩
set_option maxHeartbeats 800000 in
set_option maxRecDepth 1000000 in
theorem part (s : ByteArray) (hs : s.size ≤ 9223372036854775806) (w : World) : Calls Try.prog 64 #[.string s] w (PartB s w) := by
  go_enter Try.func64, Try.ntmps64
  go_wp2
  go_loopg [5, 6] s.size (fun g n i wr => ∃ (m k : Nat), g + k = s.size ∧ n = .int .i64 m ∧ i = .int .i64 k ∧ m ≤ 10995116277769 ∧ wr = w ∧ Hid (Got accB s k m))
  case atStart => exact ⟨0, 0, rfl, rfl, rfl, by decide, rfl, Got.zero _ _⟩
  case round =>
    obtain ⟨m, k, hg, rfl, rfl, hm, hw, hinv⟩ := hrel
    subst hw
    by_cases hk : k < s.size
    · by_cases hd : dig s[k] = true
      · have hst := hinv.out.step hk hd
        simp only [dig, Bool.and_eq_true, decide_eq_true_eq] at hd
        obtain ⟨d1, d2⟩ := hd
        have d1' : (48 : Int) ≤ (s[k].toNat : Int) := by omega
        have d2' : (s[k].toNat : Int) ≤ 57 := by omega
        by_cases hc : m < 1099511627776
        · have hc' : (m : Int) < 1099511627776 := by omega
          have HST : Hid (Got accB s (k + 1) (10 * m + (s[k].toNat - 48))) := by
            rw [accB, if_pos hc] at hst
            exact hst
          clear hst hinv
          go_wp2
          go_roundg (s.size - (k + 1))
          case measure => omega
          case rel => exact ⟨10 * m + (s[k].toNat - 48), k + 1, by omega, by go_num, by go_num, by omega, rfl, HST⟩
        · have hc' : ¬ ((m : Int) < 1099511627776) := by omega
          have HST : Hid (Got accB s (k + 1) m) := by
            rw [accB, if_neg hc] at hst
            exact hst
          clear hst hinv
          go_wp2
          go_roundg (s.size - (k + 1))
          case measure => omega
          case rel => exact ⟨m, k + 1, by omega, by go_num, by go_num, by omega, rfl, HST⟩
      · have hdn : Hid (numB s = m ∧ (pre s).length = k) := hinv.out.done (by omega) (fun _ => Bool.eq_false_iff.2 hd)
        have hd' : s[k].toNat < 48 ∨ (48 ≤ s[k].toNat ∧ 57 < s[k].toNat) := by
          simp only [dig, Bool.and_eq_true, decide_eq_true_eq] at hd
          omega
        have hks : (k : Int) ≤ (s.size : Int) := by omega
        clear hinv hd
        rcases hd' with d1 | ⟨d1, d2⟩
        · have d1' : ¬ ((48 : Int) ≤ (s[k].toNat : Int)) := by omega
          go_wp2
          go_quiet (fail)
          go_wp2
          go_ret3
          exact partB_mk _ hdn.out rfl
        · have d1' : (48 : Int) ≤ (s[k].toNat : Int) := by omega
          have d2' : ¬ ((s[k].toNat : Int) ≤ 57) := by omega
          go_wp2
          go_quiet (fail)
          go_wp2
          go_ret3
          exact partB_mk _ hdn.out rfl
    · have hdn : Hid (numB s = m ∧ (pre s).length = k) := hinv.out.done (by omega) (fun h => absurd h hk)
      have hks : (k : Int) ≤ (s.size : Int) := by omega
      clear hinv
      go_wp2
      go_quiet (fail)
      go_wp2
      go_ret3
      exact partB_mk _ hdn.out rfl
end Go.Proofs.Ytcokihblicgbpaa.Num

namespace Go.Proofs.Ytcokihblicgbpaa.Num
open Go.RowKit Ieee

def minusAhead (s : ByteArray) : Bool := s.data.toList.head? == some 45
def cutS (s : ByteArray) : ByteArray := if minusAhead s then s.extract 1 s.size else s
def right3 (p q : Int) : Int × Int × Bool := if p.natAbs ≤ 1048576 ∧ q.natAbs ≤ 1048576 then (p, q, true) else (0, 0, false)
def sgn (b : Bool) (n : Nat) : Int := if b then -(n : Int) else (n : Int)
def tailW (N : ByteArray → Nat) (p : Int) (m : Bool) (s2 : ByteArray) : Int × Int × Bool :=
  if (pre s2).length = 0 then (0, 0, false) else if ((s2.extract (pre s2).length s2.size).toList == [105]) = true then right3 p (sgn m (N s2)) else (0, 0, false)
def restW (N : ByteArray → Nat) (p : Int) (r : ByteArray) : Int × Int × Bool :=
  if r.toList.isEmpty = true then right3 p 0 else if (r.toList == [105]) = true then right3 0 p
  else if r.data.toList.head? = some 43 then tailW N p false (r.extract 1 r.size) else if r.data.toList.head? = some 45 then tailW N p true (r.extract 1 r.size) else (0, 0, false)
def parseW (N : ByteArray → Nat) (s : ByteArray) : Int × Int × Bool :=
  if (pre (cutS s)).length = 0 then (0, 0, false) else restW N (sgn (minusAhead s) (N (cutS s))) ((cutS s).extract (pre (cutS s)).length (cutS s).size)
def ParseE (r : Int × Int × Bool) (w : World) (e : Ending) (w' : World) : Prop :=
  e = .returned (.tuple #[.complex .f64 (floatOfInt .f64 r.1) (floatOfInt .f64 r.2.1), .bool r.2.2]) ∧ ∃ n, w' = w.drewN n

theorem extract_list (s : ByteArray) (a : Nat) : s.extract a s.size = ⟨(s.data.toList.drop a).toArray⟩ := by
  have := Lib.extract_to_end s a
  apply ByteArray.ext
  apply Array.ext'
  rw [this]
theorem extract_size (s : ByteArray) (a : Nat) : (s.extract a s.size).size ≤ s.size := by
  simp only [ByteArray.size_extract]
  omega
theorem cutS_size (s : ByteArray) : (cutS s).size ≤ s.size := by
  unfold cutS
  split
  · exact extract_size s 1
  · exact Nat.le_refl _

theorem fold_le (acc : Nat → UInt8 → Nat) (B : Nat) (hacc : ∀ n c, n ≤ B → dig c = true → acc n c ≤ B) : ∀ (l : List UInt8) (n : Nat), (∀ c ∈ l, dig c = true) → n ≤ B → l.foldl acc n ≤ B
  | [], n, _, h => h
  | x :: r, n, h1, h => fold_le acc B hacc r _ (fun c hc => h1 c (by simp [hc])) (hacc n x h (h1 x (by simp)))
theorem all_pre (s : ByteArray) : ∀ c ∈ pre s, dig c = true := by
  have : ∀ l : List UInt8, ∀ c ∈ l.takeWhile dig, dig c = true := by
    intro l
    induction l with
    | nil => simp
    | cons x r ih =>
      by_cases hx : dig x = true
      · rw [List.takeWhile_cons_of_pos hx]
        intro c hc
        rcases List.mem_cons.1 hc with rfl | hc
        · exact hx
        · exact ih c hc
      · rw [List.takeWhile_cons_of_neg hx]
        simp
  exact this _
theorem dig_le {c : UInt8} (h : dig c = true) : c.toNat - 48 ≤ 9 := by
  simp only [dig, Bool.and_eq_true, decide_eq_true_eq] at h
  omega
theorem numA_le (s : ByteArray) : numA s ≤ 10485769 := fold_le accA _ (fun n c hn hc => by have := dig_le hc; unfold accA; split <;> omega) _ 0 (all_pre s) (by decide)
theorem numB_le (s : ByteArray) : numB s ≤ 10995116277769 := fold_le accB _ (fun n c hn hc => by have := dig_le hc; unfold accB; split <;> omega) _ 0 (all_pre s) (by decide)
/-- The two numbers are the same, or are both too great. -/
theorem numAB (s : ByteArray) : numA s = numB s ∨ (1048576 < numA s ∧ 1048576 < numB s) := by
  have : ∀ (l : List UInt8) (n m : Nat), (n = m ∧ n ≤ 1048576) ∨ (1048576 < n ∧ 1048576 < m) → (l.foldl accA n = l.foldl accB m ∧ l.foldl accA n ≤ 1048576) ∨ (1048576 < l.foldl accA n ∧ 1048576 < l.foldl accB m) := by
    intro l
    induction l with
    | nil => intro n m h; exact h
    | cons x r ih =>
      intro n m h
      refine ih _ _ ?_
      unfold accA accB
      split <;> split <;> omega
  rcases this (pre s) 0 0 (.inl ⟨rfl, by decide⟩) with h | h
  · exact .inl h.1
  · exact .inr h
theorem right3_big (p q : Int) (h : 1048576 < p.natAbs ∨ 1048576 < q.natAbs) : right3 p q = (0, 0, false) := if_neg (by omega)
theorem sgn_abs (b : Bool) (n : Nat) : (sgn b n).natAbs = n := by cases b <;> simp [sgn]
theorem tailAB (p p' : Int) (h : p = p' ∨ (1048576 < p.natAbs ∧ 1048576 < p'.natAbs)) (m : Bool) (s : ByteArray) : tailW numA p m s = tailW numB p' m s := by
  unfold tailW
  split
  · rfl
  split
  · rcases h with rfl | h
    · rcases numAB s with e | e
      · rw [e]
      · rw [right3_big _ _ (.inr (by rw [sgn_abs]; exact e.1)), right3_big _ _ (.inr (by rw [sgn_abs]; exact e.2))]
    · rw [right3_big _ _ (.inl h.1), right3_big _ _ (.inl h.2)]
  · rfl
theorem restAB (p p' : Int) (h : p = p' ∨ (1048576 < p.natAbs ∧ 1048576 < p'.natAbs)) (r : ByteArray) : restW numA p r = restW numB p' r := by
  unfold restW
  split
  · rcases h with rfl | h
    · rfl
    · rw [right3_big _ _ (.inl h.1), right3_big _ _ (.inl h.2)]
  split
  · rcases h with rfl | h
    · rfl
    · rw [right3_big _ _ (.inr h.1), right3_big _ _ (.inr h.2)]
  split
  · exact tailAB p p' h _ _
  split
  · exact tailAB p p' h _ _
  · rfl
theorem parseAB (s : ByteArray) : parseW numA s = parseW numB s := by
  unfold parseW
  split
  · rfl
  · refine restAB _ _ ?_ _
    rcases numAB (cutS s) with e | e
    · rw [e]; exact .inl rfl
    · exact .inr (by rw [sgn_abs, sgn_abs]; exact e)

end Go.Proofs.Ytcokihblicgbpaa.Num

namespace Go.Proofs.Ytcokihblicgbpaa.Num
open Go.RowKit Ieee

theorem parseE_mk {r : Int × Int × Bool} {w : World} {n m : Nat} {e : Ending} {w' : World} (h : ParseE r (w.drewN n) e w') (hm : m = n) : ParseE r (w.drewN m) e w' := by subst hm; exact h
theorem parseE_on {r : Int × Int × Bool} {w : World} {n : Nat} {e : Ending} {w' : World} (h : ParseE r (w.drewN n) e w') : ParseE r w e w' := by
  obtain ⟨h1, k, h2⟩ := h
  exact ⟨h1, n + k, by rw [h2, World.drewN_drewN]⟩
theorem parseE_zero (w : World) (n : Nat) : ParseE (0, 0, false) w (.returned (.tuple #[.complex .f64 0 0, .bool false])) (w.drewN n) := ⟨by rw [fl_zero], n, rfl⟩
theorem drewN0 (w : World) : w.drewN 0 = w := rfl

theorem quiet_add {P : Program} {f : FuncId} {args : Array Value} {w : World} {n x : Nat} {v : Value} (h : Calls P f args (w.drewN (n + x)) fun e w' => e = .returned v ∧ ∃ m, w' = (w.drewN (n + x)).drewN m) :
    Calls P f args (w.drewN (n + x)) fun e w'' => e = .returned v ∧ ∃ m, w'' = w.drewN (n + m) :=
  h.mono fun _ _ ⟨he, m, hm⟩ => ⟨he, x + m, by rw [hm, World.drewN_drewN, Nat.add_assoc]⟩

theorem head_at (r : ByteArray) (h : 0 < r.size) : r.data.toList.head? = some r[0] := by
  rw [List.head?_eq_getElem?]
  exact get_k r 0 h
theorem empty_size (r : ByteArray) (h : r.toList.isEmpty = false) : 0 < r.size := by
  rw [ByteArray.toList_eq] at h
  have : r.data.toList ≠ [] := by intro e; rw [e] at h; cases h
  have h2 := List.length_pos_iff.2 this
  rw [Array.length_toList] at h2
  exact h2

end Go.Proofs.Ytcokihblicgbpaa.Num

namespace Go.Proofs.Ytcokihblicgbpaa.Num
open Go.RowKit Ieee

set_option maxRecDepth 1000000 in
theorem madeX (p q : Int) (hp : p.natAbs < 9007199254740992) (hq : q.natAbs < 9007199254740992) (w : World) : Calls Try.prog 82 #[.int .i64 p, .int .i64 q] w (Pu (.tuple #[.complex .f64 (floatOfInt .f64 (fit p q).1) (floatOfInt .f64 (fit p q).2.1), .int .i64 (fit p q).2.2]) w) := by
  have f1 := Fl.mk p hp
  have f2 := Fl.mk q hq
  by_cases hf : p.natAbs ≤ 1048576 ∧ q.natAbs ≤ 1048576
  · rw [fit, if_pos hf]
    have hR := rright_yes _ _ p q ⟨f1, hf.1⟩ ⟨f2, hf.2⟩
    go_enter Try.func82, Try.ntmps82
    go_wp2_with fail
    refine (rof p q _).mono ?_
    rintro e w1 ⟨rfl, rfl⟩
    go_wp2_with fail
    refine (hR _).mono ?_
    rintro e w1 ⟨rfl, rfl⟩
    go_wp2
    go_ret2
    exact ⟨rfl, rfl⟩
  · rw [fit, if_neg hf]
    have hN : NotRt (floatOfInt .f64 p) ∨ NotRt (floatOfInt .f64 q) := by
      by_cases h : p.natAbs ≤ 1048576
      · exact .inr (not_rt f2 (fun h' => hf ⟨h, h'⟩))
      · exact .inl (not_rt f1 h)
    have hR := rright_no _ _ hN
    go_enter Try.func82, Try.ntmps82
    go_wp2_with fail
    refine (rof p q _).mono ?_
    rintro e w1 ⟨rfl, rfl⟩
    go_wp2_with fail
    refine (hR _).mono ?_
    rintro e w1 ⟨rfl, rfl⟩
    go_wp2
    go_ret2
    exact ⟨by rw [fl_zero]; rfl, rfl⟩
set_option maxRecDepth 1000000 in
theorem rright3 (p q : Int) (hp : p.natAbs < 9007199254740992) (hq : q.natAbs < 9007199254740992) (w : World) : Calls Try.prog 65 #[.int .i64 p, .int .i64 q] w (ParseE (right3 p q) w) := by
  have hm := madeX p q hp hq
  by_cases hf : p.natAbs ≤ 1048576 ∧ q.natAbs ≤ 1048576
  · rw [right3, if_pos hf]
    rw [fit, if_pos hf] at hm
    clear hf hp hq
    go_enter Try.func65, Try.ntmps65
    go_wp2_with fail
    refine (hm _).mono ?_
    rintro e w1 ⟨rfl, rfl⟩
    go_wp2
    go_ret2
    exact ⟨rfl, 0, rfl⟩
  · rw [right3, if_neg hf]
    rw [fit, if_neg hf] at hm
    clear hf hp hq
    go_enter Try.func65, Try.ntmps65
    go_wp2_with fail
    refine (hm _).mono ?_
    rintro e w1 ⟨rfl, rfl⟩
    go_wp2
    go_ret2
    exact ⟨rfl, 0, rfl⟩

/-- How the text begins: with a minus, or not. -/
theorem ahead_or (s : ByteArray) : (minusAhead s = true ∧ s.toList.isEmpty = false ∧ ∃ h : 0 < s.size, (s[0].toNat : Int) = 45) ∨ (minusAhead s = false ∧ s.toList.isEmpty = true) ∨
    (minusAhead s = false ∧ s.toList.isEmpty = false ∧ ∃ h : 0 < s.size, ((s[0].toNat : Int) == 45) = false) := by
  by_cases h : s.toList.isEmpty = true
  · refine .inr (.inl ⟨?_, h⟩)
    unfold minusAhead
    rw [ByteArray.toList_eq, List.isEmpty_iff] at h
    rw [h]
    rfl
  · have h' := Bool.eq_false_iff.2 h
    have hp := empty_size s h'
    unfold minusAhead
    rw [head_at s hp]
    by_cases hx : s[0] = 45
    · exact .inl ⟨by rw [hx]; rfl, h', hp, by rw [hx]; rfl⟩
    · refine .inr (.inr ⟨by simpa using hx, h', hp, ?_⟩)
      have : s[0].toNat ≠ 45 := fun e => hx (UInt8.toNat_inj.1 (by rw [e]; rfl))
      simp; omega

set_option maxHeartbeats 1600000 in
set_option maxRecDepth 1000000 in
theorem rparse_m (s : ByteArray) (hs : s.size ≤ 9223372036854775806) (hm : minusAhead s = true) (he : s.toList.isEmpty = false) (h0 : 0 < s.size) (hc0 : (s[0].toNat : Int) = 45) (w : World) : Calls Try.prog 51 #[.string s] w (ParseE (parseW numB s) w) := by
  have hc1 : cutS s = s.extract 1 s.size := by unfold cutS; rw [if_pos hm]
  have hq1 : (1 : Int) ≤ (s.size : Int) := by omega
  have hq0 : (0 : Int) < (s.size : Int) := by omega
  have hsg0 : sgn (minusAhead s) (numB (cutS s)) = -(numB (cutS s) : Int) := by rw [hm]; rfl
  have hr := part (cutS s) (Nat.le_trans (cutS_size s) hs)
  have hN := numB_le (cutS s)
  have hsz : ((cutS s).extract (pre (cutS s)).length (cutS s).size).size ≤ 9223372036854775806 := Nat.le_trans (extract_size _ _) (Nat.le_trans (cutS_size s) hs)
  unfold PartB at hr
  unfold parseW
  rw [hsg0]
  clear hsg0 hm
  rw [hc1] at hr hN hsz ⊢
  clear hc1
  generalize numB (s.extract 1 s.size) = N at *
  generalize (s.extract 1 s.size).extract (pre (s.extract 1 s.size)).length (s.extract 1 s.size).size = r at *
  generalize hkk : (pre (s.extract 1 s.size)).length = k at *
  by_cases hk : k = 0
  · rw [if_pos hk]
    have hb : decide (0 < k) = false := by simp [hk]
    rw [hb] at hr
    clear hk hb hkk
    go_enter Try.func51, Try.ntmps51
    go_wp2_with fail
    refine (hr _).mono ?_
    rintro e w1 ⟨rfl, n, rfl⟩
    go_wp2
    go_ret2
    exact parseE_zero _ _
  have hb : decide (0 < k) = true := by simp; omega
  rw [if_neg hk]
  rw [hb] at hr
  clear hk hb hkk
  have i1 := rright3 (-(N : Int)) 0 (by omega) (by decide)
  have i2 := rright3 0 (-(N : Int)) (by decide) (by omega)
  unfold restW
  by_cases h1 : r.toList.isEmpty = true
  · rw [if_pos h1]
    clear i2
    go_enter Try.func51, Try.ntmps51
    go_wp2_with fail
    refine (hr _).mono ?_
    rintro e w1 ⟨rfl, n, rfl⟩
    go_wp2_with fail
    refine (i1 _).mono ?_
    rintro e w2 ⟨rfl, n2, rfl⟩
    go_wp2
    go_ret2
    exact ⟨rfl, _, rfl⟩
  rw [if_neg h1]
  have h1' := Bool.eq_false_iff.2 h1
  have hp := empty_size r h1'
  have hp1 : (1 : Int) ≤ (r.size : Int) := by omega
  have hp0 : (0 : Int) < (r.size : Int) := by omega
  clear h1 i1
  by_cases h2 : (r.toList == [105]) = true
  · rw [if_pos h2]
    go_enter Try.func51, Try.ntmps51
    go_wp2_with fail
    refine (hr _).mono ?_
    rintro e w1 ⟨rfl, n, rfl⟩
    go_wp2_with fail
    refine (i2 _).mono ?_
    rintro e w2 ⟨rfl, n2, rfl⟩
    go_wp2
    go_ret2
    exact ⟨rfl, _, rfl⟩
  rw [if_neg h2]
  have h2' := Bool.eq_false_iff.2 h2
  clear h2 i2
  rw [head_at r hp]
  have hx : (r.extract 1 r.size).size ≤ 9223372036854775806 := Nat.le_trans (extract_size _ _) hsz
  generalize hy : r.extract 1 r.size = r2 at *
  by_cases h3 : r[0] = 43
  · rw [if_pos (by rw [h3])]
    have hcc : (r[0].toNat : Int) = 43 := by rw [h3]; rfl
    have hr2 := part r2 hx
    have hN2 := numB_le r2
    unfold PartB at hr2
    unfold tailW
    have hsq : sgn false (numB r2) = (numB r2 : Int) := rfl
    rw [hsq]
    clear hsq
    generalize numB r2 = q at *
    generalize r2.extract (pre r2).length r2.size = r3 at *
    clear h3
    by_cases hk2 : (pre r2).length = 0
    · have hb2 : decide (0 < (pre r2).length) = false := by simp [hk2]
      rw [hb2] at hr2
      rw [if_pos hk2]
      clear hb2 hk2
      go_enter Try.func51, Try.ntmps51
      go_wp2_with fail
      refine (hr _).mono ?_
      rintro e w1 ⟨rfl, n, rfl⟩
      go_wp2_with fail
      refine (hr2 _).mono ?_
      rintro e w2 ⟨rfl, n2, rfl⟩
      go_wp2
      go_ret2
      exact parseE_zero _ _
    have hb2 : decide (0 < (pre r2).length) = true := by simp; omega
    rw [hb2] at hr2
    rw [if_neg hk2]
    clear hb2 hk2
    by_cases h5 : (r3.toList == [105]) = true
    · rw [if_pos h5]
      have i3 := rright3 (-(N : Int)) ((q : Int)) (by omega) (by omega)
      go_enter Try.func51, Try.ntmps51
      go_wp2_with fail
      refine (hr _).mono ?_
      rintro e w1 ⟨rfl, n, rfl⟩
      go_wp2_with fail
      refine (hr2 _).mono ?_
      rintro e w2 ⟨rfl, n2, rfl⟩
      go_wp2_with fail
      refine (i3 _).mono ?_
      rintro e w2 ⟨rfl, n3, rfl⟩
      go_wp2
      go_ret2
      exact ⟨rfl, _, rfl⟩
    · rw [if_neg h5]
      have h5' := Bool.eq_false_iff.2 h5
      clear h5
      go_enter Try.func51, Try.ntmps51
      go_wp2_with fail
      refine (hr _).mono ?_
      rintro e w1 ⟨rfl, n, rfl⟩
      go_wp2_with fail
      refine (hr2 _).mono ?_
      rintro e w2 ⟨rfl, n2, rfl⟩
      go_wp2
      go_ret2
      exact parseE_zero _ _
  rw [if_neg (by simpa using h3)]
  by_cases h4 : r[0] = 45
  · rw [if_pos (by rw [h4])]
    have hcc : (r[0].toNat : Int) = 45 := by rw [h4]; rfl
    have hr2 := part r2 hx
    have hN2 := numB_le r2
    unfold PartB at hr2
    unfold tailW
    have hsq : sgn true (numB r2) = -(numB r2 : Int) := rfl
    rw [hsq]
    clear hsq
    generalize numB r2 = q at *
    generalize r2.extract (pre r2).length r2.size = r3 at *
    clear h3 h4
    by_cases hk2 : (pre r2).length = 0
    · have hb2 : decide (0 < (pre r2).length) = false := by simp [hk2]
      rw [hb2] at hr2
      rw [if_pos hk2]
      clear hb2 hk2
      go_enter Try.func51, Try.ntmps51
      go_wp2_with fail
      refine (hr _).mono ?_
      rintro e w1 ⟨rfl, n, rfl⟩
      go_wp2_with fail
      refine (hr2 _).mono ?_
      rintro e w2 ⟨rfl, n2, rfl⟩
      go_wp2
      go_ret2
      exact parseE_zero _ _
    have hb2 : decide (0 < (pre r2).length) = true := by simp; omega
    rw [hb2] at hr2
    rw [if_neg hk2]
    clear hb2 hk2
    by_cases h5 : (r3.toList == [105]) = true
    · rw [if_pos h5]
      have i3 := rright3 (-(N : Int)) (-(q : Int)) (by omega) (by omega)
      go_enter Try.func51, Try.ntmps51
      go_wp2_with fail
      refine (hr _).mono ?_
      rintro e w1 ⟨rfl, n, rfl⟩
      go_wp2_with fail
      refine (hr2 _).mono ?_
      rintro e w2 ⟨rfl, n2, rfl⟩
      go_wp2_with fail
      refine (i3 _).mono ?_
      rintro e w2 ⟨rfl, n3, rfl⟩
      go_wp2
      go_ret2
      exact ⟨rfl, _, rfl⟩
    · rw [if_neg h5]
      have h5' := Bool.eq_false_iff.2 h5
      clear h5
      go_enter Try.func51, Try.ntmps51
      go_wp2_with fail
      refine (hr _).mono ?_
      rintro e w1 ⟨rfl, n, rfl⟩
      go_wp2_with fail
      refine (hr2 _).mono ?_
      rintro e w2 ⟨rfl, n2, rfl⟩
      go_wp2
      go_ret2
      exact parseE_zero _ _
  rw [if_neg (by simpa using h4)]
  have h3' : ((r[0].toNat : Int) != 43) = true := by
    have : r[0].toNat ≠ 43 := fun e => h3 (UInt8.toNat_inj.1 (by rw [e]; rfl))
    simp; omega
  have h4' : ((r[0].toNat : Int) != 45) = true := by
    have : r[0].toNat ≠ 45 := fun e => h4 (UInt8.toNat_inj.1 (by rw [e]; rfl))
    simp; omega
  clear h3 h4
  go_enter Try.func51, Try.ntmps51
  go_wp2_with fail
  refine (hr _).mono ?_
  rintro e w1 ⟨rfl, n, rfl⟩
  go_wp2
  go_ret2
  exact parseE_zero _ _
set_option maxHeartbeats 1600000 in
set_option maxRecDepth 1000000 in
theorem rparse_e (s : ByteArray) (hs : s.size ≤ 9223372036854775806) (hm : minusAhead s = false) (he : s.toList.isEmpty = true) (w : World) : Calls Try.prog 51 #[.string s] w (ParseE (parseW numB s) w) := by
  have hc1 : cutS s = s := by unfold cutS; rw [hm]; rfl
  have hsg0 : sgn (minusAhead s) (numB (cutS s)) = (numB (cutS s) : Int) := by rw [hm]; rfl
  have hr := part (cutS s) (Nat.le_trans (cutS_size s) hs)
  have hN := numB_le (cutS s)
  have hsz : ((cutS s).extract (pre (cutS s)).length (cutS s).size).size ≤ 9223372036854775806 := Nat.le_trans (extract_size _ _) (Nat.le_trans (cutS_size s) hs)
  unfold PartB at hr
  unfold parseW
  rw [hsg0]
  clear hsg0 hm
  rw [hc1] at hr hN hsz ⊢
  clear hc1
  generalize numB (s) = N at *
  generalize (s).extract (pre (s)).length (s).size = r at *
  generalize hkk : (pre (s)).length = k at *
  by_cases hk : k = 0
  · rw [if_pos hk]
    have hb : decide (0 < k) = false := by simp [hk]
    rw [hb] at hr
    clear hk hb hkk
    go_enter Try.func51, Try.ntmps51
    go_wp2_with fail
    refine (hr _).mono ?_
    rintro e w1 ⟨rfl, n, rfl⟩
    go_wp2
    go_ret2
    exact parseE_zero _ _
  have hb : decide (0 < k) = true := by simp; omega
  rw [if_neg hk]
  rw [hb] at hr
  clear hk hb hkk
  have i1 := rright3 ((N : Int)) 0 (by omega) (by decide)
  have i2 := rright3 0 ((N : Int)) (by decide) (by omega)
  unfold restW
  by_cases h1 : r.toList.isEmpty = true
  · rw [if_pos h1]
    clear i2
    go_enter Try.func51, Try.ntmps51
    go_wp2_with fail
    refine (hr _).mono ?_
    rintro e w1 ⟨rfl, n, rfl⟩
    go_wp2_with fail
    refine (i1 _).mono ?_
    rintro e w2 ⟨rfl, n2, rfl⟩
    go_wp2
    go_ret2
    exact ⟨rfl, _, rfl⟩
  rw [if_neg h1]
  have h1' := Bool.eq_false_iff.2 h1
  have hp := empty_size r h1'
  have hp1 : (1 : Int) ≤ (r.size : Int) := by omega
  have hp0 : (0 : Int) < (r.size : Int) := by omega
  clear h1 i1
  by_cases h2 : (r.toList == [105]) = true
  · rw [if_pos h2]
    go_enter Try.func51, Try.ntmps51
    go_wp2_with fail
    refine (hr _).mono ?_
    rintro e w1 ⟨rfl, n, rfl⟩
    go_wp2_with fail
    refine (i2 _).mono ?_
    rintro e w2 ⟨rfl, n2, rfl⟩
    go_wp2
    go_ret2
    exact ⟨rfl, _, rfl⟩
  rw [if_neg h2]
  have h2' := Bool.eq_false_iff.2 h2
  clear h2 i2
  rw [head_at r hp]
  have hx : (r.extract 1 r.size).size ≤ 9223372036854775806 := Nat.le_trans (extract_size _ _) hsz
  generalize hy : r.extract 1 r.size = r2 at *
  by_cases h3 : r[0] = 43
  · rw [if_pos (by rw [h3])]
    have hcc : (r[0].toNat : Int) = 43 := by rw [h3]; rfl
    have hr2 := part r2 hx
    have hN2 := numB_le r2
    unfold PartB at hr2
    unfold tailW
    have hsq : sgn false (numB r2) = (numB r2 : Int) := rfl
    rw [hsq]
    clear hsq
    generalize numB r2 = q at *
    generalize r2.extract (pre r2).length r2.size = r3 at *
    clear h3
    by_cases hk2 : (pre r2).length = 0
    · have hb2 : decide (0 < (pre r2).length) = false := by simp [hk2]
      rw [hb2] at hr2
      rw [if_pos hk2]
      clear hb2 hk2
      go_enter Try.func51, Try.ntmps51
      go_wp2_with fail
      refine (hr _).mono ?_
      rintro e w1 ⟨rfl, n, rfl⟩
      go_wp2_with fail
      refine (hr2 _).mono ?_
      rintro e w2 ⟨rfl, n2, rfl⟩
      go_wp2
      go_ret2
      exact parseE_zero _ _
    have hb2 : decide (0 < (pre r2).length) = true := by simp; omega
    rw [hb2] at hr2
    rw [if_neg hk2]
    clear hb2 hk2
    by_cases h5 : (r3.toList == [105]) = true
    · rw [if_pos h5]
      have i3 := rright3 ((N : Int)) ((q : Int)) (by omega) (by omega)
      go_enter Try.func51, Try.ntmps51
      go_wp2_with fail
      refine (hr _).mono ?_
      rintro e w1 ⟨rfl, n, rfl⟩
      go_wp2_with fail
      refine (hr2 _).mono ?_
      rintro e w2 ⟨rfl, n2, rfl⟩
      go_wp2_with fail
      refine (i3 _).mono ?_
      rintro e w2 ⟨rfl, n3, rfl⟩
      go_wp2
      go_ret2
      exact ⟨rfl, _, rfl⟩
    · rw [if_neg h5]
      have h5' := Bool.eq_false_iff.2 h5
      clear h5
      go_enter Try.func51, Try.ntmps51
      go_wp2_with fail
      refine (hr _).mono ?_
      rintro e w1 ⟨rfl, n, rfl⟩
      go_wp2_with fail
      refine (hr2 _).mono ?_
      rintro e w2 ⟨rfl, n2, rfl⟩
      go_wp2
      go_ret2
      exact parseE_zero _ _
  rw [if_neg (by simpa using h3)]
  by_cases h4 : r[0] = 45
  · rw [if_pos (by rw [h4])]
    have hcc : (r[0].toNat : Int) = 45 := by rw [h4]; rfl
    have hr2 := part r2 hx
    have hN2 := numB_le r2
    unfold PartB at hr2
    unfold tailW
    have hsq : sgn true (numB r2) = -(numB r2 : Int) := rfl
    rw [hsq]
    clear hsq
    generalize numB r2 = q at *
    generalize r2.extract (pre r2).length r2.size = r3 at *
    clear h3 h4
    by_cases hk2 : (pre r2).length = 0
    · have hb2 : decide (0 < (pre r2).length) = false := by simp [hk2]
      rw [hb2] at hr2
      rw [if_pos hk2]
      clear hb2 hk2
      go_enter Try.func51, Try.ntmps51
      go_wp2_with fail
      refine (hr _).mono ?_
      rintro e w1 ⟨rfl, n, rfl⟩
      go_wp2_with fail
      refine (hr2 _).mono ?_
      rintro e w2 ⟨rfl, n2, rfl⟩
      go_wp2
      go_ret2
      exact parseE_zero _ _
    have hb2 : decide (0 < (pre r2).length) = true := by simp; omega
    rw [hb2] at hr2
    rw [if_neg hk2]
    clear hb2 hk2
    by_cases h5 : (r3.toList == [105]) = true
    · rw [if_pos h5]
      have i3 := rright3 ((N : Int)) (-(q : Int)) (by omega) (by omega)
      go_enter Try.func51, Try.ntmps51
      go_wp2_with fail
      refine (hr _).mono ?_
      rintro e w1 ⟨rfl, n, rfl⟩
      go_wp2_with fail
      refine (hr2 _).mono ?_
      rintro e w2 ⟨rfl, n2, rfl⟩
      go_wp2_with fail
      refine (i3 _).mono ?_
      rintro e w2 ⟨rfl, n3, rfl⟩
      go_wp2
      go_ret2
      exact ⟨rfl, _, rfl⟩
    · rw [if_neg h5]
      have h5' := Bool.eq_false_iff.2 h5
      clear h5
      go_enter Try.func51, Try.ntmps51
      go_wp2_with fail
      refine (hr _).mono ?_
      rintro e w1 ⟨rfl, n, rfl⟩
      go_wp2_with fail
      refine (hr2 _).mono ?_
      rintro e w2 ⟨rfl, n2, rfl⟩
      go_wp2
      go_ret2
      exact parseE_zero _ _
  rw [if_neg (by simpa using h4)]
  have h3' : ((r[0].toNat : Int) != 43) = true := by
    have : r[0].toNat ≠ 43 := fun e => h3 (UInt8.toNat_inj.1 (by rw [e]; rfl))
    simp; omega
  have h4' : ((r[0].toNat : Int) != 45) = true := by
    have : r[0].toNat ≠ 45 := fun e => h4 (UInt8.toNat_inj.1 (by rw [e]; rfl))
    simp; omega
  clear h3 h4
  go_enter Try.func51, Try.ntmps51
  go_wp2_with fail
  refine (hr _).mono ?_
  rintro e w1 ⟨rfl, n, rfl⟩
  go_wp2
  go_ret2
  exact parseE_zero _ _
set_option maxHeartbeats 1600000 in
set_option maxRecDepth 1000000 in
theorem rparse_p (s : ByteArray) (hs : s.size ≤ 9223372036854775806) (hm : minusAhead s = false) (he : s.toList.isEmpty = false) (h0 : 0 < s.size) (hc0 : ((s[0].toNat : Int) == 45) = false) (w : World) : Calls Try.prog 51 #[.string s] w (ParseE (parseW numB s) w) := by
  have hc1 : cutS s = s := by unfold cutS; rw [hm]; rfl
  have hq0 : (0 : Int) < (s.size : Int) := by omega
  have hsg0 : sgn (minusAhead s) (numB (cutS s)) = (numB (cutS s) : Int) := by rw [hm]; rfl
  have hr := part (cutS s) (Nat.le_trans (cutS_size s) hs)
  have hN := numB_le (cutS s)
  have hsz : ((cutS s).extract (pre (cutS s)).length (cutS s).size).size ≤ 9223372036854775806 := Nat.le_trans (extract_size _ _) (Nat.le_trans (cutS_size s) hs)
  unfold PartB at hr
  unfold parseW
  rw [hsg0]
  clear hsg0 hm
  rw [hc1] at hr hN hsz ⊢
  clear hc1
  generalize numB (s) = N at *
  generalize (s).extract (pre (s)).length (s).size = r at *
  generalize hkk : (pre (s)).length = k at *
  by_cases hk : k = 0
  · rw [if_pos hk]
    have hb : decide (0 < k) = false := by simp [hk]
    rw [hb] at hr
    clear hk hb hkk
    go_enter Try.func51, Try.ntmps51
    go_wp2_with fail
    refine (hr _).mono ?_
    rintro e w1 ⟨rfl, n, rfl⟩
    go_wp2
    go_ret2
    exact parseE_zero _ _
  have hb : decide (0 < k) = true := by simp; omega
  rw [if_neg hk]
  rw [hb] at hr
  clear hk hb hkk
  have i1 := rright3 ((N : Int)) 0 (by omega) (by decide)
  have i2 := rright3 0 ((N : Int)) (by decide) (by omega)
  unfold restW
  by_cases h1 : r.toList.isEmpty = true
  · rw [if_pos h1]
    clear i2
    go_enter Try.func51, Try.ntmps51
    go_wp2_with fail
    refine (hr _).mono ?_
    rintro e w1 ⟨rfl, n, rfl⟩
    go_wp2_with fail
    refine (i1 _).mono ?_
    rintro e w2 ⟨rfl, n2, rfl⟩
    go_wp2
    go_ret2
    exact ⟨rfl, _, rfl⟩
  rw [if_neg h1]
  have h1' := Bool.eq_false_iff.2 h1
  have hp := empty_size r h1'
  have hp1 : (1 : Int) ≤ (r.size : Int) := by omega
  have hp0 : (0 : Int) < (r.size : Int) := by omega
  clear h1 i1
  by_cases h2 : (r.toList == [105]) = true
  · rw [if_pos h2]
    go_enter Try.func51, Try.ntmps51
    go_wp2_with fail
    refine (hr _).mono ?_
    rintro e w1 ⟨rfl, n, rfl⟩
    go_wp2_with fail
    refine (i2 _).mono ?_
    rintro e w2 ⟨rfl, n2, rfl⟩
    go_wp2
    go_ret2
    exact ⟨rfl, _, rfl⟩
  rw [if_neg h2]
  have h2' := Bool.eq_false_iff.2 h2
  clear h2 i2
  rw [head_at r hp]
  have hx : (r.extract 1 r.size).size ≤ 9223372036854775806 := Nat.le_trans (extract_size _ _) hsz
  generalize hy : r.extract 1 r.size = r2 at *
  by_cases h3 : r[0] = 43
  · rw [if_pos (by rw [h3])]
    have hcc : (r[0].toNat : Int) = 43 := by rw [h3]; rfl
    have hr2 := part r2 hx
    have hN2 := numB_le r2
    unfold PartB at hr2
    unfold tailW
    have hsq : sgn false (numB r2) = (numB r2 : Int) := rfl
    rw [hsq]
    clear hsq
    generalize numB r2 = q at *
    generalize r2.extract (pre r2).length r2.size = r3 at *
    clear h3
    by_cases hk2 : (pre r2).length = 0
    · have hb2 : decide (0 < (pre r2).length) = false := by simp [hk2]
      rw [hb2] at hr2
      rw [if_pos hk2]
      clear hb2 hk2
      go_enter Try.func51, Try.ntmps51
      go_wp2_with fail
      refine (hr _).mono ?_
      rintro e w1 ⟨rfl, n, rfl⟩
      go_wp2_with fail
      refine (hr2 _).mono ?_
      rintro e w2 ⟨rfl, n2, rfl⟩
      go_wp2
      go_ret2
      exact parseE_zero _ _
    have hb2 : decide (0 < (pre r2).length) = true := by simp; omega
    rw [hb2] at hr2
    rw [if_neg hk2]
    clear hb2 hk2
    by_cases h5 : (r3.toList == [105]) = true
    · rw [if_pos h5]
      have i3 := rright3 ((N : Int)) ((q : Int)) (by omega) (by omega)
      go_enter Try.func51, Try.ntmps51
      go_wp2_with fail
      refine (hr _).mono ?_
      rintro e w1 ⟨rfl, n, rfl⟩
      go_wp2_with fail
      refine (hr2 _).mono ?_
      rintro e w2 ⟨rfl, n2, rfl⟩
      go_wp2_with fail
      refine (i3 _).mono ?_
      rintro e w2 ⟨rfl, n3, rfl⟩
      go_wp2
      go_ret2
      exact ⟨rfl, _, rfl⟩
    · rw [if_neg h5]
      have h5' := Bool.eq_false_iff.2 h5
      clear h5
      go_enter Try.func51, Try.ntmps51
      go_wp2_with fail
      refine (hr _).mono ?_
      rintro e w1 ⟨rfl, n, rfl⟩
      go_wp2_with fail
      refine (hr2 _).mono ?_
      rintro e w2 ⟨rfl, n2, rfl⟩
      go_wp2
      go_ret2
      exact parseE_zero _ _
  rw [if_neg (by simpa using h3)]
  by_cases h4 : r[0] = 45
  · rw [if_pos (by rw [h4])]
    have hcc : (r[0].toNat : Int) = 45 := by rw [h4]; rfl
    have hr2 := part r2 hx
    have hN2 := numB_le r2
    unfold PartB at hr2
    unfold tailW
    have hsq : sgn true (numB r2) = -(numB r2 : Int) := rfl
    rw [hsq]
    clear hsq
    generalize numB r2 = q at *
    generalize r2.extract (pre r2).length r2.size = r3 at *
    clear h3 h4
    by_cases hk2 : (pre r2).length = 0
    · have hb2 : decide (0 < (pre r2).length) = false := by simp [hk2]
      rw [hb2] at hr2
      rw [if_pos hk2]
      clear hb2 hk2
      go_enter Try.func51, Try.ntmps51
      go_wp2_with fail
      refine (hr _).mono ?_
      rintro e w1 ⟨rfl, n, rfl⟩
      go_wp2_with fail
      refine (hr2 _).mono ?_
      rintro e w2 ⟨rfl, n2, rfl⟩
      go_wp2
      go_ret2
      exact parseE_zero _ _
    have hb2 : decide (0 < (pre r2).length) = true := by simp; omega
    rw [hb2] at hr2
    rw [if_neg hk2]
    clear hb2 hk2
    by_cases h5 : (r3.toList == [105]) = true
    · rw [if_pos h5]
      have i3 := rright3 ((N : Int)) (-(q : Int)) (by omega) (by omega)
      go_enter Try.func51, Try.ntmps51
      go_wp2_with fail
      refine (hr _).mono ?_
      rintro e w1 ⟨rfl, n, rfl⟩
      go_wp2_with fail
      refine (hr2 _).mono ?_
      rintro e w2 ⟨rfl, n2, rfl⟩
      go_wp2_with fail
      refine (i3 _).mono ?_
      rintro e w2 ⟨rfl, n3, rfl⟩
      go_wp2
      go_ret2
      exact ⟨rfl, _, rfl⟩
    · rw [if_neg h5]
      have h5' := Bool.eq_false_iff.2 h5
      clear h5
      go_enter Try.func51, Try.ntmps51
      go_wp2_with fail
      refine (hr _).mono ?_
      rintro e w1 ⟨rfl, n, rfl⟩
      go_wp2_with fail
      refine (hr2 _).mono ?_
      rintro e w2 ⟨rfl, n2, rfl⟩
      go_wp2
      go_ret2
      exact parseE_zero _ _
  rw [if_neg (by simpa using h4)]
  have h3' : ((r[0].toNat : Int) != 43) = true := by
    have : r[0].toNat ≠ 43 := fun e => h3 (UInt8.toNat_inj.1 (by rw [e]; rfl))
    simp; omega
  have h4' : ((r[0].toNat : Int) != 45) = true := by
    have : r[0].toNat ≠ 45 := fun e => h4 (UInt8.toNat_inj.1 (by rw [e]; rfl))
    simp; omega
  clear h3 h4
  go_enter Try.func51, Try.ntmps51
  go_wp2_with fail
  refine (hr _).mono ?_
  rintro e w1 ⟨rfl, n, rfl⟩
  go_wp2
  go_ret2
  exact parseE_zero _ _
theorem rparse (s : ByteArray) (hs : s.size ≤ 9223372036854775806) (w : World) : Calls Try.prog 51 #[.string s] w (ParseE (parseW numB s) w) := by
  rcases ahead_or s with ⟨h1, h2, h3, h4⟩ | ⟨h1, h2⟩ | ⟨h1, h2, h3, h4⟩
  · exact rparse_m s hs h1 h2 h3 h4 w
  · exact rparse_e s hs h1 h2 w
  · exact rparse_p s hs h1 h2 h3 h4 w
end Go.Proofs.Ytcokihblicgbpaa.Num
