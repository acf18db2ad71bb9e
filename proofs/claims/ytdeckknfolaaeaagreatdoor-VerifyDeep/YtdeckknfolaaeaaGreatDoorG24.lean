/-
  Whole numbers as floats: what reading, writing, sums, products and orders of such floats give, and which floats are whole parts.
-/
import Derived.Laws.ComplexArith
namespace Go.Proofs.YtdeckknfolaaeaaGreatDoor.Num
open Ieee

theorem shl_add (m a b : Nat) : m <<< (a + b) = (m <<< a) * 2 ^ b := by
  rw [Nat.shiftLeft_eq, Nat.shiftLeft_eq, Nat.pow_add, Nat.mul_assoc]
theorem signed_add (s : Bool) (m a b : Nat) : signed s m (a + b) = signed s m a * 2 ^ b := by
  unfold signed
  rw [shl_add]
  split
  · rw [Int.natCast_mul, Int.neg_mul]; congr 2
  · rw [Int.natCast_mul]; congr 1
theorem pow_pos (k : Nat) : (0 : Int) < 2 ^ k := Int.pow_pos (by decide)

/-- A datum that is the whole number n. -/
def Is (d : Datum) (n : Int) : Prop := ∃ (s : Bool) (m : Nat) (i : Int) (k : Nat), d = .number s m i ∧ 0 ≤ i + k ∧ signed s m (i + k).toNat = n * 2 ^ k

theorem Is.at {s : Bool} {m : Nat} {i n : Int} (h : Is (.number s m i) n) (k : Nat) (hk : 0 ≤ i + k) : signed s m (i + k).toNat = n * 2 ^ k := by
  obtain ⟨s', m', i', k0, e, h0, h1⟩ := h
  cases e
  have e1 := signed_add s m (i + k).toNat k0
  have e2 := signed_add s m (i + k0).toNat k
  have e3 : (i + k).toNat + k0 = (i + k0).toNat + k := by omega
  rw [e3, e2, h1] at e1
  refine Int.eq_of_mul_eq_mul_right (Int.ne_of_gt (pow_pos k0)) ?_
  rw [← e1, Int.mul_assoc, Int.mul_assoc, Int.mul_comm (2 ^ k0)]
theorem Is.mk {s : Bool} {m : Nat} {i n : Int} (k : Nat) (hk : 0 ≤ i + k) (h : signed s m (i + k).toNat = n * 2 ^ k) : Is (.number s m i) n := ⟨s, m, i, k, rfl, hk, h⟩
theorem Is.num {d : Datum} {n : Int} (h : Is d n) : ∃ s m i, d = .number s m i := by
  obtain ⟨s, m, i, _, e, _⟩ := h
  exact ⟨s, m, i, e⟩
theorem Is.uniq {d : Datum} {a b : Int} (ha : Is d a) (hb : Is d b) : a = b := by
  obtain ⟨s, m, i, k, rfl, h0, h1⟩ := ha
  have h2 := hb.at k h0
  exact Int.eq_of_mul_eq_mul_right (Int.ne_of_gt (pow_pos k)) (h1.symm.trans h2)

theorem cmp_mul (a b : Int) (k : Nat) : compare (a * 2 ^ k) (b * 2 ^ k) = compare a b := by
  have hp := pow_pos k
  rcases Int.lt_trichotomy a b with h | h | h
  · rw [Int.compare_eq_lt.2 h, Int.compare_eq_lt.2 (Int.mul_lt_mul_of_pos_right h hp)]
  · subst h; simp
  · rw [Int.compare_eq_gt.2 h, Int.compare_eq_gt.2 (Int.mul_lt_mul_of_pos_right h hp)]

theorem order_at {s t : Bool} {m n : Nat} {i j : Int} (k : Nat) (hi : 0 ≤ i + k) (hj : 0 ≤ j + k) : Datum.order (.number s m i) (.number t n j) = some (compare (signed s m (i + k).toNat) (signed t n (j + k).toNat)) := by
  have e1 : (i + k).toNat = (i - min i j).toNat + (min i j + k).toNat := by omega
  have e2 : (j + k).toNat = (j - min i j).toNat + (min i j + k).toNat := by omega
  rw [e1, e2, signed_add, signed_add, cmp_mul]
  rfl
theorem big2 (i j : Int) : ∃ k : Nat, 0 ≤ i + k ∧ 0 ≤ j + k := ⟨i.natAbs + j.natAbs, by omega, by omega⟩
theorem Is.order {d e : Datum} {a b : Int} (hd : Is d a) (he : Is e b) : d.order e = some (compare a b) := by
  obtain ⟨s, m, i, rfl⟩ := hd.num
  obtain ⟨t, n, j, rfl⟩ := he.num
  obtain ⟨k, h1, h2⟩ := big2 i j
  rw [order_at k h1 h2, hd.at k h1, he.at k h2, cmp_mul]
/-- Against a whole number it counts alone which one it is. -/
theorem Is.order_same {d e e' : Datum} {v : Int} (he : Is e v) (he' : Is e' v) : d.order e = d.order e' := by
  obtain ⟨t, n, j, rfl⟩ := he.num
  obtain ⟨t', n', j', rfl⟩ := he'.num
  cases d with
  | nan _ _ => rfl
  | infinity _ => rfl
  | number s m i =>
    let k : Nat := i.natAbs + j.natAbs + j'.natAbs
    have h1 : 0 ≤ i + (k : Int) := by omega
    have h2 : 0 ≤ j + (k : Int) := by omega
    have h3 : 0 ≤ j' + (k : Int) := by omega
    rw [order_at k h1 h2, order_at k h1 h3, he.at k h2, he'.at k h3]
theorem Is.of_order {d e : Datum} {v : Int} (he : Is e v) (h : d.order e = some .eq) : Is d v := by
  obtain ⟨t, n, j, rfl⟩ := he.num
  cases d with
  | nan _ _ => cases h
  | infinity s => cases s <;> simp [Datum.order] at h
  | number s m i =>
    obtain ⟨k, h1, h2⟩ := big2 i j
    rw [order_at k h1 h2, he.at k h2, Option.some.injEq, Int.compare_eq_eq] at h
    exact Is.mk k h1 h

theorem Is.sum {d e : Datum} {a b : Int} (hd : Is d a) (he : Is e b) : ∃ r, d.sum e = some r ∧ Is r (a + b) := by
  obtain ⟨s, m, i, rfl⟩ := hd.num
  obtain ⟨t, n, j, rfl⟩ := he.num
  obtain ⟨k, h1, h2⟩ := big2 i j
  refine ⟨_, rfl, ?_⟩
  refine Is.mk k (by omega) ?_
  have e1 : (i + k).toNat = (i - min i j).toNat + (min i j + k).toNat := by omega
  have e2 : (j + k).toNat = (j - min i j).toNat + (min i j + k).toNat := by omega
  have g1 := hd.at k h1
  have g2 := he.at k h2
  rw [e1, signed_add] at g1
  rw [e2, signed_add] at g2
  have hz : ∀ x : Int, signed (if x = 0 then s && t else decide (x < 0)) x.natAbs (min i j + k).toNat = x * 2 ^ (min i j + (k : Int)).toNat := by
    intro x
    have e0 := signed_add (if x = 0 then s && t else decide (x < 0)) x.natAbs 0 (min i j + k).toNat
    rw [Nat.zero_add] at e0
    rw [e0]
    congr 1
    unfold signed
    simp only [Nat.shiftLeft_zero]
    by_cases hx : x = 0
    · subst hx; cases s <;> cases t <;> simp
    · rw [if_neg hx]
      by_cases hn : x < 0
      · simp [hn]; omega
      · simp [hn]; omega
  rw [hz, Int.add_mul, Int.add_mul, g1, g2]
theorem Is.product {d e : Datum} {a b : Int} (hd : Is d a) (he : Is e b) : ∃ r, d.product e = some r ∧ Is r (a * b) := by
  obtain ⟨s, m, i, rfl⟩ := hd.num
  obtain ⟨t, n, j, rfl⟩ := he.num
  obtain ⟨k, h1, h2⟩ := big2 i j
  refine ⟨_, rfl, ?_⟩
  refine Is.mk (k + k) (by omega) ?_
  have g1 := hd.at k h1
  have g2 := he.at k h2
  have e : (i + j + ((k + k : Nat) : Int)).toNat = (i + k).toNat + (j + k).toNat := by omega
  have hm : signed (s ^^ t) (m * n) ((i + k).toNat + (j + k).toNat) = signed s m (i + k).toNat * signed t n (j + k).toNat := by
    generalize (i + (k : Int)).toNat = x
    generalize (j + (k : Int)).toNat = y
    have h : (m * n) <<< (x + y) = (m <<< x) * (n <<< y) := by
      simp only [Nat.shiftLeft_eq, Nat.pow_add]
      rw [Nat.mul_mul_mul_comm]
    unfold signed
    rw [h]
    generalize m <<< x = p
    generalize n <<< y = q
    cases s <;> cases t <;> simp [Int.neg_mul, Int.mul_neg]
  rw [e, hm, g1, g2, Int.pow_add]
  generalize (2 : Int) ^ k = z
  simp [Int.mul_comm, Int.mul_left_comm]
theorem Is.opposite {d : Datum} {a : Int} (hd : Is d a) : Is d.opposite (-a) := by
  obtain ⟨s, m, i, k, rfl, h1, h2⟩ := hd
  refine Is.mk k h1 ?_
  rw [Int.neg_mul, ← h2]
  unfold signed
  cases s <;> simp

/-! ### Writing -/

theorem log2_mul (a k : Nat) (h : a ≠ 0) : (a * 2 ^ k).log2 = a.log2 + k := by
  have hp : 0 < 2 ^ k := Nat.two_pow_pos k
  have h1 := (Nat.log2_eq_iff h).1 rfl
  rw [Nat.log2_eq_iff (Nat.mul_ne_zero h (by omega))]
  refine ⟨?_, ?_⟩
  · rw [Nat.pow_add]; exact Nat.mul_le_mul_right _ h1.1
  · rw [show a.log2 + k + 1 = (a.log2 + 1) + k by omega, Nat.pow_add]; exact Nat.mul_lt_mul_of_pos_right h1.2 hp

theorem cut_exact (neg : Bool) (a k : Nat) (h : a ≠ 0) : Toward.even.cut neg (a * 2 ^ k) k = a := by
  have hp : 0 < 2 ^ k := Nat.two_pow_pos k
  unfold Toward.cut
  have hm : min k ((a * 2 ^ k).log2 + 2) = k := by rw [log2_mul a k h]; omega
  simp only [hm, Nat.shiftLeft_eq, Nat.one_mul, Nat.mul_mod_left, Nat.mul_div_cancel a hp]
  simp

/-- Where the word of a whole number N lies: 0 < N < 2^53. -/
def rung (N : Nat) : Nat := (N.log2 + 1022) * 4503599627370496 + N * 2 ^ (52 - N.log2)

theorem log2_le (N : Nat) (h0 : 0 < N) (h1 : N < 9007199254740992) : N.log2 ≤ 52 := by
  have : N.log2 < 53 := (Nat.log2_lt (by omega)).2 (by simpa using h1)
  omega
theorem rung_mant (N : Nat) (h0 : 0 < N) (h1 : N < 9007199254740992) : 4503599627370496 ≤ N * 2 ^ (52 - N.log2) ∧ N * 2 ^ (52 - N.log2) < 9007199254740992 := by
  have hl := log2_le N h0 h1
  have h := (Nat.log2_eq_iff (n := N) (by omega)).1 rfl
  have e : 2 ^ N.log2 * 2 ^ (52 - N.log2) = 4503599627370496 := by rw [← Nat.pow_add, show N.log2 + (52 - N.log2) = 52 by omega]
  have e2 : 2 ^ (N.log2 + 1) * 2 ^ (52 - N.log2) = 9007199254740992 := by rw [← Nat.pow_add, show N.log2 + 1 + (52 - N.log2) = 53 by omega]
  refine ⟨?_, ?_⟩
  · rw [← e]; exact Nat.mul_le_mul_right _ h.1
  · rw [← e2]; exact Nat.mul_lt_mul_of_pos_right h.2 (Nat.two_pow_pos _)

theorem pow_eq (m a b c d : Nat) (h : a + b = c + d) : m * 2 ^ a * 2 ^ b = m * 2 ^ c * 2 ^ d := by
  rw [Nat.mul_assoc, Nat.mul_assoc, ← Nat.pow_add, ← Nat.pow_add, h]
theorem nearest_exact (neg : Bool) (mag N : Nat) (place : Int) (h0 : 0 < N) (h1 : N < 9007199254740992) (k : Nat) (hk : 0 ≤ place + k) (h : mag * 2 ^ (place + k).toNat = N * 2 ^ k) : double.nearest neg mag place = double.word neg (rung N) := by
  have hl := log2_le N h0 h1
  have hm0 : mag ≠ 0 := by
    rintro rfl
    have hp := Nat.two_pow_pos k
    rw [Nat.zero_mul] at h
    have := Nat.mul_pos h0 hp
    omega
  have hlog : (mag.log2 : Int) + place = N.log2 := by
    have e := congrArg Nat.log2 h
    rw [log2_mul _ _ hm0, log2_mul _ _ (by omega)] at e
    omega
  have elp : double.leastPlace = -1074 := by decide
  have ebi : double.binade = 4503599627370496 := by decide
  have einf : double.infRung = 9218868437227405312 := by decide
  have hfb : double.fractionBits = 52 := rfl
  have hlast : max (place + mag.log2 - double.fractionBits) double.leastPlace = (N.log2 : Int) - 52 := by rw [elp, hfb]; omega
  unfold Format.nearest
  rw [if_neg hm0]
  simp only [hlast]
  have hkept : Toward.even.cut neg (mag <<< (place - ((N.log2 : Int) - 52)).toNat) ((N.log2 : Int) - 52 - place).toNat = N * 2 ^ (52 - N.log2) := by
    by_cases hp : (N.log2 : Int) - 52 ≤ place
    · have e0 : ((N.log2 : Int) - 52 - place).toNat = 0 := by omega
      have e1 := cut_exact neg (mag <<< (place - ((N.log2 : Int) - 52)).toNat) 0 (by rw [Nat.shiftLeft_eq]; exact Nat.mul_ne_zero hm0 (by have := Nat.two_pow_pos (place - ((N.log2 : Int) - 52)).toNat; omega))
      rw [Nat.pow_zero, Nat.mul_one] at e1
      rw [e0, e1, Nat.shiftLeft_eq]
      refine Nat.eq_of_mul_eq_mul_right (Nat.two_pow_pos (k + 52)) ?_
      rw [pow_eq mag _ _ (place + k).toNat (52 + (52 - N.log2)) (by omega), h]
      exact pow_eq N _ _ _ _ (by omega)
    · have e0 : (place - ((N.log2 : Int) - 52)).toNat = 0 := by omega
      have e1 : mag = N * 2 ^ (52 - N.log2) * 2 ^ ((N.log2 : Int) - 52 - place).toNat := by
        refine Nat.eq_of_mul_eq_mul_right (Nat.two_pow_pos (place + k).toNat) ?_
        rw [h, Nat.mul_assoc, Nat.mul_assoc, ← Nat.pow_add, ← Nat.pow_add, show 52 - N.log2 + (((N.log2 : Int) - 52 - place).toNat + (place + k).toNat) = k by omega]
      rw [e0, Nat.shiftLeft_zero]
      generalize ((N.log2 : Int) - 52 - place).toNat = q at e1 ⊢
      rw [e1]
      exact cut_exact neg _ q (Nat.mul_ne_zero (by omega) (by have := Nat.two_pow_pos (52 - N.log2); omega))
  rw [hkept, elp, ebi, einf]
  have hr := rung_mant N h0 h1
  have e3 : ((N.log2 : Int) - 52 - -1074).toNat = N.log2 + 1022 := by omega
  rw [e3, Nat.min_eq_left (by omega)]
  rfl

theorem read_rung (neg : Bool) (N : Nat) (h0 : 0 < N) (h1 : N < 9007199254740992) : double.read (double.word neg (rung N)) = .number neg (N * 2 ^ (52 - N.log2)) ((N.log2 : Int) - 52) := by
  have hl := log2_le N h0 h1
  have hr := rung_mant N h0 h1
  have elp : double.leastPlace = -1074 := by decide
  have ebi : double.binade = 4503599627370496 := by decide
  have einf : double.infRung = 9218868437227405312 := by decide
  have esw : double.signWeight = 9223372036854775808 := by decide
  have hlt : rung N < 9218868437227405312 := by unfold rung; omega
  have hneg : (double.word neg (rung N) / 9223372036854775808 % 2 == 1) = neg := by
    unfold Format.word
    rw [esw]
    cases neg <;> simp <;> omega
  have hmod : double.word neg (rung N) % 9223372036854775808 = rung N := by
    unfold Format.word
    rw [esw]
    cases neg <;> simp <;> omega
  unfold Format.read
  simp only [esw, ebi, einf, elp, hneg, hmod]
  rw [if_neg (by unfold rung; omega), if_pos hlt]
  have e : rung N = (N.log2 + 1022) * 4503599627370496 + N * 2 ^ (52 - N.log2) := rfl
  generalize N * 2 ^ (52 - N.log2) = M at e hr ⊢
  generalize rung N = R at e ⊢
  have q1 : R / 4503599627370496 = N.log2 + 1023 := by omega
  have q2 : R % 4503599627370496 = M - 4503599627370496 := by omega
  have q3 : 4503599627370496 + (M - 4503599627370496) = M := by omega
  have q4 : (-1074 : Int) + ((N.log2 + 1023 - 1 : Nat) : Int) = (N.log2 : Int) - 52 := by omega
  rw [q1, q2, q3, q4]

/-- The word of a whole number below 2^53, or of a nought of either sign. -/
theorem write_is {d : Datum} {n : Int} (hd : Is d n) (hn : n ≠ 0) (h1 : n.natAbs < 9007199254740992) : double.write d = double.word (n < 0) (rung n.natAbs) := by
  obtain ⟨s, m, i, k, rfl, h2, h3⟩ := hd
  have hp := pow_pos k
  have hs : s = decide (n < 0) := by
    have hsg : ∀ x : Nat, (if s then -(x : Int) else x) = n * 2 ^ k → s = decide (n < 0) := by
      intro x hx
      cases s
      · simp only [Bool.false_eq_true, if_false] at hx
        by_cases h : n < 0
        · have := Int.mul_neg_of_neg_of_pos h hp
          omega
        · simp [h]
      · simp only [if_true] at hx
        by_cases h : n < 0
        · simp [h]
        · have := Int.mul_pos (show 0 < n by omega) hp
          omega
    exact hsg _ h3
  have hmag : m * 2 ^ (i + k).toNat = n.natAbs * 2 ^ k := by
    have e := congrArg Int.natAbs h3
    rw [Int.natAbs_mul, Int.natAbs_pow] at e
    have e2 : (signed s m (i + k).toNat).natAbs = m * 2 ^ (i + k).toNat := by
      unfold signed
      rw [Nat.shiftLeft_eq]
      split
      · rw [Int.natAbs_neg, Int.natAbs_natCast]
      · rw [Int.natAbs_natCast]
    rw [e2] at e
    exact e
  rw [← hs]
  exact nearest_exact s m n.natAbs i (by omega) h1 k h2 hmag
theorem write_zero {d : Datum} (hd : Is d 0) : ∃ s, double.write d = double.word s 0 ∧ d.neg = s := by
  obtain ⟨s, m, i, k, rfl, h2, h3⟩ := hd
  have hm : m = 0 := by
    have e : (m <<< (i + k).toNat : Nat) = 0 := by
      unfold signed at h3
      rw [Int.zero_mul] at h3
      split at h3 <;> omega
    rw [Nat.shiftLeft_eq] at e
    rcases Nat.mul_eq_zero.1 e with h | h
    · exact h
    · exact absurd h (Nat.ne_of_gt (Nat.two_pow_pos _))
  subst hm
  exact ⟨s, rfl, rfl⟩

/-- A whole number's float. -/
theorem fl_word (n : Int) (hn : n ≠ 0) (h1 : n.natAbs < 9007199254740992) : floatOfInt .f64 n = double.word (n < 0) (rung n.natAbs) := by
  have h : Is (.number (n < 0) n.natAbs 0) n := Is.mk 0 (by simp) (by
    unfold signed
    by_cases h : n < 0 <;> simp [h] <;> omega)
  exact write_is h hn h1
theorem fl_zero : floatOfInt .f64 0 = 0 := by decide
theorem read_zero (s : Bool) : double.read (double.word s 0) = .number s 0 (-1074) := by cases s <;> decide
theorem is_zero (s : Bool) (i : Int) : Is (.number s 0 i) 0 := by
  refine Is.mk i.natAbs (by omega) ?_
  unfold signed
  rw [Nat.zero_shiftLeft, Int.zero_mul]
  cases s <;> rfl
/-- It is read as the number. -/
theorem read_fl (n : Int) (h1 : n.natAbs < 9007199254740992) : Is (double.read (floatOfInt .f64 n)) n := by
  by_cases hn : n = 0
  · subst hn
    rw [fl_zero, show (0 : Nat) = double.word false 0 from rfl, read_zero]
    exact is_zero _ _
  · rw [fl_word n hn h1, read_rung _ _ (by omega) h1]
    have hl := log2_le n.natAbs (by omega) h1
    refine Is.mk (52 - n.natAbs.log2) (by omega) ?_
    have e : ((n.natAbs.log2 : Int) - 52 + ((52 - n.natAbs.log2 : Nat) : Int)).toNat = 0 := by omega
    rw [e]
    unfold signed
    rw [Nat.shiftLeft_zero, Int.natCast_mul]
    have e2 : ((2 ^ (52 - n.natAbs.log2) : Nat) : Int) = 2 ^ (52 - n.natAbs.log2) := by simp
    rw [e2]
    by_cases h : n < 0
    · rw [if_pos (by simpa using h), ← Int.neg_mul]
      congr 1
      omega
    · rw [if_neg (by simpa using h)]
      congr 1
      omega
/-- What is written of a datum that is a whole number is read as that number. -/
theorem read_write {d : Datum} {n : Int} (hd : Is d n) (h1 : n.natAbs < 9007199254740992) : Is (double.read (double.write d)) n := by
  by_cases hn : n = 0
  · subst hn
    obtain ⟨s, e, _⟩ := write_zero hd
    rw [e, read_zero]
    exact is_zero _ _
  · rw [write_is hd hn h1, ← fl_word n hn h1]
    exact read_fl n h1

/-- A float that is the whole number n. -/
def Fl (x : Nat) (n : Int) : Prop := Is (double.read x) n
theorem Fl.mk (n : Int) (h : n.natAbs < 9007199254740992) : Fl (floatOfInt .f64 n) n := read_fl n h
theorem Fl.zero : Fl 0 0 := Fl.mk 0 (by decide)
theorem Fl.order {x y : Nat} {a b : Int} (hx : Fl x a) (hy : Fl y b) : double.order x y = some (compare a b) := Is.order hx hy
theorem Fl.eq {x y : Nat} {a b : Int} (hx : Fl x a) (hy : Fl y b) : (double.order x y == some .eq) = decide (a = b) := by
  rw [hx.order hy]
  rcases Int.lt_trichotomy a b with h | h | h
  · rw [Int.compare_eq_lt.2 h]; simp; omega
  · subst h; simp
  · rw [Int.compare_eq_gt.2 h]; simp; omega
theorem Fl.lt {x y : Nat} {a b : Int} (hx : Fl x a) (hy : Fl y b) : (double.order x y == some .lt) = decide (a < b) := by
  rw [hx.order hy]
  rcases Int.lt_trichotomy a b with h | h | h
  · rw [Int.compare_eq_lt.2 h]; simp [h]
  · subst h; simp
  · rw [Int.compare_eq_gt.2 h]; simp; omega
theorem Fl.gt {x y : Nat} {a b : Int} (hx : Fl x a) (hy : Fl y b) : (double.order x y == some .gt) = decide (b < a) := by
  rw [hx.order hy]
  rcases Int.lt_trichotomy a b with h | h | h
  · rw [Int.compare_eq_lt.2 h]; simp; omega
  · subst h; simp
  · rw [Int.compare_eq_gt.2 h]; simp [h]
theorem Fl.add {x y : Nat} {a b : Int} (hx : Fl x a) (hy : Fl y b) (h : (a + b).natAbs < 9007199254740992) : ∃ r, floatBits .add .f64 x y = some r ∧ Fl r (a + b) := by
  obtain ⟨d, e, hd⟩ := Is.sum hx hy
  exact ⟨double.write d, by show Option.map double.write ((double.read x).sum (double.read y)) = _; rw [e]; rfl, read_write hd h⟩
theorem Fl.sub {x y : Nat} {a b : Int} (hx : Fl x a) (hy : Fl y b) (h : (a - b).natAbs < 9007199254740992) : ∃ r, floatBits .sub .f64 x y = some r ∧ Fl r (a - b) := by
  obtain ⟨d, e, hd⟩ := Is.sum hx (Is.opposite hy)
  rw [← Int.sub_eq_add_neg] at hd
  exact ⟨double.write d, by show Option.map double.write ((double.read x).sum (double.read y).opposite) = _; rw [e]; rfl, read_write hd h⟩
theorem Fl.mul {x y : Nat} {a b : Int} (hx : Fl x a) (hy : Fl y b) (h : (a * b).natAbs < 9007199254740992) : ∃ r, floatBits .mul .f64 x y = some r ∧ Fl r (a * b) := by
  obtain ⟨d, e, hd⟩ := Is.product hx hy
  exact ⟨double.write d, by show Option.map double.write ((double.read x).product (double.read y)) = _; rw [e]; rfl, read_write hd h⟩

/-! ### Floats that are made whole -/

/-- A number that is at most 2^20, either way. -/
def Small (d : Datum) : Prop := ∃ s m i, d = .number s m i ∧ ∃ k : Nat, 0 ≤ i + k ∧ m * 2 ^ (i + k).toNat ≤ 1048576 * 2 ^ k

theorem cut_le (s : Bool) (m : Nat) (i : Int) (k : Nat) (hk : 0 ≤ i + k) (h : m * 2 ^ (i + k).toNat ≤ 1048576 * 2 ^ k) : Toward.zero.cut s (m <<< i.toNat) (-i).toNat ≤ 1048576 := by
  unfold Toward.cut
  simp only [Bool.toNat_false, Nat.add_zero, Nat.shiftLeft_eq, Nat.one_mul]
  by_cases hi : 0 ≤ i
  · have e0 : (-i).toNat = 0 := by omega
    rw [e0, Nat.zero_min, Nat.pow_zero, Nat.div_one]
    refine Nat.le_of_mul_le_mul_right ?_ (Nat.two_pow_pos k)
    rw [Nat.mul_assoc, ← Nat.pow_add, show i.toNat + k = (i + k).toNat by omega]
    exact h
  · have e0 : i.toNat = 0 := by omega
    rw [e0, Nat.pow_zero, Nat.mul_one]
    have hm : m ≤ 1048576 * 2 ^ (-i).toNat := by
      refine Nat.le_of_mul_le_mul_right ?_ (Nat.two_pow_pos (i + k).toNat)
      rw [Nat.mul_assoc, ← Nat.pow_add, show (-i).toNat + (i + k).toNat = k by omega]
      exact h
    by_cases hd : (-i).toNat ≤ m.log2 + 2
    · rw [Nat.min_eq_left hd]
      exact Nat.div_le_of_le_mul (by rw [Nat.mul_comm]; exact hm)
    · rw [Nat.min_eq_right (by omega)]
      have : m < 2 ^ (m.log2 + 2) := Nat.lt_of_lt_of_le (Nat.lt_log2_self (n := m)) (Nat.pow_le_pow_right (by decide) (by omega))
      rw [Nat.div_eq_of_lt this]
      omega
/-- Cut towards nought it is a whole number of at most 2^20; what is written of that is read as it. -/
theorem Small.whole {d : Datum} (h : Small d) : ∃ v : Int, v.natAbs ≤ 1048576 ∧ d.toInt .zero = some v ∧ Is (d.integral .zero) v := by
  obtain ⟨s, m, i, rfl, k, hk, hm⟩ := h
  have hc := cut_le s m i k hk hm
  refine ⟨signed s (Toward.zero.cut s (m <<< i.toNat) (-i).toNat) 0, ?_, rfl, ?_⟩
  · unfold signed
    rw [Nat.shiftLeft_zero]
    split <;> omega
  · exact Is.mk 0 (by simp) (by simp)
theorem cut_zero_exact (s : Bool) (a k : Nat) : Toward.zero.cut s (a * 2 ^ k) k = a := by
  have hp : 0 < 2 ^ k := Nat.two_pow_pos k
  by_cases h : a = 0
  · subst h
    unfold Toward.cut
    simp
  · unfold Toward.cut
    have hm : min k ((a * 2 ^ k).log2 + 2) = k := by rw [log2_mul a k h]; omega
    simp only [hm, Nat.shiftLeft_eq, Nat.one_mul, Nat.mul_div_cancel a hp]
    simp
theorem Is.toInt {d : Datum} {v : Int} (h : Is d v) : d.toInt .zero = some v ∧ Is (d.integral .zero) v := by
  obtain ⟨s, m, i, rfl⟩ := h.num
  have key : signed s (Toward.zero.cut s (m <<< i.toNat) (-i).toNat) 0 = v := by
    by_cases hi : 0 ≤ i
    · have e0 : (-i).toNat = 0 := by omega
      have e1 := cut_zero_exact s (m <<< i.toNat) 0
      rw [Nat.pow_zero, Nat.mul_one] at e1
      have e2 := h.at 0 (by simpa using hi)
      simp only [Int.natCast_zero, Int.add_zero, Int.pow_zero, Int.mul_one] at e2
      rw [e0, e1, ← e2]
      unfold signed
      rw [Nat.shiftLeft_zero]
    · have e0 : i.toNat = 0 := by omega
      have e2 := h.at (-i).toNat (by omega)
      have e3 : (i + ((-i).toNat : Int)).toNat = 0 := by omega
      rw [e3] at e2
      have e4 : m = v.natAbs * 2 ^ (-i).toNat := by
        have e := congrArg Int.natAbs e2
        rw [Int.natAbs_mul, Int.natAbs_pow] at e
        rw [show (2 : Int).natAbs = 2 from rfl] at e
        rw [← e]
        unfold signed
        rw [Nat.shiftLeft_zero]
        split <;> omega
      rw [e0, Nat.shiftLeft_zero, e4, cut_zero_exact]
      refine Int.eq_of_mul_eq_mul_right (Int.ne_of_gt (pow_pos (-i).toNat)) ?_
      rw [← e2, ← signed_add, Nat.zero_add]
      have e5 := signed_add s v.natAbs 0 (-i).toNat
      rw [Nat.zero_add] at e5
      unfold signed
      rw [Nat.shiftLeft_zero, Nat.shiftLeft_eq, ← e4]
  refine ⟨by show some _ = some _; rw [key], ?_⟩
  exact Is.mk 0 (by simp) (by simpa using key)
theorem Is.small {d : Datum} {v : Int} (h : Is d v) (hv : v.natAbs ≤ 1048576) : Small d := by
  obtain ⟨s, m, i, k, rfl, h1, h2⟩ := h
  refine ⟨s, m, i, rfl, k, h1, ?_⟩
  have e := congrArg Int.natAbs h2
  rw [Int.natAbs_mul, Int.natAbs_pow, show (2 : Int).natAbs = 2 from rfl] at e
  have e2 : (signed s m (i + k).toNat).natAbs = m * 2 ^ (i + k).toNat := by
    unfold signed
    rw [Nat.shiftLeft_eq]
    split <;> omega
  rw [← e2, e]
  exact Nat.mul_le_mul_right _ hv

/-- The part without its sign. -/
theorem read_abs (x : Nat) : double.read (x % 9223372036854775808) = (match double.read x with | .number _ m i => .number false m i | .infinity _ => .infinity false | .nan _ t => .nan false t) := by
  have esw : double.signWeight = 9223372036854775808 := by decide
  unfold Format.read
  simp only [esw]
  have h1 : x % 9223372036854775808 / 9223372036854775808 % 2 = 0 := by omega
  have h2 : x % 9223372036854775808 % 9223372036854775808 = x % 9223372036854775808 := by omega
  rw [h1, h2]
  split
  · rfl
  · split
    · rfl
    · split <;> rfl
/-- 'at most 2^20 without its sign' is what Small says. -/
theorem abs_small (x : Nat) : (double.order (x % 9223372036854775808) (floatOfInt .f64 1048576) == some .lt || double.order (x % 9223372036854775808) (floatOfInt .f64 1048576) == some .eq) = true ↔ Small (double.read x) := by
  have hfl := Fl.mk 1048576 (by decide)
  unfold Format.order
  rw [read_abs]
  obtain ⟨t, n, j, e⟩ := Is.num hfl
  have hfl' : Is (.number t n j) 1048576 := by rw [← e]; exact hfl
  rw [e]
  cases hx : double.read x with
  | nan s q => simp [Datum.order, Small]
  | infinity s => simp [Datum.order, Small]
  | number s m i =>
    obtain ⟨k, h1, h2⟩ := big2 i j
    simp only
    rw [order_at k h1 h2, hfl'.at k h2]
    have e1 : signed false m (i + k).toNat = ((m * 2 ^ (i + k).toNat : Nat) : Int) := by
      unfold signed
      rw [Nat.shiftLeft_eq]
      simp
    have e2 : (1048576 : Int) * 2 ^ k = ((1048576 * 2 ^ k : Nat) : Int) := by simp
    rw [e1, e2]
    constructor
    · intro h
      refine ⟨s, m, i, rfl, k, h1, ?_⟩
      rcases Int.lt_trichotomy ((m * 2 ^ (i + k).toNat : Nat) : Int) ((1048576 * 2 ^ k : Nat) : Int) with h' | h' | h'
      · omega
      · omega
      · rw [Int.compare_eq_gt.2 h'] at h
        simp at h
    · rintro ⟨s', m', i', e3, k', h1', h3⟩
      cases e3
      have h4 : m * 2 ^ (i + k).toNat ≤ 1048576 * 2 ^ k := by
        refine Nat.le_of_mul_le_mul_right ?_ (Nat.two_pow_pos k')
        rw [pow_eq m (i + k).toNat k' (i + k').toNat k (by omega), pow_eq 1048576 k k' k' k (by omega)]
        exact Nat.mul_le_mul_right _ h3
      rcases Int.lt_trichotomy ((m * 2 ^ (i + k).toNat : Nat) : Int) ((1048576 * 2 ^ k : Nat) : Int) with h' | h' | h'
      · rw [Int.compare_eq_lt.2 h']; rfl
      · rw [h']; simp
      · omega
/-- The same by two bounds. -/
theorem two_small (x : Nat) : ((double.order x (floatOfInt .f64 (-1048576)) == some .gt || double.order x (floatOfInt .f64 (-1048576)) == some .eq) = true ∧ (double.order x (floatOfInt .f64 1048576) == some .lt || double.order x (floatOfInt .f64 1048576) == some .eq) = true) ↔ Small (double.read x) := by
  have hfl := Fl.mk 1048576 (by decide)
  have hfm := Fl.mk (-1048576) (by decide)
  unfold Format.order
  obtain ⟨t, n, j, e⟩ := Is.num hfl
  obtain ⟨t', n', j', e'⟩ := Is.num hfm
  have hfl' : Is (.number t n j) 1048576 := by rw [← e]; exact hfl
  have hfm' : Is (.number t' n' j') (-1048576) := by rw [← e']; exact hfm
  rw [e, e']
  cases hx : double.read x with
  | nan s q => simp [Datum.order, Small]
  | infinity s => cases s <;> simp [Datum.order, Small]
  | number s m i =>
    let k : Nat := i.natAbs + j.natAbs + j'.natAbs
    have h1 : 0 ≤ i + (k : Int) := by omega
    have h2 : 0 ≤ j + (k : Int) := by omega
    have h3 : 0 ≤ j' + (k : Int) := by omega
    rw [order_at k h1 h2, order_at k h1 h3, hfl'.at k h2, hfm'.at k h3]
    have e1 : (signed s m (i + k).toNat).natAbs = m * 2 ^ (i + k).toNat := by
      unfold signed
      rw [Nat.shiftLeft_eq]
      split <;> omega
    have e2 : (1048576 : Int) * 2 ^ k = ((1048576 * 2 ^ k : Nat) : Int) := by simp
    rw [Int.neg_mul, e2]
    have hS : Small (.number s m i) ↔ m * 2 ^ (i + k).toNat ≤ 1048576 * 2 ^ k := by
      constructor
      · rintro ⟨s', m', i', e3, k', h1', h3⟩
        cases e3
        refine Nat.le_of_mul_le_mul_right ?_ (Nat.two_pow_pos k')
        rw [pow_eq m (i + k).toNat k' (i + k').toNat k (by omega), pow_eq 1048576 k k' k' k (by omega)]
        exact Nat.mul_le_mul_right _ h3
      · intro h
        exact ⟨s, m, i, rfl, k, h1, h⟩
    rw [hS]
    generalize signed s m (i + k).toNat = S at e1 ⊢
    generalize m * 2 ^ (i + (k : Int)).toNat = M at e1 ⊢
    generalize 1048576 * 2 ^ k = B
    have hc : ∀ a b : Int, (some (compare a b) == some Ordering.lt || some (compare a b) == some Ordering.eq) = decide (a ≤ b) := by
      intro a b
      rcases Int.lt_trichotomy a b with h' | h' | h'
      · rw [Int.compare_eq_lt.2 h']; simp; omega
      · subst h'; simp
      · rw [Int.compare_eq_gt.2 h']; simp; omega
    have hc' : ∀ a b : Int, (some (compare a b) == some Ordering.gt || some (compare a b) == some Ordering.eq) = decide (b ≤ a) := by
      intro a b
      rcases Int.lt_trichotomy a b with h' | h' | h'
      · rw [Int.compare_eq_lt.2 h']; simp; omega
      · subst h'; simp
      · rw [Int.compare_eq_gt.2 h']; simp; omega
    rw [hc, hc', decide_eq_true_eq, decide_eq_true_eq]
    omega

/-- A right part: a float that is a whole number of at most 2^20. -/
def Rt (x : Nat) (v : Int) : Prop := Fl x v ∧ v.natAbs ≤ 1048576

theorem order_symm_eq (d e : Datum) : (d.order e == some .eq) = (e.order d == some .eq) := by
  have key : ∀ d e : Datum, d.order e = some .eq → e.order d = some .eq := by
    intro d e h
    cases d with
    | nan _ _ => cases h
    | infinity s =>
      cases e with
      | nan _ _ => cases h
      | infinity t => cases s <;> cases t <;> simp [Datum.order] at h ⊢ <;> revert h <;> decide
      | number t n j => cases s <;> simp [Datum.order] at h
    | number s m i =>
      cases e with
      | nan _ _ => cases h
      | infinity t => cases t <;> simp [Datum.order] at h
      | number t n j =>
        obtain ⟨k, h1, h2⟩ := big2 i j
        rw [order_at k h1 h2, Option.some.injEq, Int.compare_eq_eq] at h
        rw [order_at k h2 h1, h]
        simp
  by_cases h : d.order e = some .eq
  · rw [h, key d e h]
  · by_cases h' : e.order d = some .eq
    · exact absurd (key e d h') h
    · rw [beq_eq_false_iff_ne.2 h, beq_eq_false_iff_ne.2 h']
end Go.Proofs.YtdeckknfolaaeaaGreatDoor.Num
