/-
  Plain facts on writing and reading: what is written is read.
  And: Reading an interface of bytes, as functions; what is written is read, what is read is written. No program in it. What ObjectParts asks of an object's imports and of its interface's items. No program in it.
-/
import Derived.Test.YtfjppbpicmniaaaGreatDoorG16
import Derived.Test.YtfjppbpicmniaaaGreatDoorG14
import Derived.Test.YtfjppbpicmniaaaGreatDoorG10
import Derived.Test.YtfjppbpicmniaaaGreatDoorG04
namespace Go.Proofs.YtfjppbpicmniaaaGreatDoor.Wire
open Go.RowKit

theorem pow_step (k : Nat) : 2 ^ (7 * (k + 1)) = 128 * 2 ^ (7 * k) := by rw [Nat.mul_add, Nat.pow_add]; omega
theorem pow_ten (k : Nat) (h : 10 ≤ k) : 18446744073709551616 ≤ 2 ^ (7 * k) := Nat.le_trans (by decide) (Nat.pow_le_pow_right (by omega : 0 < 2) (show 64 ≤ 7 * k by omega))

theorem dec_enc : ∀ (f m k acc : Nat) (L rest : List Nat), m < f → L.drop k = enc m ++ rest → k ≤ L.length → m * 2 ^ (7 * k) < 18446744073709551616 → (k = 0 ∨ 0 < m) → dec L k acc = (acc + m * 2 ^ (7 * k), k + (enc m).length, 0)
  | 0, m, k, acc, L, rest, hf, hL, hkl, hlt, hk => by omega
  | f + 1, m, k, acc, L, rest, hf, hL, hkl, hlt, hk => by
    by_cases h1 : 128 ≤ m
    · have hk9 : k < 10 := by
        rcases Nat.lt_or_ge k 10 with h | h
        · exact h
        · have h2 := pow_ten k h
          have h3 : 128 * 2 ^ (7 * k) ≤ m * 2 ^ (7 * k) := Nat.mul_le_mul_right _ h1
          omega
      rw [enc_big h1, List.cons_append] at hL
      have hx : L[k]? = some (m % 128 + 128) := by
        have := congrArg (fun l => l[0]?) hL
        simpa using this
      have hd : L.drop (k + 1) = enc (m / 128) ++ rest := by
        have := congrArg List.tail hL
        simpa using this
      have hkl' : k + 1 ≤ L.length := (List.getElem?_eq_some_iff.1 hx).1
      rw [dec_on hk9 hx (by omega)]
      have hp : m / 128 * 2 ^ (7 * (k + 1)) + m % 128 * 2 ^ (7 * k) = m * 2 ^ (7 * k) := by
        rw [pow_step, ← Nat.mul_assoc, ← Nat.add_mul, Nat.div_add_mod']
      rw [dec_enc f (m / 128) (k + 1) _ L rest (by omega) hd hkl' (by omega) (by omega), enc_big h1]
      have e1 : (m % 128 + 128) % 128 = m % 128 := by omega
      rw [e1]
      simp only [List.length_cons, Prod.mk.injEq, and_true]
      omega
    · rw [enc_small (by omega), List.cons_append] at hL
      have hx : L[k]? = some m := by
        have := congrArg (fun l => l[0]?) hL
        simpa using this
      have hk10 : k < 10 ∧ ¬ (1 < m ∧ k = 9) := by
        constructor
        · rcases Nat.lt_or_ge k 10 with h | h
          · exact h
          · have h2 := pow_ten k h
            have h3 : 1 * 2 ^ (7 * k) ≤ m * 2 ^ (7 * k) := Nat.mul_le_mul_right _ (by omega)
            omega
        · rintro ⟨h2, rfl⟩
          have h3 : 2 * 2 ^ (7 * 9) ≤ m * 2 ^ (7 * 9) := Nat.mul_le_mul_right _ h2
          have h4 : 2 * 2 ^ (7 * 9) = 18446744073709551616 := by decide
          omega
      rw [dec_ok hk10.1 hx (by omega) (by omega), enc_small (by omega)]
      rfl

theorem dec_written (n : Nat) (rest : List Nat) (h : n < 18446744073709551616) : dec (enc n ++ rest) 0 0 = (n, (enc n).length, 0) := by
  have := dec_enc (n + 1) n 0 0 (enc n ++ rest) rest (Nat.lt_succ_self _) rfl (Nat.zero_le _) (by simpa using h) (Or.inl rfl)
  simpa using this

theorem enc_dec : ∀ (f k acc : Nat) (L : List Nat), 10 - k ≤ f → (∀ x ∈ L, x < 256) → acc < 2 ^ (7 * k) → (dec L k acc).2.2 = 0 → ∃ m, dec L k acc = (acc + m * 2 ^ (7 * k), k + (enc m).length, 0) ∧ (L.drop k).take (enc m).length = enc m ∧ (k = 0 ∨ 0 < m)
  | 0, k, acc, L, hf, h256, ha, h => by rw [dec_end (by omega)] at h; simp at h
  | f + 1, k, acc, L, hf, h256, ha, h => by
    by_cases hk : k < 10
    · cases hx : L[k]? with
      | none => rw [dec_none hk hx] at h; simp at h
      | some x =>
        have hlt : k < L.length := (List.getElem?_eq_some_iff.1 hx).1
        have hd : L.drop k = x :: L.drop (k + 1) := by
          rw [List.drop_eq_getElem_cons hlt]
          have e := (List.getElem?_eq_some_iff.1 hx).2
          rw [e]
        have hx2 : x < 256 := h256 x (List.mem_of_getElem? hx)
        by_cases h1 : 128 ≤ x
        · rw [dec_on hk hx h1] at h ⊢
          have hm : x % 128 < 128 := Nat.mod_lt _ (by omega)
          have h4 : x % 128 * 2 ^ (7 * k) ≤ 127 * 2 ^ (7 * k) := Nat.mul_le_mul_right _ (by omega)
          have e2 := pow_step k
          obtain ⟨m, e, ht, hp⟩ := enc_dec f (k + 1) _ L (by omega) h256 (by omega) h
          have hm0 : 0 < m := by omega
          have e3 : enc (x % 128 + 128 * m) = x :: enc m := by
            rw [enc_big (by omega), show (x % 128 + 128 * m) % 128 + 128 = x by omega, show (x % 128 + 128 * m) / 128 = m by omega]
          refine ⟨x % 128 + 128 * m, ?_, ?_, by omega⟩
          · rw [e, e3]
            have e5 : (x % 128 + 128 * m) * 2 ^ (7 * k) = x % 128 * 2 ^ (7 * k) + m * 2 ^ (7 * (k + 1)) := by
              rw [pow_step, Nat.add_mul, Nat.mul_comm 128 m, Nat.mul_assoc]
            rw [e5]
            simp only [List.length_cons, Prod.mk.injEq, and_true]
            omega
          · rw [e3, hd]
            simpa using ht
        · by_cases h2 : (x = 0 ∧ 0 < k) ∨ (1 < x ∧ k = 9)
          · rw [dec_bad hk hx (by omega) h2] at h; simp at h
          · refine ⟨x, ?_, ?_, by omega⟩
            · rw [dec_ok hk hx (by omega) h2, enc_small (by omega)]; rfl
            · rw [enc_small (by omega), hd]; rfl
    · rw [dec_end (by omega)] at h; simp at h

theorem rNum_written (pre rest : List Nat) (n most : Nat) (h : n < 18446744073709551616) :
    rNum (pre ++ enc n ++ rest) pre.length 0 most = if most < n then (0, pre.length, 3) else (n, pre.length + (enc n).length, 0) := by
  have e : (pre ++ enc n ++ rest).drop pre.length = enc n ++ rest := by simp
  unfold rNum
  rw [e, dec_written n rest h]
  simp

theorem zag_zig (n : Int) : zag (zig n) = n := by
  unfold zag zig
  split <;> split <;> omega
theorem zig_lt (n : Int) (h0 : -9223372036854775808 ≤ n) (h1 : n < 9223372036854775808) : zig n < 18446744073709551616 := by
  unfold zig
  split <;> omega

theorem rTake_written (pre s rest : List Nat) : rTake (pre ++ s ++ rest) pre.length 0 (s.length : Nat) = (s, pre.length + s.length, 0) := by
  unfold rTake
  by_cases h : s = []
  · subst h; simp
  · have : 0 < s.length := List.length_pos_iff.2 h
    rw [if_neg (by omega), if_neg (by simp; omega)]
    simp

theorem bytes_256 (s : ByteArray) : ∀ x ∈ s.data.toList.map UInt8.toNat, x < 256 := by
  intro x hx
  obtain ⟨b, _, rfl⟩ := List.mem_map.1 hx
  exact b.toNat_lt
theorem enc_256' : ∀ (f n : Nat), n < f → ∀ x ∈ enc n, x < 256
  | 0, n, hf, x, hx => by omega
  | f + 1, n, hf, x, hx => by
    by_cases h : 128 ≤ n
    · rw [enc_big h] at hx
      rcases List.mem_cons.1 hx with rfl | hx
      · omega
      · exact enc_256' f (n / 128) (by omega) x hx
    · rw [enc_small (by omega)] at hx
      simp at hx
      omega
theorem enc_256 (n : Nat) : ∀ x ∈ enc n, x < 256 := enc_256' (n + 1) n (Nat.lt_succ_self _)
end Go.Proofs.YtfjppbpicmniaaaGreatDoor.Wire

namespace Go.Proofs.YtfjppbpicmniaaaGreatDoor
open Wire (rNum rTake rEnd enc)

def txtR (l : List Nat) (most p y : Nat) : List UInt8 × Nat × Nat :=
  ((rTake l (rNum l p y most).2.1 (rNum l p y most).2.2 (rNum l p y most).1).1.map UInt8.ofNat, (rTake l (rNum l p y most).2.1 (rNum l p y most).2.2 (rNum l p y most).1).2.1, (rTake l (rNum l p y most).2.1 (rNum l p y most).2.2 (rNum l p y most).1).2.2)
def badW (y : Nat) : Bool := decide (y ≠ 0) && decide (y ≠ 11)
def listF {α : Type} (rd : Nat → Nat → α × Nat × Nat) : Nat → Nat → Nat → List α → List α × Nat × Nat
  | 0, p, y, acc => (acc, p, y)
  | n + 1, p, y, acc => if badW (rd p y).2.2 = true then ([], (rd p y).2.1, (rd p y).2.2) else listF rd n (rd p y).2.1 (rd p y).2.2 (acc ++ [(rd p y).1])
def listR {α : Type} (l : List Nat) (rd : Nat → Nat → α × Nat × Nat) (p y : Nat) : List α × Nat × Nat := listF rd (rNum l p y 65535).1 (rNum l p y 65535).2.1 (rNum l p y 65535).2.2 []
def caseR (l : List Nat) (p y : Nat) : Cs × Nat × Nat :=
  (((txtR l 24 p y).1, (listR l (txtR l 200) (txtR l 24 p y).2.1 (txtR l 24 p y).2.2).1), (listR l (txtR l 200) (txtR l 24 p y).2.1 (txtR l 24 p y).2.2).2)
/-- An item behind its kind and its name. -/
def itemT (l : List Nat) (k : Nat) (nm : List UInt8) (p y : Nat) : It × Nat × Nat :=
  if k = 1 then (⟨(k : Int), nm, [], (listR l (caseR l) p y).1⟩, (listR l (caseR l) p y).2) else (⟨(k : Int), nm, (txtR l 200 p y).1, []⟩, (txtR l 200 p y).2)
def itemN (l : List Nat) (k p y : Nat) : It × Nat × Nat := itemT l k (txtR l 24 p y).1 (txtR l 24 p y).2.1 (txtR l 24 p y).2.2
def itemR (l : List Nat) (p y : Nat) : It × Nat × Nat := itemN l (rNum l p y 65535).1 (rNum l p y 65535).2.1 (rNum l p y 65535).2.2
def itemsR (l : List Nat) : List It × Nat × Nat := listR l (itemR l) (txtR l 24 0 0).2.1 (txtR l 24 0 0).2.2
def endR (l : List Nat) : Nat × Nat := rEnd l (itemsR l).2.1 (itemsR l).2.2
/-- Why it is refused, and where; 0: it isn't. -/
def whyD (l : List Nat) : Nat × Nat := if (endR l).1 ≠ 0 then endR l else (rightI (txtR l 24 0 0).1 (itemsR l).1, 0)

theorem take_le (l : List Nat) (p y n : Nat) (hp : p ≤ l.length) : (rTake l p y (n : Int)).2.1 ≤ l.length := by
  unfold rTake
  split
  · exact hp
  · split
    · simp
    · simp
      omega
theorem txt_le (l : List Nat) (most p y : Nat) (hp : p ≤ l.length) : (txtR l most p y).2.1 ≤ l.length := take_le l _ _ _ (Wire.rNum_le l p y most hp)
theorem num_stick (l : List Nat) (most p y : Nat) (h : y ≠ 0) : rNum l p y most = (0, p, y) := by simp [rNum, h]
theorem take_stick (l : List Nat) (p y : Nat) (n : Int) (h : y ≠ 0) : rTake l p y n = ([], p, y) := by simp [rTake, h]
theorem txt_stick (l : List Nat) (most p y : Nat) (h : y ≠ 0) : (txtR l most p y).2.2 = y := by
  unfold txtR
  rw [num_stick l most p y h, take_stick l p y _ h]
theorem listF_le {α : Type} {l : List Nat} {rd : Nat → Nat → α × Nat × Nat} (hrd : ∀ p y, p ≤ l.length → (rd p y).2.1 ≤ l.length) : ∀ (n p y : Nat) (acc : List α), p ≤ l.length → (listF rd n p y acc).2.1 ≤ l.length
  | 0, p, y, acc, h => h
  | n + 1, p, y, acc, h => by
    rw [listF]
    split
    · exact hrd p y h
    · exact listF_le hrd n _ _ _ (hrd p y h)
theorem list_le {α : Type} {l : List Nat} {rd : Nat → Nat → α × Nat × Nat} (hrd : ∀ p y, p ≤ l.length → (rd p y).2.1 ≤ l.length) (p y : Nat) (h : p ≤ l.length) : (listR l rd p y).2.1 ≤ l.length := listF_le hrd _ _ _ _ (Wire.rNum_le l p y 65535 h)
theorem list_stick {α : Type} (l : List Nat) (rd : Nat → Nat → α × Nat × Nat) (p y : Nat) (h : y ≠ 0) : (listR l rd p y).2.2 = y := by
  unfold listR
  rw [num_stick l 65535 p y h]
  rfl
theorem case_le (l : List Nat) (p y : Nat) (h : p ≤ l.length) : (caseR l p y).2.1 ≤ l.length := list_le (txt_le l 200) _ _ (txt_le l 24 p y h)
theorem case_stick (l : List Nat) (p y : Nat) (h : y ≠ 0) : (caseR l p y).2.2 = y := by
  unfold caseR
  have e := txt_stick l 24 p y h
  show (listR l (txtR l 200) (txtR l 24 p y).2.1 (txtR l 24 p y).2.2).2.2 = y
  rw [list_stick _ _ _ _ (by rw [e]; exact h), e]
theorem itemT_le (l : List Nat) (k : Nat) (nm : List UInt8) (p y : Nat) (h : p ≤ l.length) : (itemT l k nm p y).2.1 ≤ l.length := by
  unfold itemT
  split
  · exact list_le (case_le l) _ _ h
  · exact txt_le l 200 p y h
theorem item_le (l : List Nat) (p y : Nat) (h : p ≤ l.length) : (itemR l p y).2.1 ≤ l.length := itemT_le l _ _ _ _ (txt_le l 24 _ _ (Wire.rNum_le l p y 65535 h))
theorem itemT_stick (l : List Nat) (k : Nat) (nm : List UInt8) (p y : Nat) (h : y ≠ 0) : (itemT l k nm p y).2.2 = y := by
  unfold itemT
  split
  · exact list_stick _ _ _ _ h
  · exact txt_stick l 200 p y h
theorem item_stick (l : List Nat) (p y : Nat) (h : y ≠ 0) : (itemR l p y).2.2 = y := by
  unfold itemR
  rw [num_stick l 65535 p y h]
  show (itemT l 0 (txtR l 24 p y).1 (txtR l 24 p y).2.1 (txtR l 24 p y).2.2).2.2 = y
  have e := txt_stick l 24 p y h
  rw [itemT_stick _ _ _ _ _ (by rw [e]; exact h), e]

/-- What is read well was there. -/
theorem num_back (l : List Nat) (h256 : ∀ x ∈ l, x < 256) (most p n p' : Nat) (hp : p ≤ l.length) (h : rNum l p 0 most = (n, p', 0)) : l.drop p = enc n ++ l.drop p' ∧ n ≤ most ∧ p' ≤ l.length ∧ p ≤ p' := by
  have hle := Wire.rNum_le l p 0 most hp
  rw [h] at hle
  unfold rNum at h
  rw [if_neg (by simp)] at h
  split at h
  · simp at h
  · split at h
    · rename_i h1 h2
      simp only [Prod.mk.injEq] at h
      exact absurd h.2.2 h2
    · rename_i h1 h2
      split at h
      · simp at h
      · rename_i h3
        obtain ⟨m, e, ht, _⟩ := Wire.enc_dec 10 0 0 (l.drop p) (by omega) (fun x hx => h256 x (List.mem_of_mem_drop hx)) (by decide) (Classical.not_not.1 h2)
        rw [e] at h h3
        simp only [Nat.zero_add, Nat.mul_zero, Nat.pow_zero, Nat.mul_one, Prod.mk.injEq, and_true] at h h3
        obtain ⟨rfl, rfl⟩ := h
        refine ⟨?_, by omega, hle, by omega⟩
        rw [List.drop_zero] at ht
        have e2 := List.take_append_drop (enc m).length (l.drop p)
        rw [ht, List.drop_drop] at e2
        exact e2.symm
theorem ofNat_toNat (x : List Nat) (h : ∀ n ∈ x, n < 256) : (x.map UInt8.ofNat).map UInt8.toNat = x := by
  rw [List.map_map]
  conv => rhs; rw [← List.map_id x]
  refine List.map_congr_left fun n hn => ?_
  have := h n hn
  simp [Nat.mod_eq_of_lt this]
theorem txt_back (l : List Nat) (h256 : ∀ x ∈ l, x < 256) (most p : Nat) (hp : p ≤ l.length) (x : List UInt8) (p' : Nat) (h : txtR l most p 0 = (x, p', 0)) : l.drop p = txtB x ++ l.drop p' ∧ p' ≤ l.length := by
  have hy : (rNum l p 0 most).2.2 = 0 := by
    by_cases e : (rNum l p 0 most).2.2 = 0
    · exact e
    · unfold txtR at h
      rw [take_stick _ _ _ _ e] at h
      simp only [Prod.mk.injEq] at h
      exact absurd h.2.2 e
  obtain ⟨n, p1, y1, hr⟩ : ∃ n p1 y1, rNum l p 0 most = (n, p1, y1) := ⟨_, _, _, rfl⟩
  rw [hr] at hy
  simp only at hy
  subst hy
  obtain ⟨h1, h2, h3, h4⟩ := num_back l h256 most p n p1 hp hr
  unfold txtR at h
  rw [hr] at h
  simp only at h
  unfold rTake at h
  split at h
  · rename_i h5
    simp only [ne_eq, not_true_eq_false, false_or] at h5
    have hn0 : n = 0 := by omega
    subst hn0
    simp only [List.map_nil, Prod.mk.injEq, and_true] at h
    obtain ⟨rfl, rfl⟩ := h
    exact ⟨by rw [h1]; rfl, h3⟩
  · rename_i h5
    split at h
    · simp at h
    · rename_i h6
      simp only [Int.toNat_natCast, Prod.mk.injEq, and_true] at h
      obtain ⟨rfl, rfl⟩ := h
      have h7 : p1 + n ≤ l.length := by omega
      refine ⟨?_, h7⟩
      unfold txtB
      have hlen : ((l.drop p1).take n).length = n := by simp; omega
      rw [List.length_map, hlen, ofNat_toNat _ (fun m hm => h256 m (List.mem_of_mem_drop (List.mem_of_mem_take hm))), h1, List.append_assoc]
      congr 1
      rw [← List.drop_drop, List.take_append_drop]
theorem listF_back {α : Type} {l : List Nat} {rd : Nat → Nat → α × Nat × Nat} (E : α → List Nat) (hst : ∀ p y, y ≠ 0 → (rd p y).2.2 = y) (hbk : ∀ p, p ≤ l.length → ∀ x p', rd p 0 = (x, p', 0) → l.drop p = E x ++ l.drop p' ∧ p' ≤ l.length) :
    ∀ (n p : Nat) (acc xs : List α) (p' : Nat), p ≤ l.length → listF rd n p 0 acc = (xs, p', 0) → ∃ ys, xs = acc ++ ys ∧ ys.length = n ∧ l.drop p = ys.flatMap E ++ l.drop p' ∧ p' ≤ l.length
  | 0, p, acc, xs, p', hp, h => by
    simp only [listF, Prod.mk.injEq, and_true] at h
    obtain ⟨rfl, rfl⟩ := h
    exact ⟨[], by simp, rfl, by simp, hp⟩
  | n + 1, p, acc, xs, p', hp, h => by
    rw [listF] at h
    obtain ⟨x, q, y, hr⟩ : ∃ x q y, rd p 0 = (x, q, y) := ⟨_, _, _, rfl⟩
    rw [hr] at h
    simp only at h
    split at h
    · rename_i hb
      simp only [Prod.mk.injEq] at h
      rw [h.2.2] at hb
      simp [badW] at hb
    · have hy : y = 0 := by
        refine Classical.byContradiction fun hy => ?_
        have : ∀ (n q : Nat) (acc : List α), (listF rd n q y acc).2.2 ≠ 0 := by
          intro n
          induction n with
          | zero => intro q acc; exact hy
          | succ n ih =>
            intro q acc
            rw [listF]
            have e := hst q y hy
            split
            · rw [e]; exact hy
            · rw [e]; exact ih _ _
        exact this n q (acc ++ [x]) (by rw [h])
      subst hy
      obtain ⟨h1, h2⟩ := hbk p hp x q hr
      obtain ⟨ys, rfl, h3, h4, h5⟩ := listF_back E hst hbk n q (acc ++ [x]) xs p' h2 h
      exact ⟨x :: ys, by simp, by simp [h3], by rw [h1, h4, List.flatMap_cons, List.append_assoc], h5⟩
theorem list_back {α : Type} {l : List Nat} (h256 : ∀ x ∈ l, x < 256) {rd : Nat → Nat → α × Nat × Nat} (E : α → List Nat) (hst : ∀ p y, y ≠ 0 → (rd p y).2.2 = y) (hbk : ∀ p, p ≤ l.length → ∀ x p', rd p 0 = (x, p', 0) → l.drop p = E x ++ l.drop p' ∧ p' ≤ l.length)
    (p : Nat) (hp : p ≤ l.length) (xs : List α) (p' : Nat) (h : listR l rd p 0 = (xs, p', 0)) : l.drop p = (enc xs.length ++ xs.flatMap E) ++ l.drop p' ∧ p' ≤ l.length := by
  unfold listR at h
  obtain ⟨n, q, y, hr⟩ : ∃ n q y, rNum l p 0 65535 = (n, q, y) := ⟨_, _, _, rfl⟩
  rw [hr] at h
  simp only at h
  by_cases hy : y = 0
  · subst hy
    obtain ⟨h1, _, h3, _⟩ := num_back l h256 65535 p n q hp hr
    obtain ⟨ys, rfl, h4, h5, h6⟩ := listF_back E hst hbk n q [] xs p' h3 h
    refine ⟨?_, h6⟩
    rw [h4, h1, h5, List.append_assoc]
  · exfalso
    have hn : n = 0 := by
      have := hr
      unfold rNum at this
      rw [if_neg (by simp)] at this
      split at this
      · simp only [Prod.mk.injEq] at this; exact this.1.symm
      · split at this
        · simp only [Prod.mk.injEq] at this; exact this.1.symm
        · split at this
          · simp only [Prod.mk.injEq] at this; exact this.1.symm
          · simp only [Prod.mk.injEq] at this; exact absurd this.2.2.symm hy
    subst hn
    simp only [listF, Prod.mk.injEq] at h
    exact hy h.2.2
theorem fieldsB_flat : ∀ fs : List (List UInt8), fieldsB fs = fs.flatMap txtB
  | [] => rfl
  | f :: r => by rw [fieldsB, fieldsB_flat r, List.flatMap_cons]
theorem casesB_flat : ∀ fs : List Cs, casesB fs = fs.flatMap caseB
  | [] => rfl
  | f :: r => by rw [casesB, casesB_flat r, List.flatMap_cons]
theorem itemsB_flat : ∀ fs : List It, itemsB fs = fs.flatMap itemB
  | [] => rfl
  | f :: r => by rw [itemsB, itemsB_flat r, List.flatMap_cons]
theorem case_back (l : List Nat) (h256 : ∀ x ∈ l, x < 256) (p : Nat) (hp : p ≤ l.length) (c : Cs) (p' : Nat) (h : caseR l p 0 = (c, p', 0)) : l.drop p = caseB c ++ l.drop p' ∧ p' ≤ l.length := by
  unfold caseR at h
  obtain ⟨n, q, y, hr⟩ : ∃ n q y, txtR l 24 p 0 = (n, q, y) := ⟨_, _, _, rfl⟩
  rw [hr] at h
  simp only at h
  obtain ⟨fs, q2, y2, hr2⟩ : ∃ n q' y', listR l (txtR l 200) q y = (n, q', y') := ⟨_, _, _, rfl⟩
  rw [hr2] at h
  simp only [Prod.mk.injEq] at h
  obtain ⟨rfl, rfl, rfl⟩ := h
  have hy : y = 0 := by
    refine Classical.byContradiction fun hy => ?_
    have := list_stick l (txtR l 200) q y hy
    rw [hr2] at this
    exact hy this.symm
  subst hy
  obtain ⟨h1, h2⟩ := txt_back l h256 24 p hp n q hr
  obtain ⟨h3, h4⟩ := list_back h256 txtB (txt_stick l 200) (fun p hp => txt_back l h256 200 p hp) q h2 fs q2 hr2
  refine ⟨?_, h4⟩
  rw [h1, h3, caseB, fieldsB_flat]
  simp only [List.append_assoc]
theorem item_back (l : List Nat) (h256 : ∀ x ∈ l, x < 256) (p : Nat) (hp : p ≤ l.length) (x : It) (p' : Nat) (h : itemR l p 0 = (x, p', 0)) : l.drop p = itemB x ++ l.drop p' ∧ p' ≤ l.length := by
  unfold itemR itemN at h
  obtain ⟨k, q, y, hr⟩ : ∃ n q y, rNum l p 0 65535 = (n, q, y) := ⟨_, _, _, rfl⟩
  rw [hr] at h
  simp only at h
  obtain ⟨nm, q1, y1, hr1⟩ : ∃ n q' y', txtR l 24 q y = (n, q', y') := ⟨_, _, _, rfl⟩
  rw [hr1] at h
  simp only at h
  have hy1 : y1 = 0 := by
    refine Classical.byContradiction fun hy => ?_
    have := itemT_stick l k nm q1 y1 hy
    rw [h] at this
    exact hy this.symm
  subst hy1
  have hy : y = 0 := by
    refine Classical.byContradiction fun hy => ?_
    have := txt_stick l 24 q y hy
    rw [hr1] at this
    exact hy this.symm
  subst hy
  obtain ⟨h1, _, h3, _⟩ := num_back l h256 65535 p k q hp hr
  obtain ⟨h4, h5⟩ := txt_back l h256 24 q h3 nm q1 hr1
  unfold itemT at h
  split at h
  · rename_i hk
    subst hk
    obtain ⟨cs, q2, y2, hr2⟩ : ∃ n q' y', listR l (caseR l) q1 0 = (n, q', y') := ⟨_, _, _, rfl⟩
    rw [hr2] at h
    simp only [Prod.mk.injEq] at h
    obtain ⟨rfl, rfl, rfl⟩ := h
    obtain ⟨h6, h7⟩ := list_back h256 caseB (case_stick l) (fun p hp => case_back l h256 p hp) q1 h5 cs q2 hr2
    refine ⟨?_, h7⟩
    rw [h1, h4, h6, itemB, if_pos (show ((1 : Nat) : Int) = 1 from rfl), casesB_flat]
    simp only [List.append_assoc, Int.toNat_natCast]
  · rename_i hk
    obtain ⟨ty, q2, y2, hr2⟩ : ∃ n q' y', txtR l 200 q1 0 = (n, q', y') := ⟨_, _, _, rfl⟩
    rw [hr2] at h
    simp only [Prod.mk.injEq] at h
    obtain ⟨rfl, rfl, rfl⟩ := h
    obtain ⟨h6, h7⟩ := txt_back l h256 200 q1 h5 ty q2 hr2
    refine ⟨?_, h7⟩
    rw [h1, h4, h6, itemB, if_neg (show ¬ ((k : Int) = 1) by omega)]
    simp only [List.append_assoc, Int.toNat_natCast]
/-- What is read is written as its bytes. -/
theorem dec_back (l : List Nat) (h256 : ∀ x ∈ l, x < 256) (h : (endR l).1 = 0) : ifaceB (txtR l 24 0 0).1 (itemsR l).1 = l := by
  have he : (itemsR l).2.2 = 0 ∧ l.length ≤ (itemsR l).2.1 := by
    unfold endR rEnd at h
    split at h
    · rename_i h1; exact absurd h h1
    · rename_i h1
      split at h
      · cases h
      · rename_i h2
        exact ⟨Classical.not_not.1 h1, by omega⟩
  unfold itemsR at he ⊢
  obtain ⟨m, q, y, hr⟩ : ∃ n q y, txtR l 24 0 0 = (n, q, y) := ⟨_, _, _, rfl⟩
  rw [hr] at he ⊢
  simp only at he ⊢
  obtain ⟨xs, q2, y2, hr2⟩ : ∃ n q' y', listR l (itemR l) q y = (n, q', y') := ⟨_, _, _, rfl⟩
  rw [hr2] at he ⊢
  simp only at he ⊢
  obtain ⟨rfl, he2⟩ := he
  have hy : y = 0 := by
    refine Classical.byContradiction fun hy => ?_
    have := list_stick l (itemR l) q y hy
    rw [hr2] at this
    exact hy this.symm
  subst hy
  obtain ⟨h1, h2⟩ := txt_back l h256 24 0 (Nat.zero_le _) m q hr
  obtain ⟨h3, h4⟩ := list_back h256 itemB (item_stick l) (fun p hp => item_back l h256 p hp) q h2 xs q2 hr2
  rw [List.drop_zero] at h1
  rw [h1, h3, List.drop_eq_nil_of_le he2, ifaceB, itemsB_flat]
  simp only [List.append_nil]

/-- What is written is read. -/
theorem num_forth (l : List Nat) (most p n : Nat) (rest : List Nat) (hn : n ≤ most) (hm : most < 18446744073709551616) (h : l.drop p = enc n ++ rest) : rNum l p 0 most = (n, p + (enc n).length, 0) := by
  unfold rNum
  rw [if_neg (by simp), h, Wire.dec_written n rest (by omega)]
  simp
  omega
theorem drop_more {l a rest : List Nat} {p : Nat} (h : l.drop p = a ++ rest) : l.drop (p + a.length) = rest := by
  rw [← List.drop_drop, h, List.drop_left]
theorem drop_len {l a rest : List Nat} {p : Nat} (hp : p ≤ l.length) (h : l.drop p = a ++ rest) : p + a.length + rest.length = l.length := by
  have := congrArg List.length h
  simp at this
  omega
theorem toNat_ofNat (x : List UInt8) : (x.map UInt8.toNat).map UInt8.ofNat = x := by
  rw [List.map_map]
  conv => rhs; rw [← List.map_id x]
  exact List.map_congr_left fun n _ => by simp
theorem txt_forth (l : List Nat) (most p : Nat) (x : List UInt8) (rest : List Nat) (hp : p ≤ l.length) (hx : x.length ≤ most) (hm : most < 18446744073709551616) (h : l.drop p = txtB x ++ rest) : txtR l most p 0 = (x, p + (txtB x).length, 0) := by
  unfold txtB at h
  rw [List.append_assoc] at h
  have h1 := num_forth l most p x.length _ hx hm h
  have h2 := drop_more h
  have h3 := drop_len hp h
  simp only [List.length_append, List.length_map] at h3
  unfold txtR
  rw [h1]
  simp only
  unfold rTake
  by_cases h0 : x = []
  · subst h0
    simp [txtB]
  · have : 0 < x.length := List.length_pos_iff.2 h0
    rw [if_neg (by omega), if_neg (by omega), h2]
    simp only [Int.toNat_natCast]
    rw [List.take_left' (by simp), toNat_ofNat]
    simp [txtB]
    omega
theorem listF_forth {α : Type} {l : List Nat} {rd : Nat → Nat → α × Nat × Nat} (E : α → List Nat) (ok : α → Prop) (hf : ∀ p x rest, p ≤ l.length → ok x → l.drop p = E x ++ rest → rd p 0 = (x, p + (E x).length, 0)) :
    ∀ (ys : List α) (p : Nat) (acc : List α) (rest : List Nat), p ≤ l.length → (∀ x ∈ ys, ok x) → l.drop p = ys.flatMap E ++ rest → listF rd ys.length p 0 acc = (acc ++ ys, p + (ys.flatMap E).length, 0)
  | [], p, acc, rest, hp, hok, h => by simp [listF]
  | x :: ys, p, acc, rest, hp, hok, h => by
    rw [List.flatMap_cons, List.append_assoc] at h
    have h1 := hf p x _ hp (hok x (by simp)) h
    have h2 := drop_len hp h
    rw [List.length_cons, listF, h1]
    simp only
    rw [if_neg (by simp [badW]), listF_forth E ok hf ys (p + (E x).length) (acc ++ [x]) rest (by omega) (fun y hy => hok y (by simp [hy])) (drop_more h)]
    simp [List.flatMap_cons]
    omega
theorem list_forth {α : Type} {l : List Nat} {rd : Nat → Nat → α × Nat × Nat} (E : α → List Nat) (ok : α → Prop) (hf : ∀ p x rest, p ≤ l.length → ok x → l.drop p = E x ++ rest → rd p 0 = (x, p + (E x).length, 0))
    (ys : List α) (p : Nat) (rest : List Nat) (hp : p ≤ l.length) (hn : ys.length ≤ 65535) (hok : ∀ x ∈ ys, ok x) (h : l.drop p = (enc ys.length ++ ys.flatMap E) ++ rest) : listR l rd p 0 = (ys, p + (enc ys.length ++ ys.flatMap E).length, 0) := by
  rw [List.append_assoc] at h
  unfold listR
  rw [num_forth l 65535 p ys.length _ hn (by decide) h]
  simp only
  have h2 := drop_len hp h
  rw [listF_forth E ok hf ys _ [] rest (by omega) hok (drop_more h)]
  simp
  omega
def CsS (c : Cs) : Prop := c.1.length ≤ 24 ∧ c.2.length ≤ 4 ∧ ∀ f ∈ c.2, f.length ≤ 200
theorem case_forth (l : List Nat) (p : Nat) (c : Cs) (rest : List Nat) (hp : p ≤ l.length) (hc : CsS c) (h : l.drop p = caseB c ++ rest) : caseR l p 0 = (c, p + (caseB c).length, 0) := by
  unfold caseB at h
  rw [List.append_assoc] at h
  have h1 := txt_forth l 24 p c.1 _ hp hc.1 (by decide) h
  have h2 := drop_len hp h
  have h3 := list_forth txtB (fun f => f.length ≤ 200) (fun p x rest hp hx h => txt_forth l 200 p x rest hp hx (by decide) h) c.2 (p + (txtB c.1).length) rest (by omega) (by have := hc.2.1; omega) hc.2.2 (by rw [drop_more h, fieldsB_flat])
  unfold caseR
  rw [h1]
  simp only
  rw [h3]
  simp [caseB, fieldsB_flat]
  omega
structure ItS (x : It) : Prop where
  kind : 1 ≤ x.kind ∧ x.kind ≤ 3
  name : x.name.length ≤ 24
  cases1 : x.kind = 1 → x.ty = [] ∧ x.cases.length ≤ 6 ∧ ∀ c ∈ x.cases, CsS c
  ty1 : x.kind ≠ 1 → x.cases = [] ∧ x.ty.length ≤ 200
theorem item_forth (l : List Nat) (p : Nat) (x : It) (rest : List Nat) (hp : p ≤ l.length) (hx : ItS x) (h : l.drop p = itemB x ++ rest) : itemR l p 0 = (x, p + (itemB x).length, 0) := by
  have hk := hx.kind
  obtain ⟨k, nm, ty, cs⟩ := x
  obtain ⟨kn, rfl⟩ : ∃ kn : Nat, k = (kn : Int) := ⟨k.toNat, by simp only at hk; omega⟩
  simp only at hk
  unfold itemB at h
  simp only [Int.toNat_natCast, List.append_assoc] at h
  have h1 := num_forth l 65535 p kn _ (by omega) (by decide) h
  have h2 := drop_len hp h
  have h3 := drop_more h
  have h4 := txt_forth l 24 (p + (enc kn).length) nm _ (by omega) hx.name (by decide) h3
  have h5 := drop_len (by omega) h3
  have h6 := drop_more h3
  unfold itemR itemN
  rw [h1]
  simp only
  rw [h4]
  simp only
  unfold itemT
  by_cases h7 : kn = 1
  · subst h7
    obtain ⟨h8, h9, h10⟩ := hx.cases1 rfl
    simp only at h8 h9 h10
    subst h8
    rw [if_pos (by rfl)] at h6
    have h11 := list_forth caseB CsS (fun p x rest hp hx h => case_forth l p x rest hp hx h) cs (p + (enc 1).length + (txtB nm).length) rest (by omega) (by omega) h10 (by rw [h6, casesB_flat])
    rw [if_pos rfl, h11]
    simp [itemB, casesB_flat]
    omega
  · have hk1 : ¬ ((kn : Int) = 1) := by omega
    obtain ⟨h8, h9⟩ := hx.ty1 hk1
    simp only at h8 h9
    subst h8
    rw [if_neg hk1] at h6
    have h11 := txt_forth l 200 (p + (enc kn).length + (txtB nm).length) ty rest (by omega) h9 (by decide) h6
    rw [if_neg h7, h11]
    simp [itemB, hk1]
    omega
theorem case_short {ah : List Cs} {c : Cs} (h : caseE ah c = 0) : CsS c := by
  unfold caseE at h
  split at h
  · cases h
  · split at h
    · cases h
    · split at h
      · cases h
      · split at h
        · rename_i h1 _ h3 h4
          exact ⟨big_len (by simpa using h1), by omega, fun f hf => right_len (List.all_eq_true.1 h4 f hf)⟩
        · cases h
theorem cases_short : ∀ (cs ah : List Cs), casesE ah cs = 0 → ∀ c ∈ cs, CsS c
  | [], _, _ => by simp
  | c :: r, ah, h => by
    rw [casesE] at h
    split at h
    · rename_i h0
      intro d hd
      rcases List.mem_cons.1 hd with rfl | hd
      · exact case_short h0
      · exact cases_short r _ h d hd
    · rename_i h0
      exact absurd h h0
theorem item_short {q : Option (List UInt8)} {x : It} (h : itemE q x = 0) : ItS x := by
  obtain ⟨h1, h2⟩ := item_kind h
  have h3 := kind_three h1
  have h5 : x.name.length ≤ 24 := by
    unfold namedE at h2
    split at h2
    · exact big_len h2
    · exact value_len h2
  unfold itemE at h
  split at h
  · cases h
  · split at h
    · cases h
    · split at h
      · cases h
      · split at h
        · rename_i hk
          unfold valueE at h
          split at h
          · cases h
          · rename_i hc
            split at h
            · cases h
            · rename_i hr
              exact ⟨h3, h5, fun e => absurd e hk, fun _ => ⟨List.eq_nil_of_length_eq_zero (by omega), right_len (by simpa using hr)⟩⟩
        · rename_i hk
          have hk1 : x.kind = 1 := Classical.not_not.1 hk
          unfold typeE at h
          split at h
          · cases h
          · rename_i hty
            split at h
            · cases h
            · split at h
              · cases h
              · exact ⟨h3, h5, fun _ => ⟨Classical.not_not.1 hty, by omega, cases_short x.cases [] h⟩, fun e => absurd hk1 e⟩
theorem dec_forth {m : List UInt8} {xs : List It} (h : rightI m xs = 0) : (txtR (ifaceB m xs) 24 0 0).1 = m ∧ (itemsR (ifaceB m xs)).1 = xs ∧ whyD (ifaceB m xs) = (0, 0) := by
  obtain ⟨_, hm, hl, hx⟩ := right_short h
  have h0 : (ifaceB m xs).drop 0 = txtB m ++ (enc xs.length ++ itemsB xs) := by rw [List.drop_zero, ifaceB]
  have h1 := txt_forth (ifaceB m xs) 24 0 m _ (Nat.zero_le _) hm (by decide) h0
  have h2 := drop_len (Nat.zero_le _) h0
  have h3 := list_forth itemB ItS (fun p x rest hp hx h => item_forth (ifaceB m xs) p x rest hp hx h) xs (0 + (txtB m).length) [] (by omega) (by omega) (fun x h => (hx x h).elim fun q hq => item_short hq) (by rw [drop_more h0, itemsB_flat, List.append_nil])
  have h4 : itemsR (ifaceB m xs) = (xs, 0 + (txtB m).length + (enc xs.length ++ List.flatMap itemB xs).length, 0) := by
    unfold itemsR
    rw [h1]
    exact h3
  have h5 : endR (ifaceB m xs) = (0, 0) := by
    unfold endR rEnd
    rw [h4]
    simp only
    rw [if_neg (by simp), if_neg (by rw [← itemsB_flat]; simp only [List.length_append] at h2 ⊢; omega)]
  refine ⟨by rw [h1], by rw [h4], ?_⟩
  unfold whyD
  rw [h5, if_neg (by simp), h1, h4, h]
end Go.Proofs.YtfjppbpicmniaaaGreatDoor

namespace Go.Proofs.YtfjppbpicmniaaaGreatDoor

theorem imports_ne (o : Ob) (k : Nat) (h : k < (importsO o).length) : (importsO o)[k] ≠ o.mod := by
  have h1 : (importsO o)[k] ∈ onceR ((o.symbols.map (·.mod)).filter fun m => decide (m ≠ o.mod)) := List.getElem_mem h
  have h2 := (List.mem_filter.1 ((onceR_mem _ _).1 h1)).2
  simpa using h2
theorem imports_asc (o : Ob) (k : Nat) (h : k + 1 < (importsO o).length) : (importsO o)[k] < (importsO o)[k + 1] :=
  List.pairwise_iff_getElem.1 (onceR_asc _) k (k + 1) (by exact Nat.lt_of_succ_lt h) h (by omega)
theorem imports_has (o : Ob) (k : Nat) (h : k < o.symbols.length) (hm : o.symbols[k].mod ≠ o.mod) : o.symbols[k].mod ∈ importsO o := by
  rw [importsO, onceR_mem, List.mem_filter]
  exact ⟨List.mem_map.2 ⟨_, List.getElem_mem h, rfl⟩, by simpa using hm⟩
theorem find_name {ts : List It} {n : List UInt8} {x : It} (h : findI ts n = some x) : x.name = n := by
  unfold findI at h
  simpa using List.find?_some h
theorem own_name {o : Ob} {n : List UInt8} {x : It} (h : ownO o n = some x) : x.name = n := by
  unfold ownO at h
  split at h
  · cases h
  · split at h
    · cases h; rfl
    · split at h
      · cases h; rfl
      · exact find_name h
theorem lists_zero {o : Ob} (h : (rightO o).1 = 0) : rightO o = (0, 0) ∧ manyO o = false ∧ ∀ j, j < 7 → (scanO (elemO o j) 0 (lenO o j)).1 = 0 := by
  unfold rightO at h ⊢
  by_cases h1 : valueR o.mod = false
  · rw [if_pos h1] at h
    cases h
  · rw [if_neg h1] at h ⊢
    by_cases h2 : manyO o = true
    · rw [if_pos h2] at h
      cases h
    · rw [if_neg h2] at h ⊢
      have h3 := listsO_all o 7 0 h
      refine ⟨?_, by simpa using h2, fun j hj => h3 j (by omega) (by omega)⟩
      have : ∀ n j, (∀ i, j ≤ i → i < j + n → (scanO (elemO o i) 0 (lenO o i)).1 = 0) → listsO o j n = (0, 0) := by
        intro n
        induction n with
        | zero => intro j _; rfl
        | succ n ih =>
          intro j hh
          rw [listsO, if_pos (hh j (by omega) (by omega))]
          exact ih (j + 1) fun i a b => hh i (by omega) (by omega)
      exact this 7 0 fun i a b => h3 i a b
theorem exports_own {o : Ob} (h : (rightO o).1 = 0) (k : Nat) (hk : k < o.exports.length) : o.exports[k] ≠ [] ∧ ∃ x, ownO o o.exports[k] = some x ∧ x.name = o.exports[k] := by
  obtain ⟨_, _, h2⟩ := lists_zero h
  have h3 := scanO_all _ _ (h2 4 (by omega)) k (by omega) (by show k < 0 + o.exports.length; omega)
  rw [elemO, List.getElem?_eq_getElem hk] at h3
  simp only [exportO] at h3
  cases h4 : ownO o o.exports[k] with
  | none => rw [h4] at h3; simp at h3
  | some x =>
    refine ⟨fun e => ?_, x, rfl, own_name h4⟩
    rw [e, ownO, if_pos rfl] at h4
    cases h4
theorem iface_len (o : Ob) : (ifaceO o).length = o.exports.length := by simp [ifaceO]
theorem iface_name {o : Ob} (h : (rightO o).1 = 0) (k : Nat) (hk : k < (ifaceO o).length) : (ifaceO o)[k].name = o.exports[k]'(by rw [← iface_len]; exact hk) := by
  obtain ⟨_, x, h1, h2⟩ := exports_own h k (by rw [← iface_len]; exact hk)
  simp only [ifaceO, List.getElem_map]
  rw [h1]
  exact h2
end Go.Proofs.YtfjppbpicmniaaaGreatDoor
