/-
  Plain facts on writing and reading: what is written is read.
-/
import Derived.Test.YtbhcmhbicbhgmaaWireKnown
namespace Go.Proofs.Ytbhcmhbicbhgmaa.Wire
open Go.RowKit

theorem pow_step (k : Nat) : 2 ^ (7 * (k + 1)) = 128 * 2 ^ (7 * k) := by rw [Nat.mul_add, Nat.pow_add]; omega
theorem pow_ten (k : Nat) (h : 10 ≤ k) : 18446744073709551616 ≤ 2 ^ (7 * k) := Nat.le_trans (by decide) (Nat.pow_le_pow_right (by omega : 0 < 2) (show 64 ≤ 7 * k by omega))

theorem dec_enc : ∀ (f m k acc : Nat) (L rest : List Nat), m < f → L.drop k = enc m ++ rest → k ≤ L.length → m * 2 ^ (7 * k) < 18446744073709551616 → (k = 0 ∨ 0 < m) → dec L k acc = (acc + m * 2 ^ (7 * k), k + (enc m).length, 0)
  | 0, m, k, acc, L, rest, hf, hL, hkl, hlt, hk => by omega
  | f + 1, m, k, acc, L, rest, hf, hL, hkl, hlt, hk => by
    by_cases h1 : 128 ≤ m
    · have hk9 : k < 10 := by
        rcases Nat.lt_or_ge k 10 with h | h
        · exact h
        · have h2 := pow_ten k h
          have h3 : 128 * 2 ^ (7 * k) ≤ m * 2 ^ (7 * k) := Nat.mul_le_mul_right _ h1
          omega
      rw [enc_big h1, List.cons_append] at hL
      have hx : L[k]? = some (m % 128 + 128) := by
        have := congrArg (fun l => l[0]?) hL
        simpa using this
      have hd : L.drop (k + 1) = enc (m / 128) ++ rest := by
        have := congrArg List.tail hL
        simpa using this
      have hkl' : k + 1 ≤ L.length := (List.getElem?_eq_some_iff.1 hx).1
      rw [dec_on hk9 hx (by omega)]
      have hp : m / 128 * 2 ^ (7 * (k + 1)) + m % 128 * 2 ^ (7 * k) = m * 2 ^ (7 * k) := by
        rw [pow_step, ← Nat.mul_assoc, ← Nat.add_mul, Nat.div_add_mod']
      rw [dec_enc f (m / 128) (k + 1) _ L rest (by omega) hd hkl' (by omega) (by omega), enc_big h1]
      have e1 : (m % 128 + 128) % 128 = m % 128 := by omega
      rw [e1]
      simp only [List.length_cons, Prod.mk.injEq, and_true]
      omega
    · rw [enc_small (by omega), List.cons_append] at hL
      have hx : L[k]? = some m := by
        have := congrArg (fun l => l[0]?) hL
        simpa using this
      have hk10 : k < 10 ∧ ¬ (1 < m ∧ k = 9) := by
        constructor
        · rcases Nat.lt_or_ge k 10 with h | h
          · exact h
          · have h2 := pow_ten k h
            have h3 : 1 * 2 ^ (7 * k) ≤ m * 2 ^ (7 * k) := Nat.mul_le_mul_right _ (by omega)
            omega
        · rintro ⟨h2, rfl⟩
          have h3 : 2 * 2 ^ (7 * 9) ≤ m * 2 ^ (7 * 9) := Nat.mul_le_mul_right _ h2
          have h4 : 2 * 2 ^ (7 * 9) = 18446744073709551616 := by decide
          omega
      rw [dec_ok hk10.1 hx (by omega) (by omega), enc_small (by omega)]
      rfl

theorem dec_written (n : Nat) (rest : List Nat) (h : n < 18446744073709551616) : dec (enc n ++ rest) 0 0 = (n, (enc n).length, 0) := by
  have := dec_enc (n + 1) n 0 0 (enc n ++ rest) rest (Nat.lt_succ_self _) rfl (Nat.zero_le _) (by simpa using h) (Or.inl rfl)
  simpa using this

theorem enc_dec : ∀ (f k acc : Nat) (L : List Nat), 10 - k ≤ f → (∀ x ∈ L, x < 256) → acc < 2 ^ (7 * k) → (dec L k acc).2.2 = 0 → ∃ m, dec L k acc = (acc + m * 2 ^ (7 * k), k + (enc m).length, 0) ∧ (L.drop k).take (enc m).length = enc m ∧ (k = 0 ∨ 0 < m)
  | 0, k, acc, L, hf, h256, ha, h => by rw [dec_end (by omega)] at h; simp at h
  | f + 1, k, acc, L, hf, h256, ha, h => by
    by_cases hk : k < 10
    · cases hx : L[k]? with
      | none => rw [dec_none hk hx] at h; simp at h
      | some x =>
        have hlt : k < L.length := (List.getElem?_eq_some_iff.1 hx).1
        have hd : L.drop k = x :: L.drop (k + 1) := by
          rw [List.drop_eq_getElem_cons hlt]
          have e := (List.getElem?_eq_some_iff.1 hx).2
          rw [e]
        have hx2 : x < 256 := h256 x (List.mem_of_getElem? hx)
        by_cases h1 : 128 ≤ x
        · rw [dec_on hk hx h1] at h ⊢
          have hm : x % 128 < 128 := Nat.mod_lt _ (by omega)
          have h4 : x % 128 * 2 ^ (7 * k) ≤ 127 * 2 ^ (7 * k) := Nat.mul_le_mul_right _ (by omega)
          have e2 := pow_step k
          obtain ⟨m, e, ht, hp⟩ := enc_dec f (k + 1) _ L (by omega) h256 (by omega) h
          have hm0 : 0 < m := by omega
          have e3 : enc (x % 128 + 128 * m) = x :: enc m := by
            rw [enc_big (by omega), show (x % 128 + 128 * m) % 128 + 128 = x by omega, show (x % 128 + 128 * m) / 128 = m by omega]
          refine ⟨x % 128 + 128 * m, ?_, ?_, by omega⟩
          · rw [e, e3]
            have e5 : (x % 128 + 128 * m) * 2 ^ (7 * k) = x % 128 * 2 ^ (7 * k) + m * 2 ^ (7 * (k + 1)) := by
              rw [pow_step, Nat.add_mul, Nat.mul_comm 128 m, Nat.mul_assoc]
            rw [e5]
            simp only [List.length_cons, Prod.mk.injEq, and_true]
            omega
          · rw [e3, hd]
            simpa using ht
        · by_cases h2 : (x = 0 ∧ 0 < k) ∨ (1 < x ∧ k = 9)
          · rw [dec_bad hk hx (by omega) h2] at h; simp at h
          · refine ⟨x, ?_, ?_, by omega⟩
            · rw [dec_ok hk hx (by omega) h2, enc_small (by omega)]; rfl
            · rw [enc_small (by omega), hd]; rfl
    · rw [dec_end (by omega)] at h; simp at h

theorem rNum_written (pre rest : List Nat) (n most : Nat) (h : n < 18446744073709551616) :
    rNum (pre ++ enc n ++ rest) pre.length 0 most = if most < n then (0, pre.length, 3) else (n, pre.length + (enc n).length, 0) := by
  have e : (pre ++ enc n ++ rest).drop pre.length = enc n ++ rest := by simp
  unfold rNum
  rw [e, dec_written n rest h]
  simp

theorem zag_zig (n : Int) : zag (zig n) = n := by
  unfold zag zig
  split <;> split <;> omega
theorem zig_lt (n : Int) (h0 : -9223372036854775808 ≤ n) (h1 : n < 9223372036854775808) : zig n < 18446744073709551616 := by
  unfold zig
  split <;> omega

theorem rTake_written (pre s rest : List Nat) : rTake (pre ++ s ++ rest) pre.length 0 (s.length : Nat) = (s, pre.length + s.length, 0) := by
  unfold rTake
  by_cases h : s = []
  · subst h; simp
  · have : 0 < s.length := List.length_pos_iff.2 h
    rw [if_neg (by omega), if_neg (by simp; omega)]
    simp

theorem bytes_256 (s : ByteArray) : ∀ x ∈ s.data.toList.map UInt8.toNat, x < 256 := by
  intro x hx
  obtain ⟨b, _, rfl⟩ := List.mem_map.1 hx
  exact b.toNat_lt
theorem enc_256' : ∀ (f n : Nat), n < f → ∀ x ∈ enc n, x < 256
  | 0, n, hf, x, hx => by omega
  | f + 1, n, hf, x, hx => by
    by_cases h : 128 ≤ n
    · rw [enc_big h] at hx
      rcases List.mem_cons.1 hx with rfl | hx
      · omega
      · exact enc_256' f (n / 128) (by omega) x hx
    · rw [enc_small (by omega)] at hx
      simp at hx
      omega
theorem enc_256 (n : Nat) : ∀ x ∈ enc n, x < 256 := enc_256' (n + 1) n (Nat.lt_succ_self _)
end Go.Proofs.Ytbhcmhbicbhgmaa.Wire
