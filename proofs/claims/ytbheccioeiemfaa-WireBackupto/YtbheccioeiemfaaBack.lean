/-
  The walk of the law WireBack.
-/
import Derived.Test.YtbheccioeiemfaaParts
import Derived.Test.YtbheccioeiemfaaWrites
import Derived.Deep.RegionHeld3
namespace Go.Proofs.Ytbheccioeiemfaa
open Go.ChangeShapes Go.WideShapes Go.ChangeAt Go.RowKit Go.Deep

def tb (s : ByteArray) : List Nat := s.data.toList.map UInt8.toNat
theorem tb_length (s : ByteArray) : (tb s).length = s.size := by simp [tb]
/-- What is written of one piece. -/
def piece (p : Int × Int × Nat × ByteArray) : List Nat := enc p.2.2.1 ++ enc (zig (wrap64 p.2.2.1)) ++ enc p.2.2.2.size ++ tb p.2.2.2
/-- What is written of the first k pieces. -/
def Wl (F : Nat → Int × Int × Nat × ByteArray) : Nat → List Nat
  | 0 => []
  | k + 1 => Wl F k ++ piece (F k)
theorem Wl_split (F : Nat → Int × Int × Nat × ByteArray) (k : Nat) : ∀ m, k < m → ∃ R, Wl F m = Wl F k ++ piece (F k) ++ R
  | 0, h => by omega
  | m + 1, h => by
    by_cases e : k = m
    · subst e; exact ⟨[], by rw [Wl, List.append_nil]⟩
    · obtain ⟨R, hR⟩ := Wl_split F k m (by omega)
      exact ⟨R ++ piece (F m), by rw [Wl, hR, List.append_assoc]⟩
theorem wrap64_range (x : Int) : -9223372036854775808 ≤ wrap64 x ∧ wrap64 x < 9223372036854775808 := by unfold wrap64; omega
theorem Wl_length (F : Nat → Int × Int × Nat × ByteArray) : ∀ k, (∀ i, i < k → (F i).2.2.1 < 18446744073709551616 ∧ (F i).2.2.2.size < 18446744073709551616) → (Wl F k).length ≤ 30 * k + psum F k
  | 0, _ => by simp [Wl]
  | k + 1, h => by
    have h1 := Wl_length F k (fun i hi => h i (by omega))
    have h2 := h k (by omega)
    have h3 := enc_ten _ h2.1
    have h4 := enc_ten _ (zig_lt (wrap64 (F k).2.2.1) (wrap64_range _).1 (wrap64_range _).2)
    have h5 := enc_ten _ h2.2
    rw [Wl, psum, piece]
    simp only [List.length_append, tb_length]
    omega
theorem Wl_256 (F : Nat → Int × Int × Nat × ByteArray) : ∀ k, ∀ x ∈ Wl F k, x < 256
  | 0, x, h => by simp [Wl] at h
  | k + 1, x, h => by
    rw [Wl, piece] at h
    simp only [List.mem_append] at h
    rcases h with h | ((h | h) | h) | h
    · exact Wl_256 F k x h
    · exact enc_256 _ x h
    · exact enc_256 _ x h
    · exact enc_256 _ x h
    · exact bytes_256 _ x h

/-- What is read of one piece. -/
theorem read_piece (pre R : List Nat) (nn : Nat) (txt : ByteArray) (hn : nn < 18446744073709551616) (hs : txt.size ≤ 1048576) (L : List Nat) (hL : L = pre ++ (enc nn ++ enc (zig (wrap64 nn)) ++ enc txt.size ++ tb txt) ++ R) :
    ∃ p1 p2 p3 p4, p1 ≤ L.length ∧ p2 ≤ L.length ∧ p4 = (pre ++ (enc nn ++ enc (zig (wrap64 nn)) ++ enc txt.size ++ tb txt)).length ∧ rNum L pre.length 0 18446744073709551615 = (nn, p1, 0) ∧
      rNum L p1 0 18446744073709551615 = (zig (wrap64 nn), p2, 0) ∧ rNum L p2 0 txt.size = (txt.size, p3, 0) ∧ rTake L p3 0 txt.size = (tb txt, p4, 0) := by
  have hz := zig_lt (wrap64 nn) (wrap64_range _).1 (wrap64_range _).2
  have w1 := rNum_written pre (enc (zig (wrap64 nn)) ++ enc txt.size ++ tb txt ++ R) nn 18446744073709551615 hn
  have w2 := rNum_written (pre ++ enc nn) (enc txt.size ++ tb txt ++ R) (zig (wrap64 nn)) 18446744073709551615 hz
  have w3 := rNum_written (pre ++ enc nn ++ enc (zig (wrap64 nn))) (tb txt ++ R) txt.size txt.size (by omega)
  have w4 := rTake_written (pre ++ enc nn ++ enc (zig (wrap64 nn)) ++ enc txt.size) (tb txt) R
  rw [if_neg (by omega)] at w1 w2 w3
  rw [tb_length] at w4
  have e1 : L = pre ++ enc nn ++ (enc (zig (wrap64 nn)) ++ enc txt.size ++ tb txt ++ R) := by rw [hL]; simp only [List.append_assoc]
  have e2 : L = pre ++ enc nn ++ enc (zig (wrap64 nn)) ++ (enc txt.size ++ tb txt ++ R) := by rw [hL]; simp only [List.append_assoc]
  have e3 : L = pre ++ enc nn ++ enc (zig (wrap64 nn)) ++ enc txt.size ++ (tb txt ++ R) := by rw [hL]; simp only [List.append_assoc]
  have e4 : L = pre ++ enc nn ++ enc (zig (wrap64 nn)) ++ enc txt.size ++ tb txt ++ R := by rw [hL]; simp only [List.append_assoc]
  rw [← e1] at w1
  rw [← e2, List.length_append] at w2
  rw [← e3, List.length_append, List.length_append] at w3
  rw [← e4, List.length_append, List.length_append, List.length_append] at w4
  have hlen : L.length = pre.length + (enc nn).length + (enc (zig (wrap64 nn))).length + (enc txt.size).length + txt.size + R.length := by
    rw [e4]; simp only [List.length_append, tb_length]
  refine ⟨_, _, _, _, by omega, by omega, ?_, w1, w2, w3, w4⟩
  simp only [List.length_append, tb_length]
  omega

/-- What is told of bytes that begin with a number, or do not. -/
theorem back_second (l : List Nat) (h256 : ∀ x ∈ l, x < 256) : ∃ x p why e q : Nat, rNum l 0 0 18446744073709551615 = (x, p, why) ∧ rEnd l p why = (e, q) ∧
    ((why = 0 ∧ (e = 0 ∨ e = 11) ∧ x < 18446744073709551616 ∧ 0 < p ∧ p ≤ l.length ∧ l.take p = enc x) ∨ ((e = 10 ∨ e = 12) ∧ x = 0)) := by
  have hbd := dec_bounds l 10 0 0 (by omega) (by decide)
  rcases hbd with ⟨h0, hs0, hs1, hs2, hx⟩ | h | h
  · obtain ⟨m, e, ht, _⟩ := enc_dec 10 0 0 l (by omega) h256 (by decide) h0
    rw [e] at h0 hs0 hs1 hx
    simp only [Nat.zero_add, Nat.mul_zero, Nat.pow_zero, Nat.mul_one, List.drop_zero] at e ht hs0 hs1 hx
    have hr : rNum l 0 0 18446744073709551615 = (m, (enc m).length, 0) := by
      simp only [rNum, List.drop_zero, e]
      rw [if_neg (by omega), if_neg (by omega), if_neg (by omega), if_neg (by omega), Nat.zero_add]
    by_cases hlt : (enc m).length < l.length
    · exact ⟨m, _, 0, 11, (enc m).length, hr, by simp [rEnd, hlt], Or.inl ⟨rfl, Or.inr rfl, hx, hs0, hs1, ht⟩⟩
    · exact ⟨m, _, 0, 0, 0, hr, by simp [rEnd, hlt], Or.inl ⟨rfl, Or.inl rfl, hx, hs0, hs1, ht⟩⟩
  · exact ⟨0, l.length, 10, 10, l.length, by simp [rNum, h], by simp [rEnd], Or.inr ⟨Or.inl rfl, rfl⟩⟩
  · exact ⟨0, 0, 12, 12, 0, by simp [rNum, h], by simp [rEnd], Or.inr ⟨Or.inr rfl, rfl⟩⟩
end Go.Proofs.Ytbheccioeiemfaa
