/-
  The document's own Quote: its walk.
-/
import Derived.Test.YtmekjbplodnldaaLexQuote
namespace Go.Proofs.Ytmekjbplodnldaa
open Go.RowKit

theorem one_str (s : ByteArray) (k : Nat) (hk : k < s.size) : s.extract k (k + 1) = str [s[k]] := by
  rw [extract_str, drop_at s k hk, show k + 1 - k = 1 from by omega]
  rfl
theorem dig_str (n : Nat) (h : n < 16) : (⟨#[48, 49, 50, 51, 52, 53, 54, 55, 56, 57, 97, 98, 99, 100, 101, 102]⟩ : ByteArray).extract n (n + 1) = str [hexSet.getD n 0] := by
  rw [one_str (⟨#[48, 49, 50, 51, 52, 53, 54, 55, 56, 57, 97, 98, 99, 100, 101, 102]⟩ : ByteArray) n h]
  exact congrArg (fun x => str [x]) (dig_at n n h rfl)
def RefTextE (l : List UInt8) (w : World) (e : Ending) (w' : World) : Prop := e = .returned (.string (str l)) ∧ ∃ n, w' = w.drewN n
theorem refText_mk {l : List UInt8} {w : World} {n : Nat} {t : ByteArray} (h : t = str l) : RefTextE l w (.returned (.string t)) (w.drewN n) := by
  subst h
  exact ⟨rfl, n, rfl⟩

set_option maxHeartbeats 1600000 in
set_option maxRecDepth 1000000 in
theorem refQuote (s : ByteArray) (w : World) (hs : s.size ≤ 17592186044416) : Calls Try.prog 23 #[.string s] w (RefTextE (quoteR s.data.toList) w) := by
  go_enter Try.func23, Try.ntmps23
  go_wp2
  go_loopg [3, 4] s.size (fun g out i wr => ∃ (k : Nat) (t : ByteArray) (n : Nat), g + k = s.size ∧ i = .int .i64 k ∧ out = .string t ∧ Hid (t = str (qUp s.data.toList k)) ∧ wr = w.drewN n)
  case atStart => exact ⟨0, _, 0, rfl, rfl, rfl, rfl, rfl⟩
  case round =>
    obtain ⟨k, t, n, hg, rfl, rfl, ht, rfl⟩ := hrel
    have hln := qUp_length s.data.toList k
    have hts : t.size ≤ 1 + 4 * k := by rw [ht.out, str_size]; exact hln
    have hts' : (t.size : Int) + 100 ≤ 9223372036854775807 := by omega
    clear hln
    by_cases hk : k < s.size
    · have hst := qUp_step s k hk
      have h1 := one_str s k hk
      by_cases c1 : s[k].toNat = 34
      · have HQ : Hid (t ++ ⟨#[92]⟩ ++ s.extract k (k + 1) = str (qUp s.data.toList (k + 1))) := by
          rw [hst, ht.out, h1, show (⟨#[92]⟩ : ByteArray) = str [92] from rfl, str_append, str_append, List.append_assoc]
          simp [Hid, qByte, c1]
        have c1' : ((s[k].toNat : Int) == 34) = true := by rw [beq_iff_eq]; omega
        clear hst c1 h1 ht
        go_wp2
        go_roundg (s.size - (k + 1))
        case measure => omega
        case rel => exact ⟨k + 1, _, n, by omega, by go_num, rfl, HQ, rfl⟩
      have c1' : ((s[k].toNat : Int) == 34) = false := by rw [beq_eq_false_iff_ne]; omega
      by_cases c2 : s[k].toNat = 92
      · have HQ : Hid (t ++ ⟨#[92]⟩ ++ s.extract k (k + 1) = str (qUp s.data.toList (k + 1))) := by
          rw [hst, ht.out, h1, show (⟨#[92]⟩ : ByteArray) = str [92] from rfl, str_append, str_append, List.append_assoc]
          simp [Hid, qByte, c2]
        have c2' : ((s[k].toNat : Int) == 92) = true := by rw [beq_iff_eq]; omega
        clear hst c1 c2 h1 ht
        go_wp2
        go_roundg (s.size - (k + 1))
        case measure => omega
        case rel => exact ⟨k + 1, _, n, by omega, by go_num, rfl, HQ, rfl⟩
      have c2' : ((s[k].toNat : Int) == 92) = false := by rw [beq_eq_false_iff_ne]; omega
      by_cases c3 : s[k].toNat = 10
      · have HQ : Hid (t ++ ⟨#[92, 110]⟩ = str (qUp s.data.toList (k + 1))) := by
          rw [hst, ht.out, show (⟨#[92, 110]⟩ : ByteArray) = str [92, 110] from rfl, str_append]
          simp [Hid, qByte, c3]
        have c3' : ((s[k].toNat : Int) == 10) = true := by rw [beq_iff_eq]; omega
        have c4' : ¬ (32 : Int) ≤ (s[k].toNat : Int) := by omega
        clear hst c1 c2 c3 h1 ht
        go_wp2
        go_roundg (s.size - (k + 1))
        case measure => omega
        case rel => exact ⟨k + 1, _, n, by omega, by go_num, rfl, HQ, rfl⟩
      have c3' : ((s[k].toNat : Int) == 10) = false := by rw [beq_eq_false_iff_ne]; omega
      by_cases c4 : 32 ≤ s[k].toNat ∧ s[k].toNat ≤ 126
      · have HQ : Hid (t ++ s.extract k (k + 1) = str (qUp s.data.toList (k + 1))) := by
          rw [hst, ht.out, h1, str_append]
          simp [Hid, qByte, c1, c2, c3, isPlain, c4]
        have c4' : (32 : Int) ≤ (s[k].toNat : Int) := by omega
        have c5' : (s[k].toNat : Int) ≤ 126 := by omega
        clear hst c1 c2 c3 c4 h1 ht
        go_wp2
        go_roundg (s.size - (k + 1))
        case measure => omega
        case rel => exact ⟨k + 1, _, n, by omega, by go_num, rfl, HQ, rfl⟩
      have h256 : s[k].toNat < 256 := s[k].toNat_lt
      have b15 := and15 s[k]
      have hp4 : isPlain s[k] = false := by
        refine Bool.eq_false_iff.2 (fun h => c4 ?_)
        simpa [isPlain] using h
      have HQ : Hid (t ++ ⟨#[92, 120]⟩ ++ (⟨#[48, 49, 50, 51, 52, 53, 54, 55, 56, 57, 97, 98, 99, 100, 101, 102]⟩ : ByteArray).extract (s[k].toNat / 16) (s[k].toNat / 16 + 1) ++ (⟨#[48, 49, 50, 51, 52, 53, 54, 55, 56, 57, 97, 98, 99, 100, 101, 102]⟩ : ByteArray).extract (s[k].toNat % 16) (s[k].toNat % 16 + 1) = str (qUp s.data.toList (k + 1))) := by
        rw [hst, ht.out, show (⟨#[92, 120]⟩ : ByteArray) = str [92, 120] from rfl, dig_str _ (by omega), dig_str _ (by omega), str_append, str_append, str_append]
        simp [Hid, qByte, c1, c2, c3, hp4]
      by_cases c5 : 32 ≤ s[k].toNat
      · have c4' : (32 : Int) ≤ (s[k].toNat : Int) := by omega
        have c5' : ¬ (s[k].toNat : Int) ≤ 126 := by omega
        clear hst c1 c2 c3 c4 c5 h1 ht hp4
        go_wp2
        go_quiet (fail)
        go_wp2
        go_roundg (s.size - (k + 1))
        case measure => omega
        case rel => exact ⟨k + 1, _, _, by omega, by go_num, rfl, HQ, rfl⟩
      · have c4' : ¬ (32 : Int) ≤ (s[k].toNat : Int) := by omega
        clear hst c1 c2 c3 c4 c5 h1 ht hp4
        go_wp2
        go_quiet (fail)
        go_wp2
        go_roundg (s.size - (k + 1))
        case measure => omega
        case rel => exact ⟨k + 1, _, _, by omega, by go_num, rfl, HQ, rfl⟩
    · have hk' : k = s.size := by omega
      subst hk'
      have HQ : Hid (t ++ ⟨#[34]⟩ = str (quoteR s.data.toList)) := by
        rw [ht.out, show (⟨#[34]⟩ : ByteArray) = str [34] from rfl, str_append, qUp_all]
        rfl
      clear ht
      go_wp2
      go_ret
      exact refText_mk HQ.out
end Go.Proofs.Ytmekjbplodnldaa
