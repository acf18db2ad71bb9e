/-
  The document's digits and Text: what each call answers.
-/
import Derived.Test.YtldbfldonkcjmaaDoorText
import Derived.Deep.LoopGhost
namespace Go.Proofs.YtldbfldonkcjmaaDoor
open Go.RowKit Ieee

theorem dig_piece : ∀ d : Fin 10, (⟨#[48, 49, 50, 51, 52, 53, 54, 55, 56, 57]⟩ : ByteArray).extract d.val (d.val + 1) = ⟨#[UInt8.ofNat (48 + d.val)]⟩ := by decide +kernel
theorem dec_small {u : Nat} (h : u < 10) : Lib.decDigits u = [UInt8.ofNat (48 + u)] := by rw [Lib.decDigits, dif_pos h]
theorem dec_big {u : Nat} (h : ¬ u < 10) : Lib.decDigits u = Lib.decDigits (u / 10) ++ [UInt8.ofNat (48 + u % 10)] := by rw [Lib.decDigits, dif_neg h]
/-- What is ahead of the digits that were taken. -/
def ahead (m : Nat) : List UInt8 := if m = 0 then [] else Lib.decDigits m
theorem dec_step (m : Nat) : Lib.decDigits m = ahead (m / 10) ++ [UInt8.ofNat (48 + m % 10)] := by
  by_cases h : m < 10
  · rw [dec_small h, ahead, if_pos (by omega), show m % 10 = m by omega]; rfl
  · rw [dec_big h, ahead, if_neg (by omega)]
theorem ahead_step (m : Nat) (h : m ≠ 0) : ahead m = ahead (m / 10) ++ [UInt8.ofNat (48 + m % 10)] := by
  rw [← dec_step, ahead, if_neg h]
theorem pre_eq (x : UInt8) (s : ByteArray) : (⟨#[x]⟩ : ByteArray) ++ s = ⟨(x :: s.data.toList).toArray⟩ := by
  apply ByteArray.ext
  rw [ByteArray.data_append]
  apply Array.ext'
  simp

theorem dig_step (m : Nat) (l : ByteArray) : ((⟨#[48, 49, 50, 51, 52, 53, 54, 55, 56, 57]⟩ : ByteArray).extract (m % 10) (m % 10 + 1) ++ l).size = l.size + 1 ∧
    ((⟨#[48, 49, 50, 51, 52, 53, 54, 55, 56, 57]⟩ : ByteArray).extract (m % 10) (m % 10 + 1) ++ l).toList.isEmpty = false ∧
    ((⟨#[48, 49, 50, 51, 52, 53, 54, 55, 56, 57]⟩ : ByteArray).extract (m % 10) (m % 10 + 1) ++ l).data.toList = UInt8.ofNat (48 + m % 10) :: l.data.toList := by
  have hp := dig_piece ⟨m % 10, Nat.mod_lt _ (by decide)⟩
  simp only at hp
  have e : ((⟨#[48, 49, 50, 51, 52, 53, 54, 55, 56, 57]⟩ : ByteArray).extract (m % 10) (m % 10 + 1) ++ l).data.toList = UInt8.ofNat (48 + m % 10) :: l.data.toList := by
    rw [hp, pre_eq]
  refine ⟨?_, ?_, e⟩
  · have h := congrArg List.length e
    rw [List.length_cons, Array.length_toList, Array.length_toList] at h
    exact h
  · rw [ByteArray.toList_eq, e]
    rfl
set_option maxHeartbeats 400000 in
set_option maxRecDepth 1000000 in
theorem digits_nat (N : Nat) (hN : N ≤ 1000000000000) (w : World) : Calls Tryd.prog 36 #[.int .i64 N] w (Pu (.string ⟨(Lib.decDigits N).toArray⟩) w) := by
  have hN0 : ¬ ((N : Int) < 0) := by omega
  go_enter Tryd.func36, Tryd.ntmps36
  go_wp2
  go_loopg [0, 3] (2 * N + 1) (fun g n s wr => ∃ (m : Nat) (l : ByteArray), n = .int .i64 m ∧ s = .string l ∧ m ≤ N ∧ l.size + m ≤ N + 1 ∧ wr = w ∧ ((g = 2 * m + 1 ∧ m = N ∧ l = ⟨#[]⟩) ∨ (g = 2 * m ∧ l.toList.isEmpty = false ∧ Hid (ahead m ++ l.data.toList = Lib.decDigits N))))
  case atStart => exact ⟨N, ⟨#[]⟩, rfl, rfl, Nat.le_refl _, by show 0 + N ≤ N + 1; omega, rfl, .inl ⟨rfl, rfl, rfl⟩⟩
  case round =>
    obtain ⟨m, l, rfl, rfl, hm, hl, hw, hcase⟩ := hrel
    subst hw
    have hz : (m : Int).tmod 10 = ((m % 10 : Nat) : Int) := rfl
    have hq : (m : Int).tdiv 10 = ((m / 10 : Nat) : Int) := rfl
    rcases hcase with ⟨hg, hmN, rfl⟩ | ⟨hg, hne, hinv⟩
    · subst hmN
      obtain ⟨d1, d2, d3⟩ := dig_step m ⟨#[]⟩
      have D : Hid (ahead (m / 10) ++ ((⟨#[48, 49, 50, 51, 52, 53, 54, 55, 56, 57]⟩ : ByteArray).extract (m % 10) (m % 10 + 1) ++ ⟨#[]⟩).data.toList = Lib.decDigits m) := by
        show _ = _
        rw [d3, dec_step m]
      have D1 : Hid (((⟨#[48, 49, 50, 51, 52, 53, 54, 55, 56, 57]⟩ : ByteArray).extract (m % 10) (m % 10 + 1) ++ ⟨#[]⟩).size = 1) := d1
      have D2 : Hid (((⟨#[48, 49, 50, 51, 52, 53, 54, 55, 56, 57]⟩ : ByteArray).extract (m % 10) (m % 10 + 1) ++ ⟨#[]⟩).toList.isEmpty = false) := d2
      clear d1 d2 d3
      by_cases h0 : m = 0
      · subst h0
        go_wp2
        go_roundg 0
        case measure => omega
        case rel => exact ⟨0, _, rfl, rfl, Nat.le_refl _, by have h : ((⟨#[48, 49, 50, 51, 52, 53, 54, 55, 56, 57]⟩ : ByteArray).extract 0 1 ++ ⟨#[]⟩).size = 1 := D1.out; omega, rfl, .inr ⟨rfl, D2.out, D⟩⟩
      · have h1 : 0 < m := by omega
        go_wp2
        go_roundg (2 * (m / 10))
        case measure => omega
        case rel => exact ⟨m / 10, _, by go_num, rfl, by omega, by have := D1.out; omega, rfl, .inr ⟨rfl, D2.out, D⟩⟩
    · by_cases h0 : m = 0
      · subst h0
        have D : l.data.toList = Lib.decDigits N := by have := hinv.out; simpa [ahead] using this
        have D' : Hid (l = ⟨(Lib.decDigits N).toArray⟩) := by
          show _ = _
          rw [← D]
        clear D hinv
        go_wp2
        go_ret
        exact ⟨by rw [← D'.out]; rfl, rfl⟩
      · have h1 : 0 < m := by omega
        obtain ⟨d1, d2, d3⟩ := dig_step m l
        have D : Hid (ahead (m / 10) ++ ((⟨#[48, 49, 50, 51, 52, 53, 54, 55, 56, 57]⟩ : ByteArray).extract (m % 10) (m % 10 + 1) ++ l).data.toList = Lib.decDigits N) := by
          show _ = _
          rw [d3, ← hinv.out, ahead_step m h0]
          simp
        have D1 : Hid (((⟨#[48, 49, 50, 51, 52, 53, 54, 55, 56, 57]⟩ : ByteArray).extract (m % 10) (m % 10 + 1) ++ l).size = l.size + 1) := d1
        have D2 : Hid (((⟨#[48, 49, 50, 51, 52, 53, 54, 55, 56, 57]⟩ : ByteArray).extract (m % 10) (m % 10 + 1) ++ l).toList.isEmpty = false) := d2
        clear d1 d2 d3 hinv
        have hlN : l.size ≤ 1000000000001 := by omega
        go_wp2
        go_roundg (2 * (m / 10))
        case measure => omega
        case rel => exact ⟨m / 10, _, by go_num, rfl, by omega, by have := D1.out; omega, rfl, .inr ⟨rfl, D2.out, D⟩⟩

set_option maxHeartbeats 400000 in
set_option maxRecDepth 1000000 in
theorem digits (n : Int) (h0 : -1048576 ≤ n) (h1 : n ≤ 1048576) (w : World) : Calls Tryd.prog 36 #[.int .i64 n] w (Pu (.string (itoaS n)) w) := by
  by_cases hn : n < 0
  · obtain ⟨N, rfl⟩ : ∃ N : Nat, n = -(N : Int) := ⟨n.natAbs, by omega⟩
    have hd := digits_nat N (by omega)
    have e : itoaS (-(N : Int)) = ⟨#[45]⟩ ++ ⟨(Lib.decDigits N).toArray⟩ := by
      rw [pre_eq]
      unfold itoaS Lib.itoa
      rw [if_pos hn]
      simp
    have hsz : (⟨(Lib.decDigits N).toArray⟩ : ByteArray).size ≤ 21 := by
      have := itoaS_size N (by omega) (by omega)
      unfold itoaS Lib.itoa at this
      rw [if_neg (by omega)] at this
      simpa using this
    rw [e]
    generalize (⟨(Lib.decDigits N).toArray⟩ : ByteArray) = s at *
    clear e
    have hNp : 0 < N := by omega
    go_enter Tryd.func36, Tryd.ntmps36
    go_wp2_with fail
    refine (hd _).mono ?_
    rintro e w1 ⟨rfl, rfl⟩
    go_wp2
    go_ret
    exact ⟨rfl, rfl⟩
  · obtain ⟨N, rfl⟩ : ∃ N : Nat, n = (N : Int) := ⟨n.toNat, by omega⟩
    have e : itoaS (N : Int) = ⟨(Lib.decDigits N).toArray⟩ := by
      unfold itoaS Lib.itoa
      rw [if_neg hn]
      simp
    rw [e]
    exact digits_nat N (by omega) w

set_option maxHeartbeats 400000 in
set_option maxRecDepth 1000000 in
theorem rtext_right (p1 p2 : Nat) (a b : Int) (ha : Rt p1 a) (hb : Rt p2 b) (w : World) :
    Calls Tryd.prog 23 #[.complex .f64 p1 p2] w (Pu (.string (text a b)) w) := by
  have a20 := ha.2
  have b20 := hb.2
  have hP := parts_yes p1 p2 a b ha hb
  have s1 := itoaS_size a (by omega) (by omega)
  have s2 := itoaS_size b (by omega) (by omega)
  have i1 := digits a (by omega) (by omega)
  have i2 := digits b (by omega) (by omega)
  clear ha hb
  unfold text
  generalize itoaS a = sa at *
  generalize itoaS b = sb at *
  by_cases hb0 : b = 0
  · rw [if_pos hb0]
    have e1 : (b == 0) = true := by simpa using hb0
    clear hb0
    go_enter Tryd.func23, Tryd.ntmps23
    go_wp2_with fail
    refine (hP _).mono ?_
    rintro e w1 ⟨rfl, rfl⟩
    go_wp2_with fail
    refine (i1 _).mono ?_
    rintro e w2 ⟨rfl, rfl⟩
    go_wp2
    go_ret
    exact ⟨rfl, rfl⟩
  rw [if_neg hb0]
  have e1 : (b == 0) = false := by simpa using hb0
  by_cases ha0 : a = 0
  · rw [if_pos ha0]
    have e2 : (a == 0) = true := by simpa using ha0
    clear hb0 ha0
    go_enter Tryd.func23, Tryd.ntmps23
    go_wp2_with fail
    refine (hP _).mono ?_
    rintro e w1 ⟨rfl, rfl⟩
    go_wp2_with fail
    refine (i2 _).mono ?_
    rintro e w2 ⟨rfl, rfl⟩
    go_wp2
    go_ret
    exact ⟨rfl, rfl⟩
  rw [if_neg ha0]
  have e2 : (a == 0) = false := by simpa using ha0
  clear hb0 ha0
  by_cases hb1 : 0 < b
  · rw [if_pos hb1]
    go_enter Tryd.func23, Tryd.ntmps23
    go_wp2_with fail
    refine (hP _).mono ?_
    rintro e w1 ⟨rfl, rfl⟩
    go_wp2_with fail
    refine (i1 _).mono ?_
    rintro e w2 ⟨rfl, rfl⟩
    go_wp2_with fail
    refine (i2 _).mono ?_
    rintro e w2 ⟨rfl, rfl⟩
    go_wp2
    go_ret
    exact ⟨by simp [ByteArray.append_assoc], rfl⟩
  · rw [if_neg hb1]
    go_enter Tryd.func23, Tryd.ntmps23
    go_wp2_with fail
    refine (hP _).mono ?_
    rintro e w1 ⟨rfl, rfl⟩
    go_wp2_with fail
    refine (i1 _).mono ?_
    rintro e w2 ⟨rfl, rfl⟩
    go_wp2_with fail
    refine (i2 _).mono ?_
    rintro e w2 ⟨rfl, rfl⟩
    go_wp2
    go_ret
    exact ⟨by simp [ByteArray.append_assoc], rfl⟩
set_option maxRecDepth 1000000 in
theorem rtext_no (p1 p2 : Nat) (h : NotRt p1 ∨ NotRt p2) (w : World) :
    Calls Tryd.prog 23 #[.complex .f64 p1 p2] w (Pu (.string ⟨#[]⟩) w) := by
  go_enter Tryd.func23, Tryd.ntmps23
  go_wp2_with fail
  refine (parts_no p1 p2 h _).mono ?_
  rintro e w1 ⟨⟨u, v, rfl⟩, rfl⟩
  go_wp2
  go_ret
  exact ⟨rfl, rfl⟩
end Go.Proofs.YtldbfldonkcjmaaDoor
