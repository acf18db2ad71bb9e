/-
  The document's own answers, on: One, Less, Index.
-/
import Derived.Test.YtldbfldonkcjmaaDoorRef
namespace Go.Proofs.YtldbfldonkcjmaaDoor
open Go.RowKit Ieee

set_option maxRecDepth 1000000 in
theorem rone_arg (op : ByteArray) (p1 p2 : Nat) (h : NotRt p1 ∨ NotRt p2) (w : World) :
    Calls Tryd.prog 18 #[.string op, .complex .f64 p1 p2] w (NumE (0, 0, 1) w) := by
  go_enter Tryd.func18, Tryd.ntmps18
  go_wp2_with fail
  refine (parts_no p1 p2 h _).mono ?_
  rintro e w1 ⟨⟨u, v, rfl⟩, rfl⟩
  go_wp2
  go_ret2
  exact numE_zero 1 _
theorem fit_one (p q : Int) (h1 : p.natAbs ≤ 1048576) (h2 : q.natAbs ≤ 1048576) : fit p q = (p, q, 0) := if_pos ⟨h1, h2⟩

set_option maxHeartbeats 400000 in
set_option maxRecDepth 1000000 in
theorem rone_right (op : ByteArray) (p1 p2 : Nat) (a b : Int) (ha : Rt p1 a) (hb : Rt p2 b) (w : World) :
    Calls Tryd.prog 18 #[.string op, .complex .f64 p1 p2] w (NumE (one op a b) w) := by
  have a20 := ha.2
  have b20 := hb.2
  have hP := parts_yes p1 p2 a b ha hb
  have y1 := made (-a) (-b) (by omega) (by omega)
  have y2 := made a (-b) (by omega) (by omega)
  have y3 := made a 0 (by omega) (by omega)
  have y4 := made b 0 (by omega) (by omega)
  rw [fit_one _ _ (by omega) (by omega)] at y1 y2 y3 y4
  clear ha hb
  unfold one
  by_cases k1 : (op.toList == [110, 101, 103]) = true
  · rw [if_pos k1]
    go_enter Tryd.func18, Tryd.ntmps18
    go_wp2_with fail
    refine (hP _).mono ?_
    rintro e w1 ⟨rfl, rfl⟩
    go_wp2_with fail
    refine (y1 _).mono ?_
    rintro e w2 ⟨r1, r2, rfl, f1, f2, z1, z2, l1, l2, rfl⟩
    go_wp2
    go_ret2
    exact ⟨r1, r2, rfl, f1, f2, z1, z2, l1, l2, rfl⟩
  rw [if_neg k1]
  have k1' := Bool.eq_false_iff.2 k1
  clear k1
  by_cases k2 : (op.toList == [99, 111, 110, 106]) = true
  · rw [if_pos k2]
    go_enter Tryd.func18, Tryd.ntmps18
    go_wp2_with fail
    refine (hP _).mono ?_
    rintro e w1 ⟨rfl, rfl⟩
    go_wp2_with fail
    refine (y2 _).mono ?_
    rintro e w2 ⟨r1, r2, rfl, f1, f2, z1, z2, l1, l2, rfl⟩
    go_wp2
    go_ret2
    exact ⟨r1, r2, rfl, f1, f2, z1, z2, l1, l2, rfl⟩
  rw [if_neg k2]
  have k2' := Bool.eq_false_iff.2 k2
  clear k2
  by_cases k3 : (op.toList == [114, 101]) = true
  · rw [if_pos k3]
    go_enter Tryd.func18, Tryd.ntmps18
    go_wp2_with fail
    refine (hP _).mono ?_
    rintro e w1 ⟨rfl, rfl⟩
    go_wp2_with fail
    refine (y3 _).mono ?_
    rintro e w2 ⟨r1, r2, rfl, f1, f2, z1, z2, l1, l2, rfl⟩
    obtain rfl : r2 = 0 := z2 rfl
    clear z2
    go_wp2
    go_ret2
    exact ⟨r1, 0, rfl, f1, f2, z1, fun _ => rfl, l1, l2, rfl⟩
  rw [if_neg k3]
  have k3' := Bool.eq_false_iff.2 k3
  clear k3
  by_cases k4 : (op.toList == [105, 109]) = true
  · rw [if_pos k4]
    go_enter Tryd.func18, Tryd.ntmps18
    go_wp2_with fail
    refine (hP _).mono ?_
    rintro e w1 ⟨rfl, rfl⟩
    go_wp2_with fail
    refine (y4 _).mono ?_
    rintro e w2 ⟨r1, r2, rfl, f1, f2, z1, z2, l1, l2, rfl⟩
    obtain rfl : r2 = 0 := z2 rfl
    clear z2
    go_wp2
    go_ret2
    exact ⟨r1, 0, rfl, f1, f2, z1, fun _ => rfl, l1, l2, rfl⟩
  rw [if_neg k4]
  have k4' := Bool.eq_false_iff.2 k4
  clear k4
  go_enter Tryd.func18, Tryd.ntmps18
  go_wp2_with fail
  refine (hP _).mono ?_
  rintro e w1 ⟨rfl, rfl⟩
  go_wp2
  go_ret2
  exact numE_zero 1 _

set_option maxRecDepth 1000000 in
theorem rless_right (p1 p2 q1 q2 : Nat) (a b c d : Int) (ha : Rt p1 a) (hb : Rt p2 b) (hc : Rt q1 c) (hd : Rt q2 d) (w : World) :
    Calls Tryd.prog 21 #[.complex .f64 p1 p2, .complex .f64 q1 q2] w (Pu (.bool (less a b c d)) w) := by
  have hP := parts_yes p1 p2 a b ha hb
  have hQ := parts_yes q1 q2 c d hc hd
  clear ha hb hc hd
  unfold less
  rcases Int.lt_trichotomy a c with h | h | h
  · rw [if_neg (by omega), decide_eq_true h]
    go_enter Tryd.func21, Tryd.ntmps21
    go_wp2_with fail
    refine (hP _).mono ?_
    rintro e w1 ⟨rfl, rfl⟩
    go_wp2_with fail
    refine (hQ _).mono ?_
    rintro e w1 ⟨rfl, rfl⟩
    go_wp2
    go_ret
    exact ⟨rfl, rfl⟩
  · rw [if_pos h]
    subst h
    go_enter Tryd.func21, Tryd.ntmps21
    go_wp2_with fail
    refine (hP _).mono ?_
    rintro e w1 ⟨rfl, rfl⟩
    go_wp2_with fail
    refine (hQ _).mono ?_
    rintro e w1 ⟨rfl, rfl⟩
    go_wp2
    go_ret
    exact ⟨rfl, rfl⟩
  · have h1 : ¬ a < c := by omega
    have h2 : (a == c) = false := by simp; omega
    rw [if_neg (by omega)]
    clear h
    go_enter Tryd.func21, Tryd.ntmps21
    go_wp2_with fail
    refine (hP _).mono ?_
    rintro e w1 ⟨rfl, rfl⟩
    go_wp2_with fail
    refine (hQ _).mono ?_
    rintro e w1 ⟨rfl, rfl⟩
    go_wp2
    go_ret
    exact ⟨rfl, rfl⟩
set_option maxRecDepth 1000000 in
theorem rless_no (p1 p2 q1 q2 : Nat) (h : (NotRt p1 ∨ NotRt p2) ∨ (NotRt q1 ∨ NotRt q2)) (w : World) :
    Calls Tryd.prog 21 #[.complex .f64 p1 p2, .complex .f64 q1 q2] w (Pu (.bool false) w) := by
  by_cases hp : NotRt p1 ∨ NotRt p2
  · by_cases hq : NotRt q1 ∨ NotRt q2
    · go_enter Tryd.func21, Tryd.ntmps21
      go_wp2_with fail
      refine (parts_no p1 p2 hp _).mono ?_
      rintro e w1 ⟨⟨u, v, rfl⟩, rfl⟩
      go_wp2_with fail
      refine (parts_no q1 q2 hq _).mono ?_
      rintro e w1 ⟨⟨u', v', rfl⟩, rfl⟩
      go_wp2
      go_ret
      exact ⟨rfl, rfl⟩
    · obtain ⟨c, hc⟩ : ∃ v, Rt q1 v := (rt_or q1).resolve_right (fun h => hq (.inl h))
      obtain ⟨d, hd⟩ : ∃ v, Rt q2 v := (rt_or q2).resolve_right (fun h => hq (.inr h))
      go_enter Tryd.func21, Tryd.ntmps21
      go_wp2_with fail
      refine (parts_no p1 p2 hp _).mono ?_
      rintro e w1 ⟨⟨u, v, rfl⟩, rfl⟩
      go_wp2_with fail
      refine (parts_yes q1 q2 c d hc hd _).mono ?_
      rintro e w1 ⟨rfl, rfl⟩
      go_wp2
      go_ret
      exact ⟨rfl, rfl⟩
  · have hq : NotRt q1 ∨ NotRt q2 := h.resolve_left hp
    obtain ⟨a, ha⟩ : ∃ v, Rt p1 v := (rt_or p1).resolve_right (fun h => hp (.inl h))
    obtain ⟨b, hb⟩ : ∃ v, Rt p2 v := (rt_or p2).resolve_right (fun h => hp (.inr h))
    go_enter Tryd.func21, Tryd.ntmps21
    go_wp2_with fail
    refine (parts_yes p1 p2 a b ha hb _).mono ?_
    rintro e w1 ⟨rfl, rfl⟩
    go_wp2_with fail
    refine (parts_no q1 q2 hq _).mono ?_
    rintro e w1 ⟨⟨u', v', rfl⟩, rfl⟩
    go_wp2
    go_ret
    exact ⟨rfl, rfl⟩

set_option maxRecDepth 1000000 in
theorem rindex_right (p1 p2 : Nat) (a b : Int) (ha : Rt p1 a) (hb : Rt p2 b) (w : World) :
    Calls Tryd.prog 19 #[.complex .f64 p1 p2] w (Pu (.tuple #[.int .i64 (index a b).1, .bool (index a b).2]) w) := by
  have hP := parts_yes p1 p2 a b ha hb
  have a20 := ha.2
  clear ha hb
  unfold index
  by_cases hb0 : b = 0
  · subst hb0
    by_cases ha0 : a < 0
    · rw [if_neg (by omega)]
      go_enter Tryd.func19, Tryd.ntmps19
      go_wp2_with fail
      refine (hP _).mono ?_
      rintro e w1 ⟨rfl, rfl⟩
      go_wp2
      go_ret2
      exact ⟨rfl, rfl⟩
    · rw [if_pos (by omega)]
      go_enter Tryd.func19, Tryd.ntmps19
      go_wp2_with fail
      refine (hP _).mono ?_
      rintro e w1 ⟨rfl, rfl⟩
      go_wp2
      go_ret2
      exact ⟨rfl, rfl⟩
  · rw [if_neg (by omega)]
    have hb1 : (b != 0) = true := by simpa using hb0
    clear hb0
    go_enter Tryd.func19, Tryd.ntmps19
    go_wp2_with fail
    refine (hP _).mono ?_
    rintro e w1 ⟨rfl, rfl⟩
    go_wp2
    go_ret2
    exact ⟨rfl, rfl⟩
set_option maxRecDepth 1000000 in
theorem rindex_no (p1 p2 : Nat) (h : NotRt p1 ∨ NotRt p2) (w : World) :
    Calls Tryd.prog 19 #[.complex .f64 p1 p2] w (Pu (.tuple #[.int .i64 0, .bool false]) w) := by
  go_enter Tryd.func19, Tryd.ntmps19
  go_wp2_with fail
  refine (parts_no p1 p2 h _).mono ?_
  rintro e w1 ⟨⟨u, v, rfl⟩, rfl⟩
  go_wp2
  go_ret2
  exact ⟨rfl, rfl⟩
end Go.Proofs.YtldbfldonkcjmaaDoor
