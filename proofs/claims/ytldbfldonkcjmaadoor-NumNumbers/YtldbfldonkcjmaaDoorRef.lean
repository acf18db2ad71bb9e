/-
  The document's own answers: Parts, made, Two, One, Less, Index: what each call answers.
-/
import Derived.Test.YtldbfldonkcjmaaDoorOne
namespace Go.Proofs.YtldbfldonkcjmaaDoor
open Go.RowKit Ieee

def geB (x : Nat) : Bool := FloatKind.f64.format.order x 13920626448202203136 == some .gt || FloatKind.f64.format.order x 13920626448202203136 == some .eq
def leB (x : Nat) : Bool := FloatKind.f64.format.order x 4697254411347427328 == some .lt || FloatKind.f64.format.order x 4697254411347427328 == some .eq
theorem small_iff (x : Nat) : (geB x = true ∧ leB x = true) ↔ Small (double.read x) := by
  have := two_small x
  rw [fl20, flm20] at this
  exact this

theorem toInt_small (x : Nat) (h : Small (double.read x)) : ∃ v : Int, v.natAbs ≤ 1048576 ∧ floatToIntVal .f64 x .i64 = some v ∧ (Fl x v ∨ (double.order (floatOfInt .f64 v) x == some .eq) = false) := by
  obtain ⟨v, hv, ht, _⟩ := h.whole
  refine ⟨v, hv, ?_, ?_⟩
  · unfold floatToIntVal
    have e : (FloatKind.f64.decode x).toInt .zero = some v := ht
    rw [e]
    simp only
    rw [if_pos]
    constructor
    · show (-9223372036854775808 : Int) ≤ v
      omega
    · show v ≤ (9223372036854775807 : Int)
      omega
  · have hf := Fl.mk v (by omega)
    have hs : (double.order (floatOfInt .f64 v) x == some .eq) = (double.order x (floatOfInt .f64 v) == some .eq) := order_symm_eq _ _
    rw [hs]
    by_cases h : double.order x (floatOfInt .f64 v) = some .eq
    · exact .inl (Is.of_order hf h)
    · exact .inr (beq_eq_false_iff_ne.2 h)

set_option maxRecDepth 1000000 in
theorem parts_yes (x y : Nat) (a b : Int) (h1 : Rt x a) (h2 : Rt y b) (w : World) : Calls Tryd.prog 34 #[.complex .f64 x y] w (Pu (.tuple #[.int .i64 a, .int .i64 b, .bool true]) w) := by
  obtain ⟨g1, l1⟩ := (small_iff x).2 (Is.small h1.1 h1.2)
  obtain ⟨g2, l2⟩ := (small_iff y).2 (Is.small h2.1 h2.2)
  unfold geB at g1 g2
  unfold leB at l1 l2
  have c1 := conv_int64 x a h1
  have c2 := conv_int64 y b h2
  have a20 := h1.2
  have b20 := h2.2
  have e1 : (FloatKind.f64.format.order (floatOfInt .f64 a) x == some .eq) = true := (Fl.eq (Fl.mk a (by omega)) h1.1).trans (decide_eq_true rfl)
  have e2 : (FloatKind.f64.format.order (floatOfInt .f64 b) y == some .eq) = true := (Fl.eq (Fl.mk b (by omega)) h2.1).trans (decide_eq_true rfl)
  clear h1 h2
  go_enter Tryd.func34, Tryd.ntmps34
  go_wp2
  go_ret3
  exact ⟨rfl, rfl⟩

def PartsNo (w : World) (e : Ending) (w' : World) : Prop := (∃ u v : Int, e = .returned (.tuple #[.int .i64 u, .int .i64 v, .bool false])) ∧ w' = w

set_option maxHeartbeats 400000 in
set_option maxRecDepth 1000000 in
theorem parts_no (x y : Nat) (h : NotRt x ∨ NotRt y) (w : World) : Calls Tryd.prog 34 #[.complex .f64 x y] w (PartsNo w) := by
  by_cases hx : Small (double.read x)
  · obtain ⟨g1, l1⟩ := (small_iff x).2 hx
    unfold geB at g1
    unfold leB at l1
    by_cases hy : Small (double.read y)
    · obtain ⟨g2, l2⟩ := (small_iff y).2 hy
      unfold geB at g2
      unfold leB at l2
      obtain ⟨a, ha, ca, ea⟩ := toInt_small x hx
      obtain ⟨b, hb, cb, eb⟩ := toInt_small y hy
      have c1 := fun w => run_convert_float_int (P := Tryd.prog) w 31 2 .f64 .i64 x a (by kernel_rfl) Tryd.underlying2 ca
      have c2 := fun w => run_convert_float_int (P := Tryd.prog) w 31 2 .f64 .i64 y b (by kernel_rfl) Tryd.underlying2 cb
      have hor : (double.order (floatOfInt .f64 a) x == some .eq) = false ∨ ((double.order (floatOfInt .f64 a) x == some .eq) = true ∧ (double.order (floatOfInt .f64 b) y == some .eq) = false) := by
        rcases ea with ea | ea
        · rcases eb with eb | eb
          · rcases h with h | h
            · exact absurd ⟨ea, ha⟩ (h a)
            · exact absurd ⟨eb, hb⟩ (h b)
          · refine .inr ⟨?_, eb⟩
            have := Fl.eq (Fl.mk a (by omega)) ea
            simpa using this
        · exact .inl ea
      clear ca cb ea eb ha hb h hx hy
      rcases hor with k1 | ⟨k1, k2⟩
      · have k1' : (FloatKind.f64.format.order (floatOfInt .f64 a) x == some .eq) = false := k1
        clear k1
        go_enter Tryd.func34, Tryd.ntmps34
        go_wp2
        go_ret3
        exact ⟨⟨_, _, rfl⟩, rfl⟩
      · have k1' : (FloatKind.f64.format.order (floatOfInt .f64 a) x == some .eq) = true := k1
        have k2' : (FloatKind.f64.format.order (floatOfInt .f64 b) y == some .eq) = false := k2
        clear k1 k2
        go_enter Tryd.func34, Tryd.ntmps34
        go_wp2
        go_ret3
        exact ⟨⟨_, _, rfl⟩, rfl⟩
    · have hn : geB y = false ∨ (geB y = true ∧ leB y = false) := by
        cases hg : geB y
        · exact .inl rfl
        · refine .inr ⟨rfl, ?_⟩
          cases hl : leB y
          · rfl
          · exact absurd ((small_iff y).1 ⟨hg, hl⟩) hy
      unfold geB leB at hn
      clear hx hy h
      rcases hn with g2 | ⟨g2, l2⟩
      · go_enter Tryd.func34, Tryd.ntmps34
        go_wp2
        go_ret3
        exact ⟨⟨_, _, rfl⟩, rfl⟩
      · go_enter Tryd.func34, Tryd.ntmps34
        go_wp2
        go_ret3
        exact ⟨⟨_, _, rfl⟩, rfl⟩
  · have hn : geB x = false ∨ (geB x = true ∧ leB x = false) := by
      cases hg : geB x
      · exact .inl rfl
      · refine .inr ⟨rfl, ?_⟩
        cases hl : leB x
        · rfl
        · exact absurd ((small_iff x).1 ⟨hg, hl⟩) hx
    unfold geB leB at hn
    clear hx h
    rcases hn with g2 | ⟨g2, l2⟩
    · go_enter Tryd.func34, Tryd.ntmps34
      go_wp2
      go_ret3
      exact ⟨⟨_, _, rfl⟩, rfl⟩
    · go_enter Tryd.func34, Tryd.ntmps34
      go_wp2
      go_ret3
      exact ⟨⟨_, _, rfl⟩, rfl⟩

set_option maxRecDepth 1000000 in
theorem rright_yes (x y : Nat) (a b : Int) (h1 : Rt x a) (h2 : Rt y b) (w : World) : Calls Tryd.prog 22 #[.complex .f64 x y] w (Pu (.bool true) w) := by
  go_enter Tryd.func22, Tryd.ntmps22
  go_wp2_with fail
  refine (parts_yes x y a b h1 h2 _).mono ?_
  rintro e w1 ⟨rfl, rfl⟩
  go_wp2
  go_ret
  exact ⟨rfl, rfl⟩
set_option maxRecDepth 1000000 in
theorem rright_no (x y : Nat) (h : NotRt x ∨ NotRt y) (w : World) : Calls Tryd.prog 22 #[.complex .f64 x y] w (Pu (.bool false) w) := by
  go_enter Tryd.func22, Tryd.ntmps22
  go_wp2_with fail
  refine (parts_no x y h _).mono ?_
  rintro e w1 ⟨⟨u, v, rfl⟩, rfl⟩
  go_wp2
  go_ret
  exact ⟨rfl, rfl⟩

theorem fl_lt (n : Int) : floatOfInt .f64 n < 18446744073709551616 := by
  have := floatOfInt_wf .f64 n
  simpa [Lit.wf] using this
theorem fl_eq_zero (n : Int) (h : n = 0) : floatOfInt .f64 n = 0 := by subst h; exact fl_zero

set_option maxRecDepth 1000000 in
theorem rof (p q : Int) (w : World) : Calls Tryd.prog 44 #[.int .i64 p, .int .i64 q] w (Pu (.complex .f64 (floatOfInt .f64 p) (floatOfInt .f64 q)) w) := by
  go_enter Tryd.func44, Tryd.ntmps44
  go_wp2
  go_ret
  exact ⟨rfl, rfl⟩
set_option maxRecDepth 1000000 in
theorem made (p q : Int) (hp : p.natAbs < 9007199254740992) (hq : q.natAbs < 9007199254740992) (w : World) : Calls Tryd.prog 35 #[.int .i64 p, .int .i64 q] w (NumE (fit p q) w) := by
  have f1 := Fl.mk p hp
  have f2 := Fl.mk q hq
  by_cases hf : p.natAbs ≤ 1048576 ∧ q.natAbs ≤ 1048576
  · rw [fit, if_pos hf]
    have hR := rright_yes _ _ p q ⟨f1, hf.1⟩ ⟨f2, hf.2⟩
    go_enter Tryd.func35, Tryd.ntmps35
    go_wp2_with fail
    refine (rof p q _).mono ?_
    rintro e w1 ⟨rfl, rfl⟩
    go_wp2_with fail
    refine (hR _).mono ?_
    rintro e w1 ⟨rfl, rfl⟩
    go_wp2
    go_ret2
    exact ⟨_, _, rfl, f1, f2, fl_eq_zero p, fl_eq_zero q, fl_lt p, fl_lt q, rfl⟩
  · rw [fit, if_neg hf]
    have hN : NotRt (floatOfInt .f64 p) ∨ NotRt (floatOfInt .f64 q) := by
      by_cases h : p.natAbs ≤ 1048576
      · exact .inr (not_rt f2 (fun h' => hf ⟨h, h'⟩))
      · exact .inl (not_rt f1 h)
    have hR := rright_no _ _ hN
    go_enter Tryd.func35, Tryd.ntmps35
    go_wp2_with fail
    refine (rof p q _).mono ?_
    rintro e w1 ⟨rfl, rfl⟩
    go_wp2_with fail
    refine (hR _).mono ?_
    rintro e w1 ⟨rfl, rfl⟩
    go_wp2
    go_ret2
    exact numE_zero 44 _

set_option maxRecDepth 1000000 in
theorem rtwo_arg (op : ByteArray) (p1 p2 q1 q2 : Nat) (h : (NotRt p1 ∨ NotRt p2) ∨ (NotRt q1 ∨ NotRt q2)) (w : World) :
    Calls Tryd.prog 17 #[.string op, .complex .f64 p1 p2, .complex .f64 q1 q2] w (NumE (0, 0, 1) w) := by
  by_cases hp : NotRt p1 ∨ NotRt p2
  · by_cases hq : NotRt q1 ∨ NotRt q2
    · go_enter Tryd.func17, Tryd.ntmps17
      go_wp2_with fail
      refine (parts_no p1 p2 hp _).mono ?_
      rintro e w1 ⟨⟨u, v, rfl⟩, rfl⟩
      go_wp2_with fail
      refine (parts_no q1 q2 hq _).mono ?_
      rintro e w1 ⟨⟨u', v', rfl⟩, rfl⟩
      go_wp2
      go_ret2
      exact numE_zero 1 _
    · obtain ⟨c, hc⟩ : ∃ v, Rt q1 v := (rt_or q1).resolve_right (fun h => hq (.inl h))
      obtain ⟨d, hd⟩ : ∃ v, Rt q2 v := (rt_or q2).resolve_right (fun h => hq (.inr h))
      go_enter Tryd.func17, Tryd.ntmps17
      go_wp2_with fail
      refine (parts_no p1 p2 hp _).mono ?_
      rintro e w1 ⟨⟨u, v, rfl⟩, rfl⟩
      go_wp2_with fail
      refine (parts_yes q1 q2 c d hc hd _).mono ?_
      rintro e w1 ⟨rfl, rfl⟩
      go_wp2
      go_ret2
      exact numE_zero 1 _
  · have hq : NotRt q1 ∨ NotRt q2 := h.resolve_left hp
    obtain ⟨a, ha⟩ : ∃ v, Rt p1 v := (rt_or p1).resolve_right (fun h => hp (.inl h))
    obtain ⟨b, hb⟩ : ∃ v, Rt p2 v := (rt_or p2).resolve_right (fun h => hp (.inr h))
    go_enter Tryd.func17, Tryd.ntmps17
    go_wp2_with fail
    refine (parts_yes p1 p2 a b ha hb _).mono ?_
    rintro e w1 ⟨rfl, rfl⟩
    go_wp2_with fail
    refine (parts_no q1 q2 hq _).mono ?_
    rintro e w1 ⟨⟨u', v', rfl⟩, rfl⟩
    go_wp2
    go_ret2
    exact numE_zero 1 _

set_option maxHeartbeats 400000 in
set_option maxRecDepth 1000000 in
theorem rtwo_right (op : ByteArray) (p1 p2 q1 q2 : Nat) (a b c d : Int) (ha : Rt p1 a) (hb : Rt p2 b) (hc : Rt q1 c) (hd : Rt q2 d) (w : World) :
    Calls Tryd.prog 17 #[.string op, .complex .f64 p1 p2, .complex .f64 q1 q2] w (NumE (two op a b c d) w) := by
  have a20 := ha.2
  have b20 := hb.2
  have c20 := hc.2
  have d20 := hd.2
  have m1 := mul_small a20 c20
  have m2 := mul_small b20 d20
  have m3 := mul_small a20 d20
  have m4 := mul_small b20 c20
  have x1 : IntKind.i64.wrap (a * c) = a * c := by rw [IntKind.wrap_i64]; omega
  have x2 : IntKind.i64.wrap (b * d) = b * d := by rw [IntKind.wrap_i64]; omega
  have x3 : IntKind.i64.wrap (a * d) = a * d := by rw [IntKind.wrap_i64]; omega
  have x4 : IntKind.i64.wrap (b * c) = b * c := by rw [IntKind.wrap_i64]; omega
  have x5 : IntKind.i64.wrap (a * c - b * d) = a * c - b * d := by rw [IntKind.wrap_i64]; omega
  have x6 : IntKind.i64.wrap (a * d + b * c) = a * d + b * c := by rw [IntKind.wrap_i64]; omega
  have hP := parts_yes p1 p2 a b ha hb
  have hQ := parts_yes q1 q2 c d hc hd
  have y1 := made (a + c) (b + d) (by omega) (by omega)
  have y2 := made (a - c) (b - d) (by omega) (by omega)
  have y3 := made (a * c - b * d) (a * d + b * c) (by omega) (by omega)
  clear ha hb hc hd m1 m2 m3 m4
  unfold two
  by_cases k1 : (op.toList == [97, 100, 100]) = true
  · rw [if_pos k1]
    go_enter Tryd.func17, Tryd.ntmps17
    go_wp2_with fail
    refine (hP _).mono ?_
    rintro e w1 ⟨rfl, rfl⟩
    go_wp2_with fail
    refine (hQ _).mono ?_
    rintro e w1 ⟨rfl, rfl⟩
    go_wp2_with fail
    refine (y1 _).mono ?_
    rintro e w2 ⟨r1, r2, rfl, f1, f2, z1, z2, l1, l2, rfl⟩
    go_wp2
    go_ret2
    exact ⟨r1, r2, rfl, f1, f2, z1, z2, l1, l2, rfl⟩
  rw [if_neg k1]
  have k1' := Bool.eq_false_iff.2 k1
  clear k1
  by_cases k2 : (op.toList == [115, 117, 98]) = true
  · rw [if_pos k2]
    go_enter Tryd.func17, Tryd.ntmps17
    go_wp2_with fail
    refine (hP _).mono ?_
    rintro e w1 ⟨rfl, rfl⟩
    go_wp2_with fail
    refine (hQ _).mono ?_
    rintro e w1 ⟨rfl, rfl⟩
    go_wp2_with fail
    refine (y2 _).mono ?_
    rintro e w2 ⟨r1, r2, rfl, f1, f2, z1, z2, l1, l2, rfl⟩
    go_wp2
    go_ret2
    exact ⟨r1, r2, rfl, f1, f2, z1, z2, l1, l2, rfl⟩
  rw [if_neg k2]
  have k2' := Bool.eq_false_iff.2 k2
  clear k2
  by_cases k3 : (op.toList == [109, 117, 108]) = true
  · rw [if_pos k3]
    go_enter Tryd.func17, Tryd.ntmps17
    go_wp2_with fail
    refine (hP _).mono ?_
    rintro e w1 ⟨rfl, rfl⟩
    go_wp2_with fail
    refine (hQ _).mono ?_
    rintro e w1 ⟨rfl, rfl⟩
    go_wp2_with fail
    refine (y3 _).mono ?_
    rintro e w2 ⟨r1, r2, rfl, f1, f2, z1, z2, l1, l2, rfl⟩
    go_wp2
    go_ret2
    exact ⟨r1, r2, rfl, f1, f2, z1, z2, l1, l2, rfl⟩
  rw [if_neg k3]
  have k3' := Bool.eq_false_iff.2 k3
  clear k3
  go_enter Tryd.func17, Tryd.ntmps17
  go_wp2_with fail
  refine (hP _).mono ?_
  rintro e w1 ⟨rfl, rfl⟩
  go_wp2_with fail
  refine (hQ _).mono ?_
  rintro e w1 ⟨rfl, rfl⟩
  go_wp2
  go_ret2
  exact numE_zero 1 _
end Go.Proofs.YtldbfldonkcjmaaDoor
