/-
  The package's Parse: its walk.
-/
import Derived.Test.YtldbfldonkcjmabDoorParseAll
namespace Go.Proofs.YtldbfldonkcjmabDoor
open Go.RowKit Ieee

theorem parseE_mk {r : Int × Int × Bool} {w : World} {n m : Nat} {e : Ending} {w' : World} (h : ParseE r (w.drewN n) e w') (hm : m = n) : ParseE r (w.drewN m) e w' := by subst hm; exact h
theorem parseE_on {r : Int × Int × Bool} {w : World} {n : Nat} {e : Ending} {w' : World} (h : ParseE r (w.drewN n) e w') : ParseE r w e w' := by
  obtain ⟨h1, k, h2⟩ := h
  exact ⟨h1, n + k, by rw [h2, World.drewN_drewN]⟩
theorem parseE_zero (w : World) (n : Nat) : ParseE (0, 0, false) w (.returned (.tuple #[.complex .f64 0 0, .bool false])) (w.drewN n) := ⟨by rw [fl_zero], n, rfl⟩
theorem drewN0 (w : World) : w.drewN 0 = w := rfl

theorem quiet_add {P : Program} {f : FuncId} {args : Array Value} {w : World} {n x : Nat} {v : Value} (h : Calls P f args (w.drewN (n + x)) fun e w' => e = .returned v ∧ ∃ m, w' = (w.drewN (n + x)).drewN m) :
    Calls P f args (w.drewN (n + x)) fun e w'' => e = .returned v ∧ ∃ m, w'' = w.drewN (n + m) :=
  h.mono fun _ _ ⟨he, m, hm⟩ => ⟨he, x + m, by rw [hm, World.drewN_drewN, Nat.add_assoc]⟩

theorem head_at (r : ByteArray) (h : 0 < r.size) : r.data.toList.head? = some r[0] := by
  rw [List.head?_eq_getElem?]
  exact get_k r 0 h
theorem empty_size (r : ByteArray) (h : r.toList.isEmpty = false) : 0 < r.size := by
  rw [ByteArray.toList_eq] at h
  have : r.data.toList ≠ [] := by intro e; rw [e] at h; cases h
  have h2 := List.length_pos_iff.2 this
  rw [Array.length_toList] at h2
  exact h2

set_option maxHeartbeats 800000 in
set_option maxRecDepth 1000000 in
theorem parse_none (s : ByteArray) (hs : s.size ≤ 9223372036854775806) (hk : (pre (cutS s)).length = 0) (w : World) : Calls Tryd.prog 10 #[.string s] w (ParseE (0, 0, false) w) := by
  have hc := cut s
  have hr := readPart (cutS s) (minusAhead s) (Nat.le_trans (cutS_size s) hs)
  have hb : decide (0 < (pre (cutS s)).length) = false := by simp [hk]
  unfold PartA at hr
  rw [hb] at hr
  generalize cutS s = s1 at *
  generalize minusAhead s = b at *
  generalize floatOfInt .f64 (if b then -(numA s1 : Int) else (numA s1 : Int)) = x at *
  generalize s1.extract (pre s1).length s1.size = r at *
  clear hk hb
  go_enter Tryd.func10, Tryd.ntmps10
  go_wp2_with fail
  refine (hc _).mono ?_
  rintro e w1 ⟨rfl, rfl⟩
  go_wp2_with fail
  refine (hr _).mono ?_
  rintro e w2 ⟨rfl, n, rfl⟩
  go_wp2
  go_ret2
  exact parseE_zero _ _

set_option maxHeartbeats 800000 in
set_option maxRecDepth 1000000 in
theorem parse_some (s : ByteArray) (hs : s.size ≤ 9223372036854775806) (hk : (pre (cutS s)).length ≠ 0) (w : World) :
    Calls Tryd.prog 10 #[.string s] w (ParseE (restW numA (sgn (minusAhead s) (numA (cutS s))) ((cutS s).extract (pre (cutS s)).length (cutS s).size)) w) := by
  have hc := cut s
  have hr := readPart (cutS s) (minusAhead s) (Nat.le_trans (cutS_size s) hs)
  have hb : decide (0 < (pre (cutS s)).length) = true := by simp; omega
  have hN := numA_le (cutS s)
  have hsz : ((cutS s).extract (pre (cutS s)).length (cutS s).size).size ≤ 9223372036854775806 := Nat.le_trans (extract_size _ _) (Nat.le_trans (cutS_size s) hs)
  have hsg : (if minusAhead s then -(numA (cutS s) : Int) else (numA (cutS s) : Int)) = sgn (minusAhead s) (numA (cutS s)) := rfl
  have hpa := sgn_abs (minusAhead s) (numA (cutS s))
  unfold PartA at hr
  rw [hb, hsg] at hr
  clear hb hk hsg
  generalize sgn (minusAhead s) (numA (cutS s)) = p at *
  generalize (cutS s).extract (pre (cutS s)).length (cutS s).size = r at *
  generalize cutS s = s1 at *
  generalize minusAhead s = b at *
  have i1 := ifRight p 0 (by omega) (by decide)
  have i2 := ifRight 0 p (by decide) (by omega)
  rw [fl_zero] at i1 i2
  unfold restW
  by_cases h1 : r.toList.isEmpty = true
  · rw [if_pos h1]
    clear i2
    generalize floatOfInt .f64 p = x at *
    go_enter Tryd.func10, Tryd.ntmps10
    go_wp2_with fail
    refine (hc _).mono ?_
    rintro e w1 ⟨rfl, rfl⟩
    go_wp2_with fail
    refine (hr _).mono ?_
    rintro e w2 ⟨rfl, n, rfl⟩
    go_wp2_with fail
    refine (i1 _).mono ?_
    rintro e w2 ⟨rfl, n2, rfl⟩
    go_wp2
    go_ret2
    exact ⟨rfl, n + n2, rfl⟩
  rw [if_neg h1]
  have h1' := Bool.eq_false_iff.2 h1
  have hp := empty_size r h1'
  have hp1 : (1 : Int) ≤ (r.size : Int) := by omega
  have hp0 : (0 : Int) < (r.size : Int) := by omega
  clear h1 i1
  by_cases h2 : (r.toList == [105]) = true
  · rw [if_pos h2]
    generalize floatOfInt .f64 p = x at *
    go_enter Tryd.func10, Tryd.ntmps10
    go_wp2_with fail
    refine (hc _).mono ?_
    rintro e w1 ⟨rfl, rfl⟩
    go_wp2_with fail
    refine (hr _).mono ?_
    rintro e w2 ⟨rfl, n, rfl⟩
    go_wp2_with fail
    refine (i2 _).mono ?_
    rintro e w2 ⟨rfl, n2, rfl⟩
    go_wp2
    go_ret2
    exact ⟨rfl, n + n2, rfl⟩
  rw [if_neg h2]
  have h2' := Bool.eq_false_iff.2 h2
  clear h2 i2
  rw [head_at r hp]
  have hx : (r.extract 1 r.size).size ≤ 9223372036854775806 := Nat.le_trans (extract_size _ _) hsz
  generalize hy : r.extract 1 r.size = r2 at *
  by_cases h3 : r[0] = 43
  · rw [if_pos (by rw [h3])]
    have hcc : (r[0].toNat : Int) = 43 := by rw [h3]; rfl
    have hr2 := readPart r2 false hx
    have hN2 := numA_le r2
    have hpb := sgn_abs false (numA r2)
    have hsg : (if false = true then -(numA r2 : Int) else (numA r2 : Int)) = sgn false (numA r2) := rfl
    unfold PartA at hr2
    rw [hsg] at hr2
    clear hsg
    unfold tailW
    generalize sgn false (numA r2) = q at *
    generalize r2.extract (pre r2).length r2.size = r3 at *
    clear h3
    by_cases hk2 : (pre r2).length = 0
    · have hb2 : decide (0 < (pre r2).length) = false := by simp [hk2]
      rw [hb2] at hr2
      rw [if_pos hk2]
      clear hb2 hk2 hN2 hpb
      generalize floatOfInt .f64 p = x at *
      generalize floatOfInt .f64 q = y at *
      go_enter Tryd.func10, Tryd.ntmps10
      go_wp2_with fail
      refine (hc _).mono ?_
      rintro e w1 ⟨rfl, rfl⟩
      go_wp2_with fail
      refine (hr _).mono ?_
      rintro e w2 ⟨rfl, n, rfl⟩
      go_wp2
      go_quiet ((go_at_call 15; refine quiet_add (hr2 _)))
      go_wp2
      go_ret2
      exact parseE_zero _ _
    have hb2 : decide (0 < (pre r2).length) = true := by simp; omega
    rw [hb2] at hr2
    rw [if_neg hk2]
    clear hb2 hk2
    by_cases h5 : (r3.toList == [105]) = true
    · rw [if_pos h5]
      have i3 := ifRight p q (by omega) (by omega)
      generalize floatOfInt .f64 p = x at *
      generalize floatOfInt .f64 q = y at *
      go_enter Tryd.func10, Tryd.ntmps10
      go_wp2_with fail
      refine (hc _).mono ?_
      rintro e w1 ⟨rfl, rfl⟩
      go_wp2_with fail
      refine (hr _).mono ?_
      rintro e w2 ⟨rfl, n, rfl⟩
      go_wp2
      go_quiet ((go_at_call 15; refine quiet_add (hr2 _)))
      go_wp2_with fail
      refine (i3 _).mono ?_
      rintro e w2 ⟨rfl, n2, rfl⟩
      go_wp2
      go_ret2
      exact ⟨rfl, _, rfl⟩
    · rw [if_neg h5]
      have h5' := Bool.eq_false_iff.2 h5
      clear h5
      generalize floatOfInt .f64 p = x at *
      generalize floatOfInt .f64 q = y at *
      go_enter Tryd.func10, Tryd.ntmps10
      go_wp2_with fail
      refine (hc _).mono ?_
      rintro e w1 ⟨rfl, rfl⟩
      go_wp2_with fail
      refine (hr _).mono ?_
      rintro e w2 ⟨rfl, n, rfl⟩
      go_wp2
      go_quiet ((go_at_call 15; refine quiet_add (hr2 _)))
      go_wp2
      go_ret2
      exact parseE_zero _ _
  rw [if_neg (by simpa using h3)]
  by_cases h4 : r[0] = 45
  · rw [if_pos (by rw [h4])]
    have hcc : (r[0].toNat : Int) = 45 := by rw [h4]; rfl
    have hr2 := readPart r2 true hx
    have hN2 := numA_le r2
    have hpb := sgn_abs true (numA r2)
    have hsg : (if true = true then -(numA r2 : Int) else (numA r2 : Int)) = sgn true (numA r2) := rfl
    unfold PartA at hr2
    rw [hsg] at hr2
    clear hsg
    unfold tailW
    generalize sgn true (numA r2) = q at *
    generalize r2.extract (pre r2).length r2.size = r3 at *
    clear h3 h4
    by_cases hk2 : (pre r2).length = 0
    · have hb2 : decide (0 < (pre r2).length) = false := by simp [hk2]
      rw [hb2] at hr2
      rw [if_pos hk2]
      clear hb2 hk2 hN2 hpb
      generalize floatOfInt .f64 p = x at *
      generalize floatOfInt .f64 q = y at *
      go_enter Tryd.func10, Tryd.ntmps10
      go_wp2_with fail
      refine (hc _).mono ?_
      rintro e w1 ⟨rfl, rfl⟩
      go_wp2_with fail
      refine (hr _).mono ?_
      rintro e w2 ⟨rfl, n, rfl⟩
      go_wp2
      go_quiet ((go_at_call 15; refine quiet_add (hr2 _)))
      go_wp2
      go_ret2
      exact parseE_zero _ _
    have hb2 : decide (0 < (pre r2).length) = true := by simp; omega
    rw [hb2] at hr2
    rw [if_neg hk2]
    clear hb2 hk2
    by_cases h5 : (r3.toList == [105]) = true
    · rw [if_pos h5]
      have i3 := ifRight p q (by omega) (by omega)
      generalize floatOfInt .f64 p = x at *
      generalize floatOfInt .f64 q = y at *
      go_enter Tryd.func10, Tryd.ntmps10
      go_wp2_with fail
      refine (hc _).mono ?_
      rintro e w1 ⟨rfl, rfl⟩
      go_wp2_with fail
      refine (hr _).mono ?_
      rintro e w2 ⟨rfl, n, rfl⟩
      go_wp2
      go_quiet ((go_at_call 15; refine quiet_add (hr2 _)))
      go_wp2_with fail
      refine (i3 _).mono ?_
      rintro e w2 ⟨rfl, n2, rfl⟩
      go_wp2
      go_ret2
      exact ⟨rfl, _, rfl⟩
    · rw [if_neg h5]
      have h5' := Bool.eq_false_iff.2 h5
      clear h5
      generalize floatOfInt .f64 p = x at *
      generalize floatOfInt .f64 q = y at *
      go_enter Tryd.func10, Tryd.ntmps10
      go_wp2_with fail
      refine (hc _).mono ?_
      rintro e w1 ⟨rfl, rfl⟩
      go_wp2_with fail
      refine (hr _).mono ?_
      rintro e w2 ⟨rfl, n, rfl⟩
      go_wp2
      go_quiet ((go_at_call 15; refine quiet_add (hr2 _)))
      go_wp2
      go_ret2
      exact parseE_zero _ _
  rw [if_neg (by simpa using h4)]
  have h3' : ((r[0].toNat : Int) != 43) = true := by
    have : r[0].toNat ≠ 43 := fun e => h3 (UInt8.toNat_inj.1 (by rw [e]; rfl))
    simp; omega
  have h4' : ((r[0].toNat : Int) != 45) = true := by
    have : r[0].toNat ≠ 45 := fun e => h4 (UInt8.toNat_inj.1 (by rw [e]; rfl))
    simp; omega
  clear h3 h4
  generalize floatOfInt .f64 p = x at *
  go_enter Tryd.func10, Tryd.ntmps10
  go_wp2_with fail
  refine (hc _).mono ?_
  rintro e w1 ⟨rfl, rfl⟩
  go_wp2_with fail
  refine (hr _).mono ?_
  rintro e w2 ⟨rfl, n, rfl⟩
  go_wp2
  go_ret2
  exact parseE_zero _ _

theorem parse (s : ByteArray) (hs : s.size ≤ 9223372036854775806) (w : World) : Calls Tryd.prog 10 #[.string s] w (ParseE (parseW numA s) w) := by
  unfold parseW
  split
  · rename_i h; exact parse_none s hs h w
  · rename_i h; exact parse_some s hs h w
end Go.Proofs.YtldbfldonkcjmabDoor
