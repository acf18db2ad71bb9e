/-
  Proved: for every two integers and two bools the law NumParts answers true: digits with noughts ahead are the number that they are without; a part that is too great is none. The package-level tables of the library that strconv.Itoa reads start as the program's text lays them (the card ties them); no other condition.
-/
import Derived.Test.YtldbfldonkcjmabDoorLaid
import Derived.Test.YtldbfldonkcjmabDoorOps
import Derived.Test.YtldbfldonkcjmabDoorBack
import Derived.Test.YtldbfldonkcjmabDoorTie
import Derived.Test.YtldbfldonkcjmabDoorCards
namespace Go.Proofs.YtldbfldonkcjmabDoor
open Go.ChangeShapes Go.WideShapes Go.ChangeAt Go.RowKit

def zS (m : Nat) : ByteArray := mkS (List.replicate m 48)
theorem zS_step (m : Nat) : zS m ++ ⟨#[48]⟩ = zS (m + 1) := by
  unfold zS
  rw [show (⟨#[48]⟩ : ByteArray) = mkS [48] from rfl, mkS_append, List.replicate_succ']
theorem zS_size (m : Nat) : (zS m).size = m := by
  show (List.replicate m (48 : UInt8)).toArray.size = m
  simp
theorem zero_fold (m : Nat) (E : List UInt8) : (List.replicate m 48 ++ E).foldl accA 0 = E.foldl accA 0 := by
  induction m with
  | zero => rfl
  | succ k ih => rw [List.replicate_succ, List.cons_append, List.foldl_cons]; exact ih
theorem zero_dig (m : Nat) (E : List UInt8) (hE : ∀ c ∈ E, dig c = true) : ∀ c ∈ List.replicate m 48 ++ E, dig c = true := by
  intro c hc
  rcases List.mem_append.1 hc with hc | hc
  · rw [(List.mem_replicate.1 hc).2]; decide
  · exact hE c hc
/-- The text that is read, as it is put together. -/
def tS (m : Nat) (S : ByteArray) (second minus : Bool) : ByteArray :=
  if minus then ⟨#[45]⟩ ++ (if second then zS m ++ S ++ ⟨#[105]⟩ else zS m ++ S) else (if second then zS m ++ S ++ ⟨#[105]⟩ else zS m ++ S)
theorem parse_tS (m : Nat) (E : List UInt8) (hE : ∀ c ∈ E, dig c = true) (h0 : E ≠ []) (second minus : Bool) :
    parseW numA (tS m (mkS E) second minus) = if second then right3 0 (sgn minus (E.foldl accA 0)) else right3 (sgn minus (E.foldl accA 0)) 0 := by
  have hD := zero_dig m E hE
  have hne : List.replicate m 48 ++ E ≠ [] := by simp [h0]
  have e1 : tS m (mkS E) second minus = mkS ((if minus then [45] else []) ++ (List.replicate m 48 ++ E) ++ (if second then [105] else [])) := by
    unfold tS zS
    rw [i_lit, show (⟨#[45]⟩ : ByteArray) = mkS [45] from rfl]
    cases second <;> cases minus <;> simp [mkS_append]
  rw [e1]
  cases second
  · have := parse_mk minus (List.replicate m 48 ++ E) [] hD hne (by simp)
    simp only [Bool.false_eq_true, if_false] at this ⊢
    rw [this, rest_nil, zero_fold]
  · have := parse_mk minus (List.replicate m 48 ++ E) [105] hD hne (by intro c hc; cases hc; decide)
    simp only [if_true] at this ⊢
    rw [this, rest_i, zero_fold]
theorem tS_size (m : Nat) (S : ByteArray) (second minus : Bool) (hm : m ≤ 30) (hS : S.size ≤ 30) : (tS m S second minus).size ≤ 9223372036854775806 := by
  have e1 : (⟨#[105]⟩ : ByteArray).size = 1 := rfl
  have e2 : (⟨#[45]⟩ : ByteArray).size = 1 := rfl
  have e3 := zS_size m
  unfold tS
  cases second <;> cases minus <;> simp only [Bool.false_eq_true, if_false, if_true, ByteArray.size_append] <;> omega

set_option maxHeartbeats 3200000 in
set_option maxRecDepth 1000000 in
theorem numParts_small (n1 n2 : Int) (N m : Nat) (hN : N ≤ 1048576) (hm : m ≤ 30) (second minus : Bool)
    (wa : ∀ w : World, Calls Tryd.prog 5 #[.int .i64 n1, .int .i64 0, .int .i64 2097152] w (Pu (.int .i64 N) w)) (wb : ∀ w : World, Calls Tryd.prog 5 #[.int .i64 n2, .int .i64 0, .int .i64 30] w (Pu (.int .i64 m) w))
    (w : World) (ht : Tab w) : Calls Tryd.prog 4 #[.int .i64 n1, .int .i64 n2, .bool second, .bool minus] w (KnownE w) := by
  have o1 := ofC (N : Int) 0
  have tx := text_right _ _ (N : Int) 0 (fl_lt _) (fl_lt _) (flRt (N : Int) (by omega)) (flRt 0 (by decide))
  have hE : text (N : Int) 0 = mkS (Lib.decDigits N) := by
    unfold text
    rw [if_pos rfl, itoaS_mk, if_neg (by simp)]
    rfl
  rw [hE] at tx
  have hS2 : (mkS (Lib.decDigits N)).size ≤ 30 := by
    rw [← hE]
    unfold text
    rw [if_pos rfl]
    have := itoaS_size (N : Int) (by omega) (by omega)
    omega
  have hP : ∀ se mi : Bool, parseW numA (tS m (mkS (Lib.decDigits N)) se mi) = if se then (0, sgn mi N, true) else (sgn mi N, 0, true) := by
    intro se mi
    rw [parse_tS m _ (dec_dig _ _ (Nat.le_refl _)) (dec_ne N) se mi, dec_val _ _ (Nat.le_refl _) hN]
    cases se
    · exact right3_in _ _ (by rw [sgn_abs]; exact hN) (by decide)
    · exact right3_in _ _ (by decide) (by rw [sgn_abs]; exact hN)
  have hpar : ∀ (se mi : Bool) (w : World), Calls Tryd.prog 10 #[.string (tS m (mkS (Lib.decDigits N)) se mi)] w (ParseE (if se then (0, sgn mi N, true) else (sgn mi N, 0, true)) w) := by
    intro se mi w
    have := parse _ (tS_size m _ se mi hm hS2) w
    rw [hP se mi] at this
    exact this
  clear hP hE
  have g1 : ¬ ((1048576 : Int) < (N : Int)) := by omega
  have q0 : (FloatKind.f64.format.order (floatOfInt .f64 0) (floatOfInt .f64 0) == some .eq) = true := eqF (Fl.mk 0 (by decide)) (Fl.mk 0 (by decide))
  have qn : (FloatKind.f64.format.order (floatOfInt .f64 (N : Int)) (floatOfInt .f64 (N : Int)) == some .eq) = true := eqF (Fl.mk _ (by omega)) (Fl.mk _ (by omega))
  have qm : (FloatKind.f64.format.order (floatOfInt .f64 (-(N : Int))) (floatOfInt .f64 (-(N : Int))) == some .eq) = true := eqF (Fl.mk _ (by omega)) (Fl.mk _ (by omega))
  unfold tS sgn at hpar
  generalize mkS (Lib.decDigits N) = S at *
  cases second
  · cases minus
    · skip
      go_enter Tryd.func4, Tryd.ntmps4
      go_wp2_with fail
      refine (wa _).mono ?_
      rintro e w1 ⟨rfl, rfl⟩
      go_wp2_with fail
      refine (o1 _).mono ?_
      rintro e w1 ⟨rfl, rfl⟩
      go_wp2_with fail
      refine (tx _ ht).mono ?_
      rintro e w3 ⟨rfl, k3⟩
      go_wp2_with fail
      refine (wb _).mono ?_
      rintro e w3 ⟨rfl, rfl⟩
      go_wp2
      go_loopg [10, 11] m (fun g z i wr => ∃ k j : Nat, g = k ∧ k + j = m ∧ z = .string (zS j) ∧ i = .int .i64 k ∧ wr = w3)
      case atStart => exact ⟨m, 0, rfl, by omega, rfl, rfl, rfl⟩
      case round =>
        obtain ⟨k, j, hg, hkj, rfl, rfl, hwr⟩ := hrel
        subst hwr
        by_cases hk : 0 < k
        · have hz := zS_step j
          have hzs := zS_size j
          have hk' : (0 : Int) < (k : Int) := by omega
          go_wp2
          go_roundg (k - 1)
          case measure => omega
          case rel => exact ⟨k - 1, j + 1, rfl, by omega, by first | rfl | (rw [← hz]), by go_num, rfl⟩
        · obtain rfl : k = 0 := by omega
          obtain rfl : j = m := by omega
          have hzs := zS_size j
          have hp := hpar false false
          simp only [Bool.false_eq_true, if_false] at hp
          clear hpar
          go_wp2_with fail
          refine (hp _).mono ?_
          rintro e w4 ⟨rfl, n4, hw4⟩
          have k4 := k3.trans ((show Below wr.heap.size wr w4 by rw [hw4]; exact below_drewN wr n4).mono k3.size)
          clear hw4
          go_wp2_with fail
          refine (ofC ((N : Int)) 0 _).mono ?_
          rintro e w5 ⟨rfl, rfl⟩
          go_wp2_with fail
          refine (known_true _ (ht.below k4)).mono ?_
          rintro e w6 ⟨rfl, k6⟩
          have k7 := k4.trans (k6.mono k4.size)
          go_wp2
          go_ret
          exact ⟨rfl, k7⟩
    · skip
      go_enter Tryd.func4, Tryd.ntmps4
      go_wp2_with fail
      refine (wa _).mono ?_
      rintro e w1 ⟨rfl, rfl⟩
      go_wp2_with fail
      refine (o1 _).mono ?_
      rintro e w1 ⟨rfl, rfl⟩
      go_wp2_with fail
      refine (tx _ ht).mono ?_
      rintro e w3 ⟨rfl, k3⟩
      go_wp2_with fail
      refine (wb _).mono ?_
      rintro e w3 ⟨rfl, rfl⟩
      go_wp2
      go_loopg [10, 11] m (fun g z i wr => ∃ k j : Nat, g = k ∧ k + j = m ∧ z = .string (zS j) ∧ i = .int .i64 k ∧ wr = w3)
      case atStart => exact ⟨m, 0, rfl, by omega, rfl, rfl, rfl⟩
      case round =>
        obtain ⟨k, j, hg, hkj, rfl, rfl, hwr⟩ := hrel
        subst hwr
        by_cases hk : 0 < k
        · have hz := zS_step j
          have hzs := zS_size j
          have hk' : (0 : Int) < (k : Int) := by omega
          go_wp2
          go_roundg (k - 1)
          case measure => omega
          case rel => exact ⟨k - 1, j + 1, rfl, by omega, by first | rfl | (rw [← hz]), by go_num, rfl⟩
        · obtain rfl : k = 0 := by omega
          obtain rfl : j = m := by omega
          have hzs := zS_size j
          have hp := hpar false true
          simp only [Bool.false_eq_true, if_false, if_true] at hp
          clear hpar
          go_wp2_with fail
          refine (hp _).mono ?_
          rintro e w4 ⟨rfl, n4, hw4⟩
          have k4 := k3.trans ((show Below wr.heap.size wr w4 by rw [hw4]; exact below_drewN wr n4).mono k3.size)
          clear hw4
          go_wp2_with fail
          refine (ofC (-(N : Int)) 0 _).mono ?_
          rintro e w5 ⟨rfl, rfl⟩
          go_wp2_with fail
          refine (known_true _ (ht.below k4)).mono ?_
          rintro e w6 ⟨rfl, k6⟩
          have k7 := k4.trans (k6.mono k4.size)
          go_wp2
          go_ret
          exact ⟨rfl, k7⟩
  · cases minus
    · skip
      go_enter Tryd.func4, Tryd.ntmps4
      go_wp2_with fail
      refine (wa _).mono ?_
      rintro e w1 ⟨rfl, rfl⟩
      go_wp2_with fail
      refine (o1 _).mono ?_
      rintro e w1 ⟨rfl, rfl⟩
      go_wp2_with fail
      refine (tx _ ht).mono ?_
      rintro e w3 ⟨rfl, k3⟩
      go_wp2_with fail
      refine (wb _).mono ?_
      rintro e w3 ⟨rfl, rfl⟩
      go_wp2
      go_loopg [10, 11] m (fun g z i wr => ∃ k j : Nat, g = k ∧ k + j = m ∧ z = .string (zS j) ∧ i = .int .i64 k ∧ wr = w3)
      case atStart => exact ⟨m, 0, rfl, by omega, rfl, rfl, rfl⟩
      case round =>
        obtain ⟨k, j, hg, hkj, rfl, rfl, hwr⟩ := hrel
        subst hwr
        by_cases hk : 0 < k
        · have hz := zS_step j
          have hzs := zS_size j
          have hk' : (0 : Int) < (k : Int) := by omega
          go_wp2
          go_roundg (k - 1)
          case measure => omega
          case rel => exact ⟨k - 1, j + 1, rfl, by omega, by first | rfl | (rw [← hz]), by go_num, rfl⟩
        · obtain rfl : k = 0 := by omega
          obtain rfl : j = m := by omega
          have hzs := zS_size j
          have hp := hpar true false
          simp only [Bool.false_eq_true, if_false, if_true] at hp
          clear hpar
          go_wp2_with fail
          refine (hp _).mono ?_
          rintro e w4 ⟨rfl, n4, hw4⟩
          have k4 := k3.trans ((show Below wr.heap.size wr w4 by rw [hw4]; exact below_drewN wr n4).mono k3.size)
          clear hw4
          go_wp2_with fail
          refine (ofC ((N : Int)) 0 _).mono ?_
          rintro e w5 ⟨rfl, rfl⟩
          go_wp2_with fail
          refine (ofC 0 ((N : Int)) _).mono ?_
          rintro e w5 ⟨rfl, rfl⟩
          go_wp2_with fail
          refine (known_true _ (ht.below k4)).mono ?_
          rintro e w6 ⟨rfl, k6⟩
          have k7 := k4.trans (k6.mono k4.size)
          go_wp2
          go_ret
          exact ⟨rfl, k7⟩
    · skip
      go_enter Tryd.func4, Tryd.ntmps4
      go_wp2_with fail
      refine (wa _).mono ?_
      rintro e w1 ⟨rfl, rfl⟩
      go_wp2_with fail
      refine (o1 _).mono ?_
      rintro e w1 ⟨rfl, rfl⟩
      go_wp2_with fail
      refine (tx _ ht).mono ?_
      rintro e w3 ⟨rfl, k3⟩
      go_wp2_with fail
      refine (wb _).mono ?_
      rintro e w3 ⟨rfl, rfl⟩
      go_wp2
      go_loopg [10, 11] m (fun g z i wr => ∃ k j : Nat, g = k ∧ k + j = m ∧ z = .string (zS j) ∧ i = .int .i64 k ∧ wr = w3)
      case atStart => exact ⟨m, 0, rfl, by omega, rfl, rfl, rfl⟩
      case round =>
        obtain ⟨k, j, hg, hkj, rfl, rfl, hwr⟩ := hrel
        subst hwr
        by_cases hk : 0 < k
        · have hz := zS_step j
          have hzs := zS_size j
          have hk' : (0 : Int) < (k : Int) := by omega
          go_wp2
          go_roundg (k - 1)
          case measure => omega
          case rel => exact ⟨k - 1, j + 1, rfl, by omega, by first | rfl | (rw [← hz]), by go_num, rfl⟩
        · obtain rfl : k = 0 := by omega
          obtain rfl : j = m := by omega
          have hzs := zS_size j
          have hp := hpar true true
          simp only [if_true] at hp
          clear hpar
          go_wp2_with fail
          refine (hp _).mono ?_
          rintro e w4 ⟨rfl, n4, hw4⟩
          have k4 := k3.trans ((show Below wr.heap.size wr w4 by rw [hw4]; exact below_drewN wr n4).mono k3.size)
          clear hw4
          go_wp2_with fail
          refine (ofC (-(N : Int)) 0 _).mono ?_
          rintro e w5 ⟨rfl, rfl⟩
          go_wp2_with fail
          refine (ofC 0 (-(N : Int)) _).mono ?_
          rintro e w5 ⟨rfl, rfl⟩
          go_wp2_with fail
          refine (known_true _ (ht.below k4)).mono ?_
          rintro e w6 ⟨rfl, k6⟩
          have k7 := k4.trans (k6.mono k4.size)
          go_wp2
          go_ret
          exact ⟨rfl, k7⟩

set_option maxHeartbeats 3200000 in
set_option maxRecDepth 1000000 in
theorem numParts_big (n1 n2 : Int) (N m : Nat) (hN : 1048576 < N ∧ N ≤ 2097152) (hm : m ≤ 30) (second minus : Bool)
    (wa : ∀ w : World, Calls Tryd.prog 5 #[.int .i64 n1, .int .i64 0, .int .i64 2097152] w (Pu (.int .i64 N) w)) (wb : ∀ w : World, Calls Tryd.prog 5 #[.int .i64 n2, .int .i64 0, .int .i64 30] w (Pu (.int .i64 m) w))
    (w : World) (ht : Tab w) : Calls Tryd.prog 4 #[.int .i64 n1, .int .i64 n2, .bool second, .bool minus] w (KnownE w) := by
  have o1 := ofC (N : Int) 0
  have tx := text_no _ _ (fl_lt (N : Int)) (fl_lt 0) (.inl (not_rt (Fl.mk (N : Int) (by omega)) (by omega)))
  have o2 := ofC 1048576 0
  have tx2 := text_right _ _ 1048576 0 (fl_lt _) (fl_lt _) (flRt 1048576 (by decide)) (flRt 0 (by decide))
  have hE : text 1048576 0 ++ ⟨#[48]⟩ = mkS (Lib.decDigits 1048576 ++ [48]) := by
    unfold text
    rw [if_pos rfl, itoaS_mk, show (⟨#[48]⟩ : ByteArray) = mkS [48] from rfl, mkS_append]
    rfl
  have hS : (text 1048576 0).size ≤ 21 := by
    unfold text
    rw [if_pos rfl]
    exact itoaS_size _ (by decide) (by decide)
  have hS2 : (mkS (Lib.decDigits 1048576 ++ [48])).size ≤ 30 := by
    rw [← hE, ByteArray.size_append]
    have : (⟨#[48]⟩ : ByteArray).size = 1 := rfl
    omega
  have hdd : ∀ c ∈ Lib.decDigits 1048576 ++ [48], dig c = true := by
    intro c hc
    rcases List.mem_append.1 hc with hc | hc
    · exact dec_dig _ _ (Nat.le_refl _) c hc
    · rw [List.mem_singleton.1 hc]; decide
  have hfold : (Lib.decDigits 1048576 ++ [48]).foldl accA 0 = 10485760 := by
    rw [List.foldl_append, dec_val _ _ (Nat.le_refl _) (by decide)]
    rfl
  have hP : ∀ se mi : Bool, parseW numA (tS m (mkS (Lib.decDigits 1048576 ++ [48])) se mi) = (0, 0, false) := by
    intro se mi
    rw [parse_tS m _ hdd (by simp) se mi, hfold]
    cases se
    · exact right3_big _ _ (.inl (by rw [sgn_abs]; decide))
    · exact right3_big _ _ (.inr (by rw [sgn_abs]; decide))
  have hpar : ∀ (se mi : Bool) (w : World), Calls Tryd.prog 10 #[.string (tS m (mkS (Lib.decDigits 1048576 ++ [48])) se mi)] w (ParseE (0, 0, false) w) := by
    intro se mi w
    have := parse _ (tS_size m _ se mi hm hS2) w
    rw [hP se mi] at this
    exact this
  clear hP hfold hdd
  have g1 : (1048576 : Int) < (N : Int) := by omega
  have q0 : (FloatKind.f64.format.order (floatOfInt .f64 0) 0 == some .eq) = true := eqF (Fl.mk 0 (by decide)) Fl.zero
  unfold tS at hpar
  generalize text 1048576 0 = S0 at *
  generalize hSE : mkS (Lib.decDigits 1048576 ++ [48]) = S at *
  cases second
  · cases minus
    · skip
      go_enter Tryd.func4, Tryd.ntmps4
      go_wp2_with fail
      refine (wa _).mono ?_
      rintro e w1 ⟨rfl, rfl⟩
      go_wp2_with fail
      refine (o1 _).mono ?_
      rintro e w1 ⟨rfl, rfl⟩
      go_wp2_with fail
      refine (tx _).mono ?_
      rintro e w2 ⟨rfl, k2⟩
      go_wp2_with fail
      refine (o2 _).mono ?_
      rintro e w3 ⟨rfl, rfl⟩
      go_wp2_with fail
      refine (tx2 _ (ht.below k2)).mono ?_
      rintro e w3 ⟨rfl, k3'⟩
      have k3 := k2.trans (k3'.mono k2.size)
      clear k3' k2
      go_wp2_with fail
      refine (wb _).mono ?_
      rintro e w3 ⟨rfl, rfl⟩
      go_wp2
      go_loopg [10, 11] m (fun g z i wr => ∃ k j : Nat, g = k ∧ k + j = m ∧ z = .string (zS j) ∧ i = .int .i64 k ∧ wr = w3)
      case atStart => exact ⟨m, 0, rfl, by omega, rfl, rfl, rfl⟩
      case round =>
        obtain ⟨k, j, hg, hkj, rfl, rfl, hwr⟩ := hrel
        subst hwr
        by_cases hk : 0 < k
        · have hz := zS_step j
          have hzs := zS_size j
          have hk' : (0 : Int) < (k : Int) := by omega
          go_wp2
          go_roundg (k - 1)
          case measure => omega
          case rel => exact ⟨k - 1, j + 1, rfl, by omega, by first | rfl | (rw [← hz]), by go_num, rfl⟩
        · obtain rfl : k = 0 := by omega
          obtain rfl : j = m := by omega
          have hzs := zS_size j
          have hp := hpar false false
          simp only [Bool.false_eq_true, if_false] at hp
          clear hpar
          go_wp2_with fail
          refine (hp _).mono ?_
          rintro e w4 ⟨rfl, n4, hw4⟩
          have k4 := k3.trans ((show Below wr.heap.size wr w4 by rw [hw4]; exact below_drewN wr n4).mono k3.size)
          clear hw4
          go_wp2_with fail
          refine (known_true _ (ht.below k4)).mono ?_
          rintro e w6 ⟨rfl, k6⟩
          have k7 := k4.trans (k6.mono k4.size)
          go_wp2
          go_ret
          exact ⟨rfl, k7⟩
    · skip
      go_enter Tryd.func4, Tryd.ntmps4
      go_wp2_with fail
      refine (wa _).mono ?_
      rintro e w1 ⟨rfl, rfl⟩
      go_wp2_with fail
      refine (o1 _).mono ?_
      rintro e w1 ⟨rfl, rfl⟩
      go_wp2_with fail
      refine (tx _).mono ?_
      rintro e w2 ⟨rfl, k2⟩
      go_wp2_with fail
      refine (o2 _).mono ?_
      rintro e w3 ⟨rfl, rfl⟩
      go_wp2_with fail
      refine (tx2 _ (ht.below k2)).mono ?_
      rintro e w3 ⟨rfl, k3'⟩
      have k3 := k2.trans (k3'.mono k2.size)
      clear k3' k2
      go_wp2_with fail
      refine (wb _).mono ?_
      rintro e w3 ⟨rfl, rfl⟩
      go_wp2
      go_loopg [10, 11] m (fun g z i wr => ∃ k j : Nat, g = k ∧ k + j = m ∧ z = .string (zS j) ∧ i = .int .i64 k ∧ wr = w3)
      case atStart => exact ⟨m, 0, rfl, by omega, rfl, rfl, rfl⟩
      case round =>
        obtain ⟨k, j, hg, hkj, rfl, rfl, hwr⟩ := hrel
        subst hwr
        by_cases hk : 0 < k
        · have hz := zS_step j
          have hzs := zS_size j
          have hk' : (0 : Int) < (k : Int) := by omega
          go_wp2
          go_roundg (k - 1)
          case measure => omega
          case rel => exact ⟨k - 1, j + 1, rfl, by omega, by first | rfl | (rw [← hz]), by go_num, rfl⟩
        · obtain rfl : k = 0 := by omega
          obtain rfl : j = m := by omega
          have hzs := zS_size j
          have hp := hpar false true
          simp only [Bool.false_eq_true, if_false, if_true] at hp
          clear hpar
          go_wp2_with fail
          refine (hp _).mono ?_
          rintro e w4 ⟨rfl, n4, hw4⟩
          have k4 := k3.trans ((show Below wr.heap.size wr w4 by rw [hw4]; exact below_drewN wr n4).mono k3.size)
          clear hw4
          go_wp2_with fail
          refine (known_true _ (ht.below k4)).mono ?_
          rintro e w6 ⟨rfl, k6⟩
          have k7 := k4.trans (k6.mono k4.size)
          go_wp2
          go_ret
          exact ⟨rfl, k7⟩
  · cases minus
    · skip
      go_enter Tryd.func4, Tryd.ntmps4
      go_wp2_with fail
      refine (wa _).mono ?_
      rintro e w1 ⟨rfl, rfl⟩
      go_wp2_with fail
      refine (o1 _).mono ?_
      rintro e w1 ⟨rfl, rfl⟩
      go_wp2_with fail
      refine (tx _).mono ?_
      rintro e w2 ⟨rfl, k2⟩
      go_wp2_with fail
      refine (o2 _).mono ?_
      rintro e w3 ⟨rfl, rfl⟩
      go_wp2_with fail
      refine (tx2 _ (ht.below k2)).mono ?_
      rintro e w3 ⟨rfl, k3'⟩
      have k3 := k2.trans (k3'.mono k2.size)
      clear k3' k2
      go_wp2_with fail
      refine (wb _).mono ?_
      rintro e w3 ⟨rfl, rfl⟩
      go_wp2
      go_loopg [10, 11] m (fun g z i wr => ∃ k j : Nat, g = k ∧ k + j = m ∧ z = .string (zS j) ∧ i = .int .i64 k ∧ wr = w3)
      case atStart => exact ⟨m, 0, rfl, by omega, rfl, rfl, rfl⟩
      case round =>
        obtain ⟨k, j, hg, hkj, rfl, rfl, hwr⟩ := hrel
        subst hwr
        by_cases hk : 0 < k
        · have hz := zS_step j
          have hzs := zS_size j
          have hk' : (0 : Int) < (k : Int) := by omega
          go_wp2
          go_roundg (k - 1)
          case measure => omega
          case rel => exact ⟨k - 1, j + 1, rfl, by omega, by first | rfl | (rw [← hz]), by go_num, rfl⟩
        · obtain rfl : k = 0 := by omega
          obtain rfl : j = m := by omega
          have hzs := zS_size j
          have hp := hpar true false
          simp only [Bool.false_eq_true, if_false, if_true] at hp
          clear hpar
          go_wp2_with fail
          refine (hp _).mono ?_
          rintro e w4 ⟨rfl, n4, hw4⟩
          have k4 := k3.trans ((show Below wr.heap.size wr w4 by rw [hw4]; exact below_drewN wr n4).mono k3.size)
          clear hw4
          go_wp2_with fail
          refine (known_true _ (ht.below k4)).mono ?_
          rintro e w6 ⟨rfl, k6⟩
          have k7 := k4.trans (k6.mono k4.size)
          go_wp2
          go_ret
          exact ⟨rfl, k7⟩
    · skip
      go_enter Tryd.func4, Tryd.ntmps4
      go_wp2_with fail
      refine (wa _).mono ?_
      rintro e w1 ⟨rfl, rfl⟩
      go_wp2_with fail
      refine (o1 _).mono ?_
      rintro e w1 ⟨rfl, rfl⟩
      go_wp2_with fail
      refine (tx _).mono ?_
      rintro e w2 ⟨rfl, k2⟩
      go_wp2_with fail
      refine (o2 _).mono ?_
      rintro e w3 ⟨rfl, rfl⟩
      go_wp2_with fail
      refine (tx2 _ (ht.below k2)).mono ?_
      rintro e w3 ⟨rfl, k3'⟩
      have k3 := k2.trans (k3'.mono k2.size)
      clear k3' k2
      go_wp2_with fail
      refine (wb _).mono ?_
      rintro e w3 ⟨rfl, rfl⟩
      go_wp2
      go_loopg [10, 11] m (fun g z i wr => ∃ k j : Nat, g = k ∧ k + j = m ∧ z = .string (zS j) ∧ i = .int .i64 k ∧ wr = w3)
      case atStart => exact ⟨m, 0, rfl, by omega, rfl, rfl, rfl⟩
      case round =>
        obtain ⟨k, j, hg, hkj, rfl, rfl, hwr⟩ := hrel
        subst hwr
        by_cases hk : 0 < k
        · have hz := zS_step j
          have hzs := zS_size j
          have hk' : (0 : Int) < (k : Int) := by omega
          go_wp2
          go_roundg (k - 1)
          case measure => omega
          case rel => exact ⟨k - 1, j + 1, rfl, by omega, by first | rfl | (rw [← hz]), by go_num, rfl⟩
        · obtain rfl : k = 0 := by omega
          obtain rfl : j = m := by omega
          have hzs := zS_size j
          have hp := hpar true true
          simp only [if_true] at hp
          clear hpar
          go_wp2_with fail
          refine (hp _).mono ?_
          rintro e w4 ⟨rfl, n4, hw4⟩
          have k4 := k3.trans ((show Below wr.heap.size wr w4 by rw [hw4]; exact below_drewN wr n4).mono k3.size)
          clear hw4
          go_wp2_with fail
          refine (known_true _ (ht.below k4)).mono ?_
          rintro e w6 ⟨rfl, k6⟩
          have k7 := k4.trans (k6.mono k4.size)
          go_wp2
          go_ret
          exact ⟨rfl, k7⟩

theorem numParts_walk (n1 n2 : Int) (second minus : Bool) (b1 : -9223372036854775808 ≤ n1 ∧ n1 ≤ 9223372036854775807) (b2 : -9223372036854775808 ≤ n2 ∧ n2 ≤ 9223372036854775807) (w : World) (ht : Tab w) :
    Calls Tryd.prog 4 #[.int .i64 n1, .int .i64 n2, .bool second, .bool minus] w (KnownE w) := by
  have a1 := within n1 2097152 b1.1 b1.2 (by decide)
  have a2 := within n2 30 b2.1 b2.2 (by decide)
  have e1 : n1 % (((2097152 : Nat) : Int) + 1) = (((n1 % 2097153).toNat : Nat) : Int) := by
    show n1 % 2097153 = _
    omega
  have e2 : n2 % (((30 : Nat) : Int) + 1) = (((n2 % 31).toNat : Nat) : Int) := by
    show n2 % 31 = _
    omega
  rw [e1] at a1
  rw [e2] at a2
  have h1 : (n1 % 2097153).toNat ≤ 2097152 := by omega
  have h2 : (n2 % 31).toNat ≤ 30 := by omega
  generalize (n1 % 2097153).toNat = N at *
  generalize (n2 % 31).toNat = m at *
  by_cases hN : N ≤ 1048576
  · exact numParts_small n1 n2 N m hN h2 second minus a1 a2 w ht
  · exact numParts_big n1 n2 N m (by omega) h2 second minus a1 a2 w ht

set_option maxRecDepth 100000 in
theorem numParts_lifted (os : Os) (started : os.Started) (H : Type) (enc : TypeId × Value → H) :
    ReturnsInHanded {} Tryd.checked os 4 .any (fun w args => (Rows.numPartsSpec.pre enc Tryd.prog Tryd.f4 [] false w args ∧ laidMetH Tryd.prog laid3 w) ∧ sizedMet enc Tryd.prog Tryd.f4 (OpenSpec.ofChange Rows.numPartsSpec) false w args)
      (Rows.numPartsSpec.post enc Tryd.prog Tryd.f4 false true false false) := by
  refine returnsInHanded_of_change_and (C := Tryd.checked) (X := fun w _ => laidMetH Tryd.prog laid3 w) (fun _ _ _ hh h => h.of_heap hh) own started (by kernel_rfl) Tryd.func4
    (ChangeSpec.witness_shaped (enc := enc) (C := Tryd.checked) (os := os) (X := fun w _ => laidMetH Tryd.prog laid3 w) false (World.doorLaid Tryd.prog 400 os) #[.int .i64 0, .int .i64 0, .bool false, .bool false] 8 rfl (World.shaped_of_RefB (by kernel_rfl) (by kernel_rfl)) (by kernel_rfl) (by kernel_rfl) (by kernel_rfl) (door_met os _)) ?_
  intro W base args ds gs before hval0 hW _ _ hL _
  have hval : ∀ (j : Nat) t v, Tryd.f4.params[j]? = some t → args[j]? = some v → Value.okWide Tryd.prog W .any base t v := hval0
  have hW' := hW
  obtain ⟨p, q, hA0, hV, rfl, hfz, hnd⟩ := hW
  have hA : DataW.TrodAll enc Tryd.prog W 0 (fun _ => true) true Tryd.f4.params.toList args.toList ds p := hA0
  rw [Tryd.params4] at hA hval
  obtain ⟨v0, vs0, d0, ds0, p0, q0, hargs, rfl, rfl, h0, r0⟩ := trodAll_cons hA
  obtain ⟨v1, vs1, d1, ds1, p1, q1, rfl, rfl, rfl, h1, r1⟩ := trodAll_cons r0
  obtain ⟨v2, vs2, d2, ds2, p2, q2, rfl, rfl, rfl, h2, r2⟩ := trodAll_cons r1
  obtain ⟨v3, vs3, d3, ds3, p3, q3, rfl, rfl, rfl, h3, r3⟩ := trodAll_cons r2
  obtain ⟨rfl, rfl, rfl⟩ := trodAll_nil r3
  obtain rfl : args = #[v0, v1, v2, v3] := by cases args; simp_all
  obtain ⟨rfl, rfl⟩ := trodVars_none hV
  obtain ⟨a0, rfl, rfl, rfl, w0⟩ := open_int Tryd.underlying3 (hval 0 3 v0 rfl rfl) h0
  have b0 := bounds_i64 w0
  obtain ⟨a1, rfl, rfl, rfl, w1⟩ := open_int Tryd.underlying3 (hval 1 3 v1 rfl rfl) h1
  have b1 := bounds_i64 w1
  obtain ⟨a2, rfl, rfl, rfl⟩ := open_bool Tryd.underlying4 (hval 2 4 v2 rfl rfl) h2
  obtain ⟨a3, rfl, rfl, rfl⟩ := open_bool Tryd.underlying4 (hval 3 4 v3 rfl rfl) h3
  clear hA0 hval0
  simp only [List.append_nil] at hW'
  refine (numParts_walk a0 a1 a2 a3 b0 b1 W (of_laid hL)).mono fun e W' ⟨he, bel⟩ => ?_
  subst he
  exact ⟨_, rfl, _, _, _, [], _, [], hW', trodAll_mk1 (shut_bool Tryd.underlying4 _), (trodAll_cons_mk (shut_int Tryd.underlying3 w0) (trodAll_cons_mk (shut_int Tryd.underlying3 w1) (trodAll_cons_mk (shut_bool Tryd.underlying4 _) (trodAll_cons_mk (shut_bool Tryd.underlying4 _) trodAll_mk0)))), rfl, bel.frame _, fun h => by cases h⟩

theorem numParts_row : Rows.NumPartsSaid :=
  OpenClaim.holds_of_wide 4 Tryd.f4 rfl rfl rfl rfl rfl rfl rfl ⟨rfl, rfl, rfl, rfl, rfl⟩ rfl rfl rfl rfl rfl (by kernel_rfl) Tryd.func4 (by kernel_rfl)
    (of_decide_eq_true (by kernel_rfl)) (by unfold Func.isWrapper; first | (rw [if_pos (by decide +kernel)]; kernel_rfl) | (rw [if_neg (by decide +kernel)]; exact ⟨rfl, rfl⟩))
    (fun os started H enc _ => numParts_lifted os started H enc)

theorem numParts_holds : Rows.NumPartsCardSaid :=
  Claim7.holds_tied_plain_at .later [] [.data, .data, .data] true (true, "2632e0bcf1344dcbc0a0becf8354e78d7d64663f7421b83d91ad847bbe72fecb") false
    numParts_row (fun _ h => by cases h) (by kernel_rfl) (fun _ h => by cases h) numParts_row_tie rfl ⟨rfl, rfl⟩ (by kernel_rfl) rfl
    (fun f fn hf hfn => by
      obtain rfl : f = 4 := Option.some.inj ((show Tryd.prog.funcNamed "hawser/hawserlaw2.NumParts" = some 4 by kernel_rfl).symm.trans hf) |>.symm
      obtain rfl : fn = Tryd.f4 := (Option.some.inj (Tryd.func4.symm.trans hfn)).symm
      exact ⟨by kernel_rfl, fun j t ht => by
        rw [Tryd.params4] at ht
        have hm : t ∈ [3, 3, 4, 4] := by simpa using Array.mem_of_getElem? ht
        have hall : ([3, 3, 4, 4].all fun u => !Tryd.prog.wantsStandIn u) = true := by kernel_rfl
        exact (show Tryd.prog.wantsStandIn t = false by simpa using List.all_eq_true.1 hall t hm)⟩)
    (by kernel_rfl)
#print axioms numParts_holds
end Go.Proofs.YtldbfldonkcjmabDoor
