/-
  TypesLong: a type is one just as long as it may be; brackets more make it too long: for every number.
-/
import Derived.Deep.LoopGhost
import Derived.Test.YtcjlifhehiolkaaRows
import Derived.Test.YtcjlifhehiolkaaTypesKnown
import Derived.ProofKit
import Derived.OpenShut
namespace Go.Proofs.Ytcjlifhehiolkaa
open Go.ChangeShapes Go.WideShapes Go.ChangeAt Go.RowKit

/-- num within k brackets. -/
def arrN : Nat → List UInt8
  | 0 => numL
  | k + 1 => arrR (arrN k)
theorem arrN_len : ∀ k, (arrN k).length = 3 + 2 * k
  | 0 => rfl
  | k + 1 => by simp [arrN, arrR, arrN_len k]; omega
theorem arrN_one : ∀ k, one (arrN k) = some []
  | 0 => by kernel_rfl
  | k + 1 => one_arrR (arrN_one k)
theorem arrN_right (k : Nat) : rightR (arrN k) = decide (3 + 2 * k ≤ 200) := by
  rw [rightR, arrN_len, arrN_one]
  simp
theorem arrR_elem (x : List UInt8) : elemR (arrR x) = x := by
  simp [elemR, arrR]
theorem arrR_head (x : List UInt8) : isHead 91 (arrR x) = true := rfl
set_option maxHeartbeats 2000000 in
set_option maxRecDepth 1000000 in
theorem bookWithin (n : Int) (w : World) (_h : -9223372036854775808 ≤ n ∧ n ≤ 9223372036854775807) : Calls Try.prog 20 #[.int .i64 n, .int .i64 0, .int .i64 150] w fun e w' => ∃ k : Nat, k ≤ 150 ∧ e = .returned (.int .i64 (k : Int)) ∧ w' = w := by
  have h1 : n.tmod 151 < 151 ∧ -151 < n.tmod 151 := by
    have := Int.tmod_lt_of_pos n (b := 151) (by decide)
    have h2 := Int.lt_tmod_of_pos n (b := 151) (by decide)
    exact ⟨this, h2⟩
  have hw : IntKind.i64.wrap (n.tmod 151) = n.tmod 151 := by rw [IntKind.wrap_i64]; omega
  generalize hr : n.tmod 151 = r at *
  by_cases h0 : r < 0
  · go_enter Try.func20, Try.ntmps20
    go_wp2
    go_ret
    exact ⟨(r + 151).toNat, by omega, by rw [Int.toNat_of_nonneg (by omega)]; exact congrArg (fun x => Ending.returned (Value.int .i64 x)) (by omega), rfl⟩
  · go_enter Try.func20, Try.ntmps20
    go_wp2
    go_ret
    exact ⟨r.toNat, by omega, by rw [Int.toNat_of_nonneg (by omega)]; rfl, rfl⟩

set_option maxHeartbeats 4000000 in
set_option maxRecDepth 1000000 in
theorem long_walk (a0 : Int) (b0 : -9223372036854775808 ≤ a0 ∧ a0 ≤ 9223372036854775807) (w : World) : Calls Try.prog 6 #[.int .i64 a0] w fun e w' => e = .returned (.bool true) ∧ Below w.heap.size w w' := by
  have hk := known
  go_enter Try.func6, Try.ntmps6
  go_wp2_with fail
  refine (bookWithin a0 _ b0).mono ?_
  rintro e w1 ⟨k, hk150, rfl, rfl⟩
  go_wp2
  go_loopg [3, 4] k (fun g s i wr => ∃ (j : Nat), g + j = k ∧ s = .string (str (arrN j)) ∧ i = .int .i64 (j : Int) ∧ wr = w1)
  case atStart => exact ⟨0, rfl, rfl, rfl, rfl⟩
  case round =>
    obtain ⟨j, hg, rfl, rfl, rfl⟩ := hrel
    by_cases hj : j < k
    · have har := array (arrN j) wr (by rw [arrN_len]; omega)
      have hj' : (j : Int) < (k : Int) := by omega
      go_wp2_with (go_at_call 15; refine har.mono ?_; rintro e w2 ⟨rfl, rfl⟩)
      go_roundg (k - (j + 1))
      case measure => omega
      case rel => exact ⟨j + 1, by omega, rfl, by go_num, rfl⟩
    · have hj' : ¬ (j : Int) < (k : Int) := by omega
      obtain rfl : j = k := by omega
      have hsz : (str (arrN j)).size = 3 + 2 * j := arrN_len j
      have hel := fun u => elem (str (arrN j)) u
      have hri := fun u => right (str (arrN j)) u
      rw [str_data, arrN_right] at hri
      unfold ElemE at hel
      rw [str_data] at hel
      have hia : isArr (arrN j) = (decide (3 + 2 * j ≤ 200) && decide (0 < j)) := by
        rw [isArr, arrN_right]
        cases j with
        | zero => rfl
        | succ j => rw [show isHead 91 (arrN (j + 1)) = true from rfl]; simp
      rw [hia] at hel
      by_cases hf : 3 + 2 * j ≤ 200
      · rw [decide_eq_true hf] at hri hel
        have hf' : (3 + 2 * (j : Int)) ≤ 200 := by omega
        cases j with
        | zero =>
          simp only [Nat.lt_irrefl, decide_false, Bool.and_false, Bool.false_eq_true, if_false] at hel
          generalize arrN 0 = x at *
          go_wp2_with fail
          refine (hel _).mono ?_
          rintro e w2 ⟨rfl, hb2⟩
          go_wp2_with fail
          refine (hri _).mono ?_
          rintro e w3 ⟨rfl, hb3⟩
          go_wp2_with fail
          refine (hk _).mono ?_
          rintro e w4 ⟨rfl, hb4⟩
          go_wp2
          go_ret
          exact ⟨rfl, below_trans hb2 (below_trans hb3 hb4)⟩
        | succ j =>
          simp only [Nat.zero_lt_succ, decide_true, Bool.and_true, if_true] at hel
          rw [show elemR (arrN (j + 1)) = arrN j from arrR_elem _] at hel
          have har := fun u => array (arrN j) u (by rw [arrN_len]; omega)
          have hjp : (0 : Int) < ((j + 1 : Nat) : Int) := by omega
          rw [show arrR (arrN j) = arrN (j + 1) from rfl] at har
          generalize arrN (j + 1) = x at *
          generalize arrN j = y at *
          go_wp2_with fail
          refine (hel _).mono ?_
          rintro e w2 ⟨rfl, hb2⟩
          go_wp2_with fail
          refine (hri _).mono ?_
          rintro e w3 ⟨rfl, hb3⟩
          go_wp2_with fail
          refine (har _).mono ?_
          rintro e w4 ⟨rfl, rfl⟩
          go_wp2_with fail
          refine (hk _).mono ?_
          rintro e w5 ⟨rfl, hb4⟩
          go_wp2
          go_ret
          exact ⟨rfl, below_trans hb2 (below_trans hb3 hb4)⟩
      · rw [decide_eq_false hf] at hri hel
        have hf' : ¬ (3 + 2 * (j : Int)) ≤ 200 := by omega
        simp only [Bool.false_and, Bool.false_eq_true, if_false] at hel
        generalize arrN j = x at *
        go_wp2_with fail
        refine (hel _).mono ?_
        rintro e w2 ⟨rfl, hb2⟩
        go_wp2_with fail
        refine (hri _).mono ?_
        rintro e w3 ⟨rfl, hb3⟩
        go_wp2_with fail
        refine (hk _).mono ?_
        rintro e w4 ⟨rfl, hb4⟩
        go_wp2
        go_ret
        exact ⟨rfl, below_trans hb2 (below_trans hb3 hb4)⟩

theorem ownTypesLong : ownKnob Try.prog.godebug = none := by kernel_rfl
set_option maxRecDepth 100000 in
theorem typesLong_lifted (os : Os) (started : os.Started) (H : Type) (enc : TypeId × Value → H) :
    ReturnsInHanded {} Try.checked os 6 .any (Rows.typesLongSpec.pre6 enc Try.prog Try.f6 Rows.typesLongRow.domain false) (Rows.typesLongSpec.post enc Try.prog Try.f6 false true false false) := by
  refine returnsInHanded_of_change (C := Try.checked) ownTypesLong started (by kernel_rfl) Try.func6
    (ChangeSpec.witness6 (enc := enc) (C := Try.checked) false ⟨#[], #[.int .i64 0], []⟩ 8 (by kernel_rfl) (by kernel_rfl) (by kernel_rfl) (by kernel_rfl)) ?_
  intro W base args ds gs before hval0 hW hcnd _
  have hval : ∀ (j : Nat) t v, Try.f6.params[j]? = some t → args[j]? = some v → Value.okWide Try.prog W .any base t v := hval0
  have hW' := hW
  obtain ⟨p, q, hA0, hV, rfl, hfz, hnd⟩ := hW
  have hA : DataW.TrodAll enc Try.prog W 0 (fun _ => true) true Try.f6.params.toList args.toList ds p := hA0
  rw [Try.params6] at hA hval
  obtain ⟨v0, vs0, d0, ds0, p0, q0, hargs, rfl, rfl, h0, r0⟩ := trodAll_cons hA
  obtain ⟨rfl, rfl, rfl⟩ := trodAll_nil r0
  obtain rfl : args = #[v0] := by cases args; simp_all
  obtain ⟨rfl, rfl⟩ := trodVars_none hV
  obtain ⟨a0, rfl, rfl, rfl, w0⟩ := open_int Try.underlying3 (hval 0 3 v0 rfl rfl) h0
  have b0 := bounds_i64 w0
  clear hA0 hval0
  simp only [List.append_nil] at hW'
  refine (long_walk a0 b0 W).mono fun e W' ⟨he, bel⟩ => ?_
  subst he
  exact ⟨_, rfl, _, _, _, [], _, [], hW', trodAll_mk1 (shut_bool Try.underlying4 _), (trodAll_cons_mk (shut_int Try.underlying3 w0) trodAll_mk0), rfl, bel.frame _, fun h => by cases h⟩

theorem typesLong_holds : Rows.TypesLongSaid :=
  OpenClaim.holds_of_wide 6 Try.f6 rfl rfl rfl rfl rfl rfl rfl ⟨rfl, rfl, rfl, rfl, rfl⟩ rfl rfl rfl rfl rfl (by kernel_rfl) Try.func6 (by kernel_rfl)
    (of_decide_eq_true (by kernel_rfl)) (by unfold Func.isWrapper; first | (rw [if_pos (by decide +kernel)]; kernel_rfl) | (rw [if_neg (by decide +kernel)]; exact ⟨rfl, rfl⟩))
    (fun os started H enc _ => typesLong_lifted os started H enc)
#print axioms typesLong_holds
end Go.Proofs.Ytcjlifhehiolkaa
