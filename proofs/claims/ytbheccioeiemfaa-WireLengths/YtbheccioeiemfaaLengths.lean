/-
  Proved: for every two numbers of 64 bits the law WireLengths answers true: a number's writing has as many bytes as groups of seven bits, and at least one, and a smaller number's never has more. No condition.
-/
import Derived.Test.YtbheccioeiemfaaKnown
import Derived.Test.YtbheccioeiemfaaRows
import Derived.ProofKit
import Derived.OpenShut
namespace Go.Proofs.Ytbheccioeiemfaa
open Go.ChangeShapes Go.WideShapes Go.ChangeAt Go.RowKit

def len7 (m : Nat) : Nat := if m = 0 then 0 else (enc m).length
theorem enc_len7 (n : Nat) : (enc n).length = 1 + len7 (n / 128) := by
  by_cases h : 128 ≤ n
  · rw [enc_big h, len7, if_neg (by omega)]; simp; omega
  · rw [enc_small (by omega), len7, if_pos (by omega)]; rfl
theorem enc_mono : ∀ (f a b : Nat), b ≤ f → a ≤ b → (enc a).length ≤ (enc b).length
  | 0, a, b, hf, h => by
    obtain rfl : a = b := by omega
    exact Nat.le_refl _
  | f + 1, a, b, hf, h => by
    by_cases h1 : 128 ≤ a
    · rw [enc_big h1, enc_big (show 128 ≤ b by omega)]
      have := enc_mono f (a / 128) (b / 128) (by omega) (by omega)
      simpa using this
    · rw [enc_small (by omega)]
      exact enc_pos b

set_option maxHeartbeats 800000 in
set_option maxRecDepth 1000000 in
theorem wireLengths_walk (a b : Nat) (w : World) (ha : a < 18446744073709551616) (hb : b < 18446744073709551616) :
    Calls Try.prog 8 #[.int .u64 a, .int .u64 b] w fun e w' => e = .returned (.bool true) ∧ Below w.heap.size w w' := by
  have la := enc_ten a ha
  have lb := enc_ten b hb
  by_cases hab : b < a
  · have hle : (enc b).length ≤ (enc a).length := enc_mono a b a (Nat.le_refl _) (by omega)
    go_enter Try.func8, Try.ntmps8
    go_wp2_with fail
    refine (newwriter w).mono ?_
    rintro e w1 ⟨p, rfl, h1, hp, hk1⟩
    go_wp2_with fail
    refine (newwriter w1).mono ?_
    rintro e w2 ⟨q, rfl, h2, hq, hk2⟩
    have hs1 := hk1.size
    have hK2 := hk1.on hk2 (fun _ h => h.elim)
    have hl1 := h1.lt
    have h1' := h1.kept hk2 (fun h => h) (fun h => h)
    clear hk1 hk2 h1
    go_wp2_with fail
    refine (wnumber b p p [] _ (by omega) (by simp) h1').mono ?_
    rintro e w3 ⟨rfl, g3, h3, hg3, hk3⟩
    have hK3 := hK2.on hk3 (by omega)
    have hl2 := h2.lt
    have h2' := h2.kept hk3 (by omega) (by omega)
    have hs2 := hK2.size
    clear hk3 h1' h2
    go_wp2_with fail
    refine (wnumber a q q [] _ (by omega) (by simp) h2').mono ?_
    rintro e w4 ⟨rfl, g4, h4, hg4, hk4⟩
    have hK4 := hK3.on hk4 (by omega)
    have hl3 := h3.gt
    have h3' := h3.kept hk4 (by omega) (by omega)
    clear hk4 h3 h2'
    rw [List.nil_append] at h3' h4
    go_wp2
    go_loop [7, 8] (fun n x => ∃ k m : Nat, n = .int .i64 k ∧ x = .int .u64 m ∧ m < 18446744073709551616 ∧ Hid (k + len7 m = (enc a).length)) (fun _ x => (intOf x).toNat)
    case atStart => exact ⟨1, a / 128, rfl, by go_num, by omega, (enc_len7 a).symm⟩
    case round =>
      obtain ⟨k, m, rfl, rfl, hm, HM⟩ := hrel
      have hk10 : k ≤ 10 := by have := HM.out; omega
      by_cases hm0 : 0 < m
      · go_wp2
        go_round
        case rel => exact ⟨k + 1, m / 128, by go_num, by go_num, by omega, by
          have := HM.out
          have e : len7 m = 1 + len7 (m / 128) := by rw [← enc_len7]; simp [len7]; omega
          show k + 1 + len7 (m / 128) = (enc a).length
          omega⟩
        case measure => simp [intOf]; omega
      · obtain rfl : k = (enc a).length := by
          have := HM.out
          have e : len7 m = 0 := by simp [len7]; omega
          omega
        clear HM
        go_wp2_with fail
        refine (wdone q g4 _ _ (by omega) h4).mono ?_
        rintro e w5 ⟨v5, g5, rfl, h5, hg5, hk5⟩
        have hK5 := hK4.on hk5 (fun _ h => h.elim)
        have h3'' := h3'.kept hk5 (fun h => h) (fun h => h)
        obtain ⟨a5, c5, rfl⟩ := h5.rd.shape
        go_wp2_with fail
        refine (wdone p g3 _ _ (by omega) h3'').mono ?_
        rintro e w6 ⟨v6, g6, rfl, h6, hg6, hk6⟩
        have hK6 := hK5.on hk6 (fun _ h => h.elim)
        obtain ⟨a6, c6, rfl⟩ := h6.rd.shape
        go_wp2_with fail
        refine (known_true w6).mono ?_
        rintro e w7 ⟨rfl, hk7⟩
        have hK7 := hK6.on hk7 (fun _ h => h.elim)
        go_wp2
        go_ret
        exact ⟨rfl, hK7.below (Nat.le_refl _) (fun _ _ h => h)⟩
  · have hle : (enc a).length ≤ (enc b).length := enc_mono b a b (Nat.le_refl _) (by omega)
    go_enter Try.func8, Try.ntmps8
    go_wp2_with fail
    refine (newwriter w).mono ?_
    rintro e w1 ⟨p, rfl, h1, hp, hk1⟩
    go_wp2_with fail
    refine (newwriter w1).mono ?_
    rintro e w2 ⟨q, rfl, h2, hq, hk2⟩
    have hs1 := hk1.size
    have hK2 := hk1.on hk2 (fun _ h => h.elim)
    have hl1 := h1.lt
    have h1' := h1.kept hk2 (fun h => h) (fun h => h)
    clear hk1 hk2 h1
    go_wp2_with fail
    refine (wnumber a p p [] _ (by omega) (by simp) h1').mono ?_
    rintro e w3 ⟨rfl, g3, h3, hg3, hk3⟩
    have hK3 := hK2.on hk3 (by omega)
    have hl2 := h2.lt
    have h2' := h2.kept hk3 (by omega) (by omega)
    have hs2 := hK2.size
    clear hk3 h1' h2
    go_wp2_with fail
    refine (wnumber b q q [] _ (by omega) (by simp) h2').mono ?_
    rintro e w4 ⟨rfl, g4, h4, hg4, hk4⟩
    have hK4 := hK3.on hk4 (by omega)
    have hl3 := h3.gt
    have h3' := h3.kept hk4 (by omega) (by omega)
    clear hk4 h3 h2'
    rw [List.nil_append] at h3' h4
    go_wp2
    go_loop [7, 8] (fun n x => ∃ k m : Nat, n = .int .i64 k ∧ x = .int .u64 m ∧ m < 18446744073709551616 ∧ Hid (k + len7 m = (enc b).length)) (fun _ x => (intOf x).toNat)
    case atStart => exact ⟨1, b / 128, rfl, by go_num, by omega, (enc_len7 b).symm⟩
    case round =>
      obtain ⟨k, m, rfl, rfl, hm, HM⟩ := hrel
      have hk10 : k ≤ 10 := by have := HM.out; omega
      by_cases hm0 : 0 < m
      · go_wp2
        go_round
        case rel => exact ⟨k + 1, m / 128, by go_num, by go_num, by omega, by
          have := HM.out
          have e : len7 m = 1 + len7 (m / 128) := by rw [← enc_len7]; simp [len7]; omega
          show k + 1 + len7 (m / 128) = (enc b).length
          omega⟩
        case measure => simp [intOf]; omega
      · obtain rfl : k = (enc b).length := by
          have := HM.out
          have e : len7 m = 0 := by simp [len7]; omega
          omega
        clear HM
        go_wp2_with fail
        refine (wdone q g4 _ _ (by omega) h4).mono ?_
        rintro e w5 ⟨v5, g5, rfl, h5, hg5, hk5⟩
        have hK5 := hK4.on hk5 (fun _ h => h.elim)
        have h3'' := h3'.kept hk5 (fun h => h) (fun h => h)
        obtain ⟨a5, c5, rfl⟩ := h5.rd.shape
        go_wp2_with fail
        refine (wdone p g3 _ _ (by omega) h3'').mono ?_
        rintro e w6 ⟨v6, g6, rfl, h6, hg6, hk6⟩
        have hK6 := hK5.on hk6 (fun _ h => h.elim)
        obtain ⟨a6, c6, rfl⟩ := h6.rd.shape
        go_wp2_with fail
        refine (known_true w6).mono ?_
        rintro e w7 ⟨rfl, hk7⟩
        have hK7 := hK6.on hk7 (fun _ h => h.elim)
        go_wp2
        go_ret
        exact ⟨rfl, hK7.below (Nat.le_refl _) (fun _ _ h => h)⟩

theorem own : ownKnob Try.prog.godebug = none := by kernel_rfl

set_option maxRecDepth 100000 in
theorem wireLengths_lifted (os : Os) (started : os.Started) (H : Type) (enc : TypeId × Value → H) :
    ReturnsInHanded {} Try.checked os 8 .any (Rows.wireLengthsSpec.pre6 enc Try.prog Try.f8 Rows.wireLengthsRow.domain false) (Rows.wireLengthsSpec.post enc Try.prog Try.f8 false true false false) := by
  refine returnsInHanded_of_change (C := Try.checked) own started (by kernel_rfl) Try.func8
    (ChangeSpec.witness6 (enc := enc) (C := Try.checked) false ⟨#[], #[.int .u64 0, .int .u64 0], []⟩ 8 (by kernel_rfl) (by kernel_rfl) (by kernel_rfl) (by kernel_rfl)) ?_
  intro W base args ds gs before hval0 hW hcnd _
  have hval : ∀ (j : Nat) t v, Try.f8.params[j]? = some t → args[j]? = some v → Value.okWide Try.prog W .any base t v := hval0
  have hW' := hW
  obtain ⟨p, q, hA0, hV, rfl, hfz, hnd⟩ := hW
  have hA : DataW.TrodAll enc Try.prog W 0 (fun _ => true) true Try.f8.params.toList args.toList ds p := hA0
  rw [Try.params8] at hA hval
  obtain ⟨v0, vs0, d0, ds0, p0, q0, hargs, rfl, rfl, h0, r0⟩ := trodAll_cons hA
  obtain ⟨v1, vs1, d1, ds1, p1, q1, rfl, rfl, rfl, h1, r1⟩ := trodAll_cons r0
  obtain ⟨rfl, rfl, rfl⟩ := trodAll_nil r1
  obtain rfl : args = #[v0, v1] := by cases args; simp_all
  obtain ⟨rfl, rfl⟩ := trodVars_none hV
  obtain ⟨a0, rfl, rfl, rfl, w0⟩ := open_int Try.underlying25 (hval 0 25 v0 rfl rfl) h0
  obtain ⟨a1, rfl, rfl, rfl, w1⟩ := open_int Try.underlying25 (hval 1 25 v1 rfl rfl) h1
  clear hA0 hval0
  simp only [List.append_nil] at hW'
  have b0 := bounds_u64 w0
  have b1 := bounds_u64 w1
  obtain ⟨n0, rfl⟩ : ∃ n : Nat, a0 = n := ⟨a0.toNat, by omega⟩
  obtain ⟨n1, rfl⟩ : ∃ n : Nat, a1 = n := ⟨a1.toNat, by omega⟩
  refine (wireLengths_walk n0 n1 W (by omega) (by omega)).mono fun e W' ⟨he, bel⟩ => ?_
  subst he
  exact ⟨_, rfl, _, _, _, [], _, [], hW', trodAll_mk1 (shut_bool Try.underlying4 _), (trodAll_cons_mk (shut_int Try.underlying25 w0) (trodAll_cons_mk (shut_int Try.underlying25 w1) trodAll_mk0)), rfl, bel.frame _, fun h => by cases h⟩

theorem wireLengths_holds : Rows.WireLengthsSaid :=
  OpenClaim.holds_of_wide 8 Try.f8 rfl rfl rfl rfl rfl rfl rfl ⟨rfl, rfl, rfl, rfl, rfl⟩ rfl rfl rfl rfl rfl (by kernel_rfl) Try.func8 (by kernel_rfl)
    (of_decide_eq_true (by kernel_rfl)) (by unfold Func.isWrapper; first | (rw [if_pos (by decide +kernel)]; kernel_rfl) | (rw [if_neg (by decide +kernel)]; exact ⟨rfl, rfl⟩))
    (fun os started H enc _ => wireLengths_lifted os started H enc)
#print axioms wireLengths_holds
end Go.Proofs.Ytbheccioeiemfaa
