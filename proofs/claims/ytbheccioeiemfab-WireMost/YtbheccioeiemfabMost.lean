/-
  Proved: for every two numbers of 64 bits, every text and every int the law WireMost answers true: a number that is written is read just if it may be as great, a text just if it may be as long, and then nothing is left. No condition.
-/
import Derived.Test.YtbheccioeiemfabMath
import Derived.Test.YtbheccioeiemfabRows
import Derived.ProofKit
import Derived.OpenShut
import Derived.ShutString
import Derived.SizedLaws
namespace Go.Proofs.Ytbheccioeiemfab
open Go.ChangeShapes Go.WideShapes Go.ChangeAt Go.RowKit
open Go.ChangeMaps (open_string shut_string)

/-- What the first half tells: the number that came back, the refusal, its place. -/
theorem most_first (n most : Nat) (h : n < 18446744073709551616) : ∃ x p why e q : Nat, rNum (enc n) 0 0 most = (x, p, why) ∧ rEnd (enc n) p why = (e, q) ∧ ((most < n ∧ e = 3 ∧ q = 0 ∧ x = 0) ∨ (n ≤ most ∧ e = 0 ∧ x = n)) := by
  have hw := rNum_written [] [] n most h
  simp only [List.nil_append, List.append_nil, List.length_nil, Nat.zero_add] at hw
  by_cases hm : most < n
  · rw [if_pos hm] at hw
    exact ⟨0, 0, 3, 3, 0, hw, rfl, Or.inl ⟨hm, rfl, rfl, rfl⟩⟩
  · rw [if_neg hm] at hw
    exact ⟨n, (enc n).length, 0, 0, 0, hw, by simp [rEnd], Or.inr ⟨by omega, rfl, rfl⟩⟩

/-- What the second half tells. -/
theorem most_second (s : ByteArray) (m : Nat) (h : s.size ≤ 140737488351232) : ∃ (l : List Nat) (x p why p2 why2 e q : Nat), rNum (enc s.size ++ s.data.toList.map UInt8.toNat) 0 0 m = (x, p, why) ∧ rTake (enc s.size ++ s.data.toList.map UInt8.toNat) p why x = (l, p2, why2) ∧
    rEnd (enc s.size ++ s.data.toList.map UInt8.toNat) p2 why2 = (e, q) ∧ ((m < s.size ∧ e = 3) ∨ (s.size ≤ m ∧ e = 0 ∧ s = toStr l)) := by
  have hw := rNum_written [] (s.data.toList.map UInt8.toNat) s.size m (by omega)
  simp only [List.nil_append, List.length_nil, Nat.zero_add] at hw
  have hlen : (s.data.toList.map UInt8.toNat).length = s.size := by simp
  by_cases hm : m < s.size
  · rw [if_pos hm] at hw
    exact ⟨[], 0, 0, 3, 0, 3, 3, 0, hw, by simp [rTake], rfl, Or.inl ⟨hm, rfl⟩⟩
  · rw [if_neg hm] at hw
    have ht := rTake_written (enc s.size) (s.data.toList.map UInt8.toNat) []
    rw [hlen, List.append_nil] at ht
    refine ⟨_, _, _, _, _, _, 0, 0, hw, ht, ?_, Or.inr ⟨by omega, rfl, (toStr_bytes s).symm⟩⟩
    have hne : ¬ (enc s.size).length + s.size < (enc s.size ++ s.data.toList.map UInt8.toNat).length := by rw [List.length_append, hlen]; omega
    simp only [rEnd, if_neg hne]
    rfl

set_option maxHeartbeats 4000000 in
set_option maxRecDepth 1000000 in
theorem wireMost_walk (n most : Nat) (s : ByteArray) (long : Int) (w : World) (hn : n < 18446744073709551616) (hm : most < 18446744073709551616) (hs : s.size ≤ 140737488351232) (hl0 : -9223372036854775808 ≤ long) (hl1 : long < 9223372036854775808) :
    Calls Try.prog 4 #[.int .u64 n, .int .u64 most, .string s, .int .i64 long] w fun e w' => e = .returned (.bool true) ∧ Below w.heap.size w w' := by
  have hten := enc_ten n hn
  have hten2 := enc_ten s.size (by omega)
  have hsl : (s.data.toList.map UInt8.toNat).length = s.size := by simp
  have HSL : Hid ((s.data.toList.map UInt8.toNat).length = s.size) := hsl
  clear hsl
  go_enter Try.func4, Try.ntmps4
  go_wp2_with fail
  refine (newwriter w).mono ?_
  rintro e w1 ⟨b1, rfl, h1, hb1, hk⟩
  have hK1 := (Kept.refl (fun _ => False) w).on hk (fun _ h => h.elim)
  clear hk
  go_wp2_with fail
  refine (wnumber n b1 b1 [] _ hn (by simp) h1).mono ?_
  rintro e w2 ⟨rfl, g2, h2, hg2, hk⟩
  have hK2 := hK1.on hk (by omega)
  rw [List.nil_append] at h2
  clear hk h1 hK1
  go_wp2_with fail
  refine (wdone b1 g2 _ _ (by omega) h2).mono ?_
  rintro e w3 ⟨v3, g3, rfl, h3, hg3, hk⟩
  have hK3 := hK2.on hk (fun _ h => h.elim)
  clear hk h2
  have hrd := h3.rd
  obtain ⟨a3, c3, rfl⟩ := hrd.shape
  go_wp2_with fail
  refine (newreader _ g3 (enc n) _ (by omega) hrd).mono ?_
  rintro e w4 ⟨rb, rg, rfl, h4, hrb, hrg, hk⟩
  have hK4 := hK3.on hk (fun _ h => h.elim)
  have hz3 := hK3.size
  clear hk hrd h3 hK2
  obtain ⟨x, p, why, e1, q1, hx1, hx2, hx3⟩ := most_first n most hn
  have hcall := rnumber rb rg (enc n) 0 0 most w4 (by omega) (enc_256 n) (Nat.zero_le _) hm h4
  rw [hx1] at hcall
  go_wp2_with fail
  refine hcall.mono ?_
  rintro e w5 ⟨rfl, h5, hk⟩
  have hK5 := hK4.on hk (by omega)
  clear hk hcall h4 hK3
  have hcall := rend rb rg (enc n) p why w5 (by omega) h5
  rw [hx2] at hcall
  go_wp2_with fail
  refine hcall.mono ?_
  rintro e w6 ⟨rfl, hk⟩
  have hK6 := hK5.on hk (fun _ h => h.elim)
  clear hk hcall h5 hK4 hx1 hx2 hK5
  have hz6 := hK6.size
  rcases hx3 with ⟨hmn, rfl, rfl, rfl⟩ | ⟨hmn, rfl, rfl⟩
  all_goals
    go_wp2_with fail
    refine (newwriter w6).mono ?_
    rintro e w7 ⟨b7, rfl, h7, hb7, hk⟩
    have hK7 := hK6.on hk (fun _ h => h.elim)
    clear hk
    go_wp2_with fail
    refine (wtext s b7 b7 [] _ (by simp; omega) h7).mono ?_
    rintro e w8 ⟨rfl, g8, h8, hg8, hk⟩
    have hK8 := hK7.on hk (by omega)
    rw [List.nil_append] at h8
    clear hk h7 hK7
    go_wp2_with fail
    refine (wdone b7 g8 _ _ (by rw [List.length_append, HSL.out]; omega) h8).mono ?_
    rintro e w9 ⟨v9, g9, rfl, h9, hg9, hk⟩
    have hK9 := hK8.on hk (fun _ h => h.elim)
    clear hk h8
    have hrd := h9.rd
    obtain ⟨a9, n9, c9, rfl⟩ : ∃ a n c, v9 = .slice a n c := by
      obtain ⟨a, c, h⟩ := hrd.shape
      exact ⟨a, _, c, h⟩
    go_wp2_with fail
    refine (newreader _ g9 _ _ (by rw [List.length_append, HSL.out]; omega) hrd).mono ?_
    rintro e w10 ⟨rb2, rg2, rfl, h10, hrb2, hrg2, hk⟩
    have hK10 := hK9.on hk (fun _ h => h.elim)
    have hz9 := hK9.size
    clear hk hrd h9 hK8
    obtain ⟨l, x2, p2, why2, p3, why3, e2, q2, hy1, hy2, hy3, hy4⟩ := most_second s long.toNat hs
    have hcall := rtext long rb2 rg2 (enc s.size ++ s.data.toList.map UInt8.toNat) 0 0 w10 hl0 hl1 (by rw [List.length_append, HSL.out]; omega) (by intro y hy; rcases List.mem_append.1 hy with h | h; exact enc_256 _ y h; exact bytes_256 s y h) (Nat.zero_le _) h10
    go_wp2_with fail
    refine hcall.mono ?_
    rintro e w11 ⟨R, hR, rfl, h11, hk⟩
    rw [hy1] at hR
    subst hR
    rw [hy2] at h11
    simp only [hy2]
    have hK11 := hK10.on hk (by omega)
    clear hk hcall h10 hK9
    have hcall := rend rb2 rg2 _ p3 why3 w11 (by rw [List.length_append, HSL.out]; omega) h11
    rw [hy3] at hcall
    go_wp2_with fail
    refine hcall.mono ?_
    rintro e w12 ⟨rfl, hk⟩
    have hK12 := hK11.on hk (fun _ h => h.elim)
    clear hk hcall h11 hK10 hK11 hy1 hy2 hy3
    generalize toStr l = t at hy4 ⊢
    by_cases hneg : long < 0
    · rcases hy4 with ⟨hms, rfl⟩ | ⟨hms, rfl, rfl⟩
      · have hms' : ¬ s = ByteArray.empty := by intro h; rw [h] at hms; simp at hms
        clear hms
        go_wp2_with fail
        refine (known_true w12).mono ?_
        rintro e w13 ⟨rfl, hk⟩
        have hK13 := hK12.on hk (fun _ h => h.elim)
        go_wp2
        go_ret
        exact ⟨rfl, hK13.below (Nat.le_refl _) (fun _ _ h => h)⟩
      · obtain rfl : s = ByteArray.empty := by
          have h0 : s.size = 0 := by omega
          exact ByteArray.size_eq_zero_iff.1 h0
        clear hms
        go_wp2_with fail
        refine (known_true w12).mono ?_
        rintro e w13 ⟨rfl, hk⟩
        have hK13 := hK12.on hk (fun _ h => h.elim)
        go_wp2
        go_ret
        exact ⟨rfl, hK13.below (Nat.le_refl _) (fun _ _ h => h)⟩
    · have hneg' : 0 ≤ long := by omega
      clear hneg
      rcases hy4 with ⟨hms, rfl⟩ | ⟨hms, rfl, rfl⟩
      · have hms' : decide ((s.size : Int) ≤ long) = false := by simp; omega
        clear hms
        go_wp2_with fail
        refine (known_true w12).mono ?_
        rintro e w13 ⟨rfl, hk⟩
        have hK13 := hK12.on hk (fun _ h => h.elim)
        go_wp2
        go_ret
        exact ⟨rfl, hK13.below (Nat.le_refl _) (fun _ _ h => h)⟩
      · have hms' : (s.size : Int) ≤ long := by omega
        clear hms
        go_wp2_with fail
        refine (known_true w12).mono ?_
        rintro e w13 ⟨rfl, hk⟩
        have hK13 := hK12.on hk (fun _ h => h.elim)
        go_wp2
        go_ret
        exact ⟨rfl, hK13.below (Nat.le_refl _) (fun _ _ h => h)⟩

theorem own : ownKnob Try.prog.godebug = none := by kernel_rfl

set_option maxRecDepth 100000 in
theorem wireMost_lifted (os : Os) (started : os.Started) (H : Type) (enc : TypeId × Value → H) :
    ReturnsInHanded {} Try.checked os 4 .any (Rows.wireMostSpec.pre6 enc Try.prog Try.f4 Rows.wireMostRow.domain false) (Rows.wireMostSpec.post enc Try.prog Try.f4 false true false false) := by
  refine returnsInHanded_of_change_sized (C := Try.checked) own started (by kernel_rfl) Try.func4
    (ChangeSpec.witness6 (enc := enc) (C := Try.checked) false ⟨#[], #[.int .u64 0, .int .u64 0, .string ByteArray.empty, .int .i64 0], []⟩ 8 (by kernel_rfl) (by kernel_rfl) (by kernel_rfl) (by kernel_rfl)) ?_
  intro W base args ds gs before hval0 hW hcnd hsz0 _
  have hval : ∀ (j : Nat) t v, Try.f4.params[j]? = some t → args[j]? = some v → Value.okWide Try.prog W .any base t v := hval0
  have hsz : (DataW.weightsEach Try.prog (Try.f4.params.toList ++ Rows.wireMostSpec.plain.varTypes Try.prog) (ds ++ gs)).all (· ≤ reachBytes) = true := hsz0
  have hW' := hW
  obtain ⟨p, q, hA0, hV, rfl, hfz, hnd⟩ := hW
  have hA : DataW.TrodAll enc Try.prog W 0 (fun _ => true) true Try.f4.params.toList args.toList ds p := hA0
  rw [Try.params4] at hA hval hsz
  obtain ⟨v0, vs0, d0, ds0, p0, q0, hargs, rfl, rfl, h0, r0⟩ := trodAll_cons hA
  obtain ⟨v1, vs1, d1, ds1, p1, q1, rfl, rfl, rfl, h1, r1⟩ := trodAll_cons r0
  obtain ⟨v2, vs2, d2, ds2, p2, q2, rfl, rfl, rfl, h2, r2⟩ := trodAll_cons r1
  obtain ⟨v3, vs3, d3, ds3, p3, q3, rfl, rfl, rfl, h3, r3⟩ := trodAll_cons r2
  obtain ⟨rfl, rfl, rfl⟩ := trodAll_nil r3
  obtain rfl : args = #[v0, v1, v2, v3] := by cases args; simp_all
  obtain ⟨rfl, rfl⟩ := trodVars_none hV
  obtain ⟨a0, rfl, rfl, rfl, w0⟩ := open_int Try.underlying28 (hval 0 28 v0 rfl rfl) h0
  obtain ⟨a1, rfl, rfl, rfl, w1⟩ := open_int Try.underlying28 (hval 1 28 v1 rfl rfl) h1
  obtain ⟨a2, rfl, rfl, rfl, w2⟩ := open_string Try.underlying9 (hval 2 9 v2 rfl rfl) h2
  obtain ⟨a3, rfl, rfl, rfl, w3⟩ := open_int Try.underlying3 (hval 3 3 v3 rfl rfl) h3
  clear hA0 hval0
  have hs := sized_string hsz (j := 2) (t := 9) rfl rfl
  simp only [List.append_nil] at hW'
  have b0 := bounds_u64 w0
  have b1 := bounds_u64 w1
  have b3 := bounds_i64 w3
  obtain ⟨n0, rfl⟩ : ∃ n : Nat, a0 = n := ⟨a0.toNat, by omega⟩
  obtain ⟨n1, rfl⟩ : ∃ n : Nat, a1 = n := ⟨a1.toNat, by omega⟩
  have hs' : a2.size ≤ 140737488351232 := by
    have e : a2.data.toList.length = a2.size := by simp
    rw [← e]
    exact hs
  refine (wireMost_walk n0 n1 a2 a3 W (by omega) (by omega) hs' (by omega) (by omega)).mono fun e W' ⟨he, bel⟩ => ?_
  subst he
  exact ⟨_, rfl, _, _, _, [], _, [], hW', trodAll_mk1 (shut_bool Try.underlying4 _), (trodAll_cons_mk (shut_int Try.underlying28 w0) (trodAll_cons_mk (shut_int Try.underlying28 w1) (trodAll_cons_mk (shut_string Try.underlying9 w2) (trodAll_cons_mk (shut_int Try.underlying3 w3) trodAll_mk0)))), rfl, bel.frame _, fun h => by cases h⟩

theorem wireMost_holds : Rows.WireMostSaid :=
  OpenClaim.holds_of_wide 4 Try.f4 rfl rfl rfl rfl rfl rfl rfl ⟨rfl, rfl, rfl, rfl, rfl⟩ rfl rfl rfl rfl rfl (by kernel_rfl) Try.func4 (by kernel_rfl)
    (of_decide_eq_true (by kernel_rfl)) (by unfold Func.isWrapper; first | (rw [if_pos (by decide +kernel)]; kernel_rfl) | (rw [if_neg (by decide +kernel)]; exact ⟨rfl, rfl⟩))
    (fun os started H enc _ => wireMost_lifted os started H enc)
#print axioms wireMost_holds
end Go.Proofs.Ytbheccioeiemfab
