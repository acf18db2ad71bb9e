/-
  Proved: the law WireNumbers, chapter 1's runs, answers true. It has no argument and no condition.
-/
import Derived.Test.YtbheccioeiemfaaKnown
import Derived.Test.YtbheccioeiemfaaRows
import Derived.ProofKit
import Derived.OpenShut
namespace Go.Proofs.Ytbheccioeiemfaa
open Go.ChangeShapes Go.WideShapes Go.ChangeAt Go.RowKit

theorem n_z : rNum [255, 255, 255, 255, 255, 255, 255, 255, 255, 2] 0 0 18446744073709551615 = (0, 0, 12) := by decide
theorem n_r : rNum [10] 0 0 9 = (0, 0, 3) := by decide
theorem n_s : rNum [2, 97] 0 0 5 = (2, 1, 0) := by decide
theorem n_t : rNum [255, 255, 255, 255, 255, 255, 255, 255, 255, 255, 1] 0 0 9223372036854775808 = (0, 0, 12) := by decide
theorem n_u : rNum [255, 255, 255, 255, 255, 255, 255, 255, 255, 1] 0 0 18446744073709551615 = (18446744073709551615, 10, 0) := by decide
theorem n_v : rNum [0, 7] 0 0 0 = (0, 1, 0) := by decide
theorem t_s : rTake [2, 97] 1 0 (2 : Nat) = ([], 2, 10) := by decide
theorem t_v : rTake [0, 7] 1 0 (-1) = ([], 1, 0) := by decide
theorem zag_u : zag 18446744073709551615 = -9223372036854775808 := by decide

set_option maxHeartbeats 2000000 in
set_option maxRecDepth 1000000 in
theorem wireNumbers_walk (w : World) : Calls Try.prog 3 #[] w fun e w' => e = .returned (.bool true) ∧ Below w.heap.size w w' := by
  go_enter Try.func3, Try.ntmps3
  have hK0 := Kept.refl (fun _ => False) w
  go_wp2_with fail
  have hrow := Row.lit w [10] (by simp [maxLen])
  refine (newreader _ w.heap.size [10] _ (by simp) hrow.rd).mono ?_
  rintro e w1 ⟨br, gr, rfl, hr, hbr, hgr, hk⟩
  have hK1 := (hK0.on ((Kept.refl (fun _ => False) w).alloc _) (fun _ h => h.elim)).on hk (fun _ h => h.elim)
  have hS0 : w.heap.size ≤ w1.heap.size := by have := hk.size; simp at this; omega
  have hLr := hr.lt
  have hGr := hr.gt
  have hbr' : w.heap.size < br ∧ w.heap.size < gr := by simp at hbr hgr; omega
  clear hk hrow hbr hgr hK0
  go_wp2_with fail
  have hrow := Row.lit w1 [2, 97] (by simp [maxLen])
  refine (newreader _ w1.heap.size [2, 97] _ (by simp) hrow.rd).mono ?_
  rintro e w2 ⟨bs_, gs_, rfl, hs, hbs, hgs, hk⟩
  have hK2 := (hK1.on ((Kept.refl (fun _ => False) w1).alloc _) (fun _ h => h.elim)).on hk (fun _ h => h.elim)
  have hS1 : w1.heap.size ≤ w2.heap.size := by have := hk.size; simp at this; omega
  have hLs := hs.lt
  have hGs := hs.gt
  have hbs' : w1.heap.size < bs_ ∧ w1.heap.size < gs_ := by simp at hbs hgs; omega
  replace hr := (hr.kept ((Kept.refl (fun _ => False) w1).alloc (.cells (bs [2, 97]).toArray 5)) (fun h => h) (fun h => h)).kept hk (fun h => h) (fun h => h)
  clear hk hrow hbs hgs hK1
  go_wp2_with fail
  have hrow := Row.lit w2 [255, 255, 255, 255, 255, 255, 255, 255, 255, 255, 1] (by simp [maxLen])
  refine (newreader _ w2.heap.size [255, 255, 255, 255, 255, 255, 255, 255, 255, 255, 1] _ (by simp) hrow.rd).mono ?_
  rintro e w3 ⟨bt, gt, rfl, ht, hbt, hgt, hk⟩
  have hK3 := (hK2.on ((Kept.refl (fun _ => False) w2).alloc _) (fun _ h => h.elim)).on hk (fun _ h => h.elim)
  have hS2 : w2.heap.size ≤ w3.heap.size := by have := hk.size; simp at this; omega
  have hLt := ht.lt
  have hGt := ht.gt
  have hbt' : w2.heap.size < bt ∧ w2.heap.size < gt := by simp at hbt hgt; omega
  replace hr := (hr.kept ((Kept.refl (fun _ => False) w2).alloc (.cells (bs [255, 255, 255, 255, 255, 255, 255, 255, 255, 255, 1]).toArray 5)) (fun h => h) (fun h => h)).kept hk (fun h => h) (fun h => h)
  replace hs := (hs.kept ((Kept.refl (fun _ => False) w2).alloc (.cells (bs [255, 255, 255, 255, 255, 255, 255, 255, 255, 255, 1]).toArray 5)) (fun h => h) (fun h => h)).kept hk (fun h => h) (fun h => h)
  clear hk hrow hbt hgt hK2
  go_wp2_with fail
  have hrow := Row.lit w3 [255, 255, 255, 255, 255, 255, 255, 255, 255, 1] (by simp [maxLen])
  refine (newreader _ w3.heap.size [255, 255, 255, 255, 255, 255, 255, 255, 255, 1] _ (by simp) hrow.rd).mono ?_
  rintro e w4 ⟨bu, gu, rfl, hu, hbu, hgu, hk⟩
  have hK4 := (hK3.on ((Kept.refl (fun _ => False) w3).alloc _) (fun _ h => h.elim)).on hk (fun _ h => h.elim)
  have hS3 : w3.heap.size ≤ w4.heap.size := by have := hk.size; simp at this; omega
  have hLu := hu.lt
  have hGu := hu.gt
  have hbu' : w3.heap.size < bu ∧ w3.heap.size < gu := by simp at hbu hgu; omega
  replace hr := (hr.kept ((Kept.refl (fun _ => False) w3).alloc (.cells (bs [255, 255, 255, 255, 255, 255, 255, 255, 255, 1]).toArray 5)) (fun h => h) (fun h => h)).kept hk (fun h => h) (fun h => h)
  replace hs := (hs.kept ((Kept.refl (fun _ => False) w3).alloc (.cells (bs [255, 255, 255, 255, 255, 255, 255, 255, 255, 1]).toArray 5)) (fun h => h) (fun h => h)).kept hk (fun h => h) (fun h => h)
  replace ht := (ht.kept ((Kept.refl (fun _ => False) w3).alloc (.cells (bs [255, 255, 255, 255, 255, 255, 255, 255, 255, 1]).toArray 5)) (fun h => h) (fun h => h)).kept hk (fun h => h) (fun h => h)
  clear hk hrow hbu hgu hK3
  go_wp2_with fail
  have hrow := Row.lit w4 [0, 7] (by simp [maxLen])
  refine (newreader _ w4.heap.size [0, 7] _ (by simp) hrow.rd).mono ?_
  rintro e w5 ⟨bv, gv, rfl, hv, hbv, hgv, hk⟩
  have hK5 := (hK4.on ((Kept.refl (fun _ => False) w4).alloc _) (fun _ h => h.elim)).on hk (fun _ h => h.elim)
  have hS4 : w4.heap.size ≤ w5.heap.size := by have := hk.size; simp at this; omega
  have hLv := hv.lt
  have hGv := hv.gt
  have hbv' : w4.heap.size < bv ∧ w4.heap.size < gv := by simp at hbv hgv; omega
  replace hr := (hr.kept ((Kept.refl (fun _ => False) w4).alloc (.cells (bs [0, 7]).toArray 5)) (fun h => h) (fun h => h)).kept hk (fun h => h) (fun h => h)
  replace hs := (hs.kept ((Kept.refl (fun _ => False) w4).alloc (.cells (bs [0, 7]).toArray 5)) (fun h => h) (fun h => h)).kept hk (fun h => h) (fun h => h)
  replace ht := (ht.kept ((Kept.refl (fun _ => False) w4).alloc (.cells (bs [0, 7]).toArray 5)) (fun h => h) (fun h => h)).kept hk (fun h => h) (fun h => h)
  replace hu := (hu.kept ((Kept.refl (fun _ => False) w4).alloc (.cells (bs [0, 7]).toArray 5)) (fun h => h) (fun h => h)).kept hk (fun h => h) (fun h => h)
  clear hk hrow hbv hgv hK4
  go_wp2_with fail
  have hrow := Row.lit w5 [255, 255, 255, 255, 255, 255, 255, 255, 255, 2] (by simp [maxLen])
  refine (newreader _ w5.heap.size [255, 255, 255, 255, 255, 255, 255, 255, 255, 2] _ (by simp) hrow.rd).mono ?_
  rintro e w6 ⟨bz, gz, rfl, hz, hbz, hgz, hk⟩
  have hK6 := (hK5.on ((Kept.refl (fun _ => False) w5).alloc _) (fun _ h => h.elim)).on hk (fun _ h => h.elim)
  have hS5 : w5.heap.size ≤ w6.heap.size := by have := hk.size; simp at this; omega
  have hLz := hz.lt
  have hGz := hz.gt
  have hbz' : w5.heap.size < bz ∧ w5.heap.size < gz := by simp at hbz hgz; omega
  replace hr := (hr.kept ((Kept.refl (fun _ => False) w5).alloc (.cells (bs [255, 255, 255, 255, 255, 255, 255, 255, 255, 2]).toArray 5)) (fun h => h) (fun h => h)).kept hk (fun h => h) (fun h => h)
  replace hs := (hs.kept ((Kept.refl (fun _ => False) w5).alloc (.cells (bs [255, 255, 255, 255, 255, 255, 255, 255, 255, 2]).toArray 5)) (fun h => h) (fun h => h)).kept hk (fun h => h) (fun h => h)
  replace ht := (ht.kept ((Kept.refl (fun _ => False) w5).alloc (.cells (bs [255, 255, 255, 255, 255, 255, 255, 255, 255, 2]).toArray 5)) (fun h => h) (fun h => h)).kept hk (fun h => h) (fun h => h)
  replace hu := (hu.kept ((Kept.refl (fun _ => False) w5).alloc (.cells (bs [255, 255, 255, 255, 255, 255, 255, 255, 255, 2]).toArray 5)) (fun h => h) (fun h => h)).kept hk (fun h => h) (fun h => h)
  replace hv := (hv.kept ((Kept.refl (fun _ => False) w5).alloc (.cells (bs [255, 255, 255, 255, 255, 255, 255, 255, 255, 2]).toArray 5)) (fun h => h) (fun h => h)).kept hk (fun h => h) (fun h => h)
  clear hk hrow hbz hgz hK5
  have hcz := rnumber bz gz [255, 255, 255, 255, 255, 255, 255, 255, 255, 2] 0 0 18446744073709551615 w6 (by simp) (by simp) (by simp) (by decide) hz
  rw [show ((18446744073709551615 : Nat) : Int) = 18446744073709551615 from rfl, n_z] at hcz
  go_wp2_with fail
  refine (hcz).mono ?_
  rintro e w7 ⟨rfl, hz2, hk⟩
  have hK7 := hK6.on hk (by omega)
  replace hr := hr.kept hk (by omega) (by omega)
  replace hs := hs.kept hk (by omega) (by omega)
  replace ht := ht.kept hk (by omega) (by omega)
  replace hu := hu.kept hk (by omega) (by omega)
  replace hv := hv.kept hk (by omega) (by omega)
  clear hz hcz
  clear hk hK6
  go_wp2_with fail
  refine (rend bz gz _ 0 12 _ (by simp) hz2).mono ?_
  rintro e w8 ⟨rfl, hk⟩
  have hK8 := hK7.on hk (fun _ h => h.elim)
  replace hr := hr.kept hk (fun h => h) (fun h => h)
  replace hs := hs.kept hk (fun h => h) (fun h => h)
  replace ht := ht.kept hk (fun h => h) (fun h => h)
  replace hu := hu.kept hk (fun h => h) (fun h => h)
  replace hv := hv.kept hk (fun h => h) (fun h => h)
  rw [show rEnd [255, 255, 255, 255, 255, 255, 255, 255, 255, 2] 0 12 = (12, 0) from rfl]
  clear hz2
  clear hk hK7
  go_wp2_with fail
  refine (rnumber br gr [10] 0 0 9 _ (by simp) (by simp) (by simp) (by decide) hr).mono ?_
  rintro e w9 ⟨rfl, hr2, hk⟩
  have hK9 := hK8.on hk (by omega)
  replace hs := hs.kept hk (by omega) (by omega)
  replace ht := ht.kept hk (by omega) (by omega)
  replace hu := hu.kept hk (by omega) (by omega)
  replace hv := hv.kept hk (by omega) (by omega)
  rw [n_r] at hr2 ⊢
  clear hr
  clear hk hK8
  go_wp2_with fail
  refine (rend br gr _ 0 3 _ (by simp) hr2).mono ?_
  rintro e w10 ⟨rfl, hk⟩
  have hK10 := hK9.on hk (fun _ h => h.elim)
  replace hs := hs.kept hk (fun h => h) (fun h => h)
  replace ht := ht.kept hk (fun h => h) (fun h => h)
  replace hu := hu.kept hk (fun h => h) (fun h => h)
  replace hv := hv.kept hk (fun h => h) (fun h => h)
  rw [show rEnd [10] 0 3 = (3, 0) from rfl]
  clear hr2
  clear hk hK9
  go_wp2_with fail
  refine (rtext 5 bs_ gs_ [2, 97] 0 0 _ (by omega) (by omega) (by simp) (by simp) (by simp) hs).mono ?_
  rintro e w11 ⟨R, hR, rfl, hs2, hk⟩
  have hK11 := hK10.on hk (by omega)
  replace ht := ht.kept hk (by omega) (by omega)
  replace hu := hu.kept hk (by omega) (by omega)
  replace hv := hv.kept hk (by omega) (by omega)
  rw [show (5 : Int).toNat = 5 from rfl, n_s] at hR
  subst hR
  rw [t_s] at hs2
  clear hs
  clear hk hK10
  go_wp2_with fail
  refine (rend bs_ gs_ _ 2 10 _ (by simp) hs2).mono ?_
  rintro e w12 ⟨rfl, hk⟩
  have hK12 := hK11.on hk (fun _ h => h.elim)
  replace ht := ht.kept hk (fun h => h) (fun h => h)
  replace hu := hu.kept hk (fun h => h) (fun h => h)
  replace hv := hv.kept hk (fun h => h) (fun h => h)
  rw [show rEnd [2, 97] 2 10 = (10, 2) from rfl]
  clear hs2
  clear hk hK11
  have hct := rnumber bt gt [255, 255, 255, 255, 255, 255, 255, 255, 255, 255, 1] 0 0 9223372036854775808 w12 (by simp) (by simp) (by simp) (by decide) ht
  rw [show ((9223372036854775808 : Nat) : Int) = 9223372036854775808 from rfl, n_t] at hct
  go_wp2_with fail
  refine (hct).mono ?_
  rintro e w13 ⟨rfl, ht2, hk⟩
  have hK13 := hK12.on hk (by omega)
  replace hu := hu.kept hk (by omega) (by omega)
  replace hv := hv.kept hk (by omega) (by omega)
  clear ht hct
  clear hk hK12
  go_wp2_with fail
  refine (rend bt gt _ 0 12 _ (by simp) ht2).mono ?_
  rintro e w14 ⟨rfl, hk⟩
  have hK14 := hK13.on hk (fun _ h => h.elim)
  replace hu := hu.kept hk (fun h => h) (fun h => h)
  replace hv := hv.kept hk (fun h => h) (fun h => h)
  rw [show rEnd [255, 255, 255, 255, 255, 255, 255, 255, 255, 255, 1] 0 12 = (12, 0) from rfl]
  clear ht2
  clear hk hK13
  go_wp2_with fail
  refine (rsigned bu gu [255, 255, 255, 255, 255, 255, 255, 255, 255, 1] 0 0 _ (by simp) (by simp) (by simp) hu).mono ?_
  rintro e w15 ⟨rfl, hu2, hk⟩
  have hK15 := hK14.on hk (by omega)
  replace hv := hv.kept hk (by omega) (by omega)
  rw [n_u] at hu2 ⊢
  rw [zag_u]
  clear hu
  clear hk hK14
  go_wp2_with fail
  refine (rend bu gu _ 10 0 _ (by simp) hu2).mono ?_
  rintro e w16 ⟨rfl, hk⟩
  have hK16 := hK15.on hk (fun _ h => h.elim)
  replace hv := hv.kept hk (fun h => h) (fun h => h)
  rw [show rEnd [255, 255, 255, 255, 255, 255, 255, 255, 255, 1] 10 0 = (0, 0) from rfl]
  clear hu2
  clear hk hK15
  go_wp2_with fail
  refine (rnumber bv gv [0, 7] 0 0 0 _ (by simp) (by simp) (by simp) (by decide) hv).mono ?_
  rintro e w17 ⟨rfl, hv2, hk⟩
  have hK17 := hK16.on hk (by omega)
  rw [n_v] at hv2 ⊢
  clear hv
  clear hk hK16
  go_wp2_with fail
  refine (rraw (-1) bv gv [0, 7] 1 0 _ (by omega) (by simp) (by simp) hv2).mono ?_
  rintro e w18 ⟨v0, g0, rfl, hrow0, hg0, hv3, hk⟩
  have hK18 := hK17.on hk (by omega)
  rw [t_v] at hv3 hrow0
  obtain ⟨a0, c0, rfl⟩ : ∃ a c, v0 = .slice a 0 c := hrow0.rd.shape
  clear hv2 hrow0
  clear hk hK17
  go_wp2_with fail
  refine (rfail 0 bv gv [0, 7] 1 0 _ hv3).mono ?_
  rintro e w19 ⟨rfl, hv4, hk⟩
  have hK19 := hK18.on hk (by omega)
  rw [if_pos rfl] at hv4
  clear hv3
  clear hk hK18
  go_wp2_with fail
  refine (rend bv gv [0, 7] 1 0 _ (by simp) hv4).mono ?_
  rintro e w20 ⟨rfl, hk⟩
  have hK20 := hK19.on hk (fun _ h => h.elim)
  rw [show rEnd [0, 7] 1 0 = (11, 1) from rfl]
  replace hv4 := hv4.kept hk (fun h => h) (fun h => h)
  clear hk hK19
  go_wp2_with fail
  refine (rfail 13 bv gv [0, 7] 1 0 _ hv4).mono ?_
  rintro e w21 ⟨rfl, hv5, hk⟩
  have hK21 := hK20.on hk (by omega)
  rw [if_pos rfl] at hv5
  clear hv4
  clear hk hK20
  go_wp2_with fail
  refine (rend bv gv [0, 7] 1 13 _ (by simp) hv5).mono ?_
  rintro e w22 ⟨rfl, hk⟩
  have hK22 := hK21.on hk (fun _ h => h.elim)
  rw [show rEnd [0, 7] 1 13 = (13, 1) from rfl]
  replace hv5 := hv5.kept hk (fun h => h) (fun h => h)
  clear hk hK21
  go_wp2_with fail
  refine (rleft bv gv [0, 7] 1 13 _ (by simp) (by simp) hv5).mono ?_
  rintro e w23 ⟨rfl, hk⟩
  have hK23 := hK22.on hk (fun _ h => h.elim)
  clear hk hK22
  go_wp2_with fail
  refine (known_true _).mono ?_
  rintro e w24 ⟨rfl, hk⟩
  have hK24 := hK23.on hk (fun _ h => h.elim)
  clear hk hK23
  go_wp2
  go_ret
  exact ⟨rfl, hK24.below (Nat.le_refl _) (fun _ _ h => h)⟩

theorem ownN : ownKnob Try.prog.godebug = none := by kernel_rfl

set_option maxRecDepth 100000 in
theorem wireNumbers_lifted (os : Os) (started : os.Started) (H : Type) (enc : TypeId × Value → H) :
    ReturnsInHanded {} Try.checked os 3 .any (Rows.wireNumbersSpec.pre6 enc Try.prog Try.f3 Rows.wireNumbersRow.domain false) (Rows.wireNumbersSpec.post enc Try.prog Try.f3 false true false false) := by
  refine returnsInHanded_of_change (C := Try.checked) ownN started (by kernel_rfl) Try.func3
    (ChangeSpec.witness6 (enc := enc) (C := Try.checked) false ⟨#[], #[], []⟩ 8 (by kernel_rfl) (by kernel_rfl) (by kernel_rfl) (by kernel_rfl)) ?_
  intro W base args ds gs before hval0 hW hcnd _
  have hW' := hW
  obtain ⟨p, q, hA0, hV, rfl, hfz, hnd⟩ := hW
  have hA : DataW.TrodAll enc Try.prog W 0 (fun _ => true) true Try.f3.params.toList args.toList ds p := hA0
  rw [Try.params3] at hA
  obtain ⟨hargs, rfl, rfl⟩ := trodAll_nil hA
  obtain rfl : args = #[] := by cases args; simp_all
  obtain ⟨rfl, rfl⟩ := trodVars_none hV
  clear hA0 hval0
  refine (wireNumbers_walk W).mono fun e W' ⟨he, bel⟩ => ?_
  subst he
  exact ⟨_, rfl, _, _, _, [], _, [], hW', trodAll_mk1 (shut_bool Try.underlying4 _), trodAll_mk0, rfl, bel.frame _, fun h => by cases h⟩

theorem wireNumbers_holds : Rows.WireNumbersSaid :=
  OpenClaim.holds_of_wide 3 Try.f3 rfl rfl rfl rfl rfl rfl rfl ⟨rfl, rfl, rfl, rfl, rfl⟩ rfl rfl rfl rfl rfl (by kernel_rfl) Try.func3 (by kernel_rfl)
    (of_decide_eq_true (by kernel_rfl)) (by unfold Func.isWrapper; first | (rw [if_pos (by decide +kernel)]; kernel_rfl) | (rw [if_neg (by decide +kernel)]; exact ⟨rfl, rfl⟩))
    (fun os started H enc _ => wireNumbers_lifted os started H enc)
#print axioms wireNumbers_holds
end Go.Proofs.Ytbheccioeiemfaa
