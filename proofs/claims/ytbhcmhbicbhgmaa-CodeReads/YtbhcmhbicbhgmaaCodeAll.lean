/-
  The law's comparing of instructions: what is the same is told so.
-/
import Derived.Test.YtbhcmhbicbhgmaaCodeRef
import Derived.Test.YtbhcmhbicbhgmaaCodeEncW
namespace Go.Proofs.Ytbhcmhbicbhgmaa.Wire
open Go.RowKit Ieee

theorem ord_num (s : Bool) (m : Nat) (i : Int) : Datum.order (.number s m i) (.number s m i) = some .eq := by
  rw [Num.order_at i.natAbs (by omega) (by omega)]
  simp
theorem ord_self (n : Int) : (FloatKind.f64.format.order (floatOfInt .f64 n) (floatOfInt .f64 n) == some .eq) = true := by
  show (double.order (floatOfInt .f64 n) (floatOfInt .f64 n) == some .eq) = true
  by_cases h1 : n.natAbs < 9007199254740992
  · rw [Num.Fl.eq (Num.Fl.mk n h1) (Num.Fl.mk n h1)]
    simp
  · obtain ⟨R, e, g1, g2⟩ := Num.big_word (decide (n < 0)) n.natAbs (by omega)
    have e' : floatOfInt .f64 n = double.word (decide (n < 0)) R := e
    rw [e']
    generalize decide (n < 0) = neg
    have elp : double.leastPlace = -1074 := by decide
    have ebi : double.binade = 4503599627370496 := by decide
    have einf : double.infRung = 9218868437227405312 := by decide
    have esw : double.signWeight = 9223372036854775808 := by decide
    have hneg : (double.word neg R / 9223372036854775808 % 2 == 1) = neg := by
      unfold Format.word
      rw [esw]
      cases neg <;> simp <;> omega
    have hmod : double.word neg R % 9223372036854775808 = R := by
      unfold Format.word
      rw [esw]
      cases neg <;> simp <;> omega
    have hread : ∃ d, double.read (double.word neg R) = d ∧ Datum.order d d = some .eq := by
      refine ⟨_, rfl, ?_⟩
      unfold Format.read
      simp only [esw, ebi, einf, elp, hneg, hmod]
      rw [if_neg (by omega)]
      by_cases hlt : R < 9218868437227405312
      · rw [if_pos hlt]
        exact ord_num _ _ _
      · rw [if_neg hlt, if_pos (by omega)]
        cases neg <;> rfl
    obtain ⟨d, hd, ho⟩ := hread
    show (Datum.order (double.read (double.word neg R)) (double.read (double.word neg R)) == some .eq) = true
    rw [hd, ho]
    rfl

set_option maxHeartbeats 4000000 in
set_option maxRecDepth 1000000 in
theorem lsame (F G : Nat → Prop) (i : Ins) (t1 t2 : Value) (w : World) (hl : i.tos.length ≤ 140737488355328) (hF : ∀ g, F g → g < w.heap.size) (hG : ∀ g, G g → g < w.heap.size) (h1 : IwR F w t1 i.tos) (h2 : IwR G w t2 i.tos) : Calls Try.prog 27 #[.agg (insC i t1), .agg (insC i t2)] w (SameE w) := by
  have hx := ord_self i.x
  have hy := ord_self i.y
  unfold insC
  generalize floatOfInt .f64 i.x = X at *
  generalize floatOfInt .f64 i.y = Y at *
  generalize toStr i.tx = S
  have hK : Kept (fun _ => False) w ((w.alloc (.cells #[.int .i64 i.pl, .int .i64 i.op, .int .i64 i.a, .int .i64 i.b, .complex .f64 X Y, .string S, t1] 34)).alloc (.cells #[.int .i64 i.pl, .int .i64 i.op, .int .i64 i.a, .int .i64 i.b, .complex .f64 X Y, .string S, t2] 57)) := ((Kept.refl _ w).alloc _).alloc _
  have hs := sameI F G t1 t2 i.tos ((w.alloc (.cells #[.int .i64 i.pl, .int .i64 i.op, .int .i64 i.a, .int .i64 i.b, .complex .f64 X Y, .string S, t1] 34)).alloc (.cells #[.int .i64 i.pl, .int .i64 i.op, .int .i64 i.a, .int .i64 i.b, .complex .f64 X Y, .string S, t2] 57)) hl (h1.frame fun g hg => ⟨hg, hK.block g (hF g hg) (fun h => h)⟩) (h2.frame fun g hg => ⟨hg, hK.block g (hG g hg) (fun h => h)⟩)
  obtain ⟨a1, c1, rfl⟩ := h1.shape
  obtain ⟨a2, c2, rfl⟩ := h2.shape
  go_enter Try.func27, Try.ntmps27
  go_wp2_with fail
  refine hs.mono ?_
  rintro e w2 ⟨rfl, K2⟩
  go_wp2
  go_ret
  exact ⟨rfl, hK.trans K2 (fun _ _ h => h) (fun _ _ h => h)⟩
/-- A row of instructions of the call's own, of either type, as it is read. -/
theorem RowG.insG {B ty : Nat} {w : World} {v : Value} {l : List Ins} (h : RowG cIns ty 7 B w v l) : InsR (fun g => B ≤ g ∧ g < w.heap.size) w v l := by
  by_cases h0 : l.length = 0
  · obtain ⟨a, c, rfl⟩ := h.shape
    refine .inl ⟨a, c, by rw [h0], List.eq_nil_of_length_eq_zero h0⟩
  · obtain ⟨g, cap, _, hv, hc, hg, _⟩ := h.at cIns_ok 0 (by omega)
    refine .inr ⟨g, 0, cap, hv, hc, hg, fun j x hj => ?_⟩
    obtain ⟨hjl, rfl⟩ := List.getElem?_eq_some_iff.1 hj
    obtain ⟨g2, cap2, c, hv2, _, _, ⟨tv, hc1, hc2⟩, hcell⟩ := h.at cIns_ok j hjl
    rw [hv] at hv2
    simp only [Value.slice.injEq, Option.some.injEq, Addr.mk.injEq, and_true, true_and] at hv2
    obtain ⟨rfl, rfl⟩ := hv2
    refine ⟨tv, hc2, fun k u hu => ?_⟩
    rw [Nat.zero_add]
    refine hcell k u ?_
    rw [hc1]
    simpa using hu
set_option maxHeartbeats 8000000 in
set_option maxRecDepth 1000000 in
theorem lall (F G : Nat → Prop) (v1 v2 : Value) (l : List Ins) (w : World) (hl : l.length ≤ 1000000) (hto : ∀ i ∈ l, i.tos.length ≤ 1000000) (hF : ∀ g, F g → g < w.heap.size) (hG : ∀ g, G g → g < w.heap.size) (h1 : InsR F w v1 l) (h2 : InsR G w v2 l) : Calls Try.prog 14 #[v1, v2] w (SameE w) := by
  obtain ⟨va, vc, rfl⟩ := h1.shape
  obtain ⟨ua, uc, rfl⟩ := h2.shape
  go_enter Try.func14, Try.ntmps14
  go_wp2
  go_loopg [5] l.length (fun gk i wr => ∃ k : Nat, gk + k = l.length ∧ i = .int .i64 k ∧ Kept (fun _ => False) w wr)
  case atStart => exact ⟨0, rfl, rfl, Kept.refl _ _⟩
  case round =>
    obtain ⟨k, hgk, rfl, hK⟩ := hrel
    by_cases hk : k < l.length
    · have hA := h1.kept hK (fun g hg => ⟨hF g hg, fun h => h⟩)
      have hB := h2.kept hK (fun g hg => ⟨hG g hg, fun h => h⟩)
      obtain ⟨gA, oA, cA, tA, hvA, hcA, hTA, a0, a1, a2, a3, a4, a5, a6⟩ := hA.at k hk
      obtain ⟨gB, oB, cB, tB, hvB, hcB, hTB, b0, b1, b2, b3, b4, b5, b6⟩ := hB.at k hk
      simp only [Value.slice.injEq, true_and] at hvA hvB
      obtain ⟨rfl, rfl⟩ := hvA
      obtain ⟨rfl, rfl⟩ := hvB
      have hlt := hto l[k] (List.getElem_mem hk)
      generalize l[k] = X at *
      have hz := hK.size
      have HC1 : Hid (∀ u, Kept (fun _ => False) wr u → u.cell? ⟨gA, oA + k * 7, none⟩ = some (.int .i64 X.pl) ∧ u.cell? ⟨gA, oA + k * 7 + 1, none⟩ = some (.int .i64 X.op) ∧ u.cell? ⟨gA, oA + k * 7 + 2, none⟩ = some (.int .i64 X.a) ∧ u.cell? ⟨gA, oA + k * 7 + 3, none⟩ = some (.int .i64 X.b) ∧ u.cell? ⟨gA, oA + k * 7 + 4, none⟩ = some (.complex .f64 (floatOfInt .f64 X.x) (floatOfInt .f64 X.y)) ∧ u.cell? ⟨gA, oA + k * 7 + 5, none⟩ = some (.string (toStr X.tx)) ∧ u.cell? ⟨gA, oA + k * 7 + 6, none⟩ = some tA) := fun u ku => ⟨ku.cell a0 (fun h => h), ku.cell a1 (fun h => h), ku.cell a2 (fun h => h), ku.cell a3 (fun h => h), ku.cell a4 (fun h => h), ku.cell a5 (fun h => h), ku.cell a6 (fun h => h)⟩
      have HC2 : Hid (∀ u, Kept (fun _ => False) wr u → u.cell? ⟨gB, oB + k * 7, none⟩ = some (.int .i64 X.pl) ∧ u.cell? ⟨gB, oB + k * 7 + 1, none⟩ = some (.int .i64 X.op) ∧ u.cell? ⟨gB, oB + k * 7 + 2, none⟩ = some (.int .i64 X.a) ∧ u.cell? ⟨gB, oB + k * 7 + 3, none⟩ = some (.int .i64 X.b) ∧ u.cell? ⟨gB, oB + k * 7 + 4, none⟩ = some (.complex .f64 (floatOfInt .f64 X.x) (floatOfInt .f64 X.y)) ∧ u.cell? ⟨gB, oB + k * 7 + 5, none⟩ = some (.string (toStr X.tx)) ∧ u.cell? ⟨gB, oB + k * 7 + 6, none⟩ = some tB) := fun u ku => ⟨ku.cell b0 (fun h => h), ku.cell b1 (fun h => h), ku.cell b2 (fun h => h), ku.cell b3 (fun h => h), ku.cell b4 (fun h => h), ku.cell b5 (fun h => h), ku.cell b6 (fun h => h)⟩
      have hsm : ∀ u, Kept (fun _ => False) wr u → Calls Try.prog 27 #[.agg (insC X tA), .agg (insC X tB)] u (SameE u) := fun u ku => lsame F G X tA tB u (by omega) (fun g hg => by have := hF g hg; have := ku.size; omega) (fun g hg => by have := hG g hg; have := ku.size; omega) (hTA.frame fun g hg => ⟨hg, ku.block g (by have := hF g hg; omega) (fun h => h)⟩) (hTB.frame fun g hg => ⟨hg, ku.block g (by have := hG g hg; omega) (fun h => h)⟩)
      have HSM := hidden hsm
      have HGK := hidden hgk
      have hk0 : (0 : Int) ≤ k := by omega
      have hkl : (k : Int) < l.length := by omega
      have hmx : Try.prog.follows .mixedOrders = true := by kernel_rfl
      have G0 : Kept (fun _ => False) wr wr.drew := (Kept.refl _ wr).drew
      clear hsm hgk a0 a1 a2 a3 a4 a5 a6 b0 b1 b2 b3 b4 b5 b6 hTA hTB hA hB
      go_wp2_with fail
      refine wp_region_held (S := fun u => Kept (fun _ => False) wr u) hmx ?_
      show wpAnyH Try.prog .any _ _ _ _ _ _ wr.drew
      refine wpAnyH_take (i := 0) (v := .slice (some ⟨gA, oA, none⟩) l.length vc) rfl (by kernel_rfl) (by kernel_rfl) (by kernel_rfl) (fun _ _ _ h => h) (.inl ⟨by rfl, fun u hu => by go_simp⟩) G0 ?_
      show wpAnyH Try.prog .any _ _ _ _ _ (Act.put _ (some 17) (.slice (some ⟨gA, oA, none⟩) l.length vc)) _
      simp only [Act.put, List.setIfInBounds_toArray, List.set_cons_zero, List.set_cons_succ]
      refine wpAnyH_take (i := 1) (v := .int .i64 (k : Int)) rfl (by kernel_rfl) (by kernel_rfl) (by kernel_rfl) (fun _ _ _ h => h) (.inl ⟨by rfl, fun u hu => by go_simp⟩) G0 ?_
      show wpAnyH Try.prog .any _ _ _ _ _ (Act.put _ (some 18) (.int .i64 (k : Int))) _
      simp only [Act.put, List.setIfInBounds_toArray, List.set_cons_zero, List.set_cons_succ]
      refine wpAnyH_take (i := 2) (v := .pointer (some ⟨gA, oA + k * 7, none⟩)) rfl (by kernel_rfl) (by kernel_rfl) (by kernel_rfl) (fun _ _ _ h => h) (.inl ⟨by rfl, fun u hu => by go_simp⟩) G0 ?_
      show wpAnyH Try.prog .any _ _ _ _ _ (Act.put _ (some 19) (.pointer (some ⟨gA, oA + k * 7, none⟩))) _
      simp only [Act.put, List.setIfInBounds_toArray, List.set_cons_zero, List.set_cons_succ]
      refine wpAnyH_take (i := 3) (v := .agg #[.int .i64 X.pl, .int .i64 X.op, .int .i64 X.a, .int .i64 X.b, .complex .f64 (floatOfInt .f64 X.x) (floatOfInt .f64 X.y), .string (toStr X.tx), tA]) rfl (by kernel_rfl) (by kernel_rfl) (by kernel_rfl) (fun _ _ _ h => h) (.inl ⟨by rfl, fun u hu => by obtain ⟨z0, z1, z2, z3, z4, z5, z6⟩ := HC1.out u hu; go_simp⟩) G0 ?_
      show wpAnyH Try.prog .any _ _ _ _ _ (Act.put _ (some 20) (.agg #[.int .i64 X.pl, .int .i64 X.op, .int .i64 X.a, .int .i64 X.b, .complex .f64 (floatOfInt .f64 X.x) (floatOfInt .f64 X.y), .string (toStr X.tx), tA])) _
      simp only [Act.put, List.setIfInBounds_toArray, List.set_cons_zero, List.set_cons_succ]
      refine wpAnyH_take (i := 4) (v := .slice (some ⟨gB, oB, none⟩) l.length uc) rfl (by kernel_rfl) (by kernel_rfl) (by kernel_rfl) (fun _ _ _ h => h) (.inl ⟨by rfl, fun u hu => by go_simp⟩) G0 ?_
      show wpAnyH Try.prog .any _ _ _ _ _ (Act.put _ (some 21) (.slice (some ⟨gB, oB, none⟩) l.length uc)) _
      simp only [Act.put, List.setIfInBounds_toArray, List.set_cons_zero, List.set_cons_succ]
      refine wpAnyH_take (i := 5) (v := .int .i64 (k : Int)) rfl (by kernel_rfl) (by kernel_rfl) (by kernel_rfl) (fun _ _ _ h => h) (.inl ⟨by rfl, fun u hu => by go_simp⟩) G0 ?_
      show wpAnyH Try.prog .any _ _ _ _ _ (Act.put _ (some 22) (.int .i64 (k : Int))) _
      simp only [Act.put, List.setIfInBounds_toArray, List.set_cons_zero, List.set_cons_succ]
      refine wpAnyH_take (i := 6) (v := .pointer (some ⟨gB, oB + k * 7, none⟩)) rfl (by kernel_rfl) (by kernel_rfl) (by kernel_rfl) (fun _ _ _ h => h) (.inl ⟨by rfl, fun u hu => by go_simp⟩) G0 ?_
      show wpAnyH Try.prog .any _ _ _ _ _ (Act.put _ (some 23) (.pointer (some ⟨gB, oB + k * 7, none⟩))) _
      simp only [Act.put, List.setIfInBounds_toArray, List.set_cons_zero, List.set_cons_succ]
      refine wpAnyH_take (i := 7) (v := .agg #[.int .i64 X.pl, .int .i64 X.op, .int .i64 X.a, .int .i64 X.b, .complex .f64 (floatOfInt .f64 X.x) (floatOfInt .f64 X.y), .string (toStr X.tx), tB]) rfl (by kernel_rfl) (by kernel_rfl) (by kernel_rfl) (fun _ _ _ h => h) (.inl ⟨by rfl, fun u hu => by obtain ⟨z0, z1, z2, z3, z4, z5, z6⟩ := HC2.out u hu; go_simp⟩) G0 ?_
      show wpAnyH Try.prog .any _ _ _ _ _ (Act.put _ (some 24) (.agg #[.int .i64 X.pl, .int .i64 X.op, .int .i64 X.a, .int .i64 X.b, .complex .f64 (floatOfInt .f64 X.x) (floatOfInt .f64 X.y), .string (toStr X.tx), tB])) _
      simp only [Act.put, List.setIfInBounds_toArray, List.set_cons_zero, List.set_cons_succ]
      refine wpAnyH_ready (rs := [8]) (by kernel_rfl) (by simp) ?_
      refine AllReadyH.cons rfl (fun K hK2 => ?_) AllReadyH.nil
      go_simp
      refine (HSM.out wr.drew G0).mono ?_
      rintro e w3 ⟨rfl, K3⟩
      have G3 : Kept (fun _ => False) wr w3 := G0.trans K3 (fun _ _ h => h) (fun _ _ h => h)
      refine hK2.out _ _ G3 (fun _ => ?_)
      clear hK2 K
      refine wpAnyH_take (i := 9) (v := .bool false) rfl (by kernel_rfl) (by kernel_rfl) (by kernel_rfl) (fun _ _ _ h => h) (.inl ⟨by rfl, fun u hu => by go_simp⟩) G3 ?_
      refine wpAnyH_done (by kernel_rfl) ?_ _
      have hKF := hK.trans G3 (fun _ _ h => h) (fun _ _ h => h)
      go_wp2
      go_roundg (l.length - (k + 1))
      case measure => have := HGK.out; omega
      case rel => exact ⟨k + 1, by omega, by go_num, hKF⟩
    · go_wp2
      go_ret
      exact ⟨rfl, hK⟩
end Go.Proofs.Ytbhcmhbicbhgmaa.Wire
