/-
  The Reader's other methods.
-/
import Derived.Test.YtbhcmhbicbhgmaaWireReader
import Derived.Test.YtbhcmhbicbhgmaaWireStr
import Derived.Laws.DeepNot64
namespace Go.Proofs.Ytbhcmhbicbhgmaa.Wire
open Go.RowKit

/-- A number as one with a sign. -/
def zag (n : Nat) : Int := if n % 2 = 1 then -((n / 2 : Nat) : Int) - 1 else ((n / 2 : Nat) : Int)

theorem rNum_lt (l : List Nat) (p why most : Nat) : (rNum l p why most).1 < 18446744073709551616 := by
  have hbd := dec_bounds (l.drop p) 10 0 0 (by omega) (by decide)
  unfold rNum
  split
  · simp
  · split
    · simp
    · split
      · simp
      · split
        · simp
        · rcases hbd with h | h | h
          · exact h.2.2.2.2
          · rw [h]; simp
          · rw [h]; simp
theorem rNum_most (l : List Nat) (p why most : Nat) : (rNum l p why most).1 ≤ most := by
  unfold rNum
  split
  · simp
  · split
    · simp
    · split
      · simp
      · split
        · simp
        · omega
theorem rNum_le (l : List Nat) (p why most : Nat) (hp : p ≤ l.length) : (rNum l p why most).2.1 ≤ l.length := by
  have hbd := dec_bounds (l.drop p) 10 0 0 (by omega) (by decide)
  simp only [List.length_drop] at hbd
  unfold rNum
  split
  · exact hp
  · split
    · exact Nat.le_refl _
    · split
      · exact hp
      · split
        · exact hp
        · rcases hbd with h | h | h
          · show p + _ ≤ _
            omega
          · rw [h]; exact hp
          · rw [h]; exact hp

set_option maxHeartbeats 400000 in
set_option maxRecDepth 1000000 in
theorem rsigned (b g : Nat) (l : List Nat) (p why : Nat) (w : World) (hl : l.length ≤ 140737488355328) (h256 : ∀ x ∈ l, x < 256) (hp : p ≤ l.length) (hr : RIs w b g l p why) :
    Calls Try.prog 58 #[.pointer (some ⟨b, 0, none⟩)] w fun e w' => e = .returned (.int .i64 (zag (rNum l p why 18446744073709551615).1)) ∧ RIs w' b g l (rNum l p why 18446744073709551615).2.1 (rNum l p why 18446744073709551615).2.2 ∧ Kept (fun k => k = b) w w' := by
  have hlt := rNum_lt l p why 18446744073709551615
  have hcall := rnumber b g l p why 18446744073709551615 w hl h256 hp (by omega) hr
  have e : (((18446744073709551615 : Nat) : Int)) = 18446744073709551615 := rfl
  rw [e] at hcall
  clear e
  generalize rNum l p why 18446744073709551615 = R at hlt hcall
  obtain ⟨n, p', why'⟩ := R
  simp only at hlt hcall
  go_enter Try.func58, Try.ntmps58
  go_wp2_with fail
  refine hcall.mono ?_
  rintro e w' ⟨rfl, h1, h2⟩
  have hand0 := u64_and_nat n 1 hlt (by omega)
  rw [nat_mask1] at hand0
  by_cases h2' : n % 2 = 1
  · have HZ : Hid (zag n = -((n / 2 : Nat) : Int) - 1) := by simp [Hid, zag, h2']
    have HX : Hid (bits .xor .i64 (-1) ((n / 2 : Nat) : Int) = -1 - ((n / 2 : Nat) : Int)) := i64_not (n / 2) (by omega)
    have hand : bits .and .u64 (n : Int) 1 = 1 := by rw [h2'] at hand0; exact hand0
    clear hand0 h2'
    go_wp2
    go_ret
    refine ⟨?_, h1, h2⟩
    rw [HZ.out]
    refine ret_int ?_
    have e : (n : Int) / 2 = ((n / 2 : Nat) : Int) := by omega
    rw [e, HX.out]
    omega
  · have HZ : Hid (zag n = ((n / 2 : Nat) : Int)) := by simp [Hid, zag, h2']
    have hand : bits .and .u64 (n : Int) 1 = 0 := by
      have e : n % 2 = 0 := by omega
      rw [e] at hand0
      exact hand0
    clear hand0 h2'
    go_wp2
    go_ret
    refine ⟨?_, h1, h2⟩
    rw [HZ.out]
    exact ret_int (by omega)

/-- What is taken: the bytes, the place, the refusal. -/
def rTake (l : List Nat) (p why : Nat) (n : Int) : List Nat × Nat × Nat :=
  if why ≠ 0 ∨ n ≤ 0 then ([], p, why) else if ((l.length - p : Nat) : Int) < n then ([], l.length, 10) else ((l.drop p).take n.toNat, p + n.toNat, 0)

theorem Row.sub {w : World} {g cap : Nat} {l : List Nat} (hv : Row w g (.slice (some ⟨g, 0, none⟩) l.length cap) l) (p n c : Nat) (h : p + n ≤ l.length) : Rd w g (.slice (some ⟨g, p, none⟩) n c) ((l.drop p).take n) := by
  have hlen : ((l.drop p).take n).length = n := by simp; omega
  refine .inr ⟨⟨g, p, none⟩, c, by rw [hlen], rfl, fun j u hu => ?_⟩
  have hj : j < n := by
    have := (List.getElem?_eq_some_iff.1 hu).1
    rw [bs_length, hlen] at this
    exact this
  have e : (⟨g, p, none⟩ : Addr).add j = ⟨g, p + j, none⟩ := by unfold Addr.add; split <;> simp_all
  rw [e, hv.cell (p + j) (by omega)]
  rw [bs, List.getElem?_map, List.getElem?_take, if_pos hj, List.getElem?_drop] at hu
  rw [← hu]
  simp [List.getD, show p + j < l.length by omega]

set_option maxHeartbeats 800000 in
set_option maxRecDepth 1000000 in
theorem rtake (n : Int) (b g : Nat) (l : List Nat) (p why : Nat) (w : World) (hn : n < 9223372036854775808) (hl : l.length ≤ 140737488355328) (hp : p ≤ l.length) (hr : RIs w b g l p why) :
    Calls Try.prog 59 #[.pointer (some ⟨b, 0, none⟩), .int .i64 n] w fun e w' => ∃ v', e = .returned v' ∧ Rd w' g v' (rTake l p why n).1 ∧ RIs w' b g l (rTake l p why n).2.1 (rTake l p why n).2.2 ∧ Kept (fun k => k = b) w w' := by
  obtain ⟨v, hb, hv, hvb, hgs⟩ := hr
  have hc0 := hb.cell 0
  have hc1 := hb.cell 1
  have hc2 := hb.cell 2
  simp only [List.getElem?_toArray, List.getElem?_cons_succ, List.getElem?_cons_zero] at hc0 hc1 hc2
  by_cases h0 : why = 0
  · subst h0
    by_cases hn0 : n ≤ 0
    · have HE : Hid (rTake l p 0 n = ([], p, 0)) := by simp [Hid, rTake, hn0]
      go_enter Try.func59, Try.ntmps59
      go_wp2
      go_ret
      rw [HE.out]
      exact ⟨_, rfl, .inl ⟨rfl, rfl⟩, ⟨v, hb, hv, hvb, hgs⟩, Kept.refl _ _⟩
    · have hn1 : 0 < n := by omega
      clear hn0
      by_cases hlt : (l.length : Int) - p < n
      · have HE : Hid (rTake l p 0 n = ([], l.length, 10)) := by
          rw [Hid, rTake, if_neg (by omega), if_pos (by omega)]
        obtain ⟨a, c, rfl⟩ := hv.rd.shape
        go_enter Try.func59, Try.ntmps59
        go_wp2
        go_quiet (fail)
        go_wp2_with fail
        refine (rshort b g l _ _ hl (RIs.kept (l := l) (why := 0) ⟨_, hb, hv, hvb, hgs⟩ (kept_drewN w _) (fun h => h) (fun h => h))).mono ?_
        rintro e w' ⟨rfl, h1, h2⟩
        go_wp2
        go_ret
        rw [HE.out]
        exact ⟨_, rfl, .inl ⟨rfl, rfl⟩, h1, (kept_drewN _ _).trans h2 (fun _ _ h => h.elim) (fun _ _ h => h)⟩
      · have HE : Hid (rTake l p 0 n = ((l.drop p).take n.toNat, p + n.toNat, 0)) := by
          rw [Hid, rTake, if_neg (by omega), if_neg (by omega)]
        rcases hv.shape with ⟨rfl, rfl⟩ | ⟨cap, rfl, hcap, _⟩
        · exfalso; simp at hlt; omega
        · have hf1 := hb.frozen 1
          have hpc : p < cap := by omega
          have hpm : (p : Int) + n ≤ l.length := by omega
          go_enter Try.func59, Try.ntmps59
          go_wp2
          go_quiet (fail)
          go_wp2
          have hb1 : Box ((w.drewN nq).setCell ⟨b, 1, none⟩ (.int .i64 (p + n))) b #[.slice (some ⟨g, 0, none⟩) l.length cap, .int .i64 (p + n), .int .i64 0] := Box.set (w := w.drewN nq) hb 1 (.int .i64 (p + n))
          have hv1 : Row ((w.drewN nq).setCell ⟨b, 1, none⟩ (.int .i64 (p + n))) g (.slice (some ⟨g, 0, none⟩) l.length cap) l := Row.set (w := w.drewN nq) hv hvb 1 _
          have hk1 : Kept (fun k => k = b) w ((w.drewN nq).setCell ⟨b, 1, none⟩ (.int .i64 (p + n))) := (kept_drewN w nq).trans (kept_set (w.drewN nq) b 1 _) (fun _ _ h => h.elim) (fun _ _ h => h)
          have hgs1 : g < ((w.drewN nq).setCell ⟨b, 1, none⟩ (.int .i64 (p + n))).heap.size := set_size (w := w.drewN nq) hgs _ _
          have k0 := hb1.cell 0
          have k1 := hb1.cell 1
          simp only [List.getElem?_toArray, List.getElem?_cons_succ, List.getElem?_cons_zero] at k0 k1
          clear hc0 hc1 hc2 hf1 hb hv
          generalize (w.drewN nq).setCell ⟨b, 1, none⟩ (.int .i64 (p + n)) = w1 at hb1 hv1 hk1 hgs1 k0 k1 ⊢
          go_quiet (fail)
          go_wp2
          go_ret
          refine ⟨.slice (some ⟨g, p, none⟩) (((p : Int) + n).toNat - p) (cap - p), rfl, ?_, ?_, hk1.trans (kept_drewN w1 nq) (fun _ _ h => h) (fun _ _ h => h.elim)⟩
          · rw [HE.out, show ((p : Int) + n).toNat - p = n.toNat by omega]
            exact Row.sub (w := w1.drewN nq) hv1 p n.toNat _ (by omega)
          · rw [HE.out]
            have e : (p : Int) + n = ((p + n.toNat : Nat) : Int) := by omega
            rw [e] at hb1
            exact ⟨_, hb1, hv1, hvb, hgs1⟩
  · have HE : Hid (rTake l p why n = ([], p, why)) := by simp [Hid, rTake, h0]
    go_enter Try.func59, Try.ntmps59
    go_wp2
    go_ret
    rw [HE.out]
    exact ⟨_, rfl, .inl ⟨rfl, rfl⟩, ⟨v, hb, hv, hvb, hgs⟩, Kept.refl _ _⟩

set_option maxHeartbeats 400000 in
set_option maxRecDepth 1000000 in
theorem rraw (n : Int) (b g : Nat) (l : List Nat) (p why : Nat) (w : World) (hn : n < 9223372036854775808) (hl : l.length ≤ 140737488355328) (hp : p ≤ l.length) (hr : RIs w b g l p why) :
    Calls Try.prog 56 #[.pointer (some ⟨b, 0, none⟩), .int .i64 n] w fun e w' => ∃ v' g', e = .returned v' ∧ Row w' g' v' (rTake l p why n).1 ∧ w.heap.size ≤ g' ∧ RIs w' b g l (rTake l p why n).2.1 (rTake l p why n).2.2 ∧ Kept (fun k => k = b) w w' := by
  have hlen : (rTake l p why n).1.length ≤ l.length := by
    unfold rTake
    split
    · simp
    · split <;> simp; omega
  go_enter Try.func56, Try.ntmps56
  go_wp2_with fail
  refine (rtake n b g l p why _ hn hl hp hr).mono ?_
  rintro e w1 ⟨v1, rfl, h1, h2, h3⟩
  obtain ⟨a', c', rfl⟩ := h1.shape
  go_wp2_with fail
  refine (clone _ g _ _ (by omega) h1).mono ?_
  rintro e w2 ⟨v2, g2, rfl, k1, k2, k3⟩
  obtain ⟨a2, c2, rfl⟩ := k1.rd.shape
  go_wp2
  go_ret
  have := h3.size
  exact ⟨_, g2, rfl, k1, by omega, h2.kept k3 (fun h => h) (fun h => h), h3.trans k3 (fun _ _ h => h) (fun _ _ h => h.elim)⟩

set_option maxHeartbeats 400000 in
set_option maxRecDepth 1000000 in
theorem rtext (most : Int) (b g : Nat) (l : List Nat) (p why : Nat) (w : World) (h0 : -9223372036854775808 ≤ most) (h1 : most < 9223372036854775808) (hl : l.length ≤ 140737488355328) (h256 : ∀ x ∈ l, x < 256) (hp : p ≤ l.length) (hr : RIs w b g l p why) :
    Calls Try.prog 34 #[.pointer (some ⟨b, 0, none⟩), .int .i64 most] w fun e w' => ∃ R, R = rNum l p why most.toNat ∧ e = .returned (.string (toStr (rTake l R.2.1 R.2.2 R.1).1)) ∧ RIs w' b g l (rTake l R.2.1 R.2.2 R.1).2.1 (rTake l R.2.1 R.2.2 R.1).2.2 ∧ Kept (fun k => k = b) w w' := by
  have hcall := rnumber b g l p why most.toNat w hl h256 hp (by omega) hr
  have hlt := rNum_lt l p why most.toNat
  have hmost := rNum_most l p why most.toNat
  have hple := rNum_le l p why most.toNat hp
  obtain ⟨R, HR⟩ : ∃ R, Hid (R = rNum l p why most.toNat) := ⟨_, rfl⟩
  rw [← HR.out] at hcall hlt hmost hple
  obtain ⟨n, p', why'⟩ := R
  simp only at hcall hlt hmost hple
  by_cases hm : most < 0
  · have e : ((most.toNat : Nat) : Int) = 0 := by omega
    rw [e] at hcall
    have hn0 : n < 9223372036854775808 := by omega
    clear e hmost
    go_enter Try.func34, Try.ntmps34
    go_wp2_with fail
    refine hcall.mono ?_
    rintro e w1 ⟨rfl, k1, k2⟩
    go_wp2_with fail
    refine (rtake n b g l p' why' _ (by omega) hl hple k1).mono ?_
    rintro e w2 ⟨v2, rfl, j1, j2, j3⟩
    have hcv := j1.string
    obtain ⟨a2, c2, rfl⟩ := j1.shape
    go_wp2
    go_ret
    exact ⟨_, HR.out, rfl, j2, k2.trans j3 (fun _ _ h => h) (fun _ _ h => h)⟩
  · have e : ((most.toNat : Nat) : Int) = most := by omega
    rw [e] at hcall
    have hn0 : n < 9223372036854775808 := by omega
    have hm' : 0 ≤ most := by omega
    clear e hmost hm
    go_enter Try.func34, Try.ntmps34
    go_wp2_with fail
    refine hcall.mono ?_
    rintro e w1 ⟨rfl, k1, k2⟩
    go_wp2_with fail
    refine (rtake n b g l p' why' _ (by omega) hl hple k1).mono ?_
    rintro e w2 ⟨v2, rfl, j1, j2, j3⟩
    have hcv := j1.string
    obtain ⟨a2, c2, rfl⟩ := j1.shape
    go_wp2
    go_ret
    exact ⟨_, HR.out, rfl, j2, k2.trans j3 (fun _ _ h => h) (fun _ _ h => h)⟩
end Go.Proofs.Ytbhcmhbicbhgmaa.Wire
