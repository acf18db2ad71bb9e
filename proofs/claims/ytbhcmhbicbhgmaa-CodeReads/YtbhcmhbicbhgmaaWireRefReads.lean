/-
  The reference's Reader: its other methods.
-/
import Derived.Test.YtbhcmhbicbhgmaaWireRefNumber
namespace Go.Proofs.Ytbhcmhbicbhgmaa.Wire
open Go.RowKit

def QSigE (w : World) (b b0 : Nat) (bv : Value) (l : List Nat) (R : Nat × Nat × Nat) (e : Ending) (w' : World) : Prop :=
  e = .returned (.int .i64 (zag R.1)) ∧ QIs w' b b0 bv l R.2.1 R.2.2 ∧ Kept (fun k => k = b) w w'

set_option maxHeartbeats 800000 in
theorem qsigned (b b0 : Nat) (bv : Value) (l : List Nat) (p why : Nat) (w : World) (hl : l.length ≤ 140737488351232) (h256 : ∀ x ∈ l, x < 256) (hp : p ≤ l.length) (hq : QIs w b b0 bv l p why) (hcap : ∃ a m c, bv = .slice a m c ∧ m ≤ c ∧ c ≤ maxLen) :
    Calls Try.prog 49 #[.pointer (some ⟨b, 0, none⟩)] w (QSigE w b b0 bv l (rNum l p why 18446744073709551615)) := by
  have hlt := rNum_lt l p why 18446744073709551615
  have hcall := qnumber b b0 bv l p why 18446744073709551615 w hl h256 hp (by omega) hq hcap
  rw [show (((18446744073709551615 : Nat) : Int)) = 18446744073709551615 from rfl] at hcall
  generalize rNum l p why 18446744073709551615 = R at hlt hcall
  obtain ⟨n, p', why'⟩ := R
  simp only at hlt
  by_cases h2' : n % 2 = 1
  · have HZ : Hid (zag n = -((n / 2 : Nat) : Int) - 1) := by simp [Hid, zag, h2']
    have hmod : ((n : Int) % 2 == 1) = true := by simp; omega
    clear h2'
    go_enter Try.func49, Try.ntmps49
    go_wp2_with fail
    refine hcall.mono ?_
    rintro e w' ⟨rfl, h1, h2⟩
    go_wp2
    go_ret
    refine ⟨?_, h1, h2⟩
    show _ = Ending.returned (.int .i64 (zag n))
    rw [HZ.out]
    exact ret_int (by omega)
  · have HZ : Hid (zag n = ((n / 2 : Nat) : Int)) := by simp [Hid, zag, h2']
    have hmod : ((n : Int) % 2 == 1) = false := by simp; omega
    clear h2'
    go_enter Try.func49, Try.ntmps49
    go_wp2_with fail
    refine hcall.mono ?_
    rintro e w' ⟨rfl, h1, h2⟩
    go_wp2
    go_ret
    refine ⟨?_, h1, h2⟩
    show _ = Ending.returned (.int .i64 (zag n))
    rw [HZ.out]
    exact ret_int (by omega)

def QTakeE (w : World) (b b0 : Nat) (bv : Value) (l : List Nat) (T : List Nat × Nat × Nat) (e : Ending) (w' : World) : Prop :=
  ∃ v g, e = .returned v ∧ Row w' g v T.1 ∧ w.heap.size ≤ g ∧ QIs w' b b0 bv l T.2.1 T.2.2 ∧ Kept (fun k => k = b) w w'

theorem qraw (n : Int) (b b0 : Nat) (bv : Value) (l : List Nat) (p why : Nat) (w : World) (hn : n < 9223372036854775808) (hl : l.length ≤ 140737488351232) (hp : p ≤ l.length) (hq : QIs w b b0 bv l p why) (hcap : ∃ a m c, bv = .slice a m c ∧ m ≤ c ∧ c ≤ maxLen) :
    Calls Try.prog 64 #[.pointer (some ⟨b, 0, none⟩), .int .i64 n] w (QTakeE w b b0 bv l (rTake l p why n)) := by
  obtain ⟨A, r, Y, Z, hb, hrd, hne, hA, hst⟩ := hq
  refine (qraw_box n b b0 bv l A r Y Z w hn hl hA hb hrd hcap).mono ?_
  rintro e w1 ⟨v1, g1, l1, he, hr1, hg1, hk1, hcase⟩
  have hrd1 := hrd.keptE hk1 (fun h => hne h.symm)
  rcases hst with ⟨rfl, rfl, rfl⟩ | ⟨h0, rfl, rfl, rfl⟩
  · rcases hcase with ⟨hc, rfl, hb1⟩ | ⟨_, hn0, hend, rfl, hb1⟩ | ⟨_, hn0, hin, rfl, hb1⟩
    · have hn0 : n < 0 := by simpa using hc
      have e1 : rTake l A 0 n = ([], A, 0) := by rw [rTake, if_pos (by omega)]
      rw [e1]
      exact ⟨v1, g1, he, hr1, hg1, ⟨_, _, _, _, hb1, hrd1, hne, hA, .inl ⟨rfl, rfl, rfl⟩⟩, hk1⟩
    · have e1 : rTake l A 0 n = ([], l.length, 10) := by rw [rTake, if_neg (by omega), if_pos hend]
      rw [e1]
      exact ⟨v1, g1, he, hr1, hg1, ⟨_, _, _, _, hb1, hrd1, hne, hA, .inr ⟨by simp, rfl, rfl, rfl⟩⟩, hk1⟩
    · have e1 : rTake l A 0 n = ((l.drop A).take n.toNat, A + n.toNat, 0) := by
        by_cases hz : n = 0
        · subst hz; rw [rTake, if_pos (by omega)]; simp
        · rw [rTake, if_neg (by omega), if_neg (by omega)]
      rw [e1]
      exact ⟨v1, g1, he, hr1, hg1, ⟨_, _, _, _, hb1, hrd1, hne, by omega, .inl ⟨rfl, rfl, rfl⟩⟩, hk1⟩
  · rcases hcase with ⟨hc, rfl, hb1⟩ | ⟨hc, _⟩ | ⟨hc, _⟩
    · have e1 : rTake l Z Y n = ([], Z, Y) := by rw [rTake, if_pos (Or.inl h0)]
      rw [e1]
      exact ⟨v1, g1, he, hr1, hg1, ⟨_, _, _, _, hb1, hrd1, hne, hA, .inr ⟨h0, rfl, rfl, rfl⟩⟩, hk1⟩
    · simp at hc
    · simp at hc

def QTextE (w : World) (b b0 : Nat) (bv : Value) (l : List Nat) (T : List Nat × Nat × Nat) (e : Ending) (w' : World) : Prop :=
  e = .returned (.string (toStr T.1)) ∧ QIs w' b b0 bv l T.2.1 T.2.2 ∧ Kept (fun k => k = b) w w'

set_option maxHeartbeats 800000 in
set_option maxRecDepth 1000000 in
theorem qtext (most : Int) (b b0 : Nat) (bv : Value) (l : List Nat) (p why : Nat) (w : World) (h0 : -9223372036854775808 ≤ most) (h1 : most < 9223372036854775808) (hl : l.length ≤ 140737488351232) (h256 : ∀ x ∈ l, x < 256) (hp : p ≤ l.length) (hq : QIs w b b0 bv l p why) (hcap : ∃ a m c, bv = .slice a m c ∧ m ≤ c ∧ c ≤ maxLen) (R : Nat × Nat × Nat) (HR : Hid (R = rNum l p why most.toNat)) :
    Calls Try.prog 51 #[.pointer (some ⟨b, 0, none⟩), .int .i64 most] w (QTextE w b b0 bv l (rTake l R.2.1 R.2.2 R.1)) := by
  have hcall := qnumber b b0 bv l p why most.toNat w hl h256 hp (by omega) hq hcap
  have hlt := rNum_lt l p why most.toNat
  have hmost := rNum_most l p why most.toNat
  have hple := rNum_le l p why most.toNat hp
  rw [← HR.out] at hcall hlt hmost hple
  obtain ⟨n, p', why'⟩ := R
  simp only at hlt hmost hple
  have hn0 : n < 9223372036854775808 := by omega
  obtain ⟨T, HT⟩ : ∃ T, Hid (T = rTake l p' why' n) := ⟨_, rfl⟩
  have hraw : ∀ u, QIs u b b0 bv l p' why' → Calls Try.prog 64 #[.pointer (some ⟨b, 0, none⟩), .int .i64 n] u (QTakeE u b b0 bv l T) := by
    intro u hu
    rw [HT.out]
    exact qraw n b b0 bv l p' why' u (by omega) hl hple hu hcap
  show Calls Try.prog 51 #[.pointer (some ⟨b, 0, none⟩), .int .i64 most] w (QTextE w b b0 bv l (rTake l p' why' n))
  rw [← HT.out]
  clear hmost HR
  by_cases hm : most < 0
  · have e : ((most.toNat : Nat) : Int) = 0 := by omega
    rw [e] at hcall
    clear e
    go_enter Try.func51, Try.ntmps51
    go_wp2_with fail
    refine hcall.mono ?_
    rintro e w1 ⟨rfl, k1, k2⟩
    go_wp2_with fail
    refine (hraw _ k1).mono ?_
    rintro e w2 ⟨v2, g2, rfl, j1, _, j2, j3⟩
    have hcv := j1.rd.string
    obtain ⟨a2, n2, c2, hv2⟩ := j1.rd.shape3'
    subst hv2
    go_wp2
    go_ret
    exact ⟨rfl, j2, k2.trans j3 (fun _ _ h => h) (fun _ _ h => h)⟩
  · have e : ((most.toNat : Nat) : Int) = most := by omega
    rw [e] at hcall
    have hm' : 0 ≤ most := by omega
    clear e hm
    go_enter Try.func51, Try.ntmps51
    go_wp2_with fail
    refine hcall.mono ?_
    rintro e w1 ⟨rfl, k1, k2⟩
    go_wp2_with fail
    refine (hraw _ k1).mono ?_
    rintro e w2 ⟨v2, g2, rfl, j1, _, j2, j3⟩
    have hcv := j1.rd.string
    obtain ⟨a2, n2, c2, hv2⟩ := j1.rd.shape3'
    subst hv2
    go_wp2
    go_ret
    exact ⟨rfl, j2, k2.trans j3 (fun _ _ h => h) (fun _ _ h => h)⟩

set_option maxHeartbeats 800000 in
theorem qend (b b0 : Nat) (bv : Value) (l : List Nat) (p why : Nat) (w : World) (_hl : l.length ≤ 140737488351232) (hq : QIs w b b0 bv l p why) :
    Calls Try.prog 54 #[.pointer (some ⟨b, 0, none⟩)] w fun e w' => e = .returned (.tuple #[.int .i64 (rEnd l p why).1, .int .i64 (rEnd l p why).2]) ∧ Kept (fun _ => False) w w' := by
  obtain ⟨A, r, Y, Z, hb, hrd, hne, hA, hst⟩ := hq
  obtain ⟨c0, c1, c2, c3, c4, hf⟩ := qcells hb
  obtain ⟨a, c, hsh⟩ := hrd.shape
  subst hsh
  rcases hst with ⟨rfl, rfl, rfl⟩ | ⟨h0, rfl, rfl, rfl⟩
  · by_cases h1 : A < l.length
    · have HE : Hid (rEnd l A 0 = (11, A)) := by simp [Hid, rEnd, h1]
      go_enter Try.func54, Try.ntmps54
      go_wp2
      go_quiet (fail)
      go_wp2
      go_quiet (fail)
      go_wp2
      go_ret2
      rw [HE.out]
      exact ⟨rfl, ((kept_drewN _ _).trans (kept_drewN _ _) (fun _ _ h => h) (fun _ _ h => h))⟩
    · have HE : Hid (rEnd l A 0 = (0, 0)) := by simp [Hid, rEnd, h1]
      go_enter Try.func54, Try.ntmps54
      go_wp2
      go_quiet (fail)
      go_wp2
      go_ret2
      rw [HE.out]
      exact ⟨rfl, kept_drewN _ _⟩
  · have HE : Hid (rEnd l Z Y = (Y, Z)) := by simp [Hid, rEnd, h0]
    go_enter Try.func54, Try.ntmps54
    go_wp2
    go_quiet (fail)
    go_wp2
    go_ret2
    rw [HE.out]
    exact ⟨rfl, kept_drewN _ _⟩
end Go.Proofs.Ytbhcmhbicbhgmaa.Wire
