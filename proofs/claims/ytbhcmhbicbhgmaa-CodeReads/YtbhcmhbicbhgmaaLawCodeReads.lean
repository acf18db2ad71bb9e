/-
  The walk of the statement on what is read of bytes as code.
-/
import Derived.Deep.DeepCutAuto
import Derived.Test.YtbhcmhbicbhgmaaCodeRefDec
import Derived.Test.YtbhcmhbicbhgmaaCodeAll
import Derived.Test.YtbhcmhbicbhgmaaCodeKnown
namespace Go.Proofs.Ytbhcmhbicbhgmaa
open Go.RowKit
open Wire

theorem fld_bd (l : List Nat) (h256 : ∀ x ∈ l, x < 256) (c : Nat) (i : Ins) (p y : Nat) (h : 0 ≤ i.a ∧ i.a ≤ 255 ∧ i.tos.length ≤ 255) : 0 ≤ (fld l c i p y).1.a ∧ (fld l c i p y).1.a ≤ 255 ∧ (fld l c i p y).1.tos.length ≤ 255 := by
  have hb := rB_lt l p y h256
  unfold fld
  split
  · exact h
  · split
    · exact h
    · split
      · exact ⟨by show (0 : Int) ≤ ((rB l p y).1 : Nat); omega, by show (((rB l p y).1 : Nat) : Int) ≤ 255; omega, h.2.2⟩
      · split
        · exact h
        · split
          · exact h
          · refine ⟨h.1, h.2.1, ?_⟩
            show (rW l _ (waysR i.op i.a).toNat p y).1.length ≤ 255
            rw [rW_len]
            unfold waysR
            split
            · decide
            · split
              · omega
              · decide
theorem flds_bd (l : List Nat) (h256 : ∀ x ∈ l, x < 256) : ∀ (cs : List Nat) (i : Ins) (p y : Nat), 0 ≤ i.a ∧ i.a ≤ 255 ∧ i.tos.length ≤ 255 → (flds l cs i p y).1.tos.length ≤ 255
  | [], _, _, _, h => h.2.2
  | c :: r, i, p, y, h => flds_bd l h256 r _ _ _ (fld_bd l h256 c i p y h)
theorem rdI_bd (l : List Nat) (h256 : ∀ x ∈ l, x < 256) (p : Nat) : (rdI l p).1.tos.length ≤ 255 := flds_bd l h256 _ _ _ _ ⟨Int.le_refl _, by show (0 : Int) ≤ 255; decide, by show 0 ≤ 255; decide⟩
theorem decG_bd (l : List Nat) (h256 : ∀ x ∈ l, x < 256) : ∀ (f p : Nat), ∀ i ∈ (decG l f p).2, i.tos.length ≤ 255
  | 0, _, i, h => by cases h
  | f + 1, p, i, h => by
    rw [decG_at] at h
    split at h
    · cases h
    · split at h
      · cases h
      · split at h
        · cases h
        · rcases List.mem_cons.1 h with rfl | h
          · exact rdI_bd l h256 p
          · exact decG_bd l h256 f _ i h
theorem decode_bd (l : List Nat) (h256 : ∀ x ∈ l, x < 256) : (decodeR l).2.length ≤ 2049 ∧ ∀ i ∈ (decodeR l).2, i.tos.length ≤ 255 := by
  unfold decodeR
  split
  · exact ⟨by show 0 ≤ 2049; decide, fun i h => by cases h⟩
  · exact ⟨Nat.le_trans (decG_long l _ _) (by omega), decG_bd l h256 _ _⟩

set_option maxHeartbeats 4000000 in
set_option maxRecDepth 1000000 in
theorem codeReads_walk (v : Value) (b0 : Nat) (l : List Nat) (w : World) (hO : QOk l v) (hv : Rd w b0 v l) : Calls Try.prog 4 #[v] w (SameE w) := by
  obtain ⟨va, vc, rfl⟩ := hv.shape
  obtain ⟨a', m', c', hcv, hcm, hcx⟩ := hO.hcap
  simp only [Value.slice.injEq] at hcv
  obtain ⟨rfl, rfl, rfl⟩ := hcv
  have hlb := hO.hl
  go_enter Try.func4, Try.ntmps4
  go_upto_if 12 with fail
  go_cut [0] (fun bv wx => ∃ ba bc, bv = .slice ba (l.take 2200).length bc ∧ Hid (Rd w b0 bv (l.take 2200)) ∧ (l.take 2200).length ≤ bc ∧ bc ≤ maxLen ∧ wx = w)
  case first =>
    by_cases hbig : 2200 < l.length
    · have hbi : (2200 : Int) < (l.length : Int) := by omega
      have hci : (2200 : Int) ≤ (vc : Int) := by omega
      have H22 : Hid ((l.take 2200).length = 2200) := by unfold Hid; rw [List.length_take]; omega
      obtain ⟨o, c, h1, h2⟩ := hv.addr2 (by omega)
      simp only [Value.slice.injEq, true_and] at h1
      obtain ⟨rfl, rfl⟩ := h1
      have HR := hidden (h2 2200 vc (by omega))
      clear hv h2 hO
      go_wp2
      go_meet
      exact ⟨_, vc, by rw [H22.out], HR, by rw [H22.out]; omega, hcx, rfl⟩
    · have hbi : ¬ (2200 : Int) < (l.length : Int) := by omega
      have HT : Hid (l.take 2200 = l) := List.take_of_length_le (by omega)
      have HR := hidden hv
      clear hv hO
      go_wp2
      go_meet
      exact ⟨_, vc, by rw [HT.out], by rw [HT.out]; exact HR, by rw [HT.out]; exact hcm, hcx, rfl⟩
  case rest =>
    obtain ⟨ba, bc, rfl, HR, hbc, hbm, hwx⟩ := hcut
    subst hwx
    have h256 : ∀ x ∈ l.take 2200, x < 256 := fun x hx => hO.h256 x (List.mem_of_mem_take hx)
    have hlen : (l.take 2200).length ≤ 2200 := by rw [List.length_take]; omega
    clear hv hcm hcx hO hlb
    generalize l.take 2200 = y at *
    rename World => w
    have hQ : QOk y (.slice ba y.length bc) := ⟨by omega, h256, _, _, _, rfl, hbc, hbm⟩
    have hbd := decode_bd y h256
    have hro := roomy _ b0 y w (by omega) HR.out
    unfold RoomE at hro
    go_wp2_with fail
    refine hro.mono ?_
    rintro e w1 ⟨c1, g1, rfl, hr1, hg1, hc1, hm1, K1⟩
    have hrd1 := row_sub hr1
    have hd1 := cdecode _ g1 y w1 h256 (by omega) hrd1
    have hv1 := HR.out.kept K1 (fun h => h)
    have hci : (y.length : Int) ≤ (c1 : Int) := by omega
    have hrf : ∀ u, Rd u b0 (.slice ba y.length bc) y → Calls Try.prog 13 #[.slice ba y.length bc] u (DecJ (decodeR y) u) := fun u hu => refDecode13 _ b0 y u hQ hu.blk hu
    generalize decodeR y = D at *
    obtain ⟨⟨dy, dp⟩, dl⟩ := D
    unfold DecE at hd1
    unfold DecJ at hrf
    simp only at hd1 hbd hrf
    have HRF := hidden hrf
    clear hro hrf
    go_wp2_with fail
    refine hd1.mono ?_
    rintro e w2 ⟨v2, B2, rfl, hrow2, hB2, K2⟩
    have hv2 := hv1.kept K2 (fun h => h)
    obtain ⟨a2, c2, rfl⟩ := hrow2.shape
    clear hd1 hrd1 hv1
    go_wp2_with fail
    refine (HRF.out w2 hv2).mono ?_
    rintro e w3 ⟨v3, B3, rfl, hrow3, hB3, K3⟩
    obtain ⟨a3, c3, rfl⟩ := hrow3.shape
    have hz1 := K1.size
    have hz2 := K2.size
    have hz3 := K3.size
    have hA := hrow2.insG.frame (F := fun g => B2 ≤ g ∧ g < w2.heap.size) (G := fun g => g < w3.heap.size) (w' := w3) (fun g hg => ⟨by have := hg.2; omega, K3.block g hg.2 (fun h => h)⟩)
    have hB := hrow3.insG.frame (F := fun g => B3 ≤ g ∧ g < w3.heap.size) (G := fun g => g < w3.heap.size) (w' := w3) (fun g hg => ⟨hg.2, rfl⟩)
    have hal := lall (fun g => g < w3.heap.size) (fun g => g < w3.heap.size) _ _ dl w3 (by omega) (fun i hi => Nat.le_trans (hbd.2 i hi) (by decide)) (fun g hg => hg) (fun g hg => hg) hA hB
    have hr3 := (hr1.kept K2 (fun _ h => h)).kept K3 (fun _ h => h)
    have hv3 := hv2.kept K3 (fun h => h)
    have hK3 := (K1.trans K2 (fun _ _ h => h) (fun _ _ h => h)).trans K3 (fun _ _ h => h) (fun _ _ h => h)
    clear HRF hrow2 hrow3 hA hB hr1 hv2 HR hbd
    go_wp2_with fail
    refine hal.mono ?_
    rintro e w4 ⟨rfl, K4⟩
    have hin := intact _ b0 g1 c1 y w4 (by omega) hc1 hm1 (hv3.kept K4 (fun h => h)) (hr3.kept K4 (fun _ h => h))
    have hK4 := hK3.trans K4 (fun _ _ h => h) (fun _ _ h => h)
    clear hal hr3 hv3 hK3
    go_wp2_with fail
    refine hin.mono ?_
    rintro e w5 ⟨rfl, K5⟩
    have hK5 := hK4.trans K5 (fun _ _ h => h) (fun _ _ h => h)
    clear hin hK4
    go_wp2_with fail
    refine (known13 w5).mono ?_
    rintro e w6 ⟨rfl, K6⟩
    go_wp2
    go_ret
    exact ⟨rfl, hK5.trans K6 (fun _ _ h => h) (fun _ _ h => h)⟩
end Go.Proofs.Ytbhcmhbicbhgmaa
