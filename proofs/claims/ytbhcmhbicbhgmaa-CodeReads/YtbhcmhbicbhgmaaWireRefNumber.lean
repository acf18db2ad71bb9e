/-
  The reference's Reader: Number.
-/
import Derived.Test.YtbhcmhbicbhgmaaWireRefReader
namespace Go.Proofs.Ytbhcmhbicbhgmaa.Wire
open Go.RowKit

def QNumE (w : World) (b b0 : Nat) (bv : Value) (l : List Nat) (R : Nat × Nat × Nat) (e : Ending) (w' : World) : Prop :=
  e = .returned (.int .u64 R.1) ∧ QIs w' b b0 bv l R.2.1 R.2.2 ∧ Kept (fun k => k = b) w w'

theorem low_bits (x : Nat) (hx : x < 256) : bits .and .u8 (x : Int) 127 = ((x % 128 : Nat) : Int) := by
  have h1 : bits .and .u8 (x : Int) 127 = ((x &&& 127 : Nat) : Int) := u8_and_nat x 127 hx (by omega)
  have h3 : x &&& 127 = x % 128 := Nat.and_two_pow_sub_one_eq_mod x 7
  rw [h1, h3]

/-- The number is told from what dec gives. -/
theorem rNum_dec {l : List Nat} {p most dn ds dw : Nat} (hd : dec (l.drop p) 0 0 = (dn, ds, dw)) : rNum l p 0 most = if dw = 10 then (0, l.length, 10) else if dw ≠ 0 then (0, p, dw) else if most < dn then (0, p, 3) else (dn, p + ds, 0) := by simp [rNum, hd]

set_option maxHeartbeats 4000000 in
set_option maxRecDepth 1000000 in
theorem qnumber (b b0 : Nat) (bv : Value) (l : List Nat) (p why most : Nat) (w : World) (hl : l.length ≤ 140737488351232) (h256 : ∀ x ∈ l, x < 256) (hp : p ≤ l.length) (_hm : most < 18446744073709551616) (hq : QIs w b b0 bv l p why) (hcap : ∃ a m c, bv = .slice a m c ∧ m ≤ c ∧ c ≤ maxLen) :
    Calls Try.prog 63 #[.pointer (some ⟨b, 0, none⟩), .int .u64 most] w (QNumE w b b0 bv l (rNum l p why most)) := by
  obtain ⟨A, r, Y, Z, hb, hrd, hne, hA, hst⟩ := hq
  obtain ⟨c0, c1, c2, c3, c4, hf⟩ := qcells hb
  rcases hst with ⟨rfl, rfl, rfl⟩ | ⟨h0, rfl, rfl, rfl⟩
  · go_enter Try.func63, Try.ntmps63
    go_wp2
    go_loopg [6, 7, 8] 10 (fun gk n k _ wr => ∃ j acc : Nat, gk + j = 10 ∧ j < 10 ∧ A + j ≤ l.length ∧ k = .int .i64 j ∧ n = .int .u64 acc ∧ acc < 2 ^ (7 * j) ∧ Hid (dec (l.drop A) j acc = dec (l.drop A) 0 0) ∧ QBox wr b bv (A + j) false Y Z ∧ Kept (fun k => k = b) w wr)
    case atStart => exact ⟨0, 0, rfl, by omega, by omega, rfl, rfl, by decide, rfl, hb, Kept.refl _ _⟩
    case round =>
      obtain ⟨j, acc, hgj, hj, hAj, rfl, rfl, hacc, HD, hbr, hK⟩ := hrel
      have hrdr := hrd.keptE hK (fun h => hne h.symm)
      clear c0 c1 c2 c3 c4 hf hb
      obtain ⟨c0, c1, c2, c3, c4, hf⟩ := qcells hbr
      have hf1 := hf 1
      go_wp2_with fail
      refine (qraw_box 1 b b0 bv l (A + j) false Y Z wr (by omega) hl hAj hbr hrdr hcap).mono ?_
      rintro e w1 ⟨v1, g1, l1, rfl, hr1, hg1, hk1, hcase⟩
      have hK1 := hK.trans hk1 (U := fun k => k = b) (fun _ _ h => h) (fun _ _ h => h)
      have hrd1 := hrdr.keptE hk1 (fun h => hne h.symm)
      rcases hcase with ⟨h0, _⟩ | ⟨_, _, hend, hl1, hb1⟩ | ⟨_, _, hin, hl1, hb1⟩
      · exfalso; simp at h0
      · have hend' : l.length = A + j := by omega
        obtain ⟨d0, d1, d2, d3, d4, hf'⟩ := qcells hb1
        obtain ⟨a1, n1, c1', hv1⟩ := hr1.rd.shape3'
        subst hv1
        have HR : Hid (rNum l A 0 most = (0, l.length, 10)) := by
          have h : dec (l.drop A) 0 0 = (0, 0, 10) := by rw [← HD.out]; exact dec_none hj (List.getElem?_eq_none (by simp; omega))
          rw [Hid, rNum_dec h, if_pos rfl]
        clear hend'
        go_wp2
        go_ret
        rw [HR.out]
        exact ⟨rfl, ⟨_, _, _, _, hb1, hrd1, hne, hAj, .inr ⟨by simp, rfl, rfl, rfl⟩⟩, hK1⟩
      · have hlt : A + j < l.length := by omega
        have hx : (l.drop A)[j]? = some (l.getD (A + j) 0) := by simp [List.getElem?_drop, List.getD, hlt]
        have hl1' : l1 = [l.getD (A + j) 0] := by
          have h1 : (l.drop (A + j)).take 1 = [l[A + j]] := by rw [List.drop_eq_getElem_cons hlt]; rfl
          rw [hl1, show (1 : Int).toNat = 1 from rfl, h1]
          simp [List.getD, hlt]
        have hx256 : l.getD (A + j) 0 < 256 := h256 _ (by simp [List.getD, hlt])
        rw [show (1 : Int).toNat = 1 from rfl] at hb1
        generalize l.getD (A + j) 0 = x at hx hl1' hx256
        subst hl1'
        clear hl1
        rcases hr1.shape with ⟨_, h⟩ | ⟨cap1, hv1, _, _⟩
        · simp at h
        · subst hv1
          have hcx := hr1.cell 0 (by simp)
          simp only [List.getD_cons_zero] at hcx
          obtain ⟨d0, d1, d2, d3, d4, hf'⟩ := qcells hb1
          have hf1' := hf' 1
          have hlow := low_bits x hx256
          have hj10 : ¬ (9 : Int) < j := by omega
          by_cases j9 : j = 9
          · have j9b : ((j : Int) == 9) = true := by simp; omega
            have jp : (0 : Int) < j := by omega
            by_cases x1 : 1 < x
            · have HR : Hid (rNum l A 0 most = (0, A, 12)) := by
                have h : dec (l.drop A) 0 0 = (0, 0, 12) := by
                  rw [← HD.out]
                  by_cases h128 : 128 ≤ x
                  · rw [dec_on hj hx h128, dec_end (by omega)]
                  · exact dec_bad hj hx (by omega) (by omega)
                rw [Hid, rNum_dec h, if_neg (by omega), if_pos (by omega)]
              have x1b : (1 : Int) < x := by omega
              clear j9 x1
              clear hlow
              go_wp2_with fail
              have hb2 : QBox (w1.setCell ⟨b, 1, none⟩ (.int .i64 A)) b bv A false Y Z := Box.set hb1 1 (.int .i64 A)
              refine (qrefuse 12 A b bv A false Y Z _ hb2).mono ?_
              rintro e w2 ⟨rfl, hb3, hk3⟩
              have hk4 := (kept_set w1 b 1 (.int .i64 A)).trans hk3 (U := fun k => k = b) (fun _ _ h => h) (fun _ _ h => h)
              have hrd3 := hrd1.keptE hk4 (fun h => hne h.symm)
              have hK3 := hK1.trans hk4 (U := fun k => k = b) (fun _ _ h => h) (fun _ _ h => h)
              go_wp2
              go_ret
              rw [HR.out]
              exact ⟨rfl, ⟨_, _, _, _, hb3, hrd3, hne, hA, .inr ⟨by simp, rfl, rfl, rfl⟩⟩, hK3⟩
            · have x1b : ¬ (1 : Int) < x := by omega
              by_cases x0 : x = 0
              · have HR : Hid (rNum l A 0 most = (0, A, 12)) := by
                  have h : dec (l.drop A) 0 0 = (0, 0, 12) := by
                    rw [← HD.out]
                    by_cases h128 : 128 ≤ x
                    · rw [dec_on hj hx h128, dec_end (by omega)]
                    · exact dec_bad hj hx (by omega) (by omega)
                  rw [Hid, rNum_dec h, if_neg (by omega), if_pos (by omega)]
                have x0b : ((x : Int) == 0) = true := by simp; omega
                clear j9 x1 x0
                clear hlow
                go_wp2_with fail
                have hb2 : QBox (w1.setCell ⟨b, 1, none⟩ (.int .i64 A)) b bv A false Y Z := Box.set hb1 1 (.int .i64 A)
                refine (qrefuse 12 A b bv A false Y Z _ hb2).mono ?_
                rintro e w2 ⟨rfl, hb3, hk3⟩
                have hk4 := (kept_set w1 b 1 (.int .i64 A)).trans hk3 (U := fun k => k = b) (fun _ _ h => h) (fun _ _ h => h)
                have hrd3 := hrd1.keptE hk4 (fun h => hne h.symm)
                have hK3 := hK1.trans hk4 (U := fun k => k = b) (fun _ _ h => h) (fun _ _ h => h)
                go_wp2
                go_ret
                rw [HR.out]
                exact ⟨rfl, ⟨_, _, _, _, hb3, hrd3, hne, hA, .inr ⟨by simp, rfl, rfl, rfl⟩⟩, hK3⟩
              · have x0b : ((x : Int) == 0) = false := by simp; omega
                have hval := or_val (k := j) (acc := acc) (x := x) (by omega) hacc
                obtain ⟨V, HVe⟩ : ∃ V, Hid (V = acc + x % 128 * 2 ^ (7 * j)) := ⟨_, rfl⟩
                rw [← HVe.out] at hval
                obtain ⟨hV1, hV2⟩ := hval
                have hx128 : (x : Int) < 128 := by omega
                have HB : Hid (dec (l.drop A) 0 0 = (V, j + 1, 0)) := by
                  rw [Hid, ← HD.out, dec_ok hj hx (by omega) (by omega), HVe.out]
                  simp only [show x % 128 = x by omega]
                clear j9 x1 x0
                by_cases hmo : most < V
                · have HR : Hid (rNum l A 0 most = (0, A, 3)) := by rw [Hid, rNum_dec HB.out, if_neg (by omega), if_neg (by omega), if_pos hmo]
                  go_wp2_with fail
                  refine (qrefuse 3 A b bv (A + j + 1) false Y Z _ hb1).mono ?_
                  rintro e w2 ⟨rfl, hb3, hk3⟩
                  have hrd3 := hrd1.keptE hk3 (fun h => hne h.symm)
                  have hK3 := hK1.trans hk3 (U := fun k => k = b) (fun _ _ h => h) (fun _ _ h => h)
                  go_wp2
                  go_ret
                  rw [HR.out]
                  exact ⟨rfl, ⟨_, _, _, _, hb3, hrd3, hne, by omega, .inr ⟨by simp, rfl, rfl, rfl⟩⟩, hK3⟩
                · have HR : Hid (rNum l A 0 most = (V, A + (j + 1), 0)) := by rw [Hid, rNum_dec HB.out, if_neg (by omega), if_neg (by omega), if_neg hmo]
                  go_wp2
                  go_ret
                  rw [HR.out]
                  exact ⟨rfl, ⟨_, _, _, _, hb1, hrd1, hne, by omega, .inl ⟨rfl, rfl, rfl⟩⟩, hK1⟩
          · have j9b : ((j : Int) == 9) = false := by simp; omega
            by_cases j0 : 0 < j
            · have jp : (0 : Int) < j := by omega
              by_cases x0 : x = 0
              · have HR : Hid (rNum l A 0 most = (0, A, 12)) := by
                  have h : dec (l.drop A) 0 0 = (0, 0, 12) := by
                    rw [← HD.out]
                    by_cases h128 : 128 ≤ x
                    · rw [dec_on hj hx h128, dec_end (by omega)]
                    · exact dec_bad hj hx (by omega) (by omega)
                  rw [Hid, rNum_dec h, if_neg (by omega), if_pos (by omega)]
                have x0b : ((x : Int) == 0) = true := by simp; omega
                clear j9 x0
                clear hlow
                go_wp2_with fail
                have hb2 : QBox (w1.setCell ⟨b, 1, none⟩ (.int .i64 A)) b bv A false Y Z := Box.set hb1 1 (.int .i64 A)
                refine (qrefuse 12 A b bv A false Y Z _ hb2).mono ?_
                rintro e w2 ⟨rfl, hb3, hk3⟩
                have hk4 := (kept_set w1 b 1 (.int .i64 A)).trans hk3 (U := fun k => k = b) (fun _ _ h => h) (fun _ _ h => h)
                have hrd3 := hrd1.keptE hk4 (fun h => hne h.symm)
                have hK3 := hK1.trans hk4 (U := fun k => k = b) (fun _ _ h => h) (fun _ _ h => h)
                go_wp2
                go_ret
                rw [HR.out]
                exact ⟨rfl, ⟨_, _, _, _, hb3, hrd3, hne, hA, .inr ⟨by simp, rfl, rfl, rfl⟩⟩, hK3⟩
              · have x0b : ((x : Int) == 0) = false := by simp; omega
                have hval := or_val (k := j) (acc := acc) (x := x) (by omega) hacc
                obtain ⟨V, HVe⟩ : ∃ V, Hid (V = acc + x % 128 * 2 ^ (7 * j)) := ⟨_, rfl⟩
                rw [← HVe.out] at hval
                obtain ⟨hV1, hV2⟩ := hval
                by_cases x128 : x < 128
                · have hx128 : (x : Int) < 128 := by omega
                  have HB : Hid (dec (l.drop A) 0 0 = (V, j + 1, 0)) := by
                    rw [Hid, ← HD.out, dec_ok hj hx (by omega) (by omega), HVe.out]
                    simp only [show x % 128 = x by omega]
                  by_cases hmo : most < V
                  · have HR : Hid (rNum l A 0 most = (0, A, 3)) := by rw [Hid, rNum_dec HB.out, if_neg (by omega), if_neg (by omega), if_pos hmo]
                    go_wp2_with fail
                    refine (qrefuse 3 A b bv (A + j + 1) false Y Z _ hb1).mono ?_
                    rintro e w2 ⟨rfl, hb3, hk3⟩
                    have hrd3 := hrd1.keptE hk3 (fun h => hne h.symm)
                    have hK3 := hK1.trans hk3 (U := fun k => k = b) (fun _ _ h => h) (fun _ _ h => h)
                    go_wp2
                    go_ret
                    rw [HR.out]
                    exact ⟨rfl, ⟨_, _, _, _, hb3, hrd3, hne, by omega, .inr ⟨by simp, rfl, rfl, rfl⟩⟩, hK3⟩
                  · have HR : Hid (rNum l A 0 most = (V, A + (j + 1), 0)) := by rw [Hid, rNum_dec HB.out, if_neg (by omega), if_neg (by omega), if_neg hmo]
                    go_wp2
                    go_ret
                    rw [HR.out]
                    exact ⟨rfl, ⟨_, _, _, _, hb1, hrd1, hne, by omega, .inl ⟨rfl, rfl, rfl⟩⟩, hK1⟩
                · have hx128 : (128 : Int) ≤ x := by omega
                  have HDn : Hid (dec (l.drop A) (j + 1) V = dec (l.drop A) 0 0) := by rw [Hid, ← HD.out, dec_on hj hx (by omega), HVe.out]
                  go_wp2
                  go_roundg (10 - (j + 1))
                  case measure => omega
                  case rel => exact ⟨j + 1, V, by omega, by omega, by omega, by go_num, rfl, hV2, HDn, by simpa [Nat.add_assoc] using hb1, hK1⟩
            · have jp : ¬ (0 : Int) < j := by omega
              have hval := or_val (k := j) (acc := acc) (x := x) (by omega) hacc
              obtain ⟨V, HVe⟩ : ∃ V, Hid (V = acc + x % 128 * 2 ^ (7 * j)) := ⟨_, rfl⟩
              rw [← HVe.out] at hval
              obtain ⟨hV1, hV2⟩ := hval
              by_cases x128 : x < 128
              · have hx128 : (x : Int) < 128 := by omega
                have HB : Hid (dec (l.drop A) 0 0 = (V, j + 1, 0)) := by
                  rw [Hid, ← HD.out, dec_ok hj hx (by omega) (by omega), HVe.out]
                  simp only [show x % 128 = x by omega]
                by_cases hmo : most < V
                · have HR : Hid (rNum l A 0 most = (0, A, 3)) := by rw [Hid, rNum_dec HB.out, if_neg (by omega), if_neg (by omega), if_pos hmo]
                  go_wp2_with fail
                  refine (qrefuse 3 A b bv (A + j + 1) false Y Z _ hb1).mono ?_
                  rintro e w2 ⟨rfl, hb3, hk3⟩
                  have hrd3 := hrd1.keptE hk3 (fun h => hne h.symm)
                  have hK3 := hK1.trans hk3 (U := fun k => k = b) (fun _ _ h => h) (fun _ _ h => h)
                  go_wp2
                  go_ret
                  rw [HR.out]
                  exact ⟨rfl, ⟨_, _, _, _, hb3, hrd3, hne, by omega, .inr ⟨by simp, rfl, rfl, rfl⟩⟩, hK3⟩
                · have HR : Hid (rNum l A 0 most = (V, A + (j + 1), 0)) := by rw [Hid, rNum_dec HB.out, if_neg (by omega), if_neg (by omega), if_neg hmo]
                  go_wp2
                  go_ret
                  rw [HR.out]
                  exact ⟨rfl, ⟨_, _, _, _, hb1, hrd1, hne, by omega, .inl ⟨rfl, rfl, rfl⟩⟩, hK1⟩
              · have hx128 : (128 : Int) ≤ x := by omega
                have HDn : Hid (dec (l.drop A) (j + 1) V = dec (l.drop A) 0 0) := by rw [Hid, ← HD.out, dec_on hj hx (by omega), HVe.out]
                go_wp2
                go_roundg (10 - (j + 1))
                case measure => omega
                case rel => exact ⟨j + 1, V, by omega, by omega, by omega, by go_num, rfl, hV2, HDn, by simpa [Nat.add_assoc] using hb1, hK1⟩
  · have HR : Hid (rNum l Z Y most = (0, Z, Y)) := by simp [Hid, rNum, h0]
    have hq0 : QIs w b b0 bv l Z Y := ⟨A, true, Y, Z, hb, hrd, hne, hA, .inr ⟨h0, rfl, rfl, rfl⟩⟩
    go_enter Try.func63, Try.ntmps63
    go_wp2
    go_loopg [6, 7, 8] 0 (fun _ n _ _ wr => n = .int .u64 0 ∧ wr = w)
    case atStart => exact ⟨rfl, rfl⟩
    case round =>
      obtain ⟨rfl, rfl⟩ := hrel
      go_wp2
      go_ret
      rw [HR.out]
      exact ⟨rfl, hq0, Kept.refl _ _⟩
end Go.Proofs.Ytbhcmhbicbhgmaa.Wire
