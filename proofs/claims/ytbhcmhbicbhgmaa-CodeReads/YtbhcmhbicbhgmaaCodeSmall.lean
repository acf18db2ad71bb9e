/-
  The small functions of code: what stands behind an operation's byte, how many ways, a byte, a pair, a number that is read.
-/
import Derived.Test.YtbhcmhbicbhgmaaShelf
import Derived.Test.YtbhcmhbicbhgmaaFloatBig
import Derived.Test.YtbhcmhbicbhgmaaCodeSpec
namespace Go.Proofs.Ytbhcmhbicbhgmaa.Wire
open Go.RowKit

set_option maxHeartbeats 1000000 in
set_option maxRecDepth 1000000 in
theorem clayout (op : Int) (w : World) : Calls Try.prog 16 #[.int .i64 op] w fun e w' => e = .returned (.tuple #[.string (toStr (layS op)), .bool (isOp op)]) ∧ w' = w := by
  rcases op_cases op with rfl | rfl | rfl | rfl | rfl | rfl | rfl | rfl | rfl | rfl | rfl | rfl | rfl | rfl | rfl | h
  all_goals try (go_enter Try.func16, Try.ntmps16; go_wp2; go_ret2; exact ⟨rfl, rfl⟩)
  have HL := hidden (lay_none h)
  have HI := hidden h
  have h0 : ¬ (1 ≤ op ∧ op ≤ 15) := of_decide_eq_false h
  have h1 : op ≠ 1 := by omega
  have h2 : op ≠ 2 := by omega
  have h3 : op ≠ 3 := by omega
  have h4 : op ≠ 4 := by omega
  have h5 : op ≠ 5 := by omega
  have h6 : op ≠ 6 := by omega
  have h7 : op ≠ 7 := by omega
  have h8 : op ≠ 8 := by omega
  have h9 : op ≠ 9 := by omega
  have h10 : op ≠ 10 := by omega
  have h11 : op ≠ 11 := by omega
  have h12 : op ≠ 12 := by omega
  have h13 : op ≠ 13 := by omega
  have h14 : op ≠ 14 := by omega
  have h15 : op ≠ 15 := by omega
  clear h h0
  go_enter Try.func16, Try.ntmps16
  go_wp2
  go_ret2
  rw [HL.out, HI.out]
  exact ⟨rfl, rfl⟩

set_option maxHeartbeats 1000000 in
set_option maxRecDepth 1000000 in
theorem cways (op a : Int) (v0 v3 v4 v5 v6 : Value) (w : World) : Calls Try.prog 38 #[.agg #[v0, .int .i64 op, .int .i64 a, v3, v4, v5, v6]] w fun e w' => e = .returned (.int .i64 (waysR op a)) ∧ Kept (fun _ => False) w w' := by
  have hk : Kept (fun _ => False) w (w.alloc (.cells #[v0, .int .i64 op, .int .i64 a, v3, v4, v5, v6] 34)) := (Kept.refl _ w).alloc _
  by_cases h5 : op = 5
  · subst h5
    go_enter Try.func38, Try.ntmps38
    go_wp2
    go_ret
    exact ⟨rfl, hk⟩
  · by_cases h6 : op = 6
    · subst h6
      go_enter Try.func38, Try.ntmps38
      go_wp2
      go_ret
      exact ⟨rfl, hk⟩
    · by_cases h10 : op = 10
      · subst h10
        go_enter Try.func38, Try.ntmps38
        go_wp2
        go_ret
        exact ⟨rfl, hk⟩
      · have HW : Hid (waysR op a = 0) := by
          unfold waysR Hid
          rw [if_neg (by omega), if_neg h10]
        go_enter Try.func38, Try.ntmps38
        go_wp2
        go_ret
        rw [HW.out]
        exact ⟨rfl, hk⟩

set_option maxHeartbeats 1000000 in
set_option maxRecDepth 1000000 in
theorem ccount (op a : Int) (v0 v3 v4 v5 v6 : Value) (w : World) : Calls Try.prog 35 #[.agg #[v0, .int .i64 op, .int .i64 a, v3, v4, v5, v6]] w fun e w' => e = .returned (.bool (rcR op a)) ∧ Kept (fun _ => False) w w' := by
  have hk : Kept (fun _ => False) w (w.alloc (.cells #[v0, .int .i64 op, .int .i64 a, v3, v4, v5, v6] 34)) := (Kept.refl _ w).alloc _
  by_cases h10 : op = 10
  · subst h10
    by_cases h1 : 1 ≤ a
    · by_cases h2 : a ≤ 6
      · have HR : Hid (rcR 10 a = true) := by simp [Hid, rcR, h1, h2]
        go_enter Try.func35, Try.ntmps35
        go_wp2
        go_ret
        rw [HR.out]
        exact ⟨rfl, hk⟩
      · have HR : Hid (rcR 10 a = false) := by simp [Hid, rcR, h2]
        go_enter Try.func35, Try.ntmps35
        go_wp2
        go_ret
        rw [HR.out]
        exact ⟨rfl, hk⟩
    · have HR : Hid (rcR 10 a = false) := by simp [Hid, rcR, h1]
      go_enter Try.func35, Try.ntmps35
      go_wp2
      go_ret
      rw [HR.out]
      exact ⟨rfl, hk⟩
  · have HR : Hid (rcR op a = true) := by simp [Hid, rcR, h10]
    go_enter Try.func35, Try.ntmps35
    go_wp2
    go_ret
    rw [HR.out]
    exact ⟨rfl, hk⟩

/-- What a reader's call leaves: the answer, where the reader stands, and nothing else turned. -/
def RQ (l : List Nat) (b g : Nat) (v : Value) (p y : Nat) (w : World) (e : Ending) (w' : World) : Prop := e = .returned v ∧ RIs w' b g l p y ∧ Kept (fun k => k = b) w w'

theorem cfail (ok : Bool) (b g : Nat) (l : List Nat) (p why : Nat) (w : World) (hr : RIs w b g l p why) : Calls Try.prog 32 #[.pointer (some ⟨b, 0, none⟩), .bool ok] w (RQ l b g (.tuple #[]) p (fU why ok) w) := by
  cases ok
  · go_enter Try.func32, Try.ntmps32
    go_wp2_with fail
    refine (rfail 12 b g l p why _ hr).mono ?_
    rintro e w1 ⟨rfl, h1, h2⟩
    go_wp2
    go_end0
    exact ⟨rfl, h1, h2⟩
  · go_enter Try.func32, Try.ntmps32
    go_wp2
    go_end0
    exact ⟨rfl, hr, Kept.refl _ _⟩

theorem take_one (l : List Nat) (p y : Nat) (h256 : ∀ x ∈ l, x < 256) : (rTake l p y 1).1 = [] ∨ ∃ x, (rTake l p y 1).1 = [x] ∧ x < 256 := by
  unfold rTake
  split
  · exact .inl rfl
  · split
    · exact .inl rfl
    · rename_i h1 h2
      have hp : p < l.length := by omega
      refine .inr ⟨l[p], ?_, h256 _ (List.getElem_mem hp)⟩
      simp only [show (1 : Int).toNat = 1 from rfl, List.drop_eq_getElem_cons hp, List.take_succ_cons, List.take_zero]
theorem take_two (l : List Nat) (p y : Nat) (h256 : ∀ x ∈ l, x < 256) : (rTake l p y 2).1 = [] ∨ ∃ x z, (rTake l p y 2).1 = [x, z] ∧ x < 256 ∧ z < 256 := by
  unfold rTake
  split
  · exact .inl rfl
  · split
    · exact .inl rfl
    · rename_i h1 h2
      have hp : p < l.length := by omega
      have hq : p + 1 < l.length := by omega
      refine .inr ⟨l[p], l[p + 1], ?_, h256 _ (List.getElem_mem hp), h256 _ (List.getElem_mem hq)⟩
      simp only [show (2 : Int).toNat = 2 from rfl, List.drop_eq_getElem_cons hp, List.drop_eq_getElem_cons hq, List.take_succ_cons, List.take_zero]

set_option maxHeartbeats 1000000 in
set_option maxRecDepth 1000000 in
theorem cbyte (b g : Nat) (l : List Nat) (p why : Nat) (w : World) (hl : l.length ≤ 140737488355328) (h256 : ∀ x ∈ l, x < 256) (hp : p ≤ l.length) (hr : RIs w b g l p why) :
    Calls Try.prog 31 #[.pointer (some ⟨b, 0, none⟩)] w (RQ l b g (.int .i64 ((rB l p why).1 : Nat)) (rB l p why).2.1 (rB l p why).2.2 w) := by
  have hcall := rraw 1 b g l p why w (by decide) hl hp hr
  unfold rB
  rcases take_one l p why h256 with h | ⟨x, h, hx⟩
  · rw [h] at hcall ⊢
    generalize rTake l p why 1 = T at *
    go_enter Try.func31, Try.ntmps31
    go_wp2_with fail
    refine hcall.mono ?_
    rintro e w1 ⟨v', g', rfl, h1, h2, h3, h4⟩
    obtain ⟨a', c', rfl⟩ := h1.rd.shape
    go_wp2
    go_ret
    exact ⟨rfl, h3, h4⟩
  · rw [h] at hcall ⊢
    generalize rTake l p why 1 = T at *
    go_enter Try.func31, Try.ntmps31
    go_wp2_with fail
    refine hcall.mono ?_
    rintro e w1 ⟨v', g', rfl, h1, h2, h3, h4⟩
    rcases h1.shape with ⟨_, h0⟩ | ⟨cap, rfl, hc, _⟩
    · cases h0
    · have hc0 : w1.cell? ⟨g', 0, none⟩ = some (.int .u8 (x : Int)) := h1.cell 0 (by simp)
      simp only [List.length_cons, List.length_nil, Nat.zero_add] at h1 hc ⊢
      go_wp2
      go_ret
      exact ⟨rfl, h3, h4⟩

theorem pair_or (x z : Nat) (hx : x < 256) (hz : z < 256) : bits .or .i64 ((x : Int) * 256) (z : Int) = ((x * 256 + z : Nat) : Int) := by
  have e : (x : Int) * 256 = ((x * 256 : Nat) : Int) := by omega
  rw [e]
  show IntKind.i64.wrap ((BitVec.ofInt 64 ((x * 256 : Nat) : Int) ||| BitVec.ofInt 64 (z : Int)).toNat : Int) = _
  rw [BitVec.toNat_or, ofInt_u64 _ (by omega), ofInt_u64 _ (by omega), nat_join 8 (x * 256) z (by omega) (by omega)]
  rw [IntKind.wrap_i64]
  omega
set_option maxHeartbeats 1000000 in
set_option maxRecDepth 1000000 in
theorem cpair (b g : Nat) (l : List Nat) (p why : Nat) (w : World) (hl : l.length ≤ 140737488355328) (h256 : ∀ x ∈ l, x < 256) (hp : p ≤ l.length) (hr : RIs w b g l p why) :
    Calls Try.prog 36 #[.pointer (some ⟨b, 0, none⟩)] w (RQ l b g (.int .i64 ((rP l p why).1 : Nat)) (rP l p why).2.1 (rP l p why).2.2 w) := by
  have hcall := rraw 2 b g l p why w (by decide) hl hp hr
  unfold rP
  rcases take_two l p why h256 with h | ⟨x, z, h, hx, hz⟩
  · rw [h] at hcall ⊢
    generalize rTake l p why 2 = T at *
    go_enter Try.func36, Try.ntmps36
    go_wp2_with fail
    refine hcall.mono ?_
    rintro e w1 ⟨v', g', rfl, h1, h2, h3, h4⟩
    obtain ⟨a', c', rfl⟩ := h1.rd.shape
    go_wp2
    go_ret
    exact ⟨rfl, h3, h4⟩
  · rw [h] at hcall ⊢
    have HP := hidden (pair_or x z hx hz)
    generalize rTake l p why 2 = T at *
    go_enter Try.func36, Try.ntmps36
    go_wp2_with fail
    refine hcall.mono ?_
    rintro e w1 ⟨v', g', rfl, h1, h2, h3, h4⟩
    rcases h1.shape with ⟨_, h0⟩ | ⟨cap, rfl, hc, _⟩
    · cases h0
    · have hc0 : w1.cell? ⟨g', 0, none⟩ = some (.int .u8 (x : Int)) := h1.cell 0 (by simp)
      have hc1 : w1.cell? ⟨g', 1, none⟩ = some (.int .u8 (z : Int)) := h1.cell 1 (by simp)
      simp only [List.length_cons, List.length_nil, Nat.zero_add] at h1 hc ⊢
      go_wp2
      go_quiet (fail)
      go_wp2
      go_ret
      refine ⟨?_, h3.kept (kept_drewN w1 _) (fun h => h) (fun h => h), h4.trans (kept_drewN w1 _) (fun _ _ h => h) (fun _ _ h => h.elim)⟩
      rw [HP.out]
      rfl

set_option maxHeartbeats 1000000 in
set_option maxRecDepth 1000000 in
theorem cnumber (b g : Nat) (l : List Nat) (p why : Nat) (w : World) (hl : l.length ≤ 140737488355328) (h256 : ∀ x ∈ l, x < 256) (hp : p ≤ l.length) (hr : RIs w b g l p why) :
    Calls Try.prog 33 #[.pointer (some ⟨b, 0, none⟩)] w (RQ l b g (.complex .f64 (floatOfInt .f64 (rN l p why).1.1) (floatOfInt .f64 (rN l p why).1.2)) (rN l p why).2.1 (rN l p why).2.2 w) := by
  have h1 := rsigned b g l p why w hl h256 hp hr
  have hp1 := rNum_le l p why 18446744073709551615 hp
  unfold rN
  generalize rNum l p why 18446744073709551615 = R at *
  obtain ⟨n1, p1, y1⟩ := R
  simp only at h1 hp1 ⊢
  have h2 : ∀ u, RIs u b g l p1 y1 → _ := fun u hu => rsigned b g l p1 y1 u hl h256 hp1 hu
  generalize rNum l p1 y1 18446744073709551615 = R at *
  obtain ⟨n2, p2, y2⟩ := R
  simp only at h2 ⊢
  generalize zag n1 = a1 at *
  generalize zag n2 = a2 at *
  go_enter Try.func33, Try.ntmps33
  go_wp2_with fail
  refine h1.mono ?_
  rintro e w1 ⟨rfl, k1, k2⟩
  go_wp2_with fail
  refine (h2 _ k1).mono ?_
  rintro e w2 ⟨rfl, k3, k4⟩
  go_wp2_with fail
  refine (Num.right_int a1 a2 _).mono ?_
  rintro e w3 ⟨rfl, rfl⟩
  go_wp2_with fail
  refine (cfail _ b g l p2 y2 _ k3).mono ?_
  rintro e w4 ⟨rfl, k5, k6⟩
  go_wp2
  go_ret
  exact ⟨rfl, k5, (k2.trans k4 (fun _ _ h => h) (fun _ _ h => h)).trans k6 (fun _ _ h => h) (fun _ _ h => h)⟩

set_option maxHeartbeats 1000000 in
theorem crefusal (b g : Nat) (l : List Nat) (p why : Nat) (w : World) (hl : l.length ≤ 140737488355328) (hy : Yw why) (hr : RIs w b g l p why) :
    Calls Try.prog 21 #[.pointer (some ⟨b, 0, none⟩)] w fun e w' => e = .returned (.int .i64 (cw why : Nat)) ∧ Kept (fun _ => False) w w' := by
  have h1 := rend b g l p why w hl hr
  rcases hy with rfl | rfl | rfl | rfl
  · by_cases hlt : p < l.length
    · rw [show rEnd l p 0 = (11, p) by simp [rEnd, hlt]] at h1
      go_enter Try.func21, Try.ntmps21
      go_wp2_with fail
      refine h1.mono ?_
      rintro e w1 ⟨rfl, k1⟩
      go_wp2
      go_ret
      exact ⟨rfl, k1⟩
    · rw [show rEnd l p 0 = (0, 0) by simp [rEnd, hlt]] at h1
      go_enter Try.func21, Try.ntmps21
      go_wp2_with fail
      refine h1.mono ?_
      rintro e w1 ⟨rfl, k1⟩
      go_wp2
      go_ret
      exact ⟨rfl, k1⟩
  all_goals
    go_enter Try.func21, Try.ntmps21
    go_wp2_with fail
    refine h1.mono ?_
    rintro e w1 ⟨rfl, k1⟩
    go_wp2
    go_ret
    exact ⟨rfl, k1⟩
end Go.Proofs.Ytbhcmhbicbhgmaa.Wire
