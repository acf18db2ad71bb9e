/-
  The document's own reading of code: a byte, a pair, what an operation asks.
-/
import Derived.Test.YtbhcmhbicbhgmaaCodeMore
import Derived.Test.YtbhcmhbicbhgmaaCodeEncS
namespace Go.Proofs.Ytbhcmhbicbhgmaa.Wire
open Go.RowKit

theorem QIs.refused {w : World} {b b0 : Nat} {bv : Value} {l : List Nat} {p y : Nat} (h : QIs w b b0 bv l p y) : w.cell? ⟨b, 2, none⟩ = some (.bool (decide (y ≠ 0))) := by
  obtain ⟨A, r, Y, Z, h1, h2, h3, h4, h5⟩ := h
  rw [(qcells h1).2.2.1]
  rcases h5 with ⟨rfl, rfl, _⟩ | ⟨h0, rfl, _⟩
  · rfl
  · rw [decide_eq_true h0]
theorem QIs.place {w : World} {b b0 : Nat} {bv : Value} {l : List Nat} {p : Nat} (h : QIs w b b0 bv l p 0) : w.cell? ⟨b, 1, none⟩ = some (.int .i64 p) := by
  obtain ⟨A, r, Y, Z, h1, h2, h3, h4, h5⟩ := h
  rw [(qcells h1).2.1]
  rcases h5 with ⟨_, _, rfl⟩ | ⟨h0, _⟩
  · rfl
  · exact absurd rfl h0
theorem take_why1 (l : List Nat) (p y : Nat) : (rTake l p y 1).1 = [] ∧ (rTake l p y 1).2.2 ≠ 0 ∨ (∃ x, (rTake l p y 1).1 = [x]) ∧ (rTake l p y 1).2.2 = 0 := by
  unfold rTake
  split
  · rename_i h
    exact .inl ⟨rfl, by show y ≠ 0; omega⟩
  · split
    · exact .inl ⟨rfl, by show (10 : Nat) ≠ 0; decide⟩
    · rename_i h1 h2
      have hp : p < l.length := by omega
      refine .inr ⟨⟨l[p], ?_⟩, rfl⟩
      simp only [show (1 : Int).toNat = 1 from rfl, List.drop_eq_getElem_cons hp, List.take_succ_cons, List.take_zero]
theorem take_why2 (l : List Nat) (p y : Nat) : (rTake l p y 2).1 = [] ∧ (rTake l p y 2).2.2 ≠ 0 ∨ (∃ x z, (rTake l p y 2).1 = [x, z]) ∧ (rTake l p y 2).2.2 = 0 := by
  unfold rTake
  split
  · rename_i h
    exact .inl ⟨rfl, by show y ≠ 0; omega⟩
  · split
    · exact .inl ⟨rfl, by show (10 : Nat) ≠ 0; decide⟩
    · rename_i h1 h2
      have hp : p < l.length := by omega
      have hq : p + 1 < l.length := by omega
      refine .inr ⟨⟨l[p], l[p + 1], ?_⟩, rfl⟩
      simp only [show (2 : Int).toNat = 2 from rfl, List.drop_eq_getElem_cons hp, List.drop_eq_getElem_cons hq, List.take_succ_cons, List.take_zero]
/-- What a call of the document's reader leaves. -/
def QQ (l : List Nat) (b b0 : Nat) (bv v : Value) (p y : Nat) (w : World) (e : Ending) (w' : World) : Prop := e = .returned v ∧ QIs w' b b0 bv l p y ∧ Kept (fun k => k = b) w w'
/-- What every call of it wants. -/
structure QOk (l : List Nat) (bv : Value) : Prop where
  hl : l.length ≤ 140737488351232
  h256 : ∀ x ∈ l, x < 256
  hcap : ∃ a m c, bv = .slice a m c ∧ m ≤ c ∧ c ≤ maxLen

set_option maxHeartbeats 1000000 in
set_option maxRecDepth 1000000 in
theorem rone (b b0 : Nat) (bv : Value) (l : List Nat) (p y : Nat) (w : World) (hO : QOk l bv) (hp : p ≤ l.length) (hq : QIs w b b0 bv l p y) : Calls Try.prog 52 #[.pointer (some ⟨b, 0, none⟩)] w (QQ l b b0 bv (.int .i64 ((rB l p y).1 : Nat)) (rB l p y).2.1 (rB l p y).2.2 w) := by
  have hcall := qraw 1 b b0 bv l p y w (by decide) hO.hl hp hq hO.hcap
  have h256 := take_one l p y hO.h256
  unfold rB
  rcases take_why1 l p y with ⟨h1, h2⟩ | ⟨⟨x, h1⟩, h2⟩
  · rw [h1]
    generalize rTake l p y 1 = T at *
    obtain ⟨t1, t2, t3⟩ := T
    simp only at h1 h2 ⊢
    subst h1
    go_enter Try.func52, Try.ntmps52
    go_wp2_with fail
    refine hcall.mono ?_
    rintro e w1 ⟨v', g', rfl, r1, r2, r3, r4⟩
    obtain ⟨a', c', rfl⟩ := r1.rd.shape
    have hr := r3.refused
    rw [decide_eq_true h2] at hr
    go_wp2
    go_ret
    exact ⟨rfl, r3, r4⟩
  · have hx : x < 256 := by
      rcases h256 with h | ⟨z, h, hz⟩
      · rw [h] at h1; cases h1
      · rw [h] at h1; cases h1; exact hz
    clear h256
    rw [h1]
    generalize rTake l p y 1 = T at *
    obtain ⟨t1, t2, t3⟩ := T
    simp only at h1 h2 ⊢
    subst h1
    subst h2
    go_enter Try.func52, Try.ntmps52
    go_wp2_with fail
    refine hcall.mono ?_
    rintro e w1 ⟨v', g', rfl, r1, r2, r3, r4⟩
    have hr := r3.refused
    rw [show (decide ((0 : Nat) ≠ 0)) = false from rfl] at hr
    rcases r1.shape with ⟨_, h0⟩ | ⟨cap, rfl, hc, _⟩
    · cases h0
    · have hc0 : w1.cell? ⟨g', 0, none⟩ = some (.int .u8 (x : Int)) := r1.cell 0 (by simp)
      simp only [List.length_cons, List.length_nil, Nat.zero_add] at r1 hc ⊢
      go_wp2
      go_ret
      exact ⟨rfl, r3, r4⟩
set_option maxHeartbeats 1000000 in
set_option maxRecDepth 1000000 in
theorem rtwo (b b0 : Nat) (bv : Value) (l : List Nat) (p y : Nat) (w : World) (hO : QOk l bv) (hp : p ≤ l.length) (hq : QIs w b b0 bv l p y) : Calls Try.prog 53 #[.pointer (some ⟨b, 0, none⟩)] w (QQ l b b0 bv (.int .i64 ((rP l p y).1 : Nat)) (rP l p y).2.1 (rP l p y).2.2 w) := by
  have hcall := qraw 2 b b0 bv l p y w (by decide) hO.hl hp hq hO.hcap
  have h256 := take_two l p y hO.h256
  unfold rP
  rcases take_why2 l p y with ⟨h1, h2⟩ | ⟨⟨x, z, h1⟩, h2⟩
  · rw [h1]
    generalize rTake l p y 2 = T at *
    obtain ⟨t1, t2, t3⟩ := T
    simp only at h1 h2 ⊢
    subst h1
    go_enter Try.func53, Try.ntmps53
    go_wp2_with fail
    refine hcall.mono ?_
    rintro e w1 ⟨v', g', rfl, r1, r2, r3, r4⟩
    obtain ⟨a', c', rfl⟩ := r1.rd.shape
    have hr := r3.refused
    rw [decide_eq_true h2] at hr
    go_wp2
    go_ret
    exact ⟨rfl, r3, r4⟩
  · have hx : x < 256 ∧ z < 256 := by
      rcases h256 with h | ⟨x', z', h, hx, hz⟩
      · rw [h] at h1; cases h1
      · rw [h] at h1; cases h1; exact ⟨hx, hz⟩
    obtain ⟨hx, hz⟩ := hx
    have HP := hidden (pair_or x z hx hz)
    clear h256
    rw [h1]
    generalize rTake l p y 2 = T at *
    obtain ⟨t1, t2, t3⟩ := T
    simp only at h1 h2 ⊢
    subst h1
    subst h2
    go_enter Try.func53, Try.ntmps53
    go_wp2_with fail
    refine hcall.mono ?_
    rintro e w1 ⟨v', g', rfl, r1, r2, r3, r4⟩
    have hr := r3.refused
    rw [show (decide ((0 : Nat) ≠ 0)) = false from rfl] at hr
    rcases r1.shape with ⟨_, h0⟩ | ⟨cap, rfl, hc, _⟩
    · cases h0
    · have hc0 : w1.cell? ⟨g', 0, none⟩ = some (.int .u8 (x : Int)) := r1.cell 0 (by simp)
      have hc1 : w1.cell? ⟨g', 1, none⟩ = some (.int .u8 (z : Int)) := r1.cell 1 (by simp)
      simp only [List.length_cons, List.length_nil, Nat.zero_add] at r1 hc ⊢
      go_wp2
      go_quiet (fail)
      go_wp2
      go_ret
      refine ⟨?_, r3.kept (kept_drewN w1 _) (fun h => h) (fun h => h.elim), r4.trans (kept_drewN w1 _) (fun _ _ h => h) (fun _ _ h => h.elim)⟩
      rw [HP.out]
      rfl
set_option maxHeartbeats 1000000 in
set_option maxRecDepth 1000000 in
theorem rasks (op : Int) (w : World) : Calls Try.prog 48 #[.int .i64 op] w fun e w' => e = .returned (.tuple #[.bool (asksA op), .bool (decide (op = 8))]) ∧ w' = w := by
  by_cases h : op = 3 ∨ op = 4 ∨ op = 7 ∨ op = 8 ∨ op = 9 ∨ op = 10 ∨ op = 13 ∨ op = 14
  · rcases h with rfl | rfl | rfl | rfl | rfl | rfl | rfl | rfl
    all_goals (go_enter Try.func48, Try.ntmps48; go_wp2; go_ret2; exact ⟨rfl, rfl⟩)
  · have HA : Hid (asksA op = false) := decide_eq_false h
    have H8 : Hid (decide (op = 8) = false) := decide_eq_false (by omega)
    have h3 : op ≠ 3 := by omega
    have h4 : op ≠ 4 := by omega
    have h7 : op ≠ 7 := by omega
    have h8 : op ≠ 8 := by omega
    have h9 : op ≠ 9 := by omega
    have h10 : op ≠ 10 := by omega
    have h13 : op ≠ 13 := by omega
    have h14 : op ≠ 14 := by omega
    clear h
    generalize asksA op = x at *
    generalize decide (op = 8) = y at *
    go_enter Try.func48, Try.ntmps48
    go_wp2
    go_ret2
    rw [HA.out, H8.out]
    exact ⟨rfl, rfl⟩
end Go.Proofs.Ytbhcmhbicbhgmaa.Wire
