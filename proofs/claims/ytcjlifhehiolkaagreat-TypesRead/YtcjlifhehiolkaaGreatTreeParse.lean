/-
  The package's Parse: its walk.
-/
import Derived.Deep.LoopGhost
import Derived.Test.YtcjlifhehiolkaaGreatLexSplit
import Derived.Test.YtcjlifhehiolkaaGreatLexSame
import Derived.Test.YtcjlifhehiolkaaGreatTreeTakeClose
namespace Go.Proofs.YtcjlifhehiolkaaGreat
open Go.RowKit

theorem take (F : Nat → Prop) (B : Nat) (w : World) (sv : Value) (rs : List Tr) (vs : List Value) (tok : Tok) (h : StkM F B w sv rs.reverse vs) (hB : B ≤ w.heap.size) (hn : rs ≠ []) (hlen : rs.length ≤ 41) (hr : refu rs tok = 0) (hkl : ∀ t ∈ rs, t.kids.length ≤ 8192) :
    Calls Tryz.prog 31 #[sv, tkv tok] w (TakeE B w (put rs tok)) := by
  by_cases k1 : tok.kind = 1
  · exact take_open F B w sv rs vs tok h hB hn hlen k1
  cases rs with
  | nil => exact absurd rfl hn
  | cons x r =>
    simp only [List.length_cons] at hlen
    by_cases k2 : tok.kind = 2
    · cases r with
      | nil =>
        obtain ⟨_, _, _, h3⟩ := refu_open hr rfl
        exact absurd k2 h3
      | cons x' r =>
        simp only [List.length_cons] at hlen
        rw [List.reverse_cons, List.reverse_cons] at h
        exact take_close F B w sv x x' r vs tok h hB (by omega) (hkl x' (by simp)) k2
    · rw [List.reverse_cons] at h
      exact take_leaf F B w sv x r vs tok h hB (by omega) (hkl x (by simp)) k1 k2

set_option maxRecDepth 1000000 in
theorem opened (a : Option Addr) (n c : Nat) (w : World) (hn : n ≤ 1000) : Calls Tryz.prog 32 #[.slice a n c] w fun e w' => e = .returned (.int .i64 ((n : Int) - 1)) ∧ w' = w := by
  go_enter Tryz.func32, Tryz.ntmps32
  go_wp2
  go_ret
  exact ⟨by go_num, rfl⟩

def refI (k n m : Nat) : Int := if k = 1 ∧ n = 41 then 14 else if k = 2 ∧ n = 1 then 12 else if n = 1 ∧ m ≠ 0 then 11 else 0
set_option maxHeartbeats 1600000 in
set_option maxRecDepth 1000000 in
theorem refusal (gs n c k m kc : Nat) (ka : Option Addr) (w : World) (hn : n ≤ 1000) (hn1 : 1 ≤ n) (hc : w.cell? ⟨gs, 3, none⟩ = some (.slice ka m kc)) : Calls Tryz.prog 30 #[.slice (some ⟨gs, 0, none⟩) n c, .int .i64 (k : Int)] w fun e w' => e = .returned (.int .i64 (refI k n m)) ∧ w' = w := by
  have hop := fun w => opened (some ⟨gs, 0, none⟩) n c w hn
  have hi : (0 : Int) < (n : Int) := by omega
  by_cases c1 : k = 1
  · have t1 : ((k : Int) == 1) = true := by rw [beq_iff_eq]; omega
    have t2 : ((k : Int) == 2) = false := by rw [beq_eq_false_iff_ne]; omega
    by_cases c2 : n = 41
    · have E : Hid (refI k n m = 14) := by simp [Hid, refI, c1, c2]
      have t3 : ((n : Int) - 1 == 40) = true := by rw [beq_iff_eq]; omega
      clear c1 c2
      go_enter Tryz.func30, Tryz.ntmps30
      go_wp2_with fail
      refine (hop _).mono ?_
      rintro e w2 ⟨rfl, rfl⟩
      go_wp2
      go_ret
      exact ⟨by rw [E.out]; rfl, rfl⟩
    · have t3 : ((n : Int) - 1 == 40) = false := by rw [beq_eq_false_iff_ne]; omega
      by_cases c3 : n = 1
      · have t4 : ((n : Int) - 1 == 0) = true := by rw [beq_iff_eq]; omega
        by_cases c4 : m = 0
        · have E : Hid (refI k n m = 0) := by simp [Hid, refI, c1, c3, c4]
          have t5 : ¬ 0 < m := by omega
          clear c1 c2 c3 c4
          go_enter Tryz.func30, Tryz.ntmps30
          go_wp2_with fail
          refine (hop _).mono ?_
          rintro e w2 ⟨rfl, rfl⟩
          go_wp2_with fail
          refine (hop _).mono ?_
          rintro e w3 ⟨rfl, rfl⟩
          go_wp2
          go_ret
          exact ⟨by rw [E.out]; rfl, rfl⟩
        · have E : Hid (refI k n m = 11) := by simp [Hid, refI, c1, c3, c4]
          have t5 : 0 < m := by omega
          clear c1 c2 c3 c4
          go_enter Tryz.func30, Tryz.ntmps30
          go_wp2_with fail
          refine (hop _).mono ?_
          rintro e w2 ⟨rfl, rfl⟩
          go_wp2_with fail
          refine (hop _).mono ?_
          rintro e w3 ⟨rfl, rfl⟩
          go_wp2
          go_ret
          exact ⟨by rw [E.out]; rfl, rfl⟩
      · have t4 : ((n : Int) - 1 == 0) = false := by rw [beq_eq_false_iff_ne]; omega
        have E : Hid (refI k n m = 0) := by simp [Hid, refI, c1, c2, c3]
        clear c1 c2 c3
        go_enter Tryz.func30, Tryz.ntmps30
        go_wp2_with fail
        refine (hop _).mono ?_
        rintro e w2 ⟨rfl, rfl⟩
        go_wp2_with fail
        refine (hop _).mono ?_
        rintro e w3 ⟨rfl, rfl⟩
        go_wp2
        go_ret
        exact ⟨by rw [E.out]; rfl, rfl⟩
  · have t1 : ((k : Int) == 1) = false := by rw [beq_eq_false_iff_ne]; omega
    by_cases c2 : k = 2
    · have t2 : ((k : Int) == 2) = true := by rw [beq_iff_eq]; omega
      by_cases c3 : n = 1
      · have t4 : ((n : Int) - 1 == 0) = true := by rw [beq_iff_eq]; omega
        have E : Hid (refI k n m = 12) := by simp [Hid, refI, c2, c3]
        clear c1 c2 c3
        go_enter Tryz.func30, Tryz.ntmps30
        go_wp2_with fail
        refine (hop _).mono ?_
        rintro e w2 ⟨rfl, rfl⟩
        go_wp2
        go_ret
        exact ⟨by rw [E.out]; rfl, rfl⟩
      · have t4 : ((n : Int) - 1 == 0) = false := by rw [beq_eq_false_iff_ne]; omega
        have E : Hid (refI k n m = 0) := by simp [Hid, refI, c2, c3]
        clear c1 c2 c3
        go_enter Tryz.func30, Tryz.ntmps30
        go_wp2_with fail
        refine (hop _).mono ?_
        rintro e w2 ⟨rfl, rfl⟩
        go_wp2_with fail
        refine (hop _).mono ?_
        rintro e w3 ⟨rfl, rfl⟩
        go_wp2
        go_ret
        exact ⟨by rw [E.out]; rfl, rfl⟩
    · have t2 : ((k : Int) == 2) = false := by rw [beq_eq_false_iff_ne]; omega
      by_cases c3 : n = 1
      · have t4 : ((n : Int) - 1 == 0) = true := by rw [beq_iff_eq]; omega
        by_cases c4 : m = 0
        · have E : Hid (refI k n m = 0) := by simp [Hid, refI, c1, c2, c4]
          have t5 : ¬ 0 < m := by omega
          clear c1 c2 c3 c4
          go_enter Tryz.func30, Tryz.ntmps30
          go_wp2_with fail
          refine (hop _).mono ?_
          rintro e w3 ⟨rfl, rfl⟩
          go_wp2
          go_ret
          exact ⟨by rw [E.out]; rfl, rfl⟩
        · have E : Hid (refI k n m = 11) := by simp [Hid, refI, c1, c2, c3, c4]
          have t5 : 0 < m := by omega
          clear c1 c2 c3 c4
          go_enter Tryz.func30, Tryz.ntmps30
          go_wp2_with fail
          refine (hop _).mono ?_
          rintro e w3 ⟨rfl, rfl⟩
          go_wp2
          go_ret
          exact ⟨by rw [E.out]; rfl, rfl⟩
      · have t4 : ((n : Int) - 1 == 0) = false := by rw [beq_eq_false_iff_ne]; omega
        have E : Hid (refI k n m = 0) := by simp [Hid, refI, c1, c2, c3]
        clear c1 c2 c3
        go_enter Tryz.func30, Tryz.ntmps30
        go_wp2_with fail
        refine (hop _).mono ?_
        rintro e w3 ⟨rfl, rfl⟩
        go_wp2
        go_ret
        exact ⟨by rw [E.out]; rfl, rfl⟩
theorem refI_eq {rs : List Tr} {b : Tr} (hb : rs.getLast? = some b) (t : Tok) : refI t.kind rs.length b.kids.length = (refu rs t : Int) := by
  unfold refI refu
  rw [hb]
  simp only [Option.map_some, Option.getD_some]
  repeat' split
  all_goals first | rfl | (exfalso; simp_all)
end Go.Proofs.YtcjlifhehiolkaaGreat
