/-
  The package's hasHead, headOf, kindOf, kindOfOpen, crowded: which form a tree in memory has.
-/
import Derived.Deep.QuietTactic
import Derived.BigQuiet
import Derived.Test.YtchfhkfepghfjaaPfAm
import Derived.Test.YtchfhkfepghfjaaPfAo
namespace Go.Proofs.Ytchfhkfepghfjaa
open Go.RowKit

def NumD (n : Nat) (w : World) (e : Ending) (w' : World) : Prop := ∃ k, e = .returned (.int .i64 (n : Int)) ∧ w' = w.drewN k
set_option maxHeartbeats 1000000 in
set_option maxRecDepth 1000000 in
theorem hasHead (F : Nat → Prop) (t : Tr) (g o : Nat) (w : World) (h : PT F w g o t) : Calls Try.prog 51 #[.pointer (some ⟨g, o, none⟩)] w (Pu (.bool (hasHeadX t)) w) := by
  obtain ⟨hFg, kv, hT, q0, q1, q2, q3⟩ := h
  by_cases h1 : t.kind = 1
  · have h1' : ((t.kind : Int) == 1) = true := by rw [beq_iff_eq]; omega
    by_cases h2 : 0 < t.kids.length
    · obtain ⟨g0, cap0, hk0, hF0, kv0, _, c0, c1, c2, c3⟩ := hT.kid 0 h2
      simp only [Nat.zero_mul] at c0
      rw [hk0] at q3
      have h2' : (0 : Int) < (t.kids.length : Int) := by omega
      have HR : Hid (hasHeadX t = ((((kid t 0).kind : Nat) : Int) == 3)) := by
        rw [hid_iff, hasHeadX, decide_eq_true h1, decide_eq_true h2, Bool.true_and, Bool.true_and, Bool.eq_iff_iff, decide_eq_true_iff, beq_iff_eq]
        omega
      generalize (kid t 0).kind = k at *
      clear hT h1 h2 c1 c2 c3 hk0
      generalize t.kids.length = n at *
      go_enter Try.func51, Try.ntmps51
      go_wp2
      go_ret
      exact ⟨by rw [HR.out]; rfl, rfl⟩
    · have HR : Hid (hasHeadX t = false) := by rw [hid_iff, hasHeadX, decide_eq_false h2]; simp
      obtain ⟨ka, kc, hks⟩ := hT.shape
      rw [hks] at q3
      have h2' : ¬ (0 : Int) < (t.kids.length : Int) := by omega
      clear hT h1 h2 hks
      generalize t.kids.length = n at *
      go_enter Try.func51, Try.ntmps51
      go_wp2
      go_ret
      exact ⟨by rw [HR.out]; rfl, rfl⟩
  · have h1' : ((t.kind : Int) == 1) = false := by rw [beq_eq_false_iff_ne]; omega
    have HR : Hid (hasHeadX t = false) := by rw [hid_iff, hasHeadX, decide_eq_false h1]; simp
    clear h1 hT
    go_enter Try.func51, Try.ntmps51
    go_wp2
    go_ret
    exact ⟨by rw [HR.out]; rfl, rfl⟩
set_option maxHeartbeats 1000000 in
set_option maxRecDepth 1000000 in
theorem headOf (F : Nat → Prop) (t : Tr) (g o : Nat) (w : World) (h : PT F w g o t) : Calls Try.prog 37 #[.pointer (some ⟨g, o, none⟩)] w (Pu (.string (str (headX t))) w) := by
  have hh := hasHead F t g o w h
  obtain ⟨hFg, kv, hT, q0, q1, q2, q3⟩ := h
  cases h : hasHeadX t
  · have HR : Hid (headX t = []) := by rw [hid_iff, headX, h]; rfl
    rw [h] at hh
    clear h hT
    go_enter Try.func37, Try.ntmps37
    go_wp2_with (go_at_call 51; refine hh.mono ?_; rintro e w1 ⟨rfl, rfl⟩)
    go_ret
    exact ⟨by rw [HR.out]; rfl, rfl⟩
  · have HR : Hid (headX t = (kid t 0).text) := by rw [hid_iff, headX, h]; rfl
    rw [h] at hh
    simp only [hasHeadX, Bool.and_eq_true, decide_eq_true_eq] at h
    obtain ⟨g0, cap0, hk0, hF0, kv0, _, c0, c1, c2, c3⟩ := hT.kid 0 h.1.2
    simp only [Nat.zero_mul, Nat.zero_add] at c2
    rw [hk0] at q3
    have h2' : (0 : Int) < (t.kids.length : Int) := by omega
    clear hT h c0 c1 c3 hk0
    generalize t.kids.length = n at *
    generalize (kid t 0).text = x at *
    go_enter Try.func37, Try.ntmps37
    go_wp2_with (go_at_call 51; refine hh.mono ?_; rintro e w1 ⟨rfl, rfl⟩)
    go_ret
    exact ⟨by rw [HR.out]; rfl, rfl⟩
theorem kindH_op {h : List UInt8} {n k : Nat} (h1 : h ≠ letK) (h2 : h ≠ ifK) (h3 : h ≠ arrayL) (h4 : h ≠ matchK) (h5 : h ≠ fnL) (h6 : h ≠ callK) : kindH h n k = if isOp h = true then 6 else if isKey h = true then 0 else if pathB h = true then 8 else if pathV h = true then 12 else 0 := by
  unfold kindH
  rw [if_neg (fun h => h1 h.1), if_neg (fun h => h2 h.1), if_neg (fun h => h3 h.1), if_neg (fun h => h4 h.1), if_neg (fun h => h5 h.1), if_neg (fun h => h6 h.1)]
theorem kindH_bad {h : List UInt8} {n k : Nat} (hk : h = letK ∧ (n ≠ 4 ∨ k ≠ 3) ∨ h = ifK ∧ n ≠ 4 ∨ h = arrayL ∧ n < 2 ∨ h = matchK ∧ n < 3 ∨ h = fnL ∧ (n ≠ 4 ∨ k ≠ 1) ∨ h = callK ∧ n < 2) : kindH h n k = 0 := by
  unfold kindH
  rcases hk with ⟨rfl, hk⟩ | ⟨rfl, hk⟩ | ⟨rfl, hk⟩ | ⟨rfl, hk⟩ | ⟨rfl, hk⟩ | ⟨rfl, hk⟩
  · rw [if_neg (by rintro ⟨_, h⟩; omega), if_neg (by rintro ⟨h, _⟩; revert h; decide), if_neg (by rintro ⟨h, _⟩; revert h; decide), if_neg (by rintro ⟨h, _⟩; revert h; decide), if_neg (by rintro ⟨h, _⟩; revert h; decide), if_neg (by rintro ⟨h, _⟩; revert h; decide), if_neg (by decide), if_pos (by decide)]
  · rw [if_neg (by rintro ⟨h, _⟩; revert h; decide), if_neg (by rintro ⟨_, h⟩; omega), if_neg (by rintro ⟨h, _⟩; revert h; decide), if_neg (by rintro ⟨h, _⟩; revert h; decide), if_neg (by rintro ⟨h, _⟩; revert h; decide), if_neg (by rintro ⟨h, _⟩; revert h; decide), if_neg (by decide), if_pos (by decide)]
  · rw [if_neg (by rintro ⟨h, _⟩; revert h; decide), if_neg (by rintro ⟨h, _⟩; revert h; decide), if_neg (by rintro ⟨_, h⟩; omega), if_neg (by rintro ⟨h, _⟩; revert h; decide), if_neg (by rintro ⟨h, _⟩; revert h; decide), if_neg (by rintro ⟨h, _⟩; revert h; decide), if_neg (by decide), if_pos (by decide)]
  · rw [if_neg (by rintro ⟨h, _⟩; revert h; decide), if_neg (by rintro ⟨h, _⟩; revert h; decide), if_neg (by rintro ⟨h, _⟩; revert h; decide), if_neg (by rintro ⟨_, h⟩; omega), if_neg (by rintro ⟨h, _⟩; revert h; decide), if_neg (by rintro ⟨h, _⟩; revert h; decide), if_neg (by decide), if_pos (by decide)]
  · rw [if_neg (by rintro ⟨h, _⟩; revert h; decide), if_neg (by rintro ⟨h, _⟩; revert h; decide), if_neg (by rintro ⟨h, _⟩; revert h; decide), if_neg (by rintro ⟨h, _⟩; revert h; decide), if_neg (by rintro ⟨_, h⟩; omega), if_neg (by rintro ⟨h, _⟩; revert h; decide), if_neg (by decide), if_pos (by decide)]
  · rw [if_neg (by rintro ⟨h, _⟩; revert h; decide), if_neg (by rintro ⟨h, _⟩; revert h; decide), if_neg (by rintro ⟨h, _⟩; revert h; decide), if_neg (by rintro ⟨h, _⟩; revert h; decide), if_neg (by rintro ⟨h, _⟩; revert h; decide), if_neg (by rintro ⟨_, h⟩; omega), if_neg (by decide), if_pos (by decide)]
set_option maxHeartbeats 2000000 in
set_option maxRecDepth 1000000 in
theorem kO_let_n (w : World) (g o : Nat) (ka : Option Addr) (n kc : Nat) (q3 : w.cell? ⟨g, o + 3, none⟩ = some (.slice ka n kc)) (hn : n ≠ 4)
    (hh : ∀ u, u.heap = w.heap → Calls Try.prog 37 #[.pointer (some ⟨g, o, none⟩)] u fun e w' => e = .returned (.string ⟨#[108, 101, 116]⟩) ∧ w' = u) : Calls Try.prog 45 #[.pointer (some ⟨g, o, none⟩)] w (NumD 0 w) := by
  have ho := op_none [108, 101, 116] (by decide)
  have hw := key_let
  have en4 : ((n : Int) == 4) = false := by first | (rw [beq_iff_eq]; omega) | (rw [beq_eq_false_iff_ne]; omega)
  clear hn
  go_enter Try.func45, Try.ntmps45
  go_wp2_with fail
  go_quiet ((first | (go_at_call 37; refine Calls.quiet_of_same (hh _ rfl))))
  go_wp2_with (first
    | (go_at_call 60; refine (ho _).mono ?_; rintro e w1 ⟨rfl, rfl⟩)
    | (go_at_call 44; refine (hw _).mono ?_; rintro e w1 ⟨rfl, rfl⟩)
    | fail)
  go_ret
  exact ⟨_, rfl, rfl⟩
set_option maxHeartbeats 2000000 in
set_option maxRecDepth 1000000 in
theorem kO_let_k (w : World) (g o : Nat) (ka : Option Addr) (n kc : Nat) (q3 : w.cell? ⟨g, o + 3, none⟩ = some (.slice ka n kc)) (hn : n = 4) (k g0 : Nat) (ha : ka = some ⟨g0, 0, none⟩) (c1 : w.cell? ⟨g0, 4, none⟩ = some (.int .i64 (k : Int))) (hk : k ≠ 3)
    (hh : ∀ u, u.heap = w.heap → Calls Try.prog 37 #[.pointer (some ⟨g, o, none⟩)] u fun e w' => e = .returned (.string ⟨#[108, 101, 116]⟩) ∧ w' = u) : Calls Try.prog 45 #[.pointer (some ⟨g, o, none⟩)] w (NumD 0 w) := by
  have ho := op_none [108, 101, 116] (by decide)
  have hw := key_let
  subst hn ha
  have ek3 : ((k : Int) == 3) = false := by first | (rw [beq_iff_eq]; omega) | (rw [beq_eq_false_iff_ne]; omega)
  clear hk
  go_enter Try.func45, Try.ntmps45
  go_wp2_with fail
  go_quiet ((first | (go_at_call 37; refine Calls.quiet_of_same (hh _ rfl))))
  go_wp2_with (first
    | (go_at_call 60; refine (ho _).mono ?_; rintro e w1 ⟨rfl, rfl⟩)
    | (go_at_call 44; refine (hw _).mono ?_; rintro e w1 ⟨rfl, rfl⟩)
    | fail)
  go_ret
  exact ⟨_, rfl, rfl⟩
set_option maxHeartbeats 2000000 in
set_option maxRecDepth 1000000 in
theorem kO_let_ok (w : World) (g o : Nat) (ka : Option Addr) (n kc : Nat) (q3 : w.cell? ⟨g, o + 3, none⟩ = some (.slice ka n kc)) (hn : n = 4) (k g0 : Nat) (ha : ka = some ⟨g0, 0, none⟩) (c1 : w.cell? ⟨g0, 4, none⟩ = some (.int .i64 (k : Int))) (hk : k = 3)
    (hh : ∀ u, u.heap = w.heap → Calls Try.prog 37 #[.pointer (some ⟨g, o, none⟩)] u fun e w' => e = .returned (.string ⟨#[108, 101, 116]⟩) ∧ w' = u) : Calls Try.prog 45 #[.pointer (some ⟨g, o, none⟩)] w (NumD 4 w) := by
  have ho := op_none [108, 101, 116] (by decide)
  have hw := key_let
  subst hn ha hk
  go_enter Try.func45, Try.ntmps45
  go_wp2_with fail
  go_quiet ((first | (go_at_call 37; refine Calls.quiet_of_same (hh _ rfl))))
  go_wp2_with (first
    | (go_at_call 60; refine (ho _).mono ?_; rintro e w1 ⟨rfl, rfl⟩)
    | (go_at_call 44; refine (hw _).mono ?_; rintro e w1 ⟨rfl, rfl⟩)
    | fail)
  go_ret
  exact ⟨_, rfl, rfl⟩
set_option maxHeartbeats 2000000 in
set_option maxRecDepth 1000000 in
theorem kO_fn_n (w : World) (g o : Nat) (ka : Option Addr) (n kc : Nat) (q3 : w.cell? ⟨g, o + 3, none⟩ = some (.slice ka n kc)) (hn : n ≠ 4)
    (hh : ∀ u, u.heap = w.heap → Calls Try.prog 37 #[.pointer (some ⟨g, o, none⟩)] u fun e w' => e = .returned (.string ⟨#[102, 110]⟩) ∧ w' = u) : Calls Try.prog 45 #[.pointer (some ⟨g, o, none⟩)] w (NumD 0 w) := by
  have ho := op_none [102, 110] (by decide)
  have hw := key_fn
  have en4 : ((n : Int) == 4) = false := by first | (rw [beq_iff_eq]; omega) | (rw [beq_eq_false_iff_ne]; omega)
  clear hn
  go_enter Try.func45, Try.ntmps45
  go_wp2_with fail
  go_quiet ((first | (go_at_call 37; refine Calls.quiet_of_same (hh _ rfl))))
  go_wp2_with (first
    | (go_at_call 60; refine (ho _).mono ?_; rintro e w1 ⟨rfl, rfl⟩)
    | (go_at_call 44; refine (hw _).mono ?_; rintro e w1 ⟨rfl, rfl⟩)
    | fail)
  go_ret
  exact ⟨_, rfl, rfl⟩
set_option maxHeartbeats 2000000 in
set_option maxRecDepth 1000000 in
theorem kO_fn_k (w : World) (g o : Nat) (ka : Option Addr) (n kc : Nat) (q3 : w.cell? ⟨g, o + 3, none⟩ = some (.slice ka n kc)) (hn : n = 4) (k g0 : Nat) (ha : ka = some ⟨g0, 0, none⟩) (c1 : w.cell? ⟨g0, 4, none⟩ = some (.int .i64 (k : Int))) (hk : k ≠ 1)
    (hh : ∀ u, u.heap = w.heap → Calls Try.prog 37 #[.pointer (some ⟨g, o, none⟩)] u fun e w' => e = .returned (.string ⟨#[102, 110]⟩) ∧ w' = u) : Calls Try.prog 45 #[.pointer (some ⟨g, o, none⟩)] w (NumD 0 w) := by
  have ho := op_none [102, 110] (by decide)
  have hw := key_fn
  subst hn ha
  have ek1 : ((k : Int) == 1) = false := by first | (rw [beq_iff_eq]; omega) | (rw [beq_eq_false_iff_ne]; omega)
  clear hk
  go_enter Try.func45, Try.ntmps45
  go_wp2_with fail
  go_quiet ((first | (go_at_call 37; refine Calls.quiet_of_same (hh _ rfl))))
  go_wp2_with (first
    | (go_at_call 60; refine (ho _).mono ?_; rintro e w1 ⟨rfl, rfl⟩)
    | (go_at_call 44; refine (hw _).mono ?_; rintro e w1 ⟨rfl, rfl⟩)
    | fail)
  go_ret
  exact ⟨_, rfl, rfl⟩
set_option maxHeartbeats 2000000 in
set_option maxRecDepth 1000000 in
theorem kO_fn_ok (w : World) (g o : Nat) (ka : Option Addr) (n kc : Nat) (q3 : w.cell? ⟨g, o + 3, none⟩ = some (.slice ka n kc)) (hn : n = 4) (k g0 : Nat) (ha : ka = some ⟨g0, 0, none⟩) (c1 : w.cell? ⟨g0, 4, none⟩ = some (.int .i64 (k : Int))) (hk : k = 1)
    (hh : ∀ u, u.heap = w.heap → Calls Try.prog 37 #[.pointer (some ⟨g, o, none⟩)] u fun e w' => e = .returned (.string ⟨#[102, 110]⟩) ∧ w' = u) : Calls Try.prog 45 #[.pointer (some ⟨g, o, none⟩)] w (NumD 10 w) := by
  have ho := op_none [102, 110] (by decide)
  have hw := key_fn
  subst hn ha hk
  go_enter Try.func45, Try.ntmps45
  go_wp2_with fail
  go_quiet ((first | (go_at_call 37; refine Calls.quiet_of_same (hh _ rfl))))
  go_wp2_with (first
    | (go_at_call 60; refine (ho _).mono ?_; rintro e w1 ⟨rfl, rfl⟩)
    | (go_at_call 44; refine (hw _).mono ?_; rintro e w1 ⟨rfl, rfl⟩)
    | fail)
  go_ret
  exact ⟨_, rfl, rfl⟩
set_option maxHeartbeats 2000000 in
set_option maxRecDepth 1000000 in
theorem kO_if_n (w : World) (g o : Nat) (ka : Option Addr) (n kc : Nat) (q3 : w.cell? ⟨g, o + 3, none⟩ = some (.slice ka n kc)) (hn : n ≠ 4)
    (hh : ∀ u, u.heap = w.heap → Calls Try.prog 37 #[.pointer (some ⟨g, o, none⟩)] u fun e w' => e = .returned (.string ⟨#[105, 102]⟩) ∧ w' = u) : Calls Try.prog 45 #[.pointer (some ⟨g, o, none⟩)] w (NumD 0 w) := by
  have ho := op_none [105, 102] (by decide)
  have hw := key_if
  have en4 : ((n : Int) == 4) = false := by first | (rw [beq_iff_eq]; omega) | (rw [beq_eq_false_iff_ne]; omega)
  clear hn
  go_enter Try.func45, Try.ntmps45
  go_wp2_with fail
  go_quiet ((first | (go_at_call 37; refine Calls.quiet_of_same (hh _ rfl))))
  go_wp2_with (first
    | (go_at_call 60; refine (ho _).mono ?_; rintro e w1 ⟨rfl, rfl⟩)
    | (go_at_call 44; refine (hw _).mono ?_; rintro e w1 ⟨rfl, rfl⟩)
    | fail)
  go_ret
  exact ⟨_, rfl, rfl⟩
set_option maxHeartbeats 2000000 in
set_option maxRecDepth 1000000 in
theorem kO_if_ok (w : World) (g o : Nat) (ka : Option Addr) (n kc : Nat) (q3 : w.cell? ⟨g, o + 3, none⟩ = some (.slice ka n kc)) (hn : n = 4)
    (hh : ∀ u, u.heap = w.heap → Calls Try.prog 37 #[.pointer (some ⟨g, o, none⟩)] u fun e w' => e = .returned (.string ⟨#[105, 102]⟩) ∧ w' = u) : Calls Try.prog 45 #[.pointer (some ⟨g, o, none⟩)] w (NumD 5 w) := by
  have ho := op_none [105, 102] (by decide)
  have hw := key_if
  subst hn
  go_enter Try.func45, Try.ntmps45
  go_wp2_with fail
  go_quiet ((first | (go_at_call 37; refine Calls.quiet_of_same (hh _ rfl))))
  go_wp2_with (first
    | (go_at_call 60; refine (ho _).mono ?_; rintro e w1 ⟨rfl, rfl⟩)
    | (go_at_call 44; refine (hw _).mono ?_; rintro e w1 ⟨rfl, rfl⟩)
    | fail)
  go_ret
  exact ⟨_, rfl, rfl⟩
set_option maxHeartbeats 2000000 in
set_option maxRecDepth 1000000 in
theorem kO_array_n (w : World) (g o : Nat) (ka : Option Addr) (n kc : Nat) (q3 : w.cell? ⟨g, o + 3, none⟩ = some (.slice ka n kc)) (hn : n < 2)
    (hh : ∀ u, u.heap = w.heap → Calls Try.prog 37 #[.pointer (some ⟨g, o, none⟩)] u fun e w' => e = .returned (.string ⟨#[97, 114, 114, 97, 121]⟩) ∧ w' = u) : Calls Try.prog 45 #[.pointer (some ⟨g, o, none⟩)] w (NumD 0 w) := by
  have ho := op_none [97, 114, 114, 97, 121] (by decide)
  have hw := key_array
  have l1 : ¬ (2 : Int) ≤ (n : Int) := by omega
  clear hn
  go_enter Try.func45, Try.ntmps45
  go_wp2_with fail
  go_quiet ((first | (go_at_call 37; refine Calls.quiet_of_same (hh _ rfl))))
  go_wp2_with (first
    | (go_at_call 60; refine (ho _).mono ?_; rintro e w1 ⟨rfl, rfl⟩)
    | (go_at_call 44; refine (hw _).mono ?_; rintro e w1 ⟨rfl, rfl⟩)
    | fail)
  go_ret
  exact ⟨_, rfl, rfl⟩
set_option maxHeartbeats 2000000 in
set_option maxRecDepth 1000000 in
theorem kO_array_ok (w : World) (g o : Nat) (ka : Option Addr) (n kc : Nat) (q3 : w.cell? ⟨g, o + 3, none⟩ = some (.slice ka n kc)) (hn : 2 ≤ n)
    (hh : ∀ u, u.heap = w.heap → Calls Try.prog 37 #[.pointer (some ⟨g, o, none⟩)] u fun e w' => e = .returned (.string ⟨#[97, 114, 114, 97, 121]⟩) ∧ w' = u) : Calls Try.prog 45 #[.pointer (some ⟨g, o, none⟩)] w (NumD 7 w) := by
  have ho := op_none [97, 114, 114, 97, 121] (by decide)
  have hw := key_array
  have l1 : (2 : Int) ≤ (n : Int) := by omega
  clear hn
  go_enter Try.func45, Try.ntmps45
  go_wp2_with fail
  go_quiet ((first | (go_at_call 37; refine Calls.quiet_of_same (hh _ rfl))))
  go_wp2_with (first
    | (go_at_call 60; refine (ho _).mono ?_; rintro e w1 ⟨rfl, rfl⟩)
    | (go_at_call 44; refine (hw _).mono ?_; rintro e w1 ⟨rfl, rfl⟩)
    | fail)
  go_ret
  exact ⟨_, rfl, rfl⟩
set_option maxHeartbeats 2000000 in
set_option maxRecDepth 1000000 in
theorem kO_match_n (w : World) (g o : Nat) (ka : Option Addr) (n kc : Nat) (q3 : w.cell? ⟨g, o + 3, none⟩ = some (.slice ka n kc)) (hn : n < 3)
    (hh : ∀ u, u.heap = w.heap → Calls Try.prog 37 #[.pointer (some ⟨g, o, none⟩)] u fun e w' => e = .returned (.string ⟨#[109, 97, 116, 99, 104]⟩) ∧ w' = u) : Calls Try.prog 45 #[.pointer (some ⟨g, o, none⟩)] w (NumD 0 w) := by
  have ho := op_none [109, 97, 116, 99, 104] (by decide)
  have hw := key_match
  have l1 : ¬ (3 : Int) ≤ (n : Int) := by omega
  clear hn
  go_enter Try.func45, Try.ntmps45
  go_wp2_with fail
  go_quiet ((first | (go_at_call 37; refine Calls.quiet_of_same (hh _ rfl))))
  go_wp2_with (first
    | (go_at_call 60; refine (ho _).mono ?_; rintro e w1 ⟨rfl, rfl⟩)
    | (go_at_call 44; refine (hw _).mono ?_; rintro e w1 ⟨rfl, rfl⟩)
    | fail)
  go_ret
  exact ⟨_, rfl, rfl⟩
set_option maxHeartbeats 2000000 in
set_option maxRecDepth 1000000 in
theorem kO_match_ok (w : World) (g o : Nat) (ka : Option Addr) (n kc : Nat) (q3 : w.cell? ⟨g, o + 3, none⟩ = some (.slice ka n kc)) (hn : 3 ≤ n)
    (hh : ∀ u, u.heap = w.heap → Calls Try.prog 37 #[.pointer (some ⟨g, o, none⟩)] u fun e w' => e = .returned (.string ⟨#[109, 97, 116, 99, 104]⟩) ∧ w' = u) : Calls Try.prog 45 #[.pointer (some ⟨g, o, none⟩)] w (NumD 9 w) := by
  have ho := op_none [109, 97, 116, 99, 104] (by decide)
  have hw := key_match
  have l1 : (3 : Int) ≤ (n : Int) := by omega
  clear hn
  go_enter Try.func45, Try.ntmps45
  go_wp2_with fail
  go_quiet ((first | (go_at_call 37; refine Calls.quiet_of_same (hh _ rfl))))
  go_wp2_with (first
    | (go_at_call 60; refine (ho _).mono ?_; rintro e w1 ⟨rfl, rfl⟩)
    | (go_at_call 44; refine (hw _).mono ?_; rintro e w1 ⟨rfl, rfl⟩)
    | fail)
  go_ret
  exact ⟨_, rfl, rfl⟩
set_option maxHeartbeats 2000000 in
set_option maxRecDepth 1000000 in
theorem kO_call_n (w : World) (g o : Nat) (ka : Option Addr) (n kc : Nat) (q3 : w.cell? ⟨g, o + 3, none⟩ = some (.slice ka n kc)) (hn : n < 2)
    (hh : ∀ u, u.heap = w.heap → Calls Try.prog 37 #[.pointer (some ⟨g, o, none⟩)] u fun e w' => e = .returned (.string ⟨#[99, 97, 108, 108]⟩) ∧ w' = u) : Calls Try.prog 45 #[.pointer (some ⟨g, o, none⟩)] w (NumD 0 w) := by
  have ho := op_none [99, 97, 108, 108] (by decide)
  have hw := key_call
  have l1 : ¬ (2 : Int) ≤ (n : Int) := by omega
  clear hn
  go_enter Try.func45, Try.ntmps45
  go_wp2_with fail
  go_quiet ((first | (go_at_call 37; refine Calls.quiet_of_same (hh _ rfl))))
  go_wp2_with (first
    | (go_at_call 60; refine (ho _).mono ?_; rintro e w1 ⟨rfl, rfl⟩)
    | (go_at_call 44; refine (hw _).mono ?_; rintro e w1 ⟨rfl, rfl⟩)
    | fail)
  go_ret
  exact ⟨_, rfl, rfl⟩
set_option maxHeartbeats 2000000 in
set_option maxRecDepth 1000000 in
theorem kO_call_ok (w : World) (g o : Nat) (ka : Option Addr) (n kc : Nat) (q3 : w.cell? ⟨g, o + 3, none⟩ = some (.slice ka n kc)) (hn : 2 ≤ n)
    (hh : ∀ u, u.heap = w.heap → Calls Try.prog 37 #[.pointer (some ⟨g, o, none⟩)] u fun e w' => e = .returned (.string ⟨#[99, 97, 108, 108]⟩) ∧ w' = u) : Calls Try.prog 45 #[.pointer (some ⟨g, o, none⟩)] w (NumD 11 w) := by
  have ho := op_none [99, 97, 108, 108] (by decide)
  have hw := key_call
  have l1 : (2 : Int) ≤ (n : Int) := by omega
  clear hn
  go_enter Try.func45, Try.ntmps45
  go_wp2_with fail
  go_quiet ((first | (go_at_call 37; refine Calls.quiet_of_same (hh _ rfl))))
  go_wp2_with (first
    | (go_at_call 60; refine (ho _).mono ?_; rintro e w1 ⟨rfl, rfl⟩)
    | (go_at_call 44; refine (hw _).mono ?_; rintro e w1 ⟨rfl, rfl⟩)
    | fail)
  go_ret
  exact ⟨_, rfl, rfl⟩
set_option maxHeartbeats 2000000 in
set_option maxRecDepth 1000000 in
theorem kO_rest (w : World) (g o : Nat) (ka : Option Addr) (n kc : Nat) (q3 : w.cell? ⟨g, o + 3, none⟩ = some (.slice ka n kc)) (h : List UInt8) (hl : h.length ≤ 8192) (h1 : h ≠ letK) (h2 : h ≠ ifK) (h3 : h ≠ arrayL) (h4 : h ≠ matchK) (h5 : h ≠ fnL) (h6 : h ≠ callK)
    (hh : ∀ u, u.heap = w.heap → Calls Try.prog 37 #[.pointer (some ⟨g, o, none⟩)] u fun e w' => e = .returned (.string (str h)) ∧ w' = u) :
    Calls Try.prog 45 #[.pointer (some ⟨g, o, none⟩)] w (NumD (if isOp h = true then 6 else if isKey h = true then 0 else if pathB h = true then 8 else if pathV h = true then 12 else 0) w) := by
  have k1 := str_ne h1
  have k2 := str_ne h2
  have k3 := str_ne h3
  have k4 := str_ne h4
  have k5 := str_ne h5
  have k6 := str_ne h6
  unfold letK at k1
  unfold ifK at k2
  unfold arrayL at k3
  unfold matchK at k4
  unfold fnL at k5
  unfold callK at k6
  have ho := opIs h
  have hw := keyIs h
  have hb := fun u => toB h u hl
  have hv := fun u => toV h u hl
  clear h1 h2 h3 h4 h5 h6
  generalize isOp h = b1 at *
  generalize isKey h = b2 at *
  generalize pathB h = b3 at *
  generalize pathV h = b4 at *
  cases b1
  · rw [if_neg Bool.false_ne_true]
    cases b2
    · rw [if_neg Bool.false_ne_true]
      cases b3
      · rw [if_neg Bool.false_ne_true]
        cases b4
        · rw [if_neg Bool.false_ne_true]
          go_enter Try.func45, Try.ntmps45
          go_wp2_with fail
          go_quiet ((first | (go_at_call 37; refine Calls.quiet_of_same (hh _ rfl))))
          go_wp2_with (first
            | (go_at_call 60; refine (ho _).mono ?_; rintro e w1 ⟨rfl, rfl⟩)
            | (go_at_call 44; refine (hw _).mono ?_; rintro e w1 ⟨rfl, rfl⟩)
            | (go_at_call 27; refine (hb _).mono ?_; rintro e w1 ⟨nb, rfl, rfl⟩)
            | (go_at_call 46; refine (hv _).mono ?_; rintro e w1 ⟨nv, rfl, rfl⟩))
          go_ret
          exact ⟨_, rfl, rfl⟩
        · rw [if_pos rfl]
          go_enter Try.func45, Try.ntmps45
          go_wp2_with fail
          go_quiet ((first | (go_at_call 37; refine Calls.quiet_of_same (hh _ rfl))))
          go_wp2_with (first
            | (go_at_call 60; refine (ho _).mono ?_; rintro e w1 ⟨rfl, rfl⟩)
            | (go_at_call 44; refine (hw _).mono ?_; rintro e w1 ⟨rfl, rfl⟩)
            | (go_at_call 27; refine (hb _).mono ?_; rintro e w1 ⟨nb, rfl, rfl⟩)
            | (go_at_call 46; refine (hv _).mono ?_; rintro e w1 ⟨nv, rfl, rfl⟩))
          go_ret
          exact ⟨_, rfl, rfl⟩
      · rw [if_pos rfl]
        go_enter Try.func45, Try.ntmps45
        go_wp2_with fail
        go_quiet ((first | (go_at_call 37; refine Calls.quiet_of_same (hh _ rfl))))
        go_wp2_with (first
          | (go_at_call 60; refine (ho _).mono ?_; rintro e w1 ⟨rfl, rfl⟩)
          | (go_at_call 44; refine (hw _).mono ?_; rintro e w1 ⟨rfl, rfl⟩)
          | (go_at_call 27; refine (hb _).mono ?_; rintro e w1 ⟨nb, rfl, rfl⟩)
          | (go_at_call 46; refine (hv _).mono ?_; rintro e w1 ⟨nv, rfl, rfl⟩))
        go_ret
        exact ⟨_, rfl, rfl⟩
    · rw [if_pos rfl]
      go_enter Try.func45, Try.ntmps45
      go_wp2_with fail
      go_quiet ((first | (go_at_call 37; refine Calls.quiet_of_same (hh _ rfl))))
      go_wp2_with (first
        | (go_at_call 60; refine (ho _).mono ?_; rintro e w1 ⟨rfl, rfl⟩)
        | (go_at_call 44; refine (hw _).mono ?_; rintro e w1 ⟨rfl, rfl⟩)
        | (go_at_call 27; refine (hb _).mono ?_; rintro e w1 ⟨nb, rfl, rfl⟩)
        | (go_at_call 46; refine (hv _).mono ?_; rintro e w1 ⟨nv, rfl, rfl⟩))
      go_ret
      exact ⟨_, rfl, rfl⟩
  · rw [if_pos rfl]
    go_enter Try.func45, Try.ntmps45
    go_wp2_with fail
    go_quiet ((first | (go_at_call 37; refine Calls.quiet_of_same (hh _ rfl))))
    go_wp2_with (first
      | (go_at_call 60; refine (ho _).mono ?_; rintro e w1 ⟨rfl, rfl⟩)
      | (go_at_call 44; refine (hw _).mono ?_; rintro e w1 ⟨rfl, rfl⟩)
      | (go_at_call 27; refine (hb _).mono ?_; rintro e w1 ⟨nb, rfl, rfl⟩)
      | (go_at_call 46; refine (hv _).mono ?_; rintro e w1 ⟨nv, rfl, rfl⟩))
    go_ret
    exact ⟨_, rfl, rfl⟩
theorem kindOpen (F : Nat → Prop) (t : Tr) (g o : Nat) (w : World) (h : PT F w g o t) (htx : TxOk t) : Calls Try.prog 45 #[.pointer (some ⟨g, o, none⟩)] w (NumD (kindO t) w) := by
  have hl : (headX t).length ≤ 8192 := by
    unfold headX
    split
    · rename_i hh
      simp only [hasHeadX, Bool.and_eq_true, decide_eq_true_eq] at hh
      exact ((TxOk_iff _).1 (((TxOk_iff _).1 htx).2 _ (kid_mem hh.1.2))).1
    · simp
  have hh : ∀ u : World, u.heap = w.heap → Calls Try.prog 37 #[.pointer (some ⟨g, o, none⟩)] u fun e w' => e = .returned (.string (str (headX t))) ∧ w' = u := by
    intro u hu
    refine headOf F t g o u ?_
    obtain ⟨hFg, kv, hT, q0, q1, q2, q3⟩ := h
    have hc : ∀ a, u.cell? a = w.cell? a := fun a => World.cell?_of_block (by rw [hu])
    exact ⟨hFg, kv, hT.frame (fun g hg => ⟨hg, by rw [hu]⟩), by rw [hc]; exact q0, by rw [hc]; exact q1, by rw [hc]; exact q2, by rw [hc]; exact q3⟩
  obtain ⟨hFg, kv, hT, q0, q1, q2, q3⟩ := h
  obtain ⟨ka, kc, hks⟩ := hT.shape
  have hk1 : 1 < t.kids.length → ∃ g0, ka = some ⟨g0, 0, none⟩ ∧ w.cell? ⟨g0, 4, none⟩ = some (.int .i64 ((kid t 1).kind : Int)) := by
    intro hl
    obtain ⟨g1, cap1, hk, hF1, kv1, _, d0, _, _, _⟩ := hT.kid 1 hl
    rw [hks] at hk
    simp only [Value.slice.injEq, true_and] at hk
    exact ⟨g1, hk.1, by simpa using d0⟩
  rw [hks] at q3
  unfold kindO
  clear hT hks
  generalize t.kids.length = n at *
  generalize (kid t 1).kind = k at *
  generalize hhd : headX t = hd at *
  by_cases c1 : hd = letK
  · subst c1
    by_cases c : n = 4
    · obtain ⟨g0, ha, c1⟩ := hk1 (by omega)
      by_cases c' : k = 3
      · rw [show kindH letK n k = 4 from by unfold kindH; rw [if_pos ⟨rfl, c, c'⟩]]
        exact kO_let_ok w g o ka n kc q3 c k g0 ha c1 c' hh
      · rw [kindH_bad (.inl ⟨rfl, .inr c'⟩)]
        exact kO_let_k w g o ka n kc q3 c k g0 ha c1 c' hh
    · rw [kindH_bad (.inl ⟨rfl, .inl c⟩)]
      exact kO_let_n w g o ka n kc q3 c hh
  by_cases c2 : hd = ifK
  · subst c2
    by_cases c : n = 4
    · rw [show kindH ifK n k = 5 from by unfold kindH; rw [if_neg (fun h => c1 h.1), if_pos ⟨rfl, c⟩]]
      exact kO_if_ok w g o ka n kc q3 c hh
    · rw [kindH_bad (.inr (.inl ⟨rfl, c⟩))]
      exact kO_if_n w g o ka n kc q3 c hh
  by_cases c3 : hd = arrayL
  · subst c3
    by_cases c : 2 ≤ n
    · rw [show kindH arrayL n k = 7 from by unfold kindH; rw [if_neg (fun h => c1 h.1), if_neg (fun h => c2 h.1), if_pos ⟨rfl, c⟩]]
      exact kO_array_ok w g o ka n kc q3 c hh
    · rw [kindH_bad (.inr (.inr (.inl ⟨rfl, by omega⟩)))]
      exact kO_array_n w g o ka n kc q3 (by omega) hh
  by_cases c4 : hd = matchK
  · subst c4
    by_cases c : 3 ≤ n
    · rw [show kindH matchK n k = 9 from by unfold kindH; rw [if_neg (fun h => c1 h.1), if_neg (fun h => c2 h.1), if_neg (fun h => c3 h.1), if_pos ⟨rfl, c⟩]]
      exact kO_match_ok w g o ka n kc q3 c hh
    · rw [kindH_bad (.inr (.inr (.inr (.inl ⟨rfl, by omega⟩))))]
      exact kO_match_n w g o ka n kc q3 (by omega) hh
  by_cases c5 : hd = fnL
  · subst c5
    by_cases c : n = 4
    · obtain ⟨g0, ha, c1'⟩ := hk1 (by omega)
      by_cases c' : k = 1
      · rw [show kindH fnL n k = 10 from by unfold kindH; rw [if_neg (fun h => c1 h.1), if_neg (fun h => c2 h.1), if_neg (fun h => c3 h.1), if_neg (fun h => c4 h.1), if_pos ⟨rfl, c, c'⟩]]
        exact kO_fn_ok w g o ka n kc q3 c k g0 ha c1' c' hh
      · rw [kindH_bad (.inr (.inr (.inr (.inr (.inl ⟨rfl, .inr c'⟩)))))]
        exact kO_fn_k w g o ka n kc q3 c k g0 ha c1' c' hh
    · rw [kindH_bad (.inr (.inr (.inr (.inr (.inl ⟨rfl, .inl c⟩)))))]
      exact kO_fn_n w g o ka n kc q3 c hh
  by_cases c6 : hd = callK
  · subst c6
    by_cases c : 2 ≤ n
    · rw [show kindH callK n k = 11 from by unfold kindH; rw [if_neg (fun h => c1 h.1), if_neg (fun h => c2 h.1), if_neg (fun h => c3 h.1), if_neg (fun h => c4 h.1), if_neg (fun h => c5 h.1), if_pos ⟨rfl, c⟩]]
      exact kO_call_ok w g o ka n kc q3 c hh
    · rw [kindH_bad (.inr (.inr (.inr (.inr (.inr ⟨rfl, by omega⟩)))))]
      exact kO_call_n w g o ka n kc q3 (by omega) hh
  rw [kindH_op c1 c2 c3 c4 c5 c6]
  exact kO_rest w g o ka n kc q3 hd hl c1 c2 c3 c4 c5 c6 hh
end Go.Proofs.Ytchfhkfepghfjaa
