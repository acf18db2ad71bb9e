/-
  Which item a tree is, as the package tells it; what it reads of each. No program in it.
  And: The package's itemOf: which item a tree in memory is.
-/
import Derived.Test.YtchfhkfepghfjaaPfAt
import Derived.Test.YtchfhkfepghfjaaPfAq
import Derived.Deep.QuietTactic
import Derived.BigQuiet
import Derived.Test.YtchfhkfepghfjaaPfAv
namespace Go.Proofs.Ytchfhkfepghfjaa

def namedX (t : Tr) : Bool := decide (1 < t.kids.length) && decide ((kid t 1).kind = 3)
/-- The word of the item whose form t has: nothing, if it has none's. -/
def itemX (t : Tr) : List UInt8 :=
  if hasHeadX t = false then []
  else if (kid t 0).text = importK ∧ namedX t = true ∧ atomsX (t.kids.drop 1) = true then importK
  else if (kid t 0).text = exportK ∧ atomsX (t.kids.drop 1) = true then exportK
  else if (kid t 0).text = typeK ∧ namedX t = true ∧ 3 ≤ t.kids.length then typeK
  else if (kid t 0).text = constK ∧ namedX t = true ∧ t.kids.length = 4 then constK
  else if (kid t 0).text = funK ∧ namedX t = true ∧ t.kids.length = 5 ∧ (kid t 2).kind = 1 then funK
  else []
def typeP (m : List UInt8) (t : Tr) : PR (List UInt8 × List (List UInt8 × List (List UInt8))) :=
  if 6 < t.kids.length - 2 ∨ (t.kids.drop 2).any (fun k => decide (4 < k.kids.length - 1)) = true then .error (19, t.place)
  else (bigP (kid t 1)).bind (fun n => (seqP ((t.kids.drop 2).map (caseP m))).bind (fun cs => .ok (n, cs)))
def constP (m : List UInt8) (t : Tr) : PR (List UInt8 × List UInt8 × Ex) :=
  (nameP (kid t 1)).bind (fun n => (readR m (kid t 2)).bind (fun y => (exprP m (kid t 3)).bind (fun b => .ok (n, y, b))))
def funP (m : List UInt8) (t : Tr) : PR (List UInt8 × List (List UInt8 × List UInt8) × List UInt8 × Ex) :=
  if 6 < (kid t 2).kids.length then .error (19, t.place)
  else (nameP (kid t 1)).bind (fun n => (seqP ((kid t 2).kids.map (paramP m))).bind (fun ps => (readR m (kid t 3)).bind (fun y => (exprP m (kid t 4)).bind (fun b => .ok (n, ps, y, b)))))
/-- An item, as the package reads it. -/
def itemD (m : List UInt8) (t : Tr) : PR Md :=
  if itemX t = importK then (valP (kid t 1)).bind (fun fr => (seqP ((t.kids.drop 2).map anyP)).bind (fun ns => .ok ⟨[], ns.map (fun n => (fr, n)), [], [], [], []⟩))
  else if itemX t = exportK then (seqP ((t.kids.drop 1).map anyP)).bind (fun ns => .ok ⟨[], [], ns, [], [], []⟩)
  else if itemX t = typeK then (typeP m t).bind (fun d => .ok ⟨[], [], [], [d], [], []⟩)
  else if itemX t = constK then (constP m t).bind (fun d => .ok ⟨[], [], [], [], [d], []⟩)
  else if itemX t = funK then (funP m t).bind (fun d => .ok ⟨[], [], [], [], [], [d]⟩)
  else .error (12, t.place)
theorem allAtoms_drop {t : Tr} (h : hasHeadX t = true) : allAtoms t = atomsX (t.kids.drop 1) := by
  simp only [hasHeadX, Bool.and_eq_true, decide_eq_true_eq] at h
  obtain ⟨k, p, x, l, e⟩ := t
  match l, h with
  | a :: r, h =>
    have h3 : a.kind = 3 := h.2
    simp [allAtoms, atomsX, h3]
theorem drop1_atom {t : Tr} (h : 2 ≤ t.kids.length) (ha : atomsX (t.kids.drop 1) = true) : (kid t 1).kind = 3 := by
  obtain ⟨k, p, x, l, e⟩ := t
  match l, h with
  | a :: b :: r, _ =>
    simp only [atomsX, List.drop_succ_cons, List.drop_zero, List.all_cons, Bool.and_eq_true, decide_eq_true_eq] at ha
    exact ha.1
theorem itemX_cases (t : Tr) : itemX t = importK ∨ itemX t = exportK ∨ itemX t = typeK ∨ itemX t = constK ∨ itemX t = funK ∨ itemX t = [] := by
  unfold itemX
  split
  · simp
  · split
    · simp
    · split
      · simp
      · split
        · simp
        · split
          · simp
          · split <;> simp
theorem itemD_imp {m : List UInt8} {t : Tr} (h : itemX t = importK) : itemD m t = (valP (kid t 1)).bind (fun fr => (seqP ((t.kids.drop 2).map anyP)).bind (fun ns => .ok ⟨[], ns.map (fun n => (fr, n)), [], [], [], []⟩)) := by
  unfold itemD
  rw [h, if_pos rfl]
theorem itemD_exp {m : List UInt8} {t : Tr} (h : itemX t = exportK) : itemD m t = (seqP ((t.kids.drop 1).map anyP)).bind (fun ns => .ok ⟨[], [], ns, [], [], []⟩) := by
  unfold itemD
  rw [h, if_neg (by decide), if_pos rfl]
theorem itemD_typ {m : List UInt8} {t : Tr} (h : itemX t = typeK) : itemD m t = (typeP m t).bind (fun d => .ok ⟨[], [], [], [d], [], []⟩) := by
  unfold itemD
  rw [h, if_neg (by decide), if_neg (by decide), if_pos rfl]
theorem itemD_con {m : List UInt8} {t : Tr} (h : itemX t = constK) : itemD m t = (constP m t).bind (fun d => .ok ⟨[], [], [], [], [d], []⟩) := by
  unfold itemD
  rw [h, if_neg (by decide), if_neg (by decide), if_neg (by decide), if_pos rfl]
theorem itemD_fun {m : List UInt8} {t : Tr} (h : itemX t = funK) : itemD m t = (funP m t).bind (fun d => .ok ⟨[], [], [], [], [], [d]⟩) := by
  unfold itemD
  rw [h, if_neg (by decide), if_neg (by decide), if_neg (by decide), if_neg (by decide), if_pos rfl]
theorem itemD_no {m : List UInt8} {t : Tr} (h : itemX t = []) : itemD m t = .error (12, t.place) := by
  unfold itemD
  rw [h, if_neg (by decide), if_neg (by decide), if_neg (by decide), if_neg (by decide), if_neg (by decide)]
theorem item_eq (m : List UInt8) (t : Tr) : itemP m t = itemD m t := by
  unfold itemP
  cases hh : hasHeadX t
  · have hX : itemX t = [] := by unfold itemX; rw [if_pos hh]
    have hb : t.kind ≠ 1 ∨ t.kids.length = 0 ∨ (kid t 0).kind ≠ 3 := by
      by_cases h1 : t.kind = 1
      · by_cases h2 : 0 < t.kids.length
        · by_cases h3 : (kid t 0).kind = 3
          · rw [hasHeadX, decide_eq_true h1, decide_eq_true h2, decide_eq_true h3] at hh
            cases hh
          · exact .inr (.inr h3)
        · exact .inr (.inl (by omega))
      · exact .inl h1
    rw [if_pos hb, itemD_no hX]
  · have hh' := hh
    simp only [hasHeadX, Bool.and_eq_true, decide_eq_true_eq] at hh'
    rw [if_neg (by omega)]
    have hI : itemX t = if (kid t 0).text = importK ∧ namedX t = true ∧ atomsX (t.kids.drop 1) = true then importK
        else if (kid t 0).text = exportK ∧ atomsX (t.kids.drop 1) = true then exportK
        else if (kid t 0).text = typeK ∧ namedX t = true ∧ 3 ≤ t.kids.length then typeK
        else if (kid t 0).text = constK ∧ namedX t = true ∧ t.kids.length = 4 then constK
        else if (kid t 0).text = funK ∧ namedX t = true ∧ t.kids.length = 5 ∧ (kid t 2).kind = 1 then funK
        else [] := by
      unfold itemX
      rw [if_neg (by rw [hh]; decide)]
    generalize hw : (kid t 0).text = w at *
    by_cases c1 : w = importK
    · subst c1
      rw [if_pos rfl]
      have hsame := allAtoms_drop hh
      by_cases c : t.kids.length < 2 ∨ allAtoms t = false
      · have : itemX t = [] := by
          rw [hI, if_neg, if_neg (by rintro ⟨h, _⟩; revert h; decide), if_neg (by rintro ⟨h, _⟩; revert h; decide), if_neg (by rintro ⟨h, _⟩; revert h; decide), if_neg (by rintro ⟨h, _⟩; revert h; decide)]
          rintro ⟨_, h2, h3⟩
          simp only [namedX, Bool.and_eq_true, decide_eq_true_eq] at h2
          rw [hsame, h3] at c
          rcases c with c | c
          · omega
          · cases c
        rw [if_pos c, itemD_no this]
      · have h3 : atomsX (t.kids.drop 1) = true := by
          rw [← hsame]
          cases hq : allAtoms t
          · exact absurd (.inr hq) c
          · rfl
        have : itemX t = importK := by
          rw [hI, if_pos ⟨rfl, by unfold namedX; rw [decide_eq_true (show 1 < t.kids.length by omega), decide_eq_true (drop1_atom (by omega) h3)]; rfl, h3⟩]
        rw [if_neg c, itemD_imp this]
    rw [if_neg c1]
    rw [if_neg (fun h => c1 h.1)] at hI
    by_cases c2 : w = exportK
    · subst c2
      rw [if_pos rfl]
      have hsame := allAtoms_drop hh
      by_cases c : allAtoms t = false
      · have : itemX t = [] := by
          rw [hI, if_neg (by rintro ⟨_, h⟩; rw [hsame, h] at c; cases c), if_neg (by rintro ⟨h, _⟩; revert h; decide), if_neg (by rintro ⟨h, _⟩; revert h; decide), if_neg (by rintro ⟨h, _⟩; revert h; decide)]
        rw [if_pos c, itemD_no this]
      · have h3 : atomsX (t.kids.drop 1) = true := by
          rw [← hsame]
          cases hq : allAtoms t
          · exact absurd hq c
          · rfl
        have : itemX t = exportK := by rw [hI, if_pos ⟨rfl, h3⟩]
        rw [if_neg c, itemD_exp this]
    rw [if_neg c2]
    rw [if_neg (fun h => c2 h.1)] at hI
    by_cases c3 : w = typeK
    · subst c3
      rw [if_pos rfl]
      by_cases c : t.kids.length < 3 ∨ (kid t 1).kind ≠ 3
      · have : itemX t = [] := by
          rw [hI, if_neg, if_neg (by rintro ⟨h, _⟩; revert h; decide), if_neg (by rintro ⟨h, _⟩; revert h; decide)]
          rintro ⟨_, h2, h3⟩
          simp only [namedX, Bool.and_eq_true, decide_eq_true_eq] at h2
          omega
        rw [if_pos c, itemD_no this]
      · have : itemX t = typeK := by rw [hI, if_pos ⟨rfl, by simp only [namedX, Bool.and_eq_true, decide_eq_true_eq]; omega, by omega⟩]
        rw [if_neg c, itemD_typ this]
        unfold typeP
        split
        · rfl
        · rw [bind_bind]
          congr 1
          funext n
          rw [bind_bind]
          rfl
    rw [if_neg c3]
    rw [if_neg (fun h => c3 h.1)] at hI
    by_cases c4 : w = constK
    · subst c4
      rw [if_pos rfl]
      by_cases c : t.kids.length ≠ 4 ∨ (kid t 1).kind ≠ 3
      · have : itemX t = [] := by
          rw [hI, if_neg, if_neg (by rintro ⟨h, _⟩; revert h; decide)]
          rintro ⟨_, h2, h3⟩
          simp only [namedX, Bool.and_eq_true, decide_eq_true_eq] at h2
          omega
        rw [if_pos c, itemD_no this]
      · have : itemX t = constK := by rw [hI, if_pos ⟨rfl, by simp only [namedX, Bool.and_eq_true, decide_eq_true_eq]; omega, by omega⟩]
        rw [if_neg c, itemD_con this]
        unfold constP
        rw [bind_bind]
        congr 1
        funext n
        rw [bind_bind]
        congr 1
        funext y
        rw [bind_bind]
        rfl
    rw [if_neg c4]
    rw [if_neg (fun h => c4 h.1)] at hI
    by_cases c5 : w = funK
    · subst c5
      rw [if_pos rfl]
      by_cases c : t.kids.length ≠ 5 ∨ (kid t 1).kind ≠ 3 ∨ (kid t 2).kind ≠ 1
      · have : itemX t = [] := by
          rw [hI, if_neg]
          rintro ⟨_, h2, h3, h4⟩
          simp only [namedX, Bool.and_eq_true, decide_eq_true_eq] at h2
          omega
        rw [if_pos c, itemD_no this]
      · have : itemX t = funK := by rw [hI, if_pos ⟨rfl, by simp only [namedX, Bool.and_eq_true, decide_eq_true_eq]; omega, by omega, by omega⟩]
        rw [if_neg c, itemD_fun this]
        unfold funP
        split
        · rfl
        · rw [bind_bind]
          congr 1
          funext n
          rw [bind_bind]
          congr 1
          funext ps
          rw [bind_bind]
          congr 1
          funext y
          rw [bind_bind]
          rfl
    rw [if_neg c5]
    rw [if_neg (fun h => c5 h.1)] at hI
    rw [itemD_no hI]
end Go.Proofs.Ytchfhkfepghfjaa

namespace Go.Proofs.Ytchfhkfepghfjaa
open Go.RowKit

def TextD (l : List UInt8) (w : World) (e : Ending) (w' : World) : Prop := ∃ n, e = .returned (.string (str l)) ∧ w' = w.drewN n
set_option maxHeartbeats 1000000 in
set_option maxRecDepth 1000000 in
theorem iO_import_true (w : World) (tg tj g1 r kc k o : Nat) (hr : r ≤ 20000) (q3 : w.cell? ⟨tg, tj + 3, none⟩ = some (.slice (some ⟨g1, 0, none⟩) (r + 1) kc)) (hh : Calls Try.prog 51 #[.pointer (some ⟨tg, tj, none⟩)] w (Pu (.bool true) w)) (ho : o = 4) (b : Bool) (hb : b = true) (hr1 : 1 ≤ r) (hkc : ¬ kc = 1) (c1 : w.cell? ⟨g1, 4, none⟩ = some (.int .i64 (k : Int))) (hk : k = 3) (hat : ∀ u : World, u.heap = w.heap → ∀ c, Calls Try.prog 25 #[.slice (some ⟨g1, o, none⟩) r c] u fun e w' => e = .returned (.bool b) ∧ w' = u) (k0 : w.cell? ⟨g1, 2, none⟩ = some (.string ⟨#[105, 109, 112, 111, 114, 116]⟩)) : Calls Try.prog 54 #[.pointer (some ⟨tg, tj, none⟩)] w (TextD [105, 109, 112, 111, 114, 116] w) := by
  have l0 : (0 : Int) < (r : Int) + 1 := by omega
  have l1 : (1 : Int) ≤ (r : Int) + 1 := by omega
  have l2 : (0 : Int) < (r : Int) := by omega
  subst hk
  subst hb ho
  go_enter Try.func54, Try.ntmps54
  go_wp2_with (go_at_call 51; refine hh.mono ?_; rintro e w1 ⟨rfl, hw1⟩; obtain rfl := hw1.symm)
  go_quiet (fail)
  go_wp2_with (first
    | (go_at_call 25; refine (hat (w.drewN _) rfl _).mono ?_; rintro e w1 ⟨rfl, rfl⟩))
  go_ret
  exact ⟨_, rfl, rfl⟩
set_option maxHeartbeats 1000000 in
set_option maxRecDepth 1000000 in
theorem iO_import_false (w : World) (tg tj g1 r kc k o : Nat) (hr : r ≤ 20000) (q3 : w.cell? ⟨tg, tj + 3, none⟩ = some (.slice (some ⟨g1, 0, none⟩) (r + 1) kc)) (hh : Calls Try.prog 51 #[.pointer (some ⟨tg, tj, none⟩)] w (Pu (.bool true) w)) (ho : o = 4) (b : Bool) (hb : b = false) (hr1 : 1 ≤ r) (hkc : ¬ kc = 1) (c1 : w.cell? ⟨g1, 4, none⟩ = some (.int .i64 (k : Int))) (hk : k = 3) (hat : ∀ u : World, u.heap = w.heap → ∀ c, Calls Try.prog 25 #[.slice (some ⟨g1, o, none⟩) r c] u fun e w' => e = .returned (.bool b) ∧ w' = u) (k0 : w.cell? ⟨g1, 2, none⟩ = some (.string ⟨#[105, 109, 112, 111, 114, 116]⟩)) : Calls Try.prog 54 #[.pointer (some ⟨tg, tj, none⟩)] w (TextD [] w) := by
  have l0 : (0 : Int) < (r : Int) + 1 := by omega
  have l1 : (1 : Int) ≤ (r : Int) + 1 := by omega
  have l2 : (0 : Int) < (r : Int) := by omega
  subst hk
  subst hb ho
  go_enter Try.func54, Try.ntmps54
  go_wp2_with (go_at_call 51; refine hh.mono ?_; rintro e w1 ⟨rfl, hw1⟩; obtain rfl := hw1.symm)
  go_quiet (fail)
  go_wp2_with (first
    | (go_at_call 25; refine (hat (w.drewN _) rfl _).mono ?_; rintro e w1 ⟨rfl, rfl⟩))
  go_ret
  exact ⟨_, rfl, rfl⟩
set_option maxHeartbeats 1000000 in
set_option maxRecDepth 1000000 in
theorem iO_import_n (w : World) (tg tj g1 r kc k : Nat) (hr : r ≤ 20000) (q3 : w.cell? ⟨tg, tj + 3, none⟩ = some (.slice (some ⟨g1, 0, none⟩) (r + 1) kc)) (hh : Calls Try.prog 51 #[.pointer (some ⟨tg, tj, none⟩)] w (Pu (.bool true) w)) (hr1 : 1 ≤ r) (hkc : ¬ kc = 1) (c1 : w.cell? ⟨g1, 4, none⟩ = some (.int .i64 (k : Int))) (hk : k ≠ 3) (k0 : w.cell? ⟨g1, 2, none⟩ = some (.string ⟨#[105, 109, 112, 111, 114, 116]⟩)) : Calls Try.prog 54 #[.pointer (some ⟨tg, tj, none⟩)] w (TextD [] w) := by
  have l0 : (0 : Int) < (r : Int) + 1 := by omega
  have l1 : (1 : Int) ≤ (r : Int) + 1 := by omega
  have l2 : (0 : Int) < (r : Int) := by omega
  have ek : (((k : Nat) : Int) == 3) = false := by first | (rw [beq_iff_eq]; omega) | (rw [beq_eq_false_iff_ne]; omega)
  clear hk
  go_enter Try.func54, Try.ntmps54
  go_wp2_with (go_at_call 51; refine hh.mono ?_; rintro e w1 ⟨rfl, hw1⟩; obtain rfl := hw1.symm)
  go_quiet (fail)
  go_wp2
  go_ret
  exact ⟨_, rfl, rfl⟩
set_option maxHeartbeats 1000000 in
set_option maxRecDepth 1000000 in
theorem iO_type_n (w : World) (tg tj g1 r kc k : Nat) (hr : r ≤ 20000) (q3 : w.cell? ⟨tg, tj + 3, none⟩ = some (.slice (some ⟨g1, 0, none⟩) (r + 1) kc)) (hh : Calls Try.prog 51 #[.pointer (some ⟨tg, tj, none⟩)] w (Pu (.bool true) w)) (hr1 : 1 ≤ r) (hkc : ¬ kc = 1) (c1 : w.cell? ⟨g1, 4, none⟩ = some (.int .i64 (k : Int))) (hk : k ≠ 3) (k0 : w.cell? ⟨g1, 2, none⟩ = some (.string ⟨#[116, 121, 112, 101]⟩)) : Calls Try.prog 54 #[.pointer (some ⟨tg, tj, none⟩)] w (TextD [] w) := by
  have l0 : (0 : Int) < (r : Int) + 1 := by omega
  have l1 : (1 : Int) ≤ (r : Int) + 1 := by omega
  have l2 : (0 : Int) < (r : Int) := by omega
  have ek : (((k : Nat) : Int) == 3) = false := by first | (rw [beq_iff_eq]; omega) | (rw [beq_eq_false_iff_ne]; omega)
  clear hk
  go_enter Try.func54, Try.ntmps54
  go_wp2_with (go_at_call 51; refine hh.mono ?_; rintro e w1 ⟨rfl, hw1⟩; obtain rfl := hw1.symm)
  go_quiet (fail)
  go_wp2
  go_ret
  exact ⟨_, rfl, rfl⟩
set_option maxHeartbeats 1000000 in
set_option maxRecDepth 1000000 in
theorem iO_const_n (w : World) (tg tj g1 r kc k : Nat) (hr : r ≤ 20000) (q3 : w.cell? ⟨tg, tj + 3, none⟩ = some (.slice (some ⟨g1, 0, none⟩) (r + 1) kc)) (hh : Calls Try.prog 51 #[.pointer (some ⟨tg, tj, none⟩)] w (Pu (.bool true) w)) (hr1 : 1 ≤ r) (hkc : ¬ kc = 1) (c1 : w.cell? ⟨g1, 4, none⟩ = some (.int .i64 (k : Int))) (hk : k ≠ 3) (k0 : w.cell? ⟨g1, 2, none⟩ = some (.string ⟨#[99, 111, 110, 115, 116]⟩)) : Calls Try.prog 54 #[.pointer (some ⟨tg, tj, none⟩)] w (TextD [] w) := by
  have l0 : (0 : Int) < (r : Int) + 1 := by omega
  have l1 : (1 : Int) ≤ (r : Int) + 1 := by omega
  have l2 : (0 : Int) < (r : Int) := by omega
  have ek : (((k : Nat) : Int) == 3) = false := by first | (rw [beq_iff_eq]; omega) | (rw [beq_eq_false_iff_ne]; omega)
  clear hk
  go_enter Try.func54, Try.ntmps54
  go_wp2_with (go_at_call 51; refine hh.mono ?_; rintro e w1 ⟨rfl, hw1⟩; obtain rfl := hw1.symm)
  go_quiet (fail)
  go_wp2
  go_ret
  exact ⟨_, rfl, rfl⟩
set_option maxHeartbeats 1000000 in
set_option maxRecDepth 1000000 in
theorem iO_fun_n (w : World) (tg tj g1 r kc k : Nat) (hr : r ≤ 20000) (q3 : w.cell? ⟨tg, tj + 3, none⟩ = some (.slice (some ⟨g1, 0, none⟩) (r + 1) kc)) (hh : Calls Try.prog 51 #[.pointer (some ⟨tg, tj, none⟩)] w (Pu (.bool true) w)) (hr1 : 1 ≤ r) (hkc : ¬ kc = 1) (c1 : w.cell? ⟨g1, 4, none⟩ = some (.int .i64 (k : Int))) (hk : k ≠ 3) (k0 : w.cell? ⟨g1, 2, none⟩ = some (.string ⟨#[102, 117, 110]⟩)) : Calls Try.prog 54 #[.pointer (some ⟨tg, tj, none⟩)] w (TextD [] w) := by
  have l0 : (0 : Int) < (r : Int) + 1 := by omega
  have l1 : (1 : Int) ≤ (r : Int) + 1 := by omega
  have l2 : (0 : Int) < (r : Int) := by omega
  have ek : (((k : Nat) : Int) == 3) = false := by first | (rw [beq_iff_eq]; omega) | (rw [beq_eq_false_iff_ne]; omega)
  clear hk
  go_enter Try.func54, Try.ntmps54
  go_wp2_with (go_at_call 51; refine hh.mono ?_; rintro e w1 ⟨rfl, hw1⟩; obtain rfl := hw1.symm)
  go_quiet (fail)
  go_wp2
  go_ret
  exact ⟨_, rfl, rfl⟩
set_option maxHeartbeats 1000000 in
set_option maxRecDepth 1000000 in
theorem iO_export_true (w : World) (tg tj g1 r kc k o : Nat) (hr : r ≤ 20000) (q3 : w.cell? ⟨tg, tj + 3, none⟩ = some (.slice (some ⟨g1, 0, none⟩) (r + 1) kc)) (hh : Calls Try.prog 51 #[.pointer (some ⟨tg, tj, none⟩)] w (Pu (.bool true) w)) (ho : o = 4) (b : Bool) (hb : b = true) (nm : Bool) (hr1 : 1 ≤ r) (hkc : ¬ kc = 1) (c1 : w.cell? ⟨g1, 4, none⟩ = some (.int .i64 (k : Int))) (hk : ((k : Int) == 3) = nm) (hat : ∀ u : World, u.heap = w.heap → ∀ c, Calls Try.prog 25 #[.slice (some ⟨g1, o, none⟩) r c] u fun e w' => e = .returned (.bool b) ∧ w' = u) (k0 : w.cell? ⟨g1, 2, none⟩ = some (.string ⟨#[101, 120, 112, 111, 114, 116]⟩)) : Calls Try.prog 54 #[.pointer (some ⟨tg, tj, none⟩)] w (TextD [101, 120, 112, 111, 114, 116] w) := by
  have l0 : (0 : Int) < (r : Int) + 1 := by omega
  have l1 : (1 : Int) ≤ (r : Int) + 1 := by omega
  have l2 : (0 : Int) < (r : Int) := by omega
  subst hb ho
  go_enter Try.func54, Try.ntmps54
  go_wp2_with (go_at_call 51; refine hh.mono ?_; rintro e w1 ⟨rfl, hw1⟩; obtain rfl := hw1.symm)
  go_quiet (fail)
  go_wp2_with (first
    | (go_at_call 25; refine (hat (w.drewN _) rfl _).mono ?_; rintro e w1 ⟨rfl, rfl⟩))
  go_ret
  exact ⟨_, rfl, rfl⟩
set_option maxHeartbeats 1000000 in
set_option maxRecDepth 1000000 in
theorem iO_export_false (w : World) (tg tj g1 r kc k o : Nat) (hr : r ≤ 20000) (q3 : w.cell? ⟨tg, tj + 3, none⟩ = some (.slice (some ⟨g1, 0, none⟩) (r + 1) kc)) (hh : Calls Try.prog 51 #[.pointer (some ⟨tg, tj, none⟩)] w (Pu (.bool true) w)) (ho : o = 4) (b : Bool) (hb : b = false) (nm : Bool) (hr1 : 1 ≤ r) (hkc : ¬ kc = 1) (c1 : w.cell? ⟨g1, 4, none⟩ = some (.int .i64 (k : Int))) (hk : ((k : Int) == 3) = nm) (hat : ∀ u : World, u.heap = w.heap → ∀ c, Calls Try.prog 25 #[.slice (some ⟨g1, o, none⟩) r c] u fun e w' => e = .returned (.bool b) ∧ w' = u) (k0 : w.cell? ⟨g1, 2, none⟩ = some (.string ⟨#[101, 120, 112, 111, 114, 116]⟩)) : Calls Try.prog 54 #[.pointer (some ⟨tg, tj, none⟩)] w (TextD [] w) := by
  have l0 : (0 : Int) < (r : Int) + 1 := by omega
  have l1 : (1 : Int) ≤ (r : Int) + 1 := by omega
  have l2 : (0 : Int) < (r : Int) := by omega
  subst hb ho
  go_enter Try.func54, Try.ntmps54
  go_wp2_with (go_at_call 51; refine hh.mono ?_; rintro e w1 ⟨rfl, hw1⟩; obtain rfl := hw1.symm)
  go_quiet (fail)
  go_wp2_with (first
    | (go_at_call 25; refine (hat (w.drewN _) rfl _).mono ?_; rintro e w1 ⟨rfl, rfl⟩))
  go_ret
  exact ⟨_, rfl, rfl⟩
set_option maxHeartbeats 1000000 in
set_option maxRecDepth 1000000 in
theorem iO_type_ok (w : World) (tg tj g1 r kc k : Nat) (hr : r ≤ 20000) (q3 : w.cell? ⟨tg, tj + 3, none⟩ = some (.slice (some ⟨g1, 0, none⟩) (r + 1) kc)) (hh : Calls Try.prog 51 #[.pointer (some ⟨tg, tj, none⟩)] w (Pu (.bool true) w)) (hr1 : 1 ≤ r) (hkc : ¬ kc = 1) (c1 : w.cell? ⟨g1, 4, none⟩ = some (.int .i64 (k : Int))) (hk : k = 3) (hl : 2 ≤ r) (k0 : w.cell? ⟨g1, 2, none⟩ = some (.string ⟨#[116, 121, 112, 101]⟩)) : Calls Try.prog 54 #[.pointer (some ⟨tg, tj, none⟩)] w (TextD [116, 121, 112, 101] w) := by
  have l0 : (0 : Int) < (r : Int) + 1 := by omega
  have l1 : (1 : Int) ≤ (r : Int) + 1 := by omega
  have l2 : (0 : Int) < (r : Int) := by omega
  subst hk
  have l3 : (2 : Int) ≤ (r : Int) := by omega
  clear hl
  go_enter Try.func54, Try.ntmps54
  go_wp2_with (go_at_call 51; refine hh.mono ?_; rintro e w1 ⟨rfl, hw1⟩; obtain rfl := hw1.symm)
  go_quiet (fail)
  go_wp2
  go_ret
  exact ⟨_, rfl, rfl⟩
set_option maxHeartbeats 1000000 in
set_option maxRecDepth 1000000 in
theorem iO_type_l (w : World) (tg tj g1 r kc k : Nat) (hr : r ≤ 20000) (q3 : w.cell? ⟨tg, tj + 3, none⟩ = some (.slice (some ⟨g1, 0, none⟩) (r + 1) kc)) (hh : Calls Try.prog 51 #[.pointer (some ⟨tg, tj, none⟩)] w (Pu (.bool true) w)) (hr1 : 1 ≤ r) (hkc : ¬ kc = 1) (c1 : w.cell? ⟨g1, 4, none⟩ = some (.int .i64 (k : Int))) (hk : k = 3) (hl : ¬ 2 ≤ r) (k0 : w.cell? ⟨g1, 2, none⟩ = some (.string ⟨#[116, 121, 112, 101]⟩)) : Calls Try.prog 54 #[.pointer (some ⟨tg, tj, none⟩)] w (TextD [] w) := by
  have l0 : (0 : Int) < (r : Int) + 1 := by omega
  have l1 : (1 : Int) ≤ (r : Int) + 1 := by omega
  have l2 : (0 : Int) < (r : Int) := by omega
  subst hk
  have l3 : ¬ (2 : Int) ≤ (r : Int) := by omega
  clear hl
  go_enter Try.func54, Try.ntmps54
  go_wp2_with (go_at_call 51; refine hh.mono ?_; rintro e w1 ⟨rfl, hw1⟩; obtain rfl := hw1.symm)
  go_quiet (fail)
  go_wp2
  go_ret
  exact ⟨_, rfl, rfl⟩
set_option maxHeartbeats 1000000 in
set_option maxRecDepth 1000000 in
theorem iO_const_ok (w : World) (tg tj g1 r kc k : Nat) (hr : r ≤ 20000) (q3 : w.cell? ⟨tg, tj + 3, none⟩ = some (.slice (some ⟨g1, 0, none⟩) (r + 1) kc)) (hh : Calls Try.prog 51 #[.pointer (some ⟨tg, tj, none⟩)] w (Pu (.bool true) w)) (hr1 : 1 ≤ r) (hkc : ¬ kc = 1) (c1 : w.cell? ⟨g1, 4, none⟩ = some (.int .i64 (k : Int))) (hk : k = 3) (hl : r = 3) (k0 : w.cell? ⟨g1, 2, none⟩ = some (.string ⟨#[99, 111, 110, 115, 116]⟩)) : Calls Try.prog 54 #[.pointer (some ⟨tg, tj, none⟩)] w (TextD [99, 111, 110, 115, 116] w) := by
  have l0 : (0 : Int) < (r : Int) + 1 := by omega
  have l1 : (1 : Int) ≤ (r : Int) + 1 := by omega
  have l2 : (0 : Int) < (r : Int) := by omega
  subst hk
  subst hl
  go_enter Try.func54, Try.ntmps54
  go_wp2_with (go_at_call 51; refine hh.mono ?_; rintro e w1 ⟨rfl, hw1⟩; obtain rfl := hw1.symm)
  go_quiet (fail)
  go_wp2
  go_ret
  exact ⟨_, rfl, rfl⟩
set_option maxHeartbeats 1000000 in
set_option maxRecDepth 1000000 in
theorem iO_const_l (w : World) (tg tj g1 r kc k : Nat) (hr : r ≤ 20000) (q3 : w.cell? ⟨tg, tj + 3, none⟩ = some (.slice (some ⟨g1, 0, none⟩) (r + 1) kc)) (hh : Calls Try.prog 51 #[.pointer (some ⟨tg, tj, none⟩)] w (Pu (.bool true) w)) (hr1 : 1 ≤ r) (hkc : ¬ kc = 1) (c1 : w.cell? ⟨g1, 4, none⟩ = some (.int .i64 (k : Int))) (hk : k = 3) (hl : r ≠ 3) (k0 : w.cell? ⟨g1, 2, none⟩ = some (.string ⟨#[99, 111, 110, 115, 116]⟩)) : Calls Try.prog 54 #[.pointer (some ⟨tg, tj, none⟩)] w (TextD [] w) := by
  have l0 : (0 : Int) < (r : Int) + 1 := by omega
  have l1 : (1 : Int) ≤ (r : Int) + 1 := by omega
  have l2 : (0 : Int) < (r : Int) := by omega
  subst hk
  have el : (((r : Nat) : Int) == 3) = false := by first | (rw [beq_iff_eq]; omega) | (rw [beq_eq_false_iff_ne]; omega)
  clear hl
  go_enter Try.func54, Try.ntmps54
  go_wp2_with (go_at_call 51; refine hh.mono ?_; rintro e w1 ⟨rfl, hw1⟩; obtain rfl := hw1.symm)
  go_quiet (fail)
  go_wp2
  go_ret
  exact ⟨_, rfl, rfl⟩
set_option maxHeartbeats 1000000 in
set_option maxRecDepth 1000000 in
theorem iO_fun_l (w : World) (tg tj g1 r kc k : Nat) (hr : r ≤ 20000) (q3 : w.cell? ⟨tg, tj + 3, none⟩ = some (.slice (some ⟨g1, 0, none⟩) (r + 1) kc)) (hh : Calls Try.prog 51 #[.pointer (some ⟨tg, tj, none⟩)] w (Pu (.bool true) w)) (hr1 : 1 ≤ r) (hkc : ¬ kc = 1) (c1 : w.cell? ⟨g1, 4, none⟩ = some (.int .i64 (k : Int))) (hk : k = 3) (hl : r ≠ 4) (k0 : w.cell? ⟨g1, 2, none⟩ = some (.string ⟨#[102, 117, 110]⟩)) : Calls Try.prog 54 #[.pointer (some ⟨tg, tj, none⟩)] w (TextD [] w) := by
  have l0 : (0 : Int) < (r : Int) + 1 := by omega
  have l1 : (1 : Int) ≤ (r : Int) + 1 := by omega
  have l2 : (0 : Int) < (r : Int) := by omega
  subst hk
  have el : (((r : Nat) : Int) == 4) = false := by first | (rw [beq_iff_eq]; omega) | (rw [beq_eq_false_iff_ne]; omega)
  clear hl
  go_enter Try.func54, Try.ntmps54
  go_wp2_with (go_at_call 51; refine hh.mono ?_; rintro e w1 ⟨rfl, hw1⟩; obtain rfl := hw1.symm)
  go_quiet (fail)
  go_wp2
  go_ret
  exact ⟨_, rfl, rfl⟩
set_option maxHeartbeats 1000000 in
set_option maxRecDepth 1000000 in
theorem iO_fun_ok (w : World) (tg tj g1 r kc k : Nat) (hr : r ≤ 20000) (q3 : w.cell? ⟨tg, tj + 3, none⟩ = some (.slice (some ⟨g1, 0, none⟩) (r + 1) kc)) (hh : Calls Try.prog 51 #[.pointer (some ⟨tg, tj, none⟩)] w (Pu (.bool true) w)) (hr1 : 1 ≤ r) (hkc : ¬ kc = 1) (c1 : w.cell? ⟨g1, 4, none⟩ = some (.int .i64 (k : Int))) (hk : k = 3) (hl : r = 4) (k2 : Nat) (hk2 : k2 = 1) (d1 : w.cell? ⟨g1, 8, none⟩ = some (.int .i64 (k2 : Int))) (k0 : w.cell? ⟨g1, 2, none⟩ = some (.string ⟨#[102, 117, 110]⟩)) : Calls Try.prog 54 #[.pointer (some ⟨tg, tj, none⟩)] w (TextD [102, 117, 110] w) := by
  have l0 : (0 : Int) < (r : Int) + 1 := by omega
  have l1 : (1 : Int) ≤ (r : Int) + 1 := by omega
  have l2 : (0 : Int) < (r : Int) := by omega
  subst hk
  subst hl hk2
  go_enter Try.func54, Try.ntmps54
  go_wp2_with (go_at_call 51; refine hh.mono ?_; rintro e w1 ⟨rfl, hw1⟩; obtain rfl := hw1.symm)
  go_quiet (fail)
  go_wp2
  go_ret
  exact ⟨_, rfl, rfl⟩
set_option maxHeartbeats 1000000 in
set_option maxRecDepth 1000000 in
theorem iO_fun_k (w : World) (tg tj g1 r kc k : Nat) (hr : r ≤ 20000) (q3 : w.cell? ⟨tg, tj + 3, none⟩ = some (.slice (some ⟨g1, 0, none⟩) (r + 1) kc)) (hh : Calls Try.prog 51 #[.pointer (some ⟨tg, tj, none⟩)] w (Pu (.bool true) w)) (hr1 : 1 ≤ r) (hkc : ¬ kc = 1) (c1 : w.cell? ⟨g1, 4, none⟩ = some (.int .i64 (k : Int))) (hk : k = 3) (hl : r = 4) (k2 : Nat) (hk2 : k2 ≠ 1) (d1 : w.cell? ⟨g1, 8, none⟩ = some (.int .i64 (k2 : Int))) (k0 : w.cell? ⟨g1, 2, none⟩ = some (.string ⟨#[102, 117, 110]⟩)) : Calls Try.prog 54 #[.pointer (some ⟨tg, tj, none⟩)] w (TextD [] w) := by
  have l0 : (0 : Int) < (r : Int) + 1 := by omega
  have l1 : (1 : Int) ≤ (r : Int) + 1 := by omega
  have l2 : (0 : Int) < (r : Int) := by omega
  subst hk
  subst hl
  have ek2 : (((k2 : Nat) : Int) == 1) = false := by first | (rw [beq_iff_eq]; omega) | (rw [beq_eq_false_iff_ne]; omega)
  clear hk2
  go_enter Try.func54, Try.ntmps54
  go_wp2_with (go_at_call 51; refine hh.mono ?_; rintro e w1 ⟨rfl, hw1⟩; obtain rfl := hw1.symm)
  go_quiet (fail)
  go_wp2
  go_ret
  exact ⟨_, rfl, rfl⟩
set_option maxHeartbeats 1000000 in
set_option maxRecDepth 1000000 in
theorem iO_none (w : World) (tg tj g1 r kc k : Nat) (hr : r ≤ 20000) (q3 : w.cell? ⟨tg, tj + 3, none⟩ = some (.slice (some ⟨g1, 0, none⟩) (r + 1) kc)) (hh : Calls Try.prog 51 #[.pointer (some ⟨tg, tj, none⟩)] w (Pu (.bool true) w)) (h : List UInt8) (h1 : h ≠ importK) (h2 : h ≠ exportK) (h3 : h ≠ typeK) (h4 : h ≠ constK) (h5 : h ≠ funK) (nm : Bool) (hr1 : 1 ≤ r) (hkc : ¬ kc = 1) (c1 : w.cell? ⟨g1, 4, none⟩ = some (.int .i64 (k : Int))) (hk : ((k : Int) == 3) = nm) (k0 : w.cell? ⟨g1, 2, none⟩ = some (.string (str h))) : Calls Try.prog 54 #[.pointer (some ⟨tg, tj, none⟩)] w (TextD [] w) := by
  have l0 : (0 : Int) < (r : Int) + 1 := by omega
  have l1 : (1 : Int) ≤ (r : Int) + 1 := by omega
  have s1 := str_ne h1
  have s2 := str_ne h2
  have s3 := str_ne h3
  have s4 := str_ne h4
  have s5 := str_ne h5
  unfold importK at s1
  unfold exportK at s2
  unfold typeK at s3
  unfold constK at s4
  unfold funK at s5
  clear h1 h2 h3 h4 h5
  have l2 : (0 : Int) < (r : Int) := by omega
  go_enter Try.func54, Try.ntmps54
  go_wp2_with (go_at_call 51; refine hh.mono ?_; rintro e w1 ⟨rfl, hw1⟩; obtain rfl := hw1.symm)
  go_quiet (fail)
  go_wp2
  go_ret
  exact ⟨_, rfl, rfl⟩
set_option maxHeartbeats 1000000 in
set_option maxRecDepth 1000000 in
theorem iO_import_z (w : World) (tg tj g1 r kc : Nat) (hr : r ≤ 20000) (q3 : w.cell? ⟨tg, tj + 3, none⟩ = some (.slice (some ⟨g1, 0, none⟩) (r + 1) kc)) (hh : Calls Try.prog 51 #[.pointer (some ⟨tg, tj, none⟩)] w (Pu (.bool true) w)) (hr0 : r = 0) (hkc : kc = 1) (k0 : w.cell? ⟨g1, 2, none⟩ = some (.string ⟨#[105, 109, 112, 111, 114, 116]⟩)) : Calls Try.prog 54 #[.pointer (some ⟨tg, tj, none⟩)] w (TextD [] w) := by
  have l0 : (0 : Int) < (r : Int) + 1 := by omega
  have l1 : (1 : Int) ≤ (r : Int) + 1 := by omega
  subst hr0 hkc
  go_enter Try.func54, Try.ntmps54
  go_wp2_with (go_at_call 51; refine hh.mono ?_; rintro e w1 ⟨rfl, hw1⟩; obtain rfl := hw1.symm)
  go_quiet (fail)
  go_wp2
  go_ret
  exact ⟨_, rfl, rfl⟩
set_option maxHeartbeats 1000000 in
set_option maxRecDepth 1000000 in
theorem iO_type_z (w : World) (tg tj g1 r kc : Nat) (hr : r ≤ 20000) (q3 : w.cell? ⟨tg, tj + 3, none⟩ = some (.slice (some ⟨g1, 0, none⟩) (r + 1) kc)) (hh : Calls Try.prog 51 #[.pointer (some ⟨tg, tj, none⟩)] w (Pu (.bool true) w)) (hr0 : r = 0) (hkc : kc = 1) (k0 : w.cell? ⟨g1, 2, none⟩ = some (.string ⟨#[116, 121, 112, 101]⟩)) : Calls Try.prog 54 #[.pointer (some ⟨tg, tj, none⟩)] w (TextD [] w) := by
  have l0 : (0 : Int) < (r : Int) + 1 := by omega
  have l1 : (1 : Int) ≤ (r : Int) + 1 := by omega
  subst hr0 hkc
  go_enter Try.func54, Try.ntmps54
  go_wp2_with (go_at_call 51; refine hh.mono ?_; rintro e w1 ⟨rfl, hw1⟩; obtain rfl := hw1.symm)
  go_quiet (fail)
  go_wp2
  go_ret
  exact ⟨_, rfl, rfl⟩
set_option maxHeartbeats 1000000 in
set_option maxRecDepth 1000000 in
theorem iO_const_z (w : World) (tg tj g1 r kc : Nat) (hr : r ≤ 20000) (q3 : w.cell? ⟨tg, tj + 3, none⟩ = some (.slice (some ⟨g1, 0, none⟩) (r + 1) kc)) (hh : Calls Try.prog 51 #[.pointer (some ⟨tg, tj, none⟩)] w (Pu (.bool true) w)) (hr0 : r = 0) (hkc : kc = 1) (k0 : w.cell? ⟨g1, 2, none⟩ = some (.string ⟨#[99, 111, 110, 115, 116]⟩)) : Calls Try.prog 54 #[.pointer (some ⟨tg, tj, none⟩)] w (TextD [] w) := by
  have l0 : (0 : Int) < (r : Int) + 1 := by omega
  have l1 : (1 : Int) ≤ (r : Int) + 1 := by omega
  subst hr0 hkc
  go_enter Try.func54, Try.ntmps54
  go_wp2_with (go_at_call 51; refine hh.mono ?_; rintro e w1 ⟨rfl, hw1⟩; obtain rfl := hw1.symm)
  go_quiet (fail)
  go_wp2
  go_ret
  exact ⟨_, rfl, rfl⟩
set_option maxHeartbeats 1000000 in
set_option maxRecDepth 1000000 in
theorem iO_fun_z (w : World) (tg tj g1 r kc : Nat) (hr : r ≤ 20000) (q3 : w.cell? ⟨tg, tj + 3, none⟩ = some (.slice (some ⟨g1, 0, none⟩) (r + 1) kc)) (hh : Calls Try.prog 51 #[.pointer (some ⟨tg, tj, none⟩)] w (Pu (.bool true) w)) (hr0 : r = 0) (hkc : kc = 1) (k0 : w.cell? ⟨g1, 2, none⟩ = some (.string ⟨#[102, 117, 110]⟩)) : Calls Try.prog 54 #[.pointer (some ⟨tg, tj, none⟩)] w (TextD [] w) := by
  have l0 : (0 : Int) < (r : Int) + 1 := by omega
  have l1 : (1 : Int) ≤ (r : Int) + 1 := by omega
  subst hr0 hkc
  go_enter Try.func54, Try.ntmps54
  go_wp2_with (go_at_call 51; refine hh.mono ?_; rintro e w1 ⟨rfl, hw1⟩; obtain rfl := hw1.symm)
  go_quiet (fail)
  go_wp2
  go_ret
  exact ⟨_, rfl, rfl⟩
set_option maxHeartbeats 1000000 in
set_option maxRecDepth 1000000 in
theorem iO_export_z (w : World) (tg tj g1 r kc o : Nat) (hr : r ≤ 20000) (q3 : w.cell? ⟨tg, tj + 3, none⟩ = some (.slice (some ⟨g1, 0, none⟩) (r + 1) kc)) (hh : Calls Try.prog 51 #[.pointer (some ⟨tg, tj, none⟩)] w (Pu (.bool true) w)) (ho : o = 0) (b : Bool) (hb : b = true) (hr0 : r = 0) (hkc : kc = 1) (hat : ∀ u : World, u.heap = w.heap → ∀ c, Calls Try.prog 25 #[.slice (some ⟨g1, o, none⟩) r c] u fun e w' => e = .returned (.bool b) ∧ w' = u) (k0 : w.cell? ⟨g1, 2, none⟩ = some (.string ⟨#[101, 120, 112, 111, 114, 116]⟩)) : Calls Try.prog 54 #[.pointer (some ⟨tg, tj, none⟩)] w (TextD [101, 120, 112, 111, 114, 116] w) := by
  have l0 : (0 : Int) < (r : Int) + 1 := by omega
  have l1 : (1 : Int) ≤ (r : Int) + 1 := by omega
  subst hr0 hb ho hkc
  go_enter Try.func54, Try.ntmps54
  go_wp2_with (go_at_call 51; refine hh.mono ?_; rintro e w1 ⟨rfl, hw1⟩; obtain rfl := hw1.symm)
  go_quiet (fail)
  go_wp2_with (first
    | (go_at_call 25; refine (hat (w.drewN _) rfl _).mono ?_; rintro e w1 ⟨rfl, rfl⟩))
  go_ret
  exact ⟨_, rfl, rfl⟩
set_option maxHeartbeats 1000000 in
set_option maxRecDepth 1000000 in
theorem iO_none_z (w : World) (tg tj g1 r kc : Nat) (hr : r ≤ 20000) (q3 : w.cell? ⟨tg, tj + 3, none⟩ = some (.slice (some ⟨g1, 0, none⟩) (r + 1) kc)) (hh : Calls Try.prog 51 #[.pointer (some ⟨tg, tj, none⟩)] w (Pu (.bool true) w)) (h : List UInt8) (h1 : h ≠ importK) (h2 : h ≠ exportK) (h3 : h ≠ typeK) (h4 : h ≠ constK) (h5 : h ≠ funK) (hr0 : r = 0) (hkc : kc = 1) (k0 : w.cell? ⟨g1, 2, none⟩ = some (.string (str h))) : Calls Try.prog 54 #[.pointer (some ⟨tg, tj, none⟩)] w (TextD [] w) := by
  have l0 : (0 : Int) < (r : Int) + 1 := by omega
  have l1 : (1 : Int) ≤ (r : Int) + 1 := by omega
  have s1 := str_ne h1
  have s2 := str_ne h2
  have s3 := str_ne h3
  have s4 := str_ne h4
  have s5 := str_ne h5
  unfold importK at s1
  unfold exportK at s2
  unfold typeK at s3
  unfold constK at s4
  unfold funK at s5
  clear h1 h2 h3 h4 h5
  subst hr0 hkc
  go_enter Try.func54, Try.ntmps54
  go_wp2_with (go_at_call 51; refine hh.mono ?_; rintro e w1 ⟨rfl, hw1⟩; obtain rfl := hw1.symm)
  go_quiet (fail)
  go_wp2
  go_ret
  exact ⟨_, rfl, rfl⟩
set_option maxHeartbeats 1000000 in
set_option maxRecDepth 1000000 in
theorem iO_import_y (w : World) (tg tj g1 r kc : Nat) (hr : r ≤ 20000) (q3 : w.cell? ⟨tg, tj + 3, none⟩ = some (.slice (some ⟨g1, 0, none⟩) (r + 1) kc)) (hh : Calls Try.prog 51 #[.pointer (some ⟨tg, tj, none⟩)] w (Pu (.bool true) w)) (hr0 : r = 0) (hkc : ¬ kc = 1) (k0 : w.cell? ⟨g1, 2, none⟩ = some (.string ⟨#[105, 109, 112, 111, 114, 116]⟩)) : Calls Try.prog 54 #[.pointer (some ⟨tg, tj, none⟩)] w (TextD [] w) := by
  have l0 : (0 : Int) < (r : Int) + 1 := by omega
  have l1 : (1 : Int) ≤ (r : Int) + 1 := by omega
  subst hr0
  go_enter Try.func54, Try.ntmps54
  go_wp2_with (go_at_call 51; refine hh.mono ?_; rintro e w1 ⟨rfl, hw1⟩; obtain rfl := hw1.symm)
  go_quiet (fail)
  go_wp2
  go_ret
  exact ⟨_, rfl, rfl⟩
set_option maxHeartbeats 1000000 in
set_option maxRecDepth 1000000 in
theorem iO_type_y (w : World) (tg tj g1 r kc : Nat) (hr : r ≤ 20000) (q3 : w.cell? ⟨tg, tj + 3, none⟩ = some (.slice (some ⟨g1, 0, none⟩) (r + 1) kc)) (hh : Calls Try.prog 51 #[.pointer (some ⟨tg, tj, none⟩)] w (Pu (.bool true) w)) (hr0 : r = 0) (hkc : ¬ kc = 1) (k0 : w.cell? ⟨g1, 2, none⟩ = some (.string ⟨#[116, 121, 112, 101]⟩)) : Calls Try.prog 54 #[.pointer (some ⟨tg, tj, none⟩)] w (TextD [] w) := by
  have l0 : (0 : Int) < (r : Int) + 1 := by omega
  have l1 : (1 : Int) ≤ (r : Int) + 1 := by omega
  subst hr0
  go_enter Try.func54, Try.ntmps54
  go_wp2_with (go_at_call 51; refine hh.mono ?_; rintro e w1 ⟨rfl, hw1⟩; obtain rfl := hw1.symm)
  go_quiet (fail)
  go_wp2
  go_ret
  exact ⟨_, rfl, rfl⟩
set_option maxHeartbeats 1000000 in
set_option maxRecDepth 1000000 in
theorem iO_const_y (w : World) (tg tj g1 r kc : Nat) (hr : r ≤ 20000) (q3 : w.cell? ⟨tg, tj + 3, none⟩ = some (.slice (some ⟨g1, 0, none⟩) (r + 1) kc)) (hh : Calls Try.prog 51 #[.pointer (some ⟨tg, tj, none⟩)] w (Pu (.bool true) w)) (hr0 : r = 0) (hkc : ¬ kc = 1) (k0 : w.cell? ⟨g1, 2, none⟩ = some (.string ⟨#[99, 111, 110, 115, 116]⟩)) : Calls Try.prog 54 #[.pointer (some ⟨tg, tj, none⟩)] w (TextD [] w) := by
  have l0 : (0 : Int) < (r : Int) + 1 := by omega
  have l1 : (1 : Int) ≤ (r : Int) + 1 := by omega
  subst hr0
  go_enter Try.func54, Try.ntmps54
  go_wp2_with (go_at_call 51; refine hh.mono ?_; rintro e w1 ⟨rfl, hw1⟩; obtain rfl := hw1.symm)
  go_quiet (fail)
  go_wp2
  go_ret
  exact ⟨_, rfl, rfl⟩
set_option maxHeartbeats 1000000 in
set_option maxRecDepth 1000000 in
theorem iO_fun_y (w : World) (tg tj g1 r kc : Nat) (hr : r ≤ 20000) (q3 : w.cell? ⟨tg, tj + 3, none⟩ = some (.slice (some ⟨g1, 0, none⟩) (r + 1) kc)) (hh : Calls Try.prog 51 #[.pointer (some ⟨tg, tj, none⟩)] w (Pu (.bool true) w)) (hr0 : r = 0) (hkc : ¬ kc = 1) (k0 : w.cell? ⟨g1, 2, none⟩ = some (.string ⟨#[102, 117, 110]⟩)) : Calls Try.prog 54 #[.pointer (some ⟨tg, tj, none⟩)] w (TextD [] w) := by
  have l0 : (0 : Int) < (r : Int) + 1 := by omega
  have l1 : (1 : Int) ≤ (r : Int) + 1 := by omega
  subst hr0
  go_enter Try.func54, Try.ntmps54
  go_wp2_with (go_at_call 51; refine hh.mono ?_; rintro e w1 ⟨rfl, hw1⟩; obtain rfl := hw1.symm)
  go_quiet (fail)
  go_wp2
  go_ret
  exact ⟨_, rfl, rfl⟩
set_option maxHeartbeats 1000000 in
set_option maxRecDepth 1000000 in
theorem iO_export_y (w : World) (tg tj g1 r kc o : Nat) (hr : r ≤ 20000) (q3 : w.cell? ⟨tg, tj + 3, none⟩ = some (.slice (some ⟨g1, 0, none⟩) (r + 1) kc)) (hh : Calls Try.prog 51 #[.pointer (some ⟨tg, tj, none⟩)] w (Pu (.bool true) w)) (ho : o = 4) (b : Bool) (hb : b = true) (hr0 : r = 0) (hkc : ¬ kc = 1) (hat : ∀ u : World, u.heap = w.heap → ∀ c, Calls Try.prog 25 #[.slice (some ⟨g1, o, none⟩) r c] u fun e w' => e = .returned (.bool b) ∧ w' = u) (k0 : w.cell? ⟨g1, 2, none⟩ = some (.string ⟨#[101, 120, 112, 111, 114, 116]⟩)) : Calls Try.prog 54 #[.pointer (some ⟨tg, tj, none⟩)] w (TextD [101, 120, 112, 111, 114, 116] w) := by
  have l0 : (0 : Int) < (r : Int) + 1 := by omega
  have l1 : (1 : Int) ≤ (r : Int) + 1 := by omega
  subst hr0 hb ho
  go_enter Try.func54, Try.ntmps54
  go_wp2_with (go_at_call 51; refine hh.mono ?_; rintro e w1 ⟨rfl, hw1⟩; obtain rfl := hw1.symm)
  go_quiet (fail)
  go_wp2_with (first
    | (go_at_call 25; refine (hat (w.drewN _) rfl _).mono ?_; rintro e w1 ⟨rfl, rfl⟩))
  go_ret
  exact ⟨_, rfl, rfl⟩
set_option maxHeartbeats 1000000 in
set_option maxRecDepth 1000000 in
theorem iO_none_y (w : World) (tg tj g1 r kc : Nat) (hr : r ≤ 20000) (q3 : w.cell? ⟨tg, tj + 3, none⟩ = some (.slice (some ⟨g1, 0, none⟩) (r + 1) kc)) (hh : Calls Try.prog 51 #[.pointer (some ⟨tg, tj, none⟩)] w (Pu (.bool true) w)) (h : List UInt8) (h1 : h ≠ importK) (h2 : h ≠ exportK) (h3 : h ≠ typeK) (h4 : h ≠ constK) (h5 : h ≠ funK) (hr0 : r = 0) (hkc : ¬ kc = 1) (k0 : w.cell? ⟨g1, 2, none⟩ = some (.string (str h))) : Calls Try.prog 54 #[.pointer (some ⟨tg, tj, none⟩)] w (TextD [] w) := by
  have l0 : (0 : Int) < (r : Int) + 1 := by omega
  have l1 : (1 : Int) ≤ (r : Int) + 1 := by omega
  have s1 := str_ne h1
  have s2 := str_ne h2
  have s3 := str_ne h3
  have s4 := str_ne h4
  have s5 := str_ne h5
  unfold importK at s1
  unfold exportK at s2
  unfold typeK at s3
  unfold constK at s4
  unfold funK at s5
  clear h1 h2 h3 h4 h5
  subst hr0
  go_enter Try.func54, Try.ntmps54
  go_wp2_with (go_at_call 51; refine hh.mono ?_; rintro e w1 ⟨rfl, hw1⟩; obtain rfl := hw1.symm)
  go_quiet (fail)
  go_wp2
  go_ret
  exact ⟨_, rfl, rfl⟩
end Go.Proofs.Ytchfhkfepghfjaa
