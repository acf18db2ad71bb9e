/-
  The package's Parse and the document's: what each call answers.
-/
import Derived.Test.YtldbfldonkcjmabDoorParse
namespace Go.Proofs.YtldbfldonkcjmabDoor
open Go.RowKit Ieee

def minusAhead (s : ByteArray) : Bool := s.data.toList.head? == some 45
def cutS (s : ByteArray) : ByteArray := if minusAhead s then s.extract 1 s.size else s
def right3 (p q : Int) : Int × Int × Bool := if p.natAbs ≤ 1048576 ∧ q.natAbs ≤ 1048576 then (p, q, true) else (0, 0, false)
def sgn (b : Bool) (n : Nat) : Int := if b then -(n : Int) else (n : Int)
def tailW (N : ByteArray → Nat) (p : Int) (m : Bool) (s2 : ByteArray) : Int × Int × Bool :=
  if (pre s2).length = 0 then (0, 0, false) else if ((s2.extract (pre s2).length s2.size).toList == [105]) = true then right3 p (sgn m (N s2)) else (0, 0, false)
def restW (N : ByteArray → Nat) (p : Int) (r : ByteArray) : Int × Int × Bool :=
  if r.toList.isEmpty = true then right3 p 0 else if (r.toList == [105]) = true then right3 0 p
  else if r.data.toList.head? = some 43 then tailW N p false (r.extract 1 r.size) else if r.data.toList.head? = some 45 then tailW N p true (r.extract 1 r.size) else (0, 0, false)
def parseW (N : ByteArray → Nat) (s : ByteArray) : Int × Int × Bool :=
  if (pre (cutS s)).length = 0 then (0, 0, false) else restW N (sgn (minusAhead s) (N (cutS s))) ((cutS s).extract (pre (cutS s)).length (cutS s).size)
def ParseE (r : Int × Int × Bool) (w : World) (e : Ending) (w' : World) : Prop :=
  e = .returned (.tuple #[.complex .f64 (floatOfInt .f64 r.1) (floatOfInt .f64 r.2.1), .bool r.2.2]) ∧ ∃ n, w' = w.drewN n

theorem extract_list (s : ByteArray) (a : Nat) : s.extract a s.size = ⟨(s.data.toList.drop a).toArray⟩ := by
  have := Lib.extract_to_end s a
  apply ByteArray.ext
  apply Array.ext'
  rw [this]
theorem cut (s : ByteArray) (w : World) : Calls Tryd.prog 14 #[.string s, .string ⟨#[45]⟩] w (Pu (.tuple #[.string (cutS s), .bool (minusAhead s)]) w) := by
  have h := Tryd.strings_CutPrefix s ⟨#[45]⟩ w
  have e1 : Lib.hasPrefix s.data.toList [45] = minusAhead s := by
    unfold Lib.hasPrefix minusAhead
    cases s.data.toList with
    | nil => rfl
    | cons x r =>
      simp only [List.isPrefixOf, List.head?_cons, Bool.and_true]
      by_cases hx : x = 45
      · subst hx; rfl
      · have h1 : (45 == x) = false := by simpa using fun e => hx e.symm
        rw [h1]
        simpa using hx
  have e2 : (⟨(Lib.trimPrefix s.data.toList [45]).toArray⟩ : ByteArray) = cutS s := by
    unfold Lib.trimPrefix cutS
    rw [e1]
    split
    · rw [extract_list]; rfl
    · rfl
  have e3 : (⟨#[45]⟩ : ByteArray).data.toList = [45] := rfl
  rw [e3, e1, e2] at h
  exact h
theorem extract_size (s : ByteArray) (a : Nat) : (s.extract a s.size).size ≤ s.size := by
  simp only [ByteArray.size_extract]
  omega
theorem cutS_size (s : ByteArray) : (cutS s).size ≤ s.size := by
  unfold cutS
  split
  · exact extract_size s 1
  · exact Nat.le_refl _

theorem fold_le (acc : Nat → UInt8 → Nat) (B : Nat) (hacc : ∀ n c, n ≤ B → dig c = true → acc n c ≤ B) : ∀ (l : List UInt8) (n : Nat), (∀ c ∈ l, dig c = true) → n ≤ B → l.foldl acc n ≤ B
  | [], n, _, h => h
  | x :: r, n, h1, h => fold_le acc B hacc r _ (fun c hc => h1 c (by simp [hc])) (hacc n x h (h1 x (by simp)))
theorem all_pre (s : ByteArray) : ∀ c ∈ pre s, dig c = true := by
  have : ∀ l : List UInt8, ∀ c ∈ l.takeWhile dig, dig c = true := by
    intro l
    induction l with
    | nil => simp
    | cons x r ih =>
      by_cases hx : dig x = true
      · rw [List.takeWhile_cons_of_pos hx]
        intro c hc
        rcases List.mem_cons.1 hc with rfl | hc
        · exact hx
        · exact ih c hc
      · rw [List.takeWhile_cons_of_neg hx]
        simp
  exact this _
theorem dig_le {c : UInt8} (h : dig c = true) : c.toNat - 48 ≤ 9 := by
  simp only [dig, Bool.and_eq_true, decide_eq_true_eq] at h
  omega
theorem numA_le (s : ByteArray) : numA s ≤ 10485769 := fold_le accA _ (fun n c hn hc => by have := dig_le hc; unfold accA; split <;> omega) _ 0 (all_pre s) (by decide)
theorem numB_le (s : ByteArray) : numB s ≤ 10995116277769 := fold_le accB _ (fun n c hn hc => by have := dig_le hc; unfold accB; split <;> omega) _ 0 (all_pre s) (by decide)
/-- The two numbers are the same, or are both too great. -/
theorem numAB (s : ByteArray) : numA s = numB s ∨ (1048576 < numA s ∧ 1048576 < numB s) := by
  have : ∀ (l : List UInt8) (n m : Nat), (n = m ∧ n ≤ 1048576) ∨ (1048576 < n ∧ 1048576 < m) → (l.foldl accA n = l.foldl accB m ∧ l.foldl accA n ≤ 1048576) ∨ (1048576 < l.foldl accA n ∧ 1048576 < l.foldl accB m) := by
    intro l
    induction l with
    | nil => intro n m h; exact h
    | cons x r ih =>
      intro n m h
      refine ih _ _ ?_
      unfold accA accB
      split <;> split <;> omega
  rcases this (pre s) 0 0 (.inl ⟨rfl, by decide⟩) with h | h
  · exact .inl h.1
  · exact .inr h
theorem right3_big (p q : Int) (h : 1048576 < p.natAbs ∨ 1048576 < q.natAbs) : right3 p q = (0, 0, false) := if_neg (by omega)
theorem sgn_abs (b : Bool) (n : Nat) : (sgn b n).natAbs = n := by cases b <;> simp [sgn]
theorem tailAB (p p' : Int) (h : p = p' ∨ (1048576 < p.natAbs ∧ 1048576 < p'.natAbs)) (m : Bool) (s : ByteArray) : tailW numA p m s = tailW numB p' m s := by
  unfold tailW
  split
  · rfl
  split
  · rcases h with rfl | h
    · rcases numAB s with e | e
      · rw [e]
      · rw [right3_big _ _ (.inr (by rw [sgn_abs]; exact e.1)), right3_big _ _ (.inr (by rw [sgn_abs]; exact e.2))]
    · rw [right3_big _ _ (.inl h.1), right3_big _ _ (.inl h.2)]
  · rfl
theorem restAB (p p' : Int) (h : p = p' ∨ (1048576 < p.natAbs ∧ 1048576 < p'.natAbs)) (r : ByteArray) : restW numA p r = restW numB p' r := by
  unfold restW
  split
  · rcases h with rfl | h
    · rfl
    · rw [right3_big _ _ (.inl h.1), right3_big _ _ (.inl h.2)]
  split
  · rcases h with rfl | h
    · rfl
    · rw [right3_big _ _ (.inr h.1), right3_big _ _ (.inr h.2)]
  split
  · exact tailAB p p' h _ _
  split
  · exact tailAB p p' h _ _
  · rfl
theorem parseAB (s : ByteArray) : parseW numA s = parseW numB s := by
  unfold parseW
  split
  · rfl
  · refine restAB _ _ ?_ _
    rcases numAB (cutS s) with e | e
    · rw [e]; exact .inl rfl
    · exact .inr (by rw [sgn_abs, sgn_abs]; exact e)

set_option maxRecDepth 1000000 in
theorem ifRight (p q : Int) (hp : p.natAbs < 9007199254740992) (hq : q.natAbs < 9007199254740992) (w : World) : Calls Tryd.prog 16 #[.complex .f64 (floatOfInt .f64 p) (floatOfInt .f64 q)] w (ParseE (right3 p q) w) := by
  have f1 := Fl.mk p hp
  have f2 := Fl.mk q hq
  have l1 := fl_lt p
  have l2 := fl_lt q
  by_cases hf : p.natAbs ≤ 1048576 ∧ q.natAbs ≤ 1048576
  · rw [right3, if_pos hf]
    have hR := right_yes _ _ p q l1 l2 ⟨f1, hf.1⟩ ⟨f2, hf.2⟩
    go_enter Tryd.func16, Tryd.ntmps16
    go_wp2_with fail
    refine (hR _).mono ?_
    rintro e w1 ⟨rfl, rfl⟩
    go_wp2
    go_ret2
    exact ⟨rfl, 0, rfl⟩
  · rw [right3, if_neg hf]
    have hN : NotRt (floatOfInt .f64 p) ∨ NotRt (floatOfInt .f64 q) := by
      by_cases h : p.natAbs ≤ 1048576
      · exact .inr (not_rt f2 (fun h' => hf ⟨h, h'⟩))
      · exact .inl (not_rt f1 h)
    have hR := right_no _ _ l1 l2 hN
    go_enter Tryd.func16, Tryd.ntmps16
    go_wp2_with fail
    refine (hR _).mono ?_
    rintro e w1 ⟨rfl, rfl⟩
    go_wp2
    go_ret2
    exact ⟨by rw [fl_zero]; rfl, 0, rfl⟩
end Go.Proofs.YtldbfldonkcjmabDoor
