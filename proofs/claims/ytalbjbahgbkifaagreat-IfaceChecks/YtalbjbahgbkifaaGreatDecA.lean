/-
  Reading an interface of bytes, as functions; what is written is read, what is read is written. No program in it.
  And: Rows of cases and of items that a reader makes, one put behind the others. The package's small readers: a type's text; is the reader refused? The package's readList, at texts. The package's readCase. The package's readList, at cases. The package's readItem. The package's readList, at items. What is read is no longer than it may be. No program in it. The package's Decode.
-/
import Derived.Test.YtalbjbahgbkifaaGreatIfaceBytes
import Derived.Test.YtalbjbahgbkifaaGreatWireMath
import Derived.Deep.AppendLies
import Derived.Test.YtalbjbahgbkifaaGreatIfcB
import Derived.Deep.LoopGhost
import Derived.Test.YtalbjbahgbkifaaGreatIfaceKnown
import Derived.Test.YtalbjbahgbkifaaGreatIfaceMem
namespace Go.Proofs.YtalbjbahgbkifaaGreat
open Wire (rNum rTake rEnd enc)

def txtR (l : List Nat) (most p y : Nat) : List UInt8 × Nat × Nat :=
  ((rTake l (rNum l p y most).2.1 (rNum l p y most).2.2 (rNum l p y most).1).1.map UInt8.ofNat, (rTake l (rNum l p y most).2.1 (rNum l p y most).2.2 (rNum l p y most).1).2.1, (rTake l (rNum l p y most).2.1 (rNum l p y most).2.2 (rNum l p y most).1).2.2)
def badW (y : Nat) : Bool := decide (y ≠ 0) && decide (y ≠ 11)
def listF {α : Type} (rd : Nat → Nat → α × Nat × Nat) : Nat → Nat → Nat → List α → List α × Nat × Nat
  | 0, p, y, acc => (acc, p, y)
  | n + 1, p, y, acc => if badW (rd p y).2.2 = true then ([], (rd p y).2.1, (rd p y).2.2) else listF rd n (rd p y).2.1 (rd p y).2.2 (acc ++ [(rd p y).1])
def listR {α : Type} (l : List Nat) (rd : Nat → Nat → α × Nat × Nat) (p y : Nat) : List α × Nat × Nat := listF rd (rNum l p y 65535).1 (rNum l p y 65535).2.1 (rNum l p y 65535).2.2 []
def caseR (l : List Nat) (p y : Nat) : Cs × Nat × Nat :=
  (((txtR l 24 p y).1, (listR l (txtR l 200) (txtR l 24 p y).2.1 (txtR l 24 p y).2.2).1), (listR l (txtR l 200) (txtR l 24 p y).2.1 (txtR l 24 p y).2.2).2)
/-- An item behind its kind and its name. -/
def itemT (l : List Nat) (k : Nat) (nm : List UInt8) (p y : Nat) : It × Nat × Nat :=
  if k = 1 then (⟨(k : Int), nm, [], (listR l (caseR l) p y).1⟩, (listR l (caseR l) p y).2) else (⟨(k : Int), nm, (txtR l 200 p y).1, []⟩, (txtR l 200 p y).2)
def itemN (l : List Nat) (k p y : Nat) : It × Nat × Nat := itemT l k (txtR l 24 p y).1 (txtR l 24 p y).2.1 (txtR l 24 p y).2.2
def itemR (l : List Nat) (p y : Nat) : It × Nat × Nat := itemN l (rNum l p y 65535).1 (rNum l p y 65535).2.1 (rNum l p y 65535).2.2
def itemsR (l : List Nat) : List It × Nat × Nat := listR l (itemR l) (txtR l 24 0 0).2.1 (txtR l 24 0 0).2.2
def endR (l : List Nat) : Nat × Nat := rEnd l (itemsR l).2.1 (itemsR l).2.2
/-- Why it is refused, and where; 0: it isn't. -/
def whyD (l : List Nat) : Nat × Nat := if (endR l).1 ≠ 0 then endR l else (rightI (txtR l 24 0 0).1 (itemsR l).1, 0)

theorem take_le (l : List Nat) (p y n : Nat) (hp : p ≤ l.length) : (rTake l p y (n : Int)).2.1 ≤ l.length := by
  unfold rTake
  split
  · exact hp
  · split
    · simp
    · simp
      omega
theorem txt_le (l : List Nat) (most p y : Nat) (hp : p ≤ l.length) : (txtR l most p y).2.1 ≤ l.length := take_le l _ _ _ (Wire.rNum_le l p y most hp)
theorem num_stick (l : List Nat) (most p y : Nat) (h : y ≠ 0) : rNum l p y most = (0, p, y) := by simp [rNum, h]
theorem take_stick (l : List Nat) (p y : Nat) (n : Int) (h : y ≠ 0) : rTake l p y n = ([], p, y) := by simp [rTake, h]
theorem txt_stick (l : List Nat) (most p y : Nat) (h : y ≠ 0) : (txtR l most p y).2.2 = y := by
  unfold txtR
  rw [num_stick l most p y h, take_stick l p y _ h]
theorem listF_le {α : Type} {l : List Nat} {rd : Nat → Nat → α × Nat × Nat} (hrd : ∀ p y, p ≤ l.length → (rd p y).2.1 ≤ l.length) : ∀ (n p y : Nat) (acc : List α), p ≤ l.length → (listF rd n p y acc).2.1 ≤ l.length
  | 0, p, y, acc, h => h
  | n + 1, p, y, acc, h => by
    rw [listF]
    split
    · exact hrd p y h
    · exact listF_le hrd n _ _ _ (hrd p y h)
theorem list_le {α : Type} {l : List Nat} {rd : Nat → Nat → α × Nat × Nat} (hrd : ∀ p y, p ≤ l.length → (rd p y).2.1 ≤ l.length) (p y : Nat) (h : p ≤ l.length) : (listR l rd p y).2.1 ≤ l.length := listF_le hrd _ _ _ _ (Wire.rNum_le l p y 65535 h)
theorem list_stick {α : Type} (l : List Nat) (rd : Nat → Nat → α × Nat × Nat) (p y : Nat) (h : y ≠ 0) : (listR l rd p y).2.2 = y := by
  unfold listR
  rw [num_stick l 65535 p y h]
  rfl
theorem case_le (l : List Nat) (p y : Nat) (h : p ≤ l.length) : (caseR l p y).2.1 ≤ l.length := list_le (txt_le l 200) _ _ (txt_le l 24 p y h)
theorem case_stick (l : List Nat) (p y : Nat) (h : y ≠ 0) : (caseR l p y).2.2 = y := by
  unfold caseR
  have e := txt_stick l 24 p y h
  show (listR l (txtR l 200) (txtR l 24 p y).2.1 (txtR l 24 p y).2.2).2.2 = y
  rw [list_stick _ _ _ _ (by rw [e]; exact h), e]
theorem itemT_le (l : List Nat) (k : Nat) (nm : List UInt8) (p y : Nat) (h : p ≤ l.length) : (itemT l k nm p y).2.1 ≤ l.length := by
  unfold itemT
  split
  · exact list_le (case_le l) _ _ h
  · exact txt_le l 200 p y h
theorem item_le (l : List Nat) (p y : Nat) (h : p ≤ l.length) : (itemR l p y).2.1 ≤ l.length := itemT_le l _ _ _ _ (txt_le l 24 _ _ (Wire.rNum_le l p y 65535 h))
theorem itemT_stick (l : List Nat) (k : Nat) (nm : List UInt8) (p y : Nat) (h : y ≠ 0) : (itemT l k nm p y).2.2 = y := by
  unfold itemT
  split
  · exact list_stick _ _ _ _ h
  · exact txt_stick l 200 p y h
theorem item_stick (l : List Nat) (p y : Nat) (h : y ≠ 0) : (itemR l p y).2.2 = y := by
  unfold itemR
  rw [num_stick l 65535 p y h]
  show (itemT l 0 (txtR l 24 p y).1 (txtR l 24 p y).2.1 (txtR l 24 p y).2.2).2.2 = y
  have e := txt_stick l 24 p y h
  rw [itemT_stick _ _ _ _ _ (by rw [e]; exact h), e]

/-- What is read well was there. -/
theorem num_back (l : List Nat) (h256 : ∀ x ∈ l, x < 256) (most p n p' : Nat) (hp : p ≤ l.length) (h : rNum l p 0 most = (n, p', 0)) : l.drop p = enc n ++ l.drop p' ∧ n ≤ most ∧ p' ≤ l.length ∧ p ≤ p' := by
  have hle := Wire.rNum_le l p 0 most hp
  rw [h] at hle
  unfold rNum at h
  rw [if_neg (by simp)] at h
  split at h
  · simp at h
  · split at h
    · rename_i h1 h2
      simp only [Prod.mk.injEq] at h
      exact absurd h.2.2 h2
    · rename_i h1 h2
      split at h
      · simp at h
      · rename_i h3
        obtain ⟨m, e, ht, _⟩ := Wire.enc_dec 10 0 0 (l.drop p) (by omega) (fun x hx => h256 x (List.mem_of_mem_drop hx)) (by decide) (Classical.not_not.1 h2)
        rw [e] at h h3
        simp only [Nat.zero_add, Nat.mul_zero, Nat.pow_zero, Nat.mul_one, Prod.mk.injEq, and_true] at h h3
        obtain ⟨rfl, rfl⟩ := h
        refine ⟨?_, by omega, hle, by omega⟩
        rw [List.drop_zero] at ht
        have e2 := List.take_append_drop (enc m).length (l.drop p)
        rw [ht, List.drop_drop] at e2
        exact e2.symm
theorem ofNat_toNat (x : List Nat) (h : ∀ n ∈ x, n < 256) : (x.map UInt8.ofNat).map UInt8.toNat = x := by
  rw [List.map_map]
  conv => rhs; rw [← List.map_id x]
  refine List.map_congr_left fun n hn => ?_
  have := h n hn
  simp [Nat.mod_eq_of_lt this]
theorem txt_back (l : List Nat) (h256 : ∀ x ∈ l, x < 256) (most p : Nat) (hp : p ≤ l.length) (x : List UInt8) (p' : Nat) (h : txtR l most p 0 = (x, p', 0)) : l.drop p = txtB x ++ l.drop p' ∧ p' ≤ l.length := by
  have hy : (rNum l p 0 most).2.2 = 0 := by
    by_cases e : (rNum l p 0 most).2.2 = 0
    · exact e
    · unfold txtR at h
      rw [take_stick _ _ _ _ e] at h
      simp only [Prod.mk.injEq] at h
      exact absurd h.2.2 e
  obtain ⟨n, p1, y1, hr⟩ : ∃ n p1 y1, rNum l p 0 most = (n, p1, y1) := ⟨_, _, _, rfl⟩
  rw [hr] at hy
  simp only at hy
  subst hy
  obtain ⟨h1, h2, h3, h4⟩ := num_back l h256 most p n p1 hp hr
  unfold txtR at h
  rw [hr] at h
  simp only at h
  unfold rTake at h
  split at h
  · rename_i h5
    simp only [ne_eq, not_true_eq_false, false_or] at h5
    have hn0 : n = 0 := by omega
    subst hn0
    simp only [List.map_nil, Prod.mk.injEq, and_true] at h
    obtain ⟨rfl, rfl⟩ := h
    exact ⟨by rw [h1]; rfl, h3⟩
  · rename_i h5
    split at h
    · simp at h
    · rename_i h6
      simp only [Int.toNat_natCast, Prod.mk.injEq, and_true] at h
      obtain ⟨rfl, rfl⟩ := h
      have h7 : p1 + n ≤ l.length := by omega
      refine ⟨?_, h7⟩
      unfold txtB
      have hlen : ((l.drop p1).take n).length = n := by simp; omega
      rw [List.length_map, hlen, ofNat_toNat _ (fun m hm => h256 m (List.mem_of_mem_drop (List.mem_of_mem_take hm))), h1, List.append_assoc]
      congr 1
      rw [← List.drop_drop, List.take_append_drop]
theorem listF_back {α : Type} {l : List Nat} {rd : Nat → Nat → α × Nat × Nat} (E : α → List Nat) (hst : ∀ p y, y ≠ 0 → (rd p y).2.2 = y) (hbk : ∀ p, p ≤ l.length → ∀ x p', rd p 0 = (x, p', 0) → l.drop p = E x ++ l.drop p' ∧ p' ≤ l.length) :
    ∀ (n p : Nat) (acc xs : List α) (p' : Nat), p ≤ l.length → listF rd n p 0 acc = (xs, p', 0) → ∃ ys, xs = acc ++ ys ∧ ys.length = n ∧ l.drop p = ys.flatMap E ++ l.drop p' ∧ p' ≤ l.length
  | 0, p, acc, xs, p', hp, h => by
    simp only [listF, Prod.mk.injEq, and_true] at h
    obtain ⟨rfl, rfl⟩ := h
    exact ⟨[], by simp, rfl, by simp, hp⟩
  | n + 1, p, acc, xs, p', hp, h => by
    rw [listF] at h
    obtain ⟨x, q, y, hr⟩ : ∃ x q y, rd p 0 = (x, q, y) := ⟨_, _, _, rfl⟩
    rw [hr] at h
    simp only at h
    split at h
    · rename_i hb
      simp only [Prod.mk.injEq] at h
      rw [h.2.2] at hb
      simp [badW] at hb
    · have hy : y = 0 := by
        refine Classical.byContradiction fun hy => ?_
        have : ∀ (n q : Nat) (acc : List α), (listF rd n q y acc).2.2 ≠ 0 := by
          intro n
          induction n with
          | zero => intro q acc; exact hy
          | succ n ih =>
            intro q acc
            rw [listF]
            have e := hst q y hy
            split
            · rw [e]; exact hy
            · rw [e]; exact ih _ _
        exact this n q (acc ++ [x]) (by rw [h])
      subst hy
      obtain ⟨h1, h2⟩ := hbk p hp x q hr
      obtain ⟨ys, rfl, h3, h4, h5⟩ := listF_back E hst hbk n q (acc ++ [x]) xs p' h2 h
      exact ⟨x :: ys, by simp, by simp [h3], by rw [h1, h4, List.flatMap_cons, List.append_assoc], h5⟩
theorem list_back {α : Type} {l : List Nat} (h256 : ∀ x ∈ l, x < 256) {rd : Nat → Nat → α × Nat × Nat} (E : α → List Nat) (hst : ∀ p y, y ≠ 0 → (rd p y).2.2 = y) (hbk : ∀ p, p ≤ l.length → ∀ x p', rd p 0 = (x, p', 0) → l.drop p = E x ++ l.drop p' ∧ p' ≤ l.length)
    (p : Nat) (hp : p ≤ l.length) (xs : List α) (p' : Nat) (h : listR l rd p 0 = (xs, p', 0)) : l.drop p = (enc xs.length ++ xs.flatMap E) ++ l.drop p' ∧ p' ≤ l.length := by
  unfold listR at h
  obtain ⟨n, q, y, hr⟩ : ∃ n q y, rNum l p 0 65535 = (n, q, y) := ⟨_, _, _, rfl⟩
  rw [hr] at h
  simp only at h
  by_cases hy : y = 0
  · subst hy
    obtain ⟨h1, _, h3, _⟩ := num_back l h256 65535 p n q hp hr
    obtain ⟨ys, rfl, h4, h5, h6⟩ := listF_back E hst hbk n q [] xs p' h3 h
    refine ⟨?_, h6⟩
    rw [h4, h1, h5, List.append_assoc]
  · exfalso
    have hn : n = 0 := by
      have := hr
      unfold rNum at this
      rw [if_neg (by simp)] at this
      split at this
      · simp only [Prod.mk.injEq] at this; exact this.1.symm
      · split at this
        · simp only [Prod.mk.injEq] at this; exact this.1.symm
        · split at this
          · simp only [Prod.mk.injEq] at this; exact this.1.symm
          · simp only [Prod.mk.injEq] at this; exact absurd this.2.2.symm hy
    subst hn
    simp only [listF, Prod.mk.injEq] at h
    exact hy h.2.2
theorem fieldsB_flat : ∀ fs : List (List UInt8), fieldsB fs = fs.flatMap txtB
  | [] => rfl
  | f :: r => by rw [fieldsB, fieldsB_flat r, List.flatMap_cons]
theorem casesB_flat : ∀ fs : List Cs, casesB fs = fs.flatMap caseB
  | [] => rfl
  | f :: r => by rw [casesB, casesB_flat r, List.flatMap_cons]
theorem itemsB_flat : ∀ fs : List It, itemsB fs = fs.flatMap itemB
  | [] => rfl
  | f :: r => by rw [itemsB, itemsB_flat r, List.flatMap_cons]
theorem case_back (l : List Nat) (h256 : ∀ x ∈ l, x < 256) (p : Nat) (hp : p ≤ l.length) (c : Cs) (p' : Nat) (h : caseR l p 0 = (c, p', 0)) : l.drop p = caseB c ++ l.drop p' ∧ p' ≤ l.length := by
  unfold caseR at h
  obtain ⟨n, q, y, hr⟩ : ∃ n q y, txtR l 24 p 0 = (n, q, y) := ⟨_, _, _, rfl⟩
  rw [hr] at h
  simp only at h
  obtain ⟨fs, q2, y2, hr2⟩ : ∃ n q' y', listR l (txtR l 200) q y = (n, q', y') := ⟨_, _, _, rfl⟩
  rw [hr2] at h
  simp only [Prod.mk.injEq] at h
  obtain ⟨rfl, rfl, rfl⟩ := h
  have hy : y = 0 := by
    refine Classical.byContradiction fun hy => ?_
    have := list_stick l (txtR l 200) q y hy
    rw [hr2] at this
    exact hy this.symm
  subst hy
  obtain ⟨h1, h2⟩ := txt_back l h256 24 p hp n q hr
  obtain ⟨h3, h4⟩ := list_back h256 txtB (txt_stick l 200) (fun p hp => txt_back l h256 200 p hp) q h2 fs q2 hr2
  refine ⟨?_, h4⟩
  rw [h1, h3, caseB, fieldsB_flat]
  simp only [List.append_assoc]
theorem item_back (l : List Nat) (h256 : ∀ x ∈ l, x < 256) (p : Nat) (hp : p ≤ l.length) (x : It) (p' : Nat) (h : itemR l p 0 = (x, p', 0)) : l.drop p = itemB x ++ l.drop p' ∧ p' ≤ l.length := by
  unfold itemR itemN at h
  obtain ⟨k, q, y, hr⟩ : ∃ n q y, rNum l p 0 65535 = (n, q, y) := ⟨_, _, _, rfl⟩
  rw [hr] at h
  simp only at h
  obtain ⟨nm, q1, y1, hr1⟩ : ∃ n q' y', txtR l 24 q y = (n, q', y') := ⟨_, _, _, rfl⟩
  rw [hr1] at h
  simp only at h
  have hy1 : y1 = 0 := by
    refine Classical.byContradiction fun hy => ?_
    have := itemT_stick l k nm q1 y1 hy
    rw [h] at this
    exact hy this.symm
  subst hy1
  have hy : y = 0 := by
    refine Classical.byContradiction fun hy => ?_
    have := txt_stick l 24 q y hy
    rw [hr1] at this
    exact hy this.symm
  subst hy
  obtain ⟨h1, _, h3, _⟩ := num_back l h256 65535 p k q hp hr
  obtain ⟨h4, h5⟩ := txt_back l h256 24 q h3 nm q1 hr1
  unfold itemT at h
  split at h
  · rename_i hk
    subst hk
    obtain ⟨cs, q2, y2, hr2⟩ : ∃ n q' y', listR l (caseR l) q1 0 = (n, q', y') := ⟨_, _, _, rfl⟩
    rw [hr2] at h
    simp only [Prod.mk.injEq] at h
    obtain ⟨rfl, rfl, rfl⟩ := h
    obtain ⟨h6, h7⟩ := list_back h256 caseB (case_stick l) (fun p hp => case_back l h256 p hp) q1 h5 cs q2 hr2
    refine ⟨?_, h7⟩
    rw [h1, h4, h6, itemB, if_pos (show ((1 : Nat) : Int) = 1 from rfl), casesB_flat]
    simp only [List.append_assoc, Int.toNat_natCast]
  · rename_i hk
    obtain ⟨ty, q2, y2, hr2⟩ : ∃ n q' y', txtR l 200 q1 0 = (n, q', y') := ⟨_, _, _, rfl⟩
    rw [hr2] at h
    simp only [Prod.mk.injEq] at h
    obtain ⟨rfl, rfl, rfl⟩ := h
    obtain ⟨h6, h7⟩ := txt_back l h256 200 q1 h5 ty q2 hr2
    refine ⟨?_, h7⟩
    rw [h1, h4, h6, itemB, if_neg (show ¬ ((k : Int) = 1) by omega)]
    simp only [List.append_assoc, Int.toNat_natCast]
/-- What is read is written as its bytes. -/
theorem dec_back (l : List Nat) (h256 : ∀ x ∈ l, x < 256) (h : (endR l).1 = 0) : ifaceB (txtR l 24 0 0).1 (itemsR l).1 = l := by
  have he : (itemsR l).2.2 = 0 ∧ l.length ≤ (itemsR l).2.1 := by
    unfold endR rEnd at h
    split at h
    · rename_i h1; exact absurd h h1
    · rename_i h1
      split at h
      · cases h
      · rename_i h2
        exact ⟨Classical.not_not.1 h1, by omega⟩
  unfold itemsR at he ⊢
  obtain ⟨m, q, y, hr⟩ : ∃ n q y, txtR l 24 0 0 = (n, q, y) := ⟨_, _, _, rfl⟩
  rw [hr] at he ⊢
  simp only at he ⊢
  obtain ⟨xs, q2, y2, hr2⟩ : ∃ n q' y', listR l (itemR l) q y = (n, q', y') := ⟨_, _, _, rfl⟩
  rw [hr2] at he ⊢
  simp only at he ⊢
  obtain ⟨rfl, he2⟩ := he
  have hy : y = 0 := by
    refine Classical.byContradiction fun hy => ?_
    have := list_stick l (itemR l) q y hy
    rw [hr2] at this
    exact hy this.symm
  subst hy
  obtain ⟨h1, h2⟩ := txt_back l h256 24 0 (Nat.zero_le _) m q hr
  obtain ⟨h3, h4⟩ := list_back h256 itemB (item_stick l) (fun p hp => item_back l h256 p hp) q h2 xs q2 hr2
  rw [List.drop_zero] at h1
  rw [h1, h3, List.drop_eq_nil_of_le he2, ifaceB, itemsB_flat]
  simp only [List.append_nil]

/-- What is written is read. -/
theorem num_forth (l : List Nat) (most p n : Nat) (rest : List Nat) (hn : n ≤ most) (hm : most < 18446744073709551616) (h : l.drop p = enc n ++ rest) : rNum l p 0 most = (n, p + (enc n).length, 0) := by
  unfold rNum
  rw [if_neg (by simp), h, Wire.dec_written n rest (by omega)]
  simp
  omega
theorem drop_more {l a rest : List Nat} {p : Nat} (h : l.drop p = a ++ rest) : l.drop (p + a.length) = rest := by
  rw [← List.drop_drop, h, List.drop_left]
theorem drop_len {l a rest : List Nat} {p : Nat} (hp : p ≤ l.length) (h : l.drop p = a ++ rest) : p + a.length + rest.length = l.length := by
  have := congrArg List.length h
  simp at this
  omega
theorem toNat_ofNat (x : List UInt8) : (x.map UInt8.toNat).map UInt8.ofNat = x := by
  rw [List.map_map]
  conv => rhs; rw [← List.map_id x]
  exact List.map_congr_left fun n _ => by simp
theorem txt_forth (l : List Nat) (most p : Nat) (x : List UInt8) (rest : List Nat) (hp : p ≤ l.length) (hx : x.length ≤ most) (hm : most < 18446744073709551616) (h : l.drop p = txtB x ++ rest) : txtR l most p 0 = (x, p + (txtB x).length, 0) := by
  unfold txtB at h
  rw [List.append_assoc] at h
  have h1 := num_forth l most p x.length _ hx hm h
  have h2 := drop_more h
  have h3 := drop_len hp h
  simp only [List.length_append, List.length_map] at h3
  unfold txtR
  rw [h1]
  simp only
  unfold rTake
  by_cases h0 : x = []
  · subst h0
    simp [txtB]
  · have : 0 < x.length := List.length_pos_iff.2 h0
    rw [if_neg (by omega), if_neg (by omega), h2]
    simp only [Int.toNat_natCast]
    rw [List.take_left' (by simp), toNat_ofNat]
    simp [txtB]
    omega
theorem listF_forth {α : Type} {l : List Nat} {rd : Nat → Nat → α × Nat × Nat} (E : α → List Nat) (ok : α → Prop) (hf : ∀ p x rest, p ≤ l.length → ok x → l.drop p = E x ++ rest → rd p 0 = (x, p + (E x).length, 0)) :
    ∀ (ys : List α) (p : Nat) (acc : List α) (rest : List Nat), p ≤ l.length → (∀ x ∈ ys, ok x) → l.drop p = ys.flatMap E ++ rest → listF rd ys.length p 0 acc = (acc ++ ys, p + (ys.flatMap E).length, 0)
  | [], p, acc, rest, hp, hok, h => by simp [listF]
  | x :: ys, p, acc, rest, hp, hok, h => by
    rw [List.flatMap_cons, List.append_assoc] at h
    have h1 := hf p x _ hp (hok x (by simp)) h
    have h2 := drop_len hp h
    rw [List.length_cons, listF, h1]
    simp only
    rw [if_neg (by simp [badW]), listF_forth E ok hf ys (p + (E x).length) (acc ++ [x]) rest (by omega) (fun y hy => hok y (by simp [hy])) (drop_more h)]
    simp [List.flatMap_cons]
    omega
theorem list_forth {α : Type} {l : List Nat} {rd : Nat → Nat → α × Nat × Nat} (E : α → List Nat) (ok : α → Prop) (hf : ∀ p x rest, p ≤ l.length → ok x → l.drop p = E x ++ rest → rd p 0 = (x, p + (E x).length, 0))
    (ys : List α) (p : Nat) (rest : List Nat) (hp : p ≤ l.length) (hn : ys.length ≤ 65535) (hok : ∀ x ∈ ys, ok x) (h : l.drop p = (enc ys.length ++ ys.flatMap E) ++ rest) : listR l rd p 0 = (ys, p + (enc ys.length ++ ys.flatMap E).length, 0) := by
  rw [List.append_assoc] at h
  unfold listR
  rw [num_forth l 65535 p ys.length _ hn (by decide) h]
  simp only
  have h2 := drop_len hp h
  rw [listF_forth E ok hf ys _ [] rest (by omega) hok (drop_more h)]
  simp
  omega
def CsS (c : Cs) : Prop := c.1.length ≤ 24 ∧ c.2.length ≤ 4 ∧ ∀ f ∈ c.2, f.length ≤ 200
theorem case_forth (l : List Nat) (p : Nat) (c : Cs) (rest : List Nat) (hp : p ≤ l.length) (hc : CsS c) (h : l.drop p = caseB c ++ rest) : caseR l p 0 = (c, p + (caseB c).length, 0) := by
  unfold caseB at h
  rw [List.append_assoc] at h
  have h1 := txt_forth l 24 p c.1 _ hp hc.1 (by decide) h
  have h2 := drop_len hp h
  have h3 := list_forth txtB (fun f => f.length ≤ 200) (fun p x rest hp hx h => txt_forth l 200 p x rest hp hx (by decide) h) c.2 (p + (txtB c.1).length) rest (by omega) (by have := hc.2.1; omega) hc.2.2 (by rw [drop_more h, fieldsB_flat])
  unfold caseR
  rw [h1]
  simp only
  rw [h3]
  simp [caseB, fieldsB_flat]
  omega
structure ItS (x : It) : Prop where
  kind : 1 ≤ x.kind ∧ x.kind ≤ 3
  name : x.name.length ≤ 24
  cases1 : x.kind = 1 → x.ty = [] ∧ x.cases.length ≤ 6 ∧ ∀ c ∈ x.cases, CsS c
  ty1 : x.kind ≠ 1 → x.cases = [] ∧ x.ty.length ≤ 200
theorem item_forth (l : List Nat) (p : Nat) (x : It) (rest : List Nat) (hp : p ≤ l.length) (hx : ItS x) (h : l.drop p = itemB x ++ rest) : itemR l p 0 = (x, p + (itemB x).length, 0) := by
  have hk := hx.kind
  obtain ⟨k, nm, ty, cs⟩ := x
  obtain ⟨kn, rfl⟩ : ∃ kn : Nat, k = (kn : Int) := ⟨k.toNat, by simp only at hk; omega⟩
  simp only at hk
  unfold itemB at h
  simp only [Int.toNat_natCast, List.append_assoc] at h
  have h1 := num_forth l 65535 p kn _ (by omega) (by decide) h
  have h2 := drop_len hp h
  have h3 := drop_more h
  have h4 := txt_forth l 24 (p + (enc kn).length) nm _ (by omega) hx.name (by decide) h3
  have h5 := drop_len (by omega) h3
  have h6 := drop_more h3
  unfold itemR itemN
  rw [h1]
  simp only
  rw [h4]
  simp only
  unfold itemT
  by_cases h7 : kn = 1
  · subst h7
    obtain ⟨h8, h9, h10⟩ := hx.cases1 rfl
    simp only at h8 h9 h10
    subst h8
    rw [if_pos (by rfl)] at h6
    have h11 := list_forth caseB CsS (fun p x rest hp hx h => case_forth l p x rest hp hx h) cs (p + (enc 1).length + (txtB nm).length) rest (by omega) (by omega) h10 (by rw [h6, casesB_flat])
    rw [if_pos rfl, h11]
    simp [itemB, casesB_flat]
    omega
  · have hk1 : ¬ ((kn : Int) = 1) := by omega
    obtain ⟨h8, h9⟩ := hx.ty1 hk1
    simp only at h8 h9
    subst h8
    rw [if_neg hk1] at h6
    have h11 := txt_forth l 200 (p + (enc kn).length + (txtB nm).length) ty rest (by omega) h9 (by decide) h6
    rw [if_neg h7, h11]
    simp [itemB, hk1]
    omega
theorem case_short {ah : List Cs} {c : Cs} (h : caseE ah c = 0) : CsS c := by
  unfold caseE at h
  split at h
  · cases h
  · split at h
    · cases h
    · split at h
      · cases h
      · split at h
        · rename_i h1 _ h3 h4
          exact ⟨big_len (by simpa using h1), by omega, fun f hf => right_len (List.all_eq_true.1 h4 f hf)⟩
        · cases h
theorem cases_short : ∀ (cs ah : List Cs), casesE ah cs = 0 → ∀ c ∈ cs, CsS c
  | [], _, _ => by simp
  | c :: r, ah, h => by
    rw [casesE] at h
    split at h
    · rename_i h0
      intro d hd
      rcases List.mem_cons.1 hd with rfl | hd
      · exact case_short h0
      · exact cases_short r _ h d hd
    · rename_i h0
      exact absurd h h0
theorem item_short {q : Option (List UInt8)} {x : It} (h : itemE q x = 0) : ItS x := by
  obtain ⟨h1, h2⟩ := item_kind h
  have h3 := kind_three h1
  have h5 : x.name.length ≤ 24 := by
    unfold namedE at h2
    split at h2
    · exact big_len h2
    · exact value_len h2
  unfold itemE at h
  split at h
  · cases h
  · split at h
    · cases h
    · split at h
      · cases h
      · split at h
        · rename_i hk
          unfold valueE at h
          split at h
          · cases h
          · rename_i hc
            split at h
            · cases h
            · rename_i hr
              exact ⟨h3, h5, fun e => absurd e hk, fun _ => ⟨List.eq_nil_of_length_eq_zero (by omega), right_len (by simpa using hr)⟩⟩
        · rename_i hk
          have hk1 : x.kind = 1 := Classical.not_not.1 hk
          unfold typeE at h
          split at h
          · cases h
          · rename_i hty
            split at h
            · cases h
            · split at h
              · cases h
              · exact ⟨h3, h5, fun _ => ⟨Classical.not_not.1 hty, by omega, cases_short x.cases [] h⟩, fun e => absurd hk1 e⟩
theorem dec_forth {m : List UInt8} {xs : List It} (h : rightI m xs = 0) : (txtR (ifaceB m xs) 24 0 0).1 = m ∧ (itemsR (ifaceB m xs)).1 = xs ∧ whyD (ifaceB m xs) = (0, 0) := by
  obtain ⟨_, hm, hl, hx⟩ := right_short h
  have h0 : (ifaceB m xs).drop 0 = txtB m ++ (enc xs.length ++ itemsB xs) := by rw [List.drop_zero, ifaceB]
  have h1 := txt_forth (ifaceB m xs) 24 0 m _ (Nat.zero_le _) hm (by decide) h0
  have h2 := drop_len (Nat.zero_le _) h0
  have h3 := list_forth itemB ItS (fun p x rest hp hx h => item_forth (ifaceB m xs) p x rest hp hx h) xs (0 + (txtB m).length) [] (by omega) (by omega) (fun x h => (hx x h).elim fun q hq => item_short hq) (by rw [drop_more h0, itemsB_flat, List.append_nil])
  have h4 : itemsR (ifaceB m xs) = (xs, 0 + (txtB m).length + (enc xs.length ++ List.flatMap itemB xs).length, 0) := by
    unfold itemsR
    rw [h1]
    exact h3
  have h5 : endR (ifaceB m xs) = (0, 0) := by
    unfold endR rEnd
    rw [h4]
    simp only
    rw [if_neg (by simp), if_neg (by rw [← itemsB_flat]; simp only [List.length_append] at h2 ⊢; omega)]
  refine ⟨by rw [h1], by rw [h4], ?_⟩
  unfold whyD
  rw [h5, if_neg (by simp), h1, h4, h]
end Go.Proofs.YtalbjbahgbkifaaGreat

namespace Go.Proofs.YtalbjbahgbkifaaGreat
open Go.RowKit

theorem append_case {w : World} {ops : Array Oper} {rest : List Oper} {o : Oper} {a : Act} {Q : Exit → Act → World → Prop} (hgd : o.guard = none) (s x : Operand)
    (ho : o.op = .call { callee := .builtin .append, args := #[s, x], argTypes := #[32, 32] })
    (B : Nat) (v : Value) (cs : List Cs) (hs : a.eval s = v) (hI : CsI B w v cs) (c : Cs) (fv : Value) (ad : Addr) (cp : Nat) (hx : a.eval x = .slice (some ad) 1 cp)
    (hnews : ∀ j u, ([.string (str c.1), fv] : List Value)[j]? = some u → w.cell? (ad.add j) = some u) (hT : TxR (fun g => B ≤ g ∧ g < w.heap.size ∧ some g ≠ v.ownBlock) w fv c.2) (hlen : cs.length + 1 ≤ 3518437208883) (hB : B ≤ w.heap.size)
    (h : ∀ g cap w', CsI B w' (.slice (some ⟨g, 0, none⟩) (cs.length + 1) cap) (cs ++ [c]) → w.grownBy w' v.ownBlock → wpList Tryz.prog ops Q rest (a.put o.dst (.slice (some ⟨g, 0, none⟩) (cs.length + 1) cap)) w') :
    wpList Tryz.prog ops Q (o :: rest) a w := by
  obtain ⟨i, z, hi, hz, h1, h2, h3⟩ := info_z infoC
  obtain ⟨ps, rfl, p2, p3⟩ := hI
  refine wpList_append_lies w hgd s x 32 ho B 81 i z 2 40 Tryz.underlying32 hi hz h1 h2 h3 (by decide) v _ (rowK ps) hs p2 ad 1 cp [.string (str c.1), fv] hx rfl hnews (fun u hu => ?_) (by decide) (by unfold maxLen; omega) (by omega) hB w.heap.size rfl ?_
  · simp only [List.mem_cons, List.not_mem_nil, or_false] at hu
    rcases hu with rfl | rfl
    · rfl
    · exact hT.one
  · intro g cap w' q1 q2 q3 q4
    refine h g cap w' ⟨ps ++ [(c, fv)], by simp, by rw [rowK_snoc]; simpa using q1, fun p hp => ?_⟩ q2
    have key : ∀ fv' (xs : List (List UInt8)), TxR (fun g => B ≤ g ∧ g < w.heap.size ∧ some g ≠ v.ownBlock) w fv' xs → TxR (fun g' => B ≤ g' ∧ g' < w'.heap.size ∧ some g' ≠ (Value.slice (some ⟨g, 0, none⟩) ((ps.map (·.1)).length + 1) cap).ownBlock) w' fv' xs := fun fv' xs ht => ht.frame fun g' hg' => by
      refine ⟨⟨hg'.1, Nat.lt_of_lt_of_le hg'.2.1 q2.size, fun e => ?_⟩, q2.block g' hg'.2.1 hg'.2.2⟩
      simp only [Value.ownBlock, Option.some.injEq] at e
      subst e
      rcases q3 with q3 | q3
      · exact hg'.2.2 q3.symm
      · have := hg'.2.1
        omega
    rcases List.mem_append.1 hp with hp | hp
    · exact key _ _ (p3 p hp)
    · rw [List.mem_singleton.1 hp]
      exact key _ _ hT
def rowJ (ps : List (It × Value)) : List Value := ps.flatMap fun p => [.int .i64 p.1.kind, .string (str p.1.name), .string (str p.1.ty), p.2]
theorem rowJ_snoc (ps : List (It × Value)) (p : It × Value) : rowJ (ps ++ [p]) = rowJ ps ++ [.int .i64 p.1.kind, .string (str p.1.name), .string (str p.1.ty), p.2] := by simp [rowJ]
/-- Items in a row of the call's own, their cases apart from it. -/
def ItI (B : Nat) (w : World) (v : Value) (xs : List It) : Prop := ∃ ps : List (It × Value), ps.map (·.1) = xs ∧ w.ownsRow B 34 4 v xs.length (rowJ ps) ∧ ∀ p ∈ ps, CsR (fun g => B ≤ g ∧ g < w.heap.size ∧ some g ≠ v.ownBlock) w p.2 p.1.cases
theorem ItI.nil (B : Nat) (w : World) : ItI B w (.slice none 0 0) [] := ⟨[], rfl, World.ownsRow_nil _ _ _ _, by simp⟩
theorem ItI.block {B : Nat} {w : World} {v : Value} {cs : List It} (h : ItI B w v cs) {g : Nat} (hg : v.ownBlock = some g) : B ≤ g ∧ g < w.heap.size := by
  obtain ⟨ps, h1, h2, h3⟩ := h
  exact owns_block h2 hg
theorem ItI.shape {B : Nat} {w : World} {v : Value} {cs : List It} (h : ItI B w v cs) : ∃ a c, v = .slice a cs.length c := by
  obtain ⟨ps, h1, h2, h3⟩ := h
  rcases h2.2 with ⟨rfl, hn⟩ | ⟨g, cap, cur, rfl, _⟩
  · exact ⟨none, 0, by rw [hn]⟩
  · exact ⟨_, _, rfl⟩
theorem rowJ_at : ∀ (ps : List (It × Value)) (j : Nat) (h : j < ps.length) (i : Nat), i < 4 → (rowJ ps)[j * 4 + i]? = ([.int .i64 ps[j].1.kind, .string (str ps[j].1.name), .string (str ps[j].1.ty), ps[j].2] : List Value)[i]?
  | p :: r, 0, _, i, hi => by
    rw [Nat.zero_mul, Nat.zero_add, rowJ, List.flatMap_cons, List.getElem?_append_left (by simpa using hi)]
    rfl
  | p :: r, j + 1, h, i, hi => by
    have := rowJ_at r j (by simpa using h) i hi
    rw [rowJ, List.flatMap_cons, List.getElem?_append_right (by simp; omega)]
    simpa [rowJ, Nat.add_mul, Nat.add_right_comm] using this
theorem ItI.row {B : Nat} {w : World} {v : Value} {xs : List It} (h : ItI B w v xs) : ItR (fun g => B ≤ g ∧ g < w.heap.size) w v xs := by
  obtain ⟨ps, rfl, h2, h3⟩ := h
  rcases h2.2 with ⟨rfl, hn⟩ | ⟨g, cap, cur, rfl, hb, hg, hl, _⟩
  · exact .inl ⟨none, 0, rfl, List.eq_nil_of_length_eq_zero hn⟩
  · refine .inr ⟨g, 0, cap, rfl, hl, ⟨hb, (Array.getElem?_eq_some_iff.1 hg).1⟩, fun j x hj => ?_⟩
    rw [List.getElem?_map] at hj
    obtain ⟨p, hp, rfl⟩ := Option.map_eq_some_iff.1 hj
    obtain ⟨hlt, rfl⟩ := List.getElem?_eq_some_iff.1 hp
    have q : ∀ i, i < 4 → w.cell? ⟨g, 0 + j * 4 + i, none⟩ = ([.int .i64 ps[j].1.kind, .string (str ps[j].1.name), .string (str ps[j].1.ty), ps[j].2] : List Value)[i]? := fun i hi => by
      rw [Nat.zero_add, h2.cellAt (j * 4 + i) (by simp; omega), rowJ_at ps j hlt i hi]
    exact ⟨ps[j].2, (h3 _ (List.getElem_mem hlt)).frame fun g' hg' => ⟨⟨hg'.1, hg'.2.1⟩, rfl⟩, q 0 (by omega), q 1 (by omega), q 2 (by omega), q 3 (by omega)⟩
theorem infoIt5 : (Tryz.prog.info? 34).map (fun i => (i.zero.map (fun z => z.cells.size), i.size, i.bytes)) = some (some 4, 4, 64) := by kernel_rfl
theorem CsR.one {F : Nat → Prop} {w : World} {v : Value} {xs : List Cs} (h : CsR F w v xs) : v.oneCell' = true := by
  obtain ⟨a, c, rfl⟩ := h.shape
  rfl
theorem append_itemJ {w : World} {ops : Array Oper} {rest : List Oper} {o : Oper} {a : Act} {Q : Exit → Act → World → Prop} (hgd : o.guard = none) (s x : Operand)
    (ho : o.op = .call { callee := .builtin .append, args := #[s, x], argTypes := #[22, 22] })
    (B : Nat) (v : Value) (xs : List It) (hs : a.eval s = v) (hI : ItI B w v xs) (c : It) (fv : Value) (ad : Addr) (cp : Nat) (hx : a.eval x = .slice (some ad) 1 cp)
    (hnews : ∀ j u, ([.int .i64 c.kind, .string (str c.name), .string (str c.ty), fv] : List Value)[j]? = some u → w.cell? (ad.add j) = some u) (hT : CsR (fun g => B ≤ g ∧ g < w.heap.size ∧ some g ≠ v.ownBlock) w fv c.cases) (hlen : xs.length + 1 ≤ 1000000) (hB : B ≤ w.heap.size)
    (h : ∀ g cap w', ItI B w' (.slice (some ⟨g, 0, none⟩) (xs.length + 1) cap) (xs ++ [c]) → w.grownBy w' v.ownBlock → wpList Tryz.prog ops Q rest (a.put o.dst (.slice (some ⟨g, 0, none⟩) (xs.length + 1) cap)) w') :
    wpList Tryz.prog ops Q (o :: rest) a w := by
  obtain ⟨i, z, hi, hz, h1, h2, h3⟩ := info_z infoIt5
  obtain ⟨ps, rfl, p2, p3⟩ := hI
  refine wpList_append_lies w hgd s x 22 ho B 34 i z 4 64 Tryz.underlying22 hi hz h1 h2 h3 (by decide) v _ (rowJ ps) hs p2 ad 1 cp [.int .i64 c.kind, .string (str c.name), .string (str c.ty), fv] hx rfl hnews (fun u hu => ?_) (by decide) (by unfold maxLen; omega) (by omega) hB w.heap.size rfl ?_
  · simp only [List.mem_cons, List.not_mem_nil, or_false] at hu
    rcases hu with rfl | rfl | rfl | rfl
    · rfl
    · rfl
    · rfl
    · exact hT.one
  · intro g cap w' q1 q2 q3 q4
    refine h g cap w' ⟨ps ++ [(c, fv)], by simp, by rw [rowJ_snoc]; simpa using q1, fun p hp => ?_⟩ q2
    have key : ∀ fv' (xs : List Cs), CsR (fun g => B ≤ g ∧ g < w.heap.size ∧ some g ≠ v.ownBlock) w fv' xs → CsR (fun g' => B ≤ g' ∧ g' < w'.heap.size ∧ some g' ≠ (Value.slice (some ⟨g, 0, none⟩) ((ps.map (·.1)).length + 1) cap).ownBlock) w' fv' xs := fun fv' xs ht => ht.frame fun g' hg' => by
      refine ⟨⟨hg'.1, Nat.lt_of_lt_of_le hg'.2.1 q2.size, fun e => ?_⟩, q2.block g' hg'.2.1 hg'.2.2⟩
      simp only [Value.ownBlock, Option.some.injEq] at e
      subst e
      rcases q3 with q3 | q3
      · exact hg'.2.2 q3.symm
      · have := hg'.2.1
        omega
    rcases List.mem_append.1 hp with hp | hp
    · exact key _ _ (p3 p hp)
    · rw [List.mem_singleton.1 hp]
      exact key _ _ hT
/-- What lies from B on is left alone by whoever turns a block below B alone. -/
theorem owns_wkept {S : Nat → Prop} {w w' : World} {B e sz n : Nat} {v : Value} {xs : List Value} (h : w.ownsRow B e sz v n xs) (k : Wire.Kept S w w') (hS : ∀ b, B ≤ b → ¬ S b) : w'.ownsRow B e sz v n xs := by
  refine ⟨h.1, ?_⟩
  rcases h.2 with hn | ⟨g, cap, cur, rfl, h2, h3, h4⟩
  · exact .inl hn
  · exact .inr ⟨g, cap, cur, rfl, h2, (k.block g (Array.getElem?_eq_some_iff.1 h3).1 (hS g h2)).trans h3, h4⟩
theorem CsI.wkept {S : Nat → Prop} {w w' : World} {B : Nat} {v : Value} {cs : List Cs} (h : CsI B w v cs) (k : Wire.Kept S w w') (hS : ∀ b, B ≤ b → ¬ S b) : CsI B w' v cs := by
  obtain ⟨ps, h1, h2, h3⟩ := h
  exact ⟨ps, h1, owns_wkept h2 k hS, fun p hp => (h3 p hp).frame fun g hg => ⟨⟨hg.1, Nat.lt_of_lt_of_le hg.2.1 k.size, hg.2.2⟩, k.block g hg.2.1 (hS g hg.1)⟩⟩
theorem ItI.wkept {S : Nat → Prop} {w w' : World} {B : Nat} {v : Value} {cs : List It} (h : ItI B w v cs) (k : Wire.Kept S w w') (hS : ∀ b, B ≤ b → ¬ S b) : ItI B w' v cs := by
  obtain ⟨ps, h1, h2, h3⟩ := h
  exact ⟨ps, h1, owns_wkept h2 k hS, fun p hp => (h3 p hp).frame fun g hg => ⟨⟨hg.1, Nat.lt_of_lt_of_le hg.2.1 k.size, hg.2.2⟩, k.block g hg.2.1 (hS g hg.1)⟩⟩
theorem wkept_grown {w w' : World} {row : Option Nat} (h : w.grownBy w' row) : Wire.Kept (fun b => row = some b) w w' := ⟨h.os, h.tape, h.output, h.size, fun b hb hn => h.block b hb (fun e => hn e.symm)⟩
theorem wkept_below {w w' : World} (h : Below w.heap.size w w') : Wire.Kept (fun _ => False) w w' := ⟨h.os, h.tape, h.output, h.size, fun k hk _ => h.block k hk⟩
theorem wkept_alloc (w : World) (o : Obj) : Wire.Kept (fun _ => False) w (w.alloc o) := wkept_below ((Below.refl _ _).alloc (Nat.le_refl _) _)
end Go.Proofs.YtalbjbahgbkifaaGreat

namespace Go.Proofs.YtalbjbahgbkifaaGreat
open Go.RowKit

def TxtE (l : List Nat) (most p y b g : Nat) (w : World) (e : Ending) (w' : World) : Prop := e = .returned (.string (str (txtR l most p y).1)) ∧ Wire.RIs w' b g l (txtR l most p y).2.1 (txtR l most p y).2.2 ∧ Wire.Kept (fun k => k = b) w w'
theorem rtxt (most b g : Nat) (l : List Nat) (p y : Nat) (w : World) (hm : most ≤ 65535) (hl : l.length ≤ 140737488355328) (h256 : ∀ x ∈ l, x < 256) (hp : p ≤ l.length) (hr : Wire.RIs w b g l p y) :
    Calls Tryz.prog 52 #[.pointer (some ⟨b, 0, none⟩), .int .i64 (most : Int)] w (TxtE l most p y b g w) := by
  refine (Wire.rtext (most : Int) b g l p y w (by omega) (by omega) hl h256 hp hr).mono ?_
  rintro e w' ⟨R, rfl, rfl, h1, h2⟩
  rw [Int.toNat_natCast] at h1 ⊢
  exact ⟨by rw [Wire.toStr_eq]; rfl, h1, h2⟩
theorem rtxt24 (b g : Nat) (l : List Nat) (p y : Nat) (w : World) (hl : l.length ≤ 140737488355328) (h256 : ∀ x ∈ l, x < 256) (hp : p ≤ l.length) (hr : Wire.RIs w b g l p y) :
    Calls Tryz.prog 52 #[.pointer (some ⟨b, 0, none⟩), .int .i64 24] w (TxtE l 24 p y b g w) := rtxt 24 b g l p y w (by decide) hl h256 hp hr
theorem readTypeC (b g : Nat) (l : List Nat) (p y : Nat) (w : World) (hl : l.length ≤ 140737488355328) (h256 : ∀ x ∈ l, x < 256) (hp : p ≤ l.length) (hr : Wire.RIs w b g l p y) :
    Calls Tryz.prog 92 #[.pointer (some ⟨b, 0, none⟩)] w (TxtE l 200 p y b g w) := by
  have h : Calls Tryz.prog 52 #[.pointer (some ⟨b, 0, none⟩), .int .i64 200] w (TxtE l 200 p y b g w) := rtxt 200 b g l p y w (by decide) hl h256 hp hr
  unfold TxtE at h ⊢
  generalize txtR l 200 p y = X at h ⊢
  obtain ⟨x, px, yx⟩ := X
  go_enter Tryz.func92, Tryz.ntmps92
  go_wp2_with fail
  refine h.mono ?_
  rintro e w1 ⟨rfl, h1, h2⟩
  go_wp2
  go_ret
  exact ⟨rfl, h1, h2⟩
theorem rend_bad (l : List Nat) (p y : Nat) : (((Wire.rEnd l p y).1 : Int) != 0) = (badW y || (((Wire.rEnd l p y).1 : Int) == 11)) ∧ ((((Wire.rEnd l p y).1 : Int) != 0) = true → (((Wire.rEnd l p y).1 : Int) != 11) = badW y) := by
  unfold Wire.rEnd badW
  by_cases h0 : y = 0
  · subst h0
    by_cases h1 : p < l.length <;> simp [h1]
  · by_cases h1 : y = 11
    · subst h1
      simp
    · simp only [ne_eq, h0, not_false_eq_true, if_true, h1, decide_true, Bool.and_self, Bool.true_or]
      refine ⟨?_, fun _ => ?_⟩ <;> (rw [bne_iff_ne]; omega)
set_option maxHeartbeats 1000000 in
theorem refusedC (b g : Nat) (l : List Nat) (p y : Nat) (w : World) (hl : l.length ≤ 140737488355328) (hr : Wire.RIs w b g l p y) :
    Calls Tryz.prog 89 #[.pointer (some ⟨b, 0, none⟩)] w fun e w' => e = .returned (.bool (badW y)) ∧ Wire.Kept (fun _ => False) w w' := by
  have h := Wire.rend b g l p y w hl hr
  obtain ⟨h1, h2⟩ := rend_bad l p y
  generalize badW y = bb at *
  generalize Wire.rEnd l p y = R at *
  obtain ⟨n, q⟩ := R
  simp only at h h1 h2
  by_cases hn : n = 0
  · subst hn
    have hbb : bb = false := by
      cases bb
      · rfl
      · simp at h1
    subst hbb
    clear h1 h2
    go_enter Tryz.func89, Tryz.ntmps89
    go_wp2_with fail
    refine h.mono ?_
    rintro e w1 ⟨rfl, k1⟩
    go_wp2
    go_ret
    exact ⟨rfl, k1⟩
  · have hn0 : ((n : Int) != 0) = true := by rw [bne_iff_ne]; omega
    have hn1 := h2 hn0
    clear h1 h2
    go_enter Tryz.func89, Tryz.ntmps89
    go_wp2_with fail
    refine h.mono ?_
    rintro e w1 ⟨rfl, k1⟩
    go_wp2
    go_ret
    exact ⟨rfl, k1⟩
theorem listF_at {α : Type} (rd : Nat → Nat → α × Nat × Nat) (N k p y : Nat) (acc : List α) (h : k < N) : listF rd (N - k) p y acc = if badW (rd p y).2.2 = true then ([], (rd p y).2.1, (rd p y).2.2) else listF rd (N - (k + 1)) (rd p y).2.1 (rd p y).2.2 (acc ++ [(rd p y).1]) := by
  rw [show N - k = (N - (k + 1)) + 1 by omega, listF]
theorem listF_end {α : Type} (rd : Nat → Nat → α × Nat × Nat) (N k p y : Nat) (acc : List α) (h : ¬ k < N) : listF rd (N - k) p y acc = (acc, p, y) := by
  rw [show N - k = 0 by omega, listF]
end Go.Proofs.YtalbjbahgbkifaaGreat

namespace Go.Proofs.YtalbjbahgbkifaaGreat
open Go.RowKit

def ReadTextsE (RES : List (List UInt8) × Nat × Nat) (l : List Nat) (b g : Nat) (w : World) (e : Ending) (w' : World) : Prop := ∃ v, e = .returned v ∧ TxR (Fr w w') w' v RES.1 ∧ RES.1.length ≤ 65535 ∧ Wire.RIs w' b g l RES.2.1 RES.2.2 ∧ Wire.Kept (fun x => x = b) w w'
set_option maxHeartbeats 2000000 in
set_option maxRecDepth 1000000 in
theorem readTexts (b g : Nat) (l : List Nat) (p y : Nat) (w : World) (hl : l.length ≤ 140737488355328) (h256 : ∀ x ∈ l, x < 256) (hp : p ≤ l.length) (hr : Wire.RIs w b g l p y) :
    Calls Tryz.prog 116 #[.pointer (some ⟨b, 0, none⟩), .func (.func 92) #[] #[]] w (ReadTextsE (listR l (txtR l 200) p y) l b g w) := by
  have hbl := hr.lt
  have hgl := hr.gt
  have hnum := Wire.rnumber b g l p y 65535 w hl h256 hp (by decide) hr
  have hN := Wire.rNum_most l p y 65535
  have hp1 := Wire.rNum_le l p y 65535 hp
  have HL : Hid (listR l (txtR l 200) p y = listF (txtR l 200) (Wire.rNum l p y 65535).1 (Wire.rNum l p y 65535).2.1 (Wire.rNum l p y 65535).2.2 []) := rfl
  generalize Wire.rNum l p y 65535 = R at *
  obtain ⟨N, p1, y1⟩ := R
  simp only at hnum hN hp1 HL
  generalize listR l (txtR l 200) p y = RES at *
  go_enter Tryz.func116, Tryz.ntmps116
  go_wp2_with fail
  refine hnum.mono ?_
  rintro e w1 ⟨rfl, hr1, K1⟩
  go_wp2
  go_loopg [5, 9] N (fun gk lv i wr => ∃ (k pk yk : Nat) (acc : List (List UInt8)), gk + k = N ∧ i = .int .u64 (k : Int) ∧ Hid (RES = listF (txtR l 200) (N - k) pk yk acc) ∧ Hid (acc.length = k) ∧ pk ≤ l.length ∧ Wire.RIs wr b g l pk yk ∧ wr.ownsRow w.heap.size 9 1 lv acc.length (sc acc) ∧ Wire.Kept (fun x => x = b) w wr)
  case atStart => exact ⟨0, p1, y1, [], by omega, rfl, by simpa [Hid] using HL, rfl, hp1, hr1, World.ownsRow_nil _ _ _ _, K1⟩
  case round =>
    obtain ⟨k, pk, yk, acc, hg, rfl, hq, hak, hpk, hrr, hrow, Kr⟩ := hrel
    have hsr := Kr.size
    by_cases hk : k < N
    · have hki : (k : Int) < (N : Int) := by omega
      have hst := listF_at (txtR l 200) N k pk yk acc hk
      have hrd := readTypeC b g l pk yk wr hl h256 hpk hrr
      have hple := txt_le l 200 pk yk hpk
      have hal : acc.length ≤ 65535 := by have := hak.out; omega
      unfold TxtE at hrd
      generalize txtR l 200 pk yk = X at *
      obtain ⟨x, px, yx⟩ := X
      simp only at hst hrd hple
      go_wp2_with fail
      refine hrd.mono ?_
      rintro e w2 ⟨rfl, hr2, K2⟩
      have href := refusedC b g l px yx w2 hl hr2
      have hrow2 := owns_wkept hrow K2 (fun z hz e => by omega)
      have K2' : Wire.Kept (fun x => x = b) w w2 := Kr.trans K2 (fun _ _ h => h) (fun _ _ h => h)
      by_cases hbad : badW yx = true
      · rw [hbad] at href
        have HE := hq.out
        rw [hst, if_pos hbad] at HE
        subst HE
        go_wp2_with fail
        refine href.mono ?_
        rintro e w3 ⟨rfl, K3⟩
        go_wp2
        go_ret
        exact ⟨_, rfl, .inl ⟨none, 0, rfl, rfl⟩, by simp, hr2.kept K3 (fun h => h) (fun h => h), K2'.trans K3 (fun _ _ h => h) (fun _ _ h => h.elim)⟩
      · have hbf : badW yx = false := by simpa using hbad
        rw [hbf] at href
        have HE : Hid (RES = listF (txtR l 200) (N - (k + 1)) px yx (acc ++ [x])) := by rw [hid_iff, hq.out, hst, if_neg hbad]
        clear hst hq hbad hbf
        go_wp2_with fail
        refine href.mono ?_
        rintro e w3 ⟨rfl, K3⟩
        have hr3 := hr2.kept K3 (fun h => h) (fun h => h)
        have hrow3 := owns_wkept hrow2 K3 (fun _ _ h => h)
        have K3' : Wire.Kept (fun x => x = b) w w3 := K2'.trans K3 (fun _ _ h => h) (fun _ _ h => h.elim)
        have hs3 := K3'.size
        clear hrow hrow2 K2 K3 hr2 hrr Kr K2'
        go_wp2_with (at_builtin; refine append_textN rfl (.tmp 16) (.tmp 18) rfl w.heap.size _ acc rfl (hrow3.alloc _) _ _ x rfl ?src ?len ?hB ?next)
        case src => first | exact cells_new _ _ _ | exact fun j u h => h
        case len => first | omega | (simp; omega)
        case hB => first | omega | (simp; omega)
        case next =>
          intro ad c' w5 j1 j2
          have hob : ∀ z, Value.ownBlock _ = some z → w.heap.size ≤ z := fun z hz => (owns_block hrow3 hz).1
          have K5 := ((wkept_alloc w3 (.cells #[.string (str x)] 9)).trans (U := fun z => Value.ownBlock _ = some z) (wkept_grown j2) (fun _ _ h => h.elim) (fun _ _ h => h))
          have hr5 := hr3.kept K5 (fun h => by have := hob _ h; omega) (fun h => by have := hob _ h; omega)
          have K5' : Wire.Kept (fun x => x = b) w w5 := K3'.trans K5 (fun _ _ h => h) (fun z hz h => absurd (hob z h) (by omega))
          clear K5 K3' hr3 hrow3 j2
          go_wp2
          go_roundg (N - (k + 1))
          case measure => omega
          case rel => exact ⟨k + 1, px, yx, acc ++ [x], by omega, by go_num, HE, by have := hak.out; rw [hid_iff, List.length_append, List.length_singleton, this], hple, hr5, by simpa using j1, K5'⟩
    · have hki : ¬ (k : Int) < (N : Int) := by omega
      have HE := hq.out
      rw [listF_end (txtR l 200) N k pk yk acc hk] at HE
      subst HE
      obtain ⟨va, vc, rfl⟩ : ∃ va vc, u5 = .slice va acc.length vc := by
        rcases hrow.2 with ⟨rfl, hz⟩ | ⟨g, cap, cur, rfl, _⟩
        · exact ⟨none, 0, by rw [hz]⟩
        · exact ⟨_, _, rfl⟩
      have hal : acc.length ≤ 65535 := by have := hak.out; omega
      go_wp2
      go_ret
      exact ⟨_, rfl, tx_own hrow, hal, hrr, Kr⟩
end Go.Proofs.YtalbjbahgbkifaaGreat

namespace Go.Proofs.YtalbjbahgbkifaaGreat
open Go.RowKit

def CaseE (RES : Cs × Nat × Nat) (l : List Nat) (b g : Nat) (w : World) (e : Ending) (w' : World) : Prop := ∃ fv, e = .returned (csv RES.1 fv) ∧ TxR (Fr w w') w' fv RES.1.2 ∧ RES.1.2.length ≤ 65535 ∧ Wire.RIs w' b g l RES.2.1 RES.2.2 ∧ Wire.Kept (fun x => x = b) w w'
theorem sizeCs : (Tryz.prog.info? 81).map (·.size) = some 2 := by kernel_rfl
theorem wkept_setRow (w : World) (g : Nat) (cs : Array Value) : Wire.Kept (fun k => k = g) w (w.setRow g cs) := by
  refine ⟨rfl, rfl, rfl, by simp [World.setRow], fun k hk hn => ?_⟩
  simp only [World.setRow]
  rw [Array.getElem?_modify, if_neg (fun e => hn e.symm)]
set_option maxHeartbeats 2000000 in
set_option maxRecDepth 1000000 in
theorem readCaseC (b g : Nat) (l : List Nat) (p y : Nat) (w : World) (hl : l.length ≤ 140737488355328) (h256 : ∀ x ∈ l, x < 256) (hp : p ≤ l.length) (hr : Wire.RIs w b g l p y) :
    Calls Tryz.prog 91 #[.pointer (some ⟨b, 0, none⟩)] w (CaseE (caseR l p y) l b g w) := by
  have hbl := hr.lt
  have hgl := hr.gt
  have HR : caseR l p y = (((txtR l 24 p y).1, (listR l (txtR l 200) (txtR l 24 p y).2.1 (txtR l 24 p y).2.2).1), (listR l (txtR l 200) (txtR l 24 p y).2.1 (txtR l 24 p y).2.2).2) := rfl
  have hple := txt_le l 24 p y hp
  rw [HR]
  clear HR
  have hA2 : ((w.alloc (.cells #[.string ⟨#[]⟩, .slice none 0 0] 81)).alloc (.cells #[.string ⟨#[]⟩, .slice none 0 0] 81)).heap[w.heap.size]? = some (.cells #[.string ⟨#[]⟩, .slice none 0 0] 81 (0, 0)) := (Below.heap_alloc _ _ _ (by simp)).trans (World.alloc_heap_new w _)
  have hC2 : ((w.alloc (.cells #[.string ⟨#[]⟩, .slice none 0 0] 81)).alloc (.cells #[.string ⟨#[]⟩, .slice none 0 0] 81)).heap[w.heap.size + 1]? = some (.cells #[.string ⟨#[]⟩, .slice none 0 0] 81 (0, 0)) := by have := World.alloc_heap_new (w.alloc (.cells #[.string ⟨#[]⟩, .slice none 0 0] 81)) (.cells #[.string ⟨#[]⟩, .slice none 0 0] 81); simpa using this
  have hK2 : Wire.Kept (fun x => x = b) w ((w.alloc (.cells #[.string ⟨#[]⟩, .slice none 0 0] 81)).alloc (.cells #[.string ⟨#[]⟩, .slice none 0 0] 81)) := (wkept_alloc _ _).trans (wkept_alloc _ _) (fun _ _ h => h.elim) (fun _ _ h => h.elim)
  have hr2 : Wire.RIs ((w.alloc (.cells #[.string ⟨#[]⟩, .slice none 0 0] 81)).alloc (.cells #[.string ⟨#[]⟩, .slice none 0 0] 81)) b g l p y := (hr.kept (wkept_alloc _ _) (fun h => h) (fun h => h)).kept (wkept_alloc _ _) (fun h => h) (fun h => h)
  have htx := rtxt24 b g l p y _ hl h256 hp hr2
  unfold TxtE at htx
  generalize txtR l 24 p y = X at *
  obtain ⟨nm, p1, y1⟩ := X
  simp only at htx hple
  have hlist : ∀ u, Wire.RIs u b g l p1 y1 → Calls Tryz.prog 116 #[.pointer (some ⟨b, 0, none⟩), .func (.func 92) #[] #[]] u (ReadTextsE (listR l (txtR l 200) p1 y1) l b g u) := fun u hu => readTexts b g l p1 y1 u hl h256 hple hu
  generalize listR l (txtR l 200) p1 y1 = Y at *
  obtain ⟨fs, p2, y2⟩ := Y
  unfold ReadTextsE at hlist
  simp only at hlist ⊢
  go_enter Tryz.func91, Tryz.ntmps91
  go_wp2_with fail
  generalize ((w.alloc (.cells #[.string ⟨#[]⟩, .slice none 0 0] 81)).alloc (.cells #[.string ⟨#[]⟩, .slice none 0 0] 81)) = W2 at *
  refine htx.mono ?_
  rintro e w3 ⟨rfl, hr3, K3⟩
  have hz2 : w.heap.size + 1 < W2.heap.size := (Array.getElem?_eq_some_iff.1 hC2).1
  have hA3 := (K3.block w.heap.size (by omega) (by omega)).trans hA2
  have hC3 := (K3.block (w.heap.size + 1) (by omega) (by omega)).trans hC2
  have K3' : Wire.Kept (fun x => x = b) w w3 := hK2.trans K3 (fun _ _ h => h) (fun _ _ h => h)
  have c0 : w3.cell? ⟨w.heap.size + 1, 0, none⟩ = some (.string ⟨#[]⟩) := by rw [cell_of_row _ _ 0 _ _ _ hC3]; rfl
  have f0 := frozen_of_row w3 (w.heap.size + 1) 0 _ _ hC3
  have hA4 := (Below.heap_setCell w3 ⟨w.heap.size + 1, 0, none⟩ (.string (str nm)) w.heap.size (by show w.heap.size ≠ w.heap.size + 1; omega)).trans hA3
  have hC4 : (w3.setCell ⟨w.heap.size + 1, 0, none⟩ (.string (str nm))).heap[w.heap.size + 1]? = some (.cells #[.string (str nm), .slice none 0 0] 81 (0, 0)) := by simpa using heap_setCell_same w3 (w.heap.size + 1) 0 _ _ (.string (str nm)) hC3
  have K4 := Wire.kept_set w3 (w.heap.size + 1) 0 (.string (str nm))
  have hr4 := hr3.kept K4 (by omega) (by omega)
  have K4' : Wire.Kept (fun x => x = b) w (w3.setCell ⟨w.heap.size + 1, 0, none⟩ (.string (str nm))) := K3'.trans K4 (fun _ _ h => h) (fun z hz h => by omega)
  have hls := hlist _ hr4
  clear hlist htx K3 K3' K4 hr3 hr2 hA2 hC2 hK2 hA3 hC3
  go_wp2_with fail
  generalize w3.setCell ⟨w.heap.size + 1, 0, none⟩ (.string (str nm)) = w4 at *
  refine hls.mono ?_
  rintro e w5 ⟨fv, rfl, hT5, hf5, hr5, K5⟩
  obtain ⟨fa, fc, rfl⟩ := hT5.shape
  have hz4 : w.heap.size + 1 < w4.heap.size := (Array.getElem?_eq_some_iff.1 hC4).1
  have hA5 := (K5.block w.heap.size (by omega) (by omega)).trans hA4
  have hC5 := (K5.block (w.heap.size + 1) (by omega) (by omega)).trans hC4
  have c1 : w5.cell? ⟨w.heap.size + 1, 1, none⟩ = some (.slice none 0 0) := by rw [cell_of_row _ _ 1 _ _ _ hC5]; rfl
  have f1 := frozen_of_row w5 (w.heap.size + 1) 1 _ _ hC5
  have hA6 := (Below.heap_setCell w5 ⟨w.heap.size + 1, 1, none⟩ (.slice fa fs.length fc) w.heap.size (by show w.heap.size ≠ w.heap.size + 1; omega)).trans hA5
  have hC6 : (w5.setCell ⟨w.heap.size + 1, 1, none⟩ (.slice fa fs.length fc)).heap[w.heap.size + 1]? = some (.cells #[.string (str nm), .slice fa fs.length fc] 81 (0, 0)) := by simpa using heap_setCell_same w5 (w.heap.size + 1) 1 _ _ (.slice fa fs.length fc) hC5
  have K6 := Wire.kept_set w5 (w.heap.size + 1) 1 (.slice fa fs.length fc)
  have K9 := wkept_setRow (w5.setCell ⟨w.heap.size + 1, 1, none⟩ (.slice fa fs.length fc)) w.heap.size #[.string (str nm), .slice fa fs.length fc]
  have hT9 : TxR (Fr w ((w5.setCell ⟨w.heap.size + 1, 1, none⟩ (.slice fa fs.length fc)).setRow w.heap.size #[.string (str nm), .slice fa fs.length fc])) ((w5.setCell ⟨w.heap.size + 1, 1, none⟩ (.slice fa fs.length fc)).setRow w.heap.size #[.string (str nm), .slice fa fs.length fc]) (.slice fa fs.length fc) fs := hT5.frame fun z hz => by
    have h1 := hz.1
    have h2 := hz.2
    have h3 := K6.size
    have h4 := K9.size
    exact ⟨⟨by omega, by omega⟩, (K9.block z (by omega) (by omega)).trans (K6.block z h2 (by omega))⟩
  have hr9 := (hr5.kept K6 (by omega) (by omega)).kept K9 (by omega) (by omega)
  have K9' := ((K4'.trans K5 (fun _ _ h => h) (fun _ _ h => h)).trans K6 (U := fun x => x = b) (fun _ _ h => h) (fun z hz h => by omega)).trans K9 (U := fun x => x = b) (fun _ _ h => h) (fun z hz h => by omega)
  have d0 : (w5.setCell ⟨w.heap.size + 1, 1, none⟩ (.slice fa fs.length fc)).cell? ⟨w.heap.size + 1, 0, none⟩ = some (.string (str nm)) := by rw [cell_of_row _ _ 0 _ _ _ hC6]; rfl
  have d1 : (w5.setCell ⟨w.heap.size + 1, 1, none⟩ (.slice fa fs.length fc)).cell? ⟨w.heap.size + 1, 1, none⟩ = some (.slice fa fs.length fc) := by rw [cell_of_row _ _ 1 _ _ _ hC6]; rfl
  clear hls hT5 hr5 K5 K6 K9 hr4 K4' hA4 hC4 hA5 hC5
  go_wp2_with (refine wpList_store_row rfl 81 (.tmp 2) (.tmp 10) rfl w.heap.size #[.string (str nm), .slice fa fs.length fc] rfl rfl 81 #[.string ⟨#[]⟩, .slice none 0 0] hA6 sizeCs rfl (by kernel_rfl) ?_)
  (try simp only [Exit.inBlock, Exit.then])
  refine bodyPost_ret (results_cell_row rfl _ _ w.heap.size 81 #[.string (str nm), .slice fa fs.length fc] (0, 0) _ rfl (setRow_heap _ w.heap.size _ _ 81 (0, 0) hA6) Tryz.underlying81 rfl sizeCs) rfl ?_
  exact ⟨_, rfl, hT9, hf5, hr9, K9'⟩
end Go.Proofs.YtalbjbahgbkifaaGreat

namespace Go.Proofs.YtalbjbahgbkifaaGreat
open Go.RowKit

def ReadCasesE (RES : List Cs × Nat × Nat) (l : List Nat) (b g : Nat) (w : World) (e : Ending) (w' : World) : Prop := ∃ v, e = .returned v ∧ CsR (Fr w w') w' v RES.1 ∧ RES.1.length ≤ 65535 ∧ Wire.RIs w' b g l RES.2.1 RES.2.2 ∧ Wire.Kept (fun x => x = b) w w'
set_option maxHeartbeats 2000000 in
set_option maxRecDepth 1000000 in
theorem readCases (b g : Nat) (l : List Nat) (p y : Nat) (w : World) (hl : l.length ≤ 140737488355328) (h256 : ∀ x ∈ l, x < 256) (hp : p ≤ l.length) (hr : Wire.RIs w b g l p y) :
    Calls Tryz.prog 90 #[.pointer (some ⟨b, 0, none⟩), .func (.func 91) #[] #[]] w (ReadCasesE (listR l (caseR l) p y) l b g w) := by
  have hbl := hr.lt
  have hgl := hr.gt
  have hnum := Wire.rnumber b g l p y 65535 w hl h256 hp (by decide) hr
  have hN := Wire.rNum_most l p y 65535
  have hp1 := Wire.rNum_le l p y 65535 hp
  have HL : Hid (listR l (caseR l) p y = listF (caseR l) (Wire.rNum l p y 65535).1 (Wire.rNum l p y 65535).2.1 (Wire.rNum l p y 65535).2.2 []) := rfl
  generalize Wire.rNum l p y 65535 = R at *
  obtain ⟨N, p1, y1⟩ := R
  simp only at hnum hN hp1 HL
  generalize listR l (caseR l) p y = RES at *
  go_enter Tryz.func90, Tryz.ntmps90
  go_wp2_with fail
  refine hnum.mono ?_
  rintro e w1 ⟨rfl, hr1, K1⟩
  go_wp2
  go_loopg [5, 9] N (fun gk lv i wr => ∃ (k pk yk : Nat) (acc : List Cs), gk + k = N ∧ i = .int .u64 (k : Int) ∧ Hid (RES = listF (caseR l) (N - k) pk yk acc) ∧ Hid (acc.length = k) ∧ pk ≤ l.length ∧ Wire.RIs wr b g l pk yk ∧ CsI w.heap.size wr lv acc ∧ Wire.Kept (fun x => x = b) w wr)
  case atStart => exact ⟨0, p1, y1, [], by omega, rfl, by simpa [Hid] using HL, rfl, hp1, hr1, CsI.nil _ _, K1⟩
  case round =>
    obtain ⟨k, pk, yk, acc, hg, rfl, hq, hak, hpk, hrr, hrow, Kr⟩ := hrel
    have hsr := Kr.size
    by_cases hk : k < N
    · have hki : (k : Int) < (N : Int) := by omega
      have hst := listF_at (caseR l) N k pk yk acc hk
      have hrd := readCaseC b g l pk yk wr hl h256 hpk hrr
      have hple := case_le l pk yk hpk
      have hal : acc.length ≤ 65535 := by have := hak.out; omega
      unfold CaseE at hrd
      generalize caseR l pk yk = X at *
      obtain ⟨⟨nm, fs⟩, px, yx⟩ := X
      simp only [csv] at hst hrd hple
      go_wp2_with fail
      refine hrd.mono ?_
      rintro e w2 ⟨fv, rfl, hT2, hf2, hr2, K2⟩
      obtain ⟨fa, fc, rfl⟩ := hT2.shape
      have K3 := wkept_alloc w2 (.cells #[.string (str nm), .slice fa fs.length fc] 81)
      have hr3 := hr2.kept K3 (fun h => h) (fun h => h)
      have href := refusedC b g l px yx _ hl hr3
      have hN3 : (w2.alloc (.cells #[.string (str nm), .slice fa fs.length fc] 81)).heap[w2.heap.size]? = some (.cells #[.string (str nm), .slice fa fs.length fc] 81 (0, 0)) := World.alloc_heap_new w2 _
      have hob0 : ∀ z, Value.ownBlock _ = some z → w.heap.size ≤ z ∧ z < wr.heap.size := fun z hz => hrow.block hz
      have hrow3 := (hrow.wkept K2 (fun z hz e => by omega)).wkept K3 (fun _ _ h => h)
      have K3' : Wire.Kept (fun x => x = b) w (w2.alloc (.cells #[.string (str nm), .slice fa fs.length fc] 81)) := (Kr.trans K2 (fun _ _ h => h) (fun _ _ h => h)).trans K3 (fun _ _ h => h) (fun _ _ h => h.elim)
      have hs2 := K2.size
      have hT3 : TxR (fun z => w.heap.size ≤ z ∧ z < (w2.alloc (.cells #[.string (str nm), .slice fa fs.length fc] 81)).heap.size ∧ some z ≠ Value.ownBlock _) (w2.alloc (.cells #[.string (str nm), .slice fa fs.length fc] 81)) _ fs := hT2.frame fun z hz => ⟨⟨by have := hz.1; omega, by have := hz.2; simp; omega, fun e => by have := (hob0 z e.symm).2; have := hz.1; omega⟩, Below.heap_alloc _ _ _ hz.2⟩
      by_cases hbad : badW yx = true
      · rw [hbad] at href
        have HE := hq.out
        rw [hst, if_pos hbad] at HE
        subst HE
        go_wp2_with fail
        generalize w2.alloc (.cells #[.string (str nm), .slice fa fs.length fc] 81) = W3 at *
        refine href.mono ?_
        rintro e w4 ⟨rfl, K4⟩
        go_wp2
        go_ret
        exact ⟨_, rfl, .inl ⟨none, 0, rfl, rfl⟩, by simp, hr3.kept K4 (fun h => h) (fun h => h), K3'.trans K4 (fun _ _ h => h) (fun _ _ h => h.elim)⟩
      · have hbf : badW yx = false := by simpa using hbad
        rw [hbf] at href
        have HE : Hid (RES = listF (caseR l) (N - (k + 1)) px yx (acc ++ [(nm, fs)])) := by rw [hid_iff, hq.out, hst, if_neg hbad]
        obtain ⟨la, lc, hlv⟩ := hrow.shape
        subst hlv
        clear hst hq hbad hbf
        go_wp2_with fail
        generalize hW3 : w2.alloc (.cells #[.string (str nm), .slice fa fs.length fc] 81) = W3 at *
        clear hW3
        refine href.mono ?_
        rintro e w4 ⟨rfl, K4⟩
        have hlt3 : w2.heap.size < W3.heap.size := (Array.getElem?_eq_some_iff.1 hN3).1
        have hr4 := hr3.kept K4 (fun h => h) (fun h => h)
        have hrow4 := hrow3.wkept K4 (fun _ _ h => h)
        have hN4 := (K4.block w2.heap.size hlt3 (fun h => h)).trans hN3
        have K4' : Wire.Kept (fun x => x = b) w w4 := K3'.trans K4 (fun _ _ h => h) (fun _ _ h => h.elim)
        have hT4 : TxR (fun z => w.heap.size ≤ z ∧ z < w4.heap.size ∧ some z ≠ (Value.slice la acc.length lc).ownBlock) w4 (.slice fa fs.length fc) fs := hT3.frame fun z hz => ⟨⟨hz.1, Nat.lt_of_lt_of_le hz.2.1 K4.size, hz.2.2⟩, K4.block z hz.2.1 (fun h => h)⟩
        have hs4 := K4'.size
        have n0 : w4.cell? ⟨w2.heap.size, 0, none⟩ = some (.string (str nm)) := by rw [cell_of_row _ _ 0 _ _ _ hN4]; rfl
        have n1 : w4.cell? ⟨w2.heap.size, 1, none⟩ = some (.slice fa fs.length fc) := by rw [cell_of_row _ _ 1 _ _ _ hN4]; rfl
        clear hrow hrow3 K2 K3 K4 hr2 hr3 hrr Kr K3' hN3 hT3 hT2 href hrd hnum
        go_wp2_with (at_builtin; refine append_case rfl (.tmp 16) (.tmp 18) rfl w.heap.size _ acc rfl (hrow4.wkept (wkept_alloc _ _) (fun _ _ h => h)) (nm, fs) (.slice fa fs.length fc) _ _ rfl (cells_new _ _ _) ?hT ?len ?hB ?next)
        case hT => exact hT4.frame fun z hz => ⟨⟨hz.1, by have := hz.2.1; simp; omega, hz.2.2⟩, Below.heap_alloc _ _ _ hz.2.1⟩
        case len => omega
        case hB => first | omega | (simp; omega)
        case next =>
          intro gq cap w5 j1 j2
          have K5 := ((wkept_alloc w4 (.cells #[.string (str nm), .slice fa fs.length fc] 81)).trans (U := fun z => (Value.slice la acc.length lc).ownBlock = some z) (wkept_grown j2) (fun _ _ h => h.elim) (fun _ _ h => h))
          have hr5 := hr4.kept K5 (fun h => by have := (hob0 _ h).1; omega) (fun h => by have := (hob0 _ h).1; omega)
          have K5' : Wire.Kept (fun x => x = b) w w5 := K4'.trans K5 (fun _ _ h => h) (fun z hz h => absurd (hob0 z h).1 (by omega))
          clear K5 K4' hr4 hrow4 j2
          go_wp2
          go_roundg (N - (k + 1))
          case measure => omega
          case rel => exact ⟨k + 1, px, yx, acc ++ [(nm, fs)], by omega, by go_num, HE, by have := hak.out; rw [hid_iff, List.length_append, List.length_singleton, this], hple, hr5, j1, K5'⟩
    · have hki : ¬ (k : Int) < (N : Int) := by omega
      have HE := hq.out
      rw [listF_end (caseR l) N k pk yk acc hk] at HE
      subst HE
      obtain ⟨va, vc, rfl⟩ : ∃ va vc, u5 = .slice va acc.length vc := by
        exact hrow.shape
      have hal : acc.length ≤ 65535 := by have := hak.out; omega
      go_wp2
      go_ret
      exact ⟨_, rfl, hrow.row, hal, hrr, Kr⟩
end Go.Proofs.YtalbjbahgbkifaaGreat

namespace Go.Proofs.YtalbjbahgbkifaaGreat
open Go.RowKit

def ItemE (RES : It × Nat × Nat) (l : List Nat) (b g : Nat) (w : World) (e : Ending) (w' : World) : Prop := ∃ fv, e = .returned (itv RES.1 fv) ∧ CsR (Fr w w') w' fv RES.1.cases ∧ RES.1.cases.length ≤ 65535 ∧ Wire.RIs w' b g l RES.2.1 RES.2.2 ∧ Wire.Kept (fun x => x = b) w w'
set_option maxHeartbeats 4000000 in
set_option maxRecDepth 1000000 in
theorem readItemC (b g : Nat) (l : List Nat) (p y : Nat) (w : World) (hl : l.length ≤ 140737488355328) (h256 : ∀ x ∈ l, x < 256) (hp : p ≤ l.length) (hr : Wire.RIs w b g l p y) :
    Calls Tryz.prog 54 #[.pointer (some ⟨b, 0, none⟩)] w (ItemE (itemR l p y) l b g w) := by
  have hbl := hr.lt
  have hgl := hr.gt
  have HR : itemR l p y = itemN l (Wire.rNum l p y 65535).1 (Wire.rNum l p y 65535).2.1 (Wire.rNum l p y 65535).2.2 := rfl
  have hN := Wire.rNum_most l p y 65535
  have hp1 := Wire.rNum_le l p y 65535 hp
  rw [HR]
  clear HR
  have hA2 : ((w.alloc (.cells #[.int .i64 0, .string ⟨#[]⟩, .string ⟨#[]⟩, .slice none 0 0] 34)).alloc (.cells #[.int .i64 0, .string ⟨#[]⟩, .string ⟨#[]⟩, .slice none 0 0] 34)).heap[w.heap.size]? = some (.cells #[.int .i64 0, .string ⟨#[]⟩, .string ⟨#[]⟩, .slice none 0 0] 34 (0, 0)) := (Below.heap_alloc _ _ _ (by simp)).trans (World.alloc_heap_new w _)
  have hC2 : ((w.alloc (.cells #[.int .i64 0, .string ⟨#[]⟩, .string ⟨#[]⟩, .slice none 0 0] 34)).alloc (.cells #[.int .i64 0, .string ⟨#[]⟩, .string ⟨#[]⟩, .slice none 0 0] 34)).heap[w.heap.size + 1]? = some (.cells #[.int .i64 0, .string ⟨#[]⟩, .string ⟨#[]⟩, .slice none 0 0] 34 (0, 0)) := by have := World.alloc_heap_new (w.alloc (.cells #[.int .i64 0, .string ⟨#[]⟩, .string ⟨#[]⟩, .slice none 0 0] 34)) (.cells #[.int .i64 0, .string ⟨#[]⟩, .string ⟨#[]⟩, .slice none 0 0] 34); simpa using this
  have K2 : Wire.Kept (fun x => x = b) w ((w.alloc (.cells #[.int .i64 0, .string ⟨#[]⟩, .string ⟨#[]⟩, .slice none 0 0] 34)).alloc (.cells #[.int .i64 0, .string ⟨#[]⟩, .string ⟨#[]⟩, .slice none 0 0] 34)) := (wkept_alloc _ _).trans (wkept_alloc _ _) (fun _ _ h => h.elim) (fun _ _ h => h.elim)
  have hr2 : Wire.RIs ((w.alloc (.cells #[.int .i64 0, .string ⟨#[]⟩, .string ⟨#[]⟩, .slice none 0 0] 34)).alloc (.cells #[.int .i64 0, .string ⟨#[]⟩, .string ⟨#[]⟩, .slice none 0 0] 34)) b g l p y := (hr.kept (wkept_alloc _ _) (fun h => h) (fun h => h)).kept (wkept_alloc _ _) (fun h => h) (fun h => h)
  have hnum := Wire.rnumber b g l p y 65535 _ hl h256 hp (by decide) hr2
  generalize Wire.rNum l p y 65535 = X at *
  obtain ⟨kn, p1, y1⟩ := X
  simp only at hnum hN hp1
  have htx : ∀ u, Wire.RIs u b g l p1 y1 → Calls Tryz.prog 52 #[.pointer (some ⟨b, 0, none⟩), .int .i64 24] u (TxtE l 24 p1 y1 b g u) := fun u hu => rtxt24 b g l p1 y1 u hl h256 hp1 hu
  have hp2 := txt_le l 24 p1 y1 hp1
  unfold itemN
  unfold TxtE at htx
  generalize txtR l 24 p1 y1 = Y at *
  obtain ⟨nm, p2, y2⟩ := Y
  simp only at htx hp2 ⊢
  have hci : IntKind.i64.wrap (kn : Int) = (kn : Int) := by rw [IntKind.wrap_i64]; omega
  have hkb : (kn : Int) ≤ 65535 := by omega
  go_enter Tryz.func54, Tryz.ntmps54
  go_wp2_with fail
  generalize ((w.alloc (.cells #[.int .i64 0, .string ⟨#[]⟩, .string ⟨#[]⟩, .slice none 0 0] 34)).alloc (.cells #[.int .i64 0, .string ⟨#[]⟩, .string ⟨#[]⟩, .slice none 0 0] 34)) = W2 at *
  refine hnum.mono ?_
  rintro e w3 ⟨rfl, hr3, KN⟩
  have hz2 : w.heap.size + 1 < W2.heap.size := (Array.getElem?_eq_some_iff.1 hC2).1
  have hAw3 := (KN.block w.heap.size (by omega) (by omega)).trans hA2
  have hCw3 := (KN.block (w.heap.size + 1) (by omega) (by omega)).trans hC2
  have Kw3 : Wire.Kept (fun x => x = b) w w3 := K2.trans KN (fun _ _ h => h) (fun _ _ h => h)
  have hrw3 := hr3
  have c0 : w3.cell? ⟨w.heap.size + 1, 0, none⟩ = some (.int .i64 0) := by rw [cell_of_row _ _ 0 _ _ _ hCw3]; rfl
  have f0 := frozen_of_row w3 (w.heap.size + 1) 0 _ _ hCw3
  have hA4 := (Below.heap_setCell w3 ⟨w.heap.size + 1, 0, none⟩ (.int .i64 (kn : Int)) w.heap.size (by show w.heap.size ≠ w.heap.size + 1; omega)).trans hAw3
  have hC4 : (w3.setCell ⟨w.heap.size + 1, 0, none⟩ (.int .i64 (kn : Int))).heap[w.heap.size + 1]? = some (.cells #[.int .i64 (kn : Int), .string ⟨#[]⟩, .string ⟨#[]⟩, .slice none 0 0] 34 (0, 0)) := by simpa using heap_setCell_same w3 (w.heap.size + 1) 0 _ _ (.int .i64 (kn : Int)) hCw3
  have KS4 := Wire.kept_set w3 (w.heap.size + 1) 0 (.int .i64 (kn : Int))
  have hr4 := hrw3.kept KS4 (by omega) (by omega)
  have K4 : Wire.Kept (fun x => x = b) w (w3.setCell ⟨w.heap.size + 1, 0, none⟩ (.int .i64 (kn : Int))) := Kw3.trans KS4 (fun _ _ h => h) (fun z hz h => by omega)
  have ht4 := htx _ hr4
  clear hnum htx KN KS4 hr3 hrw3 Kw3 hr2 K2 hA2 hC2 hAw3 hCw3
  go_wp2_with fail
  generalize w3.setCell ⟨w.heap.size + 1, 0, none⟩ (.int .i64 (kn : Int)) = w4 at *
  refine ht4.mono ?_
  rintro e w5 ⟨rfl, hrw5, KT⟩
  have hz4 : w.heap.size + 1 < w4.heap.size := (Array.getElem?_eq_some_iff.1 hC4).1
  have hAw5 := (KT.block w.heap.size (by omega) (by omega)).trans hA4
  have hCw5 := (KT.block (w.heap.size + 1) (by omega) (by omega)).trans hC4
  have Kw5 : Wire.Kept (fun x => x = b) w w5 := K4.trans KT (fun _ _ h => h) (fun _ _ h => h)
  have c1 : w5.cell? ⟨w.heap.size + 1, 1, none⟩ = some (.string ⟨#[]⟩) := by rw [cell_of_row _ _ 1 _ _ _ hCw5]; rfl
  have f1 := frozen_of_row w5 (w.heap.size + 1) 1 _ _ hCw5
  have hA6 := (Below.heap_setCell w5 ⟨w.heap.size + 1, 1, none⟩ (.string (str nm)) w.heap.size (by show w.heap.size ≠ w.heap.size + 1; omega)).trans hAw5
  have hC6 : (w5.setCell ⟨w.heap.size + 1, 1, none⟩ (.string (str nm))).heap[w.heap.size + 1]? = some (.cells #[.int .i64 (kn : Int), .string (str nm), .string ⟨#[]⟩, .slice none 0 0] 34 (0, 0)) := by simpa using heap_setCell_same w5 (w.heap.size + 1) 1 _ _ (.string (str nm)) hCw5
  have KS6 := Wire.kept_set w5 (w.heap.size + 1) 1 (.string (str nm))
  have hr6 := hrw5.kept KS6 (by omega) (by omega)
  have K6 : Wire.Kept (fun x => x = b) w (w5.setCell ⟨w.heap.size + 1, 1, none⟩ (.string (str nm))) := Kw5.trans KS6 (fun _ _ h => h) (fun z hz h => by omega)
  have g0 : (w5.setCell ⟨w.heap.size + 1, 1, none⟩ (.string (str nm))).cell? ⟨w.heap.size + 1, 0, none⟩ = some (.int .i64 (kn : Int)) := by rw [cell_of_row _ _ 0 _ _ _ hC6]; rfl
  clear ht4 KT KS6 hrw5 Kw5 hAw5 hCw5 hr4 K4 hA4 hC4
  by_cases hk1 : kn = 1
  · subst hk1
    have hRT : itemT l 1 nm p2 y2 = (⟨((1 : Nat) : Int), nm, [], (listR l (caseR l) p2 y2).1⟩, (listR l (caseR l) p2 y2).2) := rfl
    have HRT := hidden hRT
    have hlist := readCases b g l p2 y2 _ hl h256 hp2 hr6
    generalize listR l (caseR l) p2 y2 = V at *
    obtain ⟨cs, p3, y3⟩ := V
    unfold ReadCasesE at hlist
    simp only at hlist
    clear hRT
    go_wp2_with fail
    generalize w5.setCell ⟨w.heap.size + 1, 1, none⟩ (.string (str nm)) = w6 at *
    refine hlist.mono ?_
    rintro e w7 ⟨fv, rfl, hT7, hf7, hrw7, KL⟩
    obtain ⟨fa, fc, rfl⟩ := hT7.shape
    have hz6 : w.heap.size + 1 < w6.heap.size := (Array.getElem?_eq_some_iff.1 hC6).1
    have hAw7 := (KL.block w.heap.size (by omega) (by omega)).trans hA6
    have hCw7 := (KL.block (w.heap.size + 1) (by omega) (by omega)).trans hC6
    have Kw7 : Wire.Kept (fun x => x = b) w w7 := K6.trans KL (fun _ _ h => h) (fun _ _ h => h)
    have c3 : w7.cell? ⟨w.heap.size + 1, 3, none⟩ = some (.slice none 0 0) := by rw [cell_of_row _ _ 3 _ _ _ hCw7]; rfl
    have f3 := frozen_of_row w7 (w.heap.size + 1) 3 _ _ hCw7
    have hA8 := (Below.heap_setCell w7 ⟨w.heap.size + 1, 3, none⟩ (.slice fa cs.length fc) w.heap.size (by show w.heap.size ≠ w.heap.size + 1; omega)).trans hAw7
    have hC8 : (w7.setCell ⟨w.heap.size + 1, 3, none⟩ (.slice fa cs.length fc)).heap[w.heap.size + 1]? = some (.cells #[.int .i64 ((1 : Nat) : Int), .string (str nm), .string ⟨#[]⟩, .slice fa cs.length fc] 34 (0, 0)) := by simpa using heap_setCell_same w7 (w.heap.size + 1) 3 _ _ (.slice fa cs.length fc) hCw7
    have KS8 := Wire.kept_set w7 (w.heap.size + 1) 3 (.slice fa cs.length fc)
    have hr8 := hrw7.kept KS8 (by omega) (by omega)
    have K8 : Wire.Kept (fun x => x = b) w (w7.setCell ⟨w.heap.size + 1, 3, none⟩ (.slice fa cs.length fc)) := Kw7.trans KS8 (fun _ _ h => h) (fun z hz h => by omega)
    have K9 := wkept_setRow (w7.setCell ⟨w.heap.size + 1, 3, none⟩ (.slice fa cs.length fc)) w.heap.size #[.int .i64 ((1 : Nat) : Int), .string (str nm), .string ⟨#[]⟩, .slice fa cs.length fc]
    have hT9 : CsR (Fr w ((w7.setCell ⟨w.heap.size + 1, 3, none⟩ (.slice fa cs.length fc)).setRow w.heap.size #[.int .i64 ((1 : Nat) : Int), .string (str nm), .string ⟨#[]⟩, .slice fa cs.length fc])) ((w7.setCell ⟨w.heap.size + 1, 3, none⟩ (.slice fa cs.length fc)).setRow w.heap.size #[.int .i64 ((1 : Nat) : Int), .string (str nm), .string ⟨#[]⟩, .slice fa cs.length fc]) (.slice fa cs.length fc) cs := hT7.frame fun z hz => by
      have h1 := hz.1
      have h2 := hz.2
      have h3 := KS8.size
      have h4 := K9.size
      exact ⟨⟨by omega, by omega⟩, (K9.block z (by omega) (by omega)).trans (KS8.block z h2 (by omega))⟩
    have hr9 := hr8.kept K9 (by omega) (by omega)
    have K9f : Wire.Kept (fun x => x = b) w ((w7.setCell ⟨w.heap.size + 1, 3, none⟩ (.slice fa cs.length fc)).setRow w.heap.size #[.int .i64 ((1 : Nat) : Int), .string (str nm), .string ⟨#[]⟩, .slice fa cs.length fc]) := K8.trans K9 (fun _ _ h => h) (fun z hz h => by omega)
    have d0 : (w7.setCell ⟨w.heap.size + 1, 3, none⟩ (.slice fa cs.length fc)).cell? ⟨w.heap.size + 1, 0, none⟩ = some (.int .i64 ((1 : Nat) : Int)) := by rw [cell_of_row _ _ 0 _ _ _ hC8]; rfl
    have d1 : (w7.setCell ⟨w.heap.size + 1, 3, none⟩ (.slice fa cs.length fc)).cell? ⟨w.heap.size + 1, 1, none⟩ = some (.string (str nm)) := by rw [cell_of_row _ _ 1 _ _ _ hC8]; rfl
    have d2 : (w7.setCell ⟨w.heap.size + 1, 3, none⟩ (.slice fa cs.length fc)).cell? ⟨w.heap.size + 1, 2, none⟩ = some (.string ⟨#[]⟩) := by rw [cell_of_row _ _ 2 _ _ _ hC8]; rfl
    have d3 : (w7.setCell ⟨w.heap.size + 1, 3, none⟩ (.slice fa cs.length fc)).cell? ⟨w.heap.size + 1, 3, none⟩ = some (.slice fa cs.length fc) := by rw [cell_of_row _ _ 3 _ _ _ hC8]; rfl
    clear hlist hT7 KL KS8 K9 hrw7 Kw7 hAw7 hCw7 hr6 K6 hA6 hC6 hr8 K8
    go_wp2_with (refine wpList_store_row rfl 34 (.tmp 2) (.tmp 20) rfl w.heap.size #[.int .i64 ((1 : Nat) : Int), .string (str nm), .string ⟨#[]⟩, .slice fa cs.length fc] rfl rfl 34 #[.int .i64 0, .string ⟨#[]⟩, .string ⟨#[]⟩, .slice none 0 0] hA8 sizeIt rfl (by kernel_rfl) ?_)
    (try simp only [Exit.inBlock, Exit.then])
    refine bodyPost_ret (results_cell_row rfl _ _ w.heap.size 34 #[.int .i64 ((1 : Nat) : Int), .string (str nm), .string ⟨#[]⟩, .slice fa cs.length fc] (0, 0) _ rfl (setRow_heap _ w.heap.size _ _ 34 (0, 0) hA8) Tryz.underlying34 rfl sizeIt) rfl ?_
    rw [HRT.out]
    exact ⟨_, rfl, hT9, hf7, hr9, K9f⟩
  · have hRT : itemT l kn nm p2 y2 = (⟨(kn : Int), nm, (txtR l 200 p2 y2).1, []⟩, (txtR l 200 p2 y2).2) := by unfold itemT; rw [if_neg hk1]
    have HRT := hidden hRT
    have htt := readTypeC b g l p2 y2 _ hl h256 hp2 hr6
    unfold TxtE at htt
    generalize txtR l 200 p2 y2 = V at *
    obtain ⟨ty, p3, y3⟩ := V
    simp only at htt
    have hkf : ((kn : Int) == 1) = false := by rw [beq_eq_false_iff_ne]; omega
    clear hRT hk1
    go_wp2_with fail
    generalize w5.setCell ⟨w.heap.size + 1, 1, none⟩ (.string (str nm)) = w6 at *
    refine htt.mono ?_
    rintro e w7 ⟨rfl, hrw7, KL⟩
    have hz6 : w.heap.size + 1 < w6.heap.size := (Array.getElem?_eq_some_iff.1 hC6).1
    have hAw7 := (KL.block w.heap.size (by omega) (by omega)).trans hA6
    have hCw7 := (KL.block (w.heap.size + 1) (by omega) (by omega)).trans hC6
    have Kw7 : Wire.Kept (fun x => x = b) w w7 := K6.trans KL (fun _ _ h => h) (fun _ _ h => h)
    have c2 : w7.cell? ⟨w.heap.size + 1, 2, none⟩ = some (.string ⟨#[]⟩) := by rw [cell_of_row _ _ 2 _ _ _ hCw7]; rfl
    have f2 := frozen_of_row w7 (w.heap.size + 1) 2 _ _ hCw7
    have hA8 := (Below.heap_setCell w7 ⟨w.heap.size + 1, 2, none⟩ (.string (str ty)) w.heap.size (by show w.heap.size ≠ w.heap.size + 1; omega)).trans hAw7
    have hC8 : (w7.setCell ⟨w.heap.size + 1, 2, none⟩ (.string (str ty))).heap[w.heap.size + 1]? = some (.cells #[.int .i64 (kn : Int), .string (str nm), .string (str ty), .slice none 0 0] 34 (0, 0)) := by simpa using heap_setCell_same w7 (w.heap.size + 1) 2 _ _ (.string (str ty)) hCw7
    have KS8 := Wire.kept_set w7 (w.heap.size + 1) 2 (.string (str ty))
    have hr8 := hrw7.kept KS8 (by omega) (by omega)
    have K8 : Wire.Kept (fun x => x = b) w (w7.setCell ⟨w.heap.size + 1, 2, none⟩ (.string (str ty))) := Kw7.trans KS8 (fun _ _ h => h) (fun z hz h => by omega)
    have K9 := wkept_setRow (w7.setCell ⟨w.heap.size + 1, 2, none⟩ (.string (str ty))) w.heap.size #[.int .i64 (kn : Int), .string (str nm), .string (str ty), .slice none 0 0]
    have hr9 := hr8.kept K9 (by omega) (by omega)
    have K9f : Wire.Kept (fun x => x = b) w ((w7.setCell ⟨w.heap.size + 1, 2, none⟩ (.string (str ty))).setRow w.heap.size #[.int .i64 (kn : Int), .string (str nm), .string (str ty), .slice none 0 0]) := K8.trans K9 (fun _ _ h => h) (fun z hz h => by omega)
    have d0 : (w7.setCell ⟨w.heap.size + 1, 2, none⟩ (.string (str ty))).cell? ⟨w.heap.size + 1, 0, none⟩ = some (.int .i64 (kn : Int)) := by rw [cell_of_row _ _ 0 _ _ _ hC8]; rfl
    have d1 : (w7.setCell ⟨w.heap.size + 1, 2, none⟩ (.string (str ty))).cell? ⟨w.heap.size + 1, 1, none⟩ = some (.string (str nm)) := by rw [cell_of_row _ _ 1 _ _ _ hC8]; rfl
    have d2 : (w7.setCell ⟨w.heap.size + 1, 2, none⟩ (.string (str ty))).cell? ⟨w.heap.size + 1, 2, none⟩ = some (.string (str ty)) := by rw [cell_of_row _ _ 2 _ _ _ hC8]; rfl
    have d3 : (w7.setCell ⟨w.heap.size + 1, 2, none⟩ (.string (str ty))).cell? ⟨w.heap.size + 1, 3, none⟩ = some (.slice none 0 0) := by rw [cell_of_row _ _ 3 _ _ _ hC8]; rfl
    clear htt KL KS8 K9 hrw7 Kw7 hAw7 hCw7 hr6 K6 hA6 hC6 hr8 K8
    go_wp2_with (refine wpList_store_row rfl 34 (.tmp 2) (.tmp 20) rfl w.heap.size #[.int .i64 (kn : Int), .string (str nm), .string (str ty), .slice none 0 0] rfl rfl 34 #[.int .i64 0, .string ⟨#[]⟩, .string ⟨#[]⟩, .slice none 0 0] hA8 sizeIt rfl (by kernel_rfl) ?_)
    (try simp only [Exit.inBlock, Exit.then])
    refine bodyPost_ret (results_cell_row rfl _ _ w.heap.size 34 #[.int .i64 (kn : Int), .string (str nm), .string (str ty), .slice none 0 0] (0, 0) _ rfl (setRow_heap _ w.heap.size _ _ 34 (0, 0) hA8) Tryz.underlying34 rfl sizeIt) rfl ?_
    rw [HRT.out]
    exact ⟨_, rfl, .inl ⟨none, 0, rfl, rfl⟩, by simp, hr9, K9f⟩
end Go.Proofs.YtalbjbahgbkifaaGreat

namespace Go.Proofs.YtalbjbahgbkifaaGreat
open Go.RowKit

def ReadItemsE (RES : List It × Nat × Nat) (l : List Nat) (b g : Nat) (w : World) (e : Ending) (w' : World) : Prop := ∃ v, e = .returned v ∧ ItR (Fr w w') w' v RES.1 ∧ RES.1.length ≤ 65535 ∧ Wire.RIs w' b g l RES.2.1 RES.2.2 ∧ Wire.Kept (fun x => x = b) w w'
set_option maxHeartbeats 2000000 in
set_option maxRecDepth 1000000 in
theorem readItems (b g : Nat) (l : List Nat) (p y : Nat) (w : World) (hl : l.length ≤ 140737488355328) (h256 : ∀ x ∈ l, x < 256) (hp : p ≤ l.length) (hr : Wire.RIs w b g l p y) :
    Calls Tryz.prog 53 #[.pointer (some ⟨b, 0, none⟩), .func (.func 54) #[] #[]] w (ReadItemsE (listR l (itemR l) p y) l b g w) := by
  have hbl := hr.lt
  have hgl := hr.gt
  have hnum := Wire.rnumber b g l p y 65535 w hl h256 hp (by decide) hr
  have hN := Wire.rNum_most l p y 65535
  have hp1 := Wire.rNum_le l p y 65535 hp
  have HL : Hid (listR l (itemR l) p y = listF (itemR l) (Wire.rNum l p y 65535).1 (Wire.rNum l p y 65535).2.1 (Wire.rNum l p y 65535).2.2 []) := rfl
  generalize Wire.rNum l p y 65535 = R at *
  obtain ⟨N, p1, y1⟩ := R
  simp only at hnum hN hp1 HL
  generalize listR l (itemR l) p y = RES at *
  go_enter Tryz.func53, Tryz.ntmps53
  go_wp2_with fail
  refine hnum.mono ?_
  rintro e w1 ⟨rfl, hr1, K1⟩
  go_wp2
  go_loopg [5, 9] N (fun gk lv i wr => ∃ (k pk yk : Nat) (acc : List It), gk + k = N ∧ i = .int .u64 (k : Int) ∧ Hid (RES = listF (itemR l) (N - k) pk yk acc) ∧ Hid (acc.length = k) ∧ pk ≤ l.length ∧ Wire.RIs wr b g l pk yk ∧ ItI w.heap.size wr lv acc ∧ Wire.Kept (fun x => x = b) w wr)
  case atStart => exact ⟨0, p1, y1, [], by omega, rfl, by simpa [Hid] using HL, rfl, hp1, hr1, ItI.nil _ _, K1⟩
  case round =>
    obtain ⟨k, pk, yk, acc, hg, rfl, hq, hak, hpk, hrr, hrow, Kr⟩ := hrel
    have hsr := Kr.size
    by_cases hk : k < N
    · have hki : (k : Int) < (N : Int) := by omega
      have hst := listF_at (itemR l) N k pk yk acc hk
      have hrd := readItemC b g l pk yk wr hl h256 hpk hrr
      have hple := item_le l pk yk hpk
      have hal : acc.length ≤ 65535 := by have := hak.out; omega
      unfold ItemE at hrd
      generalize itemR l pk yk = X at *
      obtain ⟨⟨kd, nm, ty, cs⟩, px, yx⟩ := X
      simp only [itv] at hst hrd hple
      go_wp2_with fail
      refine hrd.mono ?_
      rintro e w2 ⟨fv, rfl, hT2, hf2, hr2, K2⟩
      obtain ⟨fa, fc, rfl⟩ := hT2.shape
      have K3 := wkept_alloc w2 (.cells #[.int .i64 kd, .string (str nm), .string (str ty), .slice fa cs.length fc] 34)
      have hr3 := hr2.kept K3 (fun h => h) (fun h => h)
      have href := refusedC b g l px yx _ hl hr3
      have hN3 : (w2.alloc (.cells #[.int .i64 kd, .string (str nm), .string (str ty), .slice fa cs.length fc] 34)).heap[w2.heap.size]? = some (.cells #[.int .i64 kd, .string (str nm), .string (str ty), .slice fa cs.length fc] 34 (0, 0)) := World.alloc_heap_new w2 _
      have hob0 : ∀ z, Value.ownBlock _ = some z → w.heap.size ≤ z ∧ z < wr.heap.size := fun z hz => hrow.block hz
      have hrow3 := (hrow.wkept K2 (fun z hz e => by omega)).wkept K3 (fun _ _ h => h)
      have K3' : Wire.Kept (fun x => x = b) w (w2.alloc (.cells #[.int .i64 kd, .string (str nm), .string (str ty), .slice fa cs.length fc] 34)) := (Kr.trans K2 (fun _ _ h => h) (fun _ _ h => h)).trans K3 (fun _ _ h => h) (fun _ _ h => h.elim)
      have hs2 := K2.size
      have hT3 : CsR (fun z => w.heap.size ≤ z ∧ z < (w2.alloc (.cells #[.int .i64 kd, .string (str nm), .string (str ty), .slice fa cs.length fc] 34)).heap.size ∧ some z ≠ Value.ownBlock _) (w2.alloc (.cells #[.int .i64 kd, .string (str nm), .string (str ty), .slice fa cs.length fc] 34)) _ cs := hT2.frame fun z hz => ⟨⟨by have := hz.1; omega, by have := hz.2; simp; omega, fun e => by have := (hob0 z e.symm).2; have := hz.1; omega⟩, Below.heap_alloc _ _ _ hz.2⟩
      by_cases hbad : badW yx = true
      · rw [hbad] at href
        have HE := hq.out
        rw [hst, if_pos hbad] at HE
        subst HE
        go_wp2_with fail
        generalize w2.alloc (.cells #[.int .i64 kd, .string (str nm), .string (str ty), .slice fa cs.length fc] 34) = W3 at *
        refine href.mono ?_
        rintro e w4 ⟨rfl, K4⟩
        go_wp2
        go_ret
        exact ⟨_, rfl, .inl ⟨none, 0, rfl, rfl⟩, by simp, hr3.kept K4 (fun h => h) (fun h => h), K3'.trans K4 (fun _ _ h => h) (fun _ _ h => h.elim)⟩
      · have hbf : badW yx = false := by simpa using hbad
        rw [hbf] at href
        have HE : Hid (RES = listF (itemR l) (N - (k + 1)) px yx (acc ++ [⟨kd, nm, ty, cs⟩])) := by rw [hid_iff, hq.out, hst, if_neg hbad]
        obtain ⟨la, lc, hlv⟩ := hrow.shape
        subst hlv
        clear hst hq hbad hbf
        go_wp2_with fail
        generalize hW3 : w2.alloc (.cells #[.int .i64 kd, .string (str nm), .string (str ty), .slice fa cs.length fc] 34) = W3 at *
        clear hW3
        refine href.mono ?_
        rintro e w4 ⟨rfl, K4⟩
        have hlt3 : w2.heap.size < W3.heap.size := (Array.getElem?_eq_some_iff.1 hN3).1
        have hr4 := hr3.kept K4 (fun h => h) (fun h => h)
        have hrow4 := hrow3.wkept K4 (fun _ _ h => h)
        have hN4 := (K4.block w2.heap.size hlt3 (fun h => h)).trans hN3
        have K4' : Wire.Kept (fun x => x = b) w w4 := K3'.trans K4 (fun _ _ h => h) (fun _ _ h => h.elim)
        have hT4 : CsR (fun z => w.heap.size ≤ z ∧ z < w4.heap.size ∧ some z ≠ (Value.slice la acc.length lc).ownBlock) w4 (.slice fa cs.length fc) cs := hT3.frame fun z hz => ⟨⟨hz.1, Nat.lt_of_lt_of_le hz.2.1 K4.size, hz.2.2⟩, K4.block z hz.2.1 (fun h => h)⟩
        have hs4 := K4'.size
        have n0 : w4.cell? ⟨w2.heap.size, 0, none⟩ = some (.int .i64 kd) := by rw [cell_of_row _ _ 0 _ _ _ hN4]; rfl
        have n1 : w4.cell? ⟨w2.heap.size, 1, none⟩ = some (.string (str nm)) := by rw [cell_of_row _ _ 1 _ _ _ hN4]; rfl
        have n2 : w4.cell? ⟨w2.heap.size, 2, none⟩ = some (.string (str ty)) := by rw [cell_of_row _ _ 2 _ _ _ hN4]; rfl
        have n3 : w4.cell? ⟨w2.heap.size, 3, none⟩ = some (.slice fa cs.length fc) := by rw [cell_of_row _ _ 3 _ _ _ hN4]; rfl
        clear hrow hrow3 K2 K3 K4 hr2 hr3 hrr Kr K3' hN3 hT3 hT2 href hrd hnum
        go_wp2_with (at_builtin; refine append_itemJ rfl (.tmp 16) (.tmp 18) rfl w.heap.size _ acc rfl (hrow4.wkept (wkept_alloc _ _) (fun _ _ h => h)) ⟨kd, nm, ty, cs⟩ (.slice fa cs.length fc) _ _ rfl (cells_new _ _ _) ?hT ?len ?hB ?next)
        case hT => exact hT4.frame fun z hz => ⟨⟨hz.1, by have := hz.2.1; simp; omega, hz.2.2⟩, Below.heap_alloc _ _ _ hz.2.1⟩
        case len => omega
        case hB => first | omega | (simp; omega)
        case next =>
          intro gq cap w5 j1 j2
          have K5 := ((wkept_alloc w4 (.cells #[.int .i64 kd, .string (str nm), .string (str ty), .slice fa cs.length fc] 34)).trans (U := fun z => (Value.slice la acc.length lc).ownBlock = some z) (wkept_grown j2) (fun _ _ h => h.elim) (fun _ _ h => h))
          have hr5 := hr4.kept K5 (fun h => by have := (hob0 _ h).1; omega) (fun h => by have := (hob0 _ h).1; omega)
          have K5' : Wire.Kept (fun x => x = b) w w5 := K4'.trans K5 (fun _ _ h => h) (fun z hz h => absurd (hob0 z h).1 (by omega))
          clear K5 K4' hr4 hrow4 j2
          go_wp2
          go_roundg (N - (k + 1))
          case measure => omega
          case rel => exact ⟨k + 1, px, yx, acc ++ [⟨kd, nm, ty, cs⟩], by omega, by go_num, HE, by have := hak.out; rw [hid_iff, List.length_append, List.length_singleton, this], hple, hr5, j1, K5'⟩
    · have hki : ¬ (k : Int) < (N : Int) := by omega
      have HE := hq.out
      rw [listF_end (itemR l) N k pk yk acc hk] at HE
      subst HE
      obtain ⟨va, vc, rfl⟩ : ∃ va vc, u5 = .slice va acc.length vc := by
        exact hrow.shape
      have hal : acc.length ≤ 65535 := by have := hak.out; omega
      go_wp2
      go_ret
      exact ⟨_, rfl, hrow.row, hal, hrr, Kr⟩
end Go.Proofs.YtalbjbahgbkifaaGreat

namespace Go.Proofs.YtalbjbahgbkifaaGreat

theorem txt_len (l : List Nat) (most p y : Nat) : (txtR l most p y).1.length ≤ most := by
  have h := Wire.rNum_most l p y most
  unfold txtR
  generalize Wire.rNum l p y most = R at *
  obtain ⟨n, q, z⟩ := R
  simp only at h ⊢
  unfold Wire.rTake
  split
  · simp
  · split
    · simp
    · simp only [Int.toNat_natCast, List.length_map]
      exact Nat.le_trans (List.length_take_le _ _) h
theorem listF_all {α : Type} {rd : Nat → Nat → α × Nat × Nat} {P : α → Prop} (hP : ∀ p y, P (rd p y).1) : ∀ (n p y : Nat) (acc : List α), (∀ x ∈ acc, P x) → (∀ x ∈ (listF rd n p y acc).1, P x) ∧ (listF rd n p y acc).1.length ≤ acc.length + n
  | 0, p, y, acc, h => ⟨h, by simp [listF]⟩
  | n + 1, p, y, acc, h => by
    rw [listF]
    split
    · exact ⟨by simp, by simp⟩
    · obtain ⟨h1, h2⟩ := listF_all hP n (rd p y).2.1 (rd p y).2.2 (acc ++ [(rd p y).1]) (fun x hx => by
        rcases List.mem_append.1 hx with hx | hx
        · exact h x hx
        · rw [List.mem_singleton.1 hx]; exact hP p y)
      refine ⟨h1, ?_⟩
      simp only [List.length_append, List.length_cons, List.length_nil] at h2
      omega
theorem list_all {α : Type} {l : List Nat} {rd : Nat → Nat → α × Nat × Nat} {P : α → Prop} (hP : ∀ p y, P (rd p y).1) (p y : Nat) : (∀ x ∈ (listR l rd p y).1, P x) ∧ (listR l rd p y).1.length ≤ 65535 := by
  have h := listF_all hP (Wire.rNum l p y 65535).1 (Wire.rNum l p y 65535).2.1 (Wire.rNum l p y 65535).2.2 [] (by simp)
  have h2 := Wire.rNum_most l p y 65535
  refine ⟨h.1, ?_⟩
  have h3 := h.2
  unfold listR
  simp only [List.length_nil] at h3
  omega
theorem case_ok (l : List Nat) (p y : Nat) : CsOk (caseR l p y).1 := by
  have h1 := txt_len l 24 p y
  obtain ⟨h2, h3⟩ := list_all (l := l) (P := fun f : List UInt8 => f.length ≤ 200) (txt_len l 200) (txtR l 24 p y).2.1 (txtR l 24 p y).2.2
  exact ⟨by unfold Tk; show (txtR l 24 p y).1.length ≤ _; omega, by show (listR l (txtR l 200) _ _).1.length ≤ _; omega, fun f hf => by have := h2 f hf; unfold Tk; omega⟩
theorem item_ok (l : List Nat) (p y : Nat) : ItOk (itemR l p y).1 := by
  have hk := Wire.rNum_most l p y 65535
  unfold itemR itemN
  generalize Wire.rNum l p y 65535 = R at *
  obtain ⟨k, q, z⟩ := R
  simp only at hk ⊢
  have hn := txt_len l 24 q z
  generalize txtR l 24 q z = N at *
  obtain ⟨nm, q2, z2⟩ := N
  simp only at hn ⊢
  unfold itemT
  split
  · obtain ⟨h2, h3⟩ := list_all (l := l) (P := CsOk) (case_ok l) q2 z2
    exact ⟨by simp only; omega, by simp only; omega, by unfold Tk; simp only; omega, by unfold Tk; simp, by simp only; omega, h2⟩
  · have ht := txt_len l 200 q2 z2
    exact ⟨by simp only; omega, by simp only; omega, by unfold Tk; simp only; omega, by unfold Tk; simp only; omega, by simp, by simp⟩
theorem items_ok (l : List Nat) : ∀ x ∈ (itemsR l).1, ItOk x := (list_all (l := l) (P := ItOk) (item_ok l) _ _).1
theorem name_ok (l : List Nat) : Tk (txtR l 24 0 0).1 := by
  have := txt_len l 24 0 0
  unfold Tk
  omega
end Go.Proofs.YtalbjbahgbkifaaGreat

namespace Go.Proofs.YtalbjbahgbkifaaGreat
open Go.RowKit

def DecE (l : List Nat) (w : World) (e : Ending) (w' : World) : Prop :=
  (((whyD l).1 ≠ 0 ∧ e = .returned (.tuple #[.agg #[.string ⟨#[]⟩, .slice none 0 0], .int .i64 ((whyD l).1 : Int), .int .i64 ((whyD l).2 : Int)])) ∨ ((whyD l).1 = 0 ∧ ∃ v, e = .returned (.tuple #[.agg #[.string (str (txtR l 24 0 0).1), v], .int .i64 0, .int .i64 0]) ∧ ItR (Fr w w') w' v (itemsR l).1)) ∧ Below w.heap.size w w'
theorem res8 {P : Program} {fn : Func} {p u v : Tmp} {ty : TypeId} (h : fn.results = #[.cell p ty, .tmp u, .tmp v]) (tmps : Array Value) (w : World) (g : Nat) (t : TypeId) (cs : Array Value) (fr : Nat × Nat) (d : TypeDesc)
    (hp : tmps.getD p undef = .pointer (some ⟨g, 0, none⟩)) (hg : w.heap[g]? = some (.cells cs t fr))
    (hu : P.underlying ty = some d) (hd : (match d with | .struct _ | .array _ _ => true | _ => false) = true) (hi : (P.info? ty).map (·.size) = some cs.size) :
    (results fn tmps).run P w = .ok (.tuple #[.agg cs, tmps.getD u undef, tmps.getD v undef]) w := by
  have hp' : tmps[p]?.getD undef = .pointer (some ⟨g, 0, none⟩) := by simpa using hp
  simp [results, h, hp', asAddr, run_loadVar_row w g t ty cs fr d hg hu hd hi]
theorem dec_bad (l : List Nat) (h : (endR l).1 ≠ 0) : whyD l = endR l := by unfold whyD; rw [if_pos h]
theorem dec_right (l : List Nat) (h : (endR l).1 = 0) : whyD l = (rightI (txtR l 24 0 0).1 (itemsR l).1, 0) := by unfold whyD; rw [if_neg (fun e => e h)]
set_option maxHeartbeats 4000000 in
set_option maxRecDepth 1000000 in
theorem decode7 (v : Value) (b0 : Nat) (l : List Nat) (w : World) (hl : l.length ≤ 140737488355328) (h256 : ∀ x ∈ l, x < 256) (hv : Wire.Rd w b0 v l) : Calls Tryz.prog 20 #[v] w (DecE l w) := by
  have hA1 : (w.alloc (.cells #[.string ⟨#[]⟩, .slice none 0 0] 24)).heap[w.heap.size]? = some (.cells #[.string ⟨#[]⟩, .slice none 0 0] 24 (0, 0)) := World.alloc_heap_new w _
  have hbA : Below w.heap.size w (w.alloc (.cells #[.string ⟨#[]⟩, .slice none 0 0] 24)) := (Below.refl _ _).alloc (Nat.le_refl _) _
  have hnr := Wire.newreader v b0 l _ hl (hv.kept (wkept_alloc w (.cells #[.string ⟨#[]⟩, .slice none 0 0] 24)) (fun h => h))
  have hxB := dec_bad l
  have hxR := dec_right l
  have hio := items_ok l
  have hmo := name_ok l
  have hple := txt_le l 24 0 0 (Nat.zero_le _)
  have HI : Hid (itemsR l = listR l (itemR l) (txtR l 24 0 0).2.1 (txtR l 24 0 0).2.2) := rfl
  have HEN : Hid (endR l = Wire.rEnd l (itemsR l).2.1 (itemsR l).2.2) := rfl
  have htx : ∀ u b g, Wire.RIs u b g l 0 0 → Calls Tryz.prog 52 #[.pointer (some ⟨b, 0, none⟩), .int .i64 24] u (TxtE l 24 0 0 b g u) := fun u b g hu => rtxt24 b g l 0 0 u hl h256 (Nat.zero_le _) hu
  unfold TxtE at htx
  unfold DecE
  generalize txtR l 24 0 0 = X at *
  obtain ⟨nm, p1, y1⟩ := X
  simp only at htx hple hmo HI hxR ⊢
  have hlist : ∀ u b g, Wire.RIs u b g l p1 y1 → Calls Tryz.prog 53 #[.pointer (some ⟨b, 0, none⟩), .func (.func 54) #[] #[]] u (ReadItemsE (listR l (itemR l) p1 y1) l b g u) := fun u b g hu => readItems b g l p1 y1 u hl h256 hple hu
  rw [← HI.out] at hlist
  clear HI
  generalize itemsR l = Y at *
  obtain ⟨xs, p2, y2⟩ := Y
  unfold ReadItemsE at hlist
  simp only at hlist hio HEN hxR ⊢
  go_enter Tryz.func20, Tryz.ntmps20
  go_wp2_with fail
  generalize w.alloc (.cells #[.string ⟨#[]⟩, .slice none 0 0] 24) = W1 at *
  refine hnr.mono ?_
  rintro e w2 ⟨b, g, rfl, hr2, hb2, hg2, K2⟩
  have hz1 : w.heap.size < W1.heap.size := (Array.getElem?_eq_some_iff.1 hA1).1
  have hA2 := (K2.block w.heap.size hz1 (fun h => h)).trans hA1
  have hs2 := K2.size
  have hbl := hr2.lt
  have hgl := hr2.gt
  have hA3 : (w2.alloc (.cells #[.string ⟨#[]⟩, .slice none 0 0] 24)).heap[w.heap.size]? = some (.cells #[.string ⟨#[]⟩, .slice none 0 0] 24 (0, 0)) := (Below.heap_alloc _ _ _ (by omega)).trans hA2
  have hC3 : (w2.alloc (.cells #[.string ⟨#[]⟩, .slice none 0 0] 24)).heap[w2.heap.size]? = some (.cells #[.string ⟨#[]⟩, .slice none 0 0] 24 (0, 0)) := World.alloc_heap_new w2 _
  have hr3 := hr2.kept (wkept_alloc w2 (.cells #[.string ⟨#[]⟩, .slice none 0 0] 24)) (fun h => h) (fun h => h)
  have hb3 : Below w.heap.size w (w2.alloc (.cells #[.string ⟨#[]⟩, .slice none 0 0] 24)) := (hbA.trans (K2.below (by omega) (fun _ _ h => h))).trans ((wkept_alloc w2 _).below (by omega) (fun _ _ h => h))
  have ht3 := htx _ b g hr3
  clear htx hnr K2 hA1 hbA hA2 hr2
  go_wp2_with fail
  generalize hW3 : w2.alloc (.cells #[.string ⟨#[]⟩, .slice none 0 0] 24) = W3 at *
  have hz3 : w2.heap.size < W3.heap.size := (Array.getElem?_eq_some_iff.1 hC3).1
  clear hW3
  refine ht3.mono ?_
  rintro e w4 ⟨rfl, hr4, K4⟩
  have hA4 := (K4.block w.heap.size (by omega) (by omega)).trans hA3
  have hC4 := (K4.block w2.heap.size hz3 (by omega)).trans hC3
  have hs4 := K4.size
  have hb4 := hb3.trans (K4.below (B := w.heap.size) (by omega) (fun x hx h => by omega))
  have c0 : w4.cell? ⟨w2.heap.size, 0, none⟩ = some (.string ⟨#[]⟩) := by rw [cell_of_row _ _ 0 _ _ _ hC4]; rfl
  have f0 := frozen_of_row w4 w2.heap.size 0 _ _ hC4
  have hA5 := (Below.heap_setCell w4 ⟨w2.heap.size, 0, none⟩ (.string (str nm)) w.heap.size (by show w.heap.size ≠ w2.heap.size; omega)).trans hA4
  have hC5 : (w4.setCell ⟨w2.heap.size, 0, none⟩ (.string (str nm))).heap[w2.heap.size]? = some (.cells #[.string (str nm), .slice none 0 0] 24 (0, 0)) := by simpa using heap_setCell_same w4 w2.heap.size 0 _ _ (.string (str nm)) hC4
  have KS5 := Wire.kept_set w4 w2.heap.size 0 (.string (str nm))
  have hr5 := hr4.kept KS5 (by omega) (by omega)
  have hs5 := KS5.size
  have hb5 := hb4.trans (KS5.below (B := w.heap.size) (by omega) (fun x hx h => by omega))
  have hl5 := hlist _ b g hr5
  clear hlist ht3 K4 KS5 hr3 hr4 hA3 hC3 hA4 hC4 hb3 hb4
  go_wp2_with fail
  generalize w4.setCell ⟨w2.heap.size, 0, none⟩ (.string (str nm)) = w5 at *
  refine hl5.mono ?_
  rintro e w6 ⟨iv, rfl, hT6, hf6, hr6, K6⟩
  obtain ⟨ia, ic, rfl⟩ := hT6.shape
  have hA6 := (K6.block w.heap.size (by omega) (by omega)).trans hA5
  have hC6 := (K6.block w2.heap.size (by omega) (by omega)).trans hC5
  have hs6 := K6.size
  have hb6 := hb5.trans (K6.below (B := w.heap.size) (by omega) (fun x hx h => by omega))
  have c1 : w6.cell? ⟨w2.heap.size, 1, none⟩ = some (.slice none 0 0) := by rw [cell_of_row _ _ 1 _ _ _ hC6]; rfl
  have f1 := frozen_of_row w6 w2.heap.size 1 _ _ hC6
  have hA7 := (Below.heap_setCell w6 ⟨w2.heap.size, 1, none⟩ (.slice ia xs.length ic) w.heap.size (by show w.heap.size ≠ w2.heap.size; omega)).trans hA6
  have hC7 : (w6.setCell ⟨w2.heap.size, 1, none⟩ (.slice ia xs.length ic)).heap[w2.heap.size]? = some (.cells #[.string (str nm), .slice ia xs.length ic] 24 (0, 0)) := by simpa using heap_setCell_same w6 w2.heap.size 1 _ _ (.slice ia xs.length ic) hC6
  have KS7 := Wire.kept_set w6 w2.heap.size 1 (.slice ia xs.length ic)
  have hr7 := hr6.kept KS7 (by omega) (by omega)
  have hs7 := KS7.size
  have hb7 := hb6.trans (KS7.below (B := w.heap.size) (by omega) (fun x hx h => by omega))
  have hT7 : ItR (fun z => w2.heap.size < z ∧ z < (w6.setCell ⟨w2.heap.size, 1, none⟩ (.slice ia xs.length ic)).heap.size) (w6.setCell ⟨w2.heap.size, 1, none⟩ (.slice ia xs.length ic)) (.slice ia xs.length ic) xs := hT6.frame fun z hz => ⟨⟨by have := hz.1; omega, by have := hz.2; omega⟩, KS7.block z hz.2 (by have := hz.1; omega)⟩
  have hend := Wire.rend b g l p2 y2 _ hl hr7
  rw [← HEN.out] at hend
  clear hl5 K6 KS7 hr5 hr6 hA5 hC5 hA6 hC6 hb5 hb6 hT6 HEN
  go_wp2_with fail
  generalize w6.setCell ⟨w2.heap.size, 1, none⟩ (.slice ia xs.length ic) = w7 at *
  refine hend.mono ?_
  rintro e w8 ⟨rfl, K8⟩
  have hz7 : w2.heap.size < w7.heap.size := (Array.getElem?_eq_some_iff.1 hC7).1
  have hA8 := (K8.block w.heap.size (by omega) (fun h => h)).trans hA7
  have hC8 := (K8.block w2.heap.size hz7 (fun h => h)).trans hC7
  have hs8 := K8.size
  have hb8 := hb7.trans (K8.below (B := w.heap.size) (by omega) (fun _ _ h => h))
  have hT8 : ItR (fun z => w2.heap.size < z ∧ z < w8.heap.size) w8 (.slice ia xs.length ic) xs := hT7.frame fun z hz => ⟨⟨hz.1, Nat.lt_of_lt_of_le hz.2 hs8⟩, K8.block z hz.2 (fun h => h)⟩
  clear hend K8 hA7 hC7 hb7 hT7 hr7
  by_cases hz : (endR l).1 = 0
  · have hxr := hxR hz
    clear hxB hxR
    have d0 : w8.cell? ⟨w2.heap.size, 0, none⟩ = some (.string (str nm)) := by rw [cell_of_row _ _ 0 _ _ _ hC8]; rfl
    have d1 : w8.cell? ⟨w2.heap.size, 1, none⟩ = some (.slice ia xs.length ic) := by rw [cell_of_row _ _ 1 _ _ _ hC8]; rfl
    have hri := right7 (fun z => w2.heap.size < z ∧ z < w8.heap.size) nm (.slice ia xs.length ic) xs w8 hT8 (fun z hz => hz.2) hmo hio
    rw [hz]
    generalize rightI nm xs = yr at *
    have HX := hidden hxr
    clear hxr
    generalize (endR l).2 = zq at *
    go_wp2_with fail
    refine hri.mono ?_
    rintro e w9 ⟨rfl, hb9⟩
    have hA9 := (hb9.block w.heap.size (by omega)).trans hA8
    have hC9 := (hb9.block w2.heap.size (by omega)).trans hC8
    have hs9 := hb9.size
    have hbw9 : Below w.heap.size w w9 := hb8.trans (hb9.mono (by omega))
    have hT9 : ItR (fun z => w2.heap.size < z ∧ z < w9.heap.size) w9 (.slice ia xs.length ic) xs := hT8.frame fun z hz => ⟨⟨hz.1, Nat.lt_of_lt_of_le hz.2 hs9⟩, hb9.block z hz.2⟩
    clear hri hb9 d0 d1 hA8 hC8 hT8 hb8
    by_cases hy : yr = 0
    · subst hy
      have d0 : w9.cell? ⟨w2.heap.size, 0, none⟩ = some (.string (str nm)) := by rw [cell_of_row _ _ 0 _ _ _ hC9]; rfl
      have d1 : w9.cell? ⟨w2.heap.size, 1, none⟩ = some (.slice ia xs.length ic) := by rw [cell_of_row _ _ 1 _ _ _ hC9]; rfl
      have KR := wkept_setRow w9 w.heap.size #[.string (str nm), .slice ia xs.length ic]
      have hbR := hbw9.trans (KR.below (B := w.heap.size) (by omega) (fun x hx h => by omega))
      have hTR : ItR (Fr w (w9.setRow w.heap.size #[.string (str nm), .slice ia xs.length ic])) (w9.setRow w.heap.size #[.string (str nm), .slice ia xs.length ic]) (.slice ia xs.length ic) xs := hT9.frame fun z hz => ⟨⟨by have := hz.1; omega, by have := hz.2; have := KR.size; omega⟩, KR.block z hz.2 (by have := hz.1; omega)⟩
      clear KR
      go_wp2_with (refine wpList_store_row rfl 24 (.tmp 2) (.tmp 34) rfl w.heap.size #[.string (str nm), .slice ia xs.length ic] rfl rfl 24 #[.string ⟨#[]⟩, .slice none 0 0] hA9 sizeIf rfl (by kernel_rfl) ?_)
      (try simp only [Exit.inBlock, Exit.then])
      refine bodyPost_ret (res8 rfl _ _ w.heap.size 24 #[.string (str nm), .slice ia xs.length ic] (0, 0) _ rfl (setRow_heap _ w.heap.size _ _ 24 (0, 0) hA9) Tryz.underlying24 rfl sizeIf) rfl ?_
      exact ⟨.inr ⟨by rw [HX.out], _, rfl, hTR⟩, hbR⟩
    · have hyn : ((yr : Int) != 0) = true := by rw [bne_iff_ne]; omega
      have KR := wkept_setRow w9 w.heap.size #[.string ⟨#[]⟩, .slice none 0 0]
      have hbR := hbw9.trans (KR.below (B := w.heap.size) (by omega) (fun x hx h => by omega))
      clear KR
      go_wp2_with (refine wpList_store_row rfl 24 (.tmp 2) (.tmp 32) rfl w.heap.size #[.string ⟨#[]⟩, .slice none 0 0] rfl rfl 24 #[.string ⟨#[]⟩, .slice none 0 0] hA9 sizeIf rfl (by kernel_rfl) ?_)
      (try simp only [Exit.inBlock, Exit.then])
      refine bodyPost_ret (res8 rfl _ _ w.heap.size 24 #[.string ⟨#[]⟩, .slice none 0 0] (0, 0) _ rfl (setRow_heap _ w.heap.size _ _ 24 (0, 0) hA9) Tryz.underlying24 rfl sizeIf) rfl ?_
      exact ⟨.inl ⟨by rw [HX.out]; exact hy, by rw [HX.out]; rfl⟩, hbR⟩
  · have HX := hidden (hxB hz)
    clear hxB hxR
    have HZ : Hid (¬ (endR l).1 = 0) := hz
    have hzn : (((endR l).1 : Int) != 0) = true := by rw [bne_iff_ne]; omega
    have KR := wkept_setRow w8 w.heap.size #[.string ⟨#[]⟩, .slice none 0 0]
    have hbR := hb8.trans (KR.below (B := w.heap.size) (by omega) (fun x hx h => by omega))
    clear KR hz
    generalize (endR l) = E at *
    obtain ⟨ey, eq⟩ := E
    simp only at hzn HZ
    go_wp2_with (refine wpList_store_row rfl 24 (.tmp 2) (.tmp 25) rfl w.heap.size #[.string ⟨#[]⟩, .slice none 0 0] rfl rfl 24 #[.string ⟨#[]⟩, .slice none 0 0] hA8 sizeIf rfl (by kernel_rfl) ?_)
    (try simp only [Exit.inBlock, Exit.then])
    refine bodyPost_ret (res8 rfl _ _ w.heap.size 24 #[.string ⟨#[]⟩, .slice none 0 0] (0, 0) _ rfl (setRow_heap _ w.heap.size _ _ 24 (0, 0) hA8) Tryz.underlying24 rfl sizeIf) rfl ?_
    exact ⟨.inl ⟨by rw [HX.out]; exact HZ.out, by rw [HX.out]; rfl⟩, hbR⟩
end Go.Proofs.YtalbjbahgbkifaaGreat
