/-
  Instructions as functions: what stands behind an operation's byte, how bytes are read. No program in it.
-/
import Derived.Test.YtbhcmhbicbhgmaaWireMath
namespace Go.Proofs.Ytbhcmhbicbhgmaa.Wire
open Go.RowKit

theorem hidden {p : Prop} (h : p) : Hid p := h
/-- An instruction: its place, operation, A, B, the two parts of its number, its text's bytes, where it goes. -/
structure Ins where
  pl : Int
  op : Int
  a : Int
  b : Int
  x : Int
  y : Int
  tx : List Nat
  tos : List Int

/-- What stands behind an operation's byte, a letter for each field. -/
def layS (op : Int) : List Nat :=
  if op = 1 then [110] else if op = 2 then [116] else if op = 3 ∨ op = 4 ∨ op = 7 ∨ op = 14 then [97] else if op = 5 ∨ op = 6 then [103] else if op = 8 then [97, 98]
  else if op = 9 ∨ op = 13 then [97, 114] else if op = 10 then [97, 114, 103] else if op = 11 ∨ op = 12 then [114] else []
def isOp (op : Int) : Bool := decide (1 ≤ op ∧ op ≤ 15)
def takesR (op : Int) : Option Nat := if op = 11 ∨ op = 12 then some 1 else if op = 9 ∨ op = 10 ∨ op = 13 then some 2 else none
def waysR (op a : Int) : Int := if op = 5 ∨ op = 6 then 1 else if op = 10 then a else 0
def rcR (op a : Int) : Bool := decide (op ≠ 10 ∨ 1 ≤ a ∧ a ≤ 6)
def rgtI (x y : Int) : Bool := decide (x.natAbs ≤ 1048576) && decide (y.natAbs ≤ 1048576)

theorem op_cases (op : Int) : op = 1 ∨ op = 2 ∨ op = 3 ∨ op = 4 ∨ op = 5 ∨ op = 6 ∨ op = 7 ∨ op = 8 ∨ op = 9 ∨ op = 10 ∨ op = 11 ∨ op = 12 ∨ op = 13 ∨ op = 14 ∨ op = 15 ∨ isOp op = false := by
  unfold isOp
  by_cases h : 1 ≤ op ∧ op ≤ 15
  · omega
  · simp only [decide_eq_false h, or_true]
theorem lay_none {op : Int} (h : isOp op = false) : layS op = [] := by
  have : ¬ (1 ≤ op ∧ op ≤ 15) := of_decide_eq_false h
  unfold layS
  repeat rw [if_neg (by omega)]

def fU (why : Nat) (ok : Bool) : Nat := if ok then why else if why = 0 then 12 else why
def rB (l : List Nat) (p why : Nat) : Nat × Nat × Nat := ((rTake l p why 1).1.headD 0, (rTake l p why 1).2.1, (rTake l p why 1).2.2)
def rP (l : List Nat) (p why : Nat) : Nat × Nat × Nat := ((rTake l p why 2).1.headD 0 * 256 + ((rTake l p why 2).1.drop 1).headD 0, (rTake l p why 2).2.1, (rTake l p why 2).2.2)
def rW (l : List Nat) (bh : Int) : Nat → Nat → Nat → List Int × Nat × Nat
  | 0, p, why => ([], p, why)
  | n + 1, p, why => ((bh + ((rP l p why).1 : Nat)) :: (rW l bh n (rP l p why).2.1 (rP l p why).2.2).1, (rW l bh n (rP l p why).2.1 (rP l p why).2.2).2)
def lf (l : List Nat) (p why : Nat) : Nat := if why = 0 then l.length - p else 0
def rN (l : List Nat) (p why : Nat) : (Int × Int) × Nat × Nat :=
  ((zag (rNum l p why 18446744073709551615).1, zag (rNum l (rNum l p why 18446744073709551615).2.1 (rNum l p why 18446744073709551615).2.2 18446744073709551615).1),
   (rNum l (rNum l p why 18446744073709551615).2.1 (rNum l p why 18446744073709551615).2.2 18446744073709551615).2.1,
   fU (rNum l (rNum l p why 18446744073709551615).2.1 (rNum l p why 18446744073709551615).2.2 18446744073709551615).2.2 (rgtI (zag (rNum l p why 18446744073709551615).1) (zag (rNum l (rNum l p why 18446744073709551615).2.1 (rNum l p why 18446744073709551615).2.2 18446744073709551615).1)))
def rT (l : List Nat) (p why : Nat) : List Nat × Nat × Nat := rTake l (rNum l p why 200).2.1 (rNum l p why 200).2.2 (rNum l p why 200).1
/-- One field is read. -/
def fld (l : List Nat) (c : Nat) (i : Ins) (p why : Nat) : Ins × Nat × Nat :=
  if c = 110 then ({ i with x := (rN l p why).1.1, y := (rN l p why).1.2 }, (rN l p why).2)
  else if c = 116 then ({ i with tx := (rT l p why).1 }, (rT l p why).2)
  else if c = 97 then ({ i with a := ((rB l p why).1 : Nat) }, (rB l p why).2.1, fU (rB l p why).2.2 (rcR i.op ((rB l p why).1 : Nat)))
  else if c = 98 then ({ i with b := ((rB l p why).1 : Nat) }, (rB l p why).2)
  else if c = 114 then (i, (rP l p why).2.1, fU (rP l p why).2.2 (decide ((rP l p why).1 = 0)))
  else ({ i with tos := (rW l ((l.length - lf l p why : Nat) + 2 * waysR i.op i.a) (waysR i.op i.a).toNat p why).1 }, (rW l ((l.length - lf l p why : Nat) + 2 * waysR i.op i.a) (waysR i.op i.a).toNat p why).2)
def flds (l : List Nat) : List Nat → Ins → Nat → Nat → Ins × Nat × Nat
  | [], i, p, why => (i, p, why)
  | c :: r, i, p, why => flds l r (fld l c i p why).1 (fld l c i p why).2.1 (fld l c i p why).2.2
/-- One instruction is read. -/
def rdI (l : List Nat) (p : Nat) : Ins × Nat × Nat := flds l (layS (rB l p 0).1) ⟨p, ((rB l p 0).1 : Nat), 0, 0, 0, 0, [], []⟩ (rB l p 0).2.1 (fU (rB l p 0).2.2 (isOp ((rB l p 0).1 : Nat)))
/-- Why, as it is told. -/
def cw (why : Nat) : Nat := if why = 3 then 12 else why
/-- Instructions are read one behind the other: the refusal and its place, or these. -/
def decG (l : List Nat) : Nat → Nat → (Nat × Nat) × List Ins
  | 0, _ => ((0, 0), [])
  | f + 1, p => if l.length ≤ p then ((0, 0), []) else if (rdI l p).2.2 ≠ 0 then ((cw (rdI l p).2.2, p), []) else
      if (decG l f (rdI l p).2.1).1.1 ≠ 0 then ((decG l f (rdI l p).2.1).1, []) else ((0, 0), (rdI l p).1 :: (decG l f (rdI l p).2.1).2)
def decodeR (l : List Nat) : (Nat × Nat) × List Ins := if 2048 < l.length then ((3, 0), []) else decG l (l.length + 1) 0

/-- A refusal of a reader's: none, too long, cut off, or of wrong form. -/
def Yw (y : Nat) : Prop := y = 0 ∨ y = 3 ∨ y = 10 ∨ y = 12
theorem fU_yw {y : Nat} (h : Yw y) (b : Bool) : Yw (fU y b) := by
  unfold fU Yw at *
  split
  · exact h
  · split <;> omega
theorem fU_zero {y : Nat} {b : Bool} (h : fU y b = 0) : y = 0 ∧ b = true := by
  unfold fU at h
  cases b
  · simp only [Bool.false_eq_true, if_false] at h
    split at h <;> omega
  · exact ⟨by simpa using h, rfl⟩
theorem fU_stick {y : Nat} (h : y ≠ 0) (b : Bool) : fU y b = y := by
  unfold fU
  cases b <;> simp [h]
theorem num_stick (l : List Nat) (most p y : Nat) (h : y ≠ 0) : rNum l p y most = (0, p, y) := by simp [rNum, h]
theorem take_stick (l : List Nat) (p y : Nat) (n : Int) (h : y ≠ 0) : rTake l p y n = ([], p, y) := by simp [rTake, h]
/-- What a step leaves: the place within, the refusal one of these; none but where there was none, and not ahead of where it stood. -/
def Step (l : List Nat) (p y p' y' : Nat) : Prop := p' ≤ l.length ∧ Yw y' ∧ (y' = 0 → y = 0 ∧ p ≤ p')
theorem Step.refl {l : List Nat} {p y : Nat} (hp : p ≤ l.length) (hy : Yw y) : Step l p y p y := ⟨hp, hy, fun h => ⟨h, Nat.le_refl _⟩⟩
theorem Step.trans {l : List Nat} {p y p1 y1 p2 y2 : Nat} (h : Step l p y p1 y1) (k : Step l p1 y1 p2 y2) : Step l p y p2 y2 :=
  ⟨k.1, k.2.1, fun e => ⟨(h.2.2 (k.2.2 e).1).1, Nat.le_trans (h.2.2 (k.2.2 e).1).2 (k.2.2 e).2⟩⟩
theorem Step.fail {l : List Nat} {p y p1 y1 : Nat} (h : Step l p y p1 y1) (b : Bool) : Step l p y p1 (fU y1 b) :=
  ⟨h.1, fU_yw h.2.1 b, fun e => h.2.2 (fU_zero e).1⟩
theorem take_step (l : List Nat) (p y : Nat) (n : Int) (hp : p ≤ l.length) (hy : Yw y) : Step l p y (rTake l p y n).2.1 (rTake l p y n).2.2 := by
  unfold rTake
  split
  · exact Step.refl hp hy
  · rename_i h
    simp only [ne_eq, not_or, Decidable.not_not] at h
    split
    · exact ⟨Nat.le_refl _, .inr (.inr (.inl rfl)), fun h => by simp at h⟩
    · refine ⟨?_, .inl rfl, fun _ => ⟨h.1, ?_⟩⟩
      · show p + n.toNat ≤ l.length
        omega
      · exact Nat.le_add_right _ _
theorem num_step (l : List Nat) (p y most : Nat) (hp : p ≤ l.length) (hy : Yw y) : Step l p y (rNum l p y most).2.1 (rNum l p y most).2.2 := by
  refine ⟨rNum_le l p y most hp, ?_, ?_⟩
  · have hbd := dec_bounds (l.drop p) 10 0 0 (by omega) (by decide)
    unfold rNum Yw
    split
    · exact hy
    · split
      · simp
      · rename_i h1
        split
        · rename_i h2
          rcases hbd with h | h | h
          · exact absurd h.1 h2
          · rw [h] at h1; simp at h1
          · rw [h]; simp
        · split <;> simp
  · unfold rNum
    split
    · rename_i h; intro e; exact absurd e h
    · rename_i h
      simp only [ne_eq, Decidable.not_not] at h
      split
      · intro e; simp at e
      · split
        · rename_i h2; intro e; exact absurd e h2
        · split
          · intro e; simp at e
          · intro _; exact ⟨h, Nat.le_add_right _ _⟩
theorem rB_step (l : List Nat) (p y : Nat) (hp : p ≤ l.length) (hy : Yw y) : Step l p y (rB l p y).2.1 (rB l p y).2.2 := take_step l p y 1 hp hy
theorem rP_step (l : List Nat) (p y : Nat) (hp : p ≤ l.length) (hy : Yw y) : Step l p y (rP l p y).2.1 (rP l p y).2.2 := take_step l p y 2 hp hy
theorem rW_step (l : List Nat) (bh : Int) : ∀ (n p y : Nat), p ≤ l.length → Yw y → Step l p y (rW l bh n p y).2.1 (rW l bh n p y).2.2
  | 0, _, _, hp, hy => Step.refl hp hy
  | n + 1, p, y, hp, hy => (rP_step l p y hp hy).trans (rW_step l bh n _ _ (rP_step l p y hp hy).1 (rP_step l p y hp hy).2.1)
theorem rN_step (l : List Nat) (p y : Nat) (hp : p ≤ l.length) (hy : Yw y) : Step l p y (rN l p y).2.1 (rN l p y).2.2 :=
  ((num_step l p y _ hp hy).trans (num_step l _ _ _ (num_step l p y _ hp hy).1 (num_step l p y _ hp hy).2.1)).fail _
theorem rT_step (l : List Nat) (p y : Nat) (hp : p ≤ l.length) (hy : Yw y) : Step l p y (rT l p y).2.1 (rT l p y).2.2 :=
  (num_step l p y 200 hp hy).trans (take_step l _ _ _ (num_step l p y 200 hp hy).1 (num_step l p y 200 hp hy).2.1)
theorem fld_step (l : List Nat) (c : Nat) (i : Ins) (p y : Nat) (hp : p ≤ l.length) (hy : Yw y) : Step l p y (fld l c i p y).2.1 (fld l c i p y).2.2 := by
  unfold fld
  split
  · exact rN_step l p y hp hy
  · split
    · exact rT_step l p y hp hy
    · split
      · exact (rB_step l p y hp hy).fail _
      · split
        · exact rB_step l p y hp hy
        · split
          · exact (rP_step l p y hp hy).fail _
          · exact rW_step l _ _ p y hp hy
theorem flds_step (l : List Nat) : ∀ (cs : List Nat) (i : Ins) (p y : Nat), p ≤ l.length → Yw y → Step l p y (flds l cs i p y).2.1 (flds l cs i p y).2.2
  | [], _, _, _, hp, hy => Step.refl hp hy
  | c :: r, i, p, y, hp, hy => (fld_step l c i p y hp hy).trans (flds_step l r _ _ _ (fld_step l c i p y hp hy).1 (fld_step l c i p y hp hy).2.1)
theorem fld_pl (l : List Nat) (c : Nat) (i : Ins) (p y : Nat) : (fld l c i p y).1.pl = i.pl ∧ (fld l c i p y).1.op = i.op := by
  unfold fld
  split
  · exact ⟨rfl, rfl⟩
  · split
    · exact ⟨rfl, rfl⟩
    · split
      · exact ⟨rfl, rfl⟩
      · split
        · exact ⟨rfl, rfl⟩
        · split <;> exact ⟨rfl, rfl⟩
theorem flds_pl (l : List Nat) : ∀ (cs : List Nat) (i : Ins) (p y : Nat), (flds l cs i p y).1.pl = i.pl ∧ (flds l cs i p y).1.op = i.op
  | [], _, _, _ => ⟨rfl, rfl⟩
  | c :: r, i, p, y => ⟨(flds_pl l r _ _ _).1.trans (fld_pl l c i p y).1, (flds_pl l r _ _ _).2.trans (fld_pl l c i p y).2⟩
theorem rB_pos (l : List Nat) (p : Nat) (h : p < l.length) : rB l p 0 = (l[p], p + 1, 0) := by
  have h1 : ¬ ((l.length - p : Nat) : Int) < 1 := by omega
  unfold rB rTake
  rw [if_neg (by omega), if_neg h1]
  simp only [show (1 : Int).toNat = 1 from rfl, List.drop_eq_getElem_cons h, List.take_succ_cons, List.take_zero, List.headD_cons]
theorem rdI_pl (l : List Nat) (p : Nat) : (rdI l p).1.pl = p := (flds_pl l _ _ _ _).1
theorem rdI_step (l : List Nat) (p : Nat) (hp : p < l.length) : Step l (p + 1) (fU 0 (isOp (l[p] : Nat))) (rdI l p).2.1 (rdI l p).2.2 := by
  unfold rdI
  rw [rB_pos l p hp]
  exact flds_step l _ _ _ _ hp (fU_yw (.inl rfl) _)
theorem decG_at (l : List Nat) (f p : Nat) : decG l (f + 1) p = if l.length ≤ p then ((0, 0), []) else if (rdI l p).2.2 ≠ 0 then ((cw (rdI l p).2.2, p), []) else
      if (decG l f (rdI l p).2.1).1.1 ≠ 0 then ((decG l f (rdI l p).2.1).1, []) else ((0, 0), (rdI l p).1 :: (decG l f (rdI l p).2.1).2) := rfl
theorem cw_zero {y : Nat} : cw y = 0 ↔ y = 0 := by
  unfold cw
  split <;> omega
theorem decG_none (l : List Nat) : ∀ (f p : Nat), (decG l f p).1.1 ≠ 0 → (decG l f p).2 = []
  | 0, p, h => rfl
  | f + 1, p, h => by
    rw [decG_at] at h ⊢
    split
    · rfl
    · split
      · rfl
      · split
        · rfl
        · rename_i h1 h2 h3
          rw [if_neg h1, if_neg h2, if_neg h3] at h
          simp at h
theorem decG_long (l : List Nat) : ∀ (f p : Nat), (decG l f p).2.length ≤ f
  | 0, p => Nat.le_refl _
  | f + 1, p => by
    rw [decG_at]
    have := decG_long l f (rdI l p).2.1
    split
    · simp
    · split
      · simp
      · split
        · simp
        · simpa using this
/-- More steps than there are bytes tell no more. -/
theorem decG_fuel (l : List Nat) : ∀ (f g p : Nat), l.length < f + p → l.length < g + p → decG l f p = decG l g p
  | 0, 0, p, _, _ => rfl
  | 0, g + 1, p, h, _ => by rw [decG_at, if_pos (by omega)]; rfl
  | f + 1, 0, p, _, h => by rw [decG_at, if_pos (by omega)]; rfl
  | f + 1, g + 1, p, h1, h2 => by
    by_cases hp : l.length ≤ p
    · rw [decG_at, decG_at, if_pos hp, if_pos hp]
    · by_cases hz : (rdI l p).2.2 = 0
      · have hs := (rdI_step l p (by omega)).2.2 hz
        rw [decG_at, decG_at, decG_fuel l f g (rdI l p).2.1 (by omega) (by omega)]
      · rw [decG_at, decG_at, if_neg hp, if_neg hp, if_pos hz, if_pos hz]
end Go.Proofs.Ytbhcmhbicbhgmaa.Wire
