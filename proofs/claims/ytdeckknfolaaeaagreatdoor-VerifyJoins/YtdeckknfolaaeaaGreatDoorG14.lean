/-
  'known', the law's own run of the chapter's examples: it answers true.
  And: Plain facts on writing and reading: what is written is read. Instructions as functions: what stands behind an operation's byte, how bytes are read. No program in it. Chapter 15 as functions: a function's instructions gone through with states. No program in it. Maps from whole numbers, whatever they hold, as functions.
-/
import Derived.Test.YtdeckknfolaaeaaGreatDoorG13
import Derived.Test.YtdeckknfolaaeaaGreatDoorG10
import Derived.Test.YtdeckknfolaaeaaGreatDoorG07
import Derived.Maps.OwnSet
import Derived.Maps.OwnOps
namespace Go.Proofs.YtdeckknfolaaeaaGreatDoor.Wire
open Go.RowKit

theorem Kept.on {S : Nat → Prop} {w a b : World} (h : Kept (fun _ => False) w a) (k : Kept S a b) (hS : ∀ x, S x → w.heap.size ≤ x) : Kept (fun _ => False) w b :=
  h.trans k (fun _ _ h => h) (fun x hx hs => by have := hS x hs; omega)
theorem enc300 : enc 300 = [172, 2] := by rw [enc_big (by omega), enc_small (by omega)]
theorem enc1 : enc (zig (-1)) = [1] := by rw [enc_small (by decide)]; rfl
theorem dec_80_00 : dec [128, 0] 0 0 = (0, 0, 12) := by
  rw [dec_on (x := 128) (by omega) rfl (by omega), dec_bad (x := 0) (by omega) rfl (by omega) (by omega)]
theorem rNum_80_00 : rNum [128, 0] 0 0 9 = (0, 0, 12) := by simp [rNum, dec_80_00]
theorem rEnd_80_00 : rEnd [128, 0] 0 12 = (12, 0) := by simp [rEnd]

end Go.Proofs.YtdeckknfolaaeaaGreatDoor.Wire

namespace Go.Proofs.YtdeckknfolaaeaaGreatDoor.Wire
open Go.RowKit

theorem pow_step (k : Nat) : 2 ^ (7 * (k + 1)) = 128 * 2 ^ (7 * k) := by rw [Nat.mul_add, Nat.pow_add]; omega
theorem pow_ten (k : Nat) (h : 10 ≤ k) : 18446744073709551616 ≤ 2 ^ (7 * k) := Nat.le_trans (by decide) (Nat.pow_le_pow_right (by omega : 0 < 2) (show 64 ≤ 7 * k by omega))

theorem dec_enc : ∀ (f m k acc : Nat) (L rest : List Nat), m < f → L.drop k = enc m ++ rest → k ≤ L.length → m * 2 ^ (7 * k) < 18446744073709551616 → (k = 0 ∨ 0 < m) → dec L k acc = (acc + m * 2 ^ (7 * k), k + (enc m).length, 0)
  | 0, m, k, acc, L, rest, hf, hL, hkl, hlt, hk => by omega
  | f + 1, m, k, acc, L, rest, hf, hL, hkl, hlt, hk => by
    by_cases h1 : 128 ≤ m
    · have hk9 : k < 10 := by
        rcases Nat.lt_or_ge k 10 with h | h
        · exact h
        · have h2 := pow_ten k h
          have h3 : 128 * 2 ^ (7 * k) ≤ m * 2 ^ (7 * k) := Nat.mul_le_mul_right _ h1
          omega
      rw [enc_big h1, List.cons_append] at hL
      have hx : L[k]? = some (m % 128 + 128) := by
        have := congrArg (fun l => l[0]?) hL
        simpa using this
      have hd : L.drop (k + 1) = enc (m / 128) ++ rest := by
        have := congrArg List.tail hL
        simpa using this
      have hkl' : k + 1 ≤ L.length := (List.getElem?_eq_some_iff.1 hx).1
      rw [dec_on hk9 hx (by omega)]
      have hp : m / 128 * 2 ^ (7 * (k + 1)) + m % 128 * 2 ^ (7 * k) = m * 2 ^ (7 * k) := by
        rw [pow_step, ← Nat.mul_assoc, ← Nat.add_mul, Nat.div_add_mod']
      rw [dec_enc f (m / 128) (k + 1) _ L rest (by omega) hd hkl' (by omega) (by omega), enc_big h1]
      have e1 : (m % 128 + 128) % 128 = m % 128 := by omega
      rw [e1]
      simp only [List.length_cons, Prod.mk.injEq, and_true]
      omega
    · rw [enc_small (by omega), List.cons_append] at hL
      have hx : L[k]? = some m := by
        have := congrArg (fun l => l[0]?) hL
        simpa using this
      have hk10 : k < 10 ∧ ¬ (1 < m ∧ k = 9) := by
        constructor
        · rcases Nat.lt_or_ge k 10 with h | h
          · exact h
          · have h2 := pow_ten k h
            have h3 : 1 * 2 ^ (7 * k) ≤ m * 2 ^ (7 * k) := Nat.mul_le_mul_right _ (by omega)
            omega
        · rintro ⟨h2, rfl⟩
          have h3 : 2 * 2 ^ (7 * 9) ≤ m * 2 ^ (7 * 9) := Nat.mul_le_mul_right _ h2
          have h4 : 2 * 2 ^ (7 * 9) = 18446744073709551616 := by decide
          omega
      rw [dec_ok hk10.1 hx (by omega) (by omega), enc_small (by omega)]
      rfl

theorem dec_written (n : Nat) (rest : List Nat) (h : n < 18446744073709551616) : dec (enc n ++ rest) 0 0 = (n, (enc n).length, 0) := by
  have := dec_enc (n + 1) n 0 0 (enc n ++ rest) rest (Nat.lt_succ_self _) rfl (Nat.zero_le _) (by simpa using h) (Or.inl rfl)
  simpa using this

theorem enc_dec : ∀ (f k acc : Nat) (L : List Nat), 10 - k ≤ f → (∀ x ∈ L, x < 256) → acc < 2 ^ (7 * k) → (dec L k acc).2.2 = 0 → ∃ m, dec L k acc = (acc + m * 2 ^ (7 * k), k + (enc m).length, 0) ∧ (L.drop k).take (enc m).length = enc m ∧ (k = 0 ∨ 0 < m)
  | 0, k, acc, L, hf, h256, ha, h => by rw [dec_end (by omega)] at h; simp at h
  | f + 1, k, acc, L, hf, h256, ha, h => by
    by_cases hk : k < 10
    · cases hx : L[k]? with
      | none => rw [dec_none hk hx] at h; simp at h
      | some x =>
        have hlt : k < L.length := (List.getElem?_eq_some_iff.1 hx).1
        have hd : L.drop k = x :: L.drop (k + 1) := by
          rw [List.drop_eq_getElem_cons hlt]
          have e := (List.getElem?_eq_some_iff.1 hx).2
          rw [e]
        have hx2 : x < 256 := h256 x (List.mem_of_getElem? hx)
        by_cases h1 : 128 ≤ x
        · rw [dec_on hk hx h1] at h ⊢
          have hm : x % 128 < 128 := Nat.mod_lt _ (by omega)
          have h4 : x % 128 * 2 ^ (7 * k) ≤ 127 * 2 ^ (7 * k) := Nat.mul_le_mul_right _ (by omega)
          have e2 := pow_step k
          obtain ⟨m, e, ht, hp⟩ := enc_dec f (k + 1) _ L (by omega) h256 (by omega) h
          have hm0 : 0 < m := by omega
          have e3 : enc (x % 128 + 128 * m) = x :: enc m := by
            rw [enc_big (by omega), show (x % 128 + 128 * m) % 128 + 128 = x by omega, show (x % 128 + 128 * m) / 128 = m by omega]
          refine ⟨x % 128 + 128 * m, ?_, ?_, by omega⟩
          · rw [e, e3]
            have e5 : (x % 128 + 128 * m) * 2 ^ (7 * k) = x % 128 * 2 ^ (7 * k) + m * 2 ^ (7 * (k + 1)) := by
              rw [pow_step, Nat.add_mul, Nat.mul_comm 128 m, Nat.mul_assoc]
            rw [e5]
            simp only [List.length_cons, Prod.mk.injEq, and_true]
            omega
          · rw [e3, hd]
            simpa using ht
        · by_cases h2 : (x = 0 ∧ 0 < k) ∨ (1 < x ∧ k = 9)
          · rw [dec_bad hk hx (by omega) h2] at h; simp at h
          · refine ⟨x, ?_, ?_, by omega⟩
            · rw [dec_ok hk hx (by omega) h2, enc_small (by omega)]; rfl
            · rw [enc_small (by omega), hd]; rfl
    · rw [dec_end (by omega)] at h; simp at h

theorem rNum_written (pre rest : List Nat) (n most : Nat) (h : n < 18446744073709551616) :
    rNum (pre ++ enc n ++ rest) pre.length 0 most = if most < n then (0, pre.length, 3) else (n, pre.length + (enc n).length, 0) := by
  have e : (pre ++ enc n ++ rest).drop pre.length = enc n ++ rest := by simp
  unfold rNum
  rw [e, dec_written n rest h]
  simp

theorem zag_zig (n : Int) : zag (zig n) = n := by
  unfold zag zig
  split <;> split <;> omega
theorem zig_lt (n : Int) (h0 : -9223372036854775808 ≤ n) (h1 : n < 9223372036854775808) : zig n < 18446744073709551616 := by
  unfold zig
  split <;> omega

theorem rTake_written (pre s rest : List Nat) : rTake (pre ++ s ++ rest) pre.length 0 (s.length : Nat) = (s, pre.length + s.length, 0) := by
  unfold rTake
  by_cases h : s = []
  · subst h; simp
  · have : 0 < s.length := List.length_pos_iff.2 h
    rw [if_neg (by omega), if_neg (by simp; omega)]
    simp

theorem bytes_256 (s : ByteArray) : ∀ x ∈ s.data.toList.map UInt8.toNat, x < 256 := by
  intro x hx
  obtain ⟨b, _, rfl⟩ := List.mem_map.1 hx
  exact b.toNat_lt
theorem enc_256' : ∀ (f n : Nat), n < f → ∀ x ∈ enc n, x < 256
  | 0, n, hf, x, hx => by omega
  | f + 1, n, hf, x, hx => by
    by_cases h : 128 ≤ n
    · rw [enc_big h] at hx
      rcases List.mem_cons.1 hx with rfl | hx
      · omega
      · exact enc_256' f (n / 128) (by omega) x hx
    · rw [enc_small (by omega)] at hx
      simp at hx
      omega
theorem enc_256 (n : Nat) : ∀ x ∈ enc n, x < 256 := enc_256' (n + 1) n (Nat.lt_succ_self _)
end Go.Proofs.YtdeckknfolaaeaaGreatDoor.Wire

namespace Go.Proofs.YtdeckknfolaaeaaGreatDoor.Wire
open Go.RowKit

theorem hidden {p : Prop} (h : p) : Hid p := h
/-- An instruction: its place, operation, A, B, the two parts of its number, its text's bytes, where it goes. -/
structure Ins where
  pl : Int
  op : Int
  a : Int
  b : Int
  x : Int
  y : Int
  tx : List Nat
  tos : List Int

/-- What stands behind an operation's byte, a letter for each field. -/
def layS (op : Int) : List Nat :=
  if op = 1 then [110] else if op = 2 then [116] else if op = 3 ∨ op = 4 ∨ op = 7 ∨ op = 14 then [97] else if op = 5 ∨ op = 6 then [103] else if op = 8 then [97, 98]
  else if op = 9 ∨ op = 13 then [97, 114] else if op = 10 then [97, 114, 103] else if op = 11 ∨ op = 12 then [114] else []
def isOp (op : Int) : Bool := decide (1 ≤ op ∧ op ≤ 15)
def takesR (op : Int) : Option Nat := if op = 11 ∨ op = 12 then some 1 else if op = 9 ∨ op = 10 ∨ op = 13 then some 2 else none
def waysR (op a : Int) : Int := if op = 5 ∨ op = 6 then 1 else if op = 10 then a else 0
def rcR (op a : Int) : Bool := decide (op ≠ 10 ∨ 1 ≤ a ∧ a ≤ 6)
def rgtI (x y : Int) : Bool := decide (x.natAbs ≤ 1048576) && decide (y.natAbs ≤ 1048576)

theorem op_cases (op : Int) : op = 1 ∨ op = 2 ∨ op = 3 ∨ op = 4 ∨ op = 5 ∨ op = 6 ∨ op = 7 ∨ op = 8 ∨ op = 9 ∨ op = 10 ∨ op = 11 ∨ op = 12 ∨ op = 13 ∨ op = 14 ∨ op = 15 ∨ isOp op = false := by
  unfold isOp
  by_cases h : 1 ≤ op ∧ op ≤ 15
  · omega
  · simp only [decide_eq_false h, or_true]
theorem lay_none {op : Int} (h : isOp op = false) : layS op = [] := by
  have : ¬ (1 ≤ op ∧ op ≤ 15) := of_decide_eq_false h
  unfold layS
  repeat rw [if_neg (by omega)]

def fU (why : Nat) (ok : Bool) : Nat := if ok then why else if why = 0 then 12 else why
def rB (l : List Nat) (p why : Nat) : Nat × Nat × Nat := ((rTake l p why 1).1.headD 0, (rTake l p why 1).2.1, (rTake l p why 1).2.2)
def rP (l : List Nat) (p why : Nat) : Nat × Nat × Nat := ((rTake l p why 2).1.headD 0 * 256 + ((rTake l p why 2).1.drop 1).headD 0, (rTake l p why 2).2.1, (rTake l p why 2).2.2)
def rW (l : List Nat) (bh : Int) : Nat → Nat → Nat → List Int × Nat × Nat
  | 0, p, why => ([], p, why)
  | n + 1, p, why => ((bh + ((rP l p why).1 : Nat)) :: (rW l bh n (rP l p why).2.1 (rP l p why).2.2).1, (rW l bh n (rP l p why).2.1 (rP l p why).2.2).2)
def lf (l : List Nat) (p why : Nat) : Nat := if why = 0 then l.length - p else 0
def rN (l : List Nat) (p why : Nat) : (Int × Int) × Nat × Nat :=
  ((zag (rNum l p why 18446744073709551615).1, zag (rNum l (rNum l p why 18446744073709551615).2.1 (rNum l p why 18446744073709551615).2.2 18446744073709551615).1),
   (rNum l (rNum l p why 18446744073709551615).2.1 (rNum l p why 18446744073709551615).2.2 18446744073709551615).2.1,
   fU (rNum l (rNum l p why 18446744073709551615).2.1 (rNum l p why 18446744073709551615).2.2 18446744073709551615).2.2 (rgtI (zag (rNum l p why 18446744073709551615).1) (zag (rNum l (rNum l p why 18446744073709551615).2.1 (rNum l p why 18446744073709551615).2.2 18446744073709551615).1)))
def rT (l : List Nat) (p why : Nat) : List Nat × Nat × Nat := rTake l (rNum l p why 200).2.1 (rNum l p why 200).2.2 (rNum l p why 200).1
/-- One field is read. -/
def fld (l : List Nat) (c : Nat) (i : Ins) (p why : Nat) : Ins × Nat × Nat :=
  if c = 110 then ({ i with x := (rN l p why).1.1, y := (rN l p why).1.2 }, (rN l p why).2)
  else if c = 116 then ({ i with tx := (rT l p why).1 }, (rT l p why).2)
  else if c = 97 then ({ i with a := ((rB l p why).1 : Nat) }, (rB l p why).2.1, fU (rB l p why).2.2 (rcR i.op ((rB l p why).1 : Nat)))
  else if c = 98 then ({ i with b := ((rB l p why).1 : Nat) }, (rB l p why).2)
  else if c = 114 then (i, (rP l p why).2.1, fU (rP l p why).2.2 (decide ((rP l p why).1 = 0)))
  else ({ i with tos := (rW l ((l.length - lf l p why : Nat) + 2 * waysR i.op i.a) (waysR i.op i.a).toNat p why).1 }, (rW l ((l.length - lf l p why : Nat) + 2 * waysR i.op i.a) (waysR i.op i.a).toNat p why).2)
def flds (l : List Nat) : List Nat → Ins → Nat → Nat → Ins × Nat × Nat
  | [], i, p, why => (i, p, why)
  | c :: r, i, p, why => flds l r (fld l c i p why).1 (fld l c i p why).2.1 (fld l c i p why).2.2
/-- One instruction is read. -/
def rdI (l : List Nat) (p : Nat) : Ins × Nat × Nat := flds l (layS (rB l p 0).1) ⟨p, ((rB l p 0).1 : Nat), 0, 0, 0, 0, [], []⟩ (rB l p 0).2.1 (fU (rB l p 0).2.2 (isOp ((rB l p 0).1 : Nat)))
/-- Why, as it is told. -/
def cw (why : Nat) : Nat := if why = 3 then 12 else why
/-- Instructions are read one behind the other: the refusal and its place, or these. -/
def decG (l : List Nat) : Nat → Nat → (Nat × Nat) × List Ins
  | 0, _ => ((0, 0), [])
  | f + 1, p => if l.length ≤ p then ((0, 0), []) else if (rdI l p).2.2 ≠ 0 then ((cw (rdI l p).2.2, p), []) else
      if (decG l f (rdI l p).2.1).1.1 ≠ 0 then ((decG l f (rdI l p).2.1).1, []) else ((0, 0), (rdI l p).1 :: (decG l f (rdI l p).2.1).2)
def decodeR (l : List Nat) : (Nat × Nat) × List Ins := if 2048 < l.length then ((3, 0), []) else decG l (l.length + 1) 0

/-- A refusal of a reader's: none, too long, cut off, or of wrong form. -/
def Yw (y : Nat) : Prop := y = 0 ∨ y = 3 ∨ y = 10 ∨ y = 12
theorem fU_yw {y : Nat} (h : Yw y) (b : Bool) : Yw (fU y b) := by
  unfold fU Yw at *
  split
  · exact h
  · split <;> omega
theorem fU_zero {y : Nat} {b : Bool} (h : fU y b = 0) : y = 0 ∧ b = true := by
  unfold fU at h
  cases b
  · simp only [Bool.false_eq_true, if_false] at h
    split at h <;> omega
  · exact ⟨by simpa using h, rfl⟩
theorem fU_stick {y : Nat} (h : y ≠ 0) (b : Bool) : fU y b = y := by
  unfold fU
  cases b <;> simp [h]
theorem num_stick (l : List Nat) (most p y : Nat) (h : y ≠ 0) : rNum l p y most = (0, p, y) := by simp [rNum, h]
theorem take_stick (l : List Nat) (p y : Nat) (n : Int) (h : y ≠ 0) : rTake l p y n = ([], p, y) := by simp [rTake, h]
/-- What a step leaves: the place within, the refusal one of these; none but where there was none, and not ahead of where it stood. -/
def Step (l : List Nat) (p y p' y' : Nat) : Prop := p' ≤ l.length ∧ Yw y' ∧ (y' = 0 → y = 0 ∧ p ≤ p')
theorem Step.refl {l : List Nat} {p y : Nat} (hp : p ≤ l.length) (hy : Yw y) : Step l p y p y := ⟨hp, hy, fun h => ⟨h, Nat.le_refl _⟩⟩
theorem Step.trans {l : List Nat} {p y p1 y1 p2 y2 : Nat} (h : Step l p y p1 y1) (k : Step l p1 y1 p2 y2) : Step l p y p2 y2 :=
  ⟨k.1, k.2.1, fun e => ⟨(h.2.2 (k.2.2 e).1).1, Nat.le_trans (h.2.2 (k.2.2 e).1).2 (k.2.2 e).2⟩⟩
theorem Step.fail {l : List Nat} {p y p1 y1 : Nat} (h : Step l p y p1 y1) (b : Bool) : Step l p y p1 (fU y1 b) :=
  ⟨h.1, fU_yw h.2.1 b, fun e => h.2.2 (fU_zero e).1⟩
theorem take_step (l : List Nat) (p y : Nat) (n : Int) (hp : p ≤ l.length) (hy : Yw y) : Step l p y (rTake l p y n).2.1 (rTake l p y n).2.2 := by
  unfold rTake
  split
  · exact Step.refl hp hy
  · rename_i h
    simp only [ne_eq, not_or, Decidable.not_not] at h
    split
    · exact ⟨Nat.le_refl _, .inr (.inr (.inl rfl)), fun h => by simp at h⟩
    · refine ⟨?_, .inl rfl, fun _ => ⟨h.1, ?_⟩⟩
      · show p + n.toNat ≤ l.length
        omega
      · exact Nat.le_add_right _ _
theorem num_step (l : List Nat) (p y most : Nat) (hp : p ≤ l.length) (hy : Yw y) : Step l p y (rNum l p y most).2.1 (rNum l p y most).2.2 := by
  refine ⟨rNum_le l p y most hp, ?_, ?_⟩
  · have hbd := dec_bounds (l.drop p) 10 0 0 (by omega) (by decide)
    unfold rNum Yw
    split
    · exact hy
    · split
      · simp
      · rename_i h1
        split
        · rename_i h2
          rcases hbd with h | h | h
          · exact absurd h.1 h2
          · rw [h] at h1; simp at h1
          · rw [h]; simp
        · split <;> simp
  · unfold rNum
    split
    · rename_i h; intro e; exact absurd e h
    · rename_i h
      simp only [ne_eq, Decidable.not_not] at h
      split
      · intro e; simp at e
      · split
        · rename_i h2; intro e; exact absurd e h2
        · split
          · intro e; simp at e
          · intro _; exact ⟨h, Nat.le_add_right _ _⟩
theorem rB_step (l : List Nat) (p y : Nat) (hp : p ≤ l.length) (hy : Yw y) : Step l p y (rB l p y).2.1 (rB l p y).2.2 := take_step l p y 1 hp hy
theorem rP_step (l : List Nat) (p y : Nat) (hp : p ≤ l.length) (hy : Yw y) : Step l p y (rP l p y).2.1 (rP l p y).2.2 := take_step l p y 2 hp hy
theorem rW_step (l : List Nat) (bh : Int) : ∀ (n p y : Nat), p ≤ l.length → Yw y → Step l p y (rW l bh n p y).2.1 (rW l bh n p y).2.2
  | 0, _, _, hp, hy => Step.refl hp hy
  | n + 1, p, y, hp, hy => (rP_step l p y hp hy).trans (rW_step l bh n _ _ (rP_step l p y hp hy).1 (rP_step l p y hp hy).2.1)
theorem rN_step (l : List Nat) (p y : Nat) (hp : p ≤ l.length) (hy : Yw y) : Step l p y (rN l p y).2.1 (rN l p y).2.2 :=
  ((num_step l p y _ hp hy).trans (num_step l _ _ _ (num_step l p y _ hp hy).1 (num_step l p y _ hp hy).2.1)).fail _
theorem rT_step (l : List Nat) (p y : Nat) (hp : p ≤ l.length) (hy : Yw y) : Step l p y (rT l p y).2.1 (rT l p y).2.2 :=
  (num_step l p y 200 hp hy).trans (take_step l _ _ _ (num_step l p y 200 hp hy).1 (num_step l p y 200 hp hy).2.1)
theorem fld_step (l : List Nat) (c : Nat) (i : Ins) (p y : Nat) (hp : p ≤ l.length) (hy : Yw y) : Step l p y (fld l c i p y).2.1 (fld l c i p y).2.2 := by
  unfold fld
  split
  · exact rN_step l p y hp hy
  · split
    · exact rT_step l p y hp hy
    · split
      · exact (rB_step l p y hp hy).fail _
      · split
        · exact rB_step l p y hp hy
        · split
          · exact (rP_step l p y hp hy).fail _
          · exact rW_step l _ _ p y hp hy
theorem flds_step (l : List Nat) : ∀ (cs : List Nat) (i : Ins) (p y : Nat), p ≤ l.length → Yw y → Step l p y (flds l cs i p y).2.1 (flds l cs i p y).2.2
  | [], _, _, _, hp, hy => Step.refl hp hy
  | c :: r, i, p, y, hp, hy => (fld_step l c i p y hp hy).trans (flds_step l r _ _ _ (fld_step l c i p y hp hy).1 (fld_step l c i p y hp hy).2.1)
theorem fld_pl (l : List Nat) (c : Nat) (i : Ins) (p y : Nat) : (fld l c i p y).1.pl = i.pl ∧ (fld l c i p y).1.op = i.op := by
  unfold fld
  split
  · exact ⟨rfl, rfl⟩
  · split
    · exact ⟨rfl, rfl⟩
    · split
      · exact ⟨rfl, rfl⟩
      · split
        · exact ⟨rfl, rfl⟩
        · split <;> exact ⟨rfl, rfl⟩
theorem flds_pl (l : List Nat) : ∀ (cs : List Nat) (i : Ins) (p y : Nat), (flds l cs i p y).1.pl = i.pl ∧ (flds l cs i p y).1.op = i.op
  | [], _, _, _ => ⟨rfl, rfl⟩
  | c :: r, i, p, y => ⟨(flds_pl l r _ _ _).1.trans (fld_pl l c i p y).1, (flds_pl l r _ _ _).2.trans (fld_pl l c i p y).2⟩
theorem rB_pos (l : List Nat) (p : Nat) (h : p < l.length) : rB l p 0 = (l[p], p + 1, 0) := by
  have h1 : ¬ ((l.length - p : Nat) : Int) < 1 := by omega
  unfold rB rTake
  rw [if_neg (by omega), if_neg h1]
  simp only [show (1 : Int).toNat = 1 from rfl, List.drop_eq_getElem_cons h, List.take_succ_cons, List.take_zero, List.headD_cons]
theorem rdI_pl (l : List Nat) (p : Nat) : (rdI l p).1.pl = p := (flds_pl l _ _ _ _).1
theorem rdI_step (l : List Nat) (p : Nat) (hp : p < l.length) : Step l (p + 1) (fU 0 (isOp (l[p] : Nat))) (rdI l p).2.1 (rdI l p).2.2 := by
  unfold rdI
  rw [rB_pos l p hp]
  exact flds_step l _ _ _ _ hp (fU_yw (.inl rfl) _)
theorem decG_at (l : List Nat) (f p : Nat) : decG l (f + 1) p = if l.length ≤ p then ((0, 0), []) else if (rdI l p).2.2 ≠ 0 then ((cw (rdI l p).2.2, p), []) else
      if (decG l f (rdI l p).2.1).1.1 ≠ 0 then ((decG l f (rdI l p).2.1).1, []) else ((0, 0), (rdI l p).1 :: (decG l f (rdI l p).2.1).2) := rfl
theorem cw_zero {y : Nat} : cw y = 0 ↔ y = 0 := by
  unfold cw
  split <;> omega
theorem decG_none (l : List Nat) : ∀ (f p : Nat), (decG l f p).1.1 ≠ 0 → (decG l f p).2 = []
  | 0, p, h => rfl
  | f + 1, p, h => by
    rw [decG_at] at h ⊢
    split
    · rfl
    · split
      · rfl
      · split
        · rfl
        · rename_i h1 h2 h3
          rw [if_neg h1, if_neg h2, if_neg h3] at h
          simp at h
theorem decG_long (l : List Nat) : ∀ (f p : Nat), (decG l f p).2.length ≤ f
  | 0, p => Nat.le_refl _
  | f + 1, p => by
    rw [decG_at]
    have := decG_long l f (rdI l p).2.1
    split
    · simp
    · split
      · simp
      · split
        · simp
        · simpa using this
/-- More steps than there are bytes tell no more. -/
theorem decG_fuel (l : List Nat) : ∀ (f g p : Nat), l.length < f + p → l.length < g + p → decG l f p = decG l g p
  | 0, 0, p, _, _ => rfl
  | 0, g + 1, p, h, _ => by rw [decG_at, if_pos (by omega)]; rfl
  | f + 1, 0, p, _, h => by rw [decG_at, if_pos (by omega)]; rfl
  | f + 1, g + 1, p, h1, h2 => by
    by_cases hp : l.length ≤ p
    · rw [decG_at, decG_at, if_pos hp, if_pos hp]
    · by_cases hz : (rdI l p).2.2 = 0
      · have hs := (rdI_step l p (by omega)).2.2 hz
        rw [decG_at, decG_at, decG_fuel l f g (rdI l p).2.1 (by omega) (by omega)]
      · rw [decG_at, decG_at, if_neg hp, if_neg hp, if_pos hz, if_pos hz]
end Go.Proofs.YtdeckknfolaaeaaGreatDoor.Wire

namespace Go.Proofs.YtdeckknfolaaeaaGreatDoor

/-- The types on the stack, the last one on top, and those of the locals, none for one that is unset. -/
structure St where
  stack : List (List UInt8)
  locals : List (List UInt8)
/-- The state of the instruction whose turn it is, and those that wait, each for its place. -/
structure Wk where
  st : St
  wt : List (Int × St)

def numT : List UInt8 := [110, 117, 109]
def bytesT : List UInt8 := [98, 121, 116, 101, 115]
/-- These are taken off the stack, in this order. -/
def popR (s : List (List UInt8)) : List (List UInt8) → Nat × List (List UInt8)
  | [] => (0, s)
  | t :: r => if s.length = 0 then (20, s) else if (s[s.length - 1]?).getD [] ≠ t then (17, s) else popR (s.take (s.length - 1)) r
def pushR (s : List (List UInt8)) (t : List UInt8) : Nat × List (List UInt8) := if s.length = 48 then (20, s) else (0, s ++ [t])
/-- Locals of two ways. -/
def joinL (a b : List (List UInt8)) : List (List UInt8) := a.zipIdx.map fun p => if (b[p.2]?).getD p.1 = p.1 then p.1 else []
/-- States as one: none, if their stacks are unlike. -/
def joinS (s : St) : List St → Option St
  | [] => some s
  | t :: r => if t.stack = s.stack then joinS ⟨s.stack, joinL s.locals t.locals⟩ r else none
/-- Who waits for a place. -/
def waitS (wt : List (Int × St)) (p : Int) : List St := (wt.filter fun x => decide (x.1 = p)).map (·.2)
def arriveR (wt : List (Int × St)) (p : Int) : Option St :=
  match waitS wt p with
  | [] => none
  | s :: r => joinS s r

def takesD (op : Int) : Nat := if op = 3 ∨ op = 4 ∨ op = 5 ∨ op = 6 ∨ op = 10 then 1 else if op = 12 then 3 else 2
def elemV (t : List UInt8) : List UInt8 × Bool := if t = bytesT then (numT, true) else if isArr t = true then (elemR t, true) else ([], false)
def resultD (op : Int) (l : List (List UInt8)) : Option (List UInt8) :=
  if op = 7 then (if (l.headD [] = numT ∨ l.headD [] = bytesT) ∧ (l[1]?).getD [] = l.headD [] then some numT else none)
  else if op = 9 then (if (elemV (l.headD [])).2 = true ∧ (l[1]?).getD [] = l.headD [] then some (l.headD []) else none)
  else if op = 10 then (if (elemV (l.headD [])).2 = true then some numT else none)
  else if op = 11 then (if (elemV (l.headD [])).2 = true ∧ (l[1]?).getD [] = numT then some (elemV (l.headD [])).1 else none)
  else if op = 12 then (if l.headD [] = bytesT ∧ (l[1]?).getD [] = numT ∧ (l[2]?).getD [] = numT then some bytesT else none)
  else if l.all (fun t => decide (t = numT)) = true then some numT else none
def doR (s : List (List UInt8)) (op : Int) : Nat × List (List UInt8) :=
  if 13 ≤ op then (12, s) else if s.length < takesD op then (20, s)
  else match resultD op (s.drop (s.length - takesD op)) with
    | none => (17, s)
    | some t => (0, s.take (s.length - takesD op) ++ [t])
/-- A state waits for a place, with more on its stack. -/
def goV (k : Wk) (p : Int) (pushed : List (List UInt8)) : Wk := ⟨k.st, k.wt ++ [(p, ⟨k.st.stack ++ pushed, k.st.locals⟩)]⟩
def loadR (s : St) (a : Int) : Nat × St :=
  if (s.locals.length : Int) ≤ a ∨ (s.locals[a.toNat]?).getD [] = [] then (21, s) else ((pushR s.stack ((s.locals[a.toNat]?).getD [])).1, ⟨(pushR s.stack ((s.locals[a.toNat]?).getD [])).2, s.locals⟩)
def storeR (s : St) (a : Int) : Nat × St :=
  if (s.locals.length : Int) ≤ a then (21, s) else if s.stack.length = 0 then (20, s) else (0, ⟨s.stack.take (s.stack.length - 1), s.locals.set a.toNat ((s.stack[s.stack.length - 1]?).getD [])⟩)
def leaveR (res : List UInt8) (s : St) : Nat × St :=
  if (popR s.stack [res]).1 ≠ 0 then ((popR s.stack [res]).1, s) else if 0 < (popR s.stack [res]).2.length then (20, s) else (0, ⟨(popR s.stack [res]).2, s.locals⟩)
/-- One instruction: the refusal, and what is left. oth: the operations that name symbols. -/
def opV (res : List UInt8) (oth : Wire.Ins → Wk → Nat × Wk) (i : Wire.Ins) (k : Wk) : Nat × Wk :=
  if i.op = 1 then ((pushR k.st.stack numT).1, ⟨⟨(pushR k.st.stack numT).2, k.st.locals⟩, k.wt⟩)
  else if i.op = 2 then ((pushR k.st.stack bytesT).1, ⟨⟨(pushR k.st.stack bytesT).2, k.st.locals⟩, k.wt⟩)
  else if i.op = 3 then ((loadR k.st i.a).1, ⟨(loadR k.st i.a).2, k.wt⟩)
  else if i.op = 4 then ((storeR k.st i.a).1, ⟨(storeR k.st i.a).2, k.wt⟩)
  else if i.op = 5 then (0, goV k (i.tos.headD 0) [])
  else if i.op = 6 then (if (popR k.st.stack [numT]).1 ≠ 0 then ((popR k.st.stack [numT]).1, k) else (0, goV ⟨⟨(popR k.st.stack [numT]).2, k.st.locals⟩, k.wt⟩ (i.tos.headD 0) []))
  else if i.op = 7 then ((doR k.st.stack i.a).1, ⟨⟨(doR k.st.stack i.a).2, k.st.locals⟩, k.wt⟩)
  else if i.op = 15 then ((leaveR res k.st).1, ⟨(leaveR res k.st).2, k.wt⟩)
  else oth i k
def onV (op : Int) : Bool := decide (op ≠ 5 ∧ op ≠ 10 ∧ op ≠ 15)
/-- The instruction whose turn it is, from whoever waits for it. -/
def stepV (res : List UInt8) (oth : Wire.Ins → Wk → Nat × Wk) (ps : List Int) (i : Wire.Ins) (wt : List (Int × St)) : Nat × Wk :=
  match arriveR wt i.pl with
  | none => (22, ⟨⟨[], []⟩, wt⟩)
  | some s => if i.tos.all (fun p => decide (p ∈ ps)) = true then opV res oth i ⟨s, wt⟩ else (22, ⟨s, wt⟩)
/-- Instructions, in order. -/
def thruV (res : List UInt8) (oth : Wire.Ins → Wk → Nat × Wk) (ps : List Int) : List Wire.Ins → List (Int × St) → Nat × Int
  | [], _ => (0, 0)
  | i :: r, wt =>
    if (stepV res oth ps i wt).1 ≠ 0 then ((stepV res oth ps i wt).1, i.pl)
    else if onV i.op = true then
      match r with
      | [] => (10, i.pl)
      | j :: r' => thruV res oth ps (j :: r') (goV (stepV res oth ps i wt).2 j.pl []).wt
    else thruV res oth ps r (stepV res oth ps i wt).2.wt
end Go.Proofs.YtdeckknfolaaeaaGreatDoor

namespace Go.Proofs.YtdeckknfolaaeaaGreatDoor
open Go.RowKit Go.Maps

/-- What a map holds is told as it is. -/
def heldR (v : Value) : Option (DataW Value × List MemPlace) := some (.held v, [])
/-- Block b is a map from whole numbers that reads as f; n updates at most have been. -/
def MapI (w : World) (b n : Nat) (f : Int → Option Value) : Prop :=
  ∃ D, w.ownsMap Tryz.prog 3 heldR b n D ∧ IsMap D ∧ ∀ q, (∀ z, D.atKey (.int .i64 q) (.held z) = .held ((f q).getD z)) ∧ has D (.int .i64 q) = (f q).isSome
theorem MapI.lt {w : World} {b n : Nat} {f : Int → Option Value} (h : MapI w b n f) : b < w.heap.size := by
  obtain ⟨D, h1, _⟩ := h
  exact h1.lt
theorem MapI.frame {w w' : World} {b n : Nat} {f : Int → Option Value} (h : MapI w b n f) (e : w'.heap[b]? = w.heap[b]?) : MapI w' b n f := by
  obtain ⟨D, ⟨es, ck, hb, hr⟩, h2⟩ := h
  exact ⟨D, ⟨es, ck, e.trans hb, hr⟩, h2⟩
theorem MapI.new (w : World) : MapI (w.alloc (.map #[] 0)) w.heap.size 0 (fun _ => none) := ⟨_, World.ownsMap_made _ _ _ _, ⟨[], rfl⟩, fun _ => ⟨fun _ => rfl, rfl⟩⟩
theorem i64_wf {q : Int} (h : -9223372036854775808 ≤ q ∧ q ≤ 9223372036854775807) : (Lit.int .i64 q).wf = true := Go.WalkArith.wf_i64 h
theorem keyI {q : Int} (h : -9223372036854775808 ≤ q ∧ q ≤ 9223372036854775807) : keyOf Tryz.prog 3 (.int .i64 q) = some (.int .i64 q) := keyOf_int_mk Tryz.underlying3 (i64_wf h)
theorem MapI.look {w : World} {b n : Nat} {f : Int → Option Value} (h : MapI w b n f) (q : Int) (hq : -9223372036854775808 ≤ q ∧ q ≤ 9223372036854775807) {t e : TypeId} (ht : Tryz.prog.underlying t = some (.map 3 e)) {z : Value} (hz : (zeroValue e).run Tryz.prog w = .ok z w) :
    (Instr.lookup t (.map (some b)) (.int .i64 q) false).run Tryz.prog w = .ok ((f q).getD z) w := by
  obtain ⟨D, h1, h2, h3⟩ := h
  obtain ⟨v, ps, hrun, hv⟩ := h1.lookup (int_keyed Tryz.underlying3) ht hz (show heldR z = some (.held z, []) from rfl) (keyI hq)
  rw [(h3 q).1] at hv
  simp only [heldR, Option.some.injEq, Prod.mk.injEq, DataW.held.injEq] at hv
  rw [hrun, hv.1]
theorem MapI.look_ok {w : World} {b n : Nat} {f : Int → Option Value} (h : MapI w b n f) (q : Int) (hq : -9223372036854775808 ≤ q ∧ q ≤ 9223372036854775807) {t e : TypeId} (ht : Tryz.prog.underlying t = some (.map 3 e)) {z : Value} (hz : (zeroValue e).run Tryz.prog w = .ok z w) :
    (Instr.lookup t (.map (some b)) (.int .i64 q) true).run Tryz.prog w = .ok (.tuple #[(f q).getD z, .bool (f q).isSome]) w := by
  obtain ⟨D, h1, h2, h3⟩ := h
  obtain ⟨v, ps, hrun, hv⟩ := h1.look_ok (int_keyed Tryz.underlying3) ht hz (show heldR z = some (.held z, []) from rfl) (keyI hq)
  rw [(h3 q).1] at hv
  simp only [heldR, Option.some.injEq, Prod.mk.injEq, DataW.held.injEq] at hv
  rw [hrun, hv.1, (h3 q).2]
theorem MapI.put {w : World} {b n : Nat} {f : Int → Option Value} (h : MapI w b n f) (hn : n ≤ 8796093022208) (q : Int) (hq : -9223372036854775808 ≤ q ∧ q ≤ 9223372036854775807) (v : Value) {t e : TypeId} (ht : Tryz.prog.underlying t = some (.map 3 e)) :
    ∃ w', (Instr.mapUpdate t (.map (some b)) (.int .i64 q) v).run Tryz.prog w = .ok () w' ∧ MapI w' b (n + 1) (fun x => if x = q then some v else f x) ∧ w.grownBy w' (some b) ∧ w'.heap.size = w.heap.size := by
  obtain ⟨D, h1, h2, h3⟩ := h
  obtain ⟨w', hrun, r1, r2⟩ := h1.store (int_keyed Tryz.underlying3) ht (by unfold maxLen; omega) (keyI hq) (show heldR v = some (.held v, []) from rfl)
  refine ⟨w', hrun, ⟨_, r1, by obtain ⟨es, rfl⟩ := h2; exact ⟨_, rfl⟩, fun x => ?_⟩, r2.grown, by obtain ⟨es, ck, es', ck', hb, rfl⟩ := r2; simp [Go.ChangeMaps.setBlock]⟩
  by_cases e : x = q
  · subst e
    have hk : WideAt.IsKeyLit (.int .i64 x) := trivial
    simp only [if_true]
    exact ⟨fun z => by rw [atKey_put_same h2 hk]; rfl, by rw [has_put_same h2 hk]; rfl⟩
  · have hne : (Lit.int .i64 x) ≠ .int .i64 q := by simpa using e
    simp only [if_neg e]
    exact ⟨fun z => by rw [atKey_put_other hne]; exact (h3 x).1 z, by rw [has_put_other hne]; exact (h3 x).2⟩
end Go.Proofs.YtdeckknfolaaeaaGreatDoor
