/-
  Instructions as bytes: what is written, what is refused. No program in it.
-/
import Derived.Test.YtbhcmhbicbhgmaaCodeSpec
namespace Go.Proofs.Ytbhcmhbicbhgmaa.Wire
open Go.RowKit

def asksA (op : Int) : Bool := decide (op = 3 ∨ op = 4 ∨ op = 7 ∨ op = 8 ∨ op = 9 ∨ op = 10 ∨ op = 13 ∨ op = 14)
/-- Is it one that can be written? -/
def formR (i : Ins) : Bool :=
  isOp i.op && ((decide (i.x = 0) && decide (i.y = 0)) || (decide (i.op = 1) && rgtI i.x i.y)) && (i.tx.isEmpty || (decide (i.op = 2) && decide (i.tx.length ≤ 200)))
  && (decide (i.a = 0) || (asksA i.op && decide (0 ≤ i.a ∧ i.a ≤ 255))) && (decide (i.b = 0) || (decide (i.op = 8) && decide (0 ≤ i.b ∧ i.b ≤ 255))) && rcR i.op i.a && decide ((i.tos.length : Int) = waysR i.op i.a)
def fldB (i : Ins) (c : Nat) : List Nat :=
  if c = 110 then enc (zig i.x) ++ enc (zig i.y) else if c = 116 then enc i.tx.length ++ i.tx else if c = 97 then [i.a.toNat] else if c = 98 then [i.b.toNat] else if c = 114 then [0, 0] else []
def headR (i : Ins) : List Nat := i.op.toNat :: (layS i.op).flatMap (fldB i)
def wayB (bh p : Int) : List Nat := [((p - bh) / 256).toNat, ((p - bh) % 256).toNat]
def reachR (bh : Int) (to : List Int) : Bool := to.all fun p => decide (bh ≤ p ∧ p ≤ bh + 65535)
/-- Why it is refused; where it ends; the bytes. -/
def encR : List Ins → Nat → Nat × Nat × List Nat
  | [], e => (0, e, [])
  | i :: r, e => if formR i = false then (12, 0, []) else if i.pl ≠ (e : Int) ∨ reachR ((e + (headR i).length + 2 * i.tos.length : Nat) : Int) i.tos = false then (22, 0, []) else
      if (encR r (e + (headR i).length + 2 * i.tos.length)).1 ≠ 0 then ((encR r (e + (headR i).length + 2 * i.tos.length)).1, 0, []) else
      (0, (encR r (e + (headR i).length + 2 * i.tos.length)).2.1, headR i ++ i.tos.flatMap (wayB ((e + (headR i).length + 2 * i.tos.length : Nat) : Int)) ++ (encR r (e + (headR i).length + 2 * i.tos.length)).2.2)
def encodeR (l : List Ins) : Nat × List Nat := if (encR l 0).1 ≠ 0 then ((encR l 0).1, []) else if 2048 < (encR l 0).2.1 then (3, []) else (0, (encR l 0).2.2)
def refsR (l : List Ins) : List Int := l.filterMap fun i => (takesR i.op).map fun n => i.pl + (n : Int)

/-- What is answered, of what stands ahead yet. -/
def finE (out : List Nat) (R : Nat × Nat × List Nat) : Nat × List Nat := if R.1 ≠ 0 then (R.1, []) else if 2048 < R.2.1 then (3, []) else (0, out ++ R.2.2)
theorem finE_start (l : List Ins) : finE [] (encR l 0) = encodeR l := rfl
theorem finE_end (out : List Nat) (e : Nat) : finE out (encR [] e) = if 2048 < e then (3, []) else (0, out) := by
  unfold finE encR
  simp
theorem encR_end : ∀ (l : List Ins) (e : Nat), (encR l e).1 = 0 → e ≤ (encR l e).2.1
  | [], e, _ => Nat.le_refl _
  | i :: r, e, h => by
    rw [encR] at h ⊢
    split at h
    · cases h
    · rename_i h1
      rw [if_neg h1]
      split at h
      · cases h
      · rename_i h2
        rw [if_neg h2]
        split at h
        · rename_i h3; exact absurd h h3
        · rename_i h3
          rw [if_neg h3]
          have := encR_end r _ (by simpa using h3)
          show e ≤ (encR r (e + (headR i).length + 2 * i.tos.length)).2.1
          omega
theorem finE_form (i : Ins) (r : List Ins) (out : List Nat) (e : Nat) (h : formR i = false) : finE out (encR (i :: r) e) = (12, []) := by
  rw [encR, if_pos h]
  rfl
theorem finE_jump (i : Ins) (r : List Ins) (out : List Nat) (e : Nat) (h : formR i = true) (h2 : i.pl ≠ (e : Int) ∨ reachR ((e + (headR i).length + 2 * i.tos.length : Nat) : Int) i.tos = false) : finE out (encR (i :: r) e) = (22, []) := by
  rw [encR, if_neg (by rw [h]; decide), if_pos h2]
  rfl
theorem finE_next (i : Ins) (r : List Ins) (out : List Nat) (e : Nat) (h : formR i = true) (h2 : i.pl = (e : Int)) (h3 : reachR ((e + (headR i).length + 2 * i.tos.length : Nat) : Int) i.tos = true) :
    finE out (encR (i :: r) e) = finE (out ++ headR i ++ i.tos.flatMap (wayB ((e + (headR i).length + 2 * i.tos.length : Nat) : Int))) (encR r (e + (headR i).length + 2 * i.tos.length)) := by
  rw [encR, if_neg (by rw [h]; decide), if_neg (by rw [h3]; simp [h2])]
  generalize (encR r (e + (headR i).length + 2 * i.tos.length)) = R
  unfold finE
  by_cases h5 : R.1 = 0
  · simp [h5]
  · simp [h5]
theorem finE_long (i : Ins) (r : List Ins) (out out' : List Nat) (e : Nat) (h : formR i = true) (h2 : i.pl = (e : Int)) (h3 : reachR ((e + (headR i).length + 2 * i.tos.length : Nat) : Int) i.tos = true) (h4 : 2048 < e + (headR i).length + 2 * i.tos.length) :
    finE out (encR (i :: r) e) = finE out' (encR r (e + (headR i).length + 2 * i.tos.length)) := by
  have hm := encR_end r (e + (headR i).length + 2 * i.tos.length)
  rw [encR, if_neg (by rw [h]; decide), if_neg (by rw [h3]; simp [h2])]
  generalize (encR r (e + (headR i).length + 2 * i.tos.length)) = R at *
  unfold finE
  by_cases h5 : R.1 = 0
  · have := hm h5
    simp only [h5, ne_eq, not_true_eq_false, if_false]
    rw [if_pos (by omega), if_pos (by omega)]
  · simp [h5]
end Go.Proofs.Ytbhcmhbicbhgmaa.Wire
