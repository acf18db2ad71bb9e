/-
  The package's readQuoted: its walk, from label to label.
-/
import Derived.Test.YtcjddbponknnoaaGreatDoorLexMem
namespace Go.Proofs.YtcjddbponknnoaaGreatDoor
open Go.RowKit

/-- What reading a Quoted answers. -/
def QE (r : QR) (w : World) (e : Ending) (w' : World) : Prop :=
  (match r with
  | .ok (t, nx) => e = .returned (.tuple #[.string (str t), .int .i64 0, .int .i64 (nx : Int)])
  | .error (y, b) => e = .returned (.tuple #[.string (str []), .int .i64 (y : Int), .int .i64 (b : Int)])) ∧ Below w.heap.size w w'

/-- What holds at each label of readQuoted. -/
def rqJ (s : ByteArray) (fr : Nat) (w0 : World) (l : Nat) (a : Act) (w : World) : Prop :=
  ∃ (p : Nat) (acc : List UInt8) (v : Value) (u2 u3 u4 u5 u6 u8 u9 u11 u12 u13 u14 u15 u16 u17 u18 u19 u20 u21 u22 u23 u24 u25 u26 u27 u28 u29 u30 u31 u32 u33 u34 u35 u36 u37 u38 u39 u40 u41 u42 u43 u44 u45 u46 u47 u48 u49 u50 u51 u52 u53 u54 u55 u56 u57 u58 u59 u60 u61 u62 u63 u64 u65 u66 u67 u68 : Value), a = { tmps := #[.string s, .int .i64 (fr : Int), u2, u3, u4, u5, u6, v, u8, u9, .int .i64 (p : Int), u11, u12, u13, u14, u15, u16, u17, u18, u19, u20, u21, u22, u23, u24, u25, u26, u27, u28, u29, u30, u31, u32, u33, u34, u35, u36, u37, u38, u39, u40, u41, u42, u43, u44, u45, u46, u47, u48, u49, u50, u51, u52, u53, u54, u55, u56, u57, u58, u59, u60, u61, u62, u63, u64, u65, u66, u67, u68], defers := [] } ∧
    fr < p ∧ p ≤ s.size ∧ acc.length ≤ p ∧ Hid (q (s.data.toList.drop p) p fr acc = q (s.data.toList.drop (fr + 1)) (fr + 1) fr []) ∧ w.ownsRow w0.heap.size 5 1 v acc.length (bc acc) ∧ Below w0.heap.size w0 w ∧
    (l = 2 ∨ (l = 1 ∧ ∃ h : p < s.size, s[p].toNat = 92) ∨ (l = 0 ∧ ∃ h : p < s.size, s[p].toNat = 34))
def rqM (s : ByteArray) (l : Nat) (a : Act) (_ : World) : Nat :=
  match l with
  | 2 => 2 * (s.size - (intOf (a.tmps.getD 10 undef)).toNat) + 1
  | 1 => 2 * (s.size - (intOf (a.tmps.getD 10 undef)).toNat)
  | _ => 0

theorem hidden {p : Prop} (h : p) : Hid p := h
theorem qe_no {r : QR} {w w' : World} {y b : Nat} {z x : Int} {t : ByteArray} (h : r = .error (y, b)) (hz : z = (y : Int)) (hx : x = (b : Int)) (ht : t = str []) (hb : Below w.heap.size w w') : QE r w (.returned (.tuple #[.string t, .int .i64 z, .int .i64 x])) w' := by
  subst h hz hx ht
  exact ⟨rfl, hb⟩
theorem qe_ok {r : QR} {w w' : World} {l : List UInt8} {nx : Nat} {x : Int} {t : ByteArray} (h : r = .ok (l, nx)) (hx : x = (nx : Int)) (ht : t = str l) (hb : Below w.heap.size w w') : QE r w (.returned (.tuple #[.string t, .int .i64 0, .int .i64 x])) w' := by
  subst h hx ht
  exact ⟨rfl, hb⟩

end Go.Proofs.YtcjddbponknnoaaGreatDoor
