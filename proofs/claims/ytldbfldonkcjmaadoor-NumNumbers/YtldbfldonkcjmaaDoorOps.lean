/-
  Two and One of floats that are whole numbers, where the answer may be.
-/
import Derived.Test.YtldbfldonkcjmaaDoorKnown
namespace Go.Proofs.YtldbfldonkcjmaaDoor
open Go.RowKit Ieee

theorem two_addS (a b c d : Int) : two ⟨#[97, 100, 100]⟩ a b c d = fit (a + c) (b + d) := if_pos (by decide +kernel)
theorem two_subS (a b c d : Int) : two ⟨#[115, 117, 98]⟩ a b c d = fit (a - c) (b - d) := (if_neg (by decide +kernel)).trans (if_pos (by decide +kernel))
theorem two_mulS (a b c d : Int) : two ⟨#[109, 117, 108]⟩ a b c d = fit (a * c - b * d) (a * d + b * c) := (if_neg (by decide +kernel)).trans ((if_neg (by decide +kernel)).trans (if_pos (by decide +kernel)))
theorem one_conjS (a b : Int) : one ⟨#[99, 111, 110, 106]⟩ a b = (a, -b, 0) := (if_neg (by decide +kernel)).trans (if_pos (by decide +kernel))
theorem one_reS (a b : Int) : one ⟨#[114, 101]⟩ a b = (a, 0, 0) := (if_neg (by decide +kernel)).trans ((if_neg (by decide +kernel)).trans (if_pos (by decide +kernel)))
theorem one_imS (a b : Int) : one ⟨#[105, 109]⟩ a b = (b, 0, 0) := (if_neg (by decide +kernel)).trans ((if_neg (by decide +kernel)).trans ((if_neg (by decide +kernel)).trans (if_pos (by decide +kernel))))
theorem fit_in (p q : Int) (h1 : p.natAbs ≤ 1048576) (h2 : q.natAbs ≤ 1048576) : fit p q = (p, q, 0) := if_pos ⟨h1, h2⟩
/-- Two, of floats that are whole numbers, where the answer may be. -/
theorem addF {p1 p2 q1 q2 : Nat} {a b c d x y : Int} (h1 : p1 < 18446744073709551616) (h2 : p2 < 18446744073709551616) (h3 : q1 < 18446744073709551616) (h4 : q2 < 18446744073709551616) (ha : Fl p1 a) (hb : Fl p2 b) (hc : Fl q1 c) (hd : Fl q2 d)
    (a20 : a.natAbs ≤ 1048576) (b20 : b.natAbs ≤ 1048576) (c20 : c.natAbs ≤ 1048576) (d20 : d.natAbs ≤ 1048576) (ex : a + c = x) (ey : b + d = y) (hx : x.natAbs ≤ 1048576) (hy : y.natAbs ≤ 1048576) (w : World) : Calls Tryd.prog 11 #[.string ⟨#[97, 100, 100]⟩, .complex .f64 p1 p2, .complex .f64 q1 q2] w (NumE (x, y, 0) w) := by
  have := two_right ⟨#[97, 100, 100]⟩ p1 p2 q1 q2 a b c d h1 h2 h3 h4 ⟨ha, a20⟩ ⟨hb, b20⟩ ⟨hc, c20⟩ ⟨hd, d20⟩ w
  rw [two_addS, ex, ey, fit_in x y hx hy] at this
  exact this
theorem subF {p1 p2 q1 q2 : Nat} {a b c d x y : Int} (h1 : p1 < 18446744073709551616) (h2 : p2 < 18446744073709551616) (h3 : q1 < 18446744073709551616) (h4 : q2 < 18446744073709551616) (ha : Fl p1 a) (hb : Fl p2 b) (hc : Fl q1 c) (hd : Fl q2 d)
    (a20 : a.natAbs ≤ 1048576) (b20 : b.natAbs ≤ 1048576) (c20 : c.natAbs ≤ 1048576) (d20 : d.natAbs ≤ 1048576) (ex : a - c = x) (ey : b - d = y) (hx : x.natAbs ≤ 1048576) (hy : y.natAbs ≤ 1048576) (w : World) : Calls Tryd.prog 11 #[.string ⟨#[115, 117, 98]⟩, .complex .f64 p1 p2, .complex .f64 q1 q2] w (NumE (x, y, 0) w) := by
  have := two_right ⟨#[115, 117, 98]⟩ p1 p2 q1 q2 a b c d h1 h2 h3 h4 ⟨ha, a20⟩ ⟨hb, b20⟩ ⟨hc, c20⟩ ⟨hd, d20⟩ w
  rw [two_subS, ex, ey, fit_in x y hx hy] at this
  exact this
theorem mulF {p1 p2 q1 q2 : Nat} {a b c d x y : Int} (h1 : p1 < 18446744073709551616) (h2 : p2 < 18446744073709551616) (h3 : q1 < 18446744073709551616) (h4 : q2 < 18446744073709551616) (ha : Fl p1 a) (hb : Fl p2 b) (hc : Fl q1 c) (hd : Fl q2 d)
    (a20 : a.natAbs ≤ 1048576) (b20 : b.natAbs ≤ 1048576) (c20 : c.natAbs ≤ 1048576) (d20 : d.natAbs ≤ 1048576) (ex : a * c - b * d = x) (ey : a * d + b * c = y) (hx : x.natAbs ≤ 1048576) (hy : y.natAbs ≤ 1048576) (w : World) : Calls Tryd.prog 11 #[.string ⟨#[109, 117, 108]⟩, .complex .f64 p1 p2, .complex .f64 q1 q2] w (NumE (x, y, 0) w) := by
  have := two_right ⟨#[109, 117, 108]⟩ p1 p2 q1 q2 a b c d h1 h2 h3 h4 ⟨ha, a20⟩ ⟨hb, b20⟩ ⟨hc, c20⟩ ⟨hd, d20⟩ w
  rw [two_mulS, ex, ey, fit_in x y hx hy] at this
  exact this
theorem conjF {p1 p2 : Nat} {a b : Int} (h1 : p1 < 18446744073709551616) (h2 : p2 < 18446744073709551616) (ha : Fl p1 a) (hb : Fl p2 b) (a20 : a.natAbs ≤ 1048576) (b20 : b.natAbs ≤ 1048576) (w : World) : Calls Tryd.prog 10 #[.string ⟨#[99, 111, 110, 106]⟩, .complex .f64 p1 p2] w (NumE (a, -b, 0) w) := by
  have := one_right ⟨#[99, 111, 110, 106]⟩ p1 p2 a b h1 h2 ⟨ha, a20⟩ ⟨hb, b20⟩ w
  rw [one_conjS] at this
  exact this
theorem reF {p1 p2 : Nat} {a b : Int} (h1 : p1 < 18446744073709551616) (h2 : p2 < 18446744073709551616) (ha : Fl p1 a) (hb : Fl p2 b) (a20 : a.natAbs ≤ 1048576) (b20 : b.natAbs ≤ 1048576) (w : World) : Calls Tryd.prog 10 #[.string ⟨#[114, 101]⟩, .complex .f64 p1 p2] w (NumE (a, 0, 0) w) := by
  have := one_right ⟨#[114, 101]⟩ p1 p2 a b h1 h2 ⟨ha, a20⟩ ⟨hb, b20⟩ w
  rw [one_reS] at this
  exact this
theorem imF {p1 p2 : Nat} {a b : Int} (h1 : p1 < 18446744073709551616) (h2 : p2 < 18446744073709551616) (ha : Fl p1 a) (hb : Fl p2 b) (a20 : a.natAbs ≤ 1048576) (b20 : b.natAbs ≤ 1048576) (w : World) : Calls Tryd.prog 10 #[.string ⟨#[105, 109]⟩, .complex .f64 p1 p2] w (NumE (b, 0, 0) w) := by
  have := one_right ⟨#[105, 109]⟩ p1 p2 a b h1 h2 ⟨ha, a20⟩ ⟨hb, b20⟩ w
  rw [one_imS] at this
  exact this
theorem eqF {x y : Nat} {a : Int} (hx : Fl x a) (hy : Fl y a) : (FloatKind.f64.format.order x y == some .eq) = true := (Fl.eq hx hy).trans (decide_eq_true rfl)
theorem mul500 (a b : Int) (ha : a.natAbs ≤ 500) (hb : b.natAbs ≤ 500) : -250000 ≤ a * b ∧ a * b ≤ 250000 := by
  have : (a * b).natAbs ≤ 250000 := by
    rw [Int.natAbs_mul]
    exact Nat.mul_le_mul ha hb
  omega
end Go.Proofs.YtldbfldonkcjmaaDoor
