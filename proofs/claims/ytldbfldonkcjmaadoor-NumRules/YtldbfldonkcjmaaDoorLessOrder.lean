/-
  Less is an order.
-/
import Derived.Test.YtldbfldonkcjmaaDoorOps
namespace Go.Proofs.YtldbfldonkcjmaaDoor
open Go.RowKit
theorem less_tri (a b c d : Int) : (less a b c d = true ∧ less c d a b = false ∧ ¬ (a = c ∧ b = d)) ∨ (less a b c d = false ∧ less c d a b = true ∧ ¬ (a = c ∧ b = d)) ∨ (less a b c d = false ∧ less c d a b = false ∧ a = c ∧ b = d) := by
  unfold less
  by_cases h : a = c
  · subst h
    rw [if_pos rfl, if_pos rfl]
    by_cases h1 : b < d
    · left; exact ⟨decide_eq_true h1, decide_eq_false (by omega), by omega⟩
    · by_cases h2 : d < b
      · right; left; exact ⟨decide_eq_false h1, decide_eq_true h2, by omega⟩
      · right; right; exact ⟨decide_eq_false h1, decide_eq_false h2, rfl, by omega⟩
  · rw [if_neg h, if_neg (fun e => h e.symm)]
    by_cases h1 : a < c
    · left; exact ⟨decide_eq_true h1, decide_eq_false (by omega), fun e => h e.1⟩
    · right; left; exact ⟨decide_eq_false h1, decide_eq_true (by omega), fun e => h e.1⟩
theorem less_self (a b : Int) : less a b a b = false := by unfold less; rw [if_pos rfl]; exact decide_eq_false (by omega)
theorem less_trans (a b c d e f : Int) (h1 : less a b c d = true) (h2 : less c d e f = true) : less a b e f = true := by
  unfold less at *
  by_cases x1 : a = c
  · rw [if_pos x1] at h1
    by_cases x2 : c = e
    · rw [if_pos x2] at h2
      rw [if_pos (by omega)]
      simp only [decide_eq_true_eq] at *
      omega
    · rw [if_neg x2] at h2
      rw [if_neg (by omega)]
      simp only [decide_eq_true_eq] at *
      omega
  · rw [if_neg x1] at h1
    by_cases x2 : c = e
    · rw [if_pos x2] at h2
      simp only [decide_eq_true_eq] at h1 h2
      rw [if_neg (by omega)]
      simp only [decide_eq_true_eq]
      omega
    · rw [if_neg x2] at h2
      simp only [decide_eq_true_eq] at h1 h2
      rw [if_neg (by omega)]
      simp only [decide_eq_true_eq]
      omega
theorem neqF {x1 x2 y1 y2 : Nat} {a b c d : Int} (h1 : Fl x1 a) (h2 : Fl x2 b) (h3 : Fl y1 c) (h4 : Fl y2 d) (h : ¬ (a = c ∧ b = d)) : ((FloatKind.f64.format.order x1 y1 == some .eq) && (FloatKind.f64.format.order x2 y2 == some .eq)) = false := by
  have e1 : (FloatKind.f64.format.order x1 y1 == some .eq) = decide (a = c) := Fl.eq h1 h3
  have e2 : (FloatKind.f64.format.order x2 y2 == some .eq) = decide (b = d) := Fl.eq h2 h4
  rw [e1, e2]
  simp
  omega
end Go.Proofs.YtldbfldonkcjmaaDoor
