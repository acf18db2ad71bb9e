/-
  Texts, and pairs of texts, in a row in memory.
-/
import Derived.Test.YtcjddbponknnoaaGreatDoorTreeMem
import Derived.Test.YtcjddbponknnoaaGreatDoorTypesSmall
namespace Go.Proofs.YtcjddbponknnoaaGreatDoor
open Go.RowKit

/-- Texts in a row, in a block of F. -/
def TxR (F : Nat → Prop) (w : World) (v : Value) (xs : List (List UInt8)) : Prop :=
  (∃ a c, v = .slice a 0 c ∧ xs = []) ∨ ∃ g o cap, v = .slice (some ⟨g, o, none⟩) xs.length cap ∧ F g ∧ ∀ (j : Nat) x, xs[j]? = some x → w.cell? ⟨g, o + j, none⟩ = some (.string (str x))
/-- Pairs of texts. -/
def TxR2 (F : Nat → Prop) (w : World) (v : Value) (xs : List (List UInt8 × List UInt8)) : Prop :=
  (∃ a c, v = .slice a 0 c ∧ xs = []) ∨ ∃ g o cap, v = .slice (some ⟨g, o, none⟩) xs.length cap ∧ F g ∧ ∀ (j : Nat) x, xs[j]? = some x → w.cell? ⟨g, o + j * 2, none⟩ = some (.string (str x.1)) ∧ w.cell? ⟨g, o + (j * 2 + 1), none⟩ = some (.string (str x.2))
theorem TxR.frame {F G : Nat → Prop} {w w' : World} (hF : ∀ g, F g → G g ∧ w'.heap[g]? = w.heap[g]?) {v : Value} {xs : List (List UInt8)} (h : TxR F w v xs) : TxR G w' v xs := by
  rcases h with h | ⟨g, o, cap, h1, h2, h3⟩
  · exact .inl h
  · refine .inr ⟨g, o, cap, h1, (hF g h2).1, fun j x hj => ?_⟩
    rw [World.cell?_of_block (w := w) (hF g h2).2]
    exact h3 j x hj
theorem TxR2.frame {F G : Nat → Prop} {w w' : World} (hF : ∀ g, F g → G g ∧ w'.heap[g]? = w.heap[g]?) {v : Value} {xs : List (List UInt8 × List UInt8)} (h : TxR2 F w v xs) : TxR2 G w' v xs := by
  rcases h with h | ⟨g, o, cap, h1, h2, h3⟩
  · exact .inl h
  · refine .inr ⟨g, o, cap, h1, (hF g h2).1, fun j x hj => ?_⟩
    obtain ⟨h4, h5⟩ := h3 j x hj
    exact ⟨by rw [World.cell?_of_block (w := w) (hF g h2).2]; exact h4, by rw [World.cell?_of_block (w := w) (hF g h2).2]; exact h5⟩
theorem TxR.shape {F : Nat → Prop} {w : World} {v : Value} {xs : List (List UInt8)} (h : TxR F w v xs) : ∃ a c, v = .slice a xs.length c := by
  rcases h with ⟨a, c, rfl, rfl⟩ | ⟨g, o, cap, rfl, _⟩
  · exact ⟨a, c, rfl⟩
  · exact ⟨_, _, rfl⟩
theorem TxR2.shape {F : Nat → Prop} {w : World} {v : Value} {xs : List (List UInt8 × List UInt8)} (h : TxR2 F w v xs) : ∃ a c, v = .slice a xs.length c := by
  rcases h with ⟨a, c, rfl, rfl⟩ | ⟨g, o, cap, rfl, _⟩
  · exact ⟨a, c, rfl⟩
  · exact ⟨_, _, rfl⟩
theorem TxR.row {F : Nat → Prop} {w : World} {v : Value} {xs : List (List UInt8)} (h : TxR F w v xs) (hF : ∀ g, F g → g < w.heap.size) (hc : ∀ a n c, v = .slice a n c → n ≤ c) : StrRow w v xs := by
  rcases h with ⟨a, c, rfl, rfl⟩ | ⟨g, o, cap, rfl, h2, h3⟩
  · exact .inl ⟨rfl, a, c, rfl⟩
  · exact .inr ⟨g, o, cap, rfl, hF g h2, hc _ _ _ rfl, h3⟩

theorem TxR.nil (F : Nat → Prop) (w : World) : TxR F w (.slice none 0 0) [] := .inl ⟨none, 0, rfl, rfl⟩
theorem TxR2.nil (F : Nat → Prop) (w : World) : TxR2 F w (.slice none 0 0) [] := .inl ⟨none, 0, rfl, rfl⟩
end Go.Proofs.YtcjddbponknnoaaGreatDoor
