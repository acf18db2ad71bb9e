/-
  A scope with several labels, where the run may also come to a label from the rows ahead of it.
-/
import Derived.Test.YtcjddbponknnoaaGreatDoorLexLabels
namespace Go.Proofs.YtcjddbponknnoaaGreatDoor
open Go.RowKit

/-- The same, where the run may also come to a label from the rows ahead of it. -/
theorem wp_scope_fall {P : Program} {a : Act} {w : World} {Q : Exit → Act → World → Prop} {c : Code} (J : Nat → Act → World → Prop) (m : Nat → Act → World → Nat)
    (first : (∀ l rest a w, findLabel c l = some (Code.skip.seq rest) → J l a w → rest.wp P (jumps J Q) a w) → c.wp P (jumps J Q) a w)
    (pass : ∀ l a w, J l a w → (∀ l' rest' a' w', findLabel c l' = some (Code.skip.seq rest') → J l' a' w' → m l' a' w' < m l a w → rest'.wp P (jumps (fun l'' a'' w'' => J l'' a'' w'' ∧ m l'' a'' w'' < m l a w) Q) a' w') →
      ∃ rest, findLabel c l = some (Code.skip.seq rest) ∧ rest.wp P (jumps (fun l' a' w' => J l' a' w' ∧ m l' a' w' < m l a w) Q) a w) : (Code.scope c).wp P Q a w := by
  refine wp_scope_labels J m first ?_
  have key : ∀ n l a w, m l a w = n → J l a w → ∃ rest, findLabel c l = some (Code.skip.seq rest) ∧ rest.wp P (jumps (fun l' a' w' => J l' a' w' ∧ m l' a' w' < m l a w) Q) a w := by
    intro n
    induction n using Nat.strongRecOn with
    | _ n ih =>
      intro l a w hn hJ
      refine pass l a w hJ (fun l' rest' a' w' hf hJ' hlt => ?_)
      obtain ⟨r, hr, hp⟩ := ih _ (by omega) l' a' w' rfl hJ'
      rw [hr] at hf
      cases hf
      refine wp_mono hp ?_
      intro e a2 w2 hq
      cases e <;> first | exact hq | exact ⟨hq.1, Nat.lt_trans hq.2 hlt⟩
  exact fun l a w hJ => key _ l a w rfl hJ

end Go.Proofs.YtcjddbponknnoaaGreatDoor
