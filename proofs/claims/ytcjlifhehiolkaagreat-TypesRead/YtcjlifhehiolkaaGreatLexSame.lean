/-
  The statements' 'same': two rows of the same tokens are the same.
-/
import Derived.Deep.Upon
import Derived.Deep.LoopGhost
import Derived.Test.YtcjlifhehiolkaaGreatLexMem
namespace Go.Proofs.YtcjlifhehiolkaaGreat
open Go.RowKit

/-- A row of tokens that can be read. -/
def RdT (w : World) (v : Value) (l : List Tok) : Prop := (v = .slice none 0 0 ∧ l = []) ∨ ∃ g cap, v = .slice (some ⟨g, 0, none⟩) l.length cap ∧ ∀ j u, (tcs l)[j]? = some u → w.cell? ⟨g, j, none⟩ = some u
theorem RdT.own {w : World} {B e : Nat} {v : Value} {l : List Tok} (h : w.ownsRow B e 3 v l.length (tcs l)) : RdT w v l := by
  rcases owns_shape h with ⟨rfl, hn⟩ | ⟨g, cap, rfl, _, _, hc⟩
  · exact .inl ⟨rfl, List.eq_nil_of_length_eq_zero hn⟩
  · exact .inr ⟨g, cap, rfl, fun j u hj => by have := hc j u hj; rwa [add_at] at this⟩
theorem RdT.new (w : World) (e : TypeId) (l : List Tok) : RdT (w.alloc (.cells (tcs l).toArray e)) (.slice (some ⟨w.heap.size, 0, none⟩) l.length l.length) l :=
  .inr ⟨_, _, rfl, fun j u hj => by have := cells_new w (tcs l) e j u hj; rwa [add_at] at this⟩
theorem RdT.below {w w' : World} {v : Value} {l : List Tok} (h : RdT w v l) (k : Below w.heap.size w w') : RdT w' v l := by
  rcases h with h | ⟨g, cap, rfl, hc⟩
  · exact .inl h
  · refine .inr ⟨g, cap, rfl, fun j u hj => ?_⟩
    have := hc j u hj
    rw [k.cell (World.block_lt_of_cell? w _ this)]
    exact this
theorem RdT.shape {w : World} {v : Value} {l : List Tok} (h : RdT w v l) : ∃ a c, v = .slice a l.length c := by
  rcases h with ⟨rfl, rfl⟩ | ⟨g, cap, rfl, _⟩
  · exact ⟨_, _, rfl⟩
  · exact ⟨_, _, rfl⟩
theorem tcs_get : ∀ (l : List Tok) (k : Nat) (hk : k < l.length), (tcs l)[k * 3]? = some (.int .i64 (l[k].kind : Int)) ∧ (tcs l)[k * 3 + 1]? = some (.int .i64 (l[k].place : Int)) ∧ (tcs l)[k * 3 + 2]? = some (.string (str l[k].text))
  | [], k, hk => by simp at hk
  | t :: r, 0, _ => by simp [tcs, tc]
  | t :: r, k + 1, hk => by
    have := tcs_get r k (by simpa using hk)
    have e : tcs (t :: r) = tc t ++ tcs r := by simp [tcs]
    rw [e]
    have h3 : (tc t).length = 3 := rfl
    rw [List.getElem?_append_right (by omega), List.getElem?_append_right (by omega), List.getElem?_append_right (by omega), h3, show (k + 1) * 3 - 3 = k * 3 from by omega, show (k + 1) * 3 + 1 - 3 = k * 3 + 1 from by omega, show (k + 1) * 3 + 2 - 3 = k * 3 + 2 from by omega]
    exact this

end Go.Proofs.YtcjlifhehiolkaaGreat
