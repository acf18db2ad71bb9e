/-
  A scope in which the run jumps to several labels; tokens and bytes in memory.
-/
import Derived.ScopeJumps
import Derived.Laws.AppendOwn
import Derived.Test.YtcjddbponknnoaaGreatDoorLexSmall
namespace Go.Proofs.YtcjddbponknnoaaGreatDoor
open Go.RowKit

/-- As Q; by a goto: what holds at that label. -/
def jumps (J : Nat → Act → World → Prop) (Q : Exit → Act → World → Prop) : Exit → Act → World → Prop
  | .goto l, a, w => J l a w
  | e, a, w => Q e a w

/-- A scope with several labels: what holds at each, and a number that each way from a label to a label lowers. -/
theorem wp_scope_labels {P : Program} {a : Act} {w : World} {Q : Exit → Act → World → Prop} {c : Code} (J : Nat → Act → World → Prop) (m : Nat → Act → World → Nat)
    (first : (∀ l rest a w, findLabel c l = some (Code.skip.seq rest) → J l a w → rest.wp P (jumps J Q) a w) → c.wp P (jumps J Q) a w)
    (pass : ∀ l a w, J l a w → ∃ rest, findLabel c l = some (Code.skip.seq rest) ∧ rest.wp P (jumps (fun l' a' w' => J l' a' w' ∧ m l' a' w' < m l a w) Q) a w) : (Code.scope c).wp P Q a w := by
  intro b k cs
  have key : ∀ n l a w rest, m l a w = n → J l a w → findLabel c l = some rest → ∃ e a' w', Q e a' w' ∧ Arrives P (lone (b.at a (.code rest :: .inScope c :: k)) cs w) b k cs e a' w' := by
    intro n
    induction n using Nat.strongRecOn with
    | _ n ih =>
      intro l a w rest hn hJ hf
      obtain ⟨r, hr, hp⟩ := pass l a w hJ
      rw [hr] at hf
      cases hf
      obtain ⟨e, a1, w1, hq, harr⟩ := wp_seq (wp_skip hp) b (.inScope c :: k) cs
      cases e with
      | normal => exact ⟨.normal, a1, w1, hq, Steps.trans harr (.one step_inScope)⟩
      | exit id => exact ⟨.exit id, a1, w1, hq, fun k' hk => harr k' (by simp [exitTo, hk])⟩
      | goto l' =>
        obtain ⟨hJ', hlt⟩ := hq
        obtain ⟨r', hr', _⟩ := pass l' a1 w1 hJ'
        have hg : gotoIn l' (.inScope c :: k) = some (.code (Code.skip.seq r') :: .inScope c :: k) := by simp [gotoIn, hr']
        obtain ⟨e2, a2, w2, hq2, harr2⟩ := ih _ (by omega) l' a1 w1 _ rfl hJ' hr'
        exact ⟨e2, a2, w2, hq2, .of_steps (harr _ hg) harr2⟩
      | ret => exact ⟨_, a1, w1, hq, harr⟩
      | panic ch => exact ⟨_, a1, w1, hq, harr⟩
      | outgrown => exact ⟨_, a1, w1, hq, harr⟩
  have hfirst : c.wp P (jumps J Q) a w := by
    refine first (fun l rest a w hf hJ => ?_)
    obtain ⟨r, hr, hp⟩ := pass l a w hJ
    rw [hr] at hf
    cases hf
    refine wp_mono hp ?_
    intro e a' w' hq
    cases e <;> first | exact hq | exact hq.1
  obtain ⟨e, a1, w1, hq, harr⟩ := hfirst b (.inScope c :: k) cs
  cases e with
  | normal => exact ⟨.normal, a1, w1, hq, .head step_scope (Steps.trans harr (.one step_inScope))⟩
  | exit id => exact ⟨.exit id, a1, w1, hq, fun k' hk => .head step_scope (harr k' (by simp [exitTo, hk]))⟩
  | goto l' =>
    obtain ⟨r', hr', _⟩ := pass l' a1 w1 hq
    have hg : gotoIn l' (.inScope c :: k) = some (.code (Code.skip.seq r') :: .inScope c :: k) := by simp [gotoIn, hr']
    obtain ⟨e2, a2, w2, hq2, harr2⟩ := key _ l' a1 w1 _ rfl hq hr'
    exact ⟨e2, a2, w2, hq2, .of_steps (.head step_scope (harr _ hg)) harr2⟩
  | ret => exact ⟨_, a1, w1, hq, .of_steps (.one step_scope) harr⟩
  | panic ch => exact ⟨_, a1, w1, hq, .of_steps (.one step_scope) harr⟩
  | outgrown => exact ⟨_, a1, w1, hq, .of_steps (.one step_scope) harr⟩

/-- Bytes as cells. -/
def bc (l : List UInt8) : List Value := l.map fun c => Value.int .u8 (c.toNat : Int)
theorem bc_length (l : List UInt8) : (bc l).length = l.length := by simp [bc]
theorem bc_append (a b : List UInt8) : bc (a ++ b) = bc a ++ bc b := by simp [bc]
theorem bc_one (l : List UInt8) : ∀ u ∈ bc l, u.oneCell' = true := by
  intro u hu
  obtain ⟨_, _, rfl⟩ := List.mem_map.1 hu
  rfl
/-- A token's cells, and those of several. -/
def tc (t : Tok) : List Value := [.int .i64 (t.kind : Int), .int .i64 (t.place : Int), .string (str t.text)]
def tcs (l : List Tok) : List Value := l.flatMap tc
theorem tcs_append (a b : List Tok) : tcs (a ++ b) = tcs a ++ tcs b := by simp [tcs]
theorem tcs_one (t : Tok) : tcs [t] = tc t := by simp [tcs]

/-- What stands in a row of the call's own, from block B on. -/
theorem owns_below {w w' : World} {B e size n : Nat} {v : Value} {xs : List Value} (h : w.ownsRow B e size v n xs) (k : Below w.heap.size w w') : w'.ownsRow B e size v n xs := by
  refine ⟨h.1, ?_⟩
  rcases h.2 with hn | ⟨g, cap, cur, rfl, hb, hg, rest⟩
  · exact .inl hn
  · exact .inr ⟨g, cap, cur, rfl, hb, (k.block g (Array.getElem?_eq_some_iff.1 hg).1).trans hg, rest⟩
/-- An append of the call's own leaves what was there below B. -/
theorem below_grown {w0 w w' : World} {B e size n : Nat} {v : Value} {xs : List Value} (h : w.ownsRow B e size v n xs) (hB : B ≤ w.heap.size) (hw : Below B w0 w) (hg : w.grownBy w' v.ownBlock) : Below B w0 w' := by
  refine hw.grown hg hB (fun k hk => ?_)
  rcases h.2 with ⟨rfl, _⟩ | ⟨g, cap, cur, rfl, hb, _⟩
  · simp [Value.ownBlock] at hk
  · simp [Value.ownBlock] at hk; omega
end Go.Proofs.YtcjddbponknnoaaGreatDoor
