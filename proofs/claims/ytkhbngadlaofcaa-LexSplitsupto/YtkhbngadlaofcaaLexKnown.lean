/-
  The statements' 'known': some of the chapter's runs.
-/
import Derived.Test.YtkhbngadlaofcaaLexSplit
import Derived.Test.YtkhbngadlaofcaaLexSame
namespace Go.Proofs.Ytkhbngadlaofcaa
open Go.RowKit

theorem RdT.alloc {w : World} {v : Value} {l : List Tok} (h : RdT w v l) (o : Obj) : RdT (w.alloc o) v l := h.below ((Below.refl _ w).alloc (Nat.le_refl _) o)
theorem drewN_below {B : Nat} {a w : World} (h : Below B a w) (n : Nat) : Below B a (w.drewN n) := ⟨h.os, h.tape, h.output, h.size, h.block⟩
def knownToks : List Tok := [⟨1, 0, []⟩, ⟨3, 1, [97]⟩, ⟨4, 3, [98, 65]⟩, ⟨2, 10, []⟩]
theorem known_ok : splitR [40, 97, 32, 34, 98, 92, 120, 52, 49, 34, 41] = .ok knownToks := by rfl
theorem known_no : splitR [34, 97] = .error (10, 0) := by rfl

def KnownE (w : World) (e : Ending) (w' : World) : Prop := e = .returned (.bool true) ∧ Below w.heap.size w w'

set_option maxHeartbeats 800000 in
set_option maxRecDepth 1000000 in
theorem known (w : World) : Calls Try.prog 15 #[] w (KnownE w) := by
  have h1 : ∀ w, Calls Try.prog 8 #[.string ⟨#[40, 97, 32, 34, 98, 92, 120, 52, 49, 34, 41]⟩] w (SE (.ok knownToks) w) := by
    intro w
    have := split ⟨#[40, 97, 32, 34, 98, 92, 120, 52, 49, 34, 41]⟩ w
    rwa [known_ok] at this
  have h2 : ∀ w, Calls Try.prog 8 #[.string ⟨#[34, 97]⟩] w (SE (.error (10, 0)) w) := by
    intro w
    have := split ⟨#[34, 97]⟩ w
    rwa [known_no] at this
  go_enter Try.func15, Try.ntmps15
  go_wp2_with fail
  refine (h1 _).mono ?_
  rintro e w1 ⟨⟨v, rfl, ho⟩, hb1⟩
  have hr := RdT.own ho
  obtain ⟨a, c, rfl⟩ := hr.shape
  clear ho
  go_wp2_with fail
  refine (h2 _).mono ?_
  rintro e w2 ⟨he, hb2⟩
  simp only at he
  subst he
  have hr2 := hr.below hb2
  have hb3 := hb1.trans (hb2.mono hb1.size)
  clear hr hb1 hb2 h1 h2
  go_wp2_with fail
  refine (same knownToks _ _ _ (by decide) (hr2.alloc _) (RdT.new _ _ knownToks)).mono ?_
  rintro e w3 ⟨rfl, n, rfl⟩
  go_wp2
  go_ret
  exact ⟨rfl, drewN_below (hb3.alloc hb3.size _) _⟩
end Go.Proofs.Ytkhbngadlaofcaa
