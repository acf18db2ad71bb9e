/-
  The statements' 'known': some of chapter 4's runs.
-/
import Derived.Test.YtmekjbplodnldaaTreePrint2
namespace Go.Proofs.Ytmekjbplodnldaa
open Go.RowKit

def KnownE (w : World) (e : Ending) (w' : World) : Prop := e = .returned (.bool true) ∧ Below w.heap.size w w'
def knownT : Tr := ⟨1, 0, [], [⟨3, 1, [97], [], ⟨3, 1, [97]⟩⟩, ⟨1, 4, [], [⟨3, 5, [98], [], ⟨3, 5, [98]⟩⟩], ⟨2, 6, []⟩⟩], ⟨2, 7, []⟩⟩
theorem known_ok : parseR [40, 97, 32, 32, 40, 98, 41, 41] = .ok knownT := by rfl
theorem known_no : parseR [97, 32, 98] = .error (11, 2) := by rfl
theorem known_pr : pr knownT = [40, 97, 32, 40, 98, 41, 41] := by simp [knownT, pr, seps]

set_option maxHeartbeats 800000 in
set_option maxRecDepth 1000000 in
theorem known (w : World) : Calls Try.prog 10 #[] w (KnownE w) := by
  have h1 : ∀ w, Calls Try.prog 8 #[.string ⟨#[40, 97, 32, 32, 40, 98, 41, 41]⟩] w (PE (.ok knownT) w) := by
    intro w
    have := parse ⟨#[40, 97, 32, 32, 40, 98, 41, 41]⟩ w
    rwa [known_ok] at this
  have h2 : ∀ w, Calls Try.prog 8 #[.string ⟨#[97, 32, 98]⟩] w (PE (.error (11, 2)) w) := by
    intro w
    have := parse ⟨#[97, 32, 98]⟩ w
    rwa [known_no] at this
  go_enter Try.func10, Try.ntmps10
  go_wp2_with fail
  refine (h1 _).mono ?_
  rintro e w1 ⟨⟨kv, rfl, ht⟩, hb1⟩
  obtain ⟨ka, kc, rfl⟩ := ht.shape
  unfold trv
  go_wp2_with fail
  refine (h2 _).mono ?_
  rintro e w2 ⟨he, hb2⟩
  simp only at he
  subst he
  unfold trv
  have hbox : w2.heap[w1.heap.size]? = some (.cells #[.int .i64 (knownT.kind : Int), .int .i64 (knownT.place : Int), .string (str knownT.text), .slice ka knownT.kids.length kc] 24) := by
    rw [hb2.block _ (by simp)]
    exact heap_alloc_new w1 _
  obtain ⟨d0, d1, d2, d3, _⟩ := four_cells hbox
  have hs1 : w1.heap.size + 1 ≤ w2.heap.size := by have := hb2.size; simpa using this
  have ht2 : TL (fun g => w.heap.size ≤ g ∧ g < w1.heap.size) w2 (.slice ka knownT.kids.length kc) knownT.kids := (ht.kept ((Kept.refl (fun _ => False) w1).alloc _) (fun g hg => ⟨hg.2, fun h => h⟩)).kept (Kept.of_below hb2) (fun g hg => ⟨by simp; omega, by simp; omega⟩)
  have hB : Below w.heap.size w w2 := (hb1.trans (((Below.refl w.heap.size w1).alloc hb1.size _))).trans (hb2.mono (by simp; have := hb1.size; omega))
  have KZ : Kept (fun _ => False) w2 (w2.alloc (.cells #[.int .i64 (root.kind : Int), .int .i64 (root.place : Int), .string (str root.text), .slice none 0 0] 24)) := (Kept.refl _ w2).alloc _
  have e0 := KZ.cell d0 (fun h => h)
  have e1 := KZ.cell d1 (fun h => h)
  have e2 := KZ.cell d2 (fun h => h)
  have e3 := KZ.cell d3 (fun h => h)
  clear hbox hb1 hb2 ht h1 h2
  go_wp2_with fail
  refine (print knownT (.slice ka knownT.kids.length kc) (fun g => w.heap.size ≤ g ∧ g < w1.heap.size) _ (ht2.kept KZ (fun g hg => ⟨by omega, fun h => h⟩)) (fun g hg => by simp; omega) (by rw [known_pr]; decide)).mono ?_
  rintro e w3 ⟨rfl, hb3⟩
  rw [known_pr]
  have hst : str [40, 97, 32, 40, 98, 41, 41] = ⟨#[40, 97, 32, 40, 98, 41, 41]⟩ := rfl
  rw [hst]
  go_wp2
  go_ret
  exact ⟨rfl, (hB.alloc hB.size _).trans (hb3.mono (by simp; have := hB.size; omega))⟩
end Go.Proofs.Ytmekjbplodnldaa
