/-
  A row of trees that grows by what a call made: what each step of it leaves.
-/
import Derived.Test.YtmekjbplodnldaaTreeOne
namespace Go.Proofs.Ytmekjbplodnldaa
open Go.RowKit

theorem grow_pack {e B : Nat} {F : Nat → Prop} {wr w5 : World} {kv u : Value} {ks : List Tr} {x : Tr} (O : Obj) (h : OneM e B F wr kv ks) (hB : B ≤ wr.heap.size) (hb : Below wr.heap.size wr w5) (ht : TL (fun g => wr.heap.size ≤ g ∧ g < w5.heap.size) w5 u x.kids) :
    ∃ vs : List Value, vs.length = ks.length ∧ (w5.alloc O).ownsRow B e 4 kv ks.length (rowc ks vs) ∧
      ∀ g cap w', w'.ownsRow B e 4 (.slice (some ⟨g, 0, none⟩) (ks.length + 1) cap) (ks.length + 1) (rowc ks vs ++ trc x u) → (w5.alloc O).grownBy w' kv.ownBlock → (kv.ownBlock = some g ∨ g = w5.heap.size + 1) →
        (∃ F', OneM e B F' w' (.slice (some ⟨g, 0, none⟩) (ks.length + 1) cap) (ks ++ [x])) ∧ Kept (fun b => B ≤ b) wr w' := by
  have K5 : Kept (fun _ => False) wr w5 := (Kept.of_below hb).mono (fun k hk h => by omega)
  have hM6 := h.grow (G := fun g => wr.heap.size ≤ g ∧ g < w5.heap.size) (K5.alloc O) hB (fun g hg => by simp; omega)
  have ht6 : TL (fun g => F g ∨ (wr.heap.size ≤ g ∧ g < w5.heap.size)) (w5.alloc O) u x.kids := (ht.kept ((Kept.refl (fun _ => False) w5).alloc O) (fun g hg => ⟨hg.2, fun h => h⟩)).mono (fun g hg => .inr hg)
  obtain ⟨vs, v1, v2, v3⟩ := hM6.own
  refine ⟨vs, v1, v2, fun g cap w' j1 j2 j3 => ?_⟩
  obtain ⟨hM7, K7⟩ := hM6.app v1 v3 j1 j2 j3 (by simp) ht6
  exact ⟨⟨_, hM7⟩, (K5.alloc O).trans K7 (fun _ _ h => h.elim) (fun x _ hx => (h.own.lt x hx).1)⟩
theorem store_pack {e e' B b : Nat} {F : Nat → Prop} {w' : World} {kv v a0 a1 a2 : Value} {ks : List Tr} (h : OneM e B F w' kv ks) (hb : b < B) (hx : w'.heap[b]? = some (.cells #[a0, a1, a2, v] e' (0, 0))) :
    (∃ F', OneM e B F' (w'.setCell ⟨b, 3, none⟩ kv) kv ks) ∧ (w'.setCell ⟨b, 3, none⟩ kv).heap[b]? = some (.cells #[a0, a1, a2, kv] e' (0, 0)) :=
  ⟨⟨F, h.set hb⟩, heap_setCell_same w' b 3 _ e' kv hx⟩

def PlE (t : Tr) (w : World) (e : Ending) (w' : World) : Prop := ∃ kv, e = .returned (trv t kv) ∧ TL (fun g => w.heap.size ≤ g ∧ g < w'.heap.size) w' kv t.kids ∧ Below w.heap.size w w'
end Go.Proofs.Ytmekjbplodnldaa
