/-
  Interfaces in memory: cases, items; what they are as values.
-/
import Derived.Test.YtcjddbponknnoaaGreatDoorIfaceSpec
import Derived.Test.YtcjddbponknnoaaGreatDoorTypesParts
import Derived.Test.YtcjddbponknnoaaGreatDoorParseTx
import Derived.Test.YtcjddbponknnoaaGreatDoorTypesCmp
namespace Go.Proofs.YtcjddbponknnoaaGreatDoor
open Go.RowKit

/-- A text that is no longer than any can be. -/
def Tk (x : List UInt8) : Prop := x.length ≤ 140737488355328
def CsOk (c : Cs) : Prop := Tk c.1 ∧ c.2.length ≤ 8796093022208 ∧ ∀ f ∈ c.2, Tk f
def ItOk (x : It) : Prop := -9223372036854775808 ≤ x.kind ∧ x.kind ≤ 9223372036854775807 ∧ Tk x.name ∧ Tk x.ty ∧ x.cases.length ≤ 3518437208883 ∧ ∀ c ∈ x.cases, CsOk c
/-- Cases in a row, in a block of F. -/
def CsR (F : Nat → Prop) (w : World) (v : Value) (cs : List Cs) : Prop :=
  (∃ a c, v = .slice a 0 c ∧ cs = []) ∨ ∃ g o cap, v = .slice (some ⟨g, o, none⟩) cs.length cap ∧ cs.length ≤ cap ∧ F g ∧ ∀ (j : Nat) x, cs[j]? = some x → ∃ fv, TxR F w fv x.2 ∧ w.cell? ⟨g, o + j * 2, none⟩ = some (.string (str x.1)) ∧ w.cell? ⟨g, o + j * 2 + 1, none⟩ = some fv
theorem CsR.frame {F G : Nat → Prop} {w w' : World} (hF : ∀ g, F g → G g ∧ w'.heap[g]? = w.heap[g]?) {v : Value} {cs : List Cs} (h : CsR F w v cs) : CsR G w' v cs := by
  rcases h with h | ⟨g, o, cap, h1, h1', h2, h3⟩
  · exact .inl h
  · refine .inr ⟨g, o, cap, h1, h1', (hF g h2).1, fun j x hj => ?_⟩
    obtain ⟨fv, h4, h5, h6⟩ := h3 j x hj
    exact ⟨fv, h4.frame hF, by rw [World.cell?_of_block (w := w) (hF g h2).2]; exact h5, by rw [World.cell?_of_block (w := w) (hF g h2).2]; exact h6⟩
theorem CsR.shape {F : Nat → Prop} {w : World} {v : Value} {cs : List Cs} (h : CsR F w v cs) : ∃ a c, v = .slice a cs.length c := by
  rcases h with ⟨a, c, rfl, rfl⟩ | ⟨g, o, cap, rfl, _⟩
  · exact ⟨a, c, rfl⟩
  · exact ⟨_, _, rfl⟩
theorem CsR.nil (F : Nat → Prop) (w : World) : CsR F w (.slice none 0 0) [] := .inl ⟨none, 0, rfl, rfl⟩
theorem CsR.at {F : Nat → Prop} {w : World} {v : Value} {cs : List Cs} (h : CsR F w v cs) (i : Nat) (hi : i < cs.length) : ∃ g o cap fv, v = .slice (some ⟨g, o, none⟩) cs.length cap ∧ cs.length ≤ cap ∧ F g ∧ TxR F w fv cs[i].2 ∧ w.cell? ⟨g, o + i * 2, none⟩ = some (.string (str cs[i].1)) ∧ w.cell? ⟨g, o + i * 2 + 1, none⟩ = some fv := by
  rcases h with ⟨a, c, rfl, rfl⟩ | ⟨g, o, cap, rfl, hc, hg, h⟩
  · simp at hi
  · obtain ⟨fv, h1, h2, h3⟩ := h i _ (List.getElem?_eq_getElem hi)
    exact ⟨g, o, cap, fv, rfl, hc, hg, h1, h2, h3⟩
/-- The first n of them. -/
theorem CsR.take {F : Nat → Prop} {w : World} {g o cap : Nat} {cs : List Cs} (h : CsR F w (.slice (some ⟨g, o, none⟩) cs.length cap) cs) (_hF : F g) (_hc : cs.length ≤ cap) (n : Nat) (hn : n ≤ cs.length) : CsR F w (.slice (some ⟨g, o, none⟩) n cap) (cs.take n) := by
  rcases h with ⟨a, c, h1, rfl⟩ | ⟨g', o', cap', h1, h1', h2, h3⟩
  · simp at hn
    subst hn
    exact .inl ⟨_, cap, rfl, rfl⟩
  · simp only [Value.slice.injEq, Option.some.injEq, Addr.mk.injEq, and_true, true_and] at h1
    obtain ⟨⟨rfl, rfl⟩, rfl⟩ := h1
    refine .inr ⟨g, o, cap, by rw [List.length_take, Nat.min_eq_left hn], by rw [List.length_take, Nat.min_eq_left hn]; omega, h2, fun j x hj => h3 j x ?_⟩
    rw [List.getElem?_take] at hj
    split at hj
    · exact hj
    · cases hj
/-- Items in a row. -/
def ItR (F : Nat → Prop) (w : World) (v : Value) (l : List It) : Prop :=
  (∃ a c, v = .slice a 0 c ∧ l = []) ∨ ∃ g o cap, v = .slice (some ⟨g, o, none⟩) l.length cap ∧ l.length ≤ cap ∧ F g ∧ ∀ (j : Nat) x, l[j]? = some x → ∃ cv, CsR F w cv x.cases ∧ w.cell? ⟨g, o + j * 4, none⟩ = some (.int .i64 x.kind) ∧ w.cell? ⟨g, o + j * 4 + 1, none⟩ = some (.string (str x.name)) ∧ w.cell? ⟨g, o + j * 4 + 2, none⟩ = some (.string (str x.ty)) ∧ w.cell? ⟨g, o + j * 4 + 3, none⟩ = some cv
theorem ItR.frame {F G : Nat → Prop} {w w' : World} (hF : ∀ g, F g → G g ∧ w'.heap[g]? = w.heap[g]?) {v : Value} {l : List It} (h : ItR F w v l) : ItR G w' v l := by
  rcases h with h | ⟨g, o, cap, h1, h1', h2, h3⟩
  · exact .inl h
  · refine .inr ⟨g, o, cap, h1, h1', (hF g h2).1, fun j x hj => ?_⟩
    obtain ⟨cv, h4, h5, h6, h7, h8⟩ := h3 j x hj
    have hb := (hF g h2).2
    exact ⟨cv, h4.frame hF, (World.cell?_of_block (a := ⟨g, o + j * 4, none⟩) hb).trans h5, (World.cell?_of_block (a := ⟨g, o + j * 4 + 1, none⟩) hb).trans h6, (World.cell?_of_block (a := ⟨g, o + j * 4 + 2, none⟩) hb).trans h7, (World.cell?_of_block (a := ⟨g, o + j * 4 + 3, none⟩) hb).trans h8⟩
theorem ItR.shape {F : Nat → Prop} {w : World} {v : Value} {l : List It} (h : ItR F w v l) : ∃ a c, v = .slice a l.length c := by
  rcases h with ⟨a, c, rfl, rfl⟩ | ⟨g, o, cap, rfl, _⟩
  · exact ⟨a, c, rfl⟩
  · exact ⟨_, _, rfl⟩
theorem ItR.nil (F : Nat → Prop) (w : World) : ItR F w (.slice none 0 0) [] := .inl ⟨none, 0, rfl, rfl⟩
theorem ItR.at {F : Nat → Prop} {w : World} {v : Value} {l : List It} (h : ItR F w v l) (i : Nat) (hi : i < l.length) : ∃ g o cap cv, v = .slice (some ⟨g, o, none⟩) l.length cap ∧ F g ∧ CsR F w cv l[i].cases ∧ w.cell? ⟨g, o + i * 4, none⟩ = some (.int .i64 l[i].kind) ∧ w.cell? ⟨g, o + i * 4 + 1, none⟩ = some (.string (str l[i].name)) ∧ w.cell? ⟨g, o + i * 4 + 2, none⟩ = some (.string (str l[i].ty)) ∧ w.cell? ⟨g, o + i * 4 + 3, none⟩ = some cv := by
  rcases h with ⟨a, c, rfl, rfl⟩ | ⟨g, o, cap, rfl, _, hg, h⟩
  · simp at hi
  · obtain ⟨cv, h1, h2⟩ := h i _ (List.getElem?_eq_getElem hi)
    exact ⟨g, o, cap, cv, rfl, hg, h1, h2⟩
/-- What lies below stays, also for texts, cases, items. -/
theorem TxR.below {F : Nat → Prop} {H : Nat} {w w' : World} {v : Value} {xs : List (List UInt8)} (h : TxR F w v xs) (hb : Below H w w') (hF : ∀ g, F g → g < H) : TxR F w' v xs := h.frame fun g hg => ⟨hg, hb.block g (hF g hg)⟩
theorem CsR.below {F : Nat → Prop} {H : Nat} {w w' : World} {v : Value} {xs : List Cs} (h : CsR F w v xs) (hb : Below H w w') (hF : ∀ g, F g → g < H) : CsR F w' v xs := h.frame fun g hg => ⟨hg, hb.block g (hF g hg)⟩
theorem ItR.below {F : Nat → Prop} {H : Nat} {w w' : World} {v : Value} {xs : List It} (h : ItR F w v xs) (hb : Below H w w') (hF : ∀ g, F g → g < H) : ItR F w' v xs := h.frame fun g hg => ⟨hg, hb.block g (hF g hg)⟩
theorem TxR.at {F : Nat → Prop} {w : World} {v : Value} {xs : List (List UInt8)} (h : TxR F w v xs) (i : Nat) (hi : i < xs.length) : ∃ g o cap, v = .slice (some ⟨g, o, none⟩) xs.length cap ∧ F g ∧ w.cell? ⟨g, o + i, none⟩ = some (.string (str xs[i])) := by
  rcases h with ⟨a, c, rfl, rfl⟩ | ⟨g, o, cap, rfl, hg, h⟩
  · simp at hi
  · exact ⟨g, o, cap, rfl, hg, h i _ (List.getElem?_eq_getElem hi)⟩
theorem cell_more {w : World} {a : Addr} {v : Value} (h : w.cell? a = some v) (o : Obj) : (w.alloc o).cell? a = some v := (World.cell?_of_block (Below.heap_alloc _ _ _ (World.block_lt_of_cell? w a h))).trans h
def csv (c : Cs) (fv : Value) : Value := .agg #[.string (str c.1), fv]
def itv (x : It) (cv : Value) : Value := .agg #[.int .i64 x.kind, .string (str x.name), .string (str x.ty), cv]
def NumB (n : Nat) (w : World) (e : Ending) (w' : World) : Prop := e = .returned (.int .i64 (n : Int)) ∧ Below w.heap.size w w'
end Go.Proofs.YtcjddbponknnoaaGreatDoor
