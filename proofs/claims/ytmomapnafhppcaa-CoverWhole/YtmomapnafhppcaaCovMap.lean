/-
  Names counted in a map of numbers: Missing, Extra, Twice.
-/
import Derived.Maps.OwnSet
import Derived.Maps.OwnOps
import Derived.Test.YtmomapnafhppcaaCovSmall
namespace Go.Proofs.Ytmomapnafhppcaa
open Go.RowKit Go.Maps

/-- A map that counts. -/
def CntIs (D : DataW Nat) (ks : List (List UInt8)) : Prop := IsMap D ∧ ∀ q, D.atKey (.string q) (.lit (.int .i64 0)) = .lit (.int .i64 ((ks.count q : Nat) : Int))
theorem cnt_nil : CntIs (.map []) [] := ⟨⟨[], rfl⟩, fun _ => rfl⟩
theorem cnt_put {D : DataW Nat} {ks : List (List UInt8)} (h : CntIs D ks) (k : List UInt8) : CntIs (D.put (.string k) (.lit (.int .i64 (((ks.count k : Nat) : Int) + 1)))) (ks ++ [k]) := by
  obtain ⟨hm, hq⟩ := h
  refine ⟨by obtain ⟨es, rfl⟩ := hm; exact ⟨_, rfl⟩, fun q => ?_⟩
  by_cases e : q = k
  · subst e
    rw [atKey_put_same hm (show WideAt.IsKeyLit (.string q) from trivial), List.count_append]
    simp
  · rw [atKey_put_other (by simp; exact e), hq, List.count_append]
    have : List.count q [k] = 0 := List.count_eq_zero.2 (by simp; exact e)
    rw [this, Nat.add_zero]
def MapC (w : World) (b : Nat) (ks : List (List UInt8)) : Prop := ∃ D, w.ownsMap Try.prog 9 (plainElem (H := Nat) Try.prog 3) b ks.length D ∧ CntIs D ks
theorem MapC.below {w w' : World} {B b : Nat} {ks : List (List UInt8)} (h : MapC w b ks) (hb : Below B w w') (hlt : b < B) : MapC w' b ks := by
  obtain ⟨D, h1, h2⟩ := h
  exact ⟨D, ownsMap_below h1 hb hlt, h2⟩
theorem MapC.lt {w : World} {b : Nat} {ks : List (List UInt8)} (h : MapC w b ks) : b < w.heap.size := by
  obtain ⟨D, h1, _⟩ := h
  exact h1.lt
theorem MapC.new (w : World) : MapC (w.alloc (.map #[] 0)) w.heap.size [] := ⟨_, World.ownsMap_made _ _ _ _, cnt_nil⟩
theorem MapC.kept {w w' : World} {row : Option Nat} {b : Nat} {ks : List (List UInt8)} (h : MapC w b ks) (hg : w.grownBy w' row) (hne : some b ≠ row) : MapC w' b ks := by
  obtain ⟨D, h1, h2⟩ := h
  exact ⟨D, h1.kept hg hne, h2⟩
theorem keyS {x : List UInt8} (hx : Tk x) : keyOf Try.prog 9 (.string (str x)) = some (.string x) := Go.WideMaps.keyOf_string_mk Try.underlying9 (by rw [str_size]; unfold Tk at hx; unfold maxLen; omega)
/-- A look-up: how often. -/
theorem lookC {w : World} {ops : Array Oper} {rest : List Oper} {o : Oper} {a : Act} {Q : Exit → Act → World → Prop} (hg : o.guard = none) (m x : Operand) (hop : o.op = Op.lookup 36 m x false)
    (b : Nat) (ks : List (List UInt8)) (hm : a.eval m = .map (some b)) (hown : MapC w b ks) (q : List UInt8) (hx : a.eval x = .string (str q)) (hq : Tk q)
    (hK : wpList Try.prog ops Q rest (a.put o.dst (.int .i64 ((ks.count q : Nat) : Int))) w) : wpList Try.prog ops Q (o :: rest) a w := by
  obtain ⟨D, h1, h2⟩ := hown
  refine wpList_lookup_own_int w hg m x 36 hop 9 3 .i64 (string_keyed Try.underlying9) Try.underlying36 Try.underlying3 (Try.zeroValue3 _) b _ D hm h1 _ _ hx (keyS hq) ?_
  intro c hc _
  rw [h2.2] at hc
  simp only [DataW.lit.injEq, Lit.int.injEq, true_and] at hc
  subst hc
  exact hK
/-- One more. -/
theorem moreC {w : World} {ops : Array Oper} {rest : List Oper} {o : Oper} {a : Act} {Q : Exit → Act → World → Prop} (hg : o.guard = none) (m x v : Operand) (hop : o.op = Op.mapUpdate 36 m x v)
    (b : Nat) (ks : List (List UInt8)) (hm : a.eval m = .map (some b)) (hown : MapC w b ks) (hn : ks.length ≤ 8796093022208) (q : List UInt8) (hx : a.eval x = .string (str q)) (hv : a.eval v = .int .i64 (((ks.count q : Nat) : Int) + 1)) (hq : Tk q)
    (hK : ∀ w', MapC w' b (ks ++ [q]) → w.grownBy w' (some b) → wpList Try.prog ops Q rest (a.put o.dst undef) w') : wpList Try.prog ops Q (o :: rest) a w := by
  obtain ⟨D, h1, h2⟩ := hown
  have hc : ks.count q ≤ ks.length := List.count_le_length
  have hwf : (Lit.int .i64 (((ks.count q : Nat) : Int) + 1)).wf = true := Go.WalkArith.wf_i64 ⟨by omega, by omega⟩
  refine wpList_mapUpdate_own w hg m x v 36 hop 9 3 (string_keyed Try.underlying9) Try.underlying36 (plainElem (H := Nat) Try.prog 3) b _ D hm h1 (by unfold maxLen; omega) _ _ _ hx hv (keyS hq) _ [] (plainElem_int Try.underlying3 hwf) ?_
  intro w' k1 k2
  exact hK w' ⟨_, by rw [List.length_append]; exact k1, cnt_put h2 q⟩ k2
theorem cnt_zero (ks : List (List UInt8)) (q : List UInt8) : ((((ks.count q : Nat) : Int) == 0) = decide (q ∉ ks)) := by
  rw [Bool.eq_iff_iff, beq_iff_eq, decide_eq_true_iff]
  have := @List.count_eq_zero _ _ _ q ks
  constructor
  · intro h
    exact this.1 (by omega)
  · intro h
    have := this.2 h
    omega
theorem filt_step (p : List UInt8 → Bool) (ys acc : List (List UInt8)) (k : Nat) (h : k < ys.length) (hq : acc ++ (ys.drop k).filter p = ys.filter p) : (if p ys[k] then acc ++ [ys[k]] else acc) ++ (ys.drop (k + 1)).filter p = ys.filter p := by
  rw [List.drop_eq_getElem_cons h, List.filter_cons] at hq
  rw [← hq]
  split <;> simp
theorem take_map {α β : Type} (f : α → β) (xs : List α) (k : Nat) (h : k < xs.length) : (xs.take k).map f ++ [f xs[k]] = (xs.take (k + 1)).map f := by
  rw [List.take_succ_eq_append_getElem h, List.map_append]
  rfl
end Go.Proofs.Ytmomapnafhppcaa
