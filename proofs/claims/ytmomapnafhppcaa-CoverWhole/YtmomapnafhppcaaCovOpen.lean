/-
  Texts that are handed in; append of texts in a region that draws its order.
-/
import Derived.ProofKit
import Derived.OpenShut
import Derived.SliceStrings
import Derived.Deep.Slices
import Derived.SizedLaws
import Derived.ChangeArms
import Derived.Laws.OwnMore
import Derived.Deep.AppendLies
import Derived.Lib.SmallJoins
import Derived.Test.YtmomapnafhppcaaCovRow
namespace Go.Proofs.Ytmomapnafhppcaa
open Go.ChangeShapes Go.WideShapes Go.ChangeAt Go.RowKit Go.Deep

/-- No part of it is longer than memory reaches. -/
def WOk {H : Type} (t : TypeId) (d : DataW H) : Prop := ∀ n ∈ d.weights Try.prog t, n ≤ reachBytes
theorem reach_is : reachBytes = 140737488351232 := by decide
theorem w_all {H : Type} {e : TypeId} : ∀ {l : List (DataW H)} {d : DataW H}, d ∈ l → ∀ n ∈ d.weights Try.prog e, n ∈ DataW.weightsAll Try.prog e l
  | d0 :: r, d, hd, n, hn => by
    rw [DataW.weightsAll, List.mem_append]
    rcases List.mem_cons.1 hd with rfl | hd
    · exact .inl hn
    · exact .inr (w_all hd n hn)
theorem w_slice {H : Type} {t e : TypeId} {elems spare : List (DataW H)} (hu : Try.prog.underlying t = some (.slice e)) (h : WOk t (.slice elems spare)) : (elems.length + spare.length) * Try.prog.bytesOf e ≤ reachBytes ∧ ∀ d ∈ elems, WOk e d := by
  unfold WOk at h
  simp only [DataW.weights, hu] at h
  exact ⟨h _ (List.mem_cons_self ..), fun d hd n hn => h n (List.mem_cons_of_mem _ (List.mem_append_left _ (w_all hd n hn)))⟩
theorem w_str {H : Type} {t : TypeId} {b : List UInt8} (h : WOk (H := H) t (.lit (.string b))) : Tk b := by
  have := h b.length (by simp [DataW.weights])
  rw [reach_is] at this
  unfold Tk
  omega
theorem add_none (ab ao j : Nat) : (⟨ab, ao, none⟩ : Addr).add j = ⟨ab, ao + j, none⟩ := by
  by_cases h0 : j = 0
  · subst h0; simp [Addr.add]
  · simp [Addr.add, h0]
theorem str_list (s : ByteArray) : str s.data.toList = s := by
  cases s
  simp [str]
theorem spot_none {W : World} {ab ao : Nat} {asp} {v : Value} (h : W.cell? ((⟨ab, ao, asp⟩ : Addr).add 0) = some v) : asp = none := by
  simpa [Addr.add] using World.cell?_spot h
/-- Texts in a row, as they are handed in. -/
def SrcR (w : World) (v : Value) (xs : List (List UInt8)) : Prop :=
  (xs = [] ∧ v = .slice none 0 0) ∨ (xs = [] ∧ ∃ a c, v = .slice (some a) 0 c) ∨ ∃ bk o c, v = .slice (some ⟨bk, o, none⟩) xs.length c ∧ 0 < xs.length ∧ bk < w.heap.size ∧ xs.length ≤ c ∧ ∀ (j : Nat) x, xs[j]? = some x → w.cell? ⟨bk, o + j, none⟩ = some (.string (str x))
theorem SrcR.row {w : World} {v : Value} {xs : List (List UInt8)} (h : SrcR w v xs) : StrRow w v xs := by
  rcases h with ⟨rfl, rfl⟩ | ⟨rfl, a, c, rfl⟩ | ⟨bk, o, c, rfl, _, h1, h2, h3⟩
  · exact .inl ⟨rfl, none, 0, rfl⟩
  · exact .inl ⟨rfl, some a, c, rfl⟩
  · exact .inr ⟨bk, o, c, rfl, h1, h2, h3⟩
theorem texts_in {H : Type} {enc : TypeId × Value → H} {W : World} {fuel : Nat} {a0 : Option Addr} {len0 cap0 : Nat} {x : DataW H × List MemPlace} (hf : DataW.trod enc Try.prog W 0 (fun _ => true) true fuel 24 [.slice a0 len0 cap0] = some x) (hw : WOk 24 x.1) :
    ∃ xs : List (List UInt8), xs.length = len0 ∧ SrcR W (.slice a0 len0 cap0) xs ∧ xs.length ≤ 8796093022208 ∧ ∀ y ∈ xs, Tk y := by
  rcases open_slice1 Try.underlying24 (by kernel_rfl) hf with ⟨hcs, _⟩ | ⟨a, len, cap, m, n, V, D, Pl, hcs, hb, hl, hm, hmm, rfl, hx⟩
  · simp only [List.cons.injEq, Value.slice.injEq, and_true] at hcs
    obtain ⟨rfl, rfl, rfl⟩ := hcs
    exact ⟨[], rfl, .inl ⟨rfl, rfl⟩, by simp, by simp⟩
  · simp only [List.cons.injEq, Value.slice.injEq, and_true] at hcs
    obtain ⟨rfl, rfl, rfl⟩ := hcs
    simp only [if_true] at hmm
    obtain ⟨w1, w2⟩ := w_slice Try.underlying24 hw
    have key : ∀ i, i < len0 → ∃ s : ByteArray, W.cell? (a.add i) = some (.string s) ∧ D i = .lit (.string s.data.toList) := fun i hi => by
      obtain ⟨h1, h2⟩ := hx i (by omega)
      obtain ⟨s, hs, hd, _⟩ := DataW.trod_string Try.underlying9 h2
      simp only [List.cons.injEq, and_true] at hs
      simp only [Prod.mk.injEq] at hd
      exact ⟨s, by rw [h1, hs], hd.1⟩
    obtain ⟨S, hS⟩ := choose_lt key
    refine ⟨(List.range len0).map (fun i => (S i).data.toList), by simp, ?_, ?_, ?_⟩
    · by_cases h0 : len0 = 0
      · subst h0
        exact .inr (.inl ⟨rfl, _, _, rfl⟩)
      · obtain ⟨ab, ao, asp⟩ := a
        obtain rfl := spot_none (hS 0 (by omega)).1
        have h00 := (hS 0 (by omega)).1
        rw [add_none] at h00
        refine .inr (.inr ⟨ab, ao, cap0, by simp, by simp; omega, World.block_lt_of_cell? W _ h00, by simpa using hl, fun j y hj => ?_⟩)
        obtain ⟨hj1, rfl⟩ := List.getElem?_eq_some_iff.1 hj
        simp only [List.length_map, List.length_range] at hj1
        rw [← add_none, (hS j hj1).1]
        simp [str_list]
    · have hby : Try.prog.bytesOf 9 = 16 := by kernel_rfl
      rw [hby, reach_is] at w1
      simp only [List.length_map, List.length_range] at w1 ⊢
      omega
    · intro y hy
      obtain ⟨i, hi, rfl⟩ := List.mem_map.1 hy
      have := w2 (D i) (List.mem_map.2 ⟨i, hi, rfl⟩)
      rw [(hS i (List.mem_range.1 hi)).2] at this
      exact w_str this
theorem sc_one (l : List (List UInt8)) : ∀ u ∈ sc l, u.oneCell' = true := by
  intro u hu
  obtain ⟨_, _, rfl⟩ := List.mem_map.1 hu
  rfl
/-- append of texts, as many as there are, in a region that draws. -/
theorem step_texts {w : World} {ops : Array Oper} {o : Oper} {a : Act} {K : Act → World → Prop} {Q : Exit → Act → World → Prop} {E : Prop} (hgd : o.guard = none) (s x : Operand)
    (ho : o.op = .call { callee := .builtin .append, args := #[s, x], argTypes := #[24, 24] })
    (B : Nat) (v : Value) (ks : List (List UInt8)) (hs : a.eval s = v) (hown : w.ownsRow B 9 1 v ks.length (sc ks)) (ys : List (List UInt8)) (xv : Value) (hx : a.eval x = xv) (hsrc : SrcR w xv ys) (hlen : ks.length + ys.length ≤ 100000) (hB : B ≤ w.heap.size)
    (h : ∀ v' w', w'.ownsRow B 9 1 v' (ks ++ ys).length (sc (ks ++ ys)) → w.grownBy w' v.ownBlock → K (a.put o.dst v') w') :
    if Region.wanted o (yielded ops a.tmps) = true then Oper.wp Try.prog o a w K Q else E := by
  have hw : Region.wanted o (yielded ops a.tmps) = true := by simp [Region.wanted, hgd]
  rw [if_pos hw]
  obtain ⟨i, z, hi, hz, h1, h2, h3⟩ := info_z infoS
  rcases hsrc with ⟨rfl, rfl⟩ | ⟨rfl, ad, c, rfl⟩ | ⟨bk, oo, c, rfl, hp, h4, h5, h6⟩
  · have hrun := run_append_owned_none (P := Try.prog) (w := w) B 24 o.type 9 i 1 Try.underlying24 hi v _ (sc ks) hown
    unfold Oper.wp
    simp [execOp, ho, resolve, invoke, builtin, hs, hx, hrun, Result.andThen]
    exact h v w (by simpa using hown) (World.grownBy.refl w _)
  · refine wp_append_own w s x 24 ho B 9 i z 1 16 Try.underlying24 hi hz h1 h2 h3 (by decide) v ks.length (sc ks) hs hown ad 0 c [] hx rfl (by simp) (by simp) (by unfold maxLen; simp at hlen; omega) (by simp at hlen; omega) hB ?_
    intro v' w' k1 k2 _
    exact h v' w' (by simpa using k1) k2
  · refine wp_append_own w s x 24 ho B 9 i z 1 16 Try.underlying24 hi hz h1 h2 h3 (by decide) v ks.length (sc ks) hs hown ⟨bk, oo, none⟩ ys.length c (sc ys) hx (by rw [sc_length, Nat.mul_one]) (fun j u hj => ?_) (sc_one _) (by unfold maxLen; omega) (by omega) hB ?_
    · obtain ⟨hj1, rfl⟩ := List.getElem?_eq_some_iff.1 hj
      rw [sc_length] at hj1
      rw [add_none, h6 j _ (List.getElem?_eq_getElem hj1)]
      simp [sc]
    · intro v' w' k1 k2 _
      exact h v' w' (by rw [sc_append, List.length_append]; exact k1) k2
end Go.Proofs.Ytmomapnafhppcaa
