/-
  The stack of what is begun, in memory: trees by their addresses, the texts of their parts in rows of the call's own.
-/
import Derived.Deep.AppendLies
import Derived.Test.YtcjlifhehiolkaaGreatTypesMade
namespace Go.Proofs.YtcjlifhehiolkaaGreat
open Go.RowKit

theorem infoRd : (Tryz.prog.info? 73).map (fun i => (i.zero.map (fun z => z.cells.size), i.size, i.bytes)) = some (some 2, 2, 32) := by kernel_rfl
theorem append_reading {w : World} {ops : Array Oper} {rest : List Oper} {o : Oper} {a : Act} {Q : Exit → Act → World → Prop} (hgd : o.guard = none) (s x : Operand)
    (ho : o.op = .call { callee := .builtin .append, args := #[s, x], argTypes := #[74, 74] })
    (B : Nat) (v : Value) (n : Nat) (xs : List Value) (hs : a.eval s = v) (hown : w.ownsRow B 73 2 v n xs)
    (ad : Addr) (c : Nat) (news : List Value) (hx : a.eval x = .slice (some ad) 1 c) (hl : news.length = 2) (hnews : ∀ j u, news[j]? = some u → w.cell? (ad.add j) = some u) (h1 : ∀ u ∈ news, u.oneCell' = true)
    (hlen : n ≤ 100000) (hB : B ≤ w.heap.size) (H : Nat) (hH : w.heap.size = H)
    (h : ∀ g cap w', w'.ownsRow B 73 2 (.slice (some ⟨g, 0, none⟩) (n + 1) cap) (n + 1) (xs ++ news) → w.grownBy w' v.ownBlock → (v.ownBlock = some g ∨ g = H) → g < w'.heap.size → wpList Tryz.prog ops Q rest (a.put o.dst (.slice (some ⟨g, 0, none⟩) (n + 1) cap)) w') :
    wpList Tryz.prog ops Q (o :: rest) a w := by
  obtain ⟨i, z, hi, hz, k1, k2, k3⟩ := info_z infoRd
  exact wpList_append_lies w hgd s x 74 ho B 73 i z 2 32 Tryz.underlying74 hi hz k1 k2 k3 (by decide) v n xs hs hown ad 1 c news hx hl hnews h1 (by decide) (by unfold maxLen; omega) (by omega) hB H hH h
theorem append_texts {w : World} {ops : Array Oper} {rest : List Oper} {o : Oper} {a : Act} {Q : Exit → Act → World → Prop} (hgd : o.guard = none) (s x : Operand)
    (ho : o.op = .call { callee := .builtin .append, args := #[s, x], argTypes := #[24, 24] })
    (B : Nat) (v : Value) (n : Nat) (xs : List Value) (hs : a.eval s = v) (hown : w.ownsRow B 9 1 v n xs)
    (ad : Addr) (c : Nat) (news : List Value) (hx : a.eval x = .slice (some ad) 1 c) (hl : news.length = 1) (hnews : ∀ j u, news[j]? = some u → w.cell? (ad.add j) = some u) (h1 : ∀ u ∈ news, u.oneCell' = true)
    (hlen : n ≤ 100000) (hB : B ≤ w.heap.size) (H : Nat) (hH : w.heap.size = H)
    (h : ∀ g cap w', w'.ownsRow B 9 1 (.slice (some ⟨g, 0, none⟩) (n + 1) cap) (n + 1) (xs ++ news) → w.grownBy w' v.ownBlock → (v.ownBlock = some g ∨ g = H) → g < w'.heap.size → wpList Tryz.prog ops Q rest (a.put o.dst (.slice (some ⟨g, 0, none⟩) (n + 1) cap)) w') :
    wpList Tryz.prog ops Q (o :: rest) a w := by
  obtain ⟨i, z, hi, hz, k1, k2, k3⟩ := info_z infoS
  exact wpList_append_lies w hgd s x 24 ho B 9 i z 1 16 Tryz.underlying24 hi hz k1 k2 k3 (by decide) v n xs hs hown ad 1 c news hx hl hnews h1 (by decide) (by unfold maxLen; omega) (by omega) hB H hH h

/-- The cells of the stack. -/
def rdc : List (Nat × Nat) → List Value → List Value
  | p :: ps, v :: vs => .pointer (some ⟨p.1, p.2, none⟩) :: v :: rdc ps vs
  | _, _ => []
theorem rdc_length : ∀ {ps : List (Nat × Nat)} {vs : List Value}, vs.length = ps.length → (rdc ps vs).length = ps.length * 2
  | [], [], _ => rfl
  | _ :: _, [], h => by simp at h
  | [], _ :: _, h => by simp at h
  | p :: ps, v :: vs, h => by
    simp only [List.length_cons, Nat.add_right_cancel_iff] at h
    simp only [rdc, List.length_cons, rdc_length h]
    omega
theorem rdc_append : ∀ {ps : List (Nat × Nat)} {vs : List Value} (p : Nat × Nat) (v : Value), vs.length = ps.length → rdc (ps ++ [p]) (vs ++ [v]) = rdc ps vs ++ [.pointer (some ⟨p.1, p.2, none⟩), v]
  | [], [], _, _, _ => rfl
  | _ :: _, [], _, _, h => by simp at h
  | [], _ :: _, _, _, h => by simp at h
  | q :: ps, u :: vs, p, v, h => by
    simp only [List.length_cons, Nat.add_right_cancel_iff] at h
    simp only [List.cons_append, rdc, rdc_append p v h]
/-- Rows of different types lie apart. -/
theorem row_apart {w : World} {B B' e e' s s' n n' g : Nat} {v v' : Value} {xs xs' : List Value} (he : e ≠ e') (h : w.ownsRow B e s v n xs) (h' : w.ownsRow B' e' s' v' n' xs') (hg : v.ownBlock = some g) : v'.ownBlock ≠ some g := by
  intro hg'
  rcases h.2 with ⟨rfl, _⟩ | ⟨k, cap, cur, rfl, _, hk, _⟩
  · simp [Value.ownBlock] at hg
  · rcases h'.2 with ⟨rfl, _⟩ | ⟨k', cap', cur', rfl, _, hk', _⟩
    · simp [Value.ownBlock] at hg'
    · simp only [Value.ownBlock, Option.some.injEq] at hg hg'
      subst hg hg'
      rw [hk] at hk'
      simp only [Option.some.injEq, Obj.cells.injEq] at hk'
      exact he hk'.2.1

structure RStk (F : Nat → Prop) (B : Nat) (w : World) (sv : Value) (fs : List Fr) (ps : List (Nat × Nat)) (vs : List Value) : Prop where
  len1 : ps.length = fs.length
  len2 : vs.length = fs.length
  own : w.ownsRow B 73 2 sv fs.length (rdc ps vs)
  ptr : ∀ (i : Nat) (f : Fr) (p : Nat × Nat), fs[i]? = some f → ps[i]? = some p → PT F w p.1 p.2 f.tree
  txt : ∀ (i : Nat) (f : Fr) (v : Value), fs[i]? = some f → vs[i]? = some v → w.ownsRow B 9 1 v f.texts.length (sc f.texts)
  apart : ∀ (i j : Nat) (v v' : Value) (g : Nat), vs[i]? = some v → vs[j]? = some v' → v.ownBlock = some g → v'.ownBlock = some g → i = j
theorem PT.kept {F S : Nat → Prop} {w w' : World} {g o : Nat} {t : Tr} (h : PT F w g o t) (k : Kept S w w') (hF : ∀ g, F g → g < w.heap.size ∧ ¬ S g) : PT F w' g o t := by
  obtain ⟨h1, kv, h2, h3, h4, h5, h6⟩ := h
  have hn := (hF g h1).2
  exact ⟨h1, kv, h2.kept k hF, k.cell h3 hn, k.cell h4 hn, k.cell h5 hn, k.cell h6 hn⟩
theorem RStk.below {F : Nat → Prop} {B : Nat} {w w' : World} {sv : Value} {fs : List Fr} {ps : List (Nat × Nat)} {vs : List Value} (h : RStk F B w sv fs ps vs) (hF : ∀ g, F g → g < w.heap.size) (hb : Below w.heap.size w w') : RStk F B w' sv fs ps vs :=
  ⟨h.len1, h.len2, owns_below h.own hb, fun i f p h1 h2 => (h.ptr i f p h1 h2).below hb hF, fun i f v h1 h2 => owns_below (h.txt i f v h1 h2) hb, h.apart⟩
theorem RStk.alloc {F : Nat → Prop} {B : Nat} {w : World} {sv : Value} {fs : List Fr} {ps : List (Nat × Nat)} {vs : List Value} (h : RStk F B w sv fs ps vs) (hF : ∀ g, F g → g < w.heap.size) (o : Obj) : RStk F B (w.alloc o) sv fs ps vs :=
  h.below hF ((Below.refl _ _).alloc (Nat.le_refl _) o)
theorem get_last {α : Type} {l : List α} {x y : α} {i : Nat} (h : (l ++ [x])[i]? = some y) : l[i]? = some y ∨ (i = l.length ∧ y = x) := by
  rw [List.getElem?_append] at h
  split at h
  · exact .inl h
  · right
    obtain ⟨h1, h2⟩ := List.getElem?_eq_some_iff.1 h
    simp at h1 h2
    exact ⟨by omega, h2.symm⟩
/-- One thing more is begun. -/
theorem RStk.push {F : Nat → Prop} {B : Nat} {w w' : World} {sv sv' : Value} {fs : List Fr} {ps : List (Nat × Nat)} {vs : List Value} {t : Tr} {p : Nat × Nat} (h : RStk F B w sv fs ps vs) (hFB : ∀ g, F g → g < B) (hB : B ≤ w.heap.size) (hp : PT F w p.1 p.2 t)
    (hown : w'.ownsRow B 73 2 sv' (fs.length + 1) (rdc ps vs ++ [.pointer (some ⟨p.1, p.2, none⟩), .slice none 0 0])) (hg : w.grownBy w' sv.ownBlock) : RStk F B w' sv' (fs ++ [⟨t, []⟩]) (ps ++ [p]) (vs ++ [.slice none 0 0]) := by
  have k : Kept (fun g => sv.ownBlock = some g) w w' := (Kept.refl _ w).grown hg (fun k e _ => e)
  have hF : ∀ g, F g → g < w.heap.size ∧ ¬ sv.ownBlock = some g := fun g hg => ⟨by have := hFB g hg; omega, fun e => by have := hFB g hg; have := (h.own.lt g e).1; omega⟩
  refine ⟨by simp [h.len1], by simp [h.len2], ?_, fun i f q h1 h2 => ?_, fun i f v h1 h2 => ?_, fun i j v v' g h1 h2 h3 h4 => ?_⟩
  · rw [rdc_append _ _ (by rw [h.len1, h.len2]), List.length_append]
    exact hown
  · rcases get_last h1 with h1 | ⟨rfl, rfl⟩
    · rcases get_last h2 with h2 | ⟨rfl, rfl⟩
      · exact (h.ptr i f q h1 h2).kept k hF
      · have := (List.getElem?_eq_some_iff.1 h1).1
        rw [h.len1] at this
        omega
    · rcases get_last h2 with h2 | ⟨_, rfl⟩
      · have := (List.getElem?_eq_some_iff.1 h2).1
        rw [h.len1] at this
        omega
      · exact hp.kept k hF
  · rcases get_last h1 with h1 | ⟨rfl, rfl⟩
    · rcases get_last h2 with h2 | ⟨rfl, rfl⟩
      · exact k.own (h.txt i f v h1 h2) (fun g hg => fun e => row_apart (by decide) (h.txt i f v h1 h2) h.own hg e)
      · have := (List.getElem?_eq_some_iff.1 h1).1
        rw [h.len2] at this
        omega
    · rcases get_last h2 with h2 | ⟨_, rfl⟩
      · have := (List.getElem?_eq_some_iff.1 h2).1
        rw [h.len2] at this
        omega
      · exact World.ownsRow_nil _ _ _ _
  · rcases get_last h1 with h1 | ⟨_, rfl⟩
    · rcases get_last h2 with h2 | ⟨_, rfl⟩
      · exact h.apart i j v v' g h1 h2 h3 h4
      · simp [Value.ownBlock] at h4
    · simp [Value.ownBlock] at h3
/-- The topmost ends. -/
theorem RStk.pop {F : Nat → Prop} {B g cap n : Nat} {w : World} {fs : List Fr} {f : Fr} {ps : List (Nat × Nat)} {p : Nat × Nat} {vs : List Value} {v : Value} (h : RStk F B w (.slice (some ⟨g, 0, none⟩) (n + 1) cap) (fs ++ [f]) (ps ++ [p]) (vs ++ [v])) (hn : fs.length = n) :
    RStk F B w (.slice (some ⟨g, 0, none⟩) n cap) fs ps vs := by
  subst hn
  have l1 : ps.length = fs.length := by simpa using h.len1
  have l2 : vs.length = fs.length := by simpa using h.len2
  have up : ∀ {α : Type} {l : List α} {x y : α} {i : Nat}, l[i]? = some y → (l ++ [x])[i]? = some y := fun {α l x y i} hh => by
    rw [List.getElem?_append_left (List.getElem?_eq_some_iff.1 hh).1]
    exact hh
  refine ⟨l1, l2, ?_, fun i f p h1 h2 => h.ptr i f p (up h1) (up h2), fun i f v h1 h2 => h.txt i f v (up h1) (up h2), fun i j v v' g h1 h2 => h.apart i j v v' g (up h1) (up h2)⟩
  have := h.own
  rw [rdc_append _ _ (by omega), List.length_append] at this
  exact ownsRow_pop (by rw [rdc_length (by omega), l1]) this
/-- A text more in the topmost. -/
theorem RStk.add {F : Nat → Prop} {B g gs cap caps n H : Nat} {w w' : World} {fs : List Fr} {f : Fr} {ps : List (Nat × Nat)} {p : Nat × Nat} {vs : List Value} {v : Value} {x : List UInt8} (h : RStk F B w (.slice (some ⟨gs, 0, none⟩) (n + 1) caps) (fs ++ [f]) (ps ++ [p]) (vs ++ [v])) (hn : fs.length = n) (hFB : ∀ g, F g → g < B) (hB : B ≤ w.heap.size) (hH : w.heap.size = H)
    (hown : w'.ownsRow B 9 1 (.slice (some ⟨g, 0, none⟩) (f.texts.length + 1) cap) (f.texts.length + 1) (sc f.texts ++ [.string (str x)])) (hg : w.grownBy w' v.ownBlock) (hat : v.ownBlock = some g ∨ g = H) :
    w'.cell? ⟨gs, n * 2 + 1, none⟩ = some v ∧ w'.frozen? ⟨gs, n * 2 + 1, none⟩ = false ∧
    RStk F B (w'.setCell ⟨gs, n * 2 + 1, none⟩ (.slice (some ⟨g, 0, none⟩) (f.texts.length + 1) cap)) (.slice (some ⟨gs, 0, none⟩) (n + 1) caps) (fs ++ [⟨f.tree, f.texts ++ [x]⟩]) (ps ++ [p]) (vs ++ [.slice (some ⟨g, 0, none⟩) (f.texts.length + 1) cap]) ∧
    Below B w (w'.setCell ⟨gs, n * 2 + 1, none⟩ (.slice (some ⟨g, 0, none⟩) (f.texts.length + 1) cap)) := by
  subst hn
  have l1 : ps.length = fs.length := by simpa using h.len1
  have l2 : vs.length = fs.length := by simpa using h.len2
  have hf : (fs ++ [f])[fs.length]? = some f := by simp
  have hv : (vs ++ [v])[fs.length]? = some v := by rw [← l2]; simp
  have hpp : (ps ++ [p])[fs.length]? = some p := by rw [← l1]; simp
  have ht := h.txt _ _ _ hf hv
  have K1 : Kept (fun k => v.ownBlock = some k) w w' := (Kept.refl _ w).grown hg (fun k e _ => e)
  have ho := h.own
  have hls : (fs ++ [f]).length = fs.length + 1 := by simp
  rw [hls] at ho
  have hne : ∀ k, v.ownBlock = some k → k ≠ gs := fun k e1 e2 => row_apart (by decide) ht ho e1 (by rw [e2]; rfl)
  have ho' := K1.own ho (fun k hk e => by simp [Value.ownBlock] at hk; exact hne k e hk.symm)
  have hst := ho'.stored (fs.length * 2 + 1) (.slice (some ⟨g, 0, none⟩) (f.texts.length + 1) cap)
  have K2 : Kept (fun k => k = gs) w' (w'.setCell ⟨gs, fs.length * 2 + 1, none⟩ (.slice (some ⟨g, 0, none⟩) (f.texts.length + 1) cap)) := (Kept.refl _ w').grown hst.2 (fun k e _ => by simp at e; exact e.symm)
  have hgB : B ≤ gs := (ho.lt gs rfl).1
  have hF1 : ∀ k, F k → k < w.heap.size ∧ ¬ v.ownBlock = some k := fun k hk => ⟨by have := hFB k hk; omega, fun e => by have := hFB k hk; have := (ht.lt k e).1; omega⟩
  have hF2 : ∀ k, F k → k < w'.heap.size ∧ ¬ k = gs := fun k hk => ⟨by have := hFB k hk; have := K1.size; omega, fun e => by have := hFB k hk; omega⟩
  have lo : ∀ {α : Type} {l : List α} {x y : α} {i : Nat}, i < l.length → (l ++ [x])[i]? = some y → ∀ z, (l ++ [z])[i]? = some y := fun {α l x y i} hi hh z => by
    rw [List.getElem?_append_left hi] at hh ⊢
    exact hh
  refine ⟨?_, ho'.frozenAt _, ⟨by simp [l1], by simp [l2], ?_, fun i f' q h1 h2 => ?_, fun i f' u h1 h2 => ?_, fun i j u u' k h1 h2 h3 h4 => ?_⟩, ?_⟩
  · rw [ho'.cellAt _ (by omega), rdc_append _ _ (by omega), List.getElem?_append_right (by rw [rdc_length (by omega)]; omega), rdc_length (by omega), l1, show fs.length * 2 + 1 - fs.length * 2 = 1 from by omega]
    rfl
  · have := hst.1
    rw [rdc_append _ _ (by omega), List.set_append_right _ _ (by rw [rdc_length (by omega)]; omega), rdc_length (by omega), l1, show fs.length * 2 + 1 - fs.length * 2 = 1 from by omega] at this
    rw [rdc_append _ _ (by omega), List.length_append]
    exact this
  · rcases get_last h1 with h1' | ⟨rfl, rfl⟩
    · have hi := (List.getElem?_eq_some_iff.1 h1').1
      exact ((h.ptr i f' q (lo hi h1 _) h2).kept K1 hF1).kept K2 hF2
    · rw [hpp] at h2
      cases h2
      exact ((h.ptr _ f p hf hpp).kept K1 hF1).kept K2 hF2
  · rcases get_last h1 with h1' | ⟨rfl, rfl⟩
    · have hi := (List.getElem?_eq_some_iff.1 h1').1
      rcases get_last h2 with h2' | ⟨rfl, _⟩
      · have hi2 := (List.getElem?_eq_some_iff.1 h2').1
        have hr := h.txt i f' u (lo hi h1 _) (lo hi2 h2 _)
        have hr1 := K1.own hr (fun k hk e => by
          have := h.apart i fs.length u v k (lo hi2 h2 _) hv hk e
          omega)
        exact K2.own hr1 (fun k hk e => row_apart (by decide) hr1 ho' hk (by rw [e]; rfl))
      · omega
    · rcases get_last h2 with h2' | ⟨_, rfl⟩
      · have := (List.getElem?_eq_some_iff.1 h2').1
        omega
      · simp only [List.length_append, List.length_singleton]
        rw [sc_append]
        exact K2.own hown (fun k hk e => row_apart (by decide) hown ho' hk (by rw [e]; rfl))
  · have hnew : ∀ (i : Nat) (u : Value) (k : Nat), vs[i]? = some u → u.ownBlock = some k → k ≠ g := by
      intro i u k hu hk e
      subst e
      have hi := (List.getElem?_eq_some_iff.1 hu).1
      have hu' : (vs ++ [v])[i]? = some u := by rw [List.getElem?_append_left hi]; exact hu
      rcases hat with q | q
      · have := h.apart i fs.length u v k hu' hv hk q
        omega
      · have hfi : (fs ++ [f])[i]? = some fs[i] := by rw [List.getElem?_append_left (by omega), List.getElem?_eq_getElem]
        have := ((h.txt i fs[i] u hfi hu').lt k hk).2
        omega
    rcases get_last h1 with h1' | ⟨e1, rfl⟩
    · rcases get_last h2 with h2' | ⟨e2, rfl⟩
      · have hi := (List.getElem?_eq_some_iff.1 h1').1
        have hj := (List.getElem?_eq_some_iff.1 h2').1
        exact h.apart i j u u' k (lo hi h1 _) (lo hj h2 _) h3 h4
      · simp [Value.ownBlock] at h4
        exact absurd h4.symm (hnew i u k h1' h3)
    · rcases get_last h2 with h2' | ⟨e2, rfl⟩
      · simp [Value.ownBlock] at h3
        exact absurd h3.symm (hnew j u' k h2' h4)
      · omega
  · exact (K1.below hB (fun k hk e => by have := (ht.lt k e).1; omega)).trans (K2.below (by have := K1.size; omega) (fun k hk e => by omega))
end Go.Proofs.YtcjlifhehiolkaaGreat
