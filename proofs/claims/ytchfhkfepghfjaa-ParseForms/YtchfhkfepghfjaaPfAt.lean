/-
  The machine comes to what the chapter says: an expression is filled in where it belongs.
  And: What is refused has a number. No program in it.
-/
import Derived.Test.YtchfhkfepghfjaaPfAs
namespace Go.Proofs.Ytchfhkfepghfjaa
open Go.RowKit

theorem seqP_cons_ok {α : Type} {r : PR α} {l : List (PR α)} {x : α} {xs : List α} (h1 : r = .ok x) (h2 : seqP l = .ok xs) : seqP (r :: l) = .ok (x :: xs) := by
  subst h1
  simp [seqP, h2]
theorem seqP_cons_err {α : Type} {r : PR α} {l : List (PR α)} {x : α} {e : Nat × Nat} (h1 : r = .ok x) (h2 : seqP l = .error e) : seqP (r :: l) = .error e := by
  subst h1
  simp [seqP, h2]
theorem seqP_cons_no {α : Type} {r : PR α} {l : List (PR α)} {e : Nat × Nat} (h1 : r = .error e) : seqP (r :: l) = .error e := by
  subst h1
  rfl
abbrev Dn : Type := Ex × Value × Value × Value
def rowX (l : List Dn) : List Value := l.flatMap (fun x => exc x.1 x.2.1 x.2.2.1 x.2.2.2)
theorem rowX_length : ∀ l : List Dn, (rowX l).length = l.length * 9
  | [] => rfl
  | x :: l => by
    have := rowX_length l
    simp only [rowX, List.flatMap_cons, List.length_append, List.length_cons] at this ⊢
    rw [this, show (exc x.1 x.2.1 x.2.2.1 x.2.2.2).length = 9 from rfl]
    omega
theorem rowX_append (a b : List Dn) : rowX (a ++ b) = rowX a ++ rowX b := by simp [rowX]
theorem rowX_one (x : Dn) : rowX [x] = exc x.1 x.2.1 x.2.2.1 x.2.2.2 := by simp [rowX]
theorem rowX_get : ∀ (l : List Dn) (i j : Nat) (x : Dn), l[i]? = some x → j < 9 → (rowX l)[i * 9 + j]? = (exc x.1 x.2.1 x.2.2.1 x.2.2.2)[j]?
  | [], i, _, _, h, _ => by simp at h
  | y :: l, 0, j, x, h, hj => by
    simp at h
    subst h
    simp only [rowX, List.flatMap_cons, Nat.zero_mul, Nat.zero_add]
    exact List.getElem?_append_left hj
  | y :: l, i + 1, j, x, h, hj => by
    have := rowX_get l i j x (by simpa using h) hj
    simp only [rowX, List.flatMap_cons] at this ⊢
    rw [List.getElem?_append_right (show 9 ≤ _ by omega), ← this]
    congr 1
    show (i + 1) * 9 + j - 9 = i * 9 + j
    omega
abbrev Da : Type := (List UInt8 × List (List UInt8)) × Value × Dn
def armc (x : Da) : List Value := .string (str x.1.1) :: x.2.1 :: exc x.2.2.1 x.2.2.2.1 x.2.2.2.2.1 x.2.2.2.2.2
def rowA (l : List Da) : List Value := l.flatMap armc
theorem rowA_length : ∀ l : List Da, (rowA l).length = l.length * 11
  | [] => rfl
  | x :: l => by
    have := rowA_length l
    simp only [rowA, List.flatMap_cons, List.length_append, List.length_cons] at this ⊢
    rw [this, show (armc x).length = 11 from rfl]
    omega
theorem rowA_append (a b : List Da) : rowA (a ++ b) = rowA a ++ rowA b := by simp [rowA]
theorem rowA_one (x : Da) : rowA [x] = armc x := by simp [rowA]
theorem rowA_get : ∀ (l : List Da) (i j : Nat) (x : Da), l[i]? = some x → j < 11 → (rowA l)[i * 11 + j]? = (armc x)[j]?
  | [], i, _, _, h, _ => by simp at h
  | y :: l, 0, j, x, h, hj => by
    simp at h
    subst h
    simp only [rowA, List.flatMap_cons, Nat.zero_mul, Nat.zero_add]
    exact List.getElem?_append_left hj
  | y :: l, i + 1, j, x, h, hj => by
    have := rowA_get l i j x (by simpa using h) hj
    simp only [rowA, List.flatMap_cons] at this ⊢
    rw [List.getElem?_append_right (show 11 ≤ _ by omega), ← this]
    congr 1
    show (i + 1) * 11 + j - 11 = i * 11 + j
    omega
/-- What a tree is read qs comes to its place, whatever is left besides. -/
def FillP (F : Nat → Prop) (rb : Nat) (m : List UInt8) (t : Tr) : Prop := ∀ (Fin : World → Value → Prop) (FinE : World → Value → Nat × Nat → Prop) (n : Nat) (u : World) (tv : Value) (ps0 : List Pt) (tg tj d : Nat) (pre post : List Value) (T : Nat),
  MS F rb m u tv (ps0 ++ [⟨tg, tj, t, false, d, pre.length⟩]) → At u d pre exz post T → T ≠ 72 → rb < d →
  (∀ u' tv' e kv pv av, exprP m t = .ok e → At u' d pre (exc e kv pv av) post T → XI (FN u.heap.size u') u' kv pv av e → Ev rb d u u' → MS F rb m u' tv' ps0 → Good F rb m Fin FinE n u' tv' ps0) →
  (∀ u' tv' e, exprP m t = .error e → DIs u' rb m tv' (some e) → Ow rb u' tv' → Ev rb d u u' → (∃ X, NineC X ∧ At u' d pre X post T) → FinE u' tv' e) →
  Good F rb m Fin FinE (n + nodes t) u tv (ps0 ++ [⟨tg, tj, t, false, d, pre.length⟩])
theorem XI.ev {lo rb d : Nat} {u v : World} {kv pv av : Value} {e : Ex} (h : XI (FN lo u) u kv pv av e) (k : Ev rb d u v) (hr : rb < lo) (hd : d < lo) : XI (FN lo v) v kv pv av e :=
  h.frame fun g hg => FN.ev k hr hg (by have := hg.1; omega)
theorem fillL {F : Nat → Prop} {rb : Nat} {m : List UInt8} {Fin : World → Value → Prop} {FinE : World → Value → Nat × Nat → Prop} (g lo : Nat) (hrg : rb < g) (hgl : g < lo) :
    ∀ (kps : List Pt) (dn : List Dn) (n : Nat) (u : World) (tv : Value) (ps0 : List Pt), (∀ p ∈ kps, FillP F rb m p.tree) →
    (∀ (i : Nat) p, kps[i]? = some p → p.arm = false ∧ p.dg = g ∧ p.dj = (dn.length + i) * 9) → MS F rb m u tv (ps0 ++ kps.reverse) → At u g (rowX dn) (zeros exz kps.length) [] 36 → lo ≤ u.heap.size →
    (∀ x ∈ dn, XI (FN lo u) u x.2.1 x.2.2.1 x.2.2.2 x.1) →
    (∀ u' tv' dn' , seqP (kps.map (fun p => exprP m p.tree)) = .ok (dn'.map (·.1)) → At u' g (rowX (dn ++ dn')) [] [] 36 → (∀ x ∈ dn ++ dn', XI (FN lo u') u' x.2.1 x.2.2.1 x.2.2.2 x.1) → Ev rb g u u' → MS F rb m u' tv' ps0 → Good F rb m Fin FinE n u' tv' ps0) →
    (∀ u' tv' e, seqP (kps.map (fun p => exprP m p.tree)) = .error e → DIs u' rb m tv' (some e) → Ow rb u' tv' → Ev rb g u u' → FinE u' tv' e) →
    Good F rb m Fin FinE (n + (kps.map (fun p => nodes p.tree)).sum) u tv (ps0 ++ kps.reverse) := by
  intro kps
  induction kps with
  | nil =>
    intro dn n u tv ps0 _ _ hM hA _ hX hok _
    have := hok u tv [] rfl (by simpa [zeros] using hA) (by simpa using hX) (Ev.refl _ _ _) (by simpa using hM)
    simpa using this
  | cons p r ih =>
    intro dn n u tv ps0 hF hp hM hA hlo hX hok herr
    obtain ⟨tg, tj, t, arm, dg, dj⟩ := p
    obtain ⟨e1, e2, e3⟩ := hp 0 _ rfl
    simp only at e1 e2 e3
    subst e1 e2
    have e4 : dj = (rowX dn).length := by rw [rowX_length, e3, Nat.add_zero]
    subst e4
    have hrev : ps0 ++ (⟨tg, tj, t, false, dg, (rowX dn).length⟩ :: r : List Pt).reverse = (ps0 ++ r.reverse) ++ [⟨tg, tj, t, false, dg, (rowX dn).length⟩] := by simp
    rw [hrev] at hM ⊢
    have hsum : n + ((⟨tg, tj, t, false, dg, (rowX dn).length⟩ :: r : List Pt).map (fun p => nodes p.tree)).sum = (n + (r.map (fun p => nodes p.tree)).sum) + nodes t := by simp; omega
    rw [hsum]
    have hA' : At u dg (rowX dn) exz (zeros exz r.length) 36 := by
      unfold At at hA ⊢
      rw [hA, List.length_cons, zeros_succ, List.append_nil, ← List.append_assoc]
    refine hF _ (List.mem_cons_self ..) Fin FinE (n + (r.map (fun p => nodes p.tree)).sum) u tv (ps0 ++ r.reverse) tg tj dg (rowX dn) (zeros exz r.length) 36 hM hA' (by decide) hrg ?_ ?_
    · intro u1 tv1 e kv pv av h1 h2 h3 h4 h5
      refine ih (dn ++ [(e, kv, pv, av)]) n u1 tv1 ps0 (fun q hq => hF q (List.mem_cons_of_mem _ hq)) ?_ h5 ?_ (Nat.le_trans hlo h4.size) ?_ ?_ ?_
      · intro i q hq
        obtain ⟨q1, q2, q3⟩ := hp (i + 1) q (by simpa using hq)
        refine ⟨q1, q2, ?_⟩
        rw [q3, List.length_append, List.length_singleton]
        congr 1
        omega
      · unfold At at h2 ⊢
        rw [h2, rowX_append, rowX_one, List.append_nil]
      · intro x hx
        rcases List.mem_append.1 hx with hx | hx
        · exact (hX x hx).ev h4 (by omega) hgl
        · simp only [List.mem_singleton] at hx
          subst hx
          exact h3.frame fun g hg => ⟨hg.mono hlo, rfl⟩
      · intro u' tv' dn' k1 k2 k3 k4 k5
        refine hok u' tv' ((e, kv, pv, av) :: dn') ?_ ?_ ?_ (h4.trans k4 (.inl rfl)) k5
        · exact seqP_cons_ok h1 k1
        · simpa using k2
        · simpa using k3
      · intro u' tv' e' k1 k2 k3 k4
        exact herr u' tv' e' (seqP_cons_err h1 k1) k2 k3 (h4.trans k4 (.inl rfl))
    · intro u1 tv1 e h1 h2 h3 h4 _
      exact herr u1 tv1 e (seqP_cons_no h1) h2 h3 h4
theorem seqP_len {α : Type} : ∀ {l : List (PR α)} {xs : List α}, seqP l = .ok xs → xs.length = l.length
  | [], xs, h => by cases h; rfl
  | .error e :: l, xs, h => by cases h
  | .ok x :: l, xs, h => by
    simp only [seqP] at h
    cases h2 : seqP l with
    | error e => rw [h2] at h; cases h
    | ok ys =>
      rw [h2] at h
      cases h
      simp [seqP_len h2]
/-- Kids are read, in their order. -/
theorem fillK {F : Nat → Prop} {rb : Nat} {m : List UInt8} {Fin : World → Value → Prop} {FinE : World → Value → Nat × Nat → Prop} (n lo : Nat) (u : World) (tv : Value) (ps0 : List Pt) (kv : Value) (kg : Nat) (ks : List Tr) (kps : List Pt)
    (hK : Kd rb lo u exz 36 false kv kg ks kps) (hr : rb < lo) (hM : MS F rb m u tv (ps0 ++ kps.reverse)) (hF : ∀ k ∈ ks, FillP F rb m k)
    (hok : ∀ u' tv' kids, seqP (ks.map (exprP m)) = .ok kids → XK (fun k => FN lo u' k ∧ (k = kg ∨ u.heap.size ≤ k)) u' kv kids → Ev rb kg u u' → MS F rb m u' tv' ps0 → Good F rb m Fin FinE n u' tv' ps0)
    (herr : ∀ u' tv' e, seqP (ks.map (exprP m)) = .error e → DIs u' rb m tv' (some e) → Ow rb u' tv' → Ev rb kg u u' → FinE u' tv' e) :
    Good F rb m Fin FinE (n + (ks.map nodes).sum) u tv (ps0 ++ kps.reverse) := by
  rcases hK with ⟨rfl, rfl, rfl, a, c, rfl⟩ | ⟨cap, rfl, hlo, hA, hmap, hp⟩
  · have := hok u tv [] rfl (.inl ⟨a, c, rfl, rfl⟩) (Ev.refl _ _ _) (by simpa using hM)
    simpa using this
  · have hlen : kps.length = ks.length := by rw [← hmap]; simp
    have e1 : kps.map (fun p => exprP m p.tree) = ks.map (exprP m) := by rw [← hmap]; simp
    have e2 : kps.map (fun p => nodes p.tree) = ks.map nodes := by rw [← hmap, List.map_map]; rfl
    rw [← e2]
    have hgl : kg < u.heap.size := hA.lt
    refine fillL kg u.heap.size (by omega) hgl kps [] n u tv ps0 (fun p hp => hF _ (by rw [← hmap]; exact List.mem_map_of_mem hp)) (fun i p h => by have := hp i p h; simpa [show exz.length = 9 from rfl] using this) hM ?_ (Nat.le_refl _) (by simp) ?_ ?_
    · rw [hlen]
      exact hA
    · intro u' tv' dn' k1 k2 k3 k4 k5
      rw [e1] at k1
      refine hok u' tv' (dn'.map (·.1)) k1 ?_ k4 k5
      have hl := seqP_len k1
      simp only [List.length_map] at hl
      have hnp := k2.np (by decide)
      have hkl := k2.lt
      refine .inr ⟨kg, 0, cap, by rw [List.length_map, hl], ⟨⟨hlo, hkl, hnp⟩, .inl rfl⟩, fun i hi => ?_⟩
      simp only [List.length_map] at hi
      refine ⟨dn'[i].2.1, dn'[i].2.2.1, dn'[i].2.2.2, ?_, fun j v hj => ?_⟩
      · have := (k3 dn'[i] (by simp)).frame (G := fun k => FN lo u' k ∧ (k = kg ∨ u.heap.size ≤ k)) (w' := u') fun g hg => ⟨⟨hg.mono (by omega), .inr hg.1⟩, rfl⟩
        simpa using this
      · have hj9 : j < 9 := (List.getElem?_eq_some_iff.1 hj).1
        simp only [List.getElem_map] at hj
        have h0 := rowX_get dn' i j dn'[i] (List.getElem?_eq_getElem hi) hj9
        rw [hj] at h0
        have h1 := At.cell (pre := []) (xs := rowX dn') (post := []) (T := 36) (u := u') (d := kg) (by simpa [At] using k2) h0
        simpa using h1
    · intro u' tv' e k1 k2 k3 k4
      rw [e1] at k1
      exact herr u' tv' e k1 k2 k3 k4
theorem fillAL {F : Nat → Prop} {rb : Nat} {m : List UInt8} {Fin : World → Value → Prop} {FinE : World → Value → Nat × Nat → Prop} (g lo : Nat) (hrg : rb < g) (hgl : g < lo) :
    ∀ (kps : List Pt) (dn : List Da) (n : Nat) (u : World) (tv : Value) (ps0 : List Pt), (∀ p ∈ kps, FillP F rb m (kid p.tree 1)) →
    (∀ (i : Nat) p, kps[i]? = some p → p.arm = true ∧ p.dg = g ∧ p.dj = (dn.length + i) * 11) → At u g (rowA dn) (zeros arz kps.length) [] 84 → lo ≤ u.heap.size → MS F rb m u tv (ps0 ++ kps.reverse) →
    (∀ x ∈ dn, XI (FN lo u) u x.2.2.2.1 x.2.2.2.2.1 x.2.2.2.2.2 x.2.2.1 ∧ TxR (FN lo u) u x.2.1 x.1.2) →
    (∀ u' tv' dn' , seqP (kps.map (fun p => armX m p.tree)) = .ok (dn'.map (fun x => (x.1, x.2.2.1))) → At u' g (rowA (dn ++ dn')) [] [] 84 → (∀ x ∈ dn ++ dn', XI (FN lo u') u' x.2.2.2.1 x.2.2.2.2.1 x.2.2.2.2.2 x.2.2.1 ∧ TxR (FN lo u') u' x.2.1 x.1.2) → Ev rb g u u' → MS F rb m u' tv' ps0 → Good F rb m Fin FinE n u' tv' ps0) →
    (∀ u' tv' e, seqP (kps.map (fun p => armX m p.tree)) = .error e → DIs u' rb m tv' (some e) → Ow rb u' tv' → Ev rb g u u' → FinE u' tv' e) →
    Good F rb m Fin FinE (n + (kps.map (fun p => nodes p.tree)).sum) u tv (ps0 ++ kps.reverse) := by
  intro kps
  induction kps with
  | nil =>
    intro dn n u tv ps0 _ _ hA _ hM hX hok _
    have := hok u tv [] rfl (by simpa [zeros] using hA) (by simpa using hX) (Ev.refl _ _ _) (by simpa using hM)
    simpa using this
  | cons p r ih =>
    intro dn n u tv ps0 hF hp hA hlo hM hX hok herr
    obtain ⟨tg, tj, t, arm, dg, dj⟩ := p
    obtain ⟨e1, e2, e3⟩ := hp 0 _ rfl
    simp only at e1 e2 e3
    subst e1 e2
    have e4 : dj = (rowA dn).length := by rw [rowA_length, e3, Nat.add_zero]
    subst e4
    have hrev : ps0 ++ (⟨tg, tj, t, true, dg, (rowA dn).length⟩ :: r : List Pt).reverse = (ps0 ++ r.reverse) ++ [⟨tg, tj, t, true, dg, (rowA dn).length⟩] := by simp
    rw [hrev]
    have hn1 := nodes_eq t
    obtain ⟨K, hK⟩ : ∃ K, n + ((⟨tg, tj, t, true, dg, (rowA dn).length⟩ :: r : List Pt).map (fun p => nodes p.tree)).sum = K + 1 := ⟨n + (r.map (fun p => nodes p.tree)).sum + (t.kids.map nodes).sum, by simp; omega⟩
    have hK' : K = n + (r.map (fun p => nodes p.tree)).sum + (t.kids.map nodes).sum := by simp at hK; omega
    rw [hK]
    have hA' : At u dg (rowA dn) arz (zeros arz r.length) 84 := by
      unfold At at hA ⊢
      rw [hA, List.length_cons, zeros_succ, List.append_nil, ← List.append_assoc]
    refine .inr ⟨_, _, rowA dn, zeros arz r.length, 84, rfl, ⟨by simpa using hA', rfl, by decide, hrg⟩, ?_, ?_⟩
    · intro u1 tv1 new hs
      simp only [StepX, if_true] at hs
      obtain ⟨c, vs, vv, tg', tj', s1, s2, s3, s4, s5, rfl⟩ := hs
      simp only at s1 s2 s3 s4
      have hkl : t.kids.length = 2 := by
        unfold armHead at s1
        split at s1
        · cases s1
        · omega
      have hkn : nodes (kid t 1) ≤ (t.kids.map nodes).sum := mem_nodes (kid_mem (by omega))
      refine Good.mono (n := n + (r.map (fun p => nodes p.tree)).sum + nodes (kid t 1)) ?_ (by omega)
      have hpl : (rowA dn ++ [.string (str c), vv]).length = (rowA dn).length + 2 := by simp
      have hA1 : At u1 dg (rowA dn ++ [.string (str c), vv]) exz (zeros arz r.length) 84 := by
        unfold At at s4 ⊢
        rw [s4]
        simp
      rw [← hpl] at s2 ⊢
      refine hF _ (List.mem_cons_self ..) Fin FinE (n + (r.map (fun p => nodes p.tree)).sum) u1 tv1 (ps0 ++ r.reverse) tg' tj' dg (rowA dn ++ [.string (str c), vv]) (zeros arz r.length) 84 s2 hA1 (by decide) hrg ?_ ?_
      · intro u2 tv2 e kv pv av h1 h2 h3 h4 h5
        have hE := s3.trans h4 (.inl rfl)
        refine ih (dn ++ [((c, vs), vv, e, kv, pv, av)]) n u2 tv2 ps0 (fun q hq => hF q (List.mem_cons_of_mem _ hq)) ?_ ?_ (Nat.le_trans hlo hE.size) h5 ?_ ?_ ?_
        · intro i q hq
          obtain ⟨q1, q2, q3⟩ := hp (i + 1) q (by simpa using hq)
          refine ⟨q1, q2, ?_⟩
          rw [q3, List.length_append, List.length_singleton]
          congr 1
          omega
        · unfold At at h2 ⊢
          rw [h2, rowA_append, rowA_one]
          simp [armc]
        · intro x hx
          rcases List.mem_append.1 hx with hx | hx
          · exact ⟨(hX x hx).1.ev hE (by omega) hgl, (hX x hx).2.frame fun g hg => FN.ev hE (by omega) hg (by have := hg.1; omega)⟩
          · simp only [List.mem_singleton] at hx
            subst hx
            have := s3.size
            refine ⟨h3.frame fun g hg => ⟨hg.mono (by omega), rfl⟩, ?_⟩
            have hv : TxR (FN lo u1) u1 vv vs := s5.frame fun g hg => ⟨hg.mono hlo, rfl⟩
            exact hv.frame fun g hg => FN.ev h4 (by omega) hg (by have := hg.1; omega)
        · intro u' tv' dn' k1 k2 k3 k4 k5
          refine hok u' tv' (((c, vs), vv, e, kv, pv, av) :: dn') ?_ ?_ ?_ (hE.trans k4 (.inl rfl)) k5
          · refine seqP_cons_ok ?_ k1
            simp only
            rw [armX_head, s1, bind_ok, h1, bind_ok]
          · simpa using k2
          · simpa using k3
        · intro u' tv' e' k1 k2 k3 k4
          refine herr u' tv' e' (seqP_cons_err (x := ((c, vs), e)) ?_ k1) k2 k3 (hE.trans k4 (.inl rfl))
          simp only
          rw [armX_head, s1, bind_ok, h1, bind_ok]
      · intro u2 tv2 e h1 h2 h3 h4 _
        refine herr u2 tv2 e (seqP_cons_no ?_) h2 h3 (s3.trans h4 (.inl rfl))
        simp only
        rw [armX_head, s1, bind_ok, h1, bind_error]
    · intro u1 tv1 e hs
      obtain ⟨s1, s2, s3, s4, _⟩ := hs
      simp only [specErr, if_true] at s1
      refine herr u1 tv1 e (seqP_cons_no ?_) s2 s3 s4
      simp only
      rw [armX_head, s1, bind_error]
/-- Arms are read, in their order. -/
theorem fillA {F : Nat → Prop} {rb : Nat} {m : List UInt8} {Fin : World → Value → Prop} {FinE : World → Value → Nat × Nat → Prop} (n lo : Nat) (u : World) (tv : Value) (ps0 : List Pt) (kv : Value) (kg : Nat) (ks : List Tr) (kps : List Pt)
    (hK : Kd rb lo u arz 84 true kv kg ks kps) (hr : rb < lo) (hM : MS F rb m u tv (ps0 ++ kps.reverse)) (hF : ∀ k ∈ ks, FillP F rb m (kid k 1))
    (hok : ∀ u' tv' qs, seqP (ks.map (armX m)) = .ok qs → XA (fun k => FN lo u' k ∧ (k = kg ∨ u.heap.size ≤ k)) u' kv (qs.map (·.1)) (qs.map (·.2)) → Ev rb kg u u' → MS F rb m u' tv' ps0 → Good F rb m Fin FinE n u' tv' ps0)
    (herr : ∀ u' tv' e, seqP (ks.map (armX m)) = .error e → DIs u' rb m tv' (some e) → Ow rb u' tv' → Ev rb kg u u' → FinE u' tv' e) :
    Good F rb m Fin FinE (n + (ks.map nodes).sum) u tv (ps0 ++ kps.reverse) := by
  rcases hK with ⟨rfl, rfl, rfl, a, c, rfl⟩ | ⟨cap, rfl, hlo, hA, hmap, hp⟩
  · have := hok u tv [] rfl ⟨rfl, .inl ⟨a, c, rfl, rfl⟩⟩ (Ev.refl _ _ _) (by simpa using hM)
    simpa using this
  · have hlen : kps.length = ks.length := by rw [← hmap]; simp
    have e1 : kps.map (fun p => armX m p.tree) = ks.map (armX m) := by rw [← hmap]; simp
    have e2 : kps.map (fun p => nodes p.tree) = ks.map nodes := by rw [← hmap, List.map_map]; rfl
    rw [← e2]
    have hgl : kg < u.heap.size := hA.lt
    refine fillAL kg u.heap.size (by omega) hgl kps [] n u tv ps0 (fun p hp => hF _ (by rw [← hmap]; exact List.mem_map_of_mem hp)) (fun i p h => by have := hp i p h; simpa [show arz.length = 11 from rfl] using this) ?_ (Nat.le_refl _) hM (by simp) ?_ ?_
    · rw [hlen]
      exact hA
    · intro u' tv' dn' k1 k2 k3 k4 k5
      rw [e1] at k1
      refine hok u' tv' _ k1 ?_ k4 k5
      have hl := seqP_len k1
      simp only [List.length_map] at hl
      have hnp := k2.np (by decide)
      have hkl := k2.lt
      refine ⟨by simp, .inr ⟨kg, 0, cap, by simp [hl], ⟨⟨hlo, hkl, hnp⟩, .inl rfl⟩, fun i hi => ?_⟩⟩
      simp only [List.length_map] at hi
      refine ⟨dn'[i].2.1, dn'[i].2.2.2.1, dn'[i].2.2.2.2.1, dn'[i].2.2.2.2.2, ?_, ?_, fun j v hj => ?_⟩
      · have := (k3 dn'[i] (by simp)).1.frame (G := fun k => FN lo u' k ∧ (k = kg ∨ u.heap.size ≤ k)) (w' := u') fun g hg => ⟨⟨hg.mono (by omega), .inr hg.1⟩, rfl⟩
        simpa using this
      · have := (k3 dn'[i] (by simp)).2.frame (G := fun k => FN lo u' k ∧ (k = kg ∨ u.heap.size ≤ k)) (w' := u') fun g hg => ⟨⟨hg.mono (by omega), .inr hg.1⟩, rfl⟩
        simpa [List.getD_eq_getElem?_getD, hi] using this
      · have hj11 : j < 11 := by
          have := (List.getElem?_eq_some_iff.1 hj).1
          simpa [exc] using this
        have h0 := rowA_get dn' i j dn'[i] (List.getElem?_eq_getElem hi) hj11
        have hj' : (armc dn'[i])[j]? = some v := by
          rw [← hj]
          simp [armc, List.getD_eq_getElem?_getD, hi]
        rw [hj'] at h0
        have h1 := At.cell (pre := []) (xs := rowA dn') (post := []) (T := 84) (u := u') (d := kg) (by simpa [At] using k2) h0
        simpa using h1
    · intro u' tv' e k1 k2 k3 k4
      rw [e1] at k1
      exact herr u' tv' e k1 k2 k3 k4
theorem sum_drop (l : List Tr) (n : Nat) : ((l.drop n).map nodes).sum ≤ (l.map nodes).sum := by
  have := congrArg (fun x => (x.map nodes).sum) (List.take_append_drop n l)
  simp only [List.map_append, List.sum_append] at this
  omega
theorem mem_drop_kid {t : Tr} {n : Nat} {k : Tr} (h : k ∈ t.kids.drop n) : k ∈ t.kids := List.mem_of_mem_drop h
theorem kindH_nine {h : List UInt8} {n k : Nat} (e : kindH h n k = 9) : 3 ≤ n := by
  unfold kindH at e
  by_cases c : h = matchK ∧ 3 ≤ n
  · exact c.2
  rw [if_neg c] at e
  by_cases c1 : h = letK ∧ n = 4 ∧ k = 3
  · rw [if_pos c1] at e; cases e
  rw [if_neg c1] at e
  by_cases c2 : h = ifK ∧ n = 4
  · rw [if_pos c2] at e; cases e
  rw [if_neg c2] at e
  by_cases c3 : h = arrayL ∧ 2 ≤ n
  · rw [if_pos c3] at e; cases e
  rw [if_neg c3] at e
  by_cases c4 : h = fnL ∧ n = 4 ∧ k = 1
  · rw [if_pos c4] at e; cases e
  rw [if_neg c4] at e
  by_cases c5 : h = callK ∧ 2 ≤ n
  · rw [if_pos c5] at e; cases e
  rw [if_neg c5] at e
  by_cases c6 : isOp h = true
  · rw [if_pos c6] at e; cases e
  rw [if_neg c6] at e
  by_cases c7 : isKey h = true
  · rw [if_pos c7] at e; cases e
  rw [if_neg c7] at e
  by_cases c8 : pathB h = true
  · rw [if_pos c8] at e; cases e
  rw [if_neg c8] at e
  by_cases c9 : pathV h = true
  · rw [if_pos c9] at e; cases e
  rw [if_neg c9] at e
  cases e
theorem kindX_nine {t : Tr} (e : kindX t = 9) : 3 ≤ t.kids.length := by
  unfold kindX at e
  by_cases c1 : t.kind = 4
  · rw [if_pos c1] at e; cases e
  rw [if_neg c1] at e
  by_cases c2 : t.kind = 1
  · rw [if_pos c2] at e
    exact kindH_nine e
  rw [if_neg c2] at e
  by_cases c3 : t.kind = 3
  · rw [if_pos c3] at e
    by_cases c4 : (numP t.text).isSome = true
    · rw [if_pos c4] at e; cases e
    rw [if_neg c4] at e
    by_cases c5 : pathV t.text = true
    · rw [if_pos c5] at e; cases e
    rw [if_neg c5] at e
    cases e
  rw [if_neg c3] at e
  cases e
/-- What is left of a tree lies in it. -/
theorem shape_in {m : List UInt8} {t : Tr} {e0 : Ex} {ks qs : List Tr} (h : shapeP m t = .ok (e0, ks, qs)) : (∀ k ∈ ks ++ qs, k ∈ t.kids) ∧ (ks.map nodes).sum + (qs.map nodes).sum ≤ (t.kids.map nodes).sum ∧ ks.length + qs.length ≤ t.kids.length := by
  have base : ∀ n, (∀ k ∈ t.kids.drop n ++ ([] : List Tr), k ∈ t.kids) ∧ ((t.kids.drop n).map nodes).sum + (([] : List Tr).map nodes).sum ≤ (t.kids.map nodes).sum ∧ (t.kids.drop n).length + ([] : List Tr).length ≤ t.kids.length := fun n =>
    ⟨fun k hk => mem_drop_kid (by simpa using hk), by have := sum_drop t.kids n; simpa using this, by simp⟩
  have nil : (∀ k ∈ ([] : List Tr) ++ ([] : List Tr), k ∈ t.kids) ∧ (([] : List Tr).map nodes).sum + (([] : List Tr).map nodes).sum ≤ (t.kids.map nodes).sum ∧ ([] : List Tr).length + ([] : List Tr).length ≤ t.kids.length := ⟨by simp, by simp, by simp⟩
  unfold shapeP at h
  split at h
  · cases h
  · rename_i hk0
    split at h
    · cases h
    · unfold shapeK at h
      split at h
      · cases h; exact nil
      · split at h
        · cases h; exact nil
        · split at h
          · cases h; exact nil
          · split at h
            · cases hn : nameP (kid t 1) with
              | error e => rw [hn] at h; cases h
              | ok x => rw [hn] at h; cases h; exact base 2
            · split at h
              · cases h; exact base 1
              · split at h
                · cases hn : readR m (kid t 1) with
                  | error e => rw [hn] at h; cases h
                  | ok x => rw [hn] at h; cases h; exact base 2
                · split at h
                  · rename_i h9
                    cases h
                    have hl : 3 ≤ t.kids.length := kindX_nine h9
                    obtain ⟨kd, pl, tx, l, sh⟩ := t
                    match l, hl with
                    | a :: b :: c, _ =>
                      refine ⟨fun k hk => ?_, ?_, ?_⟩
                      · simp [kid] at hk ⊢
                        rcases hk with h | h
                        · exact .inr (.inl h)
                        · exact .inr (.inr h)
                      · simp [kid] <;> omega
                      · simp <;> omega
                  · split at h
                    · cases hn : seqP ((kid t 1).kids.map (paramP m)) with
                      | error e => rw [hn] at h; cases h
                      | ok x =>
                        rw [hn, bind_ok] at h
                        cases hn2 : readR m (kid t 2) with
                        | error e => rw [hn2] at h; cases h
                        | ok x => rw [hn2] at h; cases h; exact base 3
                    · split at h
                      · cases h; exact base 1
                      · cases h; exact base 1
theorem fill (F : Nat → Prop) (rb : Nat) (m : List UInt8) (t : Tr) : FillP F rb m t := by
  have key : ∀ (N : Nat) (t : Tr), nodes t ≤ N → FillP F rb m t := by
    intro N
    induction N with
    | zero => intro t h; have := nodes_eq t; omega
    | succ N ih =>
      intro t hN Fin FinE n u tv ps0 tg tj d pre post T hM hA hT hrd hok herr
      have hne := nodes_eq t
      rw [hne, Nat.add_comm 1, ← Nat.add_assoc]
      refine .inr ⟨_, _, pre, post, T, rfl, ⟨by simpa using hA, rfl, hT, hrd⟩, ?_, ?_⟩
      · intro u1 tv1 new hs
        simp only [StepX, Bool.false_eq_true, if_false] at hs
        obtain ⟨e0, ks, qs, kv, pv, av, kg, ag, kps, aps, s1, s2, s3, s4, s5, s6, s7, s8, rfl⟩ := hs
        simp only at s1 s3 s4
        obtain ⟨i1, i2, i3⟩ := shape_in s1
        have hrl : rb < u.heap.size := hM.rd.lt
        have hdl : d < u.heap.size := hA.lt
        have hX := expr_shape m t
        rw [s1, bind_ok] at hX
        rw [← List.append_assoc] at s2 ⊢
        have hkg : kg = rb ∨ u.heap.size ≤ kg := by rcases s6 with h | ⟨_, _, h, _⟩; exact .inl h.1; exact .inr h
        have hag : ag = rb ∨ u.heap.size ≤ ag := by rcases s7 with h | ⟨_, _, h, _⟩; exact .inl h.1; exact .inr h
        have hag1 : ag = rb ∨ ag < u1.heap.size := by rcases s7 with h | ⟨_, _, _, h, _⟩; exact .inl h.1; exact .inr h.lt
        have hnk : ∀ k ∈ ks ++ qs, nodes k ≤ N := fun k hk => by have := mem_nodes (i1 k hk); omega
        have hnine : NineC (exc e0 kv pv av) := by
          refine nine_exc ?_ ?_ ?_
          · rcases s6 with ⟨_, _, _, a, c, e⟩ | ⟨c, e, _⟩ <;> (rw [e]; rfl)
          · obtain ⟨a, c, e⟩ := s5.shape
            rw [e]; rfl
          · rcases s7 with ⟨_, _, _, a, c, e⟩ | ⟨c, e, _⟩ <;> (rw [e]; rfl)
        refine Good.mono (n := (n + (qs.map nodes).sum) + (ks.map nodes).sum) ?_ (by omega)
        refine fillK (n + (qs.map nodes).sum) u.heap.size u1 tv1 (ps0 ++ aps.reverse) kv kg ks kps s6 hrl s2 (fun k hk => ih k (hnk k (by simp [hk]))) ?_ ?_
        · intro u2 tv2 kids k1 k2 k3 k4
          have s7' : Kd rb u.heap.size u2 arz 84 true av ag qs aps := by
            rcases s7 with h | ⟨cap, h1, h2, h3, h4, h5⟩
            · exact .inl h
            · refine .inr ⟨cap, h1, h2, h3.ev k3 (by decide) (by omega) (fun e => ?_), h4, h5⟩
              have := s8 e.symm
              omega
          refine fillA n u.heap.size u2 tv2 ps0 av ag qs aps s7' hrl k4 (fun k hk => ?_) ?_ ?_
          · have h1 := hnk k (by simp [hk])
            by_cases hl : 1 < k.kids.length
            · have h2 := mem_nodes (kid_mem (t := k) hl)
              have h3 := nodes_eq k
              exact ih _ (by omega)
            · have : kid k 1 = noTr := by simp [kid, List.getD_eq_getElem?_getD, List.getElem?_eq_none (show k.kids.length ≤ 1 by omega)]
              rw [this]
              refine ih _ ?_
              have h3 := nodes_eq k
              have : nodes noTr = 1 := by rw [nodes_eq]; rfl
              omega
          · intro u3 tv3 arms a1 a2 a3 a4
            have hE : Ev rb d u u3 := (s3.trans k3 (by omega)).trans a3 (by omega)
            have h12 := k3.size
            have h23 := a3.size
            refine hok u3 tv3 (fillX e0 kids arms) kv pv av ?_ ?_ ?_ hE a4
            · rw [hX]
              unfold restP
              simp only
              rw [k1, bind_ok, a1, bind_ok]
            · refine At.ev (At.ev ?_ k3 hT (by omega) (by omega)) a3 hT (by omega) (by omega)
              exact s4
            · rw [XI_iff]
              refine ⟨k2.frame fun g hg => ?_, ?_, a2.frame fun g hg => ⟨hg.1, rfl⟩⟩
              · refine FN.ev a3 hrl hg.1 ?_
                intro e
                have hge := hg.1.1
                rcases hg.2 with h | h
                · have := s8 (h.symm.trans e)
                  omega
                · omega
              · have p1 : TxR2 (fun k => FN u.heap.size u2 k ∧ k ≠ ag) u2 pv e0.params := s5.frame fun g hg => by
                  have := FN.ev k3 hrl hg.1 hg.2.1
                  exact ⟨⟨this.1, hg.2.2⟩, this.2⟩
                exact p1.frame fun g hg => FN.ev a3 hrl hg.1 hg.2
          · intro u3 tv3 e a1 a2 a3 a4
            refine herr u3 tv3 e ?_ a2 a3 ((s3.trans k3 (by omega)).trans a4 (by omega)) ⟨_, hnine, At.ev (At.ev s4 k3 hT (by omega) (by omega)) a4 hT (by omega) (by omega)⟩
            rw [hX]
            unfold restP
            simp only
            rw [k1, bind_ok, a1, bind_error]
        · intro u2 tv2 e k1 k2 k3 k4
          refine herr u2 tv2 e ?_ k2 k3 (s3.trans k4 (by omega)) ⟨_, hnine, At.ev s4 k4 hT (by omega) (by omega)⟩
          rw [hX]
          unfold restP
          simp only
          rw [k1, bind_error]
      · intro u1 tv1 e hs
        obtain ⟨s1, s2, s3, s4, s5⟩ := hs
        simp only [specErr, Bool.false_eq_true, if_false] at s1
        refine herr u1 tv1 e ?_ s2 s3 s4 (s5 rfl)
        rw [expr_shape, s1, bind_error]
  exact key _ t (Nat.le_refl _)
end Go.Proofs.Ytchfhkfepghfjaa

namespace Go.Proofs.Ytchfhkfepghfjaa

theorem shapeP_err {m : List UInt8} {t : Tr} {e : Nat × Nat} (h : shapeP m t = .error e) : e.1 ≠ 0 := by
  unfold shapeP at h
  split at h
  · cases h; exact Nat.succ_ne_zero _
  · split at h
    · cases h; exact Nat.succ_ne_zero _
    · unfold shapeK at h
      split at h
      · cases h
      · split at h
        · cases h
        · split at h
          · cases h
          · split at h
            · cases hn : nameP (kid t 1) with
              | error e' => rw [hn] at h; cases h; exact nameP_err hn
              | ok x => rw [hn] at h; cases h
            · split at h
              · cases h
              · split at h
                · cases hn : readR m (kid t 1) with
                  | error e' => rw [hn] at h; cases h; exact readR_err hn
                  | ok x => rw [hn] at h; cases h
                · split at h
                  · cases h
                  · split at h
                    · cases hn : seqP ((kid t 1).kids.map (paramP m)) with
                      | error e' =>
                        rw [hn] at h
                        cases h
                        obtain ⟨x, _, hx⟩ := List.mem_map.1 (seqP_err hn)
                        exact paramP_err hx
                      | ok x =>
                        rw [hn, bind_ok] at h
                        cases hn2 : readR m (kid t 2) with
                        | error e' => rw [hn2] at h; cases h; exact readR_err hn2
                        | ok x => rw [hn2] at h; cases h
                    · split at h
                      · cases h
                      · cases h
theorem armHead_err {a : Tr} {e : Nat × Nat} (h : armHead a = .error e) : e.1 ≠ 0 := by
  unfold armHead at h
  split at h
  · cases h; exact Nat.succ_ne_zero _
  · split at h
    · cases h; exact Nat.succ_ne_zero _
    · split at h
      · cases h; exact Nat.succ_ne_zero _
      · split at h
        · cases h; exact Nat.succ_ne_zero _
        · cases hn : seqP (((kid a 0).kids.drop 1).map nameP) with
          | error e' =>
            rw [hn] at h
            cases h
            obtain ⟨x, _, hx⟩ := List.mem_map.1 (seqP_err hn)
            exact nameP_err hx
          | ok x => rw [hn] at h; cases h
theorem exprP_err {m : List UInt8} {t : Tr} {e : Nat × Nat} (h : exprP m t = .error e) : e.1 ≠ 0 := by
  have key : ∀ (N : Nat) (t : Tr), nodes t ≤ N → ∀ e, exprP m t = .error e → e.1 ≠ 0 := by
    intro N
    induction N with
    | zero => intro t h; have := nodes_eq t; omega
    | succ N ih =>
      intro t hN e h
      rw [expr_shape] at h
      cases hs : shapeP m t with
      | error e' => rw [hs] at h; cases h; exact shapeP_err hs
      | ok r =>
        obtain ⟨e0, ks, qs⟩ := r
        obtain ⟨i1, i2, i3⟩ := shape_in hs
        have hne := nodes_eq t
        have hnk : ∀ k ∈ ks ++ qs, nodes k ≤ N := fun k hk => by have := mem_nodes (i1 k hk); omega
        rw [hs, bind_ok] at h
        unfold restP at h
        cases hk : seqP (ks.map (exprP m)) with
        | error e' =>
          rw [hk] at h
          cases h
          obtain ⟨x, hx, he⟩ := List.mem_map.1 (seqP_err hk)
          exact ih x (hnk x (by simp [hx])) _ he
        | ok kids =>
          rw [hk, bind_ok] at h
          cases ha : seqP (qs.map (armX m)) with
          | error e' =>
            rw [ha] at h
            cases h
            obtain ⟨x, hx, he⟩ := List.mem_map.1 (seqP_err ha)
            rw [armX_head] at he
            cases hh : armHead x with
            | error e' => rw [hh] at he; cases he; exact armHead_err hh
            | ok c =>
              rw [hh, bind_ok] at he
              cases hb : exprP m (kid x 1) with
              | error e' =>
                rw [hb] at he
                cases he
                have h1 := hnk x (by simp [hx])
                by_cases hl : 1 < x.kids.length
                · have h2 := mem_nodes (kid_mem (t := x) hl)
                  have h3 := nodes_eq x
                  exact ih _ (by omega) _ hb
                · have : kid x 1 = noTr := by simp [kid, List.getD_eq_getElem?_getD, List.getElem?_eq_none (show x.kids.length ≤ 1 by omega)]
                  rw [this] at hb
                  have h3 := nodes_eq x
                  have h4 : nodes noTr = 1 := by rw [nodes_eq]; rfl
                  exact ih _ (by omega) _ hb
              | ok b => rw [hb] at he; cases he
          | ok arms => rw [ha] at h; cases h
  exact key _ t (Nat.le_refl _) e h
end Go.Proofs.Ytchfhkfepghfjaa
