/-
  Captures: what the reader's expressions are like: as many as the tree has nodes at most, their names short and few.
-/
import Derived.Test.YtcokihblicgbpaaRefBZ
import Derived.Test.YtcokihblicgbpaaCapFreeZ
import Derived.Test.YtcokihblicgbpaaCapLocZ
namespace Go.Proofs.Ytcokihblicgbpaa

def FtP (e : Ex) : Prop := e.name.length ≤ 8192 ∧ (e.params.length ≤ 8192 ∧ ∀ p ∈ e.params, p.1.length ≤ 8192) ∧ e.kids.length ≤ 8192 ∧ e.bods.length ≤ 8192 ∧ ∀ a ∈ e.arms, a.2.length ≤ 8192 ∧ ∀ y ∈ a.2, y.length ≤ 8192
theorem name_text {t : Tr} {x : List UInt8} (h : nameP t = .ok x) : x = t.text := by
  unfold nameP at h
  split at h
  · cases h
    rfl
  · cases h
theorem tx_len {t : Tr} (h : TxOk t) : t.text.length ≤ 8192 := ((TxOk_iff t).1 h).1
theorem kid_tx {t : Tr} (h : TxOk t) (i : Nat) : (kid t i).text.length ≤ 8192 := by
  by_cases hi : i < t.kids.length
  · exact tx_len (kid_ok h hi)
  · rw [kid, List.getD_eq_getElem?_getD, List.getElem?_eq_none (by omega)]
    simp [noTr]
theorem seq_len {α β : Type} (f : β → PR α) {l : List β} {xs : List α} (h : seqP (l.map f) = .ok xs) : xs.length = l.length := (seq_mem f h).1
theorem knodes (t : Tr) : (t.kids.map nodes).sum + 1 = nodes t := by
  rw [nodes_eq]
  omega
theorem drop_nodes (l : List Tr) (n : Nat) : ((l.drop n).map nodes).sum ≤ (l.map nodes).sum := by
  have h := congrArg (fun z => (List.map nodes z).sum) (List.take_append_drop n l)
  simp only [List.map_append, List.sum_append] at h
  omega
theorem len_nodes (l : List Tr) : l.length ≤ (l.map nodes).sum := by
  induction l with
  | nil => simp
  | cons x r ih =>
    have : 1 ≤ nodes x := by rw [nodes_eq]; omega
    simp
    omega
theorem one_drop (l : List Tr) (h : 3 ≤ l.length) : nodes (l.getD 1 noTr) + ((l.drop 2).map nodes).sum ≤ (l.map nodes).sum := by
  match l, h with
  | a :: b :: c :: r, _ => simp
theorem shape_fit {m : List UInt8} {t : Tr} {r : Shape} (h : shapeP m t = .ok r) (ht : TxOk t) (hn : nodes t ≤ 8192) : r.1.name.length ≤ 8192 ∧ (r.1.params.length ≤ 8192 ∧ ∀ p ∈ r.1.params, p.1.length ≤ 8192) ∧ (r.2.1.map nodes).sum + (r.2.2.map nodes).sum + 1 ≤ nodes t := by
  have hk := knodes t
  have hd := fun n => drop_nodes t.kids n
  have hk9 : kindX t = 9 → 3 ≤ t.kids.length := fun hk => by
    unfold kindX kindO at hk
    repeat' split at hk
    all_goals first | exact kindH_ge.2.1 hk | simp at hk
  unfold shapeP at h
  split at h
  · cases h
  split at h
  · cases h
  generalize kindX t = k at *
  unfold shapeK at h
  split at h
  · cases h
    simp
    omega
  split at h
  · cases h
    simp
    omega
  split at h
  · cases h
    simp [exK]
    have := tx_len ht
    omega
  split at h
  · obtain ⟨x, hx, h⟩ := bind_is h
    cases h
    rw [name_text hx]
    have h1 := kid_tx ht 1
    have h2 := hd 2
    simp [exK]
    simp at h2
    omega
  split at h
  · cases h
    have h2 := hd 1
    simp [exK]
    simp at h2
    omega
  split at h
  · obtain ⟨x, _, h⟩ := bind_is h
    cases h
    have h2 := hd 2
    simp
    simp at h2
    omega
  split at h
  · rename_i h9
    cases h
    have h2 := one_drop t.kids (hk9 h9)
    simp [exK, kid]
    simp at h2
    omega
  split at h
  · obtain ⟨ps, hp, h⟩ := bind_is h
    obtain ⟨y, _, h⟩ := bind_is h
    cases h
    have h2 := hd 3
    obtain ⟨l1, l2⟩ := seq_mem _ hp
    refine ⟨by simp, ⟨?_, fun p hpm => ?_⟩, ?_⟩
    · show ps.length ≤ 8192
      rw [l1]
      by_cases h1 : 1 < t.kids.length
      · have q1 := knodes (kid t 1)
        have q2 := len_nodes (kid t 1).kids
        have q3 := kid_nodes h1
        omega
      · rw [kid, List.getD_eq_getElem?_getD, List.getElem?_eq_none (by omega)]
        simp [noTr]
    · obtain ⟨q, hq, e⟩ := l2 p hpm
      have hqx : TxOk q := by
        by_cases h1 : 1 < t.kids.length
        · exact ((TxOk_iff _).1 (kid_ok ht h1)).2 q hq
        · rw [kid, List.getD_eq_getElem?_getD, List.getElem?_eq_none (by omega)] at hq
          simp [noTr] at hq
      unfold paramP at e
      split at e
      · obtain ⟨n, hn, e⟩ := bind_is e
        obtain ⟨y, _, e⟩ := bind_is e
        cases e
        rw [name_text hn]
        exact kid_tx hqx 0
      · cases e
    · simp
      simp at h2
      omega
  split at h
  · cases h
    have h2 := hd 1
    simp [exK]
    simp at h2
    omega
  · cases h
    have h1 := kid_tx ht 0
    have h2 := hd 1
    simp [exK]
    simp at h2
    omega
theorem seq_sum {α β : Type} (f : β → PR α) (g : α → Nat) (n : β → Nat) : ∀ {l : List β} {xs : List α}, seqP (l.map f) = .ok xs → (∀ x ∈ l, ∀ y, f x = .ok y → g y ≤ n x) → (xs.map g).sum ≤ (l.map n).sum
  | [], xs, h, _ => by
    rw [List.map_nil, seqP] at h
    cases h
    simp
  | x :: r, xs, h, hh => by
    rw [List.map_cons] at h
    cases hx : f x with
    | error e =>
      rw [hx, seqP] at h
      cases h
    | ok y =>
      rw [hx, seqP] at h
      cases hr : seqP (r.map f) with
      | error e =>
        rw [hr] at h
        cases h
      | ok ys =>
        rw [hr] at h
        cases h
        have h1 := seq_sum f g n hr (fun z hz => hh z (by simp [hz]))
        have h2 := hh x (by simp) y hx
        simp
        omega
theorem arm_is {m : List UInt8} {a : Tr} {z : (List UInt8 × List (List UInt8)) × Ex} (h : armX m a = .ok z) : a.kids.length = 2 ∧ exprP m (kid a 1) = .ok z.2 ∧ seqP (((kid a 0).kids.drop 1).map nameP) = .ok z.1.2 := by
  unfold armX armP at h
  split at h
  · cases h
  rename_i hn
  split at h
  · cases h
  split at h
  · cases h
  split at h
  · cases h
  obtain ⟨vs, hv, h⟩ := bind_is h
  obtain ⟨b, hb, h⟩ := bind_is h
  cases h
  exact ⟨by omega, hb, hv⟩
theorem expr_fit (m : List UInt8) (t : Tr) : TxOk t → nodes t ≤ 8192 → (∀ e, exprP m t = .ok e → cntX e ≤ nodes t ∧ AllX FtP e) ∧ ∀ k ∈ t.kids, ∀ e, exprP m k = .ok e → cntX e ≤ nodes k ∧ AllX FtP e := by
  induction t using tr_ind with
  | h t ih =>
    intro ht hn
    have hkm : ∀ k ∈ t.kids, TxOk k ∧ nodes k ≤ 8192 := fun k hk => ⟨((TxOk_iff t).1 ht).2 k hk, by have := mem_nodes hk; rw [nodes_eq] at hn; omega⟩
    refine ⟨fun e he => ?_, fun k hk => (ih k hk (hkm k hk).1 (hkm k hk).2).1⟩
    rw [expr_shape] at he
    obtain ⟨r, hr, he⟩ := bind_is he
    obtain ⟨h1, h2, _⟩ := shape_like hr
    obtain ⟨f1, f2, f3⟩ := shape_fit hr ht hn
    unfold restP at he
    obtain ⟨ks, hks, he⟩ := bind_is he
    obtain ⟨az, haz, he⟩ := bind_is he
    cases he
    obtain ⟨l1, m1⟩ := seq_mem _ hks
    obtain ⟨l2, m2⟩ := seq_mem _ haz
    have s1 := seq_sum (exprP m) cntX nodes hks (fun x hx y hy => ((ih x (h1 x hx) (hkm x (h1 x hx)).1 (hkm x (h1 x hx)).2).1 y hy).1)
    have ha : ∀ a ∈ r.2.2, ∀ z, armX m a = .ok z → cntX z.2 ≤ nodes a ∧ AllX FtP z.2 ∧ z.1.2.length ≤ 8192 ∧ ∀ y ∈ z.1.2, y.length ≤ 8192 := fun a hm z hz => by
      obtain ⟨q1, q2, q3⟩ := arm_is hz
      have hk2 := hkm a (h2 a hm)
      have hlt1 := kid_nodes (t := a) (i := 1) (by omega)
      have hlt0 := kid_nodes (t := a) (i := 0) (by omega)
      obtain ⟨p1, p2⟩ := (ih a (h2 a hm) hk2.1 hk2.2).2 _ (kid_mem (by omega)) z.2 q2
      obtain ⟨r1, r2⟩ := seq_mem _ q3
      refine ⟨by omega, p2, ?_, fun y hy => ?_⟩
      · rw [r1, List.length_drop]
        have := kids_lt6 (kid a 0)
        omega
      · obtain ⟨x, hx, e⟩ := r2 y hy
        rw [name_text e]
        exact tx_len (((TxOk_iff _).1 (kid_ok hk2.1 (i := 0) (by omega))).2 x (List.mem_of_mem_drop hx))
    have s2 := seq_sum (armX m) (fun z => cntX z.2) nodes haz (fun x hx y hy => (ha x hx y hy).1)
    have b1 : ks.length ≤ 8192 := by rw [l1]; have := len_nodes r.2.1; omega
    have b2 : az.length ≤ 8192 := by rw [l2]; have := len_nodes r.2.2; omega
    refine ⟨?_, (AllX_iff _ _).2 ⟨⟨f1, f2, b1, by simpa [fillX] using b2, fun a hm => ?_⟩, fun k hk => ?_, fun k hk => ?_⟩⟩
    · rw [cntX_eq]
      have e1 : ((fillX r.1 ks az).bods.map cntX).sum = (az.map (fun z => cntX z.2)).sum := by simp [fillX, List.map_map, Function.comp_def]
      have e2 : (fillX r.1 ks az).kids = ks := rfl
      rw [e1, e2]
      omega
    · obtain ⟨z, hz, rfl⟩ := List.mem_map.1 hm
      obtain ⟨x, hx, e⟩ := m2 z hz
      exact (ha x hx z e).2.2
    · obtain ⟨x, hx, e⟩ := m1 k hk
      exact ((ih x (h1 x hx) (hkm x (h1 x hx)).1 (hkm x (h1 x hx)).2).1 k e).2
    · obtain ⟨z, hz, rfl⟩ := List.mem_map.1 hk
      obtain ⟨x, hx, e⟩ := m2 z hz
      exact (ha x hx z e).2.1
theorem all_mono {P Q : Ex → Prop} (h : ∀ e, P e → Q e) (e : Ex) : AllX P e → AllX Q e := by
  induction e using ex_ind with
  | h e ih1 ih2 =>
    intro hP
    obtain ⟨h1, h2, h3⟩ := (AllX_iff _ _).1 hP
    exact (AllX_iff _ _).2 ⟨h e h1, fun k hk => ih1 k hk (h2 k hk), fun k hk => ih2 k hk (h3 k hk)⟩
theorem fit_sm (e : Ex) (h : FtP e) : SmP e := ⟨by have := h.2.2.1; omega, by have := h.2.1.1; omega, by have := h.2.2.2.1; omega⟩
theorem fit_nm (e : Ex) (h : FtP e) : NmL e := by
  obtain ⟨h1, h2, _, _, h5⟩ := h
  refine ⟨by omega, fun k => ?_⟩
  unfold nmP
  split
  · unfold bindN
    split
    · simp
      omega
    · split
      · refine ⟨by simp; omega, fun x hx => ?_⟩
        obtain ⟨p, hp, rfl⟩ := List.mem_map.1 hx
        have := h2.2 p hp
        omega
      · simp
  · rw [List.getD_eq_getElem?_getD]
    cases ha : e.arms[k - e.kids.length]? with
    | none => simp
    | some a =>
      have := h5 a (List.mem_of_getElem? ha)
      simp only [Option.getD_some]
      exact ⟨by omega, fun x hx => by have := this.2 x hx; omega⟩
theorem dep_cnt (e : Ex) : depX e ≤ cntX e := by
  induction e using ex_ind with
  | h e ih1 ih2 =>
    rw [pts_dep, pts_cnt]
    have h : ∀ (l : List Ex), (∀ x ∈ l, depX x ≤ cntX x) → ∀ z, (l.map depX).foldl max z ≤ z + (l.map cntX).sum := by
      intro l
      induction l with
      | nil => simp
      | cons x r ih =>
        intro hl z
        rw [List.map_cons, List.foldl_cons, List.map_cons, List.sum_cons]
        have h1 := ih (fun y hy => hl y (by simp [hy])) (max z (depX x))
        have h2 := hl x (by simp)
        omega
    have := h (pts e) (fun x hx => by
      rw [pts, List.mem_append] at hx
      rcases hx with hx | hx
      · exact ih1 x hx
      · exact ih2 x hx) 0
    omega
theorem loc_le (e : Ex) : AllX ShP e → AllX FtP e → locX e ≤ 8192 * cntX e := by
  induction e using ex_ind with
  | h e ih1 ih2 =>
    intro hS hF
    obtain ⟨s1, s2, s3⟩ := (AllX_iff _ _).1 hS
    obtain ⟨f1, f2, f3⟩ := (AllX_iff _ _).1 hF
    by_cases h10 : e.kind = 10
    · rw [locX_eq, if_pos h10]
      omega
    · rw [loc_pts e s1 h10, pts_cnt]
      have hn : ∀ k, (nmP e k).length ≤ 8192 := fun k => by
        obtain ⟨h1, h2, _, _, h5⟩ := f1
        unfold nmP
        split
        · unfold bindN
          split
          · simp
          · simp
        · rw [List.getD_eq_getElem?_getD]
          cases ha : e.arms[k - e.kids.length]? with
          | none => simp
          | some a => exact (h5 a (List.mem_of_getElem? ha)).1
      have hx : ∀ x ∈ pts e, locX x ≤ 8192 * cntX x := fun x hx => by
        rw [pts, List.mem_append] at hx
        rcases hx with hx | hx
        · exact ih1 x hx (s2 x hx) (f2 x hx)
        · exact ih2 x hx (s3 x hx) (f3 x hx)
      have hm : ∀ y ∈ lkL e, y ≤ 8192 + 8192 * ((pts e).map cntX).sum := fun y hy => by
        obtain ⟨i, hi, rfl⟩ := List.getElem_of_mem hy
        have hi2 : i < (pts e).length := by rw [lkL_len] at hi; exact hi
        have := lkL_at e i _ (List.getElem?_eq_getElem hi2)
        rw [List.getElem?_eq_getElem hi] at this
        simp only [Option.some.injEq] at this
        rw [this]
        have h1 := hn i
        have h2 := hx _ (List.getElem_mem hi2)
        have h3 := sum_take (pts e) i hi2 cntX
        have h4 := sum_take_le (pts e) (i + 1) cntX
        omega
      have : ∀ (l : List Nat) (B : Nat), (∀ y ∈ l, y ≤ B) → ∀ z, z ≤ B → l.foldl max z ≤ B := by
        intro l B
        induction l with
        | nil => exact fun _ z hz => hz
        | cons y r ih => exact fun h z hz => ih (fun q hq => h q (by simp [hq])) _ (by have := h y (by simp); omega)
      have := this (lkL e) _ hm 0 (by omega)
      omega
/-- All that the walks ask of an expression that the reader makes. -/
structure GoodX (e : Ex) : Prop where
  cnt : cntX e ≤ 8192
  dep : depX e ≤ 8192
  loc : locX e ≤ 67108864
  sm : AllX SmP e
  sh : AllX ShP e
  nm : AllX NmL e
theorem goodX {m : List UInt8} {t : Tr} {e : Ex} (h : exprP m t = .ok e) (ht : TxOk t) (hn : nodes t ≤ 8192) : GoodX e := by
  obtain ⟨h1, h2⟩ := (expr_fit m t ht hn).1 e h
  have h3 := (expr_all m t).1 e h
  have h4 := dep_cnt e
  have h5 := loc_le e h3 h2
  exact ⟨by omega, by omega, by omega, all_mono fit_sm e h2, h3, all_mono fit_nm e h2⟩
end Go.Proofs.Ytcokihblicgbpaa
