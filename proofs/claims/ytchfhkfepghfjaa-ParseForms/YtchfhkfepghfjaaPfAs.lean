/-
  The package's readParams.
  And: The machine: its steps, and that it comes to its end.
-/
import Derived.Test.YtchfhkfepghfjaaPfAr
import Derived.Test.YtchfhkfepghfjaaPfAq
namespace Go.Proofs.Ytchfhkfepghfjaa
open Go.RowKit

theorem seqP_append {α : Type} (b : List (PR α)) : ∀ a : List (PR α), seqP (a ++ b) = (seqP a).bind (fun x => (seqP b).bind (fun y => .ok (x ++ y)))
  | [] => by
    rw [List.nil_append]
    cases seqP b <;> rfl
  | .error e :: a => rfl
  | .ok x :: a => by
    rw [List.cons_append, seqP, seqP_append b a, seqP]
    cases seqP a with
    | error e => rfl
    | ok xs => cases seqP b <;> rfl
theorem orE_more {α : Type} {st : Option (Nat × Nat)} {a b : List (PR α)} {e : Nat × Nat} (h : orE st (seqP a) = some e) : orE st (seqP (a ++ b)) = some e := by
  rw [seqP_append]
  cases st with
  | some e' => exact h
  | none =>
    cases ha : seqP a with
    | error e' => rw [ha] at h; exact h
    | ok x => rw [ha] at h; cases h
theorem orE_pair {α β γ : Type} (st : Option (Nat × Nat)) (r : PR α) (s : PR β) (f : α → β → γ) : orE st (r.bind (fun x => s.bind (fun y => .ok (f x y)))) = orE (orE st r) s := by
  cases st <;> cases r <;> cases s <;> rfl
theorem orE_err {α β : Type} (st : Option (Nat × Nat)) (e : Nat × Nat) : orE st (.error e : PR α) = orE st (.error e : PR β) := by cases st <;> rfl
theorem orE_err_some {α : Type} (st : Option (Nat × Nat)) (e : Nat × Nat) : ∃ e', orE st (.error e : PR α) = some e' := by
  cases st with
  | none => exact ⟨e, rfl⟩
  | some e' => exact ⟨e', rfl⟩
def parc (l : List (List UInt8 × List UInt8)) : List Value := l.flatMap (fun p => [.string (str p.1), .string (str p.2)])
theorem parc_length : ∀ l, (parc l).length = l.length * 2
  | [] => rfl
  | p :: l => by
    have := parc_length l
    simp only [parc, List.flatMap_cons, List.length_append, List.length_cons, List.length_nil] at this ⊢
    omega
theorem parc_snoc (l : List (List UInt8 × List UInt8)) (a b : List UInt8) : parc (l ++ [(a, b)]) = parc l ++ [.string (str a), .string (str b)] := by simp [parc]
theorem parc_get : ∀ (l : List (List UInt8 × List UInt8)) (i : Nat) (x : List UInt8 × List UInt8), l[i]? = some x → (parc l)[i * 2]? = some (.string (str x.1)) ∧ (parc l)[i * 2 + 1]? = some (.string (str x.2))
  | [], i, x, h => by simp at h
  | p :: l, 0, x, h => by
    simp at h
    subst h
    exact ⟨rfl, rfl⟩
  | p :: l, i + 1, x, h => by
    have := parc_get l i x (by simpa using h)
    rw [show (i + 1) * 2 = i * 2 + 2 from by omega]
    simpa [parc] using this
/-- What readParams answers. -/
def ParamsQ (m : List UInt8) (tv : Value) (rb : Nat) (st : Option (Nat × Nat)) (l : List Tr) (w : World) (e : Ending) (w' : World) : Prop :=
  ∃ v, e = .returned v ∧ (∃ a n c, v = .slice a n c) ∧ (∀ ps, seqP (l.map (paramP m)) = .ok ps → v = .slice (some ⟨w.heap.size, 0, none⟩) l.length l.length ∧ At w' w.heap.size [] (parc ps) [] 107) ∧
    DIs w' rb m tv (orE st (seqP (l.map (paramP m)))) ∧ Kept (fun k => k = rb) w w'
theorem nameP_err {t : Tr} {e : Nat × Nat} (h : nameP t = .error e) : e.1 ≠ 0 := by
  rw [← suchP_bind] at h
  exact suchP_err h
theorem paramP_err {m : List UInt8} {t : Tr} {e : Nat × Nat} (h : paramP m t = .error e) : e.1 ≠ 0 := by
  unfold paramP at h
  split at h
  · cases hn : nameP (kid t 0) with
    | error e' => rw [hn] at h; cases h; exact nameP_err hn
    | ok x =>
      rw [hn] at h
      cases hr : readR m (kid t 1) with
      | error e' => rw [hr] at h; cases h; exact readR_err hr
      | ok y => rw [hr] at h; cases h
  · cases h; exact Nat.succ_ne_zero _
theorem par_form {m : List UInt8} {t : Tr} (h : hasHeadX t = true) (h2 : t.kids.length = 2) : paramP m t = (nameP (kid t 0)).bind (fun n => (readR m (kid t 1)).bind (fun y => .ok (n, y))) := by
  simp only [hasHeadX, Bool.and_eq_true, decide_eq_true_eq] at h
  unfold paramP
  rw [if_pos ⟨h.1.1, h2, h.2⟩]
theorem par_bad {m : List UInt8} {t : Tr} (h : hasHeadX t = false ∨ t.kids.length ≠ 2) : paramP m t = .error (12, t.place) := by
  unfold paramP
  rw [if_neg]
  rintro ⟨h1, h2, h3⟩
  rcases h with h | h
  · rw [hasHeadX, decide_eq_true h1, decide_eq_true h3, decide_eq_true (show 0 < t.kids.length by omega)] at h
    cases h
  · exact h h2
theorem PT.rb {F : Nat → Prop} {rb : Nat} {w w' : World} {g o : Nat} {t : Tr} (h : PT F w g o t) (k : Kept (fun b => b = rb) w w') (hF : ∀ b, F b → b < rb) (hr : rb < w.heap.size) : PT F w' g o t := h.frame (k.rb_frame hF hr)
set_option maxHeartbeats 4000000 in
set_option maxRecDepth 1000000 in
theorem readParams (F : Nat → Prop) (v : Value) (l : List Tr) (w : World) (rb : Nat) (m : List UInt8) (tv : Value) (st : Option (Nat × Nat)) (h : DIs w rb m tv st) (hs : Sw st) (hS : SL F w v l) (hF : ∀ b, F b → b < rb) (hl : l.length ≤ 20000) (htx : ∀ t ∈ l, TxOk t ∧ nodes t ≤ 20000) (hm : m.length ≤ 8192) :
    Calls Try.prog 36 #[.pointer (some ⟨rb, 0, none⟩), v] w (ParamsQ m tv rb st l w) := by
  obtain ⟨a, c, rfl⟩ := hS.shape
  have hrb := h.lt
  have hmk := mk_P w l.length hl
  have hA0 : At (w.alloc (.cells (zeros parz l.length).toArray 107)) w.heap.size (parc []) (zeros parz l.length) [] 107 := at_new w _ _
  have hD0 : DIs (w.alloc (.cells (zeros parz l.length).toArray 107)) rb m tv (orE st (seqP (([] : List Tr).map (paramP m)))) := by
    have := h.new (.cells (zeros parz l.length).toArray 107)
    rwa [List.map_nil, show (seqP ([] : List (PR (List UInt8 × List UInt8)))) = .ok [] from rfl, orE_ok]
  have hK0 : Kept (fun k => k = rb) w (w.alloc (.cells (zeros parz l.length).toArray 107)) := (Kept.refl _ w).alloc _
  generalize w.alloc (.cells (zeros parz l.length).toArray 107) = w0 at *
  go_enter Try.func36, Try.ntmps36
  go_wp2
  clear hmk
  go_loopg [13] l.length (fun n i wr => ∃ (k : Nat) (xs : List (List UInt8 × List UInt8)), k + n = l.length ∧ i = .int .i64 (k : Int) ∧ xs.length = k ∧ Hid (∀ ps, seqP ((l.take k).map (paramP m)) = .ok ps → xs = ps) ∧ At wr w.heap.size (parc xs) (zeros parz (l.length - k)) [] 107 ∧ DIs wr rb m tv (orE st (seqP ((l.take k).map (paramP m)))) ∧ Kept (fun k => k = rb) w wr)
  case atStart => exact ⟨0, [], by omega, rfl, rfl, (by rw [hid_iff]; intro ps e; cases e; rfl), hA0, hD0, hK0⟩
  case round =>
    clear hA0 hD0 hK0
    obtain ⟨k, xs, hk, rfl, hxl, hxs, hA, hD, hK⟩ := hrel
    by_cases hlt : k < l.length
    · have hS' := hS.frame (hK.rb_frame hF hrb)
      rcases hS' with ⟨a', c', e1, e2⟩ | ⟨g, o, cap, e1, hg, hP⟩
      · subst e2
        simp at hlt
      simp only [Value.slice.injEq, true_and] at e1
      obtain ⟨rfl, rfl⟩ := e1
      have hPt := hP k hlt
      have htk := htx l[k] (List.getElem_mem hlt)
      have HT : Hid (l.take (k + 1) = l.take k ++ [l[k]]) := List.take_succ_eq_append_getElem hlt
      have HL : Hid (l = l.take (k + 1) ++ l.drop (k + 1)) := (List.take_append_drop _ _).symm
      have hsw := sw_seq (l := l.take k) (f := paramP m) hs (fun x e he => paramP_err he)
      have hz : l.length - k = (l.length - (k + 1)) + 1 := by omega
      rw [hz, zeros_succ] at hA
      have hA1 := at_step hA
      have hlt' : (k : Int) < (l.length : Int) := by omega
      have hwl := hK.size
      have hne : ¬ w.heap.size = rb := by omega
      generalize l[k] = t at *
      have hhd := hasHead F t g (o + k * 4) wr hPt
      obtain ⟨_, kv, hTT, p0, p1, p2, p3⟩ := hPt
      obtain ⟨ka, kc, hks⟩ := hTT.shape
      clear hP hA hS
      generalize hst : orE st (seqP ((l.take k).map (paramP m))) = st1 at *
      by_cases hgood : hasHeadX t = true ∧ t.kids.length = 2
      · obtain ⟨hh, h2⟩ := hgood
        rw [hh] at hhd
        obtain ⟨g1, cap1, hk1, hP0⟩ := hTT.kid 0 (by omega)
        obtain ⟨g2, cap2, hk2, hP1⟩ := hTT.kid 1 (by omega)
        rw [hk1] at hk2 p3
        simp only [Value.slice.injEq, Option.some.injEq, Addr.mk.injEq, and_true, true_and] at hk2
        obtain ⟨rfl, _⟩ := hk2
        simp only [Nat.zero_mul, Nat.one_mul] at hP0 hP1
        have hpf := par_form (m := m) hh h2
        rw [h2] at p3 hks
        have ht0 := ((TxOk_iff _).1 htk.1).2 (kid t 0) (kid_mem (by omega))
        have ht1 := ((TxOk_iff _).1 htk.1).2 (kid t 1) (kid_mem (by omega))
        have hn1 : nodes (kid t 1) ≤ 20000 := by
          have := mem_nodes (kid_mem (t := t) (i := 1) (by omega))
          have := nodes_eq t
          omega
        have hrn := readName_Bind F (kid t 0) g1 0 wr rb m tv st1 hD hsw hP0 hF ((TxOk_iff _).1 ht0).1
        rw [suchP_bind] at hrn
        have hsw2 : Sw (orE st1 (nameP (kid t 0))) := sw_orE hsw (fun e he => nameP_err he)
        have hrt := fun (u : World) (hu : ∀ b, F b → u.heap[b]? = wr.heap[b]?) (hd : DIs u rb m tv (orE st1 (nameP (kid t 0)))) => readType F (kid t 1) g1 4 u rb m tv _ hd hsw2 (hP1.frame hu) hF ht1 hn1 hm
        have HO : Hid (orE (orE st1 (nameP (kid t 0))) (readR m (kid t 1)) = orE st (seqP ((l.take (k + 1)).map (paramP m)))) := by
          rw [hid_iff, HT.out, List.map_append, List.map_cons, List.map_nil, orE_snoc, hst, hpf, orE_pair]
        have HN : Hid (∀ x n, nameP (kid t 0) = .ok n → readR m (kid t 1) = .ok x → paramP m t = .ok (n, x)) := by
          rw [hid_iff]
          intro x n h1 h2
          rw [hpf, h1, bind_ok, h2, bind_ok]
        have HP : Hid (∀ ps, paramP m t = .ok ps → ∃ n x, nameP (kid t 0) = .ok n ∧ readR m (kid t 1) = .ok x ∧ ps = (n, x) ∧ n = (kid t 0).text) := by
          rw [hid_iff]
          intro ps hps
          rw [hpf] at hps
          cases hn : nameP (kid t 0) with
          | error e => rw [hn] at hps; cases hps
          | ok n =>
            rw [hn, bind_ok] at hps
            cases hx : readR m (kid t 1) with
            | error e => rw [hx] at hps; cases hps
            | ok x =>
              rw [hx] at hps
              cases hps
              refine ⟨n, x, rfl, rfl, rfl, ?_⟩
              unfold nameP at hn
              split at hn
              · cases hn; rfl
              · cases hn
        clear hTT hks htk hpf p0 p1 p2 hk1 hh h2 hP0 hP1 hst
        go_wp2_with (go_at_call 51; refine hhd.mono ?_; rintro e w1 ⟨rfl, hw1⟩; obtain rfl := hw1.symm)
        refine hrn.mono ?_
        rintro e w2 ⟨rfl, hD2, hK2⟩
        have p3' := hK2.cell p3 (by show ¬ g = rb; have := hF g hg; omega)
        have hA2 := hA1.kept hK2 hne
        have c0 := hA2.cell (j := 0) (v := .string (str [])) rfl
        have f0 := hA2.frozen (k * 2)
        have hA3 := hA2.set 0 (by decide) (.string (str (kid t 0).text))
        rw [parc_length, hxl, Nat.add_zero] at c0 hA3
        have K3 : Kept (fun b => b = w.heap.size) w2 (w2.setCell ⟨w.heap.size, k * 2, none⟩ (.string (str (kid t 0).text))) := (Kept.refl (fun b => b = w.heap.size) w2).setCell (p := ⟨w.heap.size, k * 2, none⟩) (fun _ => rfl) _
        have hD3 := hD2.kept K3 (fun e => hne e.symm)
        have K4 : Kept (fun b => b = w.heap.size ∨ b = rb) wr (w2.setCell ⟨w.heap.size, k * 2, none⟩ (.string (str (kid t 0).text))) := hK2.trans K3 (fun _ _ h => .inr h) (fun _ _ h => .inl h)
        have hgr := hF g hg
        have p3'' := K3.cell p3' (by show ¬ g = w.heap.size; omega)
        have hfr : ∀ b, F b → (w2.setCell ⟨w.heap.size, k * 2, none⟩ (.string (str (kid t 0).text))).heap[b]? = wr.heap[b]? := fun b hb => K4.block b (by have := hF b hb; have := hD.lt; omega) (by have := hF b hb; omega)
        have hrt' := hrt _ hfr hD3
        have hK4 : Kept (fun k => k = rb) w (w2.setCell ⟨w.heap.size, k * 2, none⟩ (.string (str (kid t 0).text))) := (hK.trans hK2 (fun _ _ h => h) (fun _ _ h => h)).setCell (p := ⟨w.heap.size, k * 2, none⟩) (fun h => absurd h (Nat.lt_irrefl _)) _
        clear hrt hrn hA2 hD2 K3 K4 hfr p3 p3' hK2 hhd hA1
        go_wp2_with fail
        generalize w2.setCell ⟨w.heap.size, k * 2, none⟩ (.string (str (kid t 0).text)) = w3 at *
        refine hrt'.mono ?_
        rintro e w4 ⟨x, rfl, hx, hD4, hK5⟩
        have HX : Hid (∀ y, readR m (kid t 1) = .ok y → x = y) := hx
        have hA5 := hA3.kept hK5 hne
        have c1 := hA5.cell (j := 1) (v := .string (str [])) rfl
        have f1 := hA5.frozen (k * 2 + 1)
        have hA6 := at_done (hA5.set 1 (by simp [parz]) (.string (str x)))
        rw [parc_length, hxl] at c1 hA6
        have hA7 : At (w4.setCell ⟨w.heap.size, k * 2 + 1, none⟩ (.string (str x))) w.heap.size (parc (xs ++ [((kid t 0).text, x)])) (zeros parz (l.length - (k + 1))) [] 107 := by
          rw [parc_snoc]
          exact hA6
        have hD7 : DIs (w4.setCell ⟨w.heap.size, k * 2 + 1, none⟩ (.string (str x))) rb m tv (orE st (seqP ((l.take (k + 1)).map (paramP m)))) := by
          rw [← HO.out]
          exact hD4.kept ((Kept.refl (fun b => b = w.heap.size) w4).setCell (p := ⟨w.heap.size, k * 2 + 1, none⟩) (fun _ => rfl) _) (fun e => hne e.symm)
        have hK7 : Kept (fun k => k = rb) w (w4.setCell ⟨w.heap.size, k * 2 + 1, none⟩ (.string (str x))) := (hK4.trans hK5 (fun _ _ h => h) (fun _ _ h => h)).setCell (p := ⟨w.heap.size, k * 2 + 1, none⟩) (fun h => absurd h (Nat.lt_irrefl _)) _
        have HXS : Hid (∀ ps, seqP ((l.take (k + 1)).map (paramP m)) = .ok ps → xs ++ [((kid t 0).text, x)] = ps) := by
          rw [hid_iff]
          intro ps hps
          rw [HT.out, List.map_append, List.map_cons, List.map_nil, seqP_append] at hps
          cases hq : seqP ((l.take k).map (paramP m)) with
          | error e => rw [hq] at hps; cases hps
          | ok qs =>
            rw [hq, bind_ok] at hps
            cases hp : paramP m t with
            | error e => rw [hp] at hps; cases hps
            | ok p =>
              rw [hp] at hps
              cases hps
              obtain ⟨n, y, h1, h2, rfl, rfl⟩ := HP.out p hp
              rw [hxs.out qs hq, HX.out y h2]
        clear hA3 hA5 hA6 hD3 hD4 hK4 hK5 hrt' HO HN HP hx HX
        go_wp2
        go_roundg (l.length - (k + 1))
        case measure => omega
        case rel => exact ⟨k + 1, _, by omega, by simp, by simp [hxl], HXS, hA7, hD7, hK7⟩
      · have hb : hasHeadX t = false ∨ t.kids.length ≠ 2 := by
          cases hh : hasHeadX t
          · exact .inl rfl
          · exact .inr (fun e => hgood ⟨hh, e⟩)
        have hpb := par_bad (m := m) hb
        have hrf := refuse wr rb m tv st1 12 t.place hD hsw
        have HO : Hid (orE st1 (.error (12, t.place) : PR Unit) = orE st (seqP (l.map (paramP m)))) := by
          rw [hid_iff]
          have e1 : orE st (seqP ((l.take (k + 1)).map (paramP m))) = orE st1 (.error (12, t.place) : PR Unit) := by
            rw [HT.out, List.map_append, List.map_cons, List.map_nil, orE_snoc, hst, hpb]
            exact orE_err _ _
          obtain ⟨e', he'⟩ := orE_err_some (α := Unit) st1 (12, t.place)
          rw [he'] at e1 ⊢
          have := orE_more (b := (l.drop (k + 1)).map (paramP m)) e1
          rw [← List.map_append, ← HL.out] at this
          exact this.symm
        have HE : Hid (∀ ps, seqP (l.map (paramP m)) ≠ .ok ps) := by
          rw [hid_iff]
          intro ps hps
          have h1 := HL.out
          rw [HT.out] at h1
          rw [h1, List.map_append, List.map_append, List.map_cons, List.map_nil, hpb, seqP_append, seqP_append] at hps
          cases hq : seqP ((l.take k).map (paramP m)) with
          | error e => rw [hq] at hps; cases hps
          | ok qs => rw [hq] at hps; cases hps
        rw [hks] at p3
        clear hTT hks htk hpb hst hxs HT HL
        have key : ∀ (e : Ending) (w' : World), RQ6 m tv rb (orE st1 (.error (12, t.place) : PR Unit)) (.tuple #[]) wr e w' → ParamsQ m tv rb st l w (.returned (.slice none 0 0)) w' := by
          rintro e w' ⟨_, hd, hk⟩
          refine ⟨_, rfl, ⟨none, 0, 0, rfl⟩, fun ps hps => absurd hps (HE.out ps), ?_, hK.trans hk (fun _ _ h => h) (fun _ _ h => h)⟩
          rw [← HO.out]
          exact hd
        cases hh : hasHeadX t
        · rw [hh] at hhd
          clear hb hgood hh
          go_wp2_with (go_at_call 51; refine hhd.mono ?_; rintro e w1 ⟨rfl, hw1⟩; obtain rfl := hw1.symm)
          refine hrf.mono ?_
          intro e w2 hq
          have hq' := key e w2 hq
          obtain ⟨rfl, _, _⟩ := hq
          clear key hrf hhd HO HE
          go_wp2
          go_ret
          exact hq'
        · rw [hh] at hhd
          have h2 : ((t.kids.length : Int) != 2) = true := by
            simp
            rcases hb with e | e
            · rw [hh] at e; cases e
            · omega
          clear hb hgood hh
          generalize t.kids.length = n at *
          go_wp2_with (go_at_call 51; refine hhd.mono ?_; rintro e w1 ⟨rfl, hw1⟩; obtain rfl := hw1.symm)
          refine hrf.mono ?_
          intro e w2 hq
          have hq' := key e w2 hq
          obtain ⟨rfl, _, _⟩ := hq
          clear key hrf hhd HO HE
          go_wp2
          go_ret
          exact hq'
    · have hlt' : ¬ (k : Int) < (l.length : Int) := by omega
      rw [List.take_of_length_le (by omega)] at hD hxs
      have HQ : ParamsQ m tv rb st l w (.returned (.slice (some ⟨w.heap.size, 0, none⟩) l.length l.length)) wr := by
        refine ⟨_, rfl, ⟨_, _, _, rfl⟩, fun ps hps => ⟨rfl, ?_⟩, hD, hK⟩
        rw [← hxs.out ps hps]
        rw [show l.length - k = 0 from by omega] at hA
        unfold At at hA ⊢
        rw [hA]
        simp [zeros]
      clear hA hS hD hK hxs
      go_wp2
      go_ret
      exact HQ
end Go.Proofs.Ytchfhkfepghfjaa

namespace Go.Proofs.Ytchfhkfepghfjaa
open Go.RowKit

/-- Nine cells. -/
def NineC (X : List Value) : Prop := X.length = 9 ∧ X.all (fun v => v.oneCell') = true
theorem nine_exc {e : Ex} {kv pv av : Value} (h1 : kv.oneCell' = true) (h2 : pv.oneCell' = true) (h3 : av.oneCell' = true) : NineC (exc e kv pv av) := by
  refine ⟨rfl, ?_⟩
  rw [List.all_eq_true]
  intro u hu
  simp only [exc, List.mem_cons, List.not_mem_nil, or_false] at hu
  rcases hu with rfl | rfl | rfl | rfl | rfl | rfl | rfl | rfl | rfl
  · rfl
  · rfl
  · rfl
  · rfl
  · rfl
  · rfl
  · exact h1
  · exact h2
  · exact h3
theorem nine_set {X : List Value} (h : NineC X) (j : Nat) {v : Value} (hv : v.oneCell' = true) : NineC (X.set j v) := by
  refine ⟨by rw [List.length_set]; exact h.1, ?_⟩
  rw [List.all_eq_true]
  intro u hu
  rcases List.mem_or_eq_of_mem_set hu with hu | hu
  · exact (List.all_eq_true.1 h.2) u hu
  · rw [hu]; exact hv
def Ow (rb : Nat) (u : World) (tv : Value) : Prop := ∃ n xs, u.ownsRow (rb + 1) 72 3 tv n xs ∧ n ≤ 20000
/-- The machine: the reader, and what is left, in memory. -/
structure MS (F : Nat → Prop) (rb : Nat) (m : List UInt8) (u : World) (tv : Value) (ps : List Pt) : Prop where
  rd : DIs u rb m tv none
  own : u.ownsRow (rb + 1) 72 3 tv ps.length (pcells ps)
  tr : ∀ p ∈ ps, PT F u p.tg p.tj p.tree ∧ TxOk p.tree
  sum : (ps.map (fun p => nodes p.tree)).sum ≤ 20000
/-- The head of an arm. -/
def armHead (a : Tr) : PR (List UInt8 × List (List UInt8)) :=
  if a.kind ≠ 1 ∨ a.kids.length ≠ 2 ∨ (kid a 0).kind ≠ 1 then .error (12, a.place)
  else if 4 < (kid a 0).kids.length - 1 then .error (19, a.place)
  else if (kid a 0).kids.length = 0 ∨ (kid a 0).kids.all (fun k => decide (k.kind = 3)) = false then .error (12, (kid a 0).place)
  else if bigR (kid (kid a 0) 0).text = false ∧ dotR true (kid (kid a 0) 0).text = false then .error (13, (kid (kid a 0) 0).place)
  else (seqP (((kid a 0).kids.drop 1).map nameP)).bind (fun vs => .ok ((kid (kid a 0) 0).text, vs))
theorem armX_head (m : List UInt8) (a : Tr) : armX m a = (armHead a).bind (fun h => (exprP m (kid a 1)).bind (fun b => .ok (h, b))) := by
  unfold armX armP armHead
  split
  · rfl
  · split
    · rfl
    · split
      · rfl
      · split
        · rfl
        · rw [bind_bind]
          rfl
/-- Kids that are left to be read, in a new block. -/
def Kd (rb lo : Nat) (u : World) (z : List Value) (T : Nat) (arm : Bool) (kv : Value) (kg : Nat) (ks : List Tr) (kps : List Pt) : Prop :=
  (kg = rb ∧ ks = [] ∧ kps = [] ∧ ∃ a c, kv = .slice a 0 c) ∨
  ∃ cap, kv = .slice (some ⟨kg, 0, none⟩) ks.length cap ∧ lo ≤ kg ∧ At u kg [] (zeros z ks.length) [] T ∧ kps.map (·.tree) = ks ∧ ∀ (i : Nat) p, kps[i]? = some p → p.arm = arm ∧ p.dg = kg ∧ p.dj = i * z.length
/-- One expression's own part is read. -/
def StepE (F : Nat → Prop) (rb : Nat) (m : List UInt8) (u : World) (ps0 : List Pt) (p : Pt) (pre post : List Value) (T : Nat) (u' : World) (tv' : Value) (new : List Pt) : Prop :=
  ∃ e0 ks qs kv pv av kg ag kps aps, shapeP m p.tree = .ok (e0, ks, qs) ∧ MS F rb m u' tv' (ps0 ++ new) ∧ Ev rb p.dg u u' ∧ At u' p.dg pre (exc e0 kv pv av) post T ∧
    TxR2 (fun k => FN u.heap.size u' k ∧ k ≠ kg ∧ k ≠ ag) u' pv e0.params ∧ Kd rb u.heap.size u' exz 36 false kv kg ks kps ∧ Kd rb u.heap.size u' arz 84 true av ag qs aps ∧ (kg = ag → kg = rb) ∧ new = aps.reverse ++ kps.reverse
/-- One arm's head is read. -/
def StepA (F : Nat → Prop) (rb : Nat) (m : List UInt8) (u : World) (ps0 : List Pt) (p : Pt) (pre post : List Value) (T : Nat) (u' : World) (tv' : Value) (new : List Pt) : Prop :=
  ∃ c vs vv tg tj, armHead p.tree = .ok (c, vs) ∧ MS F rb m u' tv' (ps0 ++ new) ∧ Ev rb p.dg u u' ∧ At u' p.dg pre (.string (str c) :: vv :: exz) post T ∧ TxR (FN u.heap.size u') u' vv vs ∧ new = [⟨tg, tj, kid p.tree 1, false, p.dg, p.dj + 2⟩]
def StepX (F : Nat → Prop) (rb : Nat) (m : List UInt8) (u : World) (ps0 : List Pt) (p : Pt) (pre post : List Value) (T : Nat) (u' : World) (tv' : Value) (new : List Pt) : Prop :=
  if p.arm = true then StepA F rb m u ps0 p pre post T u' tv' new else StepE F rb m u ps0 p pre post T u' tv' new
def specErr (m : List UInt8) (p : Pt) (e : Nat × Nat) : Prop := if p.arm = true then armHead p.tree = .error e else shapeP m p.tree = .error e
def StepErr (rb : Nat) (m : List UInt8) (u : World) (p : Pt) (pre post : List Value) (T : Nat) (u' : World) (tv' : Value) (e : Nat × Nat) : Prop :=
  specErr m p e ∧ DIs u' rb m tv' (some e) ∧ Ow rb u' tv' ∧ Ev rb p.dg u u' ∧ (p.arm = false → ∃ X, NineC X ∧ At u' p.dg pre X post T)
def Dst (rb : Nat) (u : World) (p : Pt) (pre post : List Value) (T : Nat) : Prop :=
  At u p.dg pre (if p.arm = true then arz else exz) post T ∧ pre.length = p.dj ∧ T ≠ 72 ∧ rb < p.dg
/-- Whatever the steps are, within n of them it comes to its end. -/
def Good (F : Nat → Prop) (rb : Nat) (m : List UInt8) (Fin : World → Value → Prop) (FinE : World → Value → Nat × Nat → Prop) : Nat → World → Value → List Pt → Prop
  | 0, u, tv, ps => ps = [] ∧ Fin u tv
  | n + 1, u, tv, ps => (ps = [] ∧ Fin u tv) ∨ ∃ ps0 p pre post T, ps = ps0 ++ [p] ∧ Dst rb u p pre post T ∧
      (∀ u' tv' new, StepX F rb m u ps0 p pre post T u' tv' new → Good F rb m Fin FinE n u' tv' (ps0 ++ new)) ∧ (∀ u' tv' e, StepErr rb m u p pre post T u' tv' e → FinE u' tv' e)
theorem Good.up {F : Nat → Prop} {rb : Nat} {m : List UInt8} {Fin : World → Value → Prop} {FinE : World → Value → Nat × Nat → Prop} : ∀ {n : Nat} {u : World} {tv : Value} {ps : List Pt}, Good F rb m Fin FinE n u tv ps → Good F rb m Fin FinE (n + 1) u tv ps
  | 0, _, _, _, h => .inl h
  | n + 1, _, _, _, h => by
    rcases h with h | ⟨ps0, p, pre, post, T, h1, h2, h3, h4⟩
    · exact .inl h
    · exact .inr ⟨ps0, p, pre, post, T, h1, h2, fun u' tv' new hs => (h3 u' tv' new hs).up, h4⟩
theorem Good.mono {F : Nat → Prop} {rb : Nat} {m : List UInt8} {Fin : World → Value → Prop} {FinE : World → Value → Nat × Nat → Prop} {n k : Nat} {u : World} {tv : Value} {ps : List Pt} (h : Good F rb m Fin FinE n u tv ps) (hk : n ≤ k) : Good F rb m Fin FinE k u tv ps := by
  obtain ⟨d, rfl⟩ := Nat.exists_eq_add_of_le hk
  clear hk
  induction d with
  | zero => exact h
  | succ d ih => exact ih.up
end Go.Proofs.Ytchfhkfepghfjaa
