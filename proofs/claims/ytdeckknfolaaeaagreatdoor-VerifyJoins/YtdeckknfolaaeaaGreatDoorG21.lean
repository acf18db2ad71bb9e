/-
  A walk's pop: types taken off the stack, the last one first.
-/
import Derived.Test.YtdeckknfolaaeaaGreatDoorG20
import Derived.RangeFuncBox
namespace Go.Proofs.YtdeckknfolaaeaaGreatDoor
open Go.RowKit Go.Maps
attribute [local go_sem] Oper.semAt_some

theorem Boxed.blkV {W W' : World} {B : Nat} {t : TypeId} {v : Value} (h : Boxed W B t v) (e : W'.heap[B]? = W.heap[B]?) : Boxed W' B t v := e.trans h
theorem results_cellV {P : Program} {fn : Func} {p : Tmp} {ty : TypeId} (h : fn.results = #[.cell p ty]) (tmps : Array Value) (w : World) (a : Addr) (v : Value) (hp : tmps.getD p undef = .pointer (some a)) (hl : (loadVar ty a).run P w = .ok v w) : (results fn tmps).run P w = .ok v w := by
  have hp' : tmps[p]?.getD undef = .pointer (some a) := by simpa using hp
  simp [results, h, hp', asAddr, hl]
theorem load_errno (w : World) (a : Addr) (v : Value) (h : w.cell? a = some v) : (loadVar 33 a).run Tryz.prog w = .ok v w := by
  simp [loadVar, go_sem, Tryz.isAgg33, h]
theorem kc_put {col : Nat → Tag} {w : World} {l : Nat} {t : Tag} (h : col l = t) (ob : Obj) : Kc col (fun s => s = t) w (w.putObj l ob) := Wire.Kept.grown (Wire.Kept.refl _ w) (grownBy_putObj' w l ob) (fun k e _ => by cases e; exact h)
theorem kc_set {col : Nat → Tag} {w : World} {l : Nat} {t : Tag} (h : col l = t) (i : Nat) (v : Value) : Kc col (fun s => s = t) w (w.setCell ⟨l, i, none⟩ v) := (Wire.Kept.refl _ w).setCell (p := ⟨l, i, none⟩) (fun _ => h) v
theorem put_other {W : World} {l q : Nat} (ob : Obj) (hq : q < W.heap.size) (h : q ≠ l) : (W.putObj l ob).heap[q]? = W.heap[q]? := (grownBy_putObj' W l ob).block q hq (by simpa using h)
theorem set_other {W : World} {l q i : Nat} (v : Value) (h : q ≠ l) : (W.setCell ⟨l, i, none⟩ v).heap[q]? = W.heap[q]? := Below.heap_setCell W _ _ _ (by simpa using h)
/-- What can be read and is nobody's of the walk. -/
def RdV (col : Nat → Tag) (w : World) (v : Value) (xs : List (List UInt8)) : Prop :=
  (xs = [] ∧ ∃ a c, v = .slice a 0 c) ∨ ∃ b o c, v = .slice (some ⟨b, o, none⟩) xs.length c ∧ b < w.heap.size ∧ xs.length ≤ c ∧ (∀ (j : Nat) x, xs[j]? = some x → w.cell? ⟨b, o + j, none⟩ = some (.string (str x))) ∧ ¬ ownT (col b)
theorem RdV.kept {col : Nat → Tag} {w w' : World} {v : Value} {xs : List (List UInt8)} (h : RdV col w v xs) (k : Kc col ownT w w') : StrRow w' v xs := by
  rcases h with h1 | ⟨b, o, c, rfl, h1, h2, h3, h4⟩
  · exact .inl h1
  · exact .inr ⟨b, o, c, rfl, Nat.lt_of_lt_of_le h1 k.size, h2, fun j x hj => (World.cell?_of_block (k.block b h1 h4)).trans (h3 j x hj)⟩
theorem RdV.row {col : Nat → Tag} {w : World} {v : Value} {xs : List (List UInt8)} (h : RdV col w v xs) : StrRow w v xs := h.kept (Kc.refl _ _ _)
theorem RdV.agr {col col' : Nat → Tag} {w : World} {v : Value} {xs : List (List UInt8)} (h : RdV col w v xs) (hA : Agr w.heap.size col col') : RdV col' w v xs := by
  rcases h with h1 | ⟨b, o, c, rfl, h1, h2, h3, h4⟩
  · exact .inl h1
  · exact .inr ⟨b, o, c, rfl, h1, h2, h3, by rw [hA b h1]; exact h4⟩
/-- Where pop stands behind k rounds. -/
structure PopJ (col : Nat → Tag) (w : World) (wb : Nat) (u : ObV) (m res : List UInt8) (sy : Value) (mb n : Nat) (ps : List Int) (cur : Int) (k0 : Wk) (lv : Value) (v : Value) (ts : List (List UInt8)) (D L : Nat) (rc : Obj) (k : Nat) (W : World) : Prop where
  st : ∃ s sv, popR k0.st.stack ts.reverse = popR s (ts.reverse.drop k) ∧ s.length ≤ 48 ∧ VwR col W wb u m res sy mb n ps cur ⟨⟨s, k0.st.locals⟩, k0.wt⟩ sv lv
  kc : Kc col ownT w W
  b0 : Boxed W w.heap.size 150 (.pointer (some ⟨wb, 0, none⟩))
  b1 : Boxed W (w.heap.size + 1) 33 (.int .i64 0)
  b2 : Boxed W (w.heap.size + 2) 25 v
  b3 : W.heap[D]? = some (.deferred (some []))
  b4 : W.heap[L]? = some rc
/-- Where it stands behind a refusal. -/
structure PopX (col : Nat → Tag) (w : World) (k0 : Wk) (ts : List (List UInt8)) (D L : Nat) (rc : Obj) (W : World) : Prop where
  st : (popR k0.st.stack ts.reverse).1 ≠ 0
  kc : Kc col ownT w W
  b1 : Boxed W (w.heap.size + 1) 33 (.int .i64 ((popR k0.st.stack ts.reverse).1 : Int))
  b3 : W.heap[D]? = some (.deferred (some []))
  b4 : W.heap[L]? = some rc
theorem drop_rev {ts : List (List UInt8)} {k j : Nat} (h : k + j + 1 = ts.length) (hj : j < ts.length) : ts.reverse.drop k = ts[j] :: ts.reverse.drop (k + 1) := by
  rw [List.drop_eq_getElem_cons (by rw [List.length_reverse]; omega)]
  congr 1
  rw [List.getElem_reverse]
  congr 1
  omega
theorem kc9 {t : Tag} (h : t = (9, 0, 0)) : ownT t := by rw [h]; simp [ownT]
theorem kc7 {t : Tag} (h : t = (7, 0, 0)) : ownT t := by rw [h]; simp [ownT]
set_option maxRecDepth 1000000 in
set_option maxHeartbeats 4000000 in
theorem vpop {col : Nat → Tag} {w : World} {wb : Nat} {u : ObV} {m res : List UInt8} {sy : Value} {mb n : Nat} {ps : List Int} {cur : Int} {k : Wk} {sv lv : Value} (h : VwR col w wb u m res sy mb n ps cur k sv lv) (v : Value) (ts : List (List UInt8)) (hv : RdV col w v ts) (hl : k.st.stack.length ≤ 48) (hts : ts.length ≤ 1000000) :
    Calls Tryz.prog 206 #[.pointer (some ⟨wb, 0, none⟩), v] w fun e w' => e = .returned (.int .i64 ((popR k.st.stack ts.reverse).1 : Int)) ∧ Kc col ownT w w' ∧ ((popR k.st.stack ts.reverse).1 = 0 → VwQ col w wb u m res sy mb n ps cur ⟨⟨(popR k.st.stack ts.reverse).2, k.st.locals⟩, k.wt⟩ w') := by
  have hA := colF_agr col w.heap.size
  have h1 := h.fresh
  have hv1 := hv.agr hA
  generalize hC : colF col w.heap.size = C at *
  have hnew : ∀ g, w.heap.size ≤ g → C g = (9, 0, 0) := fun g hg => by rw [← hC]; exact colF_new _ hg
  suffices H : Calls Tryz.prog 206 #[.pointer (some ⟨wb, 0, none⟩), v] w fun e w' => e = .returned (.int .i64 ((popR k.st.stack ts.reverse).1 : Int)) ∧ Kc C ownT w w' ∧ ((popR k.st.stack ts.reverse).1 = 0 → ∃ sv, VwR C w' wb u m res sy mb n ps cur ⟨⟨(popR k.st.stack ts.reverse).2, k.st.locals⟩, k.wt⟩ sv lv) by
    refine H.mono ?_
    rintro e w' ⟨g1, g2, g3⟩
    exact ⟨g1, g2.agr (fun g hg => (hA g hg).symm), fun e => by obtain ⟨sv', hh⟩ := g3 e; exact ⟨C, sv', lv, hA, hh⟩⟩
  clear h hv hA hC col
  obtain ⟨va, vc, rfl⟩ := hv1.row.shape
  refine (callsIn_wide (n := 9)).1 (callsIn_of_wp_marks Tryz.func206 rfl trivial (wpIn_wide.2 ?_) rfl)
  simp only [Tryz.ntmps206, List.size_toArray, List.length_cons, List.length_nil, Nat.reduceAdd, Nat.reduceSub, Array.replicate_succ, Array.replicate_zero, List.push_toArray, List.append_toArray, List.nil_append, List.cons_append]
  obtain ⟨W5, hW5⟩ : ∃ W5, W5 = ((w.alloc (.cells #[.pointer (some ⟨wb, 0, none⟩)] 150)).alloc (.cells #[.int .i64 0] 33)).alloc (.cells #[.slice va ts.length vc] 25) := ⟨_, rfl⟩
  have hb5 : Below w.heap.size w W5 := by rw [hW5]; exact (((Below.refl _ w).alloc (Nat.le_refl _) _).alloc (by simp) _).alloc (by simp; omega) _
  have b50 : Boxed W5 w.heap.size 150 (.pointer (some ⟨wb, 0, none⟩)) := by rw [hW5]; exact ((Boxed.new w _ _).alloc _).alloc _
  have b51 : Boxed W5 (w.heap.size + 1) 33 (.int .i64 0) := by
    rw [hW5]
    have := (Boxed.new (w.alloc (.cells #[.pointer (some ⟨wb, 0, none⟩)] 150)) 33 (.int .i64 0)).alloc (.cells #[.slice va ts.length vc] 25)
    rwa [World.size_alloc] at this
  have b52 : Boxed W5 (w.heap.size + 2) 25 (.slice va ts.length vc) := by
    rw [hW5]
    have := Boxed.new ((w.alloc (.cells #[.pointer (some ⟨wb, 0, none⟩)] 150)).alloc (.cells #[.int .i64 0] 33)) 25 (.slice va ts.length vc)
    rwa [World.size_alloc, World.size_alloc] at this
  have hs5 : W5.heap.size ≤ w.heap.size + 3 ∧ w.heap.size + 3 ≤ W5.heap.size := by rw [hW5]; simp
  have hp0 := back0 va ts.length vc ((w.alloc (.cells #[.pointer (some ⟨wb, 0, none⟩)] 150)).alloc (.cells #[.int .i64 0] 33))
  rw [← hW5] at hp0
  clear hW5
  go_wp2_with (go_at_call 240; refine hp0.mono ?_; rintro r w6 ⟨rfl, hw6⟩; obtain rfl := hw6.symm)
  clear hp0
  refine wpIn_wide.1 (range_own (n := 9) rfl rfl (gf := 271) (lb := #[.pointer (some ⟨w.heap.size + 2, 0, none⟩)]) rfl trivial (enters_of Tryz.func271 (by kernel_rfl) rfl) ?_)
  intro fn hfn
  generalize hrc : recL fn _ _ _ _ W5.heap.size = rc
  obtain ⟨W6, hW6⟩ : ∃ W6, W6 = (W5.alloc (.deferred (some []))).alloc (rc .ready none) := ⟨_, rfl⟩
  have hb6 : Below W5.heap.size W5 W6 := by rw [hW6]; exact ((Below.refl _ W5).alloc (Nat.le_refl _) _).alloc (by simp) _
  have r6 : W6.heap[W5.heap.size + 1]? = some (rc .ready none) := by
    rw [hW6]
    have := World.alloc_heap_new (W5.alloc (.deferred (some []))) (rc .ready none)
    rwa [World.size_alloc] at this
  have d6 : W6.heap[W5.heap.size]? = some (.deferred (some [])) := by
    rw [hW6]
    exact (Below.heap_alloc _ _ _ (by simp)).trans (World.alloc_heap_new W5 _)
  rw [← hW6]
  clear hW6
  have hb16 : Below w.heap.size w W6 := hb5.trans (hb6.mono hb5.size)
  have k6 : Kc C ownT w W6 := Kc.below hb16
  have V6 := h1.kept (S := fun _ => False) (Kc.below hb16) (Agr.refl _ _) (fun _ h => h.elim)
  refine (back1 (W5.heap.size + 1) (w.heap.size + 2) va vc ts
    (PopJ C w wb u m res sy mb n ps cur k lv (.slice va ts.length vc) ts W5.heap.size (W5.heap.size + 1) (rc .ready none))
    (PopX C w k ts W5.heap.size (W5.heap.size + 1) (rc .done (some .ret))) hts ?hJ ?hY W6 ?h0).mono ?done
  case h0 => exact ⟨⟨_, _, rfl, hl, V6⟩, k6, Boxed.blkV b50 (hb6.block _ (by omega)), Boxed.blkV b51 (hb6.block _ (by omega)), Boxed.blkV b52 (hb6.block _ (by omega)), d6, r6⟩
  case hJ => exact fun j W hJ => ⟨hJ.b2.cell, hv1.kept hJ.kc⟩
  case hY =>
    intro j i hi W hji hJ
    obtain ⟨s, sv', hpop, hs48, hVW⟩ := hJ.st
    rw [drop_rev hji hi] at hpop
    have hl4 := hJ.b4
    have hlt : W5.heap.size + 1 < W.heap.size := (Array.getElem?_eq_some_iff.1 hl4).1
    have hLC : C (W5.heap.size + 1) = (9, 0, 0) := hnew _ (by omega)
    obtain ⟨V, hV⟩ : ∃ V, V = W.putObj (W5.heap.size + 1) (rc .busy none) := ⟨_, rfl⟩
    have kV : Kc C (fun s => s = (9, 0, 0)) W V := by rw [hV]; exact kc_put hLC _
    have rb : V.heap[W5.heap.size + 1]? = some (rc .busy none) := by rw [hV]; exact World.putObj_heap_same hlt
    have oV : ∀ q, q < W.heap.size → q ≠ W5.heap.size + 1 → V.heap[q]? = W.heap[q]? := fun q h1 h2 => by rw [hV]; exact put_other _ h1 h2
    have VV := hVW.kept kV (Agr.refl _ _) (fun t ht => .inl (by rw [ht]))
    have c0 := Boxed.blkV hJ.b0 (oV _ (by have := hJ.b0.lt; omega) (by omega))
    have c1 := Boxed.blkV hJ.b1 (oV _ (by have := hJ.b1.lt; omega) (by omega))
    have c2 := Boxed.blkV hJ.b2 (oV _ (by have := hJ.b2.lt; omega) (by omega))
    have c3 := (oV W5.heap.size (by omega) (by omega)).trans hJ.b3
    have kW : Kc C ownT w V := hJ.kc.trans (Agr.refl _ _) (kV.mono fun _ => kc9)
    have hzV : w.heap.size + 5 ≤ V.heap.size := by have := (Array.getElem?_eq_some_iff.1 rb).1; omega
    obtain ⟨sa, scp, rfl⟩ := VV.stack.row.shape
    obtain ⟨⟨d9, d10, d11, d12⟩, g11, g12⟩ := VV.base.cells
    simp only at d11
    have x0 := c0.cell
    have x1 := c1.cell
    have z1 := c1.frozen
    obtain ⟨R, hR⟩ : ∃ R, R = YldV (PopJ C w wb u m res sy mb n ps cur k lv (.slice va ts.length vc) ts W5.heap.size (W5.heap.size + 1) (rc .ready none) (j + 1)) (PopX C w k ts W5.heap.size (W5.heap.size + 1) (rc .done (some .ret))) := ⟨_, rfl⟩
    rw [← hR]
    have HR := hidden hR
    have HV := hidden VV
    have HP := hidden hpop
    -- a refusal
    have HX : Hid (∀ q : Nat, (popR k.st.stack ts.reverse).1 = q → q ≠ 0 → (V.setCell ⟨w.heap.size + 1, 0, none⟩ (.int .i64 (q : Int))).heap[W5.heap.size + 1]? = some (rc .busy none) ∧ R (.returned (.bool false)) ((V.setCell ⟨w.heap.size + 1, 0, none⟩ (.int .i64 (q : Int))).putObj (W5.heap.size + 1) (rc .done (some .ret)))) := by
      rw [hid_iff]
      intro q hq hq0
      have e4 := (set_other (W := V) (l := w.heap.size + 1) (i := 0) (.int .i64 (q : Int)) (q := W5.heap.size + 1) (by omega)).trans rb
      refine ⟨e4, ?_⟩
      rw [HR.out]
      have e3 := (set_other (W := V) (l := w.heap.size + 1) (i := 0) (.int .i64 (q : Int)) (q := W5.heap.size) (by omega)).trans c3
      have hz := (Array.getElem?_eq_some_iff.1 e4).1
      refine ⟨false, rfl, (fun h => by cases h), fun _ => ⟨by rw [hq]; exact hq0, (kW.trans (Agr.refl _ _) ((kc_set (hnew _ (by omega)) 0 _).mono fun _ => kc9)).trans (Agr.refl _ _) ((kc_put hLC _).mono fun _ => kc9), ?_, (put_other _ (by omega) (by omega)).trans e3, World.putObj_heap_same hz⟩⟩
      rw [hq]
      exact Boxed.blkV (c1.set (.int .i64 (q : Int))) (put_other _ (by omega) (by omega))
    have HB := hidden (And.intro c0 (And.intro c1 (And.intro c2 (And.intro c3 rb))))
    have hwbC := VV.base.tag
    have HK := hidden kW
    clear hR hpop hJ hVW VV kV oV c2 c3 c0 kW
    generalize ts[i] = y at *
    by_cases hs0 : s.length = 0
    · have hq : (popR k.st.stack ts.reverse).1 = 20 := by rw [HP.out, popR, if_pos hs0]
      have hF := hidden (HX.out 20 hq (by omega))
      have hs0i : ((s.length : Nat) : Int) = 0 := by omega
      clear hs0 HX HP HV HR hlt
      subst hV
      subst hrc
      refine yield_round hfn hl4 rfl ?_
      generalize recL fn _ _ _ _ W5.heap.size = rc at *
      gi_wp2_with fail
      refine ⟨hl4, ?_⟩
      gi_wp2
      exact hF.out
    · obtain ⟨t, ht⟩ : ∃ t, s.length = t + 1 := ⟨s.length - 1, by omega⟩
      have htl : t < s.length := by omega
      have hgt : (s[s.length - 1]?).getD [] = s[t] := by rw [show s.length - 1 = t by omega]; simp [htl]
      obtain ⟨sb, so, sc', e2, hd⟩ := strRow_atV HV.out.stack.row t htl
      simp only [Value.slice.injEq, true_and] at e2
      obtain ⟨rfl, rfl⟩ := e2
      simp only at hd
      have hne := eq_is s[t] y
      have ht0 : ((s.length : Nat) : Int) - 1 = (t : Int) := by omega
      have ht1 : ¬ (t : Int) < 0 := by omega
      have ht2 : (t : Int) < ((s.length : Nat) : Int) := by omega
      by_cases hy : s[t] = y
      · have hpp : popR k.st.stack ts.reverse = popR (s.take t) (ts.reverse.drop (j + 1)) := by rw [HP.out, popR, if_neg hs0, if_neg (by rw [hgt]; exact fun h => h hy), show s.length - 1 = t by omega]
        rw [decide_eq_true hy] at hne
        have hcap : t ≤ scp := by
          rcases HV.out.stack.1.2 with ⟨e, _⟩ | ⟨g, cap, cur, e, _, _, hc, _⟩
          · cases e
          · simp only [Value.slice.injEq, true_and] at e
            have : s.length ≤ cap := hc
            omega
        have hcapi : (t : Int) ≤ (scp : Int) := by omega
        have hS2 := HV.out.stack.take t (by simp only; omega) (by simp only; omega)
        have hF : Hid ((V.drew.setCell ⟨wb, 11, none⟩ (.slice (some ⟨sb, so, none⟩) t scp)).heap[W5.heap.size + 1]? = some (rc .busy none) ∧ R (.returned (.bool true)) ((V.drew.setCell ⟨wb, 11, none⟩ (.slice (some ⟨sb, so, none⟩) t scp)).putObj (W5.heap.size + 1) (rc .ready none))) := by
          rw [hid_iff]
          obtain ⟨c0, c1, c2, c3, rb⟩ := HB.out
          have kd : Kc C (fun s => s = (2, cur, 0)) V V.drew := Wire.Kept.drew (Wire.Kept.refl _ V)
          obtain ⟨-, hV2, hK2⟩ := HV.out.newS kd (Agr.refl _ _) (hS2.kept (S := fun _ => False) (Wire.Kept.drew (Wire.Kept.refl _ V)) (Agr.refl _ _) (fun h => h))
          have nw : ∀ q, w.heap.size ≤ q → q ≠ wb := fun q hq e => by
            have := hnew q hq
            rw [e, hwbC] at this
            cases this
          have ob : ∀ q, w.heap.size ≤ q → (V.drew.setCell ⟨wb, 11, none⟩ (.slice (some ⟨sb, so, none⟩) t scp)).heap[q]? = V.heap[q]? := fun q hq => set_other (W := V.drew) _ (nw q hq)
          have hzz : (V.drew.setCell ⟨wb, 11, none⟩ (.slice (some ⟨sb, so, none⟩) t scp)).heap.size = V.heap.size := by simp
          have e4 := (ob (W5.heap.size + 1) (by omega)).trans rb
          refine ⟨e4, ?_⟩
          rw [HR.out]
          have oP : ∀ q, w.heap.size ≤ q → q < V.heap.size → q ≠ W5.heap.size + 1 → ((V.drew.setCell ⟨wb, 11, none⟩ (.slice (some ⟨sb, so, none⟩) t scp)).putObj (W5.heap.size + 1) (rc .ready none)).heap[q]? = V.heap[q]? := fun q h1 h2 h3 => (put_other _ (by rw [hzz]; exact h2) h3).trans (ob q h1)
          refine ⟨true, rfl, fun _ => ⟨⟨_, _, hpp, by rw [List.length_take]; omega, hV2.kept (kc_put hLC _) (Agr.refl _ _) (fun t ht => .inl (by rw [ht]))⟩, (HK.out.trans (Agr.refl _ _) hK2).trans (Agr.refl _ _) ((kc_put hLC _).mono fun _ => kc9), Boxed.blkV c0 (oP _ (by omega) (by omega) (by omega)), Boxed.blkV c1 (oP _ (by omega) (by omega) (by omega)), Boxed.blkV c2 (oP _ (by omega) (by omega) (by omega)), (oP _ (by omega) (by omega) (by omega)).trans c3, World.putObj_heap_same (by rw [hzz]; omega)⟩, fun h => by cases h⟩
        clear hs0 HX HP HR hy hgt ht hlt hpp hS2 HB HK hcap
        generalize s[t] = x at *
        clear HV
        subst hV
        subst hrc
        refine yield_round hfn hl4 rfl ?_
        generalize recL fn _ _ _ _ W5.heap.size = rc at *
        gi_wp2
        refine region_round (F := Fence.wide) rfl (by kernel_rfl) (by kernel_rfl) ?_
        refine wpAnyIn_take (i := 6) (v := .int .i64 (t : Int)) rfl rfl (by kernel_rfl) (by kernel_rfl) (by kernel_rfl) (fun _ _ _ h => h) ⟨Or.inl ⟨by rfl, fun w => by go_simp⟩, fun _ => rfl⟩ ?_
        refine wpAnyIn_ready (rs := [0, 1]) (by kernel_rfl) (by simp) ?_
        refine AllReadyIn.cons rfl (fun K hK => ?_) (AllReadyIn.cons rfl (fun K hK => ?_) AllReadyIn.nil)
        · go_simp
          refine hK _ _ ?_
          clear hK K
          refine wpAnyIn_ready (rs := [1]) (by kernel_rfl) (by simp) ?_
          refine AllReadyIn.cons rfl (fun K hK => ?_) AllReadyIn.nil
          go_simp
          refine hK _ _ ?_
          clear hK K
          refine wpAnyIn_take (i := 2) (v := .pointer (some ⟨wb, 0, none⟩)) rfl rfl (by kernel_rfl) (by kernel_rfl) (by kernel_rfl) (fun _ _ _ h => h) ⟨Or.inl ⟨by rfl, fun w => by go_simp⟩, fun _ => rfl⟩ ?_
          refine wpAnyIn_take (i := 3) (v := .pointer (some ⟨wb, 11, none⟩)) rfl rfl (by kernel_rfl) (by kernel_rfl) (by kernel_rfl) (fun _ _ _ h => h) ⟨Or.inl ⟨by rfl, fun w => by go_simp⟩, fun _ => rfl⟩ ?_
          refine wpAnyIn_take (i := 4) (v := .pointer (some ⟨wb, 11, none⟩)) rfl rfl (by kernel_rfl) (by kernel_rfl) (by kernel_rfl) (fun _ _ _ h => h) ⟨Or.inl ⟨by rfl, fun w => by go_simp⟩, fun _ => rfl⟩ ?_
          refine wpAnyIn_ready (rs := [5]) (by kernel_rfl) (by simp) ?_
          refine AllReadyIn.cons rfl (fun K hK => ?_) AllReadyIn.nil
          go_simp
          refine hK _ _ ?_
          clear hK K
          refine wpAnyIn_take (i := 7) (v := .slice (some ⟨sb, so, none⟩) t scp) rfl rfl (by kernel_rfl) (by kernel_rfl) (by kernel_rfl) (fun _ _ _ h => h) ⟨Or.inl ⟨by rfl, fun w => by go_simp⟩, fun _ => rfl⟩ ?_
          refine wpAnyIn_take (i := 8) (v := .pointer (some ⟨wb, 0, none⟩)) rfl rfl (by kernel_rfl) (by kernel_rfl) (by kernel_rfl) (fun _ _ _ h => h) ⟨Or.inl ⟨by rfl, fun w => by go_simp⟩, fun _ => rfl⟩ ?_
          refine wpAnyIn_take (i := 9) (v := .pointer (some ⟨wb, 11, none⟩)) rfl rfl (by kernel_rfl) (by kernel_rfl) (by kernel_rfl) (fun _ _ _ h => h) ⟨Or.inl ⟨by rfl, fun w => by go_simp⟩, fun _ => rfl⟩ ?_
          refine wpAnyIn_take (i := 10) (v := .pointer (some ⟨wb, 11, none⟩)) rfl rfl (by kernel_rfl) (by kernel_rfl) (by kernel_rfl) (fun _ _ _ h => h) ⟨Or.inl ⟨by rfl, fun w => by go_simp⟩, fun _ => rfl⟩ ?_
          refine wpAnyIn_ready (rs := [11]) (by kernel_rfl) (by simp) ?_
          refine AllReadyIn.cons rfl (fun K hK => ?_) AllReadyIn.nil
          go_simp
          refine hK _ _ ?_
          clear hK K
          refine wpAnyIn_done (by kernel_rfl) ?_ _
          gi_wp2
          exact hF.out
        · go_simp
          refine hK _ _ ?_
          clear hK K
          refine wpAnyIn_take (i := 2) (v := .pointer (some ⟨wb, 0, none⟩)) rfl rfl (by kernel_rfl) (by kernel_rfl) (by kernel_rfl) (fun _ _ _ h => h) ⟨Or.inl ⟨by rfl, fun w => by go_simp⟩, fun _ => rfl⟩ ?_
          refine wpAnyIn_take (i := 3) (v := .pointer (some ⟨wb, 11, none⟩)) rfl rfl (by kernel_rfl) (by kernel_rfl) (by kernel_rfl) (fun _ _ _ h => h) ⟨Or.inl ⟨by rfl, fun w => by go_simp⟩, fun _ => rfl⟩ ?_
          refine wpAnyIn_take (i := 4) (v := .pointer (some ⟨wb, 11, none⟩)) rfl rfl (by kernel_rfl) (by kernel_rfl) (by kernel_rfl) (fun _ _ _ h => h) ⟨Or.inl ⟨by rfl, fun w => by go_simp⟩, fun _ => rfl⟩ ?_
          refine wpAnyIn_ready (rs := [0, 5]) (by kernel_rfl) (by simp) ?_
          refine AllReadyIn.cons rfl (fun K hK => ?_) (AllReadyIn.cons rfl (fun K hK => ?_) AllReadyIn.nil)
          · go_simp
            refine hK _ _ ?_
            clear hK K
            refine wpAnyIn_ready (rs := [5]) (by kernel_rfl) (by simp) ?_
            refine AllReadyIn.cons rfl (fun K hK => ?_) AllReadyIn.nil
            go_simp
            refine hK _ _ ?_
            clear hK K
            refine wpAnyIn_take (i := 7) (v := .slice (some ⟨sb, so, none⟩) t scp) rfl rfl (by kernel_rfl) (by kernel_rfl) (by kernel_rfl) (fun _ _ _ h => h) ⟨Or.inl ⟨by rfl, fun w => by go_simp⟩, fun _ => rfl⟩ ?_
            refine wpAnyIn_take (i := 8) (v := .pointer (some ⟨wb, 0, none⟩)) rfl rfl (by kernel_rfl) (by kernel_rfl) (by kernel_rfl) (fun _ _ _ h => h) ⟨Or.inl ⟨by rfl, fun w => by go_simp⟩, fun _ => rfl⟩ ?_
            refine wpAnyIn_take (i := 9) (v := .pointer (some ⟨wb, 11, none⟩)) rfl rfl (by kernel_rfl) (by kernel_rfl) (by kernel_rfl) (fun _ _ _ h => h) ⟨Or.inl ⟨by rfl, fun w => by go_simp⟩, fun _ => rfl⟩ ?_
            refine wpAnyIn_take (i := 10) (v := .pointer (some ⟨wb, 11, none⟩)) rfl rfl (by kernel_rfl) (by kernel_rfl) (by kernel_rfl) (fun _ _ _ h => h) ⟨Or.inl ⟨by rfl, fun w => by go_simp⟩, fun _ => rfl⟩ ?_
            refine wpAnyIn_ready (rs := [11]) (by kernel_rfl) (by simp) ?_
            refine AllReadyIn.cons rfl (fun K hK => ?_) AllReadyIn.nil
            go_simp
            refine hK _ _ ?_
            clear hK K
            refine wpAnyIn_done (by kernel_rfl) ?_ _
            gi_wp2
            exact hF.out
          · go_simp
            refine hK _ _ ?_
            clear hK K
            refine wpAnyIn_take (i := 7) (v := .slice (some ⟨sb, so, none⟩) t scp) rfl rfl (by kernel_rfl) (by kernel_rfl) (by kernel_rfl) (fun _ _ _ h => h) ⟨Or.inl ⟨by rfl, fun w => by go_simp⟩, fun _ => rfl⟩ ?_
            refine wpAnyIn_ready (rs := [0]) (by kernel_rfl) (by simp) ?_
            refine AllReadyIn.cons rfl (fun K hK => ?_) AllReadyIn.nil
            go_simp
            refine hK _ _ ?_
            clear hK K
            refine wpAnyIn_take (i := 8) (v := .pointer (some ⟨wb, 0, none⟩)) rfl rfl (by kernel_rfl) (by kernel_rfl) (by kernel_rfl) (fun _ _ _ h => h) ⟨Or.inl ⟨by rfl, fun w => by go_simp⟩, fun _ => rfl⟩ ?_
            refine wpAnyIn_take (i := 9) (v := .pointer (some ⟨wb, 11, none⟩)) rfl rfl (by kernel_rfl) (by kernel_rfl) (by kernel_rfl) (fun _ _ _ h => h) ⟨Or.inl ⟨by rfl, fun w => by go_simp⟩, fun _ => rfl⟩ ?_
            refine wpAnyIn_take (i := 10) (v := .pointer (some ⟨wb, 11, none⟩)) rfl rfl (by kernel_rfl) (by kernel_rfl) (by kernel_rfl) (fun _ _ _ h => h) ⟨Or.inl ⟨by rfl, fun w => by go_simp⟩, fun _ => rfl⟩ ?_
            refine wpAnyIn_ready (rs := [11]) (by kernel_rfl) (by simp) ?_
            refine AllReadyIn.cons rfl (fun K hK => ?_) AllReadyIn.nil
            go_simp
            refine hK _ _ ?_
            clear hK K
            refine wpAnyIn_done (by kernel_rfl) ?_ _
            gi_wp2
            exact hF.out
      · have hq : (popR k.st.stack ts.reverse).1 = 17 := by rw [HP.out, popR, if_neg hs0, if_pos (by rw [hgt]; exact hy)]
        have hF := hidden (HX.out 17 hq (by omega))
        rw [decide_eq_false hy] at hne
        clear hs0 HX HP HR hy hgt ht hlt
        generalize s[t] = x at *
        clear HV
        subst hV
        subst hrc
        refine yield_round hfn hl4 rfl ?_
        generalize recL fn _ _ _ _ W5.heap.size = rc at *
        gi_wp2
        exact hF.out
  case done =>
    rintro r W7 ⟨⟨v, rfl⟩, hJ | hJ⟩
    · refine ⟨⟨v, rfl⟩, .inl ⟨hJ.b4, ?_⟩⟩
      obtain ⟨s, sv', hpop, hs48, hVW⟩ := hJ.st
      rw [List.drop_of_length_le (by rw [List.length_reverse]; exact Nat.le_refl _)] at hpop
      have hlt : W5.heap.size + 1 < W7.heap.size := (Array.getElem?_eq_some_iff.1 hJ.b4).1
      have hLC : C (W5.heap.size + 1) = (9, 0, 0) := hnew _ (by omega)
      have hDC : C W5.heap.size = (9, 0, 0) := hnew _ (by omega)
      have k1 : Kc C (fun s => s = (9, 0, 0)) W7 (W7.putObj (W5.heap.size + 1) (rc .exhausted none)) := kc_put hLC _
      have p1 : Boxed (W7.putObj (W5.heap.size + 1) (rc .exhausted none)) (w.heap.size + 1) 33 (.int .i64 0) := Boxed.blkV hJ.b1 (put_other _ (by omega) (by omega))
      have p3 : (W7.putObj (W5.heap.size + 1) (rc .exhausted none)).heap[W5.heap.size]? = some (.deferred (some [])) := (put_other _ (by omega) (by omega)).trans hJ.b3
      have V1 := hVW.kept k1 (Agr.refl _ _) (fun t ht => .inl (by rw [ht]))
      have K1 : Kc C ownT w (W7.putObj (W5.heap.size + 1) (rc .exhausted none)) := hJ.kc.trans (Agr.refl _ _) (k1.mono fun _ => kc9)
      generalize W7.putObj (W5.heap.size + 1) (rc .exhausted none) = X at *
      have p5 := p1.cell
      have p6 := p1.frozen
      clear hJ hVW k1 b50 b51 b52 V6 k6
      go_wp2
      have p7 := p1.set (.int .i64 0)
      have p8 : (X.setCell ⟨w.heap.size + 1, 0, none⟩ (.int .i64 0)).heap[W5.heap.size]? = some (.deferred (some [])) := (set_other _ (by omega)).trans p3
      have k2 : Kc C (fun s => s = (9, 0, 0)) X (X.setCell ⟨w.heap.size + 1, 0, none⟩ (.int .i64 0)) := kc_set (hnew _ (by omega)) 0 _
      have V2 := V1.kept k2 (Agr.refl _ _) (fun t ht => .inl (by rw [ht]))
      have K2 := K1.trans (Agr.refl _ _) (k2.mono fun _ => kc9)
      generalize X.setCell ⟨w.heap.size + 1, 0, none⟩ (.int .i64 0) = Y at *
      have hzY := (Array.getElem?_eq_some_iff.1 p8).1
      have k3 : Kc C (fun s => s = (9, 0, 0)) Y (Y.putObj W5.heap.size (.deferred none)) := kc_put hDC _
      have hp1 : (popR k.st.stack ts.reverse).1 = 0 := by rw [hpop]; rfl
      have hp2 : (popR k.st.stack ts.reverse).2 = s := by rw [hpop]; rfl
      refine ⟨by simp, .inl ⟨_, _, rfl, run_takeDeferred p8, ?_⟩⟩
      refine ⟨.int .i64 0, results_cellV rfl _ _ ⟨w.heap.size + 1, 0, none⟩ _ rfl (load_errno _ _ _ (Boxed.blkV p7 (put_other _ (by omega) (by omega))).cell), by first | rfl | (rw [hp1]; rfl), K2.trans (Agr.refl _ _) (k3.mono fun _ => kc9), fun _ => ⟨sv', by first | exact V2.kept k3 (Agr.refl _ _) (fun t ht => .inl (by rw [ht])) | (rw [hp2]; exact V2.kept k3 (Agr.refl _ _) (fun t ht => .inl (by rw [ht])))⟩⟩
    · refine ⟨⟨v, rfl⟩, .inr ⟨hJ.b4, ?_⟩⟩
      have hlt : W5.heap.size + 1 < W7.heap.size := (Array.getElem?_eq_some_iff.1 hJ.b4).1
      have hLC : C (W5.heap.size + 1) = (9, 0, 0) := hnew _ (by omega)
      have hDC : C W5.heap.size = (9, 0, 0) := hnew _ (by omega)
      have k1 : Kc C (fun s => s = (9, 0, 0)) W7 (W7.putObj (W5.heap.size + 1) (rc .exhausted (some .ret))) := kc_put hLC _
      have p1 := Boxed.blkV hJ.b1 (put_other (W := W7) (l := W5.heap.size + 1) (rc .exhausted (some .ret)) (q := w.heap.size + 1) (by omega) (by omega))
      have p3 : (W7.putObj (W5.heap.size + 1) (rc .exhausted (some .ret))).heap[W5.heap.size]? = some (.deferred (some [])) := (put_other _ (by omega) (by omega)).trans hJ.b3
      have K1 : Kc C ownT w (W7.putObj (W5.heap.size + 1) (rc .exhausted (some .ret))) := hJ.kc.trans (Agr.refl _ _) (k1.mono fun _ => kc9)
      have hq0 := hJ.st
      generalize W7.putObj (W5.heap.size + 1) (rc .exhausted (some .ret)) = X at *
      have hzX := (Array.getElem?_eq_some_iff.1 p3).1
      have k3 : Kc C (fun s => s = (9, 0, 0)) X (X.putObj W5.heap.size (.deferred none)) := kc_put hDC _
      refine wpIn_wide.2 ?_
      go_wp2
      refine ⟨by simp, .inl ⟨_, _, rfl, run_takeDeferred p3, ?_⟩⟩
      first | exact ⟨_, results_cellV rfl _ _ ⟨w.heap.size + 1, 0, none⟩ _ rfl (load_errno _ _ _ (Boxed.blkV p1 (put_other _ (by omega) (by omega))).cell), rfl, K1.trans (Agr.refl _ _) (k3.mono fun _ => kc9), fun e => absurd e hq0⟩ | exact ⟨_, results_cellV rfl _ _ ⟨w.heap.size + 1, 0, none⟩ _ rfl (load_errno _ _ _ (Boxed.blkV p1 (put_other _ (by omega) (by omega))).cell), rfl, K1.trans (Agr.refl _ _) (k3.mono fun _ => kc9)⟩
end Go.Proofs.YtdeckknfolaaeaaGreatDoor
