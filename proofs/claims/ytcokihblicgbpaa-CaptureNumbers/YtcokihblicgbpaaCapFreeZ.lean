/-
  Captures: the package's Free: its inner function.
-/
import Derived.Deep.RegionHeld3
import Derived.Test.YtcokihblicgbpaaCapBZ
namespace Go.Proofs.Ytcokihblicgbpaa
open Go.RowKit Go.Shelf
attribute [local go_sem] Oper.semAt_some

/-- Names are short, and few. -/
def NmL (e : Ex) : Prop := e.name.length ≤ 100000 ∧ ∀ k, (nmP e k).length ≤ 20000 ∧ ∀ x ∈ nmP e k, x.length ≤ 100000
/-- What look leaves. -/
def LookE (bf mb bm bk : Nat) (v : Value) (n : Nat) (st : LkS) (e : Ex) (w : World) (r : Ending) (w' : World) : Prop :=
  ∃ u v' n', r = .returned u ∧ LSt bf mb bm bk w' v' n' (lookX e st) ∧ n' + 40000 ≤ n + 80002 * cntX e ∧ (lookX e st).1.length ≤ st.1.length + cntX e ∧ Kept (fun q => q = bf ∨ q = mb ∨ v.ownBlock = some q) w w' ∧ OwL v v' w.heap.size
set_option maxRecDepth 1000000 in
set_option maxHeartbeats 4000000 in
theorem look1 (e : Ex) : ∀ (G : Nat → Prop) (b o : Nat) (kv pv av : Value) (bf mb bm bk : Nat) (v : Value) (n : Nat) (st : LkS) (w : World), EA G w b o e kv pv av → (∀ g, G g → g < bf) → bf < mb → mb < bm → bm < bk →
    LSt bf mb bm bk w v n st → n + 80002 * cntX e ≤ 8796093022208 → st.1.length + cntX e ≤ 99999 → AllX SmP e → AllX ShP e → AllX NmL e →
    Calls Try.prog 23 #[.pointer (some ⟨b, o, none⟩), pB bm, pB bf, pB bk] w (LookE bf mb bm bk v n st e w) := by
  induction e using ex_ind with
  | h e ih1 ih2 =>
    intro G b o kv pv av bf mb bm bk v n st w hE hG l1 l2 l3 hL hbud htl hSm hSh hNm
    obtain ⟨hSme, hSk, hSb⟩ := (AllX_iff _ _).1 hSm
    obtain ⟨hShe, hHk, hHb⟩ := (AllX_iff _ _).1 hSh
    obtain ⟨hNme, hNk, hNb⟩ := (AllX_iff _ _).1 hNm
    have x0 : w.cell? ⟨b, o, none⟩ = some (.int .i64 (e.kind : Int)) := hE.ce 0 _ rfl
    have x2 : w.cell? ⟨b, o + 2, none⟩ = some (.string (str e.name)) := hE.ce 2 _ rfl
    have x1 := hL.m.cell
    have lbk := hL.k.lt
    have OwnOk : Hid (∀ g, v.ownBlock = some g → bk < g) := fun g hg => by have := (own_lt hL.o hg).1; omega
    have hcp := cntX_pos e
    have HG := hidden hG
    have HI1 := hidden ih1
    have HI2 := hidden ih2
    have HM := hidden (⟨hNme, hSme, hShe, hbud, htl, hcp⟩ : NmL e ∧ SmP e ∧ ShP e ∧ n + 80002 * cntX e ≤ 8796093022208 ∧ st.1.length + cntX e ≤ 99999 ∧ 1 ≤ cntX e)
    have hlk : ∀ i, (Instr.lookup 51 (.map (some mb)) (.string (str e.name)) false).run Try.prog (w.drewN i) = .ok (.int .i64 ((st.2 e.name : Nat) : Int)) (w.drewN i) := fun i => (hL.p.kept (S := fun _ => False) (w' := w.drewN i) ⟨rfl, rfl, rfl, Nat.le_refl _, fun _ _ _ => rfl⟩ (fun h => h)).look _ hNme.1
    simp only [pB]
    refine (callsIn_wide (n := 9)).1 (callsIn_of_wp_marks Try.func23 rfl trivial (wpIn_wide.2 ?_) rfl)
    simp only [Try.ntmps23, List.size_toArray, List.length_cons, List.length_nil, Nat.reduceAdd, Nat.reduceSub, Array.replicate_succ, Array.replicate_zero, List.push_toArray, List.append_toArray, List.nil_append, List.cons_append]
    clear ih1 ih2 hSm hSh hNm hNme hSme hShe hbud htl hcp hG
    go_wp2_with fail
    go_cut [32] from 11 to 76 (fun b32 wx => b32 = .bool (decide (e.kind = 3 ∧ st.2 e.name = 0 ∧ noDot e.name = true)) ∧ ∃ i, wx = w.drewN i)
    case first =>
      by_cases h3 : e.kind = 3
      · have t3 : ((e.kind : Int) == 3) = true := by rw [beq_iff_eq]; omega
        by_cases hz : st.2 e.name = 0
        · have tz : (((st.2 e.name : Nat) : Int) == 0) = true := by rw [beq_iff_eq]; omega
          have HD : Hid (decide (e.kind = 3 ∧ st.2 e.name = 0 ∧ noDot e.name = true) = noDot e.name) := by rw [hid_iff]; simp [h3, hz]
          clear h3 hz
          go_quiet ((go_at_call 24; exact Calls.quiet_of_same (contDot _ _)))
          go_wp2_with fail
          go_meet
          exact ⟨by rw [HD.out], _, rfl⟩
        · have tz : (((st.2 e.name : Nat) : Int) == 0) = false := by rw [beq_eq_false_iff_ne]; omega
          have HD : Hid (decide (e.kind = 3 ∧ st.2 e.name = 0 ∧ noDot e.name = true) = false) := by rw [hid_iff]; simp [hz]
          clear h3 hz
          go_quiet (fail)
          go_wp2_with fail
          go_meet
          exact ⟨by rw [HD.out], _, rfl⟩
      · have t3 : ((e.kind : Int) == 3) = false := by rw [beq_eq_false_iff_ne]; omega
        have HD : Hid (decide (e.kind = 3 ∧ st.2 e.name = 0 ∧ noDot e.name = true) = false) := by rw [hid_iff]; simp [h3]
        clear h3
        go_quiet (fail)
        go_wp2_with fail
        go_meet
        exact ⟨by rw [HD.out], _, rfl⟩
    case rest =>
      obtain ⟨rfl, i, hwc⟩ := hcut
      have hKc : Kept (fun _ => False) w wc := by rw [hwc]; exact ⟨rfl, rfl, rfl, Nat.le_refl _, fun _ _ _ => rfl⟩
      have hLc : LSt bf mb bm bk wc v n st := hL.kept hKc (fun h => h) (fun h => h) (fun h => h) (fun h => h) (fun _ _ h => h)
      clear hwc hlk x0 x1 x2 hL
      have lb := HG.out _ hE.fb
      have y2 : wc.cell? ⟨b, o + 2, none⟩ = some (.string (str e.name)) := hKc.cell (hE.ce 2 _ rfl) (fun h => h)
      have hsc := hKc.size
      go_upto_if 32 with fail
      go_cut [] from 11 to 76 (fun wx => ∃ v1 n1, LSt bf mb bm bk wx v1 n1 (lk0 e st) ∧ n1 ≤ n + 1 ∧ (lk0 e st).1.length ≤ st.1.length + 1 ∧ Kept (fun q => q = bf ∨ q = mb ∨ v.ownBlock = some q) w wx ∧ OwL v v1 w.heap.size)
      case first =>
        by_cases htell : e.kind = 3 ∧ st.2 e.name = 0 ∧ noDot e.name = true
        · have HT := hidden (show lk0 e st = (st.1 ++ [e.name], incs st.2 [e.name]) from if_pos htell)
          have HZ := hidden htell.2.1
          rw [decide_eq_true htell]
          clear htell
          obtain ⟨m1, m2, m3, m4, m5, m6⟩ := HM.out
          have hm1 := m1.1
          have hcl : ∀ u, Calls Try.prog 25 #[.string (str e.name)] u fun e' w' => e' = .returned (.string (str e.name)) ∧ Below u.heap.size u w' := fun u => cloneT e.name u hm1
          have f0 := hLc.f.cell
          have tz : ((st.2 e.name : Nat) : Int) ≤ 8796093022208 := by have := hLc.p.2 e.name; omega
          go_wp2_with fail
          refine wp_region_noPanic ?_
          go_region_law (first
            | (go_simp; go_at_call 25; refine (hcl _).mono ?_; rintro r wa ⟨rfl, hba⟩; have hbb : Below wc.heap.size wc wa := ⟨hba.os, hba.tape, hba.output, hba.size, hba.block⟩; have hLa := hLc.below hbb; have f1 := hLa.f.cell; have f2 : ∀ ob, (wa.alloc ob).cell? ⟨bf, 0, none⟩ = some v := (fun ob => (hLa.f.alloc ob).cell); have lbk2 := hLa.k.lt; clear hba)
            | (refine step_textL (by rfl) (.tmp 33) (.tmp 39) (by rfl) (bk + 1) v st.1 (by rfl) (hLa.o.alloc _) e.name _ 1 (by rfl) (cells_new _ _ _) (by omega) (by simp; omega) ?_; intro g cap w7 ho7 hg7 hl7; obtain ⟨⟨z1, z2⟩, z3, z4, z5, w8, z6, z7, z8, z9⟩ := hLc.told l1 l2 l3 hbb _ hm1 (by omega) ho7 hg7 hl7; have z10 := z4 _ _ y2 lb; have Z7 := hidden z7; have Z9 := hidden z9; clear z4 ho7 hg7 hl7 z7 z9))
          all_goals
            refine NoPanic.normal ?_
            go_wp2_with fail
            clear hcl f0 f1 f2 hLa hbb lbk2 z1 z2
            refine wp_region_noPanic ?_
            go_region
            all_goals
              refine NoPanic.normal ?_
              go_wp2_with fail
              go_meet
              rw [HT.out]
              exact ⟨_, _, Z7.out, Nat.le_refl _, by simp, hKc.trans z8 (fun _ _ h => h.elim) (fun _ _ h => h), Z9.out.mono hsc⟩
        · have HT := hidden (show lk0 e st = st from if_neg htell)
          rw [decide_eq_false htell]
          clear htell
          go_wp2_with fail
          go_meet
          refine ⟨v, n, ?_⟩
          rw [HT.out]
          exact ⟨hLc, by omega, by omega, hKc.mono (fun _ _ h => h.elim), OwL.refl _ _⟩
      case rest =>
        obtain ⟨v1, n1, hL1, hn1, ht1, hK1, hO1⟩ := hcut
        clear hKc hLc y2 hsc
        rename World => wd
        have E1 : EA G wd b o e kv pv av := hK1.ea hE (fun g hg => by have := HG.out g hg; omega) (fun g hg h => by
          have := HG.out g hg
          rcases h with h | h | h
          · omega
          · omega
          · have := OwnOk.out _ h
            omega)
        have hs1 := hK1.size
        have lbk1 := hL1.k.lt
        obtain ⟨W5, hW5⟩ : ∃ W5, W5 = wd.alloc (.cells #[.pointer (some ⟨b, o, none⟩)] 50) := ⟨_, rfl⟩
        have hb5 : Below wd.heap.size wd W5 := by rw [hW5]; exact (Below.refl _ wd).alloc (Nat.le_refl _) _
        have b5e : Boxed W5 wd.heap.size 50 (.pointer (some ⟨b, o, none⟩)) := by rw [hW5]; exact Boxed.new wd _ _
        have hs5 : W5.heap.size ≤ wd.heap.size + 1 ∧ wd.heap.size + 1 ≤ W5.heap.size := by rw [hW5]; simp
        have hp0 := parts0 (some ⟨b, o, none⟩) wd
        rw [← hW5] at hp0
        clear hW5
        go_wp2_with (go_at_call 26; refine hp0.mono ?_; rintro r w6 ⟨rfl, hw6⟩; obtain rfl := hw6.symm)
        refine wpIn_wide.1 (range_own (n := 9) rfl rfl (gf := 40) (lb := #[.pointer (some ⟨wd.heap.size, 0, none⟩)]) rfl trivial (enters_of Try.func40 (by kernel_rfl) rfl) ?_)
        intro fn hfn
        generalize hrc : recL fn _ _ _ _ W5.heap.size = rc
        obtain ⟨W6, hW6⟩ : ∃ W6, W6 = (W5.alloc (.deferred (some []))).alloc (rc .ready none) := ⟨_, rfl⟩
        have hb6 : Below W5.heap.size W5 W6 := by rw [hW6]; exact ((Below.refl _ W5).alloc (Nat.le_refl _) _).alloc (by simp) _
        have hs6 : W6.heap.size ≤ W5.heap.size + 2 ∧ W5.heap.size + 2 ≤ W6.heap.size := by rw [hW6]; simp
        have r6 : W6.heap[W5.heap.size + 1]? = some (rc .ready none) := by
          rw [hW6]
          have := World.alloc_heap_new (W5.alloc (.deferred (some []))) (rc .ready none)
          rwa [World.size_alloc] at this
        have d6 : W6.heap[W5.heap.size]? = some (.deferred (some [])) := by
          rw [hW6]
          exact (Below.heap_alloc _ _ _ (by simp)).trans (World.alloc_heap_new W5 _)
        rw [← hW6]
        have hb16 : Below wd.heap.size wd W6 := hb5.trans (hb6.mono hb5.size)
        have hL6 := hL1.below hb16
        have b6e : Boxed W6 wd.heap.size _ _ := Boxed.blk b5e (hb6.block _ b5e.lt)
        have E6 : EA G W6 b o e kv pv av := E1.below hb16 (fun g hg => by have := HG.out g hg; omega)
        have HO1 : Hid (∀ g, v1.ownBlock = some g → bk < g ∧ g < wd.heap.size) := fun g hg => by have := own_lt hL1.o hg; omega
        clear hW6 hb6 hb5 b5e E1 hp0
        obtain ⟨mm1, mm2, mm3, mm4, mm5, mm6⟩ := HM.out
        have HIH : Hid (∀ k x, (pts e)[k]? = some x → (AllX SmP x ∧ AllX ShP x ∧ AllX NmL x) ∧ ∀ (G : Nat → Prop) (b o : Nat) (kv pv av : Value) (bf mb bm bk : Nat) (v : Value) (n : Nat) (st : LkS) (w : World), EA G w b o x kv pv av → (∀ g, G g → g < bf) → bf < mb → mb < bm → bm < bk →
            LSt bf mb bm bk w v n st → n + 80002 * cntX x ≤ 8796093022208 → st.1.length + cntX x ≤ 99999 → AllX SmP x → AllX ShP x → AllX NmL x →
            Calls Try.prog 23 #[.pointer (some ⟨b, o, none⟩), pB bm, pB bf, pB bk] w (LookE bf mb bm bk v n st x w)) := fun k x hx => by
          rcases pts_mem e hx with h | h
          · exact ⟨⟨hSk x h, hHk x h, hNk x h⟩, HI1.out x h⟩
          · exact ⟨⟨hSb x h, hHb x h, hNb x h⟩, HI2.out x h⟩
        clear HI1 HI2 hSk hSb hHk hHb hNk hNb
        refine (parts2 (W5.heap.size + 1) wd.heap.size G e b o kv pv av
          (fun k W => (∃ v' n', LSt bf mb bm bk W v' n' (lkS e st k) ∧ n' ≤ n + 1 + 80002 * (((pts e).take k).map cntX).sum ∧ (lkS e st k).1.length ≤ st.1.length + 1 + (((pts e).take k).map cntX).sum ∧ OwL v1 v' W6.heap.size) ∧ Kept (fun q => q = bf ∨ q = mb ∨ v1.ownBlock = some q ∨ q = W5.heap.size + 1) W6 W ∧ W.heap[W5.heap.size + 1]? = some (rc .ready none))
          (fun _ => False) mm2 ?je ?yy W6 ?j0).mono ?done
        case j0 => exact ⟨⟨v1, n1, hL6, by simpa using hn1, by rw [lkS_zero]; simpa using ht1, OwL.refl _ _⟩, Kept.refl _ _, r6⟩
        case je =>
          rintro k W ⟨_, hK, _⟩
          have hz := hK.size
          refine ⟨(hK.box b6e (fun h => ?_)).cell, by omega, hK.ea E6 (fun g hg => by have := HG.out g hg; omega) (fun g hg h => ?_), fun g hg => by have := HG.out g hg; omega⟩
          · rcases h with h | h | h | h
            · omega
            · omega
            · have := HO1.out _ h
              omega
            · omega
          · have := HG.out g hg
            rcases h with h | h | h | h
            · omega
            · omega
            · have := HO1.out _ h
              omega
            · omega
        case yy =>
          intro k x W0 W pb po k' p' a' nv hx hJ hb hEx htx
          obtain ⟨⟨v', n', j1, j2, j3, j5⟩, j6, j4⟩ := hJ
          obtain ⟨⟨hSx, hHx, hNx⟩, hIx⟩ := HIH.out k x hx
          have hz0 := j6.size
          have hzb := hb.size
          have hw0 : ∀ g, v'.ownBlock = some g → bk < g ∧ g < W0.heap.size ∧ g ≠ W5.heap.size + 1 := fun g hg => by
            have h9 := own_lt j1.o hg
            refine ⟨by omega, h9.2, ?_⟩
            rcases j5 g hg with h | h
            · have := HO1.out _ h
              omega
            · omega
          have hl : W.heap[W5.heap.size + 1]? = some (rc .ready none) := (hb.block _ (by omega)).trans j4
          have hlt : W5.heap.size + 1 < W.heap.size := (Array.getElem?_eq_some_iff.1 hl).1
          have gW := j1.below hb
          obtain ⟨V, hV⟩ : ∃ V, V = W.putObj (W5.heap.size + 1) (rc .busy none) := ⟨_, rfl⟩
          have hKV : Kept (fun q => q = W5.heap.size + 1) W V := by rw [hV]; exact kept_put1 _ _ _
          have rb : V.heap[W5.heap.size + 1]? = some (rc .busy none) := by rw [hV]; exact World.putObj_heap_same hlt
          have hsV := hKV.size
          have gV := gW.kept hKV (by omega) (by omega) (by omega) (by omega) (fun g hg => (hw0 g hg).2.2)
          have EV : EA G V pb po x k' p' a' := hKV.ea hEx (fun g hg => by have := HG.out g hg; omega) (fun g hg h => by have := HG.out g hg; omega)
          have hK9 : Kept (fun q => q = bf ∨ q = mb ∨ v1.ownBlock = some q ∨ q = W5.heap.size + 1) W6 V := (j6.trans (Kept.of_below hb) (U := fun q => q = bf ∨ q = mb ∨ v1.ownBlock = some q ∨ q = W5.heap.size + 1) (fun _ _ h => h) (fun q hq h => by omega)).trans hKV (fun _ _ h => h) (fun _ _ h => .inr (.inr (.inr h)))
          obtain ⟨na, nc, hnv⟩ := txr_shape2 htx
          have HNC : Hid (∀ j y, (nmP e k)[j]? = some y → ∃ ng nq, na = some ⟨ng, nq, none⟩ ∧ (ng ≠ mb ∧ ng ≠ bf ∧ (¬ v'.ownBlock = some ng) ∧ ng < V.heap.size) ∧ V.cell? ⟨ng, nq + j, none⟩ = some (.string (str y))) := by
            rw [hid_iff]
            intro j y hj
            rcases htx with ⟨a1, c1, _, e2⟩ | ⟨ng, nq, c1, e1, hg, hc⟩
            · rw [e2] at hj
              simp at hj
            · rw [e1] at hnv
              simp only [Value.slice.injEq, true_and] at hnv
              have hng : ng ≠ mb ∧ ng ≠ bf ∧ (¬ v'.ownBlock = some ng) ∧ ng < W.heap.size ∧ ng ≠ W5.heap.size + 1 := by
                rcases hg with h | h
                · have h8 := HG.out ng h
                  exact ⟨by omega, by omega, fun h => by have := hw0 _ h; omega, by omega, by omega⟩
                · have h8 := h.1
                  exact ⟨by omega, by omega, fun h => by have := hw0 _ h; omega, h.2, by omega⟩
              exact ⟨ng, nq, hnv.1.symm, ⟨hng.1, hng.2.1, hng.2.2.1, by omega⟩, hKV.cell (hc j y hj) hng.2.2.2.2⟩
          subst hnv
          have hkl : k < (pts e).length := (List.getElem?_eq_some_iff.1 hx).1
          have hxe : (pts e)[k] = x := (List.getElem?_eq_some_iff.1 hx).2
          have m2 := sum_take (pts e) k hkl cntX
          have m3 := sum_take_le (pts e) (k + 1) cntX
          have m4 := pts_cnt e
          rw [hxe] at m2
          have hnx := lkS_succ e st k x hx
          have hln := (mm1.2 k).1
          have hnl := (mm1.2 k).2
          obtain ⟨R, hR⟩ : ∃ R, R = YldE (fun W => (∃ v' n', LSt bf mb bm bk W v' n' (lkS e st (k + 1)) ∧ n' ≤ n + 1 + 80002 * (((pts e).take (k + 1)).map cntX).sum ∧ (lkS e st (k + 1)).1.length ≤ st.1.length + 1 + (((pts e).take (k + 1)).map cntX).sum ∧ OwL v1 v' W6.heap.size) ∧ Kept (fun q => q = bf ∨ q = mb ∨ v1.ownBlock = some q ∨ q = W5.heap.size + 1) W6 W ∧ W.heap[W5.heap.size + 1]? = some (rc .ready none)) (fun _ => False) := ⟨_, rfl⟩
          rw [← hR]
          have HR := hidden hR
          clear hR
          rw [m2, hnx] at HR
          generalize (((pts e).take k).map cntX).sum = ck at *
          generalize lkS e st k = S at *
          generalize nmP e k = ns at *
          have hcx : Hid (ck + cntX x + 1 ≤ cntX e) := by rw [hid_iff]; omega
          have HIC : Hid (∀ u, LSt bf mb bm bk u v' (n' + ns.length) (S.1, incs S.2 ns) → Kept (fun q => q = mb) V u → Calls Try.prog 23 #[.pointer (some ⟨pb, po, none⟩), .pointer (some ⟨bm, 0, none⟩), .pointer (some ⟨bf, 0, none⟩), .pointer (some ⟨bk, 0, none⟩)] u (LookE bf mb bm bk v' (n' + ns.length) (S.1, incs S.2 ns) x u)) := by
            rw [hid_iff]
            intro u h1 h2
            have h3 := hcx.out
            exact hIx G pb po k' p' a' bf mb bm bk v' _ _ u (h2.ea EV (fun g hg => by have := HG.out g hg; omega) (fun g hg h => by have := HG.out g hg; omega)) HG.out l1 l2 l3 h1 (by omega) (by simp only []; omega) hSx hHx hNx
          have HGE := hidden (look_ge x hHx (S.1, incs S.2 ns))
          have HW : Hid (∀ u V9 z v2 n2, Kept (fun q => q = mb) V u → Kept (fun q => q = bf ∨ q = mb ∨ v'.ownBlock = some q) u V9 → OwL v' v2 u.heap.size → n2 + 40000 ≤ n' + ns.length + 80002 * cntX x → (lookX x (S.1, incs S.2 ns)).1.length ≤ S.1.length + cntX x →
              LSt bf mb bm bk z v2 (n2 + ns.length) ((lookX x (S.1, incs S.2 ns)).1, decs (lookX x (S.1, incs S.2 ns)).2 ns) → Kept (fun q => q = mb) V9 z → z.heap[W5.heap.size + 1]? = some (rc .busy none) ∧ R (.returned (.bool true)) (z.putObj (W5.heap.size + 1) (rc .ready none))) := by
            rw [hid_iff]
            intro u V9 z v2 n2 k1 k2 k3 k4 k5 k6 k7
            have hu1 := k1.size
            have hu2 := k2.size
            have hu3 := k7.size
            have h5 : z.heap[W5.heap.size + 1]? = some (rc .busy none) := by
              refine (k7.block _ (by omega) (by omega)).trans ((k2.block _ (by omega) (fun h => ?_)).trans ((k1.block _ (by omega) (by omega)).trans rb))
              rcases h with h | h | h
              · omega
              · omega
              · exact (hw0 _ h).2.2 rfl
            refine ⟨h5, ?_⟩
            rw [HR.out]
            refine ⟨true, rfl, fun _ => ?_, fun h => by cases h⟩
            have hzr := kept_put1 z (W5.heap.size + 1) (rc .ready none)
            have hw2 : ∀ g, v2.ownBlock = some g → g ≠ W5.heap.size + 1 := fun g hg => by
              rcases k3 g hg with h | h
              · exact (hw0 _ h).2.2
              · omega
            refine ⟨⟨v2, _, k6.kept hzr (by omega) (by omega) (by omega) (by omega) hw2, by omega, ?_, fun g hg => ?_⟩, ?_, World.putObj_heap_same (Array.getElem?_eq_some_iff.1 h5).1⟩
            · show (lookX x (S.1, incs S.2 ns)).1.length ≤ _
              omega
            · rcases k3 g hg with h | h
              · exact j5 g h
              · exact .inr (by omega)
            · refine Kept.put ?_ (fun _ => .inr (.inr (.inr rfl))) _
              refine hK9.trans (k1.trans (k2.trans k7 (U := fun q => q = bf ∨ q = mb ∨ v'.ownBlock = some q) (fun _ _ h => h) (fun _ _ h => .inr (.inl h))) (U := fun q => q = bf ∨ q = mb ∨ v'.ownBlock = some q) (fun _ _ h => .inr (.inl h)) (fun _ _ h => h)) (fun _ _ h => h) (fun q hq h => ?_)
              rcases h with h | h | h
              · exact .inl h
              · exact .inr (.inl h)
              · rcases j5 q h with h | h
                · exact .inr (.inr (.inl h))
                · omega
          have hbn : n' + ns.length + 80002 * cntX x + ns.length ≤ 8796093022208 := by have := hcx.out; omega
          have hcx1 := cntX_pos x
          clear HR hK9 rb EV hIx hSx hHx hNx hx hEx htx hb j1 j2 j3 j4 j5 j6 m2 m3 m4 hxe hkl hKV hlt hz0 hzb b6e E6 HIH hs6 r6 d6 hL6 hL1 hO1 HO1 hnx hw0 gW hK1 hb16 hE HM mm1 mm2 mm3 mm4 mm5 mm6 hn1 ht1 OwnOk hcx
          have HV : Hid (∀ u, u = V → u = W.putObj (W5.heap.size + 1) (rc .busy none)) := fun u hu => hu.trans hV
          clear hV
          have HLN := hidden hnl
          subst hrc
          refine yield_round hfn hl rfl ?_
          generalize recL fn _ _ _ _ W5.heap.size = rc at *
          gi_wp2_with fail
          rw [← HV.out V rfl]
          clear HV hl hnl
          gi_loopw [54] (fun i wr => ∃ j : Nat, j ≤ ns.length ∧ i = .int .i64 (j : Int) ∧ LSt bf mb bm bk wr v' (n' + j) (S.1, incs S.2 (ns.take j)) ∧ Kept (fun q => q = mb) V wr) (fun i _ => (ns.length - (intOf i).toNat))
          case atStart => exact ⟨0, Nat.zero_le _, rfl, by simpa [incs_nil] using gV, Kept.refl _ _⟩
          case round =>
            obtain ⟨j, hjl, rfl, hLj, hKj⟩ := hrel
            by_cases hj : j < ns.length
            · have hji : (j : Int) < (ns.length : Int) := by omega
              obtain ⟨ng, nq, rfl, ⟨g1, g2, g3, g4⟩, g5⟩ := HNC.out j ns[j] (List.getElem?_eq_getElem hj)
              have hyl := HLN.out _ (List.getElem_mem hj)
              have hst : Hid (ns.take j ++ [ns[j]] = ns.take (j + 1)) := by rw [hid_iff]; exact (List.take_succ_eq_append_getElem hj).symm
              generalize ns[j] = y at *
              have c1 := hKj.cell g5 g1
              have c2 := hLj.m.cell
              have c3 := hLj.p.look y hyl
              obtain ⟨w', u1, u2, u3⟩ := hLj.more l1 l2 l3 (by omega) y hyl (incs S.2 (ns.take j) y + 1) (by have := hLj.p.2 y; simp only [] at this; omega) (incs S.2 (ns.take (j + 1))) (by rw [← hst.out]; exact incs_snoc _ _ _)
              have tb : ((incs S.2 (ns.take j) y : Nat) : Int) ≤ 8796093022208 := by have := hLj.p.2 y; simp only [] at this; omega
              simp only [] at c3
              generalize incs S.2 (ns.take j) y = cy at *
              rw [show (((cy + 1 : Nat)) : Int) = (cy : Int) + 1 from rfl] at u1
              have hK2 := hKj.trans u3 (U := fun q => q = mb) (fun _ _ h => h) (fun _ _ h => h)
              have U2 := hidden u2
              clear HNC HW HIC HGE HLN gV hLj hst g5 u2 u3 hKj
              gi_wp2
              go_roundw
              case rel => exact ⟨j + 1, by omega, by go_num, U2.out, hK2⟩
              case measure => simp [intOf]; omega
            · have hji : ¬ (j : Int) < (ns.length : Int) := by omega
              obtain rfl : j = ns.length := by omega
              rw [List.take_of_length_le (Nat.le_refl _)] at hLj
              have c2 := hLj.k.cell
              have hcall := HIC.out wr hLj hKj
              simp only [pB] at c2
              clear HIC gV hLj
              gi_wp2_with fail
              refine ⟨trivial, (CallsIn.inRound _ (callsIn_wide.2 hcall)).mono ?_⟩
              rintro r V9 ⟨u9, v2, n2, rfl, gL, gn, gt, gK, gO⟩
              clear hcall c2
              have HF : Hid (∀ z, LSt bf mb bm bk z v2 (n2 + ns.length) ((lookX x (S.1, incs S.2 ns)).1, decs (lookX x (S.1, incs S.2 ns)).2 ns) → Kept (fun q => q = mb) V9 z → z.heap[W5.heap.size + 1]? = some (rc .busy none) ∧ R (.returned (.bool true)) (z.putObj (W5.heap.size + 1) (rc .ready none))) := fun z h1 h2 => HW.out wr V9 z v2 n2 hKj gK gO gn gt h1 h2
              have HNC2 : Hid (∀ j y, ns[j]? = some y → ∃ ng nq, na = some ⟨ng, nq, none⟩ ∧ ng ≠ mb ∧ V9.cell? ⟨ng, nq + j, none⟩ = some (.string (str y))) := fun j y hj => by
                obtain ⟨ng, nq, e1, ⟨g1, g2, g3, g4⟩, g5⟩ := HNC.out j y hj
                refine ⟨ng, nq, e1, g1, gK.cell (hKj.cell g5 g1) (fun h => ?_)⟩
                rcases h with h | h | h
                · exact g2 h
                · exact g1 h
                · exact g3 h
              have HGE2 : Hid (∀ y, ns.count y ≤ (lookX x (S.1, incs S.2 ns)).2 y) := fun y => by
                have h1 : incs S.2 ns y ≤ (lookX x (S.1, incs S.2 ns)).2 y := HGE.out y
                have h2 : incs S.2 ns y = S.2 y + ns.count y := rfl
                omega
              generalize lookX x (S.1, incs S.2 ns) = T at *
              clear HW HNC HGE hKj gK gO gt hji hjl
              gi_wp2_with fail
              gi_loopw [68] (fun i wr => ∃ j : Nat, j ≤ ns.length ∧ i = .int .i64 (j : Int) ∧ LSt bf mb bm bk wr v2 (n2 + j) (T.1, decs T.2 (ns.take j)) ∧ Kept (fun q => q = mb) V9 wr) (fun i _ => (ns.length - (intOf i).toNat))
              case atStart => exact ⟨0, Nat.zero_le _, rfl, by simpa [decs_nil] using gL, Kept.refl _ _⟩
              case round =>
                obtain ⟨j, hjl, rfl, hLj, hKj⟩ := hrel
                by_cases hj : j < ns.length
                · have hji : (j : Int) < (ns.length : Int) := by omega
                  obtain ⟨ng, nq, rfl, g1, g5⟩ := HNC2.out j ns[j] (List.getElem?_eq_getElem hj)
                  have hyl := HLN.out _ (List.getElem_mem hj)
                  have hst : Hid (ns.take j ++ [ns[j]] = ns.take (j + 1)) := by rw [hid_iff]; exact (List.take_succ_eq_append_getElem hj).symm
                  have hpos : 1 ≤ decs T.2 (ns.take j) ns[j] := by
                    have h1 := HGE2.out ns[j]
                    have h2 : (ns.take (j + 1)).count ns[j] ≤ ns.count ns[j] := (List.take_sublist _ _).count_le _
                    rw [← hst.out, List.count_append] at h2
                    simp only [decs]
                    have h3 : List.count ns[j] [ns[j]] = 1 := by simp
                    omega
                  generalize ns[j] = y at *
                  have c1 := hKj.cell g5 g1
                  have c2 := hLj.m.cell
                  have c3 := hLj.p.look y hyl
                  obtain ⟨w', u1, u2, u3⟩ := hLj.more l1 l2 l3 (by omega) y hyl (decs T.2 (ns.take j) y - 1) (by have := hLj.p.2 y; simp only [] at this; omega) (decs T.2 (ns.take (j + 1))) (by rw [← hst.out]; exact decs_snoc _ _ _)
                  have tb : ((decs T.2 (ns.take j) y : Nat) : Int) ≤ 8796093022208 := by have := hLj.p.2 y; simp only [] at this; omega
                  simp only [] at c3
                  generalize decs T.2 (ns.take j) y = cy at *
                  rw [show (((cy - 1 : Nat)) : Int) = (cy : Int) - 1 by omega] at u1
                  have tc : (1 : Int) ≤ (cy : Int) := by omega
                  have hK2 := hKj.trans u3 (U := fun q => q = mb) (fun _ _ h => h) (fun _ _ h => h)
                  have U2 := hidden u2
                  clear HNC2 HF HGE2 HLN gL hLj hst g5 u2 u3 hKj hpos
                  gi_wp2
                  go_roundw
                  case rel => exact ⟨j + 1, by omega, by go_num, U2.out, hK2⟩
                  case measure => simp [intOf]; omega
                · have hji : ¬ (j : Int) < (ns.length : Int) := by omega
                  obtain rfl : j = ns.length := by omega
                  rw [List.take_of_length_le (Nat.le_refl _)] at hLj
                  have hfin := hidden (HF.out wr hLj hKj)
                  clear HF HNC2 HGE2 HLN gL hLj hKj
                  gi_wp2
                  exact hfin.out
        case done =>
          rintro r W7 ⟨⟨u, rfl⟩, hJ | hJ⟩
          · obtain ⟨⟨v2, n2, q1, q2, q3, q4⟩, q5, q6⟩ := hJ
            refine ⟨⟨u, rfl⟩, .inl ⟨q6, ?_⟩⟩
            have hcn := pts_cnt e
            rw [List.take_of_length_le (Nat.le_refl _)] at q2 q3
            rw [← look_pts e mm3] at q1 q3
            have hz7 := q5.size
            have hw2 : ∀ g, v2.ownBlock = some g → g ≠ W5.heap.size ∧ g ≠ W5.heap.size + 1 := fun g hg => by
              rcases q4 g hg with h | h
              · have := HO1.out _ h
                omega
              · omega
            have hX := kept_put1 W7 (W5.heap.size + 1) (rc .exhausted none)
            have p1 := q1.kept hX (by omega) (by omega) (by omega) (by omega) (fun g hg => (hw2 g hg).2)
            have p4 : (W7.putObj (W5.heap.size + 1) (rc .exhausted none)).heap[W5.heap.size]? = some (.deferred (some [])) := (hX.block _ (by omega) (by omega)).trans ((q5.block _ (by omega) (fun h => by
              rcases h with h | h | h | h
              · omega
              · omega
              · have := HO1.out _ h
                omega
              · omega)).trans d6)
            have hKX : Kept (fun q => q = bf ∨ q = mb ∨ v1.ownBlock = some q ∨ q = W5.heap.size + 1) W6 (W7.putObj (W5.heap.size + 1) (rc .exhausted none)) := q5.put (fun _ => .inr (.inr (.inr rfl))) _
            generalize W7.putObj (W5.heap.size + 1) (rc .exhausted none) = X at *
            have hK16 : Kept (fun q => q = bf ∨ q = mb ∨ v.ownBlock = some q) w X := hK1.trans ((Kept.of_below hb16).trans hKX (U := fun q => q = bf ∨ q = mb ∨ v1.ownBlock = some q ∨ wd.heap.size ≤ q) (fun _ _ h => .inr (.inr (.inr h))) (fun q hq h => by
                rcases h with h | h | h | h
                · exact .inl h
                · exact .inr (.inl h)
                · exact .inr (.inr (.inl h))
                · exact .inr (.inr (.inr (by omega))))) (fun _ _ h => h) (fun q hq h => by
                rcases h with h | h | h | h
                · exact .inl h
                · exact .inr (.inl h)
                · rcases hO1 q h with h | h
                  · exact .inr (.inr h)
                  · omega
                · omega)
            have hO2 : OwL v v2 w.heap.size := fun g hg => by
              rcases q4 g hg with h | h
              · exact hO1 g h
              · exact .inr (by omega)
            have hD := kept_put1 X W5.heap.size (.deferred none)
            have p2 := p1.kept hD (by omega) (by omega) (by omega) (by omega) (fun g hg => (hw2 g hg).1)
            have hKD := hK16.put (l := W5.heap.size) (fun h => by omega) (.deferred none)
            have P2 := hidden p2
            have PO := hidden hO2
            clear hX q1 q4 q5 q6 b6e E6 HIH r6 d6 hrc HG HO1 p1 p2 hO2 hK16 hL6 hL1 hO1 hKX hD
            go_wp2
            refine ⟨by simp, .inl ⟨_, _, rfl, run_takeDeferred p4, ?_⟩⟩
            exact ⟨_, results_none rfl _ _ _, _, v2, n2, rfl, P2.out, by omega, by omega, hKD, PO.out⟩
          · exact hJ.elim
end Go.Proofs.Ytcokihblicgbpaa
