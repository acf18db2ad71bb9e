/-
  Captures: the package's Locals.
-/
import Derived.Test.YtcokihblicgbpaaCapRoundZ
import Derived.Test.YtcokihblicgbpaaCapBZ
namespace Go.Proofs.Ytcokihblicgbpaa
open Go.RowKit Go.Shelf
attribute [local go_sem] Oper.semAt_some

/-- What each part needs. -/
def lkL (e : Ex) : List Nat := (pts e).mapIdx fun i x => (nmP e i).length + locX x
theorem lkL_len (e : Ex) : (lkL e).length = (pts e).length := by simp [lkL]
theorem lkL_at (e : Ex) (k : Nat) (x : Ex) (h : (pts e)[k]? = some x) : (lkL e)[k]? = some ((nmP e k).length + locX x) := by
  simp [lkL, List.getElem?_mapIdx, h]
theorem loc_pts (e : Ex) (h : ShP e) (h10 : e.kind ≠ 10) : locX e = (lkL e).foldl max 0 := by
  rw [locX_eq, if_neg h10, lkL, pts, List.mapIdx_append, List.foldl_append]
  have e1 : kidL e.kind (e.kids.map locX) = e.kids.mapIdx (fun i x => (nmP e i).length + locX x) := by
    apply List.ext_getElem?
    intro i
    rw [kidL, List.getElem?_mapIdx, List.getElem?_mapIdx, List.getElem?_map]
    by_cases hi : i < e.kids.length
    · rw [List.getElem?_eq_getElem hi]
      simp only [Option.map_some, Option.some.injEq, List.length_map]
      rw [nmP, if_pos hi, bindN, adjL, if_neg h10]
      by_cases h4 : e.kind = 4 ∧ i + 1 = e.kids.length
      · have := (h.2.1 h4.1).1
        rw [if_pos ⟨h4.1, h4.2, by omega⟩, if_pos h4]
        simp
        omega
      · rw [if_neg (fun g => h4 ⟨g.1, g.2.1⟩), if_neg h4]
        simp
    · rw [List.getElem?_eq_none (by omega)]
      rfl
  have e2 : armL e.arms (e.bods.map locX) = e.bods.mapIdx (fun i x => (nmP e (i + e.kids.length)).length + locX x) := by
    apply List.ext_getElem?
    intro i
    rw [armL, List.getElem?_mapIdx, List.getElem?_mapIdx, List.getElem?_map]
    by_cases hi : i < e.bods.length
    · rw [List.getElem?_eq_getElem hi]
      simp only [Option.map_some, Option.some.injEq]
      rw [nmP, if_neg (by omega), Nat.add_sub_cancel]
    · rw [List.getElem?_eq_none (by omega)]
      rfl
  rw [e1, e2]
theorem loc_leaf (e : Ex) (h : ShP e) (h1 : e.kind = 1 ∨ e.kind = 2 ∨ e.kind = 3 ∨ e.kind = 10) : locX e = 0 := by
  by_cases h10 : e.kind = 10
  · rw [locX_eq, if_pos h10]
  · have hk : e.kids = [] ∧ e.bods = [] := by
      rcases h1 with h1 | h1 | h1 | h1
      · exact h.2.2.2 (.inl h1)
      · exact h.2.2.2 (.inr h1)
      · exact h.1 h1
      · exact absurd h1 h10
    rw [loc_pts e h h10, lkL, pts, hk.1, hk.2]
    rfl
theorem txr_shape {F : Nat → Prop} {w : World} {v : Value} {xs : List (List UInt8)} (h : TxR F w v xs) : ∃ a c, v = .slice a xs.length c := by
  rcases h with ⟨a, c, rfl, rfl⟩ | ⟨g, o, c, rfl, _⟩
  · exact ⟨a, c, rfl⟩
  · exact ⟨_, _, rfl⟩
set_option maxRecDepth 1000000 in
set_option maxHeartbeats 4000000 in
theorem places1 (e : Ex) : ∀ (G : Nat → Prop) (b o : Nat) (kv pv av : Value) (bw : Nat) (w : World), EA G w b o e kv pv av → (∀ g, G g → g < w.heap.size) →
    Boxed w bw 58 (.func (.func 27) #[] #[pB bw]) → locX e ≤ 4611686018427387904 → AllX SmP e → AllX ShP e →
    Calls Try.prog 27 #[.pointer (some ⟨b, o, none⟩), pB bw] w (NatE (locX e) w) := by
  induction e using ex_ind with
  | h e ih1 ih2 =>
    intro G b o kv pv av bw w hE hG hBw hlx hSm hSh
    obtain ⟨hSme, hSk, hSb⟩ := (AllX_iff _ _).1 hSm
    obtain ⟨hShe, hHk, hHb⟩ := (AllX_iff _ _).1 hSh
    have x0 : w.cell? ⟨b, o, none⟩ = some (.int .i64 (e.kind : Int)) := hE.ce 0 _ rfl
    have HG := hidden hG
    have HI1 := hidden ih1
    have HI2 := hidden ih2
    have b0 := hBw
    simp only [pB] at b0 ⊢
    refine (callsIn_wide (n := 9)).1 (callsIn_of_wp_marks Try.func27 rfl trivial (wpIn_wide.2 ?_) rfl)
    simp only [Try.ntmps27, List.size_toArray, List.length_cons, List.length_nil, Nat.reduceAdd, Nat.reduceSub, Array.replicate_succ, Array.replicate_zero, List.push_toArray, List.append_toArray, List.nil_append, List.cons_append]
    by_cases hlf : e.kind = 1 ∨ e.kind = 2 ∨ e.kind = 3 ∨ e.kind = 10
    · have HL := hidden (loc_leaf e hShe hlf)
      rw [HL.out]
      have key : ∀ kk : Nat, e.kind = kk → (((e.kind : Int) == 1) = decide (kk = 1)) ∧ (((e.kind : Int) == 2) = decide (kk = 2)) ∧ (((e.kind : Int) == 3) = decide (kk = 3)) ∧ (((e.kind : Int) == 10) = decide (kk = 10)) := fun kk hk => by
        rw [hk]
        refine ⟨?_, ?_, ?_, ?_⟩ <;> (rw [Bool.eq_iff_iff, beq_iff_eq, decide_eq_true_iff]; omega)
      have hor : ∃ kk : Nat, e.kind = kk ∧ (kk = 1 ∨ kk = 2 ∨ kk = 3 ∨ kk = 10) := ⟨e.kind, rfl, hlf⟩
      obtain ⟨kk, hk, hor⟩ := hor
      obtain ⟨t1, t2, t3, t4⟩ := key kk hk
      clear key hlf hk HI1 HI2 hSm hSh hShe hSme hSk hSb hHk hHb hlx ih1 ih2 hG hE hBw b0
      rcases hor with rfl | rfl | rfl | rfl
      all_goals
        simp only [Nat.reduceEqDiff, decide_true, decide_false] at t1 t2 t3 t4
        go_wp2
        exact ⟨_, results_tmp rfl _ _ _, rfl, Below.refl _ _⟩
    · have hn10 : e.kind ≠ 10 := fun h => hlf (.inr (.inr (.inr h)))
      have HL := hidden (loc_pts e hShe hn10)
      have t1 : ((e.kind : Int) == 1) = false := by rw [beq_eq_false_iff_ne]; omega
      have t2 : ((e.kind : Int) == 2) = false := by rw [beq_eq_false_iff_ne]; omega
      have t3 : ((e.kind : Int) == 3) = false := by rw [beq_eq_false_iff_ne]; omega
      have t4 : ((e.kind : Int) == 10) = false := by rw [beq_eq_false_iff_ne]; omega
      obtain ⟨W5, hW5⟩ : ∃ W5, W5 = (w.alloc (.cells #[.int .i64 0] 3)).alloc (.cells #[.pointer (some ⟨b, o, none⟩)] 50) := ⟨_, rfl⟩
      have hK5 : Kept (fun _ => False) w W5 := by rw [hW5]; exact ((Kept.refl _ w).alloc _).alloc _
      have b5m : Boxed W5 w.heap.size 3 (.int .i64 ((0 : Nat) : Int)) := by rw [hW5]; exact (Boxed.new w _ _).alloc _
      have b5e : Boxed W5 (w.heap.size + 1) 50 (.pointer (some ⟨b, o, none⟩)) := by
        rw [hW5]
        have := Boxed.new (w.alloc (.cells #[.int .i64 0] 3)) 50 (.pointer (some ⟨b, o, none⟩))
        rwa [World.size_alloc] at this
      have hs5 : W5.heap.size ≤ w.heap.size + 2 ∧ w.heap.size + 2 ≤ W5.heap.size := by rw [hW5]; simp
      have hp0 := parts0 (some ⟨b, o, none⟩) (w.alloc (.cells #[.int .i64 0] 3))
      rw [← hW5] at hp0
      have lw := hBw.lt
      clear ih1 ih2 hW5 hlf hn10 hSm hSh
      go_wp2_with (go_at_call 26; refine hp0.mono ?_; rintro r w6 ⟨rfl, hw6⟩; obtain rfl := hw6.symm)
      clear hp0 t1 t2 t3 t4 x0
      refine wpIn_wide.1 (range_own (n := 9) rfl rfl (gf := 40) (lb := #[.pointer (some ⟨w.heap.size + 1, 0, none⟩)]) rfl trivial (enters_of Try.func40 (by kernel_rfl) rfl) ?_)
      intro fn hfn
      generalize hrc : recL fn _ _ _ _ W5.heap.size = rc
      obtain ⟨W6, hW6⟩ : ∃ W6, W6 = (W5.alloc (.deferred (some []))).alloc (rc .ready none) := ⟨_, rfl⟩
      have hK6 : Kept (fun _ => False) W5 W6 := by rw [hW6]; exact ((Kept.refl _ W5).alloc _).alloc _
      have hs6 : W6.heap.size ≤ W5.heap.size + 2 ∧ W5.heap.size + 2 ≤ W6.heap.size := by rw [hW6]; simp
      have r6 : W6.heap[W5.heap.size + 1]? = some (rc .ready none) := by
        rw [hW6]
        have := World.alloc_heap_new (W5.alloc (.deferred (some []))) (rc .ready none)
        rwa [World.size_alloc] at this
      have d6 : W6.heap[W5.heap.size]? = some (.deferred (some [])) := by
        rw [hW6]
        exact (Below.heap_alloc _ _ _ (by simp)).trans (World.alloc_heap_new W5 _)
      rw [← hW6]
      have hK16 : Kept (fun _ => False) w W6 := hK5.trans hK6 (fun _ _ h => h) (fun _ _ h => h)
      have b6m := hK6.box b5m (fun h => h)
      have b6e := hK6.box b5e (fun h => h)
      have b6w := hK16.box b0 (fun h => h)
      have E6 : EA G W6 b o e kv pv av := hK16.ea hE HG.out (fun g hg h => h)
      clear hW6 hK6 hK5 b5m b5e hE hBw b0
      have HIH : ∀ k x, (pts e)[k]? = some x → AllX SmP x ∧ AllX ShP x ∧ ∀ (G : Nat → Prop) (b o : Nat) (kv pv av : Value) (bw : Nat) (w : World), EA G w b o x kv pv av → (∀ g, G g → g < w.heap.size) →
          Boxed w bw 58 (.func (.func 27) #[] #[pB bw]) → locX x ≤ 4611686018427387904 → AllX SmP x → AllX ShP x →
          Calls Try.prog 27 #[.pointer (some ⟨b, o, none⟩), pB bw] w (NatE (locX x) w) := fun k x hx => by
        rcases pts_mem e hx with h | h
        · exact ⟨hSk x h, hHk x h, HI1.out x h⟩
        · exact ⟨hSb x h, hHb x h, HI2.out x h⟩
      clear HI1 HI2 hSk hSb hHk hHb
      refine (parts2 (W5.heap.size + 1) (w.heap.size + 1) G e b o kv pv av
        (fun k W => Boxed W w.heap.size 3 (.int .i64 ((((lkL e).take k).foldl max 0 : Nat) : Int)) ∧ Kept (fun q => q = w.heap.size ∨ q = W5.heap.size + 1) W6 W ∧ W.heap[W5.heap.size + 1]? = some (rc .ready none))
        (fun _ => False) hSme ?je ?yy W6 ?j0).mono ?done
      case j0 => exact ⟨by simpa using b6m, Kept.refl _ _, r6⟩
      case je =>
        rintro k W ⟨_, hK, _⟩
        have hz := hK.size
        exact ⟨(hK.box b6e (by omega)).cell, by omega, hK.ea E6 (fun g hg => by have := HG.out g hg; omega) (fun g hg h => by have := HG.out _ hg; omega), fun g hg => by have := HG.out g hg; omega⟩
      case yy =>
        intro k x W0 W pb po k' p' a' nv hx hJ hb hEx htx
        obtain ⟨j1, j3, j4⟩ := hJ
        obtain ⟨hSx, hHx, hIx⟩ := HIH k x hx
        have hz0 := j3.size
        have hzb := hb.size
        have g1 := Boxed.blk j1 (hb.block _ j1.lt)
        have jw := j3.box b6w (by omega)
        have g3 := Boxed.blk jw (hb.block _ jw.lt)
        have hl : W.heap[W5.heap.size + 1]? = some (rc .ready none) := (hb.block _ (by omega)).trans j4
        have hK9 : Kept (fun q => q = w.heap.size ∨ q = W5.heap.size + 1) W6 W := j3.trans (Kept.of_below hb) (fun _ _ h => h) (fun q hq h => by omega)
        have hkl : k < (lkL e).length := by rw [lkL_len]; exact (List.getElem?_eq_some_iff.1 hx).1
        have hat := lkL_at e k x hx
        have m1 := maxN_take (lkL e) k hkl 0
        rw [show (lkL e)[k] = (nmP e k).length + locX x by rw [List.getElem?_eq_getElem hkl] at hat; simpa using hat] at m1
        have m2 : ((lkL e).take (k + 1)).foldl max 0 ≤ (lkL e).foldl max 0 := by
          have h := congrArg (fun z => z.foldl max 0) (List.take_append_drop (k + 1) (lkL e))
          simp only [List.foldl_append] at h
          rw [← h]
          exact (maxN_ge _ _).1
        have m3 : (lkL e).foldl max 0 ≤ 4611686018427387904 := by rw [← HL.out]; exact hlx
        obtain ⟨na, nc, rfl⟩ := txr_shape htx
        obtain ⟨R, hR⟩ : ∃ R, R = YldE (fun W => Boxed W w.heap.size 3 (.int .i64 ((((lkL e).take (k + 1)).foldl max 0 : Nat) : Int)) ∧ Kept (fun q => q = w.heap.size ∨ q = W5.heap.size + 1) W6 W ∧ W.heap[W5.heap.size + 1]? = some (rc .ready none)) (fun _ => False) := ⟨_, rfl⟩
        rw [← hR]
        have HR := hidden hR
        clear hR
        rw [m1] at HR m2
        generalize ((lkL e).take k).foldl max 0 = mk at *
        generalize locX x = lx at *
        generalize (nmP e k).length = ln at *
        have hKV : Kept (fun q => q = W5.heap.size + 1) W (W.putObj (W5.heap.size + 1) (rc .busy none)) := kept_put1 _ _ _
        have hlt : W5.heap.size + 1 < W.heap.size := (Array.getElem?_eq_some_iff.1 hl).1
        have rb : (W.putObj (W5.heap.size + 1) (rc .busy none)).heap[W5.heap.size + 1]? = some (rc .busy none) := World.putObj_heap_same hlt
        have f1 := hKV.box g1 (by omega)
        have f3 := hKV.box g3 (by omega)
        have hKV2 := hKV.size
        have EV := hKV.ea hEx (fun g hg => by have := HG.out g hg; omega) (fun g hg h => by have := HG.out g hg; omega)
        have hK9' : Kept (fun q => q = w.heap.size ∨ q = W5.heap.size + 1) W6 (W.putObj (W5.heap.size + 1) (rc .busy none)) := hK9.put (fun _ => .inr rfl) _
        obtain ⟨V, hV⟩ : ∃ V, V = W.putObj (W5.heap.size + 1) (rc .busy none) := ⟨_, rfl⟩
        rw [← hV] at rb f1 f3 hKV2 EV hK9'
        have hlV : W5.heap.size + 1 < V.heap.size := by omega
        have hlw : w.heap.size < V.heap.size := by omega
        have hcall : Calls Try.prog 27 #[.pointer (some ⟨pb, po, none⟩), pB bw] V.drew (NatE lx V.drew) := by
          exact hIx G pb po k' p' a' bw V.drew (EA.frame (w := V) (w' := V.drew) (fun g hg => ⟨hg, rfl⟩) EV) (fun g hg => by have := HG.out g hg; show g < V.heap.size; omega) f3 (by omega) hSx hHx
        have c1 := f1.cell
        have z1 := f1.frozen
        have c3 := f3.cell
        have t3 : (mk : Int) ≤ 4611686018427387904 := by omega
        have t4 : (ln : Int) + (lx : Int) ≤ 4611686018427387904 := by omega
        have t5 : IntKind.i64.wrap ((ln : Int) + (lx : Int)) = (ln : Int) + (lx : Int) := by rw [IntKind.wrap_i64]; omega
        simp only [pB] at hcall
        have HW : Hid (∀ V9, Below V.drew.heap.size V.drew V9 → (V9.cell? ⟨w.heap.size, 0, none⟩ = some (.int .i64 (mk : Int)) ∧ V9.frozen? ⟨w.heap.size, 0, none⟩ = false ∧ V9.cell? ⟨bw, 0, none⟩ = V.cell? ⟨bw, 0, none⟩) ∧
            ∀ q, q = max (mk : Int) ((ln : Int) + (lx : Int)) → (V9.setCell ⟨w.heap.size, 0, none⟩ (.int .i64 q)).heap[W5.heap.size + 1]? = some (rc .busy none) ∧ R (.returned (.bool true)) ((V9.setCell ⟨w.heap.size, 0, none⟩ (.int .i64 q)).putObj (W5.heap.size + 1) (rc .ready none))) := by
          rw [hid_iff]
          intro V9 hb9
          have hb9' : Below V.heap.size V V9 := ⟨hb9.os, hb9.tape, hb9.output, hb9.size, hb9.block⟩
          have u1 := Boxed.blk f1 (hb9'.block _ f1.lt)
          refine ⟨⟨u1.cell, u1.frozen, World.cell?_of_block (hb9'.block _ f3.lt)⟩, ?_⟩
          rintro q rfl
          have u2 := u1.set (.int .i64 (max (mk : Int) ((ln : Int) + (lx : Int))))
          have h5 : (V9.setCell ⟨w.heap.size, 0, none⟩ (.int .i64 (max (mk : Int) ((ln : Int) + (lx : Int))))).heap[W5.heap.size + 1]? = some (rc .busy none) := (Below.heap_setCell V9 _ _ _ (by simp; omega)).trans ((hb9'.block _ hlV).trans rb)
          refine ⟨h5, ?_⟩
          rw [HR.out]
          refine ⟨true, rfl, fun _ => ?_, fun h => by cases h⟩
          refine ⟨?_, ((hK9'.trans (Kept.of_below hb9') (U := fun q => q = w.heap.size ∨ q = W5.heap.size + 1) (fun _ _ h => h) (fun q hq h => by omega)).setCell (p := ⟨w.heap.size, 0, none⟩) (fun _ => .inl rfl) _).put (fun _ => .inr rfl) _, World.putObj_heap_same (Array.getElem?_eq_some_iff.1 h5).1⟩
          have := (kept_put1 (V9.setCell ⟨w.heap.size, 0, none⟩ (.int .i64 (max (mk : Int) ((ln : Int) + (lx : Int))))) (W5.heap.size + 1) (rc .ready none)).box u2 (by omega)
          rw [show ((max mk (ln + lx) : Nat) : Int) = max (mk : Int) ((ln : Int) + (lx : Int)) by omega]
          exact this
        clear HR hK9' rb f1 f3 g1 g3 hIx hSx hHx hx hEx htx hb j1 j3 j4 jw m1 m2 m3 hat hkl hK9 hKV hKV2 hlt hz0 hzb b6m b6e b6w E6 hK16 HIH hs6 r6 d6 EV HL hlx
        have HV : Hid (∀ u, u = V → u = W.putObj (W5.heap.size + 1) (rc .busy none)) := fun u hu => hu.trans hV
        clear hV
        subst hrc
        refine yield_round hfn hl rfl ?_
        generalize recL fn _ _ _ _ W5.heap.size = rc at *
        gi_wp2_with fail
        refine ⟨hl, ?_⟩
        rw [← HV.out V rfl]
        clear HV hl
        have hmx : Try.prog.follows .mixedOrders = true := by kernel_rfl
        gi_wp2_with fail
        refine region_round (F := Fence.wide) rfl hmx (by kernel_rfl) ?_
        refine wpAnyIn_take (i := 1) (v := .slice na ln nc) rfl rfl (by kernel_rfl) (by kernel_rfl) (by kernel_rfl) (fun _ _ _ h => h) ⟨Or.inl ⟨by rfl, fun w => by go_simp⟩, fun _ => rfl⟩ ?_
        refine wpAnyIn_take (i := 4) (v := .pointer (some ⟨pb, po, none⟩)) rfl rfl (by kernel_rfl) (by kernel_rfl) (by kernel_rfl) (fun _ _ _ h => h) ⟨Or.inl ⟨by rfl, fun w => by go_simp⟩, fun _ => rfl⟩ ?_
        refine wpAnyIn_take (i := 2) (v := .int .i64 (ln : Int)) rfl rfl (by kernel_rfl) (by kernel_rfl) (by kernel_rfl) (fun _ _ _ h => h) ⟨Or.inl ⟨by rfl, fun w => by go_simp⟩, fun _ => rfl⟩ ?_
        refine wpAnyIn_ready (rs := [0, 3]) (by kernel_rfl) (by simp) ?_
        refine AllReadyIn.cons rfl (fun K hK => ?_) (AllReadyIn.cons rfl (fun K hK => ?_) AllReadyIn.nil)
        · go_simp
          refine hK _ _ ?_
          clear hK K
          refine wpAnyIn_ready (rs := [3]) (by kernel_rfl) (by simp) ?_
          refine AllReadyIn.cons rfl (fun K hK => ?_) AllReadyIn.nil
          go_simp
          refine hK _ _ ?_
          clear hK K
          refine wpAnyIn_ready (rs := [5]) (by kernel_rfl) (by simp) ?_
          refine AllReadyIn.cons rfl (fun K hK => ?_) AllReadyIn.nil
          go_simp
          refine ⟨trivial, (callsIn_wide.2 hcall).mono ?_⟩
          rintro r V9 ⟨rfl, hb9⟩
          obtain ⟨⟨k1, k2, k3⟩, hfi⟩ := HW.out V9 hb9
          rw [c3] at k3
          have hfin := hidden hfi
          clear hfi hb9
          refine hK _ _ ?_
          clear hK K
          refine wpAnyIn_take (i := 6) (v := .int .i64 ((ln : Int) + (lx : Int))) rfl rfl (by kernel_rfl) (by kernel_rfl) (by kernel_rfl) (fun _ _ _ h => h) ⟨Or.inl ⟨by rfl, fun w => by go_simp⟩, fun _ => rfl⟩ ?_
          refine wpAnyIn_take (i := 7) (v := .int .i64 (max (mk : Int) ((ln : Int) + (lx : Int)))) rfl rfl (by kernel_rfl) (by kernel_rfl) (by kernel_rfl) (fun _ _ _ h => h) ⟨Or.inl ⟨by rfl, fun w => by go_simp⟩, fun _ => rfl⟩ ?_
          refine wpAnyIn_ready (rs := [8]) (by kernel_rfl) (by simp) ?_
          refine AllReadyIn.cons rfl (fun K hK => ?_) AllReadyIn.nil
          go_simp
          refine hK _ _ ?_
          clear hK K
          refine wpAnyIn_done (by kernel_rfl) ?_ _
          gi_wp2
          exact hfin.out _ rfl
        · go_simp
          refine hK _ _ ?_
          clear hK K
          refine wpAnyIn_ready (rs := [0, 5]) (by kernel_rfl) (by simp) ?_
          refine AllReadyIn.cons rfl (fun K hK => ?_) (AllReadyIn.cons rfl (fun K hK => ?_) AllReadyIn.nil)
          · go_simp
            refine hK _ _ ?_
            clear hK K
            refine wpAnyIn_ready (rs := [5]) (by kernel_rfl) (by simp) ?_
            refine AllReadyIn.cons rfl (fun K hK => ?_) AllReadyIn.nil
            go_simp
            refine ⟨trivial, (callsIn_wide.2 hcall).mono ?_⟩
            rintro r V9 ⟨rfl, hb9⟩
            obtain ⟨⟨k1, k2, k3⟩, hfi⟩ := HW.out V9 hb9
            rw [c3] at k3
            have hfin := hidden hfi
            clear hfi hb9
            refine hK _ _ ?_
            clear hK K
            refine wpAnyIn_take (i := 6) (v := .int .i64 ((ln : Int) + (lx : Int))) rfl rfl (by kernel_rfl) (by kernel_rfl) (by kernel_rfl) (fun _ _ _ h => h) ⟨Or.inl ⟨by rfl, fun w => by go_simp⟩, fun _ => rfl⟩ ?_
            refine wpAnyIn_take (i := 7) (v := .int .i64 (max (mk : Int) ((ln : Int) + (lx : Int)))) rfl rfl (by kernel_rfl) (by kernel_rfl) (by kernel_rfl) (fun _ _ _ h => h) ⟨Or.inl ⟨by rfl, fun w => by go_simp⟩, fun _ => rfl⟩ ?_
            refine wpAnyIn_ready (rs := [8]) (by kernel_rfl) (by simp) ?_
            refine AllReadyIn.cons rfl (fun K hK => ?_) AllReadyIn.nil
            go_simp
            refine hK _ _ ?_
            clear hK K
            refine wpAnyIn_done (by kernel_rfl) ?_ _
            gi_wp2
            exact hfin.out _ rfl
          · go_simp
            refine ⟨trivial, (callsIn_wide.2 hcall).mono ?_⟩
            rintro r V9 ⟨rfl, hb9⟩
            obtain ⟨⟨k1, k2, k3⟩, hfi⟩ := HW.out V9 hb9
            rw [c3] at k3
            have hfin := hidden hfi
            clear hfi hb9
            refine hK _ _ ?_
            clear hK K
            refine wpAnyIn_take (i := 6) (v := .int .i64 ((ln : Int) + (lx : Int))) rfl rfl (by kernel_rfl) (by kernel_rfl) (by kernel_rfl) (fun _ _ _ h => h) ⟨Or.inl ⟨by rfl, fun w => by go_simp⟩, fun _ => rfl⟩ ?_
            refine wpAnyIn_ready (rs := [0]) (by kernel_rfl) (by simp) ?_
            refine AllReadyIn.cons rfl (fun K hK => ?_) AllReadyIn.nil
            go_simp
            refine hK _ _ ?_
            clear hK K
            refine wpAnyIn_take (i := 7) (v := .int .i64 (max (mk : Int) ((ln : Int) + (lx : Int)))) rfl rfl (by kernel_rfl) (by kernel_rfl) (by kernel_rfl) (fun _ _ _ h => h) ⟨Or.inl ⟨by rfl, fun w => by go_simp⟩, fun _ => rfl⟩ ?_
            refine wpAnyIn_ready (rs := [8]) (by kernel_rfl) (by simp) ?_
            refine AllReadyIn.cons rfl (fun K hK => ?_) AllReadyIn.nil
            go_simp
            refine hK _ _ ?_
            clear hK K
            refine wpAnyIn_done (by kernel_rfl) ?_ _
            gi_wp2
            exact hfin.out _ rfl
      case done =>
        rintro r W7 ⟨⟨v, rfl⟩, hJ | hJ⟩
        · obtain ⟨q1, q3, q4⟩ := hJ
          refine ⟨⟨v, rfl⟩, .inl ⟨q4, ?_⟩⟩
          rw [← lkL_len, List.take_of_length_le (Nat.le_refl _), ← HL.out] at q1
          have hX := kept_put1 W7 (W5.heap.size + 1) (rc .exhausted none)
          have p1 := hX.box q1 (by omega)
          have p4 : (W7.putObj (W5.heap.size + 1) (rc .exhausted none)).heap[W5.heap.size]? = some (.deferred (some [])) := (hX.block _ (by have := q3.size; omega) (by omega)).trans ((q3.block _ (by omega) (by omega)).trans d6)
          have hKX : Kept (fun q => q = w.heap.size ∨ q = W5.heap.size + 1) W6 (W7.putObj (W5.heap.size + 1) (rc .exhausted none)) := q3.put (fun _ => .inr rfl) _
          have p5 := p1.cell
          generalize W7.putObj (W5.heap.size + 1) (rc .exhausted none) = X at *
          clear hX q1 q3 q4 b6m b6w b6e E6 HIH r6 d6 hrc HG HL
          go_wp2
          refine ⟨by simp, .inl ⟨_, _, rfl, run_takeDeferred p4, ?_⟩⟩
          refine ⟨_, results_tmp rfl _ _ _, rfl, ?_⟩
          have hKY : Kept (fun q => w.heap.size ≤ q) w X := (hK16.mono (T := fun q => w.heap.size ≤ q) (fun _ _ h => h.elim)).trans hKX (fun _ _ h => h) (fun q hq h => by omega)
          exact (hKY.put (fun h => by omega) _).below (Nat.le_refl _) (fun x hx h => by omega)
        · exact hJ.elim
set_option maxRecDepth 1000000 in
set_option maxHeartbeats 1000000 in
theorem capLocals (e : Ex) (G : Nat → Prop) (kv pv av : Value) (w : World) (hX : XI G w kv pv av e) (hG : ∀ g, G g → g < w.heap.size) (hdp : depX e ≤ 262144) (hct : cntX e ≤ 2147483647) (hlc : locX e ≤ 4611686018427387904) (hSm : AllX SmP e) (hSh : AllX ShP e) :
    Calls Try.prog 9 #[exv e kv pv av] w (NatE (locX e) w) := by
  have hE := ea_box hX hG
  have hL := ea_lt hG (.cells (exc e kv pv av).toArray 27)
  have hcall := measure0 e _ _ _ kv pv av _ hE hL hdp hct hSm
  obtain ⟨⟨y1, y2, rfl⟩, ⟨y3, y4, rfl⟩, ⟨y5, y6, rfl⟩⟩ := hX.shapes
  have hb : Below w.heap.size w (w.alloc (.cells (exc e (.slice y1 e.kids.length y2) (.slice y3 e.params.length y4) (.slice y5 e.bods.length y6)).toArray 27)) := (Below.refl _ w).alloc (Nat.le_refl _) _
  have HU : Hid (∀ w9, Below (w.alloc (.cells (exc e (.slice y1 e.kids.length y2) (.slice y3 e.params.length y4) (.slice y5 e.bods.length y6)).toArray 27)).heap.size (w.alloc (.cells (exc e (.slice y1 e.kids.length y2) (.slice y3 e.params.length y4) (.slice y5 e.bods.length y6)).toArray 27)) w9 →
      ∃ W3, (store ⟨w9.heap.size, 0, none⟩ (.func (.func 27) #[] #[.pointer (some ⟨w9.heap.size, 0, none⟩)])).run Try.prog (w9.alloc (.cells #[.nilFunc] 58)) = .ok () W3 ∧ W3.cell? ⟨w9.heap.size, 0, none⟩ = some (.func (.func 27) #[] #[.pointer (some ⟨w9.heap.size, 0, none⟩)]) ∧
        Calls Try.prog 27 #[.pointer (some ⟨w.heap.size, 0, none⟩), .pointer (some ⟨w9.heap.size, 0, none⟩)] W3 (NatE (locX e) W3) ∧ Below w.heap.size w W3) := by
    rw [hid_iff]
    intro w9 hb9
    have z3 := Boxed.new w9 58 .nilFunc
    have s3 := z3.set (.func (.func 27) #[] #[pB w9.heap.size])
    have hb3 : Below w9.heap.size w9 ((w9.alloc (.cells #[.nilFunc] 58)).setCell ⟨w9.heap.size, 0, none⟩ (.func (.func 27) #[] #[pB w9.heap.size])) := ((Below.refl _ w9).alloc (Nat.le_refl _) _).setCell (p := ⟨w9.heap.size, 0, none⟩) (Nat.le_refl _) _
    have hb4 := hb9.trans (hb3.mono hb9.size)
    have E3 := hE.below hb4 hL
    have hz := hb4.size
    refine ⟨_, store_box z3 rfl, s3.cell, places1 e _ _ _ _ _ _ _ _ E3 (fun g hg => Nat.lt_of_lt_of_le (hL g hg) hz) s3 hlc hSm hSh, hb.trans (hb4.mono hb.size)⟩
  unfold exc at hcall hb HU
  unfold exv
  clear hE hL hX hG hdp hct hSm hSh hlc
  go_enter Try.func9, Try.ntmps9
  go_wp2_with (first
    | (go_at_call 22; refine hcall.mono ?_; rintro r w9 ⟨rfl, hb9⟩; obtain ⟨W3, hst, hc3, hpl, hb3⟩ := HU.out w9 hb9)
    | (go_at_call 27; refine hpl.mono ?_; rintro r w10 ⟨rfl, hb10⟩))
  go_ret
  exact ⟨rfl, hb3.trans (hb10.mono hb3.size)⟩
end Go.Proofs.Ytcokihblicgbpaa
