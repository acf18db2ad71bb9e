/-
  A walk's goTo: the state waits for a place, with more on its stack.
-/
import Derived.Test.YtdeckknfolaaeaaGreatDoorG22
import Derived.Deep.RegionHeld3
import Derived.Deep.DeepCutAuto
namespace Go.Proofs.YtdeckknfolaaeaaGreatDoor
open Go.RowKit Go.Maps

/-- Behind goTo's first statement: the new state in its box. -/
structure GoS (w : World) (xs los : List (List UInt8)) (Bx : Nat) (v3 v4 : Value) (wx : World) : Prop where
  ge : w.heap.size ≤ Bx
  box : wx.heap[Bx]? = some (.cells #[v3, v4] 95 (0, 0))
  st : wx.ownsRow w.heap.size 9 1 v3 xs.length (sc xs)
  lo : NewR w.heap.size wx v4 los
  ne : ∀ g, v3.ownBlock = some g → v4.ownBlock ≠ some g
  bl : Below w.heap.size w wx
theorem owns_mono {w : World} {B B' e sz n : Nat} {v : Value} {xs : List Value} (h : w.ownsRow B e sz v n xs) (hB : B' ≤ B) : w.ownsRow B' e sz v n xs := by
  refine ⟨h.1, ?_⟩
  rcases h.2 with hn | ⟨g, cap, cur, rfl, h2, h3⟩
  · exact .inl hn
  · exact .inr ⟨g, cap, cur, rfl, Nat.le_trans hB h2, h3⟩
theorem infoSt : (Tryz.prog.info? 95).map (fun i => (i.zero.map (fun z => z.cells.size), i.size, i.bytes)) = some (some 2, 2, 48) := by kernel_rfl
theorem new_cell (w : World) (cs : Array Value) (t : TypeId) (j : Nat) (v : Value) (h : cs[j]? = some v) : (w.alloc (.cells cs t)).cell? ⟨w.heap.size, j, none⟩ = some v := by
  rw [cell_of_row _ _ j _ _ _ (World.alloc_heap_new w _)]
  exact h
theorem go_fin {w w3 w4 : World} {xs los : List (List UInt8)} {Bx B3 B4 : Nat} {v3 v4 : Value} (ho3 : w3.ownsRow B3 9 1 v3 xs.length (sc xs)) (hB3 : w.heap.size ≤ B3) (hn4 : NewR B4 w4 v4 los) (hB4 : w3.heap.size ≤ B4) (h34 : ∀ g, g < w3.heap.size → w4.heap[g]? = w3.heap[g]?) (hx4 : w4.heap[Bx]? = some (.cells #[.slice none 0 0, .slice none 0 0] 95 (0, 0))) (hbx : w.heap.size ≤ Bx) (hz : w.heap.size ≤ w3.heap.size) (hd : (w3.heap.size ≤ Bx ∧ Bx < B4) ∨ Bx < B3 ∧ Bx < w3.heap.size) (G4 : Below w.heap.size w w4) :
    GoS w xs los Bx v3 v4 ((w4.setCell ⟨Bx, 0, none⟩ v3).setCell ⟨Bx, 1, none⟩ v4) := by
  have n3 : ∀ g, v3.ownBlock = some g → g ≠ Bx ∧ g < w3.heap.size := fun g hg => by
    have := ho3.lt g hg
    omega
  have n4 : ∀ g, v4.ownBlock = some g → g ≠ Bx ∧ w3.heap.size ≤ g := fun g hg => by
    have := hn4.blk hg
    omega
  have o : ∀ g, g ≠ Bx → ((w4.setCell ⟨Bx, 0, none⟩ v3).setCell ⟨Bx, 1, none⟩ v4).heap[g]? = w4.heap[g]? := fun g hg => (set_other _ hg).trans (set_other _ hg)
  refine ⟨hbx, heap_setCell_same _ Bx 1 _ _ v4 (heap_setCell_same w4 Bx 0 _ _ v3 hx4), owns_mono (owns_same ho3 fun g hg => (o g (n3 g hg).1).trans (h34 g (n3 g hg).2)) hB3, (hn4.same fun g hg => o g (n4 g hg).1).mono (by omega), fun g hg e => ?_, (G4.setCell (p := ⟨Bx, 0, none⟩) hbx v3).setCell (p := ⟨Bx, 1, none⟩) hbx v4⟩
  have h1 := (n3 g hg).2
  have h2 := (n4 g e).2
  omega
theorem go_fin2 {w w3 w4 : World} {xs los : List (List UInt8)} {B3 : Nat} {v3 v4 : Value} (ho3 : w3.ownsRow B3 9 1 v3 xs.length (sc xs)) (hB3 : w.heap.size ≤ B3) (hn4 : NewR w3.heap.size w4 v4 los) (hb4 : Below w3.heap.size w3 w4) (G4 : Below w.heap.size w w4) (hz : w.heap.size ≤ w3.heap.size) :
    GoS w xs los w4.heap.size v3 v4 (w4.alloc (.cells #[v3, v4] 95)) := by
  have n3 : ∀ g, v3.ownBlock = some g → g < w3.heap.size := fun g hg => (ho3.lt g hg).2
  have hs := hb4.size
  refine ⟨G4.size, World.alloc_heap_new w4 _, owns_mono (owns_same ho3 fun g hg => (Below.heap_alloc _ _ _ (by have := n3 g hg; omega)).trans (hb4.block g (n3 g hg))) hB3, (hn4.same fun g hg => Below.heap_alloc _ _ _ (hn4.blk hg).2).mono hz, fun g hg e => ?_, G4.alloc G4.size _⟩
  have h1 := n3 g hg
  have h2 := (hn4.blk e).1
  omega
set_option maxRecDepth 1000000 in
set_option maxHeartbeats 4000000 in
theorem vgo {col : Nat → Tag} {w : World} {wb : Nat} {u : ObV} {m res : List UInt8} {sy : Value} {mb n : Nat} {ps : List Int} {cur : Int} {k : Wk} {sv lv : Value} (h : VwR col w wb u m res sy mb n ps cur k sv lv) (p : Int) (hp : p ∈ ps) (hcp : cur < p) (hpb : -9223372036854775808 ≤ p ∧ p ≤ 9223372036854775807) (v : Value) (ts : List (List UInt8)) (hv : RdV col w v ts) (hl : k.st.stack.length ≤ 48) (hts : ts.length ≤ 48) (hlo : k.st.locals.length ≤ 256) (hn : n ≤ 1000000) (hwt : (waitS k.wt p).length ≤ 1000000) :
    Calls Tryz.prog 75 #[.pointer (some ⟨wb, 0, none⟩), .int .i64 p, v] w fun e w' => e = .returned (.tuple #[]) ∧ Kc col ownT w w' ∧ VwQ col w wb u m res sy mb (n + 1) ps cur (goV k p ts) w' := by
  have H := hidden h
  obtain ⟨⟨c9, c10, c11, c12⟩, f11, f12⟩ := h.base.cells
  have hwb := h.base.lt
  have hS := h.stack.row
  have hL := h.locs.row
  have hP := hv.row
  obtain ⟨sa, scp, rfl⟩ := hS.shape
  obtain ⟨la, lcp, rfl⟩ := hL.shape
  obtain ⟨va, vcp, rfl⟩ := hP.shape
  have HU : Hid (∀ x, Below w.heap.size w x → (x.cell? ⟨wb, 11, none⟩ = some (.slice sa k.st.stack.length scp) ∧ x.cell? ⟨wb, 12, none⟩ = some (.slice la k.st.locals.length lcp)) ∧ StrRow x (.slice sa k.st.stack.length scp) k.st.stack ∧ StrRow x (.slice la k.st.locals.length lcp) k.st.locals ∧ StrRow x (.slice va ts.length vcp) ts) := fun x hx => ⟨⟨(World.cell?_of_block (hx.block wb hwb)).trans c11, (World.cell?_of_block (hx.block wb hwb)).trans c12⟩, hS.below hx, hL.below hx, hP.below hx⟩
  have hCat : ∀ (x : World) (b c : Nat), Below w.heap.size w x → x.cell? ⟨b, 0, none⟩ = some (.slice sa k.st.stack.length scp) → x.cell? ⟨b, 1, none⟩ = some (.slice va ts.length vcp) → Calls Tryz.prog 151 #[.slice (some ⟨b, 0, none⟩) 2 c] x fun e w' => ∃ v', e = .returned v' ∧ w'.ownsRow x.heap.size 9 1 v' (k.st.stack ++ ts).length (sc (k.st.stack ++ ts)) ∧ Below x.heap.size x w' := fun x b c hx d0 d1 => vconcat b c _ _ _ _ x (HU.out x hx).2.1 (HU.out x hx).2.2.2 d0 d1 (World.block_lt_of_cell? x _ d0) (by omega)
  have hClo : ∀ (x : World), Below w.heap.size w x → Calls Tryz.prog 152 #[.slice la k.st.locals.length lcp] x fun e w' => ∃ v', e = .returned v' ∧ NewR x.heap.size w' v' k.st.locals ∧ Below x.heap.size x w' := fun x hx => vclone _ _ x (HU.out x hx).2.2.1 (by omega)
  obtain ⟨nx, hnx⟩ : ∃ nx, nx = k.st.stack ++ ts := ⟨_, rfl⟩
  rw [← hnx] at hCat
  have HN := hidden hnx
  clear h hS hL hP f11 f12 c9 hnx
  have G0 : Below w.heap.size w w.drew := below_drew (Below.refl _ w)
  go_enter Tryz.func75, Tryz.ntmps75
  go_wp2_with fail
  go_cut [6] (fun p6 wx => ∃ Bx v3 v4, p6 = .pointer (some ⟨Bx, 0, none⟩) ∧ GoS w nx k.st.locals Bx v3 v4 wx)
  case first =>
    refine wp_region_held (S := fun x => Below w.heap.size w x) (by kernel_rfl) ?_
    show wpAnyH Tryz.prog .any _ _ _ _ _ _ w.drew
    refine wpAnyH_take (i := 0) (v := .pointer (some ⟨wb, 0, none⟩)) rfl (by kernel_rfl) (by kernel_rfl) (by kernel_rfl) (fun _ _ _ h => h) (.inl ⟨by rfl, fun x hx => by go_simp⟩) G0 ?_
    show wpAnyH Tryz.prog .any _ _ _ _ _ (Act.put _ (some 7) (.pointer (some ⟨wb, 0, none⟩))) _
    simp only [Act.put, List.setIfInBounds_toArray, List.set_cons_zero, List.set_cons_succ]
    refine wpAnyH_take (i := 1) (v := .pointer (some ⟨wb, 0, none⟩)) rfl (by kernel_rfl) (by kernel_rfl) (by kernel_rfl) (fun _ _ _ h => h) (.inl ⟨by rfl, fun x hx => by go_simp⟩) G0 ?_
    show wpAnyH Tryz.prog .any _ _ _ _ _ (Act.put _ (some 8) (.pointer (some ⟨wb, 0, none⟩))) _
    simp only [Act.put, List.setIfInBounds_toArray, List.set_cons_zero, List.set_cons_succ]
    refine wpAnyH_take (i := 2) (v := .pointer (some ⟨wb, 11, none⟩)) rfl (by kernel_rfl) (by kernel_rfl) (by kernel_rfl) (fun _ _ _ h => h) (.inl ⟨by rfl, fun x hx => by go_simp⟩) G0 ?_
    show wpAnyH Tryz.prog .any _ _ _ _ _ (Act.put _ (some 9) (.pointer (some ⟨wb, 11, none⟩))) _
    simp only [Act.put, List.setIfInBounds_toArray, List.set_cons_zero, List.set_cons_succ]
    refine wpAnyH_take (i := 3) (v := .pointer (some ⟨wb, 11, none⟩)) rfl (by kernel_rfl) (by kernel_rfl) (by kernel_rfl) (fun _ _ _ h => h) (.inl ⟨by rfl, fun x hx => by go_simp⟩) G0 ?_
    show wpAnyH Tryz.prog .any _ _ _ _ _ (Act.put _ (some 10) (.pointer (some ⟨wb, 11, none⟩))) _
    simp only [Act.put, List.setIfInBounds_toArray, List.set_cons_zero, List.set_cons_succ]
    refine wpAnyH_take (i := 4) (v := .slice sa k.st.stack.length scp) rfl (by kernel_rfl) (by kernel_rfl) (by kernel_rfl) (fun _ _ _ h => h) (.inl ⟨by rfl, fun x hx => by obtain ⟨⟨z11, z12⟩, -⟩ := HU.out x hx; go_simp⟩) G0 ?_
    show wpAnyH Tryz.prog .any _ _ _ _ _ (Act.put _ (some 11) (.slice sa k.st.stack.length scp)) _
    simp only [Act.put, List.setIfInBounds_toArray, List.set_cons_zero, List.set_cons_succ]
    refine wpAnyH_take (i := 5) (v := .slice va ts.length vcp) rfl (by kernel_rfl) (by kernel_rfl) (by kernel_rfl) (fun _ _ _ h => h) (.inl ⟨by rfl, fun x hx => by go_simp⟩) G0 ?_
    show wpAnyH Tryz.prog .any _ _ _ _ _ (Act.put _ (some 12) (.slice va ts.length vcp)) _
    simp only [Act.put, List.setIfInBounds_toArray, List.set_cons_zero, List.set_cons_succ]
    refine wpAnyH_take (i := 8) (v := .pointer (some ⟨wb, 0, none⟩)) rfl (by kernel_rfl) (by kernel_rfl) (by kernel_rfl) (fun _ _ _ h => h) (.inl ⟨by rfl, fun x hx => by go_simp⟩) G0 ?_
    show wpAnyH Tryz.prog .any _ _ _ _ _ (Act.put _ (some 15) (.pointer (some ⟨wb, 0, none⟩))) _
    simp only [Act.put, List.setIfInBounds_toArray, List.set_cons_zero, List.set_cons_succ]
    refine wpAnyH_take (i := 9) (v := .pointer (some ⟨wb, 0, none⟩)) rfl (by kernel_rfl) (by kernel_rfl) (by kernel_rfl) (fun _ _ _ h => h) (.inl ⟨by rfl, fun x hx => by go_simp⟩) G0 ?_
    show wpAnyH Tryz.prog .any _ _ _ _ _ (Act.put _ (some 16) (.pointer (some ⟨wb, 0, none⟩))) _
    simp only [Act.put, List.setIfInBounds_toArray, List.set_cons_zero, List.set_cons_succ]
    refine wpAnyH_take (i := 10) (v := .pointer (some ⟨wb, 11, none⟩)) rfl (by kernel_rfl) (by kernel_rfl) (by kernel_rfl) (fun _ _ _ h => h) (.inl ⟨by rfl, fun x hx => by go_simp⟩) G0 ?_
    show wpAnyH Tryz.prog .any _ _ _ _ _ (Act.put _ (some 17) (.pointer (some ⟨wb, 11, none⟩))) _
    simp only [Act.put, List.setIfInBounds_toArray, List.set_cons_zero, List.set_cons_succ]
    refine wpAnyH_take (i := 11) (v := .pointer (some ⟨wb, 12, none⟩)) rfl (by kernel_rfl) (by kernel_rfl) (by kernel_rfl) (fun _ _ _ h => h) (.inl ⟨by rfl, fun x hx => by go_simp⟩) G0 ?_
    show wpAnyH Tryz.prog .any _ _ _ _ _ (Act.put _ (some 18) (.pointer (some ⟨wb, 12, none⟩))) _
    simp only [Act.put, List.setIfInBounds_toArray, List.set_cons_zero, List.set_cons_succ]
    refine wpAnyH_take (i := 12) (v := .slice la k.st.locals.length lcp) rfl (by kernel_rfl) (by kernel_rfl) (by kernel_rfl) (fun _ _ _ h => h) (.inl ⟨by rfl, fun x hx => by obtain ⟨⟨z11, z12⟩, -⟩ := HU.out x hx; go_simp⟩) G0 ?_
    show wpAnyH Tryz.prog .any _ _ _ _ _ (Act.put _ (some 19) (.slice la k.st.locals.length lcp)) _
    simp only [Act.put, List.setIfInBounds_toArray, List.set_cons_zero, List.set_cons_succ]
    refine wpAnyH_ready (rs := [6, 15]) (by kernel_rfl) (by simp) ?_
    refine AllReadyH.cons rfl (fun K hK => ?_) (AllReadyH.cons rfl (fun K hK => ?_) AllReadyH.nil)
    · go_simp
      refine hK.out _ _ (G0.alloc (by simp) _) (fun _ => ?_)
      clear hK K
      refine wpAnyH_ready (rs := [7, 15]) (by kernel_rfl) (by simp) ?_
      refine AllReadyH.cons rfl (fun K hK => ?_) (AllReadyH.cons rfl (fun K hK => ?_) AllReadyH.nil)
      · go_simp
        refine (hCat (w.drew.alloc (.cells #[.slice sa k.st.stack.length scp, .slice va ts.length vcp] 25)) (w.heap.size) 2 (G0.alloc (by simp) _) (new_cell w.drew _ _ 0 _ rfl) (new_cell w.drew _ _ 1 _ rfl)).mono ?_
        rintro e w3 ⟨v3, rfl, ho3, hb3⟩
        have G3 := below_trans (G0.alloc (by simp) _) hb3
        obtain ⟨va3, vc3, rfl⟩ := (strRow_own ho3).shape
        refine hK.out _ _ G3 (fun _ => ?_)
        clear hK K
        refine wpAnyH_ready (rs := [13, 15]) (by kernel_rfl) (by simp) ?_
        refine AllReadyH.cons rfl (fun K hK => ?_) (AllReadyH.cons rfl (fun K hK => ?_) AllReadyH.nil)
        · go_simp
          refine (hClo (w3) (G3)).mono ?_
          rintro e w4 ⟨v4, rfl, hn4, hb4⟩
          have G4 := below_trans (G3) hb4
          obtain ⟨va4, vc4, rfl⟩ := hn4.shape
          refine hK.out _ _ G4 (fun _ => ?_)
          clear hK K
          refine wpAnyH_take (i := 14) (v := .agg #[.slice va3 nx.length vc3, .slice va4 k.st.locals.length vc4]) rfl (by kernel_rfl) (by kernel_rfl) (by kernel_rfl) (fun _ _ _ h => h) (.inl ⟨by rfl, fun x hx => by go_simp⟩) G4 ?_
          show wpAnyH Tryz.prog .any _ _ _ _ _ (Act.put _ (some 21) (.agg #[.slice va3 nx.length vc3, .slice va4 k.st.locals.length vc4])) _
          simp only [Act.put, List.setIfInBounds_toArray, List.set_cons_zero, List.set_cons_succ]
          have hF := hidden (go_fin2 (w := w) ho3 (by first | omega | (simp; done) | (simp; omega)) hn4 hb4 G4 G3.size)
          refine wpAnyH_ready (rs := [15]) (by kernel_rfl) (by simp) ?_
          refine AllReadyH.cons rfl (fun K hK => ?_) AllReadyH.nil
          go_simp
          refine hK.out _ _ (G4.alloc G4.size _) (fun _ => ?_)
          clear hK K
          refine wpAnyH_ready (rs := [16]) (by kernel_rfl) (by simp) ?_
          refine AllReadyH.cons rfl (fun K hK => ?_) AllReadyH.nil
          go_simp
          refine hK.out _ _ hF.out.bl (fun _ => ?_)
          clear hK K
          refine wpAnyH_done (by kernel_rfl) ?_ _
          go_wp2_with fail
          go_meet
          exact ⟨_, _, _, rfl, hF.out⟩
        · go_simp
          refine hK.out _ _ (G3.alloc G3.size _) (fun _ => ?_)
          clear hK K
          refine wpAnyH_ready (rs := [13]) (by kernel_rfl) (by simp) ?_
          refine AllReadyH.cons rfl (fun K hK => ?_) AllReadyH.nil
          go_simp
          refine (hClo (w3.alloc (.cells #[.slice none 0 0, .slice none 0 0] 95)) (G3.alloc G3.size _)).mono ?_
          rintro e w4 ⟨v4, rfl, hn4, hb4⟩
          have G4 := below_trans (G3.alloc G3.size _) hb4
          obtain ⟨va4, vc4, rfl⟩ := hn4.shape
          refine hK.out _ _ G4 (fun _ => ?_)
          clear hK K
          refine wpAnyH_take (i := 14) (v := .agg #[.slice va3 nx.length vc3, .slice va4 k.st.locals.length vc4]) rfl (by kernel_rfl) (by kernel_rfl) (by kernel_rfl) (fun _ _ _ h => h) (.inl ⟨by rfl, fun x hx => by go_simp⟩) G4 ?_
          show wpAnyH Tryz.prog .any _ _ _ _ _ (Act.put _ (some 21) (.agg #[.slice va3 nx.length vc3, .slice va4 k.st.locals.length vc4])) _
          simp only [Act.put, List.setIfInBounds_toArray, List.set_cons_zero, List.set_cons_succ]
          have hx4 := (hb4.block w3.heap.size (by simp)).trans (World.alloc_heap_new w3 (.cells #[.slice none 0 0, .slice none 0 0] 95))
          have y0 := frozen_of_row w4 _ 0 _ _ hx4
          have y1 := frozen_of_row w4 _ 1 _ _ hx4
          have y2 := cell_of_row w4 _ 0 _ _ _ hx4
          have y3 := cell_of_row w4 _ 1 _ _ _ hx4
          have hF := hidden (go_fin (w := w) ho3 (by first | omega | (simp; done) | (simp; omega)) hn4 (by simp) (fun g hg => (hb4.block g (by first | omega | (simp; done) | (simp; omega))).trans (Below.heap_alloc _ _ _ hg)) hx4 (by have := G3.size; omega) (by have := G3.size; omega) (.inl (by simp)) G4)
          refine wpAnyH_ready (rs := [16]) (by kernel_rfl) (by simp) ?_
          refine AllReadyH.cons rfl (fun K hK => ?_) AllReadyH.nil
          go_simp
          refine hK.out _ _ hF.out.bl (fun _ => ?_)
          clear hK K
          refine wpAnyH_done (by kernel_rfl) ?_ _
          go_wp2_with fail
          go_meet
          exact ⟨_, _, _, rfl, hF.out⟩
      · go_simp
        refine hK.out _ _ ((G0.alloc (by first | (simp; done) | omega) _).alloc (by first | omega | (simp; done) | (simp; omega)) _) (fun _ => ?_)
        clear hK K
        refine wpAnyH_ready (rs := [7]) (by kernel_rfl) (by simp) ?_
        refine AllReadyH.cons rfl (fun K hK => ?_) AllReadyH.nil
        go_simp
        refine (hCat ((w.drew.alloc (.cells #[.slice sa k.st.stack.length scp, .slice va ts.length vcp] 25)).alloc (.cells #[.slice none 0 0, .slice none 0 0] 95)) (w.heap.size) 2 ((G0.alloc (by first | (simp; done) | omega) _).alloc (by first | omega | (simp; done) | (simp; omega)) _) (cell_more (new_cell w.drew _ _ 0 _ rfl) _) (cell_more (new_cell w.drew _ _ 1 _ rfl) _)).mono ?_
        rintro e w3 ⟨v3, rfl, ho3, hb3⟩
        have G3 := below_trans ((G0.alloc (by first | (simp; done) | omega) _).alloc (by first | omega | (simp; done) | (simp; omega)) _) hb3
        obtain ⟨va3, vc3, rfl⟩ := (strRow_own ho3).shape
        refine hK.out _ _ G3 (fun _ => ?_)
        clear hK K
        refine wpAnyH_ready (rs := [13]) (by kernel_rfl) (by simp) ?_
        refine AllReadyH.cons rfl (fun K hK => ?_) AllReadyH.nil
        go_simp
        refine (hClo (w3) (G3)).mono ?_
        rintro e w4 ⟨v4, rfl, hn4, hb4⟩
        have G4 := below_trans (G3) hb4
        obtain ⟨va4, vc4, rfl⟩ := hn4.shape
        refine hK.out _ _ G4 (fun _ => ?_)
        clear hK K
        refine wpAnyH_take (i := 14) (v := .agg #[.slice va3 nx.length vc3, .slice va4 k.st.locals.length vc4]) rfl (by kernel_rfl) (by kernel_rfl) (by kernel_rfl) (fun _ _ _ h => h) (.inl ⟨by rfl, fun x hx => by go_simp⟩) G4 ?_
        show wpAnyH Tryz.prog .any _ _ _ _ _ (Act.put _ (some 21) (.agg #[.slice va3 nx.length vc3, .slice va4 k.st.locals.length vc4])) _
        simp only [Act.put, List.setIfInBounds_toArray, List.set_cons_zero, List.set_cons_succ]
        have hx4 := (hb4.block (w.heap.size + 1) (by have := hb3.size; simp at this; omega)).trans ((hb3.block (w.heap.size + 1) (by simp)).trans (show (((w.drew.alloc (.cells #[.slice sa k.st.stack.length scp, .slice va ts.length vcp] 25)).alloc (.cells #[.slice none 0 0, .slice none 0 0] 95)).heap[w.heap.size + 1]? = some (.cells #[.slice none 0 0, .slice none 0 0] 95)) from by have := World.alloc_heap_new (w.drew.alloc (.cells #[.slice sa k.st.stack.length scp, .slice va ts.length vcp] 25)) (.cells #[.slice none 0 0, .slice none 0 0] 95); rw [World.size_alloc] at this; exact this))
        have y0 := frozen_of_row w4 _ 0 _ _ hx4
        have y1 := frozen_of_row w4 _ 1 _ _ hx4
        have y2 := cell_of_row w4 _ 0 _ _ _ hx4
        have y3 := cell_of_row w4 _ 1 _ _ _ hx4
        have hF := hidden (go_fin (w := w) ho3 (by first | omega | (simp; done) | (simp; omega)) hn4 (Nat.le_refl _) (fun g hg => hb4.block g (by first | omega | (simp; done) | (simp; omega))) hx4 (by have := G3.size; omega) (by have := G3.size; omega) (.inr (by have := hb3.size; simp at this; simp; omega)) G4)
        refine wpAnyH_ready (rs := [16]) (by kernel_rfl) (by simp) ?_
        refine AllReadyH.cons rfl (fun K hK => ?_) AllReadyH.nil
        go_simp
        refine hK.out _ _ hF.out.bl (fun _ => ?_)
        clear hK K
        refine wpAnyH_done (by kernel_rfl) ?_ _
        go_wp2_with fail
        go_meet
        exact ⟨_, _, _, rfl, hF.out⟩
    · go_simp
      refine hK.out _ _ (G0.alloc (by simp) _) (fun _ => ?_)
      clear hK K
      refine wpAnyH_ready (rs := [6]) (by kernel_rfl) (by simp) ?_
      refine AllReadyH.cons rfl (fun K hK => ?_) AllReadyH.nil
      go_simp
      refine hK.out _ _ ((G0.alloc (by first | (simp; done) | omega) _).alloc (by first | omega | (simp; done) | (simp; omega)) _) (fun _ => ?_)
      clear hK K
      refine wpAnyH_ready (rs := [7]) (by kernel_rfl) (by simp) ?_
      refine AllReadyH.cons rfl (fun K hK => ?_) AllReadyH.nil
      go_simp
      refine (hCat ((w.drew.alloc (.cells #[.slice none 0 0, .slice none 0 0] 95)).alloc (.cells #[.slice sa k.st.stack.length scp, .slice va ts.length vcp] 25)) (w.heap.size + 1) 2 ((G0.alloc (by first | (simp; done) | omega) _).alloc (by first | omega | (simp; done) | (simp; omega)) _) (by have := new_cell (w.drew.alloc (.cells #[.slice none 0 0, .slice none 0 0] 95)) #[.slice sa k.st.stack.length scp, .slice va ts.length vcp] 25 0 _ rfl; rw [World.size_alloc] at this; exact this) (by have := new_cell (w.drew.alloc (.cells #[.slice none 0 0, .slice none 0 0] 95)) #[.slice sa k.st.stack.length scp, .slice va ts.length vcp] 25 1 _ rfl; rw [World.size_alloc] at this; exact this)).mono ?_
      rintro e w3 ⟨v3, rfl, ho3, hb3⟩
      have G3 := below_trans ((G0.alloc (by first | (simp; done) | omega) _).alloc (by first | omega | (simp; done) | (simp; omega)) _) hb3
      obtain ⟨va3, vc3, rfl⟩ := (strRow_own ho3).shape
      refine hK.out _ _ G3 (fun _ => ?_)
      clear hK K
      refine wpAnyH_ready (rs := [13]) (by kernel_rfl) (by simp) ?_
      refine AllReadyH.cons rfl (fun K hK => ?_) AllReadyH.nil
      go_simp
      refine (hClo (w3) (G3)).mono ?_
      rintro e w4 ⟨v4, rfl, hn4, hb4⟩
      have G4 := below_trans (G3) hb4
      obtain ⟨va4, vc4, rfl⟩ := hn4.shape
      refine hK.out _ _ G4 (fun _ => ?_)
      clear hK K
      refine wpAnyH_take (i := 14) (v := .agg #[.slice va3 nx.length vc3, .slice va4 k.st.locals.length vc4]) rfl (by kernel_rfl) (by kernel_rfl) (by kernel_rfl) (fun _ _ _ h => h) (.inl ⟨by rfl, fun x hx => by go_simp⟩) G4 ?_
      show wpAnyH Tryz.prog .any _ _ _ _ _ (Act.put _ (some 21) (.agg #[.slice va3 nx.length vc3, .slice va4 k.st.locals.length vc4])) _
      simp only [Act.put, List.setIfInBounds_toArray, List.set_cons_zero, List.set_cons_succ]
      have hx4 := (hb4.block w.heap.size (by have := hb3.size; simp at this; omega)).trans ((hb3.block w.heap.size (by first | omega | (simp; done) | (simp; omega))).trans ((Below.heap_alloc _ _ _ (by simp)).trans (World.alloc_heap_new w.drew (.cells #[.slice none 0 0, .slice none 0 0] 95))))
      have y0 := frozen_of_row w4 _ 0 _ _ hx4
      have y1 := frozen_of_row w4 _ 1 _ _ hx4
      have y2 := cell_of_row w4 _ 0 _ _ _ hx4
      have y3 := cell_of_row w4 _ 1 _ _ _ hx4
      have hF := hidden (go_fin (w := w) ho3 (by first | omega | (simp; done) | (simp; omega)) hn4 (Nat.le_refl _) (fun g hg => hb4.block g (by first | omega | (simp; done) | (simp; omega))) hx4 (by have := G3.size; omega) (by have := G3.size; omega) (.inr (by have := hb3.size; simp at this; simp; omega)) G4)
      refine wpAnyH_ready (rs := [16]) (by kernel_rfl) (by simp) ?_
      refine AllReadyH.cons rfl (fun K hK => ?_) AllReadyH.nil
      go_simp
      refine hK.out _ _ hF.out.bl (fun _ => ?_)
      clear hK K
      refine wpAnyH_done (by kernel_rfl) ?_ _
      go_wp2_with fail
      go_meet
      exact ⟨_, _, _, rfl, hF.out⟩
  case rest =>
    obtain ⟨Bx, v3, v4, rfl, hG⟩ := hcut
    rename World => wx
    obtain ⟨f, hM, hmt, hfs, hfr⟩ := H.out.base.wait
    obtain ⟨rv, hrv, hR⟩ := hfr p hp hcp
    obtain ⟨qs, q1, q2, q3, q4⟩ := id hR
    obtain ⟨ra, rcp, rfl⟩ : ∃ a c, rv = .slice a (waitS k.wt p).length c := by
      rcases q2.2 with ⟨rfl, hn⟩ | ⟨g, cap, cur, rfl, _⟩
      · exact ⟨none, 0, by rw [hn]⟩
      · exact ⟨_, _, rfl⟩
    obtain ⟨va3, vc3, rfl⟩ := (strRow_own hG.st).shape
    obtain ⟨va4, vc4, rfl⟩ := hG.lo.shape
    have hzx := hG.bl.size
    have hwbx : wb < wx.heap.size := by omega
    have hmb := hM.lt
    have hBx := (Array.getElem?_eq_some_iff.1 hG.box).1
    have bwb : wx.heap[wb]? = w.heap[wb]? := hG.bl.block wb hwb
    have hcm := (World.cell?_of_block (a := ⟨wb, 10, none⟩) bwb).trans c10
    have HS : Hid (∀ x : World, (x.heap[wb]? = wx.heap[wb]? ∧ x.heap[Bx]? = wx.heap[Bx]?) → x.cell? ⟨wb, 10, none⟩ = some (.map (some mb)) ∧ x.cell? ⟨Bx, 0, none⟩ = some (.slice va3 nx.length vc3) ∧ x.cell? ⟨Bx, 1, none⟩ = some (.slice va4 k.st.locals.length vc4)) := fun x hx => by
      refine ⟨(World.cell?_of_block (a := ⟨wb, 10, none⟩) hx.1).trans hcm, ?_, ?_⟩
      · rw [cell_of_row x Bx 0 _ _ _ (hx.2.trans hG.box)]; rfl
      · rw [cell_of_row x Bx 1 _ _ _ (hx.2.trans hG.box)]; rfl
    have hMx : ∀ x : World, x.heap[mb]? = w.heap[mb]? → (Instr.lookup 93 (.map (some mb)) (.int .i64 p) false).run Tryz.prog x = .ok (.slice ra (waitS k.wt p).length rcp) x := fun x hx => by
      have := (hM.frame hx).look p hpb Tryz.underlying93 (z := .slice none 0 0) (Tryz.zeroValue151 _)
      rw [hrv] at this
      exact this
    have bmb : wx.heap[mb]? = w.heap[mb]? := hG.bl.block mb hmb
    have hl1 := hMx wx.drew bmb
    have hl2 := hMx (wx.drew.alloc (.cells #[.slice va3 nx.length vc3, .slice va4 k.st.locals.length vc4] 95)) ((Below.heap_alloc _ _ _ (by show mb < wx.heap.size; omega)).trans bmb)
    have hl3 := hMx (wx.alloc (.cells #[.slice va3 nx.length vc3, .slice va4 k.st.locals.length vc4] 95)).drew ((Below.heap_alloc wx _ _ (by omega)).trans bmb)
    have HG := hidden hG
    have hqY : (wx.drew.alloc (.cells #[.slice va3 nx.length vc3, .slice va4 k.st.locals.length vc4] 95)).ownsRow 0 95 2 (.slice ra (waitS k.wt p).length rcp) (waitS k.wt p).length (qs.flatMap fun q => [q.2.1, q.2.2]) := owns_same q2 fun x hx => (Below.heap_alloc _ _ _ (by show x < wx.heap.size; have := (q2.lt x hx).2; omega)).trans (hG.bl.block x (q2.lt x hx).2)
    have hwl : (waitS k.wt p).length ≤ 1000000 := hwt
    have hE : Hid (∀ (g cap : Nat) (w5 : World), w5.ownsRow 0 95 2 (.slice (some ⟨g, 0, none⟩) ((waitS k.wt p).length + 1) cap) ((waitS k.wt p).length + 1) ((qs.flatMap fun q => [q.2.1, q.2.2]) ++ [.slice va3 nx.length vc3, .slice va4 k.st.locals.length vc4]) → (wx.drew.alloc (.cells #[.slice va3 nx.length vc3, .slice va4 k.st.locals.length vc4] 95)).grownBy w5 (Value.slice ra (waitS k.wt p).length rcp).ownBlock → ((Value.slice ra (waitS k.wt p).length rcp).ownBlock = some g ∨ g = (wx.drew.alloc (.cells #[.slice va3 nx.length vc3, .slice va4 k.st.locals.length vc4] 95)).heap.size) →
        ∃ w6, (Instr.mapUpdate 93 (.map (some mb)) (.int .i64 p) (.slice (some ⟨g, 0, none⟩) ((waitS k.wt p).length + 1) cap)).run Tryz.prog w5 = .ok () w6 ∧ ((w5.heap[wb]? = wx.heap[wb]? ∧ w5.heap[Bx]? = wx.heap[Bx]?) ∧ (w6.heap[wb]? = wx.heap[wb]? ∧ w6.heap[Bx]? = wx.heap[Bx]?)) ∧ Kc col ownT w w6 ∧ VwQ col w wb u m res sy mb (n + 1) ps cur ⟨k.st, k.wt ++ [(p, ⟨nx, k.st.locals⟩)]⟩ w6) := by
      rw [hid_iff]
      intro g cap w5 o1 o2 o3
      have hrt : ∀ x, (Value.slice ra (waitS k.wt p).length rcp).ownBlock = some x → x < w.heap.size ∧ col x = (1, p, 0) := fun x hx => ⟨(q2.lt x hx).2, q3 x hx⟩
      have nmb : (Value.slice ra (waitS k.wt p).length rcp).ownBlock ≠ some mb := fun e => by
        have := (hrt mb e).2
        rw [hmt] at this
        cases this
      have nwb : (Value.slice ra (waitS k.wt p).length rcp).ownBlock ≠ some wb := fun e => by
        have := (hrt wb e).2
        rw [H.out.base.tag] at this
        cases this
      have nBx : (Value.slice ra (waitS k.wt p).length rcp).ownBlock ≠ some Bx := fun e => by
        have := (hrt Bx e).1
        have := HG.out.ge
        omega
      have wmb : wb ≠ mb := fun e => by
        have := H.out.base.tag
        rw [e, hmt] at this
        cases this
      have hBm : Bx ≠ mb := by have := HG.out.ge; omega
      have al : ∀ x, x < wx.heap.size → (Value.slice ra (waitS k.wt p).length rcp).ownBlock ≠ some x → w5.heap[x]? = wx.heap[x]? := fun x h1 h2 => (o2.block x (by simp; omega) (fun e => h2 e.symm)).trans (Below.heap_alloc _ _ _ (by show x < wx.heap.size; omega))
      have hM5 := hM.frame ((al mb (by omega) nmb).trans bmb)
      obtain ⟨w6, r1, r2, r3, -⟩ := hM5.put (by omega) p hpb (.slice (some ⟨g, 0, none⟩) ((waitS k.wt p).length + 1) cap) Tryz.underlying93
      have s5 := And.intro (al wb hwbx nwb) (al Bx hBx nBx)
      have hz5 := o2.size
      simp only [World.size_alloc] at hz5
      have hz5' : wx.heap.size + 1 ≤ w5.heap.size := hz5
      refine ⟨w6, r1, ⟨s5, (r3.block wb (by omega) (by simpa using wmb)).trans s5.1, (r3.block Bx (by omega) (by simpa using hBm)).trans s5.2⟩, ?_⟩
      exact go_more H.out hp hcp hM hmt hfs hfr hrt HG.out.st HG.out.lo HG.out.ne HG.out.bl ((below_drew (Below.refl _ wx)).alloc (Nat.le_refl _) _) ⟨qs, q1, q4, o1⟩ o2 o3 r2 r3
    have GX : wx.drew.heap[wb]? = wx.heap[wb]? ∧ wx.drew.heap[Bx]? = wx.heap[Bx]? := ⟨rfl, rfl⟩
    have GY : (wx.drew.alloc (.cells #[.slice va3 nx.length vc3, .slice va4 k.st.locals.length vc4] 95)).heap[wb]? = wx.heap[wb]? ∧ (wx.drew.alloc (.cells #[.slice va3 nx.length vc3, .slice va4 k.st.locals.length vc4] 95)).heap[Bx]? = wx.heap[Bx]? := ⟨Below.heap_alloc _ _ _ (by show wb < wx.heap.size; omega), Below.heap_alloc _ _ _ (by show Bx < wx.heap.size; omega)⟩
    obtain ⟨i, z, hi, hz, h1, h2, h3⟩ := info_z infoSt
    clear hM hfr hR q1 q3 q4 hG hMx hfs
    go_wp2_with fail
    refine wp_region_held (S := fun x => x.heap[wb]? = wx.heap[wb]? ∧ x.heap[Bx]? = wx.heap[Bx]?) (by kernel_rfl) ?_
    show wpAnyH Tryz.prog .any _ _ _ _ _ _ wx.drew
    refine wpAnyH_take (i := 0) (v := .pointer (some ⟨wb, 0, none⟩)) rfl (by kernel_rfl) (by kernel_rfl) (by kernel_rfl) (fun _ _ _ h => h) (.inl ⟨by rfl, fun x hx => by go_simp⟩) GX ?_
    show wpAnyH Tryz.prog .any _ _ _ _ _ (Act.put _ (some 22) (.pointer (some ⟨wb, 0, none⟩))) _
    simp only [Act.put, List.setIfInBounds_toArray, List.set_cons_zero, List.set_cons_succ]
    refine wpAnyH_take (i := 1) (v := .pointer (some ⟨wb, 0, none⟩)) rfl (by kernel_rfl) (by kernel_rfl) (by kernel_rfl) (fun _ _ _ h => h) (.inl ⟨by rfl, fun x hx => by go_simp⟩) GX ?_
    show wpAnyH Tryz.prog .any _ _ _ _ _ (Act.put _ (some 23) (.pointer (some ⟨wb, 0, none⟩))) _
    simp only [Act.put, List.setIfInBounds_toArray, List.set_cons_zero, List.set_cons_succ]
    refine wpAnyH_take (i := 2) (v := .pointer (some ⟨wb, 10, none⟩)) rfl (by kernel_rfl) (by kernel_rfl) (by kernel_rfl) (fun _ _ _ h => h) (.inl ⟨by rfl, fun x hx => by go_simp⟩) GX ?_
    show wpAnyH Tryz.prog .any _ _ _ _ _ (Act.put _ (some 24) (.pointer (some ⟨wb, 10, none⟩))) _
    simp only [Act.put, List.setIfInBounds_toArray, List.set_cons_zero, List.set_cons_succ]
    refine wpAnyH_take (i := 3) (v := .map (some mb)) rfl (by kernel_rfl) (by kernel_rfl) (by kernel_rfl) (fun _ _ _ h => h) (.inl ⟨by rfl, fun x hx => by obtain ⟨z10, z0, z1⟩ := HS.out x hx; go_simp⟩) GX ?_
    show wpAnyH Tryz.prog .any _ _ _ _ _ (Act.put _ (some 25) (.map (some mb))) _
    simp only [Act.put, List.setIfInBounds_toArray, List.set_cons_zero, List.set_cons_succ]
    refine wpAnyH_take (i := 4) (v := .int .i64 p) rfl (by kernel_rfl) (by kernel_rfl) (by kernel_rfl) (fun _ _ _ h => h) (.inl ⟨by rfl, fun x hx => by go_simp⟩) GX ?_
    show wpAnyH Tryz.prog .any _ _ _ _ _ (Act.put _ (some 26) (.int .i64 p)) _
    simp only [Act.put, List.setIfInBounds_toArray, List.set_cons_zero, List.set_cons_succ]
    refine wpAnyH_take (i := 5) (v := .pointer (some ⟨wb, 0, none⟩)) rfl (by kernel_rfl) (by kernel_rfl) (by kernel_rfl) (fun _ _ _ h => h) (.inl ⟨by rfl, fun x hx => by go_simp⟩) GX ?_
    show wpAnyH Tryz.prog .any _ _ _ _ _ (Act.put _ (some 27) (.pointer (some ⟨wb, 0, none⟩))) _
    simp only [Act.put, List.setIfInBounds_toArray, List.set_cons_zero, List.set_cons_succ]
    refine wpAnyH_take (i := 6) (v := .pointer (some ⟨wb, 0, none⟩)) rfl (by kernel_rfl) (by kernel_rfl) (by kernel_rfl) (fun _ _ _ h => h) (.inl ⟨by rfl, fun x hx => by go_simp⟩) GX ?_
    show wpAnyH Tryz.prog .any _ _ _ _ _ (Act.put _ (some 28) (.pointer (some ⟨wb, 0, none⟩))) _
    simp only [Act.put, List.setIfInBounds_toArray, List.set_cons_zero, List.set_cons_succ]
    refine wpAnyH_take (i := 7) (v := .pointer (some ⟨wb, 10, none⟩)) rfl (by kernel_rfl) (by kernel_rfl) (by kernel_rfl) (fun _ _ _ h => h) (.inl ⟨by rfl, fun x hx => by go_simp⟩) GX ?_
    show wpAnyH Tryz.prog .any _ _ _ _ _ (Act.put _ (some 29) (.pointer (some ⟨wb, 10, none⟩))) _
    simp only [Act.put, List.setIfInBounds_toArray, List.set_cons_zero, List.set_cons_succ]
    refine wpAnyH_take (i := 8) (v := .map (some mb)) rfl (by kernel_rfl) (by kernel_rfl) (by kernel_rfl) (fun _ _ _ h => h) (.inl ⟨by rfl, fun x hx => by obtain ⟨z10, z0, z1⟩ := HS.out x hx; go_simp⟩) GX ?_
    show wpAnyH Tryz.prog .any _ _ _ _ _ (Act.put _ (some 30) (.map (some mb))) _
    simp only [Act.put, List.setIfInBounds_toArray, List.set_cons_zero, List.set_cons_succ]
    refine wpAnyH_take (i := 9) (v := .int .i64 p) rfl (by kernel_rfl) (by kernel_rfl) (by kernel_rfl) (fun _ _ _ h => h) (.inl ⟨by rfl, fun x hx => by go_simp⟩) GX ?_
    show wpAnyH Tryz.prog .any _ _ _ _ _ (Act.put _ (some 31) (.int .i64 p)) _
    simp only [Act.put, List.setIfInBounds_toArray, List.set_cons_zero, List.set_cons_succ]
    refine wpAnyH_take (i := 11) (v := .agg #[.slice va3 nx.length vc3, .slice va4 k.st.locals.length vc4]) rfl (by kernel_rfl) (by kernel_rfl) (by kernel_rfl) (fun _ _ _ h => h) (.inl ⟨by rfl, fun x hx => by obtain ⟨z10, z0, z1⟩ := HS.out x hx; go_simp⟩) GX ?_
    show wpAnyH Tryz.prog .any _ _ _ _ _ (Act.put _ (some 33) (.agg #[.slice va3 nx.length vc3, .slice va4 k.st.locals.length vc4])) _
    simp only [Act.put, List.setIfInBounds_toArray, List.set_cons_zero, List.set_cons_succ]
    refine wpAnyH_ready (rs := [10, 12]) (by kernel_rfl) (by simp) ?_
    refine AllReadyH.cons rfl (fun K hK => ?_) (AllReadyH.cons rfl (fun K hK => ?_) AllReadyH.nil)
    · go_simp
      refine hK.out _ _ GX (fun _ => ?_)
      clear hK K
      refine wpAnyH_ready (rs := [12]) (by kernel_rfl) (by simp) ?_
      refine AllReadyH.cons rfl (fun K hK => ?_) AllReadyH.nil
      go_simp
      refine hK.out _ _ GY (fun _ => ?_)
      clear hK K
      refine wpAnyH_ready (rs := [13]) (by kernel_rfl) (by simp) ?_
      refine AllReadyH.cons rfl (fun K hK => ?_) AllReadyH.nil
      refine step_append_lies _ rfl (.tmp 32) (.tmp 34) 151 rfl 0 95 i z 2 48 Tryz.underlying151 hi hz h1 h2 h3 (by decide) _ _ _ rfl hqY ⟨wx.heap.size, 0, none⟩ 1 1 [.slice va3 nx.length vc3, .slice va4 k.st.locals.length vc4] rfl rfl (fun j u hj => ?_) (fun u hu => ?_) (by decide) (by unfold maxLen; omega) (by omega) (Nat.zero_le _) _ rfl ?_
      · rw [add_noneV, Nat.zero_add]
        exact new_cell wx.drew _ _ j u (by simpa using hj)
      · simp only [List.mem_cons, List.not_mem_nil, or_false] at hu
        rcases hu with rfl | rfl <;> rfl
      intro g cap w5 o1 o2 o3 o4
      obtain ⟨w6, r1, ⟨s5, s6⟩, kf, vf⟩ := hE.out g cap w5 o1 o2 o3
      refine hK.out _ _ s5 (fun _ => ?_)
      clear hK K
      refine wpAnyH_ready (rs := [14]) (by kernel_rfl) (by simp) ?_
      refine AllReadyH.cons rfl (fun K hK => ?_) AllReadyH.nil
      go_simp
      refine hK.out _ _ s6 (fun _ => ?_)
      clear hK K
      refine wpAnyH_done (by kernel_rfl) ?_ _
      go_wp2
      go_end0
      exact ⟨rfl, kf, by rw [goV, ← HN.out]; exact vf⟩
    · go_simp
      refine hK.out _ _ GY (fun _ => ?_)
      clear hK K
      refine wpAnyH_ready (rs := [10]) (by kernel_rfl) (by simp) ?_
      refine AllReadyH.cons rfl (fun K hK => ?_) AllReadyH.nil
      go_simp
      refine hK.out _ _ GY (fun _ => ?_)
      clear hK K
      refine wpAnyH_ready (rs := [13]) (by kernel_rfl) (by simp) ?_
      refine AllReadyH.cons rfl (fun K hK => ?_) AllReadyH.nil
      refine step_append_lies _ rfl (.tmp 32) (.tmp 34) 151 rfl 0 95 i z 2 48 Tryz.underlying151 hi hz h1 h2 h3 (by decide) _ _ _ rfl hqY ⟨wx.heap.size, 0, none⟩ 1 1 [.slice va3 nx.length vc3, .slice va4 k.st.locals.length vc4] rfl rfl (fun j u hj => ?_) (fun u hu => ?_) (by decide) (by unfold maxLen; omega) (by omega) (Nat.zero_le _) _ rfl ?_
      · rw [add_noneV, Nat.zero_add]
        exact new_cell wx.drew _ _ j u (by simpa using hj)
      · simp only [List.mem_cons, List.not_mem_nil, or_false] at hu
        rcases hu with rfl | rfl <;> rfl
      intro g cap w5 o1 o2 o3 o4
      obtain ⟨w6, r1, ⟨s5, s6⟩, kf, vf⟩ := hE.out g cap w5 o1 o2 o3
      refine hK.out _ _ s5 (fun _ => ?_)
      clear hK K
      refine wpAnyH_ready (rs := [14]) (by kernel_rfl) (by simp) ?_
      refine AllReadyH.cons rfl (fun K hK => ?_) AllReadyH.nil
      go_simp
      refine hK.out _ _ s6 (fun _ => ?_)
      clear hK K
      refine wpAnyH_done (by kernel_rfl) ?_ _
      go_wp2
      go_end0
      exact ⟨rfl, kf, by rw [goV, ← HN.out]; exact vf⟩
end Go.Proofs.YtdeckknfolaaeaaGreatDoor
