/-
  The statements' 'made' at brackets.
-/
import Derived.Test.YtmekjbplodnldaaTreeMadeE
namespace Go.Proofs.Ytmekjbplodnldaa
open Go.RowKit

set_option maxHeartbeats 1600000 in
set_option maxRecDepth 1000000 in
theorem made_p2 (d : Nat) (hd : d ≤ 1000) (ih : madeIH d) (at0 ba n tn c tc' : Nat) (a : Addr) (ta : Option Addr) (zs : List Int) (xs : List ByteArray) (z : Int) (w : World) (hR : MadeR w ba n tn c tc' (some a) ta zs xs) (hat : w.heap[ba]? = some (.cells #[.int .i64 (at0 : Int)] 3 (0, 0))) (h60 : at0 ≤ 60) (hlt : at0 < n) (hzz : zs[at0]? = some z) (hrz : -9223372036854775808 ≤ z ∧ z ≤ 9223372036854775807) (hz : 0 ≤ z) (hc : ((z.toNat) % 3 = 2)) :
    Calls Try.prog 14 #[.slice (some a) n c, .slice ta tn tc', .pointer (some ⟨ba, 0, none⟩), .int .i64 ((d : Int) + 1)] w (MadeE (d + 1) at0 ba w) := by
  have hbl : ba < w.heap.size := (Array.getElem?_eq_some_iff.1 hat).1
  obtain ⟨l1, l2, l3⟩ := hR.l2 a rfl (by omega)
  have q1 := l3 at0 z hzz
  obtain ⟨q0, f0⟩ := one_cell hat
  obtain ⟨N, rfl⟩ : ∃ N : Nat, z = (N : Int) := ⟨z.toNat, by omega⟩
  have sz : ¬ (N : Int) < 0 := by omega
  have hN : (N : Int) ≤ 9223372036854775807 := by omega
  have c3 : N % 3 = 2 := by simpa using hc
  have c3' : (N : Int) % 3 = 2 := by omega
  have s1 : ¬ (n : Int) ≤ (at0 : Int) := by omega
  have s2 : ¬ (d : Int) + 1 ≤ 0 := by omega
  have s3 : (at0 : Int) < (n : Int) := by omega
  have hab : (a.add at0).block ≠ ba := by rw [add_block]; exact l1
  have hal : (a.add at0).block < w.heap.size := by rw [add_block]; exact l2
  have hX : ∀ O, ((w.setCell ⟨ba, 0, none⟩ (.int .i64 ((at0 : Int) + 1))).alloc O).heap[w.heap.size]? = some O := fun O => by
    have := heap_alloc_new (w.setCell ⟨ba, 0, none⟩ (.int .i64 ((at0 : Int) + 1))) O
    rw [show (w.setCell ⟨ba, 0, none⟩ (.int .i64 ((at0 : Int) + 1))).heap.size = w.heap.size from by simp] at this
    exact this
  have hA : (w.setCell ⟨ba, 0, none⟩ (.int .i64 ((at0 : Int) + 1))).heap[ba]? = some (.cells #[.int .i64 ((at0 + 1 : Nat) : Int)] 3 (0, 0)) := heap_setCell_same w ba 0 _ 3 _ hat
  have K1 : Kept (fun b => b = ba) w (w.setCell ⟨ba, 0, none⟩ (.int .i64 ((at0 : Int) + 1))) := (Kept.refl (fun b => b = ba) w).setCell (p := ⟨ba, 0, none⟩) (fun _ => rfl) _
  have hAO : ∀ O, ((w.setCell ⟨ba, 0, none⟩ (.int .i64 ((at0 : Int) + 1))).alloc O).heap[ba]? = some (.cells #[.int .i64 ((at0 + 1 : Nat) : Int)] 3 (0, 0)) := fun O => (Below.heap_alloc _ O ba (by simp; exact hbl)).trans hA
  clear hc
  have hR_sm := hR.sm
  have hwd1 : IntKind.i64.wrap ((d : Int) + 1 - 1) = (d : Int) := by rw [IntKind.wrap_i64]; omega
  have hwd2 : IntKind.i64.wrap (d : Int) = (d : Int) := by rw [IntKind.wrap_i64]; omega
  have hT0 : (((w.setCell ⟨ba, 0, none⟩ (.int .i64 ((at0 : Int) + 1))).alloc (.cells #[.int .i64 0, .int .i64 0, .string ⟨#[]⟩, .slice none 0 0] 32)).alloc (.cells #[.int .i64 1, .int .i64 0, .string ⟨#[]⟩, .slice none 0 0] 32)).heap[w.heap.size + 1]? = some (.cells #[.int .i64 1, .int .i64 0, .string ⟨#[]⟩, .slice none 0 0] 32) := by
    have := heap_alloc_new ((w.setCell ⟨ba, 0, none⟩ (.int .i64 ((at0 : Int) + 1))).alloc (.cells #[.int .i64 0, .int .i64 0, .string ⟨#[]⟩, .slice none 0 0] 32)) (.cells #[.int .i64 1, .int .i64 0, .string ⟨#[]⟩, .slice none 0 0] 32)
    rw [show ((w.setCell ⟨ba, 0, none⟩ (.int .i64 ((at0 : Int) + 1))).alloc (.cells #[.int .i64 0, .int .i64 0, .string ⟨#[]⟩, .slice none 0 0] 32)).heap.size = w.heap.size + 1 from by simp] at this
    exact this
  have hZ0 : (((w.setCell ⟨ba, 0, none⟩ (.int .i64 ((at0 : Int) + 1))).alloc (.cells #[.int .i64 0, .int .i64 0, .string ⟨#[]⟩, .slice none 0 0] 32)).alloc (.cells #[.int .i64 1, .int .i64 0, .string ⟨#[]⟩, .slice none 0 0] 32)).heap[w.heap.size]? = some (.cells #[.int .i64 0, .int .i64 0, .string ⟨#[]⟩, .slice none 0 0] 32) := (Below.heap_alloc _ _ _ (by simp)).trans (hX _)
  have hB0 : (((w.setCell ⟨ba, 0, none⟩ (.int .i64 ((at0 : Int) + 1))).alloc (.cells #[.int .i64 0, .int .i64 0, .string ⟨#[]⟩, .slice none 0 0] 32)).alloc (.cells #[.int .i64 1, .int .i64 0, .string ⟨#[]⟩, .slice none 0 0] 32)).heap[ba]? = some (.cells #[.int .i64 ((at0 + 1 : Nat) : Int)] 3 (0, 0)) := (Below.heap_alloc _ _ _ (by simp; omega)).trans (hAO _)
  have K2 : Kept (fun b => b = ba) w (((w.setCell ⟨ba, 0, none⟩ (.int .i64 ((at0 : Int) + 1))).alloc (.cells #[.int .i64 0, .int .i64 0, .string ⟨#[]⟩, .slice none 0 0] 32)).alloc (.cells #[.int .i64 1, .int .i64 0, .string ⟨#[]⟩, .slice none 0 0] 32)) := (K1.alloc _).alloc _
  have hS0 : Hid ((((w.setCell ⟨ba, 0, none⟩ (.int .i64 ((at0 : Int) + 1))).alloc (.cells #[.int .i64 0, .int .i64 0, .string ⟨#[]⟩, .slice none 0 0] 32)).alloc (.cells #[.int .i64 1, .int .i64 0, .string ⟨#[]⟩, .slice none 0 0] 32)).heap.size = w.heap.size + 2) := by simp [Hid]
  have hN4 : N % 4 ≤ 3 := by omega
  have c4 : Hid ((N : Int) % 4 = ((N % 4 : Nat) : Int)) := by rw [Hid]; omega
  clear hX hA hAO K1
  go_enter Try.func14, Try.ntmps14
  go_wp2
  go_loopg [12] (N % 4) (fun gh v wr => ∃ (j at1 : Nat) (ks : List Tr) (F : Nat → Prop) (kv : Value), j = gh ∧ v = .int .i64 (j : Int) ∧ ks.length + j = N % 4 ∧ (∀ k ∈ ks, Gd d k) ∧ (ks.map tsz).sum + 8 * (at0 + 1) ≤ 2 * ks.length + 8 * at1 ∧ at0 + 1 ≤ at1 ∧ at1 ≤ 60 ∧ OneM 32 (w.heap.size + 2) F wr kv ks ∧ wr.heap[w.heap.size + 1]? = some (.cells #[.int .i64 1, .int .i64 0, .string ⟨#[]⟩, kv] 32 (0, 0)) ∧ wr.heap[w.heap.size]? = some (.cells #[.int .i64 0, .int .i64 0, .string ⟨#[]⟩, .slice none 0 0] 32) ∧ wr.heap[ba]? = some (.cells #[.int .i64 (at1 : Int)] 3 (0, 0)) ∧ Kept (fun b => b = ba) w wr ∧ w.heap.size + 2 ≤ wr.heap.size)
  case atStart => exact ⟨N % 4, at0 + 1, [], _, _, rfl, by first | rfl | rw [c4.out], by simp, by simp, by simp, Nat.le_refl _, by omega, OneM.nil _ _ _, hT0, hZ0, hB0, K2, by rw [hS0.out]; exact Nat.le_refl _⟩
  case round =>
    obtain ⟨j, at1, ks, F, kv, rfl, rfl, hj, hgd, hsum, hA1, hA2, hM, hb11, hres, hba, hK, hsw⟩ := hrel
    have hj3 : ks.length + j ≤ 3 := by omega
    clear c4 c3 c3'
    obtain ⟨ma, mc, rfl⟩ := hM.own.shape
    obtain ⟨p0, p1, p2, p3, pf0, pf1, pf2, pf3⟩ := four_cells hb11
    by_cases hj0 : 0 < j
    · have hj0' : (0 : Int) < (j : Int) := by omega
      have KD : Kept (fun b => b = ba) wr wr.drew := (Kept.refl _ wr).drew
      have hc := ih at1 ba n tn c tc' (some a) ta zs xs wr.drew (hR.kept (hK.drew)) hba hA2
      have hpk := fun (w5 : World) (X : Tr) (u : Value) (O : Obj) (K5 : Kept (fun b => b = ba) wr.drew w5) (ht5 : TL (fun g => wr.drew.heap.size ≤ g ∧ g < w5.heap.size) w5 u X.kids) => grow_pack2 (x := X) O hM (show ba < w.heap.size + 2 by omega) hsw (KD.trans K5 (U := fun b => b = ba) (fun _ _ h => h) (fun _ _ h => h)) ht5
      have hb11' : Hid (wr.heap[w.heap.size + 1]? = some (.cells #[.int .i64 1, .int .i64 0, .string ⟨#[]⟩, .slice ma ks.length mc] 32 (0, 0))) := hb11
      have hres' : Hid (wr.heap[w.heap.size]? = some (.cells #[.int .i64 0, .int .i64 0, .string ⟨#[]⟩, .slice none 0 0] 32)) := hres
      clear hb11 hres hT0 hZ0 hB0 K2 hM ih hba q0 q1 f0 l3 KD hR hat hzz hab hal
      go_wp2
      go_region_law (first
        | (refine step_tref rfl (.tmp 78) (.tmp 85) rfl (w.heap.size + 2) (.slice ma ks.length mc) ks.length (rowc ks us) (by rfl) v2 ⟨w5.heap.size, 0, none⟩ 1 (trc X (.slice xa X.kids.length xc)) (by rfl) rfl (cells_new _ _ _) (trc_one _ _ rfl) (by omega) (by simp; omega) (w5.heap.size + 1) (by simp) ?_; intro g' cap' w' j1 j2 j3 j4; obtain ⟨⟨F2, hM7⟩, K7⟩ := v3 g' cap' w' j1 j2 j3; have hb7 : w'.heap[w.heap.size + 1]? = _ := (K7.block _ (by omega) (by omega)).trans hb5; obtain ⟨r0, r1, r2, r3, rf0, rf1, rf2, rf3⟩ := four_cells hb7; have hst := store_pack hM7 (show w.heap.size + 1 < w.heap.size + 2 by omega) hb7; have hrs : w'.heap[w.heap.size]? = _ := (K7.block _ (by omega) (by omega)).trans hr5; have hbs : w'.heap[ba]? = _ := (K7.block _ (by omega) (by omega)).trans hba5; have hKs : Kept (fun b => b = ba) w w' := hKw5.trans K7 (fun _ _ h => h) (fun x hx h => by omega); have hsz7 := K7.size)
        | (go_simp; go_at_call 14; refine hc.mono ?_; rintro e w5 ⟨X, kv5, at2, rfl, ht5, hg5, hz5, ha5, ha6, hba5, K5⟩; obtain ⟨xa, xc, rfl⟩ := ht5.shape; unfold trv; obtain ⟨us, v1, v2, v3⟩ := hpk w5 X _ (.cells #[.int .i64 (X.kind : Int), .int .i64 (X.place : Int), .string (str X.text), .slice xa X.kids.length xc] 32) K5 ht5; have hs5 : wr.heap.size ≤ w5.heap.size := K5.size; have z3 := K5.cell (p := ⟨w.heap.size + 1, 3, none⟩) p3 (show ¬ w.heap.size + 1 = ba by omega); have y3 := ((Kept.refl (fun _ => False) w5).alloc (.cells #[.int .i64 (X.kind : Int), .int .i64 (X.place : Int), .string (str X.text), .slice xa X.kids.length xc] 32)).cell z3 (fun h => h); have hb5 : w5.heap[w.heap.size + 1]? = _ := (K5.block _ (show w.heap.size + 1 < wr.heap.size by omega) (show ¬ w.heap.size + 1 = ba by omega)).trans hb11'.out; have hr5 : w5.heap[w.heap.size]? = _ := (K5.block _ (show w.heap.size < wr.heap.size by omega) (show ¬ w.heap.size = ba by omega)).trans hres'.out; have hKw5 : Kept (fun b => b = ba) w w5 := hK.drew.trans K5 (fun _ _ h => h) (fun _ _ h => h)))
      all_goals (
        obtain ⟨⟨F3, hM8⟩, hb8⟩ := hst
        have hr8 := (Below.heap_setCell w' ⟨w.heap.size + 1, 3, none⟩ (.slice (some ⟨g', 0, none⟩) (ks.length + 1) cap') w.heap.size (show w.heap.size ≠ w.heap.size + 1 by omega)).trans hrs
        have ha8 := (Below.heap_setCell w' ⟨w.heap.size + 1, 3, none⟩ (.slice (some ⟨g', 0, none⟩) (ks.length + 1) cap') ba (show ba ≠ w.heap.size + 1 by omega)).trans hbs
        have hK8 := hKs.setCell (p := ⟨w.heap.size + 1, 3, none⟩) (fun h => absurd h (show ¬ w.heap.size + 1 < w.heap.size by omega)) (.slice (some ⟨g', 0, none⟩) (ks.length + 1) cap')
        have hgd8 : ∀ k ∈ ks ++ [X], Gd d k := fun k hk => by
          rcases List.mem_append.1 hk with h | h
          · exact hgd k h
          · rw [List.mem_singleton.1 h]; exact hg5
        have hsum8 : ((ks ++ [X]).map tsz).sum + 8 * (at0 + 1) ≤ 2 * (ks ++ [X]).length + 8 * at2 := by
          simp only [List.map_append, List.sum_append, List.map_cons, List.map_nil, List.sum_cons, List.sum_nil, List.length_append, List.length_cons, List.length_nil]
          omega
        have hl8 : (ks ++ [X]).length + (j - 1) = N % 4 := by simp; omega
        have hs8 : w.heap.size + 2 ≤ (w'.setCell ⟨w.heap.size + 1, 3, none⟩ (.slice (some ⟨g', 0, none⟩) (ks.length + 1) cap')).heap.size := by simp; omega
        clear hc hpk p0 p1 p2 p3 pf0 pf1 pf2 pf3 v1 v2 v3 j1 j2 j3 j4 hM7 K7 hb7 r0 r1 r2 r3 rf0 rf1 rf2 rf3 ht5 z3 y3 hb5 hr5 hKw5 K5 hba5 hrs hbs hKs hsum hgd
        go_wp2
        go_roundg (j - 1)
        case measure => omega
        case rel => exact ⟨j - 1, at2, ks ++ [X], F3, _, rfl, by go_num, hl8, hgd8, hsum8, by omega, by omega, hM8, hb8, hr8, ha8, hK8, hs8⟩)
    · have hj1 : j = 0 := by omega
      subst hj1
      obtain ⟨r0, r1, r2, r3, rf0, rf1, rf2, rf3⟩ := four_cells hres
      clear ih hT0 hZ0 hB0 K2
      go_wp2
      (try simp only [Exit.inBlock, Exit.then])
      refine bodyPost_ret (results_cell_row rfl _ _ w.heap.size 32 _ (0, 0) _ rfl (box_set hres _ _ _ _) Try.underlying32 rfl sizeRf) rfl ?_
      have KB := box_kept (Kept.refl (fun _ => False) wr) w.heap.size (.int .i64 1) (.int .i64 0) (.string ⟨#[]⟩) (.slice ma ks.length mc)
      refine ⟨openOf ks, .slice ma ks.length mc, at1, rfl, ?_, gd_open hgd, ?_, by omega, hA2, (KB.block ba (by omega) (fun h => by rcases h with h | h; exact h; omega)).trans hba, hK.trans KB (fun _ _ h => h) (fun x hx h => by rcases h with h | h; exact h.elim; omega)⟩
      · have hsh := hM.shut (lo := w.heap.size + 1) (by omega)
        refine TL.mono (fun g hg => ?_) (hsh.kept KB (fun g hg => ⟨hg.2, fun h => ?_⟩))
        · have := KB.size
          omega
        · rcases h with h | h
          · exact h
          · omega
      · rw [tsz_eq]
        show 2 + (ks.map tsz).sum + 8 * at0 ≤ _
        omega

set_option maxHeartbeats 1600000 in
set_option maxRecDepth 1000000 in
theorem made_n2 (d : Nat) (hd : d ≤ 1000) (ih : madeIH d) (at0 ba n tn c tc' : Nat) (a : Addr) (ta : Option Addr) (zs : List Int) (xs : List ByteArray) (z : Int) (w : World) (hR : MadeR w ba n tn c tc' (some a) ta zs xs) (hat : w.heap[ba]? = some (.cells #[.int .i64 (at0 : Int)] 3 (0, 0))) (h60 : at0 ≤ 60) (hlt : at0 < n) (hzz : zs[at0]? = some z) (hrz : -9223372036854775808 ≤ z ∧ z ≤ 9223372036854775807) (hz : z < 0) (hc : ((-(z + 1)).toNat % 3 = 2)) :
    Calls Try.prog 14 #[.slice (some a) n c, .slice ta tn tc', .pointer (some ⟨ba, 0, none⟩), .int .i64 ((d : Int) + 1)] w (MadeE (d + 1) at0 ba w) := by
  have hbl : ba < w.heap.size := (Array.getElem?_eq_some_iff.1 hat).1
  obtain ⟨l1, l2, l3⟩ := hR.l2 a rfl (by omega)
  have q1 := l3 at0 z hzz
  obtain ⟨q0, f0⟩ := one_cell hat
  obtain ⟨N, hNz⟩ : ∃ N : Nat, -(z + 1) = (N : Int) := ⟨(-(z + 1)).toNat, by omega⟩
  have sz : z < 0 := hz
  have hN : (N : Int) ≤ 9223372036854775807 := by omega
  have hNt : (-(z + 1)).toNat = N := by omega
  have c3 : N % 3 = 2 := by rw [hNt] at hc; exact hc
  have c3' : (N : Int) % 3 = 2 := by omega
  have s1 : ¬ (n : Int) ≤ (at0 : Int) := by omega
  have s2 : ¬ (d : Int) + 1 ≤ 0 := by omega
  have s3 : (at0 : Int) < (n : Int) := by omega
  have hab : (a.add at0).block ≠ ba := by rw [add_block]; exact l1
  have hal : (a.add at0).block < w.heap.size := by rw [add_block]; exact l2
  have hX : ∀ O, ((w.setCell ⟨ba, 0, none⟩ (.int .i64 ((at0 : Int) + 1))).alloc O).heap[w.heap.size]? = some O := fun O => by
    have := heap_alloc_new (w.setCell ⟨ba, 0, none⟩ (.int .i64 ((at0 : Int) + 1))) O
    rw [show (w.setCell ⟨ba, 0, none⟩ (.int .i64 ((at0 : Int) + 1))).heap.size = w.heap.size from by simp] at this
    exact this
  have hA : (w.setCell ⟨ba, 0, none⟩ (.int .i64 ((at0 : Int) + 1))).heap[ba]? = some (.cells #[.int .i64 ((at0 + 1 : Nat) : Int)] 3 (0, 0)) := heap_setCell_same w ba 0 _ 3 _ hat
  have K1 : Kept (fun b => b = ba) w (w.setCell ⟨ba, 0, none⟩ (.int .i64 ((at0 : Int) + 1))) := (Kept.refl (fun b => b = ba) w).setCell (p := ⟨ba, 0, none⟩) (fun _ => rfl) _
  have hAO : ∀ O, ((w.setCell ⟨ba, 0, none⟩ (.int .i64 ((at0 : Int) + 1))).alloc O).heap[ba]? = some (.cells #[.int .i64 ((at0 + 1 : Nat) : Int)] 3 (0, 0)) := fun O => (Below.heap_alloc _ O ba (by simp; exact hbl)).trans hA
  clear hc
  have hR_sm := hR.sm
  have hwd1 : IntKind.i64.wrap ((d : Int) + 1 - 1) = (d : Int) := by rw [IntKind.wrap_i64]; omega
  have hwd2 : IntKind.i64.wrap (d : Int) = (d : Int) := by rw [IntKind.wrap_i64]; omega
  have hT0 : (((w.setCell ⟨ba, 0, none⟩ (.int .i64 ((at0 : Int) + 1))).alloc (.cells #[.int .i64 0, .int .i64 0, .string ⟨#[]⟩, .slice none 0 0] 32)).alloc (.cells #[.int .i64 1, .int .i64 0, .string ⟨#[]⟩, .slice none 0 0] 32)).heap[w.heap.size + 1]? = some (.cells #[.int .i64 1, .int .i64 0, .string ⟨#[]⟩, .slice none 0 0] 32) := by
    have := heap_alloc_new ((w.setCell ⟨ba, 0, none⟩ (.int .i64 ((at0 : Int) + 1))).alloc (.cells #[.int .i64 0, .int .i64 0, .string ⟨#[]⟩, .slice none 0 0] 32)) (.cells #[.int .i64 1, .int .i64 0, .string ⟨#[]⟩, .slice none 0 0] 32)
    rw [show ((w.setCell ⟨ba, 0, none⟩ (.int .i64 ((at0 : Int) + 1))).alloc (.cells #[.int .i64 0, .int .i64 0, .string ⟨#[]⟩, .slice none 0 0] 32)).heap.size = w.heap.size + 1 from by simp] at this
    exact this
  have hZ0 : (((w.setCell ⟨ba, 0, none⟩ (.int .i64 ((at0 : Int) + 1))).alloc (.cells #[.int .i64 0, .int .i64 0, .string ⟨#[]⟩, .slice none 0 0] 32)).alloc (.cells #[.int .i64 1, .int .i64 0, .string ⟨#[]⟩, .slice none 0 0] 32)).heap[w.heap.size]? = some (.cells #[.int .i64 0, .int .i64 0, .string ⟨#[]⟩, .slice none 0 0] 32) := (Below.heap_alloc _ _ _ (by simp)).trans (hX _)
  have hB0 : (((w.setCell ⟨ba, 0, none⟩ (.int .i64 ((at0 : Int) + 1))).alloc (.cells #[.int .i64 0, .int .i64 0, .string ⟨#[]⟩, .slice none 0 0] 32)).alloc (.cells #[.int .i64 1, .int .i64 0, .string ⟨#[]⟩, .slice none 0 0] 32)).heap[ba]? = some (.cells #[.int .i64 ((at0 + 1 : Nat) : Int)] 3 (0, 0)) := (Below.heap_alloc _ _ _ (by simp; omega)).trans (hAO _)
  have K2 : Kept (fun b => b = ba) w (((w.setCell ⟨ba, 0, none⟩ (.int .i64 ((at0 : Int) + 1))).alloc (.cells #[.int .i64 0, .int .i64 0, .string ⟨#[]⟩, .slice none 0 0] 32)).alloc (.cells #[.int .i64 1, .int .i64 0, .string ⟨#[]⟩, .slice none 0 0] 32)) := (K1.alloc _).alloc _
  have hS0 : Hid ((((w.setCell ⟨ba, 0, none⟩ (.int .i64 ((at0 : Int) + 1))).alloc (.cells #[.int .i64 0, .int .i64 0, .string ⟨#[]⟩, .slice none 0 0] 32)).alloc (.cells #[.int .i64 1, .int .i64 0, .string ⟨#[]⟩, .slice none 0 0] 32)).heap.size = w.heap.size + 2) := by simp [Hid]
  have hN4 : N % 4 ≤ 3 := by omega
  have c4 : Hid ((N : Int) % 4 = ((N % 4 : Nat) : Int)) := by rw [Hid]; omega
  clear hX hA hAO K1
  go_enter Try.func14, Try.ntmps14
  go_wp2
  go_loopg [12] (N % 4) (fun gh v wr => ∃ (j at1 : Nat) (ks : List Tr) (F : Nat → Prop) (kv : Value), j = gh ∧ v = .int .i64 (j : Int) ∧ ks.length + j = N % 4 ∧ (∀ k ∈ ks, Gd d k) ∧ (ks.map tsz).sum + 8 * (at0 + 1) ≤ 2 * ks.length + 8 * at1 ∧ at0 + 1 ≤ at1 ∧ at1 ≤ 60 ∧ OneM 32 (w.heap.size + 2) F wr kv ks ∧ wr.heap[w.heap.size + 1]? = some (.cells #[.int .i64 1, .int .i64 0, .string ⟨#[]⟩, kv] 32 (0, 0)) ∧ wr.heap[w.heap.size]? = some (.cells #[.int .i64 0, .int .i64 0, .string ⟨#[]⟩, .slice none 0 0] 32) ∧ wr.heap[ba]? = some (.cells #[.int .i64 (at1 : Int)] 3 (0, 0)) ∧ Kept (fun b => b = ba) w wr ∧ w.heap.size + 2 ≤ wr.heap.size)
  case atStart => exact ⟨N % 4, at0 + 1, [], _, _, rfl, by first | rfl | rw [c4.out], by simp, by simp, by simp, Nat.le_refl _, by omega, OneM.nil _ _ _, hT0, hZ0, hB0, K2, by rw [hS0.out]; exact Nat.le_refl _⟩
  case round =>
    obtain ⟨j, at1, ks, F, kv, rfl, rfl, hj, hgd, hsum, hA1, hA2, hM, hb11, hres, hba, hK, hsw⟩ := hrel
    have hj3 : ks.length + j ≤ 3 := by omega
    clear c4 c3 c3'
    obtain ⟨ma, mc, rfl⟩ := hM.own.shape
    obtain ⟨p0, p1, p2, p3, pf0, pf1, pf2, pf3⟩ := four_cells hb11
    by_cases hj0 : 0 < j
    · have hj0' : (0 : Int) < (j : Int) := by omega
      have KD : Kept (fun b => b = ba) wr wr.drew := (Kept.refl _ wr).drew
      have hc := ih at1 ba n tn c tc' (some a) ta zs xs wr.drew (hR.kept (hK.drew)) hba hA2
      have hpk := fun (w5 : World) (X : Tr) (u : Value) (O : Obj) (K5 : Kept (fun b => b = ba) wr.drew w5) (ht5 : TL (fun g => wr.drew.heap.size ≤ g ∧ g < w5.heap.size) w5 u X.kids) => grow_pack2 (x := X) O hM (show ba < w.heap.size + 2 by omega) hsw (KD.trans K5 (U := fun b => b = ba) (fun _ _ h => h) (fun _ _ h => h)) ht5
      have hb11' : Hid (wr.heap[w.heap.size + 1]? = some (.cells #[.int .i64 1, .int .i64 0, .string ⟨#[]⟩, .slice ma ks.length mc] 32 (0, 0))) := hb11
      have hres' : Hid (wr.heap[w.heap.size]? = some (.cells #[.int .i64 0, .int .i64 0, .string ⟨#[]⟩, .slice none 0 0] 32)) := hres
      clear hb11 hres hT0 hZ0 hB0 K2 hM ih hba q0 q1 f0 l3 KD hR hat hzz hab hal
      go_wp2
      go_region_law (first
        | (refine step_tref rfl (.tmp 78) (.tmp 85) rfl (w.heap.size + 2) (.slice ma ks.length mc) ks.length (rowc ks us) (by rfl) v2 ⟨w5.heap.size, 0, none⟩ 1 (trc X (.slice xa X.kids.length xc)) (by rfl) rfl (cells_new _ _ _) (trc_one _ _ rfl) (by omega) (by simp; omega) (w5.heap.size + 1) (by simp) ?_; intro g' cap' w' j1 j2 j3 j4; obtain ⟨⟨F2, hM7⟩, K7⟩ := v3 g' cap' w' j1 j2 j3; have hb7 : w'.heap[w.heap.size + 1]? = _ := (K7.block _ (by omega) (by omega)).trans hb5; obtain ⟨r0, r1, r2, r3, rf0, rf1, rf2, rf3⟩ := four_cells hb7; have hst := store_pack hM7 (show w.heap.size + 1 < w.heap.size + 2 by omega) hb7; have hrs : w'.heap[w.heap.size]? = _ := (K7.block _ (by omega) (by omega)).trans hr5; have hbs : w'.heap[ba]? = _ := (K7.block _ (by omega) (by omega)).trans hba5; have hKs : Kept (fun b => b = ba) w w' := hKw5.trans K7 (fun _ _ h => h) (fun x hx h => by omega); have hsz7 := K7.size)
        | (go_simp; go_at_call 14; refine hc.mono ?_; rintro e w5 ⟨X, kv5, at2, rfl, ht5, hg5, hz5, ha5, ha6, hba5, K5⟩; obtain ⟨xa, xc, rfl⟩ := ht5.shape; unfold trv; obtain ⟨us, v1, v2, v3⟩ := hpk w5 X _ (.cells #[.int .i64 (X.kind : Int), .int .i64 (X.place : Int), .string (str X.text), .slice xa X.kids.length xc] 32) K5 ht5; have hs5 : wr.heap.size ≤ w5.heap.size := K5.size; have z3 := K5.cell (p := ⟨w.heap.size + 1, 3, none⟩) p3 (show ¬ w.heap.size + 1 = ba by omega); have y3 := ((Kept.refl (fun _ => False) w5).alloc (.cells #[.int .i64 (X.kind : Int), .int .i64 (X.place : Int), .string (str X.text), .slice xa X.kids.length xc] 32)).cell z3 (fun h => h); have hb5 : w5.heap[w.heap.size + 1]? = _ := (K5.block _ (show w.heap.size + 1 < wr.heap.size by omega) (show ¬ w.heap.size + 1 = ba by omega)).trans hb11'.out; have hr5 : w5.heap[w.heap.size]? = _ := (K5.block _ (show w.heap.size < wr.heap.size by omega) (show ¬ w.heap.size = ba by omega)).trans hres'.out; have hKw5 : Kept (fun b => b = ba) w w5 := hK.drew.trans K5 (fun _ _ h => h) (fun _ _ h => h)))
      all_goals (
        obtain ⟨⟨F3, hM8⟩, hb8⟩ := hst
        have hr8 := (Below.heap_setCell w' ⟨w.heap.size + 1, 3, none⟩ (.slice (some ⟨g', 0, none⟩) (ks.length + 1) cap') w.heap.size (show w.heap.size ≠ w.heap.size + 1 by omega)).trans hrs
        have ha8 := (Below.heap_setCell w' ⟨w.heap.size + 1, 3, none⟩ (.slice (some ⟨g', 0, none⟩) (ks.length + 1) cap') ba (show ba ≠ w.heap.size + 1 by omega)).trans hbs
        have hK8 := hKs.setCell (p := ⟨w.heap.size + 1, 3, none⟩) (fun h => absurd h (show ¬ w.heap.size + 1 < w.heap.size by omega)) (.slice (some ⟨g', 0, none⟩) (ks.length + 1) cap')
        have hgd8 : ∀ k ∈ ks ++ [X], Gd d k := fun k hk => by
          rcases List.mem_append.1 hk with h | h
          · exact hgd k h
          · rw [List.mem_singleton.1 h]; exact hg5
        have hsum8 : ((ks ++ [X]).map tsz).sum + 8 * (at0 + 1) ≤ 2 * (ks ++ [X]).length + 8 * at2 := by
          simp only [List.map_append, List.sum_append, List.map_cons, List.map_nil, List.sum_cons, List.sum_nil, List.length_append, List.length_cons, List.length_nil]
          omega
        have hl8 : (ks ++ [X]).length + (j - 1) = N % 4 := by simp; omega
        have hs8 : w.heap.size + 2 ≤ (w'.setCell ⟨w.heap.size + 1, 3, none⟩ (.slice (some ⟨g', 0, none⟩) (ks.length + 1) cap')).heap.size := by simp; omega
        clear hc hpk p0 p1 p2 p3 pf0 pf1 pf2 pf3 v1 v2 v3 j1 j2 j3 j4 hM7 K7 hb7 r0 r1 r2 r3 rf0 rf1 rf2 rf3 ht5 z3 y3 hb5 hr5 hKw5 K5 hba5 hrs hbs hKs hsum hgd
        go_wp2
        go_roundg (j - 1)
        case measure => omega
        case rel => exact ⟨j - 1, at2, ks ++ [X], F3, _, rfl, by go_num, hl8, hgd8, hsum8, by omega, by omega, hM8, hb8, hr8, ha8, hK8, hs8⟩)
    · have hj1 : j = 0 := by omega
      subst hj1
      obtain ⟨r0, r1, r2, r3, rf0, rf1, rf2, rf3⟩ := four_cells hres
      clear ih hT0 hZ0 hB0 K2
      go_wp2
      (try simp only [Exit.inBlock, Exit.then])
      refine bodyPost_ret (results_cell_row rfl _ _ w.heap.size 32 _ (0, 0) _ rfl (box_set hres _ _ _ _) Try.underlying32 rfl sizeRf) rfl ?_
      have KB := box_kept (Kept.refl (fun _ => False) wr) w.heap.size (.int .i64 1) (.int .i64 0) (.string ⟨#[]⟩) (.slice ma ks.length mc)
      refine ⟨openOf ks, .slice ma ks.length mc, at1, rfl, ?_, gd_open hgd, ?_, by omega, hA2, (KB.block ba (by omega) (fun h => by rcases h with h | h; exact h; omega)).trans hba, hK.trans KB (fun _ _ h => h) (fun x hx h => by rcases h with h | h; exact h.elim; omega)⟩
      · have hsh := hM.shut (lo := w.heap.size + 1) (by omega)
        refine TL.mono (fun g hg => ?_) (hsh.kept KB (fun g hg => ⟨hg.2, fun h => ?_⟩))
        · have := KB.size
          omega
        · rcases h with h | h
          · exact h
          · omega
      · rw [tsz_eq]
        show 2 + (ks.map tsz).sum + 8 * at0 ≤ _
        omega

end Go.Proofs.Ytmekjbplodnldaa
