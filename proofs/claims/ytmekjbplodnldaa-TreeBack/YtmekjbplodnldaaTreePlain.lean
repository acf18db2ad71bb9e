/-
  The statements' 'plain': the document's own tree as a tree.
-/
import Derived.Deep.RegionLaw
import Derived.Deep.RegionWith
import Derived.Deep.RegionHeld3
import Derived.Test.YtmekjbplodnldaaTreeGrow
import Derived.Test.YtmekjbplodnldaaTreeSame
namespace Go.Proofs.Ytmekjbplodnldaa
open Go.RowKit

set_option maxHeartbeats 4000000 in
set_option maxRecDepth 1000000 in
theorem plainT (t : Tr) : ∀ (kv : Value) (F : Nat → Prop) (w : World), TL F w kv t.kids → (∀ g, F g → g < w.heap.size) → tsz t ≤ 100000 → Calls Try.prog 15 #[trv t kv] w (PlE t w) := by
  induction t using tr_ind with
  | h t ih =>
    intro kv F w ht hF hz
    obtain ⟨ta, tc', rfl⟩ := ht.shape
    have hlen := tsz_len t
    have K0 : Kept (fun _ => False) w (((w.alloc (.cells #[.int .i64 (t.kind : Int), .int .i64 (t.place : Int), .string (str t.text), .slice ta t.kids.length tc'] 32)).alloc (.cells #[.int .i64 0, .int .i64 0, .string ⟨#[]⟩, .slice none 0 0] 24)).alloc (.cells #[.int .i64 (t.kind : Int), .int .i64 (t.place : Int), .string (str t.text), .slice none 0 0] 24)) := (((Kept.refl _ w).alloc _).alloc _).alloc _
    have ht2 := ht.kept K0 (fun g hg => ⟨hF g hg, fun h => h⟩)
    have hB0 : Below w.heap.size w (((w.alloc (.cells #[.int .i64 (t.kind : Int), .int .i64 (t.place : Int), .string (str t.text), .slice ta t.kids.length tc'] 32)).alloc (.cells #[.int .i64 0, .int .i64 0, .string ⟨#[]⟩, .slice none 0 0] 24)).alloc (.cells #[.int .i64 (t.kind : Int), .int .i64 (t.place : Int), .string (str t.text), .slice none 0 0] 24)) := K0.below (Nat.le_refl _) (fun _ _ h => h)
    have hx1 : (((w.alloc (.cells #[.int .i64 (t.kind : Int), .int .i64 (t.place : Int), .string (str t.text), .slice ta t.kids.length tc'] 32)).alloc (.cells #[.int .i64 0, .int .i64 0, .string ⟨#[]⟩, .slice none 0 0] 24)).alloc (.cells #[.int .i64 (t.kind : Int), .int .i64 (t.place : Int), .string (str t.text), .slice none 0 0] 24)).heap[w.heap.size]? = some (.cells #[.int .i64 (t.kind : Int), .int .i64 (t.place : Int), .string (str t.text), .slice ta t.kids.length tc'] 32) := by
      rw [Below.heap_alloc _ _ _ (by simp; omega), Below.heap_alloc _ _ _ (by simp)]
      exact heap_alloc_new w _
    have hx2 : (((w.alloc (.cells #[.int .i64 (t.kind : Int), .int .i64 (t.place : Int), .string (str t.text), .slice ta t.kids.length tc'] 32)).alloc (.cells #[.int .i64 0, .int .i64 0, .string ⟨#[]⟩, .slice none 0 0] 24)).alloc (.cells #[.int .i64 (t.kind : Int), .int .i64 (t.place : Int), .string (str t.text), .slice none 0 0] 24)).heap[w.heap.size + 1]? = some (.cells #[.int .i64 0, .int .i64 0, .string ⟨#[]⟩, .slice none 0 0] 24) := by
      rw [Below.heap_alloc _ _ _ (by simp)]
      exact heap_alloc2_new w _ _
    have hx3 : (((w.alloc (.cells #[.int .i64 (t.kind : Int), .int .i64 (t.place : Int), .string (str t.text), .slice ta t.kids.length tc'] 32)).alloc (.cells #[.int .i64 0, .int .i64 0, .string ⟨#[]⟩, .slice none 0 0] 24)).alloc (.cells #[.int .i64 (t.kind : Int), .int .i64 (t.place : Int), .string (str t.text), .slice none 0 0] 24)).heap[w.heap.size + 2]? = some (.cells #[.int .i64 (t.kind : Int), .int .i64 (t.place : Int), .string (str t.text), .slice none 0 0] 24) := by
      have := heap_alloc_new ((w.alloc (.cells #[.int .i64 (t.kind : Int), .int .i64 (t.place : Int), .string (str t.text), .slice ta t.kids.length tc'] 32)).alloc (.cells #[.int .i64 0, .int .i64 0, .string ⟨#[]⟩, .slice none 0 0] 24)) (.cells #[.int .i64 (t.kind : Int), .int .i64 (t.place : Int), .string (str t.text), .slice none 0 0] 24)
      rw [show ((w.alloc (.cells #[.int .i64 (t.kind : Int), .int .i64 (t.place : Int), .string (str t.text), .slice ta t.kids.length tc'] 32)).alloc (.cells #[.int .i64 0, .int .i64 0, .string ⟨#[]⟩, .slice none 0 0] 24)).heap.size = w.heap.size + 2 from by simp] at this
      exact this
    have hsz : Hid ((((w.alloc (.cells #[.int .i64 (t.kind : Int), .int .i64 (t.place : Int), .string (str t.text), .slice ta t.kids.length tc'] 32)).alloc (.cells #[.int .i64 0, .int .i64 0, .string ⟨#[]⟩, .slice none 0 0] 24)).alloc (.cells #[.int .i64 (t.kind : Int), .int .i64 (t.place : Int), .string (str t.text), .slice none 0 0] 24)).heap.size = w.heap.size + 3) := by simp [Hid]
    unfold trv
    clear K0 ht
    go_enter Try.func15, Try.ntmps15
    go_wp2
    go_loopg [4] t.kids.length (fun gh i wr => ∃ (k : Nat) (F' : Nat → Prop) (kv' : Value), gh + k = t.kids.length ∧ i = .int .i64 k ∧ OneM 24 (w.heap.size + 3) F' wr kv' (t.kids.take k) ∧ wr.heap[w.heap.size + 2]? = some (.cells #[.int .i64 (t.kind : Int), .int .i64 (t.place : Int), .string (str t.text), kv'] 24) ∧ Below (w.heap.size + 2) (((w.alloc (.cells #[.int .i64 (t.kind : Int), .int .i64 (t.place : Int), .string (str t.text), .slice ta t.kids.length tc'] 32)).alloc (.cells #[.int .i64 0, .int .i64 0, .string ⟨#[]⟩, .slice none 0 0] 24)).alloc (.cells #[.int .i64 (t.kind : Int), .int .i64 (t.place : Int), .string (str t.text), .slice none 0 0] 24)) wr)
    case atStart => exact ⟨0, _, _, rfl, rfl, OneM.nil _ _ _, hx3, Below.refl _ _⟩
    case round =>
      obtain ⟨k, F', kv', hgh, rfl, hM, hb3, hbl⟩ := hrel
      have hsw : w.heap.size + 3 ≤ wr.heap.size := by have := hbl.size; rw [hsz.out] at this; exact this
      have hbw : Below w.heap.size w wr := hB0.trans (hbl.mono (by omega))
      obtain ⟨x0, x1, x2, x3, _⟩ := four_cells ((hbl.block w.heap.size (by omega)).trans hx1)
      have hres := (hbl.block (w.heap.size + 1) (by omega)).trans hx2
      by_cases hk : k < t.kids.length
      · have hki : (k : Int) < (t.kids.length : Int) := by omega
        have hTK : Hid (t.kids.take (k + 1) = t.kids.take k ++ [t.kids[k]]) := List.take_succ_eq_append_getElem hk
        have htl : (t.kids.take k).length ≤ 100000 := by simp; omega
        have ht3 := ht2.kept (Kept.of_below hbl) (fun g hg => ⟨by have := hF g hg; rw [hsz.out]; omega, by have := hF g hg; omega⟩)
        obtain ⟨ga, ca, ka, hka, hga, hkta, a0, a1, a2, a3⟩ := ht3.at k hk
        cases hka
        obtain ⟨ea, ec, rfl⟩ := hkta.shape
        have KD : Kept (fun _ => False) wr wr.drew := (Kept.refl _ wr).drew
        have hc := ih t.kids[k] (List.getElem_mem hk) (.slice ea t.kids[k].kids.length ec) F wr.drew (hkta.kept KD (fun g hg => ⟨by have := hF g hg; omega, fun h => h⟩)) (fun g hg => by have := hF g hg; simp; omega) (by have := tsz_kid (List.getElem_mem hk); omega)
        unfold trv at hc
        generalize t.kids.take k = ks at *
        generalize t.kids[k] = tk at *
        obtain ⟨ma, mc, rfl⟩ := hM.own.shape
        obtain ⟨p0, p1, p2, p3, pf0, pf1, pf2, pf3⟩ := four_cells hb3
        have hpk := fun (w5 : World) (xa : Option Addr) (xc : Nat) (O : Obj) (hb5 : Below wr.drew.heap.size wr.drew w5) (ht5 : TL (fun g => wr.drew.heap.size ≤ g ∧ g < w5.heap.size) w5 (.slice xa tk.kids.length xc) tk.kids) => grow_pack O hM hsw (show Below wr.heap.size wr w5 from (Below.refl wr.heap.size wr).drew.trans hb5) ht5
        have hq3 := fun (w5 : World) (hb5 : Below wr.drew.heap.size wr.drew w5) => show w5.cell? ⟨w.heap.size + 2, 3, none⟩ = some (.slice ma ks.length mc) from (hb5.cell (p := ⟨w.heap.size + 2, 3, none⟩) (show w.heap.size + 2 < wr.heap.size by omega)).trans p3
        have hb3' : Hid (wr.heap[w.heap.size + 2]? = some (.cells #[.int .i64 (t.kind : Int), .int .i64 (t.place : Int), .string (str t.text), .slice ma ks.length mc] 24)) := hb3
        have hgal : ga < w.heap.size := by have := hF ga hga; omega
        have hS : ∀ u, Below (w.heap.size + 2) wr u → u.cell? ⟨w.heap.size, 3, none⟩ = some (.slice (some ⟨ga, 0, none⟩) t.kids.length tc') ∧ u.cell? ⟨ga, k * 4, none⟩ = some (.int .i64 (tk.kind : Int)) ∧ u.cell? ⟨ga, k * 4 + 1, none⟩ = some (.int .i64 (tk.place : Int)) ∧ u.cell? ⟨ga, k * 4 + 2, none⟩ = some (.string (str tk.text)) ∧ u.cell? ⟨ga, k * 4 + 3, none⟩ = some (.slice ea tk.kids.length ec) := fun u hu => ⟨(hu.cell (p := ⟨w.heap.size, 3, none⟩) (show w.heap.size < _ by omega)).trans x3, (hu.cell (p := ⟨ga, k * 4, none⟩) (show ga < _ by omega)).trans a0, (hu.cell (p := ⟨ga, k * 4 + 1, none⟩) (show ga < _ by omega)).trans a1, (hu.cell (p := ⟨ga, k * 4 + 2, none⟩) (show ga < _ by omega)).trans a2, (hu.cell (p := ⟨ga, k * 4 + 3, none⟩) (show ga < _ by omega)).trans a3⟩
        have G0 : Below (w.heap.size + 2) wr wr.drew := (Below.refl _ wr).drew
        clear ih ht3 hkta KD hM hb3 hx1 hx2 hx3 ht2
        go_wp2
        go_region_law (first
          | (go_simp; go_at_call 15; refine hc.mono ?_; rintro e w5 ⟨kv5, rfl, ht5, hb5⟩; obtain ⟨xa, xc, rfl⟩ := ht5.shape; unfold trv; obtain ⟨us, v1, v2, v3⟩ := hpk w5 xa xc (.cells #[.int .i64 (tk.kind : Int), .int .i64 (tk.place : Int), .string (str tk.text), .slice xa tk.kids.length xc] 24) hb5 ht5; have z3 := hq3 w5 hb5; have y3 := ((Kept.refl (fun _ => False) w5).alloc (.cells #[.int .i64 (tk.kind : Int), .int .i64 (tk.place : Int), .string (str tk.text), .slice xa tk.kids.length xc] 24)).cell z3 (fun h => h); have hs5 : wr.heap.size ≤ w5.heap.size := hb5.size; have G5 : Below (w.heap.size + 2) wr w5 := G0.trans (hb5.mono (show w.heap.size + 2 ≤ wr.heap.size by omega)); have G6 := G5.alloc (by omega) (.cells #[.int .i64 (tk.kind : Int), .int .i64 (tk.place : Int), .string (str tk.text), .slice xa tk.kids.length xc] 24))
          | (refine step_tree rfl (.tmp 20) (.tmp 27) rfl (w.heap.size + 3) (.slice ma ks.length mc) ks.length (rowc ks us) (by rfl) v2 ⟨w5.heap.size, 0, none⟩ 1 (trc tk (.slice xa tk.kids.length xc)) (by rfl) rfl (cells_new _ _ _) (trc_one _ _ rfl) htl (by simp; omega) (w5.heap.size + 1) (by simp) ?_; intro g' cap' w' j1 j2 j3 j4; obtain ⟨⟨F2, hM7⟩, K7⟩ := v3 g' cap' w' j1 j2 j3; have hb7 : w'.heap[w.heap.size + 2]? = _ := (K7.block _ (by omega) (by omega)).trans hb3'.out; obtain ⟨r0, r1, r2, r3, rf0, rf1, rf2, rf3⟩ := four_cells hb7; have hst := store_pack hM7 (show w.heap.size + 2 < w.heap.size + 3 by omega) hb7; have G7 := K7.below (B := w.heap.size + 2) (by omega) (fun b hb h => by omega); have G8 := G7.setCell (p := ⟨w.heap.size + 2, 3, none⟩) (Nat.le_refl _) (.slice (some ⟨g', 0, none⟩) (ks.length + 1) cap'); have hbl8 := (hbl.trans (K7.below (by omega) (fun b hb h => by omega))).setCell (p := ⟨w.heap.size + 2, 3, none⟩) (Nat.le_refl _) (.slice (some ⟨g', 0, none⟩) (ks.length + 1) cap')))
        all_goals (
          obtain ⟨⟨F3, hM8⟩, hb8⟩ := hst
          rw [← hTK.out] at hM8
          clear hc hpk hq3 hbl p0 p1 p2 p3 pf0 pf1 pf2 pf3 x0 x1 x2 x3 a0 a1 a2 a3 v1 v2 v3 j1 j2 j3 j4 hM7 K7 hb7 r0 r1 r2 r3 rf0 rf1 rf2 rf3 ht5 hb5 z3 y3
          go_wp2
          go_roundg (t.kids.length - (k + 1))
          case measure => omega
          case rel => exact ⟨k + 1, F3, _, by omega, by go_num, hM8, hb8, hbl8⟩)
      · have hk' : k = t.kids.length := by omega
        subst hk'
        have hki : ¬ (t.kids.length : Int) < (t.kids.length : Int) := by omega
        rw [List.take_length] at hM
        obtain ⟨ma, mc, rfl⟩ := hM.own.shape
        obtain ⟨p0, p1, p2, p3, pf0, pf1, pf2, pf3⟩ := four_cells hb3
        obtain ⟨r0, r1, r2, r3, rf0, rf1, rf2, rf3⟩ := four_cells hres
        clear ih
        go_wp2
        (try simp only [Exit.inBlock, Exit.then])
        refine bodyPost_ret (results_cell_row rfl _ _ (w.heap.size + 1) 24 _ (0, 0) _ rfl (box_set hres _ _ _ _) Try.underlying24 rfl sizeTr) rfl ?_
        refine ⟨.slice ma t.kids.length mc, rfl, ?_, box_below hbw (by omega) _ _ _ _⟩
        have KB := box_kept (Kept.refl (fun _ => False) wr) (w.heap.size + 1) (.int .i64 (t.kind : Int)) (.int .i64 (t.place : Int)) (.string (str t.text)) (.slice ma t.kids.length mc)
        have hsh := hM.shut (lo := w.heap.size + 2) (by omega)
        refine (hsh.kept KB (fun g hg => ⟨hg.2, fun h => ?_⟩)).mono (fun g hg => ?_)
        · rcases h with h | h
          · exact h
          · omega
        · have := KB.size
          omega
end Go.Proofs.Ytmekjbplodnldaa
