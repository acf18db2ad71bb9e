/-
  The document's own reading of one tree: its walk.
-/
import Derived.Test.YtcjlifhehiolkaaGreatTreeOne
namespace Go.Proofs.YtcjlifhehiolkaaGreat
open Go.RowKit

/-- How many tokens a bracket has up to its k-th Kid. -/
def cnt (t : Tr) (k : Nat) : List Tok := ((t.kids.take k).map toks).flatten
theorem cnt_step (t : Tr) (k : Nat) (hk : k < t.kids.length) : cnt t (k + 1) = cnt t k ++ toks t.kids[k] := by
  rw [cnt, cnt, List.take_succ_eq_append_getElem hk, List.map_append, List.flatten_append]
  simp
theorem cnt_split (t : Tr) (h : t.kind = 1) (k : Nat) (hk : k < t.kids.length) (rest : List Tok) : ∃ more, toks t ++ rest = (⟨1, t.place, t.text⟩ :: cnt t k) ++ (toks t.kids[k] ++ more) := by
  refine ⟨((t.kids.drop (k + 1)).map toks).flatten ++ [t.shut] ++ rest, ?_⟩
  have e : (t.kids.map toks).flatten = cnt t k ++ (toks t.kids[k] ++ ((t.kids.drop (k + 1)).map toks).flatten) := by
    have e1 : t.kids = t.kids.take k ++ (t.kids[k] :: t.kids.drop (k + 1)) := by rw [← List.drop_eq_getElem_cons hk, List.take_append_drop]
    have e2 := congrArg (fun l : List Tr => (l.map toks).flatten) e1
    simp only [List.map_append, List.flatten_append, List.map_cons, List.flatten_cons] at e2
    exact e2
  rw [toks_eq, if_pos h, e]
  simp
theorem cnt_all (t : Tr) (h : t.kind = 1) (rest : List Tok) : toks t ++ rest = (⟨1, t.place, t.text⟩ :: cnt t t.kids.length) ++ (t.shut :: rest) := by
  rw [toks_eq, if_pos h, cnt, List.take_length]
  simp

set_option maxHeartbeats 1600000 in
set_option maxRecDepth 1000000 in
theorem oneT (t : Tr) : ∀ (rest : List Tok) (g off cap N : Nat) (w : World), RdO w g off (toks t ++ rest) → Right t → (toks t ++ rest).length = N → N ≤ 8192 → N ≤ cap → cap ≤ 9223372036854775807 →
    Calls Tryz.prog 34 #[.slice (some ⟨g, off, none⟩) N cap] w (OneTE t w) := by
  induction t using tr_ind with
  | h t ih =>
    intro rest g off cap N w hrd hR hN hN1 hN2 hN3
    obtain ⟨x, xl, hx, hx1, hx2, hx3, hx4⟩ := toks_head t hR
    have hrd0 := hrd
    rw [hx, List.cons_append] at hrd0
    obtain ⟨a0, a1, a2⟩ := hrd0.head
    rw [hx1] at a0
    rw [hx2] at a1
    rw [hx3] at a2
    have hgw : g < w.heap.size := World.block_lt_of_cell? w _ a0
    have hNp : (0 : Int) < (N : Int) := by rw [← hN, hx]; simp; omega
    have K1 : Kept (fun _ => False) w (w.alloc (.cells #[.int .i64 0, .int .i64 0, .string ⟨#[]⟩, .slice none 0 0] 40)) := (Kept.refl _ w).alloc _
    have K2 : Kept (fun _ => False) w ((w.alloc (.cells #[.int .i64 0, .int .i64 0, .string ⟨#[]⟩, .slice none 0 0] 40)).alloc (.cells #[.int .i64 0, .int .i64 0, .string ⟨#[]⟩, .slice none 0 0] 40)) := K1.alloc _
    have b0 := K1.cell a0 (fun h => h)
    have b1 := K1.cell a1 (fun h => h)
    have b2 := K1.cell a2 (fun h => h)
    have c0 := K2.cell a0 (fun h => h)
    have c1 := K2.cell a1 (fun h => h)
    have c2 := K2.cell a2 (fun h => h)
    clear K1 K2 hrd0
    have hres : ((w.alloc (.cells #[.int .i64 0, .int .i64 0, .string ⟨#[]⟩, .slice none 0 0] 40)).alloc (.cells #[.int .i64 (t.kind : Int), .int .i64 (t.place : Int), .string (str t.text), .slice none 0 0] 40)).drew.heap[w.heap.size]? = some (.cells #[.int .i64 0, .int .i64 0, .string ⟨#[]⟩, .slice none 0 0] 40) := by
      show ((w.alloc (.cells #[.int .i64 0, .int .i64 0, .string ⟨#[]⟩, .slice none 0 0] 40)).alloc (.cells #[.int .i64 (t.kind : Int), .int .i64 (t.place : Int), .string (str t.text), .slice none 0 0] 40)).heap[w.heap.size]? = _
      rw [Below.heap_alloc _ _ _ (by simp)]
      exact heap_alloc_new w _
    have hbox : ((w.alloc (.cells #[.int .i64 0, .int .i64 0, .string ⟨#[]⟩, .slice none 0 0] 40)).alloc (.cells #[.int .i64 (t.kind : Int), .int .i64 (t.place : Int), .string (str t.text), .slice none 0 0] 40)).drew.heap[w.heap.size + 1]? = some (.cells #[.int .i64 (t.kind : Int), .int .i64 (t.place : Int), .string (str t.text), .slice none 0 0] 40) := heap_alloc2_new w _ _
    have hsz : Hid (((w.alloc (.cells #[.int .i64 0, .int .i64 0, .string ⟨#[]⟩, .slice none 0 0] 40)).alloc (.cells #[.int .i64 (t.kind : Int), .int .i64 (t.place : Int), .string (str t.text), .slice none 0 0] 40)).drew.heap.size = w.heap.size + 2) := by simp [Hid]
    have KW : Kept (fun _ => False) w ((w.alloc (.cells #[.int .i64 0, .int .i64 0, .string ⟨#[]⟩, .slice none 0 0] 40)).alloc (.cells #[.int .i64 (t.kind : Int), .int .i64 (t.place : Int), .string (str t.text), .slice none 0 0] 40)).drew := (((Kept.refl _ w).alloc _).alloc _).drew
    have hB0 : Below w.heap.size w ((w.alloc (.cells #[.int .i64 0, .int .i64 0, .string ⟨#[]⟩, .slice none 0 0] 40)).alloc (.cells #[.int .i64 (t.kind : Int), .int .i64 (t.place : Int), .string (str t.text), .slice none 0 0] 40)).drew := KW.below (Nat.le_refl _) (fun _ _ h => h)
    have hrd2 := hrd.kept KW (fun h => h)
    go_enter Tryz.func34, Tryz.ntmps34
    go_wp2
    go_cut [4] from 8 to 20 (fun p wx => p = .pointer (some ⟨w.heap.size + 1, 0, none⟩) ∧ wx = ((w.alloc (.cells #[.int .i64 0, .int .i64 0, .string ⟨#[]⟩, .slice none 0 0] 40)).alloc (.cells #[.int .i64 (t.kind : Int), .int .i64 (t.place : Int), .string (str t.text), .slice none 0 0] 40)).drew)
    case first =>
      clear ih hrd hrd2 hR hbox hres KW hB0 hsz
      go_region
      all_goals (go_wp2_with fail; go_meet; exact ⟨rfl, rfl⟩)
    case rest =>
      obtain ⟨rfl, hw⟩ := hcut
      rw [← hw] at hres hbox hsz hB0 hrd2
      clear hw KW a0 a1 a2 b0 b1 b2 c0 c1 c2 hrd
      obtain ⟨r0, r1, r2, r3, rf0, rf1, rf2, rf3⟩ := four_cells hres
      obtain ⟨p0, p1, p2, p3, pf0, pf1, pf2, pf3⟩ := four_cells hbox
      by_cases k1 : t.kind = 1
      · have s1 : ((t.kind : Int) != 1) = false := by rw [bne_eq_false_iff_eq]; omega
        have K1h : Hid (t.kind = 1) := k1
        clear k1
        go_wp2
        go_loopg [5] t.kids.length (fun gh i wr => ∃ (k : Nat) (F : Nat → Prop) (kv : Value), gh + k = t.kids.length ∧ i = .int .i64 ((cnt t k).length + 1 : Nat) ∧ OneM 40 (w.heap.size + 2) F wr kv (t.kids.take k) ∧ wr.heap[w.heap.size + 1]? = some (.cells #[.int .i64 (t.kind : Int), .int .i64 (t.place : Int), .string (str t.text), kv] 40) ∧ Below (w.heap.size + 1) wc wr)
        case atStart => exact ⟨0, _, _, rfl, rfl, OneM.nil _ _ _, hbox, Below.refl _ _⟩
        case round =>
          obtain ⟨k, F, kv, hgh, rfl, hM, hb4, hbl⟩ := hrel
          clear r0 r1 r2 r3 rf0 rf1 rf2 rf3 p0 p1 p2 p3 pf0 pf1 pf2 pf3
          have hsw : w.heap.size + 2 ≤ wr.heap.size := by have := hbl.size; rw [hsz.out] at this; exact this
          have hbw : Below w.heap.size w wr := hB0.trans (hbl.mono (by omega))
          obtain ⟨p0, p1, p2, p3, pf0, pf1, pf2, pf3⟩ := four_cells hb4
          have hrd3 := hrd2.kept (Kept.of_below hbl) (by omega)
          by_cases hk : k < t.kids.length
          · obtain ⟨more, hmore⟩ := cnt_split t K1h.out k hk rest
            have hkm := List.getElem_mem hk
            have hRk : Right t.kids[k] := by
              rw [Right_eq] at hR
              rcases hR with h | h
              · exact h.2.2 _ hkm
              · exact absurd K1h.out h.1
            obtain ⟨y, yl, hy, hy1, hy2, hy3, hy4⟩ := toks_head _ hRk
            have hcs := cnt_step t k hk
            have hNl : (cnt t k).length + 1 + (toks t.kids[k] ++ more).length = N := by rw [← hN, hmore]; simp; omega
            rw [hmore] at hrd3
            have hrd4 := hrd3.drop
            have hrd5 := hrd4
            rw [hy, List.cons_append] at hrd5
            obtain ⟨q0, _, _⟩ := hrd5.head
            have hyl : 1 ≤ (toks t.kids[k]).length := toks_ne _
            have hlt : (cnt t k).length + 1 < N := by simp at hNl; omega
            have htn : (toks t.kids[k]).length + (cnt t k).length ≤ 8192 := by rw [List.length_append] at hNl; omega
            rw [List.length_cons] at hrd4 q0
            have hq : ((y.kind : Int) != 2) = true := by rw [bne_iff_ne]; omega
            have hc := ih t.kids[k] hkm more g (off + ((cnt t k).length + 1) * 3) (cap - ((cnt t k).length + 1)) (N - ((cnt t k).length + 1)) wr hrd4 hRk (by omega) (by omega) (by omega) (by omega)
            have htk : t.kids.take (k + 1) = t.kids.take k ++ [t.kids[k]] := List.take_succ_eq_append_getElem hk
            have htl : (t.kids.take k).length ≤ 8192 := by
              have h1 := kids_toks t.kids
              have h2 : (t.kids.map toks).flatten.length ≤ N := by rw [← hN, toks_eq, if_pos K1h.out]; simp; omega
              simp; omega
            have hcl : (cnt t (k + 1)).length = (cnt t k).length + (toks t.kids[k]).length := by rw [hcs]; simp
            clear ih hrd2 hrd3 hrd4 hrd5 hmore hy hcs p0 p1 p2 p3 pf0 pf1 pf2 pf3
            have hTK : Hid (t.kids.take (k + 1) = t.kids.take k ++ [t.kids[k]]) := htk
            clear htk
            generalize t.kids.take k = ks at *
            obtain ⟨ka, kc, rfl⟩ := hM.own.shape
            obtain ⟨p0, p1, p2, p3, pf0, pf1, pf2, pf3⟩ := four_cells hb4
            generalize t.kids[k] = tk at *
            generalize (cnt t k).length = m at *
            generalize hC1 : (cnt t (k + 1)).length = m1 at *
            have hi1 : (m : Int) + 1 < (N : Int) := by omega
            have hi2 : (m : Int) + 1 ≤ (N : Int) := by omega
            have hi3 : (0 : Int) ≤ (m : Int) + 1 := by omega
            have hci : (cap : Int) ≤ 9223372036854775807 := by omega
            have hi4 : (N : Int) ≤ (cap : Int) := by omega
            go_wp2_with fail
            refine hc.mono ?_
            rintro e w5 ⟨kv5, rfl, ht5, hb5⟩
            obtain ⟨ea, ec, rfl⟩ := ht5.shape
            unfold trv
            have K5 : Kept (fun _ => False) wr w5 := (Kept.of_below hb5).mono (fun k hk h => by omega)
            have K6 : Kept (fun _ => False) wr ((w5.alloc (.cells #[.int .i64 (tk.kind : Int), .int .i64 (tk.place : Int), .string (str tk.text), .slice ea tk.kids.length ec] 40)).alloc (.cells #[.int .i64 (tk.kind : Int), .int .i64 (tk.place : Int), .string (str tk.text), .slice ea tk.kids.length ec] 40)) := (K5.alloc _).alloc _
            have hs5 := hb5.size
            have hM6 := hM.grow (G := fun g => wr.heap.size ≤ g ∧ g < w5.heap.size) K6 hsw (fun g hg => by simp; omega)
            have ht6 : TL (fun g => F g ∨ (wr.heap.size ≤ g ∧ g < w5.heap.size)) ((w5.alloc (.cells #[.int .i64 (tk.kind : Int), .int .i64 (tk.place : Int), .string (str tk.text), .slice ea tk.kids.length ec] 40)).alloc (.cells #[.int .i64 (tk.kind : Int), .int .i64 (tk.place : Int), .string (str tk.text), .slice ea tk.kids.length ec] 40)) (.slice ea tk.kids.length ec) tk.kids := (ht5.kept (((Kept.refl (fun _ => False) w5).alloc _).alloc _) (fun g hg => ⟨hg.2, fun h => h⟩)).mono (fun g hg => .inr hg)
            have hb46 : ((w5.alloc (.cells #[.int .i64 (tk.kind : Int), .int .i64 (tk.place : Int), .string (str tk.text), .slice ea tk.kids.length ec] 40)).alloc (.cells #[.int .i64 (tk.kind : Int), .int .i64 (tk.place : Int), .string (str tk.text), .slice ea tk.kids.length ec] 40)).heap[w.heap.size + 1]? = _ := (K6.block _ (by omega) (fun h => h)).trans hb4
            obtain ⟨z0, z1, z2, z3, _⟩ := four_cells ((K5.block _ (by omega) (fun h => h)).trans hb4)
            have y3 := ((Kept.refl (fun _ => False) w5).alloc (.cells #[.int .i64 (tk.kind : Int), .int .i64 (tk.place : Int), .string (str tk.text), .slice ea tk.kids.length ec] 40)).cell z3 (fun h => h)
            obtain ⟨vs, v1, v2, v3⟩ := hM6.own
            have hfar := hM.own.lt
            clear hc p0 p1 p2 p3 pf0 pf1 pf2 pf3 q0 hM hb4 K5 K6 z0 z1 z2 z3
            go_wp2_with (at_builtin; refine append_tref rfl (.tmp 39) (.tmp 41) rfl (w.heap.size + 2) _ _ _ rfl v2 _ _ (trc tk (.slice ea tk.kids.length ec)) rfl rfl ?src (trc_one _ _ rfl) ?len ?hB (w5.heap.size + 1 + 1) (by simp) ?next)
            case src => exact cells_at _ _ _ (by simp)
            case len => omega
            case hB => simp; omega
            case next =>
              intro g' cap' w' j1 j2 j3 j4
              obtain ⟨hM7, K7⟩ := hM6.app v1 v3 j1 j2 j3 (by simp) ht6
              have hb47 : w'.heap[w.heap.size + 1]? = _ := (K7.block _ (by simp; omega) (fun e => by have := (hfar _ e).1; omega)).trans hb46
              obtain ⟨z0, z1, z2, z3, zf0, zf1, zf2, zf3⟩ := four_cells hb47
              have hM8 := hM7.set (j := 3) (u := .slice (some ⟨g', 0, none⟩) (ks.length + 1) cap') (show w.heap.size + 1 < w.heap.size + 2 from by omega)
              have hb48 := heap_setCell_same w' (w.heap.size + 1) 3 _ 40 (.slice (some ⟨g', 0, none⟩) (ks.length + 1) cap') hb47
              have hbl8 : Below (w.heap.size + 1) wc (w'.setCell ⟨w.heap.size + 1, 3, none⟩ (.slice (some ⟨g', 0, none⟩) (ks.length + 1) cap')) := by
                refine Below.setCell (p := ⟨w.heap.size + 1, 3, none⟩) ?_ (Nat.le_refl _) _
                exact (hbl.trans (((hb5.mono (by omega)).alloc (by omega) _).alloc (by simp; omega) _)).trans (K7.below (by simp; omega) (fun b hb e => by have := (hfar _ e).1; omega))
              rw [← hTK.out] at hM8
              clear hM6 hM7 K7 hb46 hb47 j1 j2 j3 j4 v1 v2 v3 ht5 ht6 hb5 y3 hbl hfar
              go_wp2
              go_roundg (t.kids.length - (k + 1))
              case measure => omega
              case rel => exact ⟨k + 1, _, _, by omega, by rw [hC1, hcl]; go_num, hM8, hb48, hbl8⟩
          · have hk' : k = t.kids.length := by omega
            subst hk'
            have hall := cnt_all t K1h.out rest
            have hs2 : t.shut.kind = 2 := by
              rw [Right_eq] at hR
              rcases hR with h | h
              · exact h.2.1
              · exact absurd K1h.out h.1
            rw [hall] at hrd3
            obtain ⟨q0, _, _⟩ := hrd3.drop.head
            rw [List.length_cons, hs2] at q0
            have hNl : (cnt t t.kids.length).length + 1 + (1 + rest.length) = N := by rw [← hN, hall]; simp; omega
            have hTl : (toks t).length = (cnt t t.kids.length).length + 2 := by
              have := congrArg List.length hall
              simp at this
              omega
            have hres2 : wr.heap[w.heap.size]? = some (.cells #[.int .i64 0, .int .i64 0, .string ⟨#[]⟩, .slice none 0 0] 40) := (hbl.block _ (by omega)).trans hres
            obtain ⟨r0, r1, r2, r3, rf0, rf1, rf2, rf3⟩ := four_cells hres2
            rw [List.take_length] at hM
            obtain ⟨ka, kc, rfl⟩ := hM.own.shape
            clear ih hrd2 hrd3 hall
            generalize (cnt t t.kids.length).length = m at *
            have hi1 : (m : Int) + 1 < (N : Int) := by omega
            go_wp2
            (try simp only [Exit.inBlock, Exit.then])
            refine bodyPost_ret (res_cell2 rfl _ _ w.heap.size 40 _ (0, 0) _ rfl (box_set hres2 _ _ _ _) Tryz.underlying40 rfl sizeRf) rfl ?_
            refine one_mk (n := (m : Int) + 1 + 1) (kv := .slice ka t.kids.length kc) rfl (by rw [hTl]; omega) ?_ (box_below hbw (Nat.le_refl _) _ _ _ _)
            have KB := box_kept (Kept.refl (fun _ => False) wr) w.heap.size (.int .i64 (t.kind : Int)) (.int .i64 (t.place : Int)) (.string (str t.text)) (.slice ka t.kids.length kc)
            have hsh := hM.shut (lo := w.heap.size + 1) (by omega)
            refine (hsh.kept KB (fun g hg => ⟨hg.2, fun h => ?_⟩)).mono (fun g hg => ?_)
            · rcases h with h | h
              · exact h
              · omega
            · have := KB.size
              omega
      · have s1 : ((t.kind : Int) != 1) = true := by rw [bne_iff_ne]; omega
        have hkk : t.kids = [] := by
          rw [Right_eq] at hR
          rcases hR with h | h
          · exact absurd h.1 k1
          · exact h.2.2.1
        have hTl : (toks t).length = 1 := by rw [toks_eq, if_neg k1]; rfl
        clear ih hrd2
        go_wp2
        (try simp only [Exit.inBlock, Exit.then])
        refine bodyPost_ret (res_cell2 rfl _ _ w.heap.size 40 _ (0, 0) _ rfl (box_set hres _ _ _ _) Tryz.underlying40 rfl sizeRf) rfl ?_
        refine one_mk (n := 1) (kv := .slice none 0 0) rfl (by rw [hTl]; rfl) ?_ (box_below hB0 (Nat.le_refl _) _ _ _ _)
        rw [hkk]
        exact TL.nil _ _
end Go.Proofs.YtcjlifhehiolkaaGreat
