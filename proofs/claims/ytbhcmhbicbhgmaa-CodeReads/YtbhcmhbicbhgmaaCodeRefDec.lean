/-
  The document's own Decode.
-/
import Derived.Test.YtbhcmhbicbhgmaaCodeOne
namespace Go.Proofs.Ytbhcmhbicbhgmaa.Wire
open Go.RowKit

/-- What the document's Decode leaves. -/
def DecJ (R : (Nat × Nat) × List Ins) (w : World) (e : Ending) (w' : World) : Prop :=
  ∃ v B, e = .returned (.tuple #[v, .int .i64 (R.1.1 : Nat), .int .i64 (R.1.2 : Nat)]) ∧ RowG cIns 57 7 B w' v R.2 ∧ w.heap.size ≤ B ∧ Kept (fun _ => False) w w'
theorem infoJns : (Try.prog.info? 57).map (fun i => (i.zero.map (fun z => z.cells.size), i.size, i.bytes)) = some (some 7, 7, 88) := by kernel_rfl
theorem zJns_heap (w : World) : (w.alloc (.cells #[.int .i64 0, .int .i64 0, .int .i64 0, .int .i64 0, .complex .f64 0 0, .string ⟨#[]⟩, .slice none 0 0] 57)).heap[w.heap.size]? = some (.cells #[.int .i64 0, .int .i64 0, .int .i64 0, .int .i64 0, .complex .f64 0 0, .string ⟨#[]⟩, .slice none 0 0] 57 (0, 0)) := heap_alloc_new w _
theorem boxJ_new (w : World) (i : Ins) (tv : Value) : BxJ ((w.alloc (.cells #[.int .i64 0, .int .i64 0, .int .i64 0, .int .i64 0, .complex .f64 0 0, .string ⟨#[]⟩, .slice none 0 0] 57)).setRow w.heap.size (insC i tv)) w.heap.size i tv ∧
    Kept (fun _ => False) w ((w.alloc (.cells #[.int .i64 0, .int .i64 0, .int .i64 0, .int .i64 0, .complex .f64 0 0, .string ⟨#[]⟩, .slice none 0 0] 57)).setRow w.heap.size (insC i tv)) := by
  refine ⟨setRow_heap _ w.heap.size _ _ 57 (0, 0) (zJns_heap w), ?_⟩
  exact ((Kept.refl (fun _ => False) w).alloc _).trans (kept_setRow _ w.heap.size (insC i tv)) (fun _ _ h => h) (fun x hx h => by omega)
set_option maxHeartbeats 4000000 in
set_option maxRecDepth 1000000 in
theorem refDecode13 (v : Value) (b0 : Nat) (l : List Nat) (w : World) (hO : QOk l v) (hb0 : l = [] ∨ b0 < w.heap.size) (hv : Rd w b0 v l) : Calls Try.prog 13 #[v] w (DecJ (decodeR l) w) := by
  obtain ⟨va, vc, rfl⟩ := hv.shape
  by_cases hlong : 2048 < l.length
  · have HD : Hid (decodeR l = ((3, 0), [])) := by unfold decodeR Hid; rw [if_pos hlong]
    have hli : (2048 : Int) < (l.length : Int) := by omega
    go_enter Try.func13, Try.ntmps13
    go_wp2
    go_ret3
    rw [HD.out]
    exact ⟨_, w.heap.size, rfl, RowG.nil _ _ _ _ _, Nat.le_refl _, Kept.refl _ _⟩
  · have HD : Hid (finD [] (decG l (l.length + 1) 0) = decodeR l) := by unfold decodeR Hid; rw [if_neg hlong, fin_start]
    have hl : l.length ≤ 2048 := by omega
    have hli : ¬ (2048 : Int) < (l.length : Int) := by omega
    go_enter Try.func13, Try.ntmps13
    go_wp2
    go_loopg [5, 6] l.length (fun gk lv av wr => ∃ (acc : List Ins) (p : Nat), gk + p = l.length ∧ av = .int .i64 p ∧ acc.length ≤ p ∧ RowG cIns 57 7 w.heap.size wr lv acc ∧ Kept (fun _ => False) w wr ∧ finD acc (decG l (l.length + 1) p) = decodeR l)
    case atStart => exact ⟨[], 0, rfl, rfl, Nat.le_refl _, RowG.nil _ _ _ _ _, Kept.refl _ _, HD.out⟩
    case round =>
      obtain ⟨acc, p, hgk, rfl, hal, hrow, hk, he⟩ := hrel
      have HE := hidden he
      clear he HD
      obtain ⟨la, lc, rfl⟩ := hrow.shape
      by_cases hend : l.length ≤ p
      · have HF := hidden (fin_end l l.length p acc hend)
        go_wp2
        go_ret3
        rw [← HE.out, HF.out]
        exact ⟨_, w.heap.size, rfl, hrow, Nat.le_refl _, hk⟩
      · have hpl : p < l.length := by omega
        have hst := rdI_step l p hpl
        have hbad := fin_bad l l.length p acc hend
        have hnext := fin_next l p acc hend
        have hz := hk.size
        have hon := refOne _ b0 l p wr hl hO hpl (by rcases hb0 with h | h; subst h; simp at hpl; omega) (hv.kept hk (fun h => h))
        have hown : ∀ z, (Value.slice la acc.length lc).ownBlock = some z → w.heap.size ≤ z ∧ z < wr.heap.size := fun z hz => hrow.block hz
        have HOWN := hidden hown
        unfold OneE at hon
        generalize rdI l p = R at *
        obtain ⟨i, p3, y3⟩ := R
        simp only at hon hst hbad hnext
        have HBAD := hidden hbad
        have HNX := hidden hnext
        have HGK := hidden hgk
        clear hbad hnext hown hgk
        go_wp2_with fail
        refine hon.mono ?_
        rintro e w2 ⟨hcase, K2⟩
        have hz2 := K2.size
        have hrow2 := hrow.kept cIns_ok K2 (fun _ _ h => h)
        have hk2 := hk.trans K2 (fun _ _ h => h) (fun _ _ h => h)
        clear hon hrow hk
        rcases hcase with ⟨rfl, tv, rfl, hT2⟩ | ⟨hy, rfl⟩
        · obtain ⟨hbx, K4⟩ := boxJ_new w2 i tv
          have h1c := insC_one hT2
          have hzz := zJns_heap w2
          have hrow4 := hrow2.kept cIns_ok K4 (fun _ _ h => h)
          have hk4 := hk2.trans K4 (fun _ _ h => h) (fun _ _ h => h)
          have hz4 := K4.size
          obtain ⟨c0, c1, c2, c3, c4, c5, c6⟩ := hbx.cells
          have hs2 := hst.2.2 rfl
          have HN := hidden (HNX.out rfl)
          have hp3 := hst.1
          clear HBAD HNX hst
          have hT4 : IwR (fun z => wr.heap.size ≤ z ∧ z < w2.heap.size) ((w2.alloc (.cells #[.int .i64 0, .int .i64 0, .int .i64 0, .int .i64 0, .complex .f64 0 0, .string ⟨#[]⟩, .slice none 0 0] 57)).setRow w2.heap.size (insC i tv)) tv i.tos := hT2.frame fun z hz => ⟨hz, K4.block z hz.2 (fun h => h)⟩
          clear hT2 hrow2 hk2
          obtain ⟨W4, hW4⟩ : ∃ W4, (w2.alloc (.cells #[.int .i64 0, .int .i64 0, .int .i64 0, .int .i64 0, .complex .f64 0 0, .string ⟨#[]⟩, .slice none 0 0] 57)).setRow w2.heap.size (insC i tv) = W4 := ⟨_, rfl⟩
          rw [hW4] at hbx K4 hrow4 hk4 hz4 c0 c1 c2 c3 c4 c5 c6 hT4
          have K6 : Kept (fun _ => False) W4 (W4.alloc (.cells (insC i tv) 57)) := (Kept.refl _ W4).alloc _
          have hwn := K6.size
          have hrow6 := hrow4.kept cIns_ok K6 (fun _ _ h => h)
          have hcl : cIns (fun z => w.heap.size ≤ z ∧ z < (W4.alloc (.cells (insC i tv) 57)).heap.size ∧ some z ≠ (Value.slice la acc.length lc).ownBlock) (W4.alloc (.cells (insC i tv) 57)) i (insC i tv).toList := by
            refine ⟨tv, rfl, hT4.frame fun z hz => ⟨⟨by have := hz.1; omega, by have := hz.2; omega, fun e => ?_⟩, K6.block z (by have := hz.2; omega) (fun h => h)⟩⟩
            have := HOWN.out z e.symm
            have := hz.1
            omega
          have hzE : W4.heap.size = w2.heap.size + 1 := by rw [← hW4]; simp [World.setRow]
          have hsrc := cells_new W4 (insC i tv).toList 57
          rw [hzE] at hsrc
          have HZE := hidden hzE
          have HSRC := hidden hsrc
          clear hzE hsrc
          subst hW4
          go_wp2_with (first | refine wpList_store_row rfl 57 (.tmp 7) (.tmp 21) rfl w2.heap.size (insC i tv) rfl rfl 57 #[.int .i64 0, .int .i64 0, .int .i64 0, .int .i64 0, .complex .f64 0 0, .string ⟨#[]⟩, .slice none 0 0] hzz sizeJns rfl h1c ?_ | (at_builtin; refine append_rowG cIns_ok rfl (.tmp 28) (.tmp 30) 39 rfl Try.underlying39 infoJns (by decide) _ acc rfl hrow6 i (insC i tv).toList ⟨w2.heap.size + 1, 0, none⟩ 1 rfl ?src hcl ?len ?byt ?hB ?next))
          case src => exact HSRC.out
          case len => unfold maxLen; omega
          case byt => omega
          case hB =>
            refine Nat.le_trans ?_ hwn
            omega
          case next =>
            intro g2 cap2 w6 hrow7 hg7
            have K7 : Kept (fun z => (Value.slice la acc.length lc).ownBlock = some z) ((w2.alloc (.cells #[.int .i64 0, .int .i64 0, .int .i64 0, .int .i64 0, .complex .f64 0 0, .string ⟨#[]⟩, .slice none 0 0] 57)).setRow w2.heap.size (insC i tv)) w6 := (K6.mono (fun _ _ h => h.elim)).grown hg7 (fun k e _ => e)
            have hk7 := hk4.trans K7 (fun _ _ h => h) (fun x hx h => by have := HOWN.out x h; omega)
            clear hrow6 hcl hg7 K7 K6 hrow4 hk4 hT4 c0 c1 c2 c3 c4 c5 c6 hbx
            go_wp2
            go_roundg (l.length - p3)
            case measure => have := HGK.out; omega
            case rel => exact ⟨acc ++ [i], p3, by omega, rfl, by rw [List.length_append]; show acc.length + 1 ≤ p3; omega, hrow7, hk7, by rw [← HN.out]; exact HE.out⟩
        · have HB := hidden (HBAD.out hy)
          obtain ⟨hbx, K4⟩ := boxJ_new w2 zIns (.slice none 0 0)
          have h1c : (insC zIns (.slice none 0 0)).all (·.oneCell') = true := insC_one (IwR.nil (fun _ => False) w2)
          have hzz := zJns_heap w2
          have hk4 := hk2.trans K4 (fun _ _ h => h) (fun _ _ h => h)
          have hyc : ((cw y3 : Nat) : Int) ≠ 0 := by
            intro e
            exact hy (cw_zero.1 (by omega))
          generalize cw y3 = yc at *
          clear hy hst
          go_wp2_with (refine wpList_store_row rfl 57 (.tmp 7) (.tmp 21) rfl w2.heap.size (insC zIns (.slice none 0 0)) rfl rfl 57 #[.int .i64 0, .int .i64 0, .int .i64 0, .int .i64 0, .complex .f64 0 0, .string ⟨#[]⟩, .slice none 0 0] hzz sizeJns rfl h1c ?_)
          go_wp2
          go_ret3
          rw [← HE.out, HB.out]
          exact ⟨_, w.heap.size, rfl, RowG.nil _ _ _ _ _, Nat.le_refl _, hk4⟩
end Go.Proofs.Ytbhcmhbicbhgmaa.Wire
