/-
  Decode: instructions are read one behind the other.
-/
import Derived.Test.YtbhcmhbicbhgmaaCodeRow
namespace Go.Proofs.Ytbhcmhbicbhgmaa.Wire
open Go.RowKit

/-- What is answered, of what stands ahead yet. -/
def finD (acc : List Ins) (D : (Nat × Nat) × List Ins) : (Nat × Nat) × List Ins := if D.1.1 ≠ 0 then (D.1, []) else ((0, 0), acc ++ D.2)
theorem decG_zero (l : List Nat) : ∀ (f p : Nat), (decG l f p).1.1 = 0 → (decG l f p).1 = (0, 0)
  | 0, _, _ => rfl
  | f + 1, p, h => by
    rw [decG_at] at h ⊢
    split
    · rfl
    · rename_i h1
      split
      · rename_i h2
        rw [if_neg h1, if_pos h2] at h
        exact absurd (cw_zero.1 h) h2
      · rename_i h2
        rw [if_neg h1, if_neg h2] at h
        split
        · rename_i h3
          rw [if_pos h3] at h
          exact absurd h h3
        · rfl
theorem fin_start (l : List Nat) (f : Nat) : finD [] (decG l f 0) = decG l f 0 := by
  unfold finD
  split
  · rename_i h
    have := decG_none l f 0 h
    rw [← this]
  · rename_i h
    have := decG_zero l f 0 (by omega)
    rw [← this]
    rfl
theorem fin_end (l : List Nat) (f p : Nat) (acc : List Ins) (h : l.length ≤ p) : finD acc (decG l (f + 1) p) = ((0, 0), acc) := by
  rw [decG_at, if_pos h]
  unfold finD
  simp
theorem fin_bad (l : List Nat) (f p : Nat) (acc : List Ins) (h : ¬ l.length ≤ p) (h2 : (rdI l p).2.2 ≠ 0) : finD acc (decG l (f + 1) p) = ((cw (rdI l p).2.2, p), []) := by
  rw [decG_at, if_neg h, if_pos h2]
  unfold finD
  rw [if_pos (fun e => h2 (cw_zero.1 e))]
theorem fin_next (l : List Nat) (p : Nat) (acc : List Ins) (h : ¬ l.length ≤ p) (h2 : (rdI l p).2.2 = 0) : finD acc (decG l (l.length + 1) p) = finD (acc ++ [(rdI l p).1]) (decG l (l.length + 1) (rdI l p).2.1) := by
  have hs := (rdI_step l p (by omega)).2.2 h2
  rw [decG_at, if_neg h, if_neg (fun e => e h2), decG_fuel l l.length (l.length + 1) _ (by omega) (by omega)]
  generalize decG l (l.length + 1) (rdI l p).2.1 = D
  unfold finD
  by_cases h3 : D.1.1 = 0
  · simp [h3]
  · simp [h3]
/-- What Decode leaves. -/
def DecE (R : (Nat × Nat) × List Ins) (w : World) (e : Ending) (w' : World) : Prop :=
  ∃ v B, e = .returned (.tuple #[v, .int .i64 (R.1.1 : Nat), .int .i64 (R.1.2 : Nat)]) ∧ RowG cIns 34 7 B w' v R.2 ∧ w.heap.size ≤ B ∧ Kept (fun _ => False) w w'
/-- The slots, when an instruction is to be read next. -/
def ShpD (a' : Act) (v lv : Value) (b : Nat) : Prop := ∃ (u1 u2 u3 u4 u7 u8 u9 u10 u11 u12 u13 u14 u15 u16 u17 u18 u19 u20 u21 u22 u23 u24 u25 u26 u27 u28 u29 u30 u31 u32 : Value), a' = { tmps := #[v, u1, u2, u3, u4, lv, .pointer (some ⟨b, 0, none⟩), u7, u8, u9, u10, u11, u12, u13, u14, u15, u16, u17, u18, u19, u20, u21, u22, u23, u24, u25, u26, u27, u28, u29, u30, u31, u32], defers := [] }
def lenOf (v : Value) : Nat := match v with | .slice _ n _ => n | _ => 0
theorem zIns_heap (w : World) : (w.alloc (.cells #[.int .i64 0, .int .i64 0, .int .i64 0, .int .i64 0, .complex .f64 0 0, .string ⟨#[]⟩, .slice none 0 0] 34)).heap[w.heap.size]? = some (.cells #[.int .i64 0, .int .i64 0, .int .i64 0, .int .i64 0, .complex .f64 0 0, .string ⟨#[]⟩, .slice none 0 0] 34 (0, 0)) := heap_alloc_new w _
/-- An instruction in a new block: what the walk makes of 'i := ..'. -/
theorem box_new (w : World) (i : Ins) (tv : Value) : BxI ((w.alloc (.cells #[.int .i64 0, .int .i64 0, .int .i64 0, .int .i64 0, .complex .f64 0 0, .string ⟨#[]⟩, .slice none 0 0] 34)).setRow w.heap.size (insC i tv)) w.heap.size i tv ∧
    Kept (fun _ => False) w ((w.alloc (.cells #[.int .i64 0, .int .i64 0, .int .i64 0, .int .i64 0, .complex .f64 0 0, .string ⟨#[]⟩, .slice none 0 0] 34)).setRow w.heap.size (insC i tv)) := by
  refine ⟨setRow_heap _ w.heap.size _ _ 34 (0, 0) (zIns_heap w), ?_⟩
  exact ((Kept.refl (fun _ => False) w).alloc _).trans (kept_setRow _ w.heap.size (insC i tv)) (fun _ _ h => h) (fun x hx h => by omega)
theorem insC_one {F : Nat → Prop} {w : World} {i : Ins} {tv : Value} (h : IwR F w tv i.tos) : (insC i tv).all (·.oneCell') = true := by
  obtain ⟨ta, tc, rfl⟩ := h.shape
  unfold insC
  kernel_rfl

/-- Where reading stands. -/
structure Dst (w w' : World) (l : List Nat) (acc : List Ins) (p b g B : Nat) (lv : Value) : Prop where
  hr : RIs w' b g l p 0
  hp : p ≤ l.length
  hrow : RowG cIns 34 7 B w' lv acc
  hB : w.heap.size ≤ B
  hb : w.heap.size ≤ b
  hbB : b < B
  hgB : g < B
  hBw : B ≤ w'.heap.size
  hk : Kept (fun _ => False) w w'
  hal : acc.length ≤ p
  he : finD acc (decG l (l.length + 1) p) = decodeR l

set_option maxHeartbeats 4000000 in
set_option maxRecDepth 1000000 in
theorem cdecode (v : Value) (b0 : Nat) (l : List Nat) (w : World) (h256 : ∀ x ∈ l, x < 256) (hll : l.length ≤ 140737488355328) (hv : Rd w b0 v l) : Calls Try.prog 7 #[v] w (DecE (decodeR l) w) := by
  obtain ⟨va, vc, rfl⟩ := hv.shape
  go_enter Try.func7, Try.ntmps7
  go_wp2_with fail
  refine wp_scope_via 0 (fun a' w' => ∃ (acc : List Ins) (p b g B : Nat) (lv : Value), ShpD a' (.slice va l.length vc) lv b ∧ l.length ≤ 2048 ∧ Dst w w' l acc p b g B lv) (fun a' _ => l.length - lenOf (a'.tmps.getD 5 undef)) rfl ?_ ?_
  · intro hpass
    by_cases hlong : 2048 < l.length
    · have HD : Hid (decodeR l = ((3, 0), [])) := by unfold decodeR Hid; rw [if_pos hlong]
      go_wp2
      simp only [Exit.jump]
      go_ret3
      rw [HD.out]
      exact ⟨_, w.heap.size, rfl, RowG.nil _ _ _ _ _, Nat.le_refl _, Kept.refl _ _⟩
    · have HD : Hid (finD [] (decG l (l.length + 1) 0) = decodeR l) := by unfold decodeR Hid; rw [if_neg hlong, fin_start]
      have hl : l.length ≤ 2048 := by omega
      have hnr := newreader _ b0 l w hll hv
      go_wp2_with fail
      refine hnr.mono ?_
      rintro e w1 ⟨b, g, rfl, hr1, hb1, hg1, K1⟩
      have hbl := hr1.lt
      have hgl := hr1.gt
      clear hnr hv
      go_wp2
      (try (rename_i K hK; refine wp_label (hK _ _ ?_)))
      (try (refine wp_label ?_))
      exact hpass _ _ ⟨[], 0, b, g, w1.heap.size, .slice none 0 0, ⟨_, _, _, _, _, _, _, _, _, _, _, _, _, _, _, _, _, _, _, _, _, _, _, _, _, _, _, _, _, _, rfl⟩, hl, hr1, Nat.zero_le _, RowG.nil _ _ _ _ _, K1.size, hb1, hbl, hgl, Nat.le_refl _, K1, Nat.le_refl _, HD.out⟩
  · rintro a' w' ⟨acc, p, b, g, B, lv, ⟨u1, u2, u3, u4, u7, u8, u9, u10, u11, u12, u13, u14, u15, u16, u17, u18, u19, u20, u21, u22, u23, u24, u25, u26, u27, u28, u29, u30, u31, u32, rfl⟩, hl, hr, hp, hrow, hB, hb, hbB, hgB, hBw, hk, hal, he⟩
    obtain ⟨la, lc, rfl⟩ := hrow.shape
    have hlf := rleft' b g l p 0 w' hll hp hr
    have HE := hidden he
    clear he
    by_cases hend : l.length ≤ p
    · rw [show lf l p 0 = 0 by unfold lf; rw [if_pos rfl]; omega] at hlf
      have HF := hidden (fin_end l l.length p acc hend)
      go_wp2_with fail
      refine hlf.mono ?_
      rintro e w2 ⟨rfl, K2⟩
      have hrow2 := hrow.kept cIns_ok K2 (fun _ _ h => h)
      have hk2 := hk.trans K2 (fun _ _ h => h) (fun _ _ h => h)
      go_wp2
      simp only [Exit.jump]
      go_ret3
      rw [← HE.out, HF.out]
      exact ⟨_, B, rfl, hrow2, hB, hk2⟩
    · obtain ⟨m, hm⟩ : ∃ m, lf l p 0 = m + 1 := ⟨l.length - p - 1, by unfold lf; rw [if_pos rfl]; omega⟩
      rw [hm] at hlf
      have hst := rdI_step l p (by omega)
      have hpl := rdI_pl l p
      have hbad := fin_bad l l.length p acc hend
      have hnext := fin_next l p acc hend
      go_wp2_with fail
      refine hlf.mono ?_
      rintro e w2 ⟨rfl, K2⟩
      have hrow2 := hrow.kept cIns_ok K2 (fun _ _ h => h)
      have hk2 := hk.trans K2 (fun _ _ h => h) (fun _ _ h => h)
      have hr2 := hr.kept K2 (fun h => h) (fun h => h)
      have hz2 := K2.size
      have hown : ∀ z, (Value.slice la acc.length lc).ownBlock = some z → B ≤ z ∧ z < w2.heap.size := fun z hz => hrow2.block hz
      have HOWN := hidden hown
      clear hown
      have hin := creadInst b g l p w2 hl h256 (by omega) hr2
      generalize rdI l p = R at *
      obtain ⟨i, p3, y3⟩ := R
      simp only at hin hst hpl hbad hnext
      have HP := hidden hpl
      have HBAD := hidden hbad
      have HNX := hidden hnext
      clear hlf hrow hk hr K2 hpl hbad hnext
      go_wp2_with fail
      refine hin.mono ?_
      rintro e w3 ⟨tv, rfl, hT3, hr3, K3⟩
      have hz3 := K3.size
      have hrow3 := hrow2.kept cIns_ok K3 (fun x hx h => by omega)
      have hk3 := hk2.trans K3 (fun _ _ h => h) (fun x hx h => by omega)
      obtain ⟨hbx, K4⟩ := box_new w3 i tv
      have h1c := insC_one hT3
      have hrow4 := hrow3.kept cIns_ok K4 (fun _ _ h => h)
      have hk4 := hk3.trans K4 (fun _ _ h => h) (fun _ _ h => h)
      have hr4 := hr3.kept K4 (fun h => h) (fun h => h)
      have hT4 : IwR (fun z => w2.heap.size ≤ z ∧ z < w3.heap.size) ((w3.alloc (.cells #[.int .i64 0, .int .i64 0, .int .i64 0, .int .i64 0, .complex .f64 0 0, .string ⟨#[]⟩, .slice none 0 0] 34)).setRow w3.heap.size (insC i tv)) tv i.tos := hT3.frame fun z hz => ⟨hz, K4.block z hz.2 (fun h => h)⟩
      have hz4 := K4.size
      have hzz := zIns_heap w3
      have hrf := crefusal b g l p3 y3 _ hll hst.2.1 hr4
      clear hin hrow2 hrow3 hk2 hk3 hr2 hr3 hT3 K3
      go_wp2_with (refine wpList_store_row rfl 34 (.tmp 7) (.tmp 21) rfl w3.heap.size (insC i tv) rfl rfl 34 #[.int .i64 0, .int .i64 0, .int .i64 0, .int .i64 0, .complex .f64 0 0, .string ⟨#[]⟩, .slice none 0 0] hzz sizeIns rfl h1c ?_)
      clear hzz
      generalize (w3.alloc (.cells #[.int .i64 0, .int .i64 0, .int .i64 0, .int .i64 0, .complex .f64 0 0, .string ⟨#[]⟩, .slice none 0 0] 34)).setRow w3.heap.size (insC i tv) = W4 at *
      refine hrf.mono ?_
      rintro e w5 ⟨rfl, K5⟩
      have hbx5 := hbx.kept K5 (fun h => h)
      have hrow5 := hrow4.kept cIns_ok K5 (fun _ _ h => h)
      have hk5 := hk4.trans K5 (fun _ _ h => h) (fun _ _ h => h)
      have hr5 := hr4.kept K5 (fun h => h) (fun h => h)
      have hz5 := K5.size
      have hT5 : IwR (fun z => w2.heap.size ≤ z ∧ z < w3.heap.size) w5 tv i.tos := hT4.frame fun z hz => ⟨hz, K5.block z (by have := hz.2; omega) (fun h => h)⟩
      obtain ⟨c0, c1, c2, c3, c4, c5, c6⟩ := hbx5.cells
      have hlt5 := hbx5.lt
      clear hrf hbx hrow4 hk4 hr4 hT4 K4 K5
      by_cases hy : y3 = 0
      · subst hy
        have hs2 := hst.2.2 rfl
        have HN := hidden (HNX.out rfl)
        have hp3 := hst.1
        clear HBAD HNX hst
        rw [show cw 0 = 0 from rfl]
        have hwn : w5.heap.size ≤ (w5.alloc (.cells (insC i tv) 34)).heap.size := by simp
        have K6 : Kept (fun _ => False) w5 (w5.alloc (.cells (insC i tv) 34)) := (Kept.refl _ w5).alloc _
        have hrow6 := hrow5.kept cIns_ok K6 (fun _ _ h => h)
        have hcl : cIns (fun z => B ≤ z ∧ z < (w5.alloc (.cells (insC i tv) 34)).heap.size ∧ some z ≠ (Value.slice la acc.length lc).ownBlock) (w5.alloc (.cells (insC i tv) 34)) i (insC i tv).toList := by
          refine ⟨tv, rfl, hT5.frame fun z hz => ⟨⟨by have := hz.1; omega, by have := hz.2; omega, fun e => ?_⟩, K6.block z (by have := hz.2; omega) (fun h => h)⟩⟩
          have := HOWN.out z e.symm
          have := hz.1
          omega
        go_wp2_with (at_builtin; refine append_rowG cIns_ok rfl (.tmp 29) (.tmp 31) 24 rfl Try.underlying24 infoIns (by decide) _ acc rfl hrow6 i (insC i tv).toList ⟨w5.heap.size, 0, none⟩ 1 rfl ?src hcl ?len ?byt ?hB ?next)
        case src => exact cells_new w5 (insC i tv).toList 34
        case len => unfold maxLen; omega
        case byt => omega
        case hB =>
          refine Nat.le_trans ?_ hwn
          omega
        case next =>
          intro g2 cap2 w6 hrow7 hg7
          have K7 : Kept (fun z => (Value.slice la acc.length lc).ownBlock = some z) w5 w6 := (K6.mono (fun _ _ h => h.elim)).grown hg7 (fun k e _ => e)
          have hz7 := K7.size
          have hr7 := hr5.kept K7 (fun h => by have := HOWN.out b h; omega) (fun h => by have := HOWN.out g h; omega)
          have hk7 := hk5.trans K7 (fun _ _ h => h) (fun x hx h => by have := HOWN.out x h; omega)
          clear hrow6 hcl hg7 K7 K6 hrow5 hk5 hr5 hT5 c0 c1 c2 c3 c4 c5 c6 hbx5
          go_wp2
          refine wp_goto ⟨rfl, ⟨acc ++ [i], p3, b, g, B, _, ⟨_, _, _, _, _, _, _, _, _, _, _, _, _, _, _, _, _, _, _, _, _, _, _, _, _, _, _, _, _, _, rfl⟩, hl, hr7, hp3, hrow7, hB, hb, hbB, hgB, by omega, hk7, by rw [List.length_append]; show acc.length + 1 ≤ p3; omega, by rw [← HN.out]; exact HE.out⟩, ?_⟩
          show l.length - (acc.length + 1) < l.length - acc.length
          omega
      · have HB := hidden (HBAD.out hy)
        have hyc : ((cw y3 : Nat) : Int) ≠ 0 := by
          intro e
          exact hy (cw_zero.1 (by omega))
        generalize cw y3 = yc at *
        go_wp2
        go_quiet (fail)
        go_wp2
        simp only [Exit.jump]
        go_ret3
        rw [← HE.out, HB.out, HP.out]
        exact ⟨_, w.heap.size, rfl, RowG.nil _ _ _ _ _, Nat.le_refl _, hk5.trans (kept_drewN w5 _) (fun _ _ h => h) (fun _ _ h => h)⟩
end Go.Proofs.Ytbhcmhbicbhgmaa.Wire
