/-
  Decode: instructions are read one behind the other.
  And: Instructions as bytes: what is written, what is refused. No program in it. The small walks of writing: the ways reach, the ways as bytes; instructions in a row that is read. A walk's through: what stands in memory between two instructions.
-/
import Derived.Test.YtdeckknfolaaeaaGreatDoorG29
import Derived.Test.YtdeckknfolaaeaaGreatDoorG14
import Derived.Test.YtdeckknfolaaeaaGreatDoorG28
namespace Go.Proofs.YtdeckknfolaaeaaGreatDoor.Wire
open Go.RowKit

/-- What is answered, of what stands ahead yet. -/
def finD (acc : List Ins) (D : (Nat × Nat) × List Ins) : (Nat × Nat) × List Ins := if D.1.1 ≠ 0 then (D.1, []) else ((0, 0), acc ++ D.2)
theorem decG_zero (l : List Nat) : ∀ (f p : Nat), (decG l f p).1.1 = 0 → (decG l f p).1 = (0, 0)
  | 0, _, _ => rfl
  | f + 1, p, h => by
    rw [decG_at] at h ⊢
    split
    · rfl
    · rename_i h1
      split
      · rename_i h2
        rw [if_neg h1, if_pos h2] at h
        exact absurd (cw_zero.1 h) h2
      · rename_i h2
        rw [if_neg h1, if_neg h2] at h
        split
        · rename_i h3
          rw [if_pos h3] at h
          exact absurd h h3
        · rfl
theorem fin_start (l : List Nat) (f : Nat) : finD [] (decG l f 0) = decG l f 0 := by
  unfold finD
  split
  · rename_i h
    have := decG_none l f 0 h
    rw [← this]
  · rename_i h
    have := decG_zero l f 0 (by omega)
    rw [← this]
    rfl
theorem fin_end (l : List Nat) (f p : Nat) (acc : List Ins) (h : l.length ≤ p) : finD acc (decG l (f + 1) p) = ((0, 0), acc) := by
  rw [decG_at, if_pos h]
  unfold finD
  simp
theorem fin_bad (l : List Nat) (f p : Nat) (acc : List Ins) (h : ¬ l.length ≤ p) (h2 : (rdI l p).2.2 ≠ 0) : finD acc (decG l (f + 1) p) = ((cw (rdI l p).2.2, p), []) := by
  rw [decG_at, if_neg h, if_pos h2]
  unfold finD
  rw [if_pos (fun e => h2 (cw_zero.1 e))]
theorem fin_next (l : List Nat) (p : Nat) (acc : List Ins) (h : ¬ l.length ≤ p) (h2 : (rdI l p).2.2 = 0) : finD acc (decG l (l.length + 1) p) = finD (acc ++ [(rdI l p).1]) (decG l (l.length + 1) (rdI l p).2.1) := by
  have hs := (rdI_step l p (by omega)).2.2 h2
  rw [decG_at, if_neg h, if_neg (fun e => e h2), decG_fuel l l.length (l.length + 1) _ (by omega) (by omega)]
  generalize decG l (l.length + 1) (rdI l p).2.1 = D
  unfold finD
  by_cases h3 : D.1.1 = 0
  · simp [h3]
  · simp [h3]
/-- What Decode leaves. -/
def DecE (R : (Nat × Nat) × List Ins) (w : World) (e : Ending) (w' : World) : Prop :=
  ∃ v B, e = .returned (.tuple #[v, .int .i64 (R.1.1 : Nat), .int .i64 (R.1.2 : Nat)]) ∧ RowG cIns 144 7 B w' v R.2 ∧ w.heap.size ≤ B ∧ Kept (fun _ => False) w w'
/-- The slots, when an instruction is to be read next. -/
def ShpD (a' : Act) (v lv : Value) (b : Nat) : Prop := ∃ (u1 u2 u3 u4 u7 u8 u9 u10 u11 u12 u13 u14 u15 u16 u17 u18 u19 u20 u21 u22 u23 u24 u25 u26 u27 u28 u29 u30 u31 u32 : Value), a' = { tmps := #[v, u1, u2, u3, u4, lv, .pointer (some ⟨b, 0, none⟩), u7, u8, u9, u10, u11, u12, u13, u14, u15, u16, u17, u18, u19, u20, u21, u22, u23, u24, u25, u26, u27, u28, u29, u30, u31, u32], defers := [] }
def lenOf (v : Value) : Nat := match v with | .slice _ n _ => n | _ => 0
theorem zIns_heap (w : World) : (w.alloc (.cells #[.int .i64 0, .int .i64 0, .int .i64 0, .int .i64 0, .complex .f64 0 0, .string ⟨#[]⟩, .slice none 0 0] 144)).heap[w.heap.size]? = some (.cells #[.int .i64 0, .int .i64 0, .int .i64 0, .int .i64 0, .complex .f64 0 0, .string ⟨#[]⟩, .slice none 0 0] 144 (0, 0)) := heap_alloc_new w _
/-- An instruction in a new block: what the walk makes of 'i := ..'. -/
theorem box_new (w : World) (i : Ins) (tv : Value) : BxI ((w.alloc (.cells #[.int .i64 0, .int .i64 0, .int .i64 0, .int .i64 0, .complex .f64 0 0, .string ⟨#[]⟩, .slice none 0 0] 144)).setRow w.heap.size (insC i tv)) w.heap.size i tv ∧
    Kept (fun _ => False) w ((w.alloc (.cells #[.int .i64 0, .int .i64 0, .int .i64 0, .int .i64 0, .complex .f64 0 0, .string ⟨#[]⟩, .slice none 0 0] 144)).setRow w.heap.size (insC i tv)) := by
  refine ⟨setRow_heap _ w.heap.size _ _ 144 (0, 0) (zIns_heap w), ?_⟩
  exact ((Kept.refl (fun _ => False) w).alloc _).trans (kept_setRow _ w.heap.size (insC i tv)) (fun _ _ h => h) (fun x hx h => by omega)
theorem insC_one {F : Nat → Prop} {w : World} {i : Ins} {tv : Value} (h : IwR F w tv i.tos) : (insC i tv).all (·.oneCell') = true := by
  obtain ⟨ta, tc, rfl⟩ := h.shape
  unfold insC
  kernel_rfl

/-- Where reading stands. -/
structure Dst (w w' : World) (l : List Nat) (acc : List Ins) (p b g B : Nat) (lv : Value) : Prop where
  hr : RIs w' b g l p 0
  hp : p ≤ l.length
  hrow : RowG cIns 144 7 B w' lv acc
  hB : w.heap.size ≤ B
  hb : w.heap.size ≤ b
  hbB : b < B
  hgB : g < B
  hBw : B ≤ w'.heap.size
  hk : Kept (fun _ => False) w w'
  hal : acc.length ≤ p
  he : finD acc (decG l (l.length + 1) p) = decodeR l

set_option maxHeartbeats 4000000 in
set_option maxRecDepth 1000000 in
theorem cdecode (v : Value) (b0 : Nat) (l : List Nat) (w : World) (h256 : ∀ x ∈ l, x < 256) (hll : l.length ≤ 140737488355328) (hv : Rd w b0 v l) : Calls Tryz.prog 27 #[v] w (DecE (decodeR l) w) := by
  obtain ⟨va, vc, rfl⟩ := hv.shape
  go_enter Tryz.func27, Tryz.ntmps27
  go_wp2_with fail
  refine wp_scope_via 0 (fun a' w' => ∃ (acc : List Ins) (p b g B : Nat) (lv : Value), ShpD a' (.slice va l.length vc) lv b ∧ l.length ≤ 2048 ∧ Dst w w' l acc p b g B lv) (fun a' _ => l.length - lenOf (a'.tmps.getD 5 undef)) rfl ?_ ?_
  · intro hpass
    by_cases hlong : 2048 < l.length
    · have HD : Hid (decodeR l = ((3, 0), [])) := by unfold decodeR Hid; rw [if_pos hlong]
      go_wp2
      simp only [Exit.jump]
      go_ret3
      rw [HD.out]
      exact ⟨_, w.heap.size, rfl, RowG.nil _ _ _ _ _, Nat.le_refl _, Kept.refl _ _⟩
    · have HD : Hid (finD [] (decG l (l.length + 1) 0) = decodeR l) := by unfold decodeR Hid; rw [if_neg hlong, fin_start]
      have hl : l.length ≤ 2048 := by omega
      have hnr := newreader _ b0 l w hll hv
      go_wp2_with fail
      refine hnr.mono ?_
      rintro e w1 ⟨b, g, rfl, hr1, hb1, hg1, K1⟩
      have hbl := hr1.lt
      have hgl := hr1.gt
      clear hnr hv
      go_wp2
      (try (rename_i K hK; refine wp_label (hK _ _ ?_)))
      (try (refine wp_label ?_))
      exact hpass _ _ ⟨[], 0, b, g, w1.heap.size, .slice none 0 0, ⟨_, _, _, _, _, _, _, _, _, _, _, _, _, _, _, _, _, _, _, _, _, _, _, _, _, _, _, _, _, _, rfl⟩, hl, hr1, Nat.zero_le _, RowG.nil _ _ _ _ _, K1.size, hb1, hbl, hgl, Nat.le_refl _, K1, Nat.le_refl _, HD.out⟩
  · rintro a' w' ⟨acc, p, b, g, B, lv, ⟨u1, u2, u3, u4, u7, u8, u9, u10, u11, u12, u13, u14, u15, u16, u17, u18, u19, u20, u21, u22, u23, u24, u25, u26, u27, u28, u29, u30, u31, u32, rfl⟩, hl, hr, hp, hrow, hB, hb, hbB, hgB, hBw, hk, hal, he⟩
    obtain ⟨la, lc, rfl⟩ := hrow.shape
    have hlf := rleft' b g l p 0 w' hll hp hr
    have HE := hidden he
    clear he
    by_cases hend : l.length ≤ p
    · rw [show lf l p 0 = 0 by unfold lf; rw [if_pos rfl]; omega] at hlf
      have HF := hidden (fin_end l l.length p acc hend)
      go_wp2_with fail
      refine hlf.mono ?_
      rintro e w2 ⟨rfl, K2⟩
      have hrow2 := hrow.kept cIns_ok K2 (fun _ _ h => h)
      have hk2 := hk.trans K2 (fun _ _ h => h) (fun _ _ h => h)
      go_wp2
      simp only [Exit.jump]
      go_ret3
      rw [← HE.out, HF.out]
      exact ⟨_, B, rfl, hrow2, hB, hk2⟩
    · obtain ⟨m, hm⟩ : ∃ m, lf l p 0 = m + 1 := ⟨l.length - p - 1, by unfold lf; rw [if_pos rfl]; omega⟩
      rw [hm] at hlf
      have hst := rdI_step l p (by omega)
      have hpl := rdI_pl l p
      have hbad := fin_bad l l.length p acc hend
      have hnext := fin_next l p acc hend
      go_wp2_with fail
      refine hlf.mono ?_
      rintro e w2 ⟨rfl, K2⟩
      have hrow2 := hrow.kept cIns_ok K2 (fun _ _ h => h)
      have hk2 := hk.trans K2 (fun _ _ h => h) (fun _ _ h => h)
      have hr2 := hr.kept K2 (fun h => h) (fun h => h)
      have hz2 := K2.size
      have hown : ∀ z, (Value.slice la acc.length lc).ownBlock = some z → B ≤ z ∧ z < w2.heap.size := fun z hz => hrow2.block hz
      have HOWN := hidden hown
      clear hown
      have hin := creadInst b g l p w2 hl h256 (by omega) hr2
      generalize rdI l p = R at *
      obtain ⟨i, p3, y3⟩ := R
      simp only at hin hst hpl hbad hnext
      have HP := hidden hpl
      have HBAD := hidden hbad
      have HNX := hidden hnext
      clear hlf hrow hk hr K2 hpl hbad hnext
      go_wp2_with fail
      refine hin.mono ?_
      rintro e w3 ⟨tv, rfl, hT3, hr3, K3⟩
      have hz3 := K3.size
      have hrow3 := hrow2.kept cIns_ok K3 (fun x hx h => by omega)
      have hk3 := hk2.trans K3 (fun _ _ h => h) (fun x hx h => by omega)
      obtain ⟨hbx, K4⟩ := box_new w3 i tv
      have h1c := insC_one hT3
      have hrow4 := hrow3.kept cIns_ok K4 (fun _ _ h => h)
      have hk4 := hk3.trans K4 (fun _ _ h => h) (fun _ _ h => h)
      have hr4 := hr3.kept K4 (fun h => h) (fun h => h)
      have hT4 : IwR (fun z => w2.heap.size ≤ z ∧ z < w3.heap.size) ((w3.alloc (.cells #[.int .i64 0, .int .i64 0, .int .i64 0, .int .i64 0, .complex .f64 0 0, .string ⟨#[]⟩, .slice none 0 0] 144)).setRow w3.heap.size (insC i tv)) tv i.tos := hT3.frame fun z hz => ⟨hz, K4.block z hz.2 (fun h => h)⟩
      have hz4 := K4.size
      have hzz := zIns_heap w3
      have hrf := crefusal b g l p3 y3 _ hll hst.2.1 hr4
      clear hin hrow2 hrow3 hk2 hk3 hr2 hr3 hT3 K3
      go_wp2_with (refine wpList_store_row rfl 144 (.tmp 7) (.tmp 21) rfl w3.heap.size (insC i tv) rfl rfl 144 #[.int .i64 0, .int .i64 0, .int .i64 0, .int .i64 0, .complex .f64 0 0, .string ⟨#[]⟩, .slice none 0 0] hzz sizeIns rfl h1c ?_)
      clear hzz
      generalize (w3.alloc (.cells #[.int .i64 0, .int .i64 0, .int .i64 0, .int .i64 0, .complex .f64 0 0, .string ⟨#[]⟩, .slice none 0 0] 144)).setRow w3.heap.size (insC i tv) = W4 at *
      refine hrf.mono ?_
      rintro e w5 ⟨rfl, K5⟩
      have hbx5 := hbx.kept K5 (fun h => h)
      have hrow5 := hrow4.kept cIns_ok K5 (fun _ _ h => h)
      have hk5 := hk4.trans K5 (fun _ _ h => h) (fun _ _ h => h)
      have hr5 := hr4.kept K5 (fun h => h) (fun h => h)
      have hz5 := K5.size
      have hT5 : IwR (fun z => w2.heap.size ≤ z ∧ z < w3.heap.size) w5 tv i.tos := hT4.frame fun z hz => ⟨hz, K5.block z (by have := hz.2; omega) (fun h => h)⟩
      obtain ⟨c0, c1, c2, c3, c4, c5, c6⟩ := hbx5.cells
      have hlt5 := hbx5.lt
      clear hrf hbx hrow4 hk4 hr4 hT4 K4 K5
      by_cases hy : y3 = 0
      · subst hy
        have hs2 := hst.2.2 rfl
        have HN := hidden (HNX.out rfl)
        have hp3 := hst.1
        clear HBAD HNX hst
        rw [show cw 0 = 0 from rfl]
        have hwn : w5.heap.size ≤ (w5.alloc (.cells (insC i tv) 144)).heap.size := by simp
        have K6 : Kept (fun _ => False) w5 (w5.alloc (.cells (insC i tv) 144)) := (Kept.refl _ w5).alloc _
        have hrow6 := hrow5.kept cIns_ok K6 (fun _ _ h => h)
        have hcl : cIns (fun z => B ≤ z ∧ z < (w5.alloc (.cells (insC i tv) 144)).heap.size ∧ some z ≠ (Value.slice la acc.length lc).ownBlock) (w5.alloc (.cells (insC i tv) 144)) i (insC i tv).toList := by
          refine ⟨tv, rfl, hT5.frame fun z hz => ⟨⟨by have := hz.1; omega, by have := hz.2; omega, fun e => ?_⟩, K6.block z (by have := hz.2; omega) (fun h => h)⟩⟩
          have := HOWN.out z e.symm
          have := hz.1
          omega
        go_wp2_with (at_builtin; refine append_rowG cIns_ok rfl (.tmp 29) (.tmp 31) 85 rfl Tryz.underlying85 infoIns (by decide) _ acc rfl hrow6 i (insC i tv).toList ⟨w5.heap.size, 0, none⟩ 1 rfl ?src hcl ?len ?byt ?hB ?next)
        case src => exact cells_new w5 (insC i tv).toList 144
        case len => unfold maxLen; omega
        case byt => omega
        case hB =>
          refine Nat.le_trans ?_ hwn
          omega
        case next =>
          intro g2 cap2 w6 hrow7 hg7
          have K7 : Kept (fun z => (Value.slice la acc.length lc).ownBlock = some z) w5 w6 := (K6.mono (fun _ _ h => h.elim)).grown hg7 (fun k e _ => e)
          have hz7 := K7.size
          have hr7 := hr5.kept K7 (fun h => by have := HOWN.out b h; omega) (fun h => by have := HOWN.out g h; omega)
          have hk7 := hk5.trans K7 (fun _ _ h => h) (fun x hx h => by have := HOWN.out x h; omega)
          clear hrow6 hcl hg7 K7 K6 hrow5 hk5 hr5 hT5 c0 c1 c2 c3 c4 c5 c6 hbx5
          go_wp2
          refine wp_goto ⟨rfl, ⟨acc ++ [i], p3, b, g, B, _, ⟨_, _, _, _, _, _, _, _, _, _, _, _, _, _, _, _, _, _, _, _, _, _, _, _, _, _, _, _, _, _, rfl⟩, hl, hr7, hp3, hrow7, hB, hb, hbB, hgB, by omega, hk7, by rw [List.length_append]; show acc.length + 1 ≤ p3; omega, by rw [← HN.out]; exact HE.out⟩, ?_⟩
          show l.length - (acc.length + 1) < l.length - acc.length
          omega
      · have HB := hidden (HBAD.out hy)
        have hyc : ((cw y3 : Nat) : Int) ≠ 0 := by
          intro e
          exact hy (cw_zero.1 (by omega))
        generalize cw y3 = yc at *
        go_wp2
        go_quiet (fail)
        go_wp2
        simp only [Exit.jump]
        go_ret3
        rw [← HE.out, HB.out, HP.out]
        exact ⟨_, w.heap.size, rfl, RowG.nil _ _ _ _ _, Nat.le_refl _, hk5.trans (kept_drewN w5 _) (fun _ _ h => h) (fun _ _ h => h)⟩
end Go.Proofs.YtdeckknfolaaeaaGreatDoor.Wire

namespace Go.Proofs.YtdeckknfolaaeaaGreatDoor.Wire
open Go.RowKit

def asksA (op : Int) : Bool := decide (op = 3 ∨ op = 4 ∨ op = 7 ∨ op = 8 ∨ op = 9 ∨ op = 10 ∨ op = 13 ∨ op = 14)
/-- Is it one that can be written? -/
def formR (i : Ins) : Bool :=
  isOp i.op && ((decide (i.x = 0) && decide (i.y = 0)) || (decide (i.op = 1) && rgtI i.x i.y)) && (i.tx.isEmpty || (decide (i.op = 2) && decide (i.tx.length ≤ 200)))
  && (decide (i.a = 0) || (asksA i.op && decide (0 ≤ i.a ∧ i.a ≤ 255))) && (decide (i.b = 0) || (decide (i.op = 8) && decide (0 ≤ i.b ∧ i.b ≤ 255))) && rcR i.op i.a && decide ((i.tos.length : Int) = waysR i.op i.a)
def fldB (i : Ins) (c : Nat) : List Nat :=
  if c = 110 then enc (zig i.x) ++ enc (zig i.y) else if c = 116 then enc i.tx.length ++ i.tx else if c = 97 then [i.a.toNat] else if c = 98 then [i.b.toNat] else if c = 114 then [0, 0] else []
def headR (i : Ins) : List Nat := i.op.toNat :: (layS i.op).flatMap (fldB i)
def wayB (bh p : Int) : List Nat := [((p - bh) / 256).toNat, ((p - bh) % 256).toNat]
def reachR (bh : Int) (tq : List Int) : Bool := tq.all fun p => decide (bh ≤ p ∧ p ≤ bh + 65535)
/-- Why it is refused; where it ends; the bytes. -/
def encR : List Ins → Nat → Nat × Nat × List Nat
  | [], e => (0, e, [])
  | i :: r, e => if formR i = false then (12, 0, []) else if i.pl ≠ (e : Int) ∨ reachR ((e + (headR i).length + 2 * i.tos.length : Nat) : Int) i.tos = false then (22, 0, []) else
      if (encR r (e + (headR i).length + 2 * i.tos.length)).1 ≠ 0 then ((encR r (e + (headR i).length + 2 * i.tos.length)).1, 0, []) else
      (0, (encR r (e + (headR i).length + 2 * i.tos.length)).2.1, headR i ++ i.tos.flatMap (wayB ((e + (headR i).length + 2 * i.tos.length : Nat) : Int)) ++ (encR r (e + (headR i).length + 2 * i.tos.length)).2.2)
def encodeR (l : List Ins) : Nat × List Nat := if (encR l 0).1 ≠ 0 then ((encR l 0).1, []) else if 2048 < (encR l 0).2.1 then (3, []) else (0, (encR l 0).2.2)
def refsR (l : List Ins) : List Int := l.filterMap fun i => (takesR i.op).map fun n => i.pl + (n : Int)

/-- What is answered, of what stands ahead yet. -/
def finE (out : List Nat) (R : Nat × Nat × List Nat) : Nat × List Nat := if R.1 ≠ 0 then (R.1, []) else if 2048 < R.2.1 then (3, []) else (0, out ++ R.2.2)
theorem finE_start (l : List Ins) : finE [] (encR l 0) = encodeR l := rfl
theorem finE_end (out : List Nat) (e : Nat) : finE out (encR [] e) = if 2048 < e then (3, []) else (0, out) := by
  unfold finE encR
  simp
theorem encR_end : ∀ (l : List Ins) (e : Nat), (encR l e).1 = 0 → e ≤ (encR l e).2.1
  | [], e, _ => Nat.le_refl _
  | i :: r, e, h => by
    rw [encR] at h ⊢
    split at h
    · cases h
    · rename_i h1
      rw [if_neg h1]
      split at h
      · cases h
      · rename_i h2
        rw [if_neg h2]
        split at h
        · rename_i h3; exact absurd h h3
        · rename_i h3
          rw [if_neg h3]
          have := encR_end r _ (by simpa using h3)
          show e ≤ (encR r (e + (headR i).length + 2 * i.tos.length)).2.1
          omega
theorem finE_form (i : Ins) (r : List Ins) (out : List Nat) (e : Nat) (h : formR i = false) : finE out (encR (i :: r) e) = (12, []) := by
  rw [encR, if_pos h]
  rfl
theorem finE_jump (i : Ins) (r : List Ins) (out : List Nat) (e : Nat) (h : formR i = true) (h2 : i.pl ≠ (e : Int) ∨ reachR ((e + (headR i).length + 2 * i.tos.length : Nat) : Int) i.tos = false) : finE out (encR (i :: r) e) = (22, []) := by
  rw [encR, if_neg (by rw [h]; decide), if_pos h2]
  rfl
theorem finE_next (i : Ins) (r : List Ins) (out : List Nat) (e : Nat) (h : formR i = true) (h2 : i.pl = (e : Int)) (h3 : reachR ((e + (headR i).length + 2 * i.tos.length : Nat) : Int) i.tos = true) :
    finE out (encR (i :: r) e) = finE (out ++ headR i ++ i.tos.flatMap (wayB ((e + (headR i).length + 2 * i.tos.length : Nat) : Int))) (encR r (e + (headR i).length + 2 * i.tos.length)) := by
  rw [encR, if_neg (by rw [h]; decide), if_neg (by rw [h3]; simp [h2])]
  generalize (encR r (e + (headR i).length + 2 * i.tos.length)) = R
  unfold finE
  by_cases h5 : R.1 = 0
  · simp [h5]
  · simp [h5]
theorem finE_long (i : Ins) (r : List Ins) (out out' : List Nat) (e : Nat) (h : formR i = true) (h2 : i.pl = (e : Int)) (h3 : reachR ((e + (headR i).length + 2 * i.tos.length : Nat) : Int) i.tos = true) (h4 : 2048 < e + (headR i).length + 2 * i.tos.length) :
    finE out (encR (i :: r) e) = finE out' (encR r (e + (headR i).length + 2 * i.tos.length)) := by
  have hm := encR_end r (e + (headR i).length + 2 * i.tos.length)
  rw [encR, if_neg (by rw [h]; decide), if_neg (by rw [h3]; simp [h2])]
  generalize (encR r (e + (headR i).length + 2 * i.tos.length)) = R at *
  unfold finE
  by_cases h5 : R.1 = 0
  · have := hm h5
    simp only [h5, ne_eq, not_true_eq_false, if_false]
    rw [if_pos (by omega), if_pos (by omega)]
  · simp [h5]
end Go.Proofs.YtdeckknfolaaeaaGreatDoor.Wire

namespace Go.Proofs.YtdeckknfolaaeaaGreatDoor.Wire
open Go.RowKit

/-- Instructions in a row, in blocks of F. -/
def InsR (F : Nat → Prop) (w : World) (v : Value) (l : List Ins) : Prop :=
  (∃ a c, v = .slice a 0 c ∧ l = []) ∨ ∃ g o cap, v = .slice (some ⟨g, o, none⟩) l.length cap ∧ l.length ≤ cap ∧ F g ∧ ∀ (j : Nat) x, l[j]? = some x → ∃ tv, IwR F w tv x.tos ∧ ∀ k u, (insC x tv)[k]? = some u → w.cell? ⟨g, o + j * 7 + k, none⟩ = some u
theorem InsR.frame {F G : Nat → Prop} {w w' : World} (hF : ∀ g, F g → G g ∧ w'.heap[g]? = w.heap[g]?) {v : Value} {l : List Ins} (h : InsR F w v l) : InsR G w' v l := by
  rcases h with h | ⟨g, o, cap, h1, h1', h2, h3⟩
  · exact .inl h
  · refine .inr ⟨g, o, cap, h1, h1', (hF g h2).1, fun j x hj => ?_⟩
    obtain ⟨tv, h4, h5⟩ := h3 j x hj
    exact ⟨tv, h4.frame hF, fun k u hu => by rw [World.cell?_of_block (w := w) (hF g h2).2]; exact h5 k u hu⟩
theorem InsR.shape {F : Nat → Prop} {w : World} {v : Value} {l : List Ins} (h : InsR F w v l) : ∃ a c, v = .slice a l.length c := by
  rcases h with ⟨a, c, rfl, rfl⟩ | ⟨g, o, cap, rfl, _⟩
  · exact ⟨a, c, rfl⟩
  · exact ⟨_, _, rfl⟩
theorem InsR.kept {S : Nat → Prop} {F : Nat → Prop} {w w' : World} {v : Value} {l : List Ins} (h : InsR F w v l) (k : Kept S w w') (hF : ∀ g, F g → g < w.heap.size ∧ ¬ S g) : InsR F w' v l := h.frame fun g hg => ⟨hg, k.block g (hF g hg).1 (hF g hg).2⟩
theorem InsR.at {F : Nat → Prop} {w : World} {v : Value} {l : List Ins} (h : InsR F w v l) (k : Nat) (hk : k < l.length) : ∃ g o cap tv, v = .slice (some ⟨g, o, none⟩) l.length cap ∧ l.length ≤ cap ∧ IwR F w tv l[k].tos ∧
    w.cell? ⟨g, o + k * 7, none⟩ = some (.int .i64 l[k].pl) ∧ w.cell? ⟨g, o + k * 7 + 1, none⟩ = some (.int .i64 l[k].op) ∧ w.cell? ⟨g, o + k * 7 + 2, none⟩ = some (.int .i64 l[k].a) ∧ w.cell? ⟨g, o + k * 7 + 3, none⟩ = some (.int .i64 l[k].b) ∧ w.cell? ⟨g, o + k * 7 + 4, none⟩ = some (.complex .f64 (floatOfInt .f64 l[k].x) (floatOfInt .f64 l[k].y)) ∧ w.cell? ⟨g, o + k * 7 + 5, none⟩ = some (.string (toStr l[k].tx)) ∧ w.cell? ⟨g, o + k * 7 + 6, none⟩ = some tv := by
  rcases h with ⟨a, c, _, rfl⟩ | ⟨g, o, cap, rfl, hc, hg, h⟩
  · simp at hk
  · obtain ⟨tv, h1, h2⟩ := h k _ (List.getElem?_eq_getElem hk)
    exact ⟨g, o, cap, tv, rfl, hc, h1, h2 0 _ rfl, h2 1 _ rfl, h2 2 _ rfl, h2 3 _ rfl, h2 4 _ rfl, h2 5 _ rfl, h2 6 _ rfl⟩
theorem IwR.at {F : Nat → Prop} {w : World} {v : Value} {xs : List Int} (h : IwR F w v xs) (k : Nat) (hk : k < xs.length) : ∃ g o cap, v = .slice (some ⟨g, o, none⟩) xs.length cap ∧ xs.length ≤ cap ∧ F g ∧ w.cell? ⟨g, o + k, none⟩ = some (.int .i64 xs[k]) := by
  rcases h with ⟨a, c, _, rfl⟩ | ⟨g, o, cap, rfl, hc, hg, h⟩
  · simp at hk
  · exact ⟨g, o, cap, rfl, hc, hg, h k _ (List.getElem?_eq_getElem hk)⟩
/-- A row of instructions of the call's own, as it is read. -/
theorem RowG.insR {B : Nat} {w : World} {v : Value} {l : List Ins} (h : RowG cIns 144 7 B w v l) : InsR (fun g => B ≤ g ∧ g < w.heap.size) w v l := by
  by_cases h0 : l.length = 0
  · obtain ⟨a, c, rfl⟩ := h.shape
    refine .inl ⟨a, c, by rw [h0], List.eq_nil_of_length_eq_zero h0⟩
  · obtain ⟨g, cap, _, hv, hc, hg, _⟩ := h.at cIns_ok 0 (by omega)
    refine .inr ⟨g, 0, cap, hv, hc, hg, fun j x hj => ?_⟩
    obtain ⟨hjl, rfl⟩ := List.getElem?_eq_some_iff.1 hj
    obtain ⟨g2, cap2, c, hv2, _, _, ⟨tv, hc1, hc2⟩, hcell⟩ := h.at cIns_ok j hjl
    rw [hv] at hv2
    simp only [Value.slice.injEq, Option.some.injEq, Addr.mk.injEq, and_true, true_and] at hv2
    obtain ⟨rfl, rfl⟩ := hv2
    refine ⟨tv, hc2, fun k u hu => ?_⟩
    rw [Nat.zero_add]
    refine hcell k u ?_
    rw [hc1]
    simpa using hu

theorem reach_drop (bh : Int) (tq : List Int) (k : Nat) (hk : k < tq.length) : reachR bh (tq.drop k) = (decide (bh ≤ tq[k] ∧ tq[k] ≤ bh + 65535) && reachR bh (tq.drop (k + 1))) := by
  rw [List.drop_eq_getElem_cons hk]
  rfl
end Go.Proofs.YtdeckknfolaaeaaGreatDoor.Wire

namespace Go.Proofs.YtdeckknfolaaeaaGreatDoor
open Go.RowKit Go.Maps

theorem below_kept {w w' : World} (h : Wire.Kept (fun _ => False) w w') : Below w.heap.size w w' := ⟨h.os, h.tape, h.output, h.size, fun b hb => h.block b hb (fun h => h)⟩
theorem thru_bad {res : List UInt8} {oth : Wire.Ins → Wk → Nat × Wk} {ps : List Int} {i : Wire.Ins} {r : List Wire.Ins} {wt : List (Int × St)} (h : (stepV res oth ps i wt).1 ≠ 0) : thruV res oth ps (i :: r) wt = ((stepV res oth ps i wt).1, i.pl) := by
  cases r <;> rw [thruV, if_pos h]
theorem thru_end {res : List UInt8} {oth : Wire.Ins → Wk → Nat × Wk} {ps : List Int} {i : Wire.Ins} {wt : List (Int × St)} (h : (stepV res oth ps i wt).1 = 0) (ho : onV i.op = true) : thruV res oth ps [i] wt = (10, i.pl) := by
  rw [thruV, if_neg (fun e => e h), if_pos ho]
theorem thru_on {res : List UInt8} {oth : Wire.Ins → Wk → Nat × Wk} {ps : List Int} {i j : Wire.Ins} {r : List Wire.Ins} {wt : List (Int × St)} (h : (stepV res oth ps i wt).1 = 0) (ho : onV i.op = true) : thruV res oth ps (i :: j :: r) wt = thruV res oth ps (j :: r) (goV (stepV res oth ps i wt).2 j.pl []).wt := by
  rw [thruV, if_neg (fun e => e h), if_pos ho]
theorem thru_off {res : List UInt8} {oth : Wire.Ins → Wk → Nat × Wk} {ps : List Int} {i : Wire.Ins} {r : List Wire.Ins} {wt : List (Int × St)} (h : (stepV res oth ps i wt).1 = 0) (ho : onV i.op = false) : thruV res oth ps (i :: r) wt = thruV res oth ps r (stepV res oth ps i wt).2.wt := by
  cases r
  · conv => lhs; rw [thruV, if_neg (fun e => e h), if_neg (by rw [ho]; simp)]
  · rw [thruV, if_neg (fun e => e h), if_neg (by rw [ho]; simp)]
/-- All instructions of a function, from its first state on. -/
def thruE (res : List UInt8) (oth : Wire.Ins → Wk → Nat × Wk) (is : List Wire.Ins) (fl : List (List UInt8)) : Nat × Int :=
  match is with
  | [] => (10, 0)
  | i :: r => thruV res oth ((i :: r).map (·.pl)) (i :: r) [(0, ⟨[], fl⟩)]
/-- Instructions that may be walked here. -/
structure FitI (is : List Wire.Ins) : Prop where
  first : ∀ (h : 0 < is.length), is[0].pl = 0
  asc : ∀ (j k : Nat) (hk : k < is.length) (hjk : j < k), (is[j]'(by omega)).pl < is[k].pl
  pl : ∀ i ∈ is, 0 ≤ i.pl ∧ i.pl ≤ 1000000
  tos : ∀ i ∈ is, ∀ p ∈ i.tos, i.pl < p ∧ p ≤ 1000000
  tl : ∀ i ∈ is, i.tos.length ≤ 1000
  a : ∀ i ∈ is, 0 ≤ i.a ∧ i.a ≤ 255
  op : ∀ i ∈ is, easyOp i.op i.a
  h56 : ∀ i ∈ is, i.op = 5 ∨ i.op = 6 → i.tos ≠ []
  len : is.length ≤ 2048
/-- While the places are laid: the walk's box, the map. -/
structure LayR (w : World) (wb : Nat) (u : ObV) (m res : List UInt8) (sy : Value) (mb : Nat) (sv0 lv0 : Value) (is : List Wire.Ins) (j : Nat) : Prop where
  box : w.heap[wb]? = some (.cells (wkC u m res sy (.map (some mb)) sv0 lv0) 97 (0, 0))
  map : MapI w mb j (fun q => if q ∈ (is.take j).map (·.pl) then some (.slice none 0 0) else none)
theorem LayR.frame {w w' : World} {wb : Nat} {u : ObV} {m res : List UInt8} {sy : Value} {mb : Nat} {sv0 lv0 : Value} {is : List Wire.Ins} {j : Nat} (h : LayR w wb u m res sy mb sv0 lv0 is j) (hb : Below w.heap.size w w') : LayR w' wb u m res sy mb sv0 lv0 is j :=
  ⟨(hb.block wb (Array.getElem?_eq_some_iff.1 h.box).1).trans h.box, h.map.frame (hb.block mb h.map.lt)⟩
theorem LayR.cell {w : World} {wb : Nat} {u : ObV} {m res : List UInt8} {sy : Value} {mb : Nat} {sv0 lv0 : Value} {is : List Wire.Ins} {j : Nat} (h : LayR w wb u m res sy mb sv0 lv0 is j) : w.cell? ⟨wb, 10, none⟩ = some (.map (some mb)) := by
  rw [cell_of_row _ _ 10 _ _ _ h.box]
  rfl
/-- One place more. -/
theorem LayR.put {w : World} {wb : Nat} {u : ObV} {m res : List UInt8} {sy : Value} {mb : Nat} {sv0 lv0 : Value} {is : List Wire.Ins} {j : Nat} (h : LayR w wb u m res sy mb sv0 lv0 is j) (hj : j < is.length) (hne : mb ≠ wb) (hl : is.length ≤ 2048) (hp : 0 ≤ is[j].pl ∧ is[j].pl ≤ 1000000) :
    ∃ w', (Instr.mapUpdate 93 (.map (some mb)) (.int .i64 is[j].pl) (.slice none 0 0)).run Tryz.prog w = .ok () w' ∧ LayR w' wb u m res sy mb sv0 lv0 is (j + 1) ∧ w.grownBy w' (some mb) ∧ w'.heap.size = w.heap.size := by
  obtain ⟨w', h1, h2, h3, h4⟩ := h.map.put (by omega) is[j].pl (by omega) (.slice none 0 0) Tryz.underlying93
  refine ⟨w', h1, ⟨(h3.block wb (Array.getElem?_eq_some_iff.1 h.box).1 (by simpa using hne.symm)).trans h.box, ?_⟩, h3, h4⟩
  have e : (fun x => if x = is[j].pl then some (Value.slice none 0 0) else if x ∈ (is.take j).map (·.pl) then some (Value.slice none 0 0) else none) = fun x => if x ∈ (is.take (j + 1)).map (·.pl) then some (Value.slice none 0 0) else none := by
    funext x
    have hm : x ∈ (is.take (j + 1)).map (·.pl) ↔ x ∈ (is.take j).map (·.pl) ∨ x = is[j].pl := by
      rw [List.take_succ_eq_append_getElem hj, List.map_append, List.mem_append]
      simp
    by_cases h1 : x = is[j].pl
    · rw [if_pos h1, if_pos (hm.2 (.inr h1))]
    · by_cases h2 : x ∈ (is.take j).map (·.pl)
      · rw [if_neg h1, if_pos h2, if_pos (hm.2 (.inl h2))]
      · rw [if_neg h1, if_neg h2, if_neg (fun h => (hm.1 h).elim h2 h1)]
  rw [← e]
  exact h2
/-- Whose the blocks are while through goes: old ones as they were, the map, all else nobody's. -/
def colM (col : Nat → Tag) (n mb : Nat) : Nat → Tag := fun g => if g < n then col g else if g = mb then (6, 0, 0) else (0, 0, 0)
theorem colM_agr (col : Nat → Tag) (n mb : Nat) : Agr n col (colM col n mb) := fun g hg => by simp [colM, hg]
/-- The first state waits at 0: the walk stands ahead of its first instruction. -/
theorem thr_start {col : Nat → Tag} {w wx Y w6 : World} {wb : Nat} {u : ObV} {m res : List UInt8} {sy : Value} {mb : Nat} {sv0 lv0 : Value} {is : List Wire.Ins} (hf : FitI is) (h0 : 0 < is.length) (hL : LayR wx wb u m res sy mb sv0 lv0 is is.length) (hwb : wb < w.heap.size) (hmb : w.heap.size ≤ mb) (htag : col wb = (7, 0, 0)) {fl : List (List UInt8)} {lv : Value}
    (hlv : LcR col (3, 0, 0) w lv fl) (hK : Kc col (fun t => t = (7, 0, 0)) w wx) (hY : Below wx.heap.size wx Y) {rb : Nat} (hrb : wx.heap.size ≤ rb) (hrl : rb < Y.heap.size) (hrow : Y.heap[rb]? = some (.cells #[.slice none 0 0, lv] 95 (0, 0)))
    (h6 : MapI w6 mb (is.length + 1) (fun x => if x = 0 then some (.slice (some ⟨rb, 0, none⟩) 1 1) else if x ∈ (is.take is.length).map (·.pl) then some (.slice none 0 0) else none)) (h6g : Y.grownBy w6 (some mb)) :
    ∃ col', Agr w.heap.size col col' ∧ VbR col' w6 wb u m res sy mb (is.length + 1) (is.map (·.pl)) (-1) [(0, ⟨[], fl⟩)] sv0 lv0 := by
  have hz := hY.size
  have hml := hL.map.lt
  have hwl : wb < wx.heap.size := (Array.getElem?_eq_some_iff.1 hL.box).1
  have hwz := hK.size
  have h0m : (0 : Int) ∈ is.map (·.pl) := List.mem_map.2 ⟨is[0], List.getElem_mem h0, hf.first h0⟩
  have hb6 : ∀ g, g < Y.heap.size → g ≠ mb → w6.heap[g]? = Y.heap[g]? := fun g hg hn => h6g.block g hg (by simpa using hn)
  refine ⟨fun g => if g = rb then (1, 0, 0) else colM col w.heap.size mb g, fun g hg => ?_, ⟨(hb6 wb (by omega) (by omega)).trans ((hY.block wb hwl).trans hL.box), ?_, _, h6, ?_, fun p => ?_, fun p hp hc => ?_⟩⟩
  · have e : g ≠ rb := by omega
    simp only [if_neg e]
    exact colM_agr _ _ _ g hg
  · have e : wb ≠ rb := by omega
    simp only [if_neg e]
    rw [colM_agr _ _ _ wb hwb, htag]
  · have e : mb ≠ rb := by omega
    have e2 : ¬ mb < w.heap.size := by omega
    simp only [if_neg e, colM, if_neg e2, if_true]
  · rw [List.take_of_length_le (Nat.le_refl _)]
    by_cases e : p = 0
    · subst e
      simp [h0m]
    · simp only [if_neg e]
      by_cases e2 : p ∈ is.map (·.pl)
      · simp [e2]
      · simp [e2]
  · by_cases e : p = 0
    · subst e
      refine ⟨_, if_pos rfl, ?_⟩
      have hw : waitS [((0 : Int), (⟨[], fl⟩ : St))] 0 = [⟨[], fl⟩] := by simp [waitS]
      rw [hw]
      refine ⟨[(⟨[], fl⟩, .slice none 0 0, lv)], rfl, ⟨by simp, .inr ⟨rb, 1, #[.slice none 0 0, lv], rfl, Nat.zero_le _, ?_, Nat.le_refl _, by unfold maxLen; omega, by simp, by simp⟩⟩, fun g hg => ?_, fun i q hq => ?_⟩
      · rw [hb6 rb hrl (by omega)]
        exact hrow
      · simp only [Value.ownBlock, Option.some.injEq] at hg
        subst hg
        simp
      · match i, hq with
        | 0, hq =>
          simp only [List.getElem?_cons_zero, Option.some.injEq] at hq
          subst hq
          refine ⟨⟨World.ownsRow_nil _ _ _ _, fun g hg => by cases hg⟩, ?_⟩
          rcases hlv with h | h
          · exact .inl h
          · have hlt : ∀ g, lv.ownBlock = some g → g < w.heap.size := fun g hg => h.lt hg
            refine .inr ⟨owns_same h.1 fun g hg => ?_, fun g hg => ?_⟩
            · have := hlt g hg
              rw [hb6 g (by omega) (by omega), hY.block g (by omega)]
              exact hK.block g this (by show ¬ col g = _; rw [h.2 g hg]; decide)
            · have h1 := hlt g hg
              have h2 : g ≠ rb := by omega
              simp only [if_neg h2]
              rw [colM_agr _ _ _ g h1]
              exact h.2 g hg
        | i + 1, hq => simp at hq
    · have e2 : p ∈ (is.take is.length).map (·.pl) := by rw [List.take_of_length_le (Nat.le_refl _)]; exact hp
      refine ⟨.slice none 0 0, by simp only [if_neg e, if_pos e2], ?_⟩
      have hw : waitS [((0 : Int), (⟨[], fl⟩ : St))] p = [] := by
        have h' : ¬ (0 : Int) = p := fun h => e h.symm
        simp [waitS, h']
      rw [hw]
      exact RowV.nil _ _ _
end Go.Proofs.YtdeckknfolaaeaaGreatDoor
