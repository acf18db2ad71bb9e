/-
  A walk's jump, zero and leave.
  And: A walk's zero and leave. A walk's areInstructions: whether all of some places are instructions'. A walk's arrive, where no state or just one waits for the place. verify's small functions: goesOn, isIndex, takes, elemOf. verify's resultOf, for the operations that take numbers alone.
-/
import Derived.Test.YtdeckknfolaaeaaGreatDoorG23
import Derived.Test.YtdeckknfolaaeaaGreatDoorG26
import Derived.Test.YtdeckknfolaaeaaGreatDoorG14
import Derived.Test.YtdeckknfolaaeaaGreatDoorG09
import Derived.Test.YtdeckknfolaaeaaGreatDoorG20
namespace Go.Proofs.YtdeckknfolaaeaaGreatDoor
open Go.RowKit Go.Maps

/-- What a call leaves of a walk that was laid into a later world. -/
theorem VwQ.back {col col' : Nat → Tag} {w w1 : World} {wb : Nat} {u : ObV} {m res : List UInt8} {sy : Value} {mb n : Nat} {ps : List Int} {cur : Int} {k : Wk} {w' : World} (h : VwQ col' w1 wb u m res sy mb n ps cur k w') (hA : Agr w.heap.size col col') (hz : w.heap.size ≤ w1.heap.size) : VwQ col w wb u m res sy mb n ps cur k w' := by
  obtain ⟨c, a, b, h1, h2⟩ := h
  exact ⟨c, a, b, hA.trans h1 hz, h2⟩
set_option maxRecDepth 1000000 in
set_option maxHeartbeats 2000000 in
theorem vjump {col : Nat → Tag} {w : World} {wb : Nat} {u : ObV} {m res : List UInt8} {sy : Value} {mb n : Nat} {ps : List Int} {cur : Int} {k : Wk} {sv lv : Value} (h : VwR col w wb u m res sy mb n ps cur k sv lv) (F : Nat → Prop) (i : Wire.Ins) (tv : Value) (hI : Wire.IwR F w tv i.tos) (hF : ∀ g, F g → g < w.heap.size) (p : Int) (r : List Int) (hto : i.tos = p :: r)
    (hp : p ∈ ps) (hcp : cur < p) (hpb : -9223372036854775808 ≤ p ∧ p ≤ 9223372036854775807) (hl : k.st.stack.length ≤ 48) (hlo : k.st.locals.length ≤ 256) (hn : n ≤ 1000000) (hwt : (waitS k.wt p).length ≤ 1000000) :
    Calls Tryz.prog 140 #[.pointer (some ⟨wb, 0, none⟩), .agg (Wire.insC i tv)] w fun e w' => e = .returned (.int .i64 0) ∧ Kc col ownT w w' ∧ VwQ col w wb u m res sy mb (n + 1) ps cur (goV k p []) w' := by
  rcases hI with ⟨a, c, _, e⟩ | ⟨g, o, cap, rfl, _, hg, hc⟩
  · rw [hto] at e
    cases e
  · have hcell := hc 0 p (by rw [hto]; rfl)
    rw [Nat.add_zero] at hcell
    have hlen : i.tos.length = r.length + 1 := by rw [hto]; rfl
    have hpos : (0 : Int) < ((i.tos.length : Nat) : Int) := by omega
    clear hc hto hlen
    have hgl := hF g hg
    have hb : Below w.heap.size w (w.alloc (.cells (Wire.insC i (.slice (some ⟨g, o, none⟩) i.tos.length cap)) 144)) := (Below.refl _ w).alloc (Nat.le_refl _) _
    have hV := h.fresh.kept (S := fun _ => False) (Kc.below hb) (Agr.refl _ _) (fun _ h => h.elim)
    have hgo := vgo hV p hp hcp hpb (.slice none 0 0) [] (.inl ⟨rfl, none, 0, rfl⟩) hl (by simp) hlo hn hwt
    have hA := colF_agr col w.heap.size
    have kb : Kc col ownT w (w.alloc (.cells (Wire.insC i (.slice (some ⟨g, o, none⟩) i.tos.length cap)) 144)) := Kc.below hb
    have hz := hb.size
    have c1 : (w.alloc (.cells (Wire.insC i (.slice (some ⟨g, o, none⟩) i.tos.length cap)) 144)).cell? ⟨w.heap.size, 6, none⟩ = some (.slice (some ⟨g, o, none⟩) i.tos.length cap) := new_cell w _ _ 6 _ rfl
    have c2 : (w.alloc (.cells (Wire.insC i (.slice (some ⟨g, o, none⟩) i.tos.length cap)) 144)).cell? ⟨g, o, none⟩ = some (.int .i64 p) := cell_more hcell _
    generalize hW : w.alloc (.cells (Wire.insC i (.slice (some ⟨g, o, none⟩) i.tos.length cap)) 144) = W at *
    generalize hIC : Wire.insC i (.slice (some ⟨g, o, none⟩) i.tos.length cap) = ic at *
    clear hcell hb hV h
    go_enter Tryz.func140, Tryz.ntmps140
    go_wp2_with fail
    refine hgo.mono ?_
    rintro e w' ⟨rfl, k1, v1⟩
    go_wp2
    go_ret
    exact ⟨rfl, kb.trans hA k1, v1.back hA hz⟩
end Go.Proofs.YtdeckknfolaaeaaGreatDoor

namespace Go.Proofs.YtdeckknfolaaeaaGreatDoor
open Go.RowKit Go.Maps

theorem pop_len : ∀ (ts s : List (List UInt8)), (popR s ts).2.length ≤ s.length
  | [], s => Nat.le_refl _
  | t :: r, s => by
    rw [popR]
    split
    · exact Nat.le_refl _
    · split
      · exact Nat.le_refl _
      · refine Nat.le_trans (pop_len r _) ?_
        rw [List.length_take]
        omega
/-- Whatever is new lies beside the walk. -/
def colZ (col : Nat → Tag) (n : Nat) : Nat → Tag := fun g => if g < n then col g else (0, 0, 0)
theorem colZ_agr (col : Nat → Tag) (n : Nat) : Agr n col (colZ col n) := fun g hg => by simp [colZ, hg]
theorem colZ_new (col : Nat → Tag) {n g : Nat} (h : n ≤ g) : ¬ ownT (colZ col n g) := by simp [colZ, Nat.not_lt.2 h, ownT]
theorem VwR.beside {col : Nat → Tag} {w w' : World} {wb : Nat} {u : ObV} {m res : List UInt8} {sy : Value} {mb n : Nat} {ps : List Int} {cur : Int} {k : Wk} {sv lv : Value} (h : VwR col w wb u m res sy mb n ps cur k sv lv) (hb : Below w.heap.size w w') : VwR (colZ col w.heap.size) w' wb u m res sy mb n ps cur k sv lv := h.kept (S := fun _ => False) (Kc.below hb) (colZ_agr _ _) (fun _ h => h.elim)
theorem kc_z {col : Nat → Tag} {w w1 w2 : World} (hb : Below w.heap.size w w1) (k : Kc (colZ col w.heap.size) ownT w1 w2) : Kc col ownT w w2 := (Kc.below hb).trans (colZ_agr _ _) k
set_option maxRecDepth 1000000 in
set_option maxHeartbeats 2000000 in
theorem vleave {col : Nat → Tag} {w : World} {wb : Nat} {u : ObV} {m res : List UInt8} {sy : Value} {mb n : Nat} {ps : List Int} {cur : Int} {k : Wk} {sv lv : Value} (h : VwR col w wb u m res sy mb n ps cur k sv lv) (hl : k.st.stack.length ≤ 48) :
    Calls Tryz.prog 150 #[.pointer (some ⟨wb, 0, none⟩)] w fun e w' => e = .returned (.int .i64 ((leaveR res k.st).1 : Int)) ∧ Kc col ownT w w' ∧ ((leaveR res k.st).1 = 0 → VwQ col w wb u m res sy mb n ps cur ⟨(leaveR res k.st).2, k.wt⟩ w') := by
  have c8 : w.cell? ⟨wb, 8, none⟩ = some (.string (str res)) := by rw [cell_of_row _ _ 8 _ _ _ h.base.box]; rfl
  have hb : Below w.heap.size w (w.alloc (.cells #[.string (str res)] 9)) := (Below.refl _ w).alloc (Nat.le_refl _) _
  have hV := h.beside hb
  have hpop := vpop hV (.slice (some ⟨w.heap.size, 0, none⟩) 1 1) [res] (.inr ⟨w.heap.size, 0, 1, rfl, by simp, by simp, fun j x hj => by
    match j, hj with
    | 0, hj =>
      simp only [List.getElem?_cons_zero, Option.some.injEq] at hj
      subst hj
      exact new_cell w _ _ 0 _ rfl
    | j + 1, hj => simp at hj, colZ_new _ (Nat.le_refl _)⟩) hl (by simp)
  simp only [List.reverse_cons, List.reverse_nil, List.nil_append] at hpop
  have HL : Hid (leaveR res k.st = if (popR k.st.stack [res]).1 ≠ 0 then ((popR k.st.stack [res]).1, k.st) else if 0 < (popR k.st.stack [res]).2.length then (20, k.st) else (0, ⟨(popR k.st.stack [res]).2, k.st.locals⟩)) := rfl
  have hpl : (popR k.st.stack [res]).2.length ≤ 48 := Nat.le_trans (pop_len _ _) hl
  generalize leaveR res k.st = lr at *
  generalize popR k.st.stack [res] = pr at *
  have HB := hidden hb
  clear hV h
  go_enter Tryz.func150, Tryz.ntmps150
  go_wp2_with fail
  refine hpop.mono ?_
  rintro e w1 ⟨rfl, k1, q1⟩
  by_cases h0 : pr.1 = 0
  · obtain ⟨c, a, b, hA, hW⟩ := q1 h0
    have h0i : ((pr.1 : Nat) : Int) = 0 := by omega
    obtain ⟨⟨d9, d10, d11, d12⟩, g11, g12⟩ := hW.base.cells
    obtain ⟨sa, scp, rfl⟩ := hW.stack.row.shape
    simp only at d11
    have HW := hidden hW
    have HK := hidden (kc_z HB.out k1)
    have HA := hidden hA
    rw [h0i]
    clear hW k1 q1 hpop hA hb c8
    by_cases h1 : 0 < pr.2.length
    · have h1i : ((pr.2.length : Nat) : Int) > 0 := by omega
      have HP : Hid (lr.1 = 20) := by rw [hid_iff, HL.out, if_neg (fun h => h h0), if_pos h1]
      go_wp2
      go_ret
      exact ⟨by rw [HP.out]; rfl, HK.out, fun e => by rw [HP.out] at e; cases e⟩
    · have h1i : ¬ ((pr.2.length : Nat) : Int) > 0 := by omega
      have HP : Hid (lr = (0, ⟨pr.2, k.st.locals⟩)) := by rw [hid_iff, HL.out, if_neg (fun h => h h0), if_neg h1]
      clear h1
      go_wp2
      go_ret
      exact ⟨by rw [HP.out]; rfl, HK.out, fun _ => by rw [HP.out]; exact VwQ.back ⟨_, _, _, HA.out, HW.out⟩ (colZ_agr _ _) HB.out.size⟩
  · have h0i : ((pr.1 : Nat) : Int) ≠ 0 := by omega
    have HP : Hid (lr.1 = pr.1) := by rw [hid_iff, HL.out, if_pos h0]
    have HK := hidden (kc_z HB.out k1)
    clear k1 q1 hpop hb c8
    go_wp2
    go_ret
    exact ⟨by rw [HP.out]; rfl, HK.out, fun e => by rw [HP.out] at e; exact absurd e h0⟩
set_option maxRecDepth 1000000 in
set_option maxHeartbeats 2000000 in
theorem vzero {col : Nat → Tag} {w : World} {wb : Nat} {u : ObV} {m res : List UInt8} {sy : Value} {mb n : Nat} {ps : List Int} {cur : Int} {k : Wk} {sv lv : Value} (h : VwR col w wb u m res sy mb n ps cur k sv lv) (F : Nat → Prop) (i : Wire.Ins) (tv : Value) (hI : Wire.IwR F w tv i.tos) (hF : ∀ g, F g → g < w.heap.size ∧ ¬ ownT (col g)) (p : Int) (r : List Int) (hto : i.tos = p :: r)
    (hp : p ∈ ps) (hcp : cur < p) (hpb : -9223372036854775808 ≤ p ∧ p ≤ 9223372036854775807) (hl : k.st.stack.length ≤ 48) (hlo : k.st.locals.length ≤ 256) (hn : n ≤ 1000000) (hwt : (waitS k.wt p).length ≤ 1000000) :
    Calls Tryz.prog 141 #[.pointer (some ⟨wb, 0, none⟩), .agg (Wire.insC i tv)] w fun e w' => e = .returned (.int .i64 ((popR k.st.stack [numT]).1 : Int)) ∧ Kc col ownT w w' ∧ ((popR k.st.stack [numT]).1 = 0 → VwQ col w wb u m res sy mb (n + 1) ps cur (goV ⟨⟨(popR k.st.stack [numT]).2, k.st.locals⟩, k.wt⟩ p []) w') := by
  have hnum : str numT = (⟨#[110, 117, 109]⟩ : ByteArray) := rfl
  have hb : Below w.heap.size w ((w.alloc (.cells (Wire.insC i tv) 144)).alloc (.cells #[.string ⟨#[110, 117, 109]⟩] 9)) := ((Below.refl _ w).alloc (Nat.le_refl _) _).alloc (by simp) _
  have hV := h.beside hb
  have hbx : ((w.alloc (.cells (Wire.insC i tv) 144)).alloc (.cells #[.string ⟨#[110, 117, 109]⟩] 9)).heap[w.heap.size]? = some (.cells (Wire.insC i tv) 144 (0, 0)) := (Below.heap_alloc _ _ _ (by simp)).trans (World.alloc_heap_new w _)
  have hzz : ((w.alloc (.cells (Wire.insC i tv) 144)).alloc (.cells #[.string ⟨#[110, 117, 109]⟩] 9)).heap.size = w.heap.size + 2 := by simp
  have hpop := vpop hV (.slice (some ⟨w.heap.size + 1, 0, none⟩) 1 1) [numT] (.inr ⟨w.heap.size + 1, 0, 1, rfl, by omega, by simp, fun j x hj => by
    match j, hj with
    | 0, hj =>
      simp only [List.getElem?_cons_zero, Option.some.injEq] at hj
      subst hj
      have := new_cell (w.alloc (.cells (Wire.insC i tv) 144)) #[.string ⟨#[110, 117, 109]⟩] 9 0 _ rfl
      rw [World.size_alloc] at this
      exact this
    | j + 1, hj => simp at hj, colZ_new _ (by omega)⟩) hl (by simp)
  simp only [List.reverse_cons, List.reverse_nil, List.nil_append] at hpop
  have hpl : (popR k.st.stack [numT]).2.length ≤ 48 := Nat.le_trans (pop_len _ _) hl
  generalize popR k.st.stack [numT] = pr at *
  have HB := hidden hb
  have HI := hidden hI
  have HF := hidden hF
  have HZ := hidden hzz
  generalize hW : (w.alloc (.cells (Wire.insC i tv) 144)).alloc (.cells #[.string ⟨#[110, 117, 109]⟩] 9) = W at *
  generalize hIC : Wire.insC i tv = ic at *
  clear hV h hI hF hnum hzz
  go_enter Tryz.func141, Tryz.ntmps141
  go_wp2_with fail
  refine hpop.mono ?_
  rintro e w1 ⟨rfl, k1, q1⟩
  by_cases h0 : pr.1 = 0
  · obtain ⟨c, a, b, hA, hV1⟩ := q1 h0
    have h0i : ((pr.1 : Nat) : Int) = 0 := by omega
    have kz := kc_z HB.out k1
    have hb1 := (k1.block w.heap.size (by rw [HZ.out]; omega) (colZ_new _ (Nat.le_refl _))).trans hbx
    have hs1' := k1.size
    have hs1 := k1.size
    rw [HZ.out] at hs1
    have hI1 : Wire.IwR F w1 tv i.tos := HI.out.frame fun g hg => ⟨hg, (k1.block g (by rw [HZ.out]; have := (HF.out g hg).1; omega) (by rw [colZ_agr col w.heap.size g (HF.out g hg).1]; exact (HF.out g hg).2)).trans (HB.out.block g (HF.out g hg).1)⟩
    have hj := vjump hV1 F i tv hI1 (fun g hg => by have := (HF.out g hg).1; omega) p r hto hp hcp hpb hpl hlo hn hwt
    rw [hIC] at hj
    rw [h0i]
    have HA := hidden hA
    have HZ2 : Hid (w.heap.size ≤ W.heap.size) := by rw [hid_iff, HZ.out]; omega
    clear hV1 q1 hpop hA k1 hbx hI1
    go_wp2_with (first
      | (refine wpList_load_row rfl 144 (.tmp 3) rfl w.heap.size rfl 144 ic (0, 0) _ hb1 Tryz.underlying144 rfl (by first | exact Wire.sizeIns | (rw [← hIC]; exact Wire.sizeIns)) ?_))
    refine hj.mono ?_
    rintro e w2 ⟨rfl, k2, q2⟩
    go_wp2
    go_ret
    exact ⟨by first | rfl | (rw [h0i]; rfl), kz.trans (colZ_agr col w.heap.size |>.trans HA.out HZ2.out) k2, fun _ => (q2.back HA.out hs1').back (colZ_agr _ _) HZ2.out⟩
  · have h0i : ((pr.1 : Nat) : Int) ≠ 0 := by omega
    have HK := hidden (kc_z HB.out k1)
    clear k1 q1 hpop hbx
    go_wp2
    go_ret
    exact ⟨rfl, HK.out, fun e => absurd e h0⟩
end Go.Proofs.YtdeckknfolaaeaaGreatDoor

namespace Go.Proofs.YtdeckknfolaaeaaGreatDoor
open Go.RowKit Go.Maps

theorem all_take (P : Int → Bool) (l : List Int) (k : Nat) (h : k < l.length) : (l.take (k + 1)).all P = ((l.take k).all P && P l[k]) := by
  rw [List.take_succ_eq_append_getElem h, List.all_append]
  simp
theorem all_no {P : Int → Bool} {l : List Int} {k : Nat} (h : k < l.length) (hp : P l[k] = false) : l.all P = false := by
  rw [List.all_eq_false]
  exact ⟨l[k], List.getElem_mem h, by rw [hp]; simp⟩
set_option maxRecDepth 1000000 in
set_option maxHeartbeats 2000000 in
theorem vare {col : Nat → Tag} {w : World} {wb : Nat} {u : ObV} {m res : List UInt8} {sy : Value} {mb n : Nat} {ps : List Int} {cur : Int} {wt : List (Int × St)} {sv lv : Value} (h : VbR col w wb u m res sy mb n ps cur wt sv lv) (F : Nat → Prop) (tv : Value) (l : List Int) (hI : Wire.IwR F w tv l) (hb : ∀ p ∈ l, -9223372036854775808 ≤ p ∧ p ≤ 9223372036854775807) (hl : l.length ≤ 1000000) :
    Calls Tryz.prog 136 #[.pointer (some ⟨wb, 0, none⟩), tv] w fun e w' => e = .returned (.bool (l.all fun p => decide (p ∈ ps))) ∧ w' = w := by
  obtain ⟨⟨c9, c10, c11, c12⟩, f11, f12⟩ := h.cells
  obtain ⟨f, hM, hmt, hfs, hfr⟩ := h.wait
  have hlk : ∀ p, -9223372036854775808 ≤ p ∧ p ≤ 9223372036854775807 → (Instr.lookup 93 (.map (some mb)) (.int .i64 p) true).run Tryz.prog w = .ok (.tuple #[(f p).getD (.slice none 0 0), .bool (decide (p ∈ ps))]) w := fun p hp => by
    rw [← hfs p]
    exact hM.look_ok p hp Tryz.underlying93 (z := .slice none 0 0) (Tryz.zeroValue151 _)
  obtain ⟨ta, tc, rfl⟩ := hI.shape
  have HI := hidden hI
  have HK := hidden hlk
  have HB := hidden hb
  clear h hfr hM hI hlk hb
  go_enter Tryz.func136, Tryz.ntmps136
  go_wp2_with fail
  go_loopg [11] l.length (fun g i wr => ∃ (k : Nat), g + k = l.length ∧ i = .int .i64 (k : Int) ∧ (l.take k).all (fun p => decide (p ∈ ps)) = true ∧ wr = w)
  case atStart => exact ⟨0, by omega, rfl, rfl, rfl⟩
  case round =>
    obtain ⟨k, hg, rfl, hal, hw0⟩ := hrel
    obtain rfl := hw0.symm
    by_cases hk : k < l.length
    · have hki : (k : Int) < (l.length : Int) := by omega
      rcases HI.out with ⟨a, c, _, e⟩ | ⟨g, o, cap, e1, _, hgF, hc⟩
      · rw [e] at hk
        simp at hk
      · simp only [Value.slice.injEq, true_and] at e1
        obtain ⟨rfl, rfl⟩ := e1
        have hcell := hc k _ (List.getElem?_eq_getElem hk)
        have hlk := HK.out l[k] (HB.out _ (List.getElem_mem hk))
        have HN := hidden (all_no (P := fun p => decide (p ∈ ps)) hk)
        have HS := hidden (all_take (fun p => decide (p ∈ ps)) l k hk)
        obtain ⟨q, hq⟩ : ∃ q, l[k] = q := ⟨_, rfl⟩
        simp only [hq] at hcell hlk HN HS
        generalize (f q).getD (.slice none 0 0) = fv at *
        clear hq hc
        cases hd : decide (q ∈ ps)
        · rw [hd] at hlk
          have hE := HN.out hd
          have HE := hidden hE
          clear hE hd
          go_wp2
          go_ret
          exact ⟨by rw [HE.out]; rfl, rfl⟩
        · rw [hd] at hlk
          have hE : (l.take (k + 1)).all (fun p => decide (p ∈ ps)) = true := by rw [HS.out, hal, hd]; rfl
          have HE := hidden hE
          clear hE hd
          go_wp2
          go_roundg (l.length - (k + 1))
          case measure => omega
          case rel => exact ⟨k + 1, by omega, by go_num, HE.out, rfl⟩
    · have hki : ¬ (k : Int) < (l.length : Int) := by omega
      rw [List.take_of_length_le (by omega)] at hal
      have HE := hidden hal
      clear hal
      go_wp2
      go_ret
      exact ⟨by rw [HE.out]; rfl, rfl⟩
end Go.Proofs.YtdeckknfolaaeaaGreatDoor

namespace Go.Proofs.YtdeckknfolaaeaaGreatDoor
open Go.RowKit Go.Maps

/-- Later on fewer places count. -/
theorem WaitR.later {col : Nat → Tag} {w : World} {mb n : Nat} {ps : List Int} {wt : List (Int × St)} {cur cur' : Int} (h : WaitR col w mb n ps wt cur) (hc : cur ≤ cur') : WaitR col w mb n ps wt cur' := by
  obtain ⟨f, h1, h2, h3, h4⟩ := h
  exact ⟨f, h1, h2, h3, fun p hp hcp => h4 p hp (by omega)⟩
set_option maxRecDepth 1000000 in
set_option maxHeartbeats 2000000 in
theorem varrive0 {col : Nat → Tag} {w : World} {wb : Nat} {u : ObV} {m res : List UInt8} {sy : Value} {mb n : Nat} {ps : List Int} {cur : Int} {wt : List (Int × St)} {sv lv : Value} (h : VbR col w wb u m res sy mb n ps cur wt sv lv) (p : Int) (hp : p ∈ ps) (hcp : cur < p) (hpb : -9223372036854775808 ≤ p ∧ p ≤ 9223372036854775807) (hw : waitS wt p = []) :
    Calls Tryz.prog 135 #[.pointer (some ⟨wb, 0, none⟩), .int .i64 p] w fun e w' => e = .returned (.bool false) ∧ w' = w := by
  obtain ⟨⟨c9, c10, c11, c12⟩, f11, f12⟩ := h.cells
  obtain ⟨f, hM, hmt, hfs, hfr⟩ := h.wait
  obtain ⟨rv, hrv, hR⟩ := hfr p hp hcp
  have hlk := hM.look p hpb Tryz.underlying93 (z := .slice none 0 0) (Tryz.zeroValue151 _)
  rw [hrv] at hlk
  simp only [Option.getD_some] at hlk
  obtain ⟨qs, q1, q2, q3, q4⟩ := hR
  rw [hw] at q2
  obtain ⟨ra, rcp, rfl⟩ : ∃ a c, rv = .slice a 0 c := by
    rcases q2.2 with ⟨rfl, hn⟩ | ⟨g, cap, cur, rfl, _⟩
    · exact ⟨none, 0, rfl⟩
    · exact ⟨_, _, rfl⟩
  clear h hfr hM q1 q2 q3 q4 hfs hrv
  go_enter Tryz.func135, Tryz.ntmps135
  go_wp2
  go_ret
  exact ⟨rfl, rfl⟩
set_option maxRecDepth 1000000 in
set_option maxHeartbeats 2000000 in
theorem varrive1 {col : Nat → Tag} {w : World} {wb : Nat} {u : ObV} {m res : List UInt8} {sy : Value} {mb n : Nat} {ps : List Int} {cur : Int} {wt : List (Int × St)} {sv lv : Value} (h : VbR col w wb u m res sy mb n ps cur wt sv lv) (p : Int) (hp : p ∈ ps) (hcp : cur < p) (hpb : -9223372036854775808 ≤ p ∧ p ≤ 9223372036854775807) (s : St) (hw : waitS wt p = [s]) :
    Calls Tryz.prog 135 #[.pointer (some ⟨wb, 0, none⟩), .int .i64 p] w fun e w' => e = .returned (.bool true) ∧ Kc col ownT w w' ∧ VwQ col w wb u m res sy mb n ps p ⟨s, wt⟩ w' := by
  obtain ⟨⟨c9, c10, c11, c12⟩, f11, f12⟩ := h.cells
  have H := hidden h
  obtain ⟨f, hM, hmt, hfs, hfr⟩ := h.wait
  obtain ⟨rv, hrv, hR⟩ := hfr p hp hcp
  have hlk := hM.look p hpb Tryz.underlying93 (z := .slice none 0 0) (Tryz.zeroValue151 _)
  rw [hrv] at hlk
  simp only [Option.getD_some] at hlk
  obtain ⟨qs, q1, q2, q3, q4⟩ := hR
  rw [hw] at q1 q2
  obtain ⟨⟨s', v3, v4⟩, rfl⟩ : ∃ q, qs = [q] := by
    match qs, q1 with
    | [q], _ => exact ⟨q, rfl⟩
  simp only [List.map_cons, List.map_nil, List.cons.injEq, and_true] at q1
  subst q1
  obtain ⟨hs3, hs4⟩ := q4 0 _ rfl
  simp only at hs3 hs4
  rcases q2.2 with ⟨_, hn⟩ | ⟨g, cap, cu, rfl, _, hgg, hcap, _, hcs, htk⟩
  · simp at hn
  · have r0 : w.cell? ⟨g, 0, none⟩ = some v3 := by rw [q2.cellAt 0 (by simp)]; rfl
    have r1 : w.cell? ⟨g, 1, none⟩ = some v4 := by rw [q2.cellAt 1 (by simp)]; rfl
    obtain ⟨sa, scp, rfl⟩ := hs3.row.shape
    obtain ⟨la, lcp, rfl⟩ := hs4.row.shape
    have hcapi : (1 : Int) ≤ (cap : Int) := by simp at hcap; omega
    have hB1 := (H.out.setS (.slice sa s'.stack.length scp)).setL (.slice la s'.locals.length lcp)
    have k1 := kc_box (w := w) H.out.tag 11 (.slice sa s'.stack.length scp)
    have k2 := kc_box (w := w.setCell ⟨wb, 11, none⟩ (.slice sa s'.stack.length scp)) H.out.tag 12 (.slice la s'.locals.length lcp)
    have hK : Kc col (fun t => t = (7, 0, 0)) w ((w.setCell ⟨wb, 11, none⟩ (.slice sa s'.stack.length scp)).setCell ⟨wb, 12, none⟩ (.slice la s'.locals.length lcp)) := k1.trans (Agr.refl _ _) k2
    have hV : VwR col ((w.setCell ⟨wb, 11, none⟩ (.slice sa s'.stack.length scp)).setCell ⟨wb, 12, none⟩ (.slice la s'.locals.length lcp)) wb u m res sy mb n ps p ⟨s', wt⟩ (.slice sa s'.stack.length scp) (.slice la s'.locals.length lcp) := ⟨⟨hB1.box, hB1.tag, hB1.wait.later (by omega)⟩, hs3.kept hK (Agr.refl _ _) (by simp), hs4.kept hK (Agr.refl _ _) (by simp)⟩
    have hF := hidden (And.intro (hK.mono fun _ => kc7) hV)
    clear h hfr hM q2 q3 q4 hfs hrv hB1 k1 k2 hK hV hs3 hs4 H hgg hcs htk
    go_enter Tryz.func135, Tryz.ntmps135
    go_wp2_with fail
    all_goals
      go_loopg [28] 0 (fun g i wr => g = 0 ∧ i = .int .i64 0 ∧ wr = (w.setCell ⟨wb, 11, none⟩ (.slice sa s'.stack.length scp)).setCell ⟨wb, 12, none⟩ (.slice la s'.locals.length lcp))
      case atStart => exact ⟨rfl, rfl, rfl⟩
      case round =>
        obtain ⟨-, rfl, hw0⟩ := hrel
        subst hw0
        go_wp2
        go_ret
        exact ⟨rfl, hF.out.1, ⟨col, _, _, Agr.refl _ _, hF.out.2⟩⟩
end Go.Proofs.YtdeckknfolaaeaaGreatDoor

namespace Go.Proofs.YtdeckknfolaaeaaGreatDoor
open Go.RowKit

theorem vgoes (op : Int) (w : World) : Calls Tryz.prog 74 #[.int .i64 op] w fun e w' => e = .returned (.bool (onV op)) ∧ w' = w := by
  have HO : Hid (onV op = decide (op ≠ 5 ∧ op ≠ 10 ∧ op ≠ 15)) := rfl
  generalize onV op = b at *
  go_enter Tryz.func74, Tryz.ntmps74
  by_cases h5 : op = 5
  · subst h5
    go_wp2
    go_ret
    exact ⟨by rw [HO.out]; rfl, rfl⟩
  · by_cases h10 : op = 10
    · subst h10
      go_wp2
      go_ret
      exact ⟨by rw [HO.out]; rfl, rfl⟩
    · by_cases h15 : op = 15
      · subst h15
        go_wp2
        go_ret
        exact ⟨by rw [HO.out]; rfl, rfl⟩
      · have HT : Hid (b = true) := by rw [hid_iff, HO.out]; exact decide_eq_true ⟨h5, h10, h15⟩
        have n5 : (op != 5) = true := by simp [h5]
        have n10 : (op != 10) = true := by simp [h10]
        have n15 : (op != 15) = true := by simp [h15]
        go_wp2
        go_ret
        exact ⟨by rw [HT.out]; rfl, rfl⟩
theorem visIdx (n c : Int) (w : World) : Calls Tryz.prog 26 #[.int .i64 n, .int .i64 c] w fun e w' => e = .returned (.bool (inO n c)) ∧ w' = w := by
  have HO : Hid (inO n c = (decide (0 ≤ n) && decide (n < c))) := rfl
  generalize inO n c = b at *
  go_enter Tryz.func26, Tryz.ntmps26
  by_cases h0 : 0 ≤ n
  · by_cases h1 : n < c
    · have HT : Hid (b = true) := by rw [hid_iff, HO.out, decide_eq_true h0, decide_eq_true h1]; rfl
      go_wp2
      go_ret
      exact ⟨by rw [HT.out]; rfl, rfl⟩
    · have HT : Hid (b = false) := by rw [hid_iff, HO.out, decide_eq_true h0, decide_eq_false h1]; rfl
      go_wp2
      go_ret
      exact ⟨by rw [HT.out]; rfl, rfl⟩
  · have HT : Hid (b = false) := by rw [hid_iff, HO.out, decide_eq_false h0]; rfl
    go_wp2
    go_ret
    exact ⟨by rw [HT.out]; rfl, rfl⟩
set_option maxHeartbeats 1000000 in
theorem vtakes (op : Int) (w : World) : Calls Tryz.prog 207 #[.int .i64 op] w fun e w' => e = .returned (.int .i64 (takesD op : Int)) ∧ w' = w := by
  have HO : Hid (takesD op = if op = 3 ∨ op = 4 ∨ op = 5 ∨ op = 6 ∨ op = 10 then 1 else if op = 12 then 3 else 2) := rfl
  generalize takesD op = b at *
  go_enter Tryz.func207, Tryz.ntmps207
  by_cases h1 : op = 3 ∨ op = 4 ∨ op = 5 ∨ op = 6 ∨ op = 10
  · have HT : Hid (b = 1) := by rw [hid_iff, HO.out, if_pos h1]
    clear HO
    rcases h1 with rfl | rfl | rfl | rfl | rfl
    all_goals
      go_wp2
      go_ret
      exact ⟨by rw [HT.out]; rfl, rfl⟩
  · have a1 : ¬ op = 3 := fun h => h1 (.inl h)
    have a2 : ¬ op = 4 := fun h => h1 (.inr (.inl h))
    have a3 : ¬ op = 5 := fun h => h1 (.inr (.inr (.inl h)))
    have a4 : ¬ op = 6 := fun h => h1 (.inr (.inr (.inr (.inl h))))
    have a5 : ¬ op = 10 := fun h => h1 (.inr (.inr (.inr (.inr h))))
    by_cases h2 : op = 12
    · have HT : Hid (b = 3) := by rw [hid_iff, HO.out, if_neg h1, if_pos h2]
      clear HO h1
      subst h2
      go_wp2
      go_ret
      exact ⟨by rw [HT.out]; rfl, rfl⟩
    · have HT : Hid (b = 2) := by rw [hid_iff, HO.out, if_neg h1, if_neg h2]
      clear HO h1
      go_wp2
      go_ret
      exact ⟨by rw [HT.out]; rfl, rfl⟩
theorem velem (t : List UInt8) (w : World) : Calls Tryz.prog 241 #[.string (str t)] w fun e w' => e = .returned (.tuple #[.string (str (elemV t).1), .bool (elemV t).2]) ∧ Below w.heap.size w w' := by
  have he := eq_is t bytesT
  have hel := elem (str t) w
  rw [str_data] at hel
  unfold ElemE at hel
  have HO : Hid (elemV t = if t = bytesT then (numT, true) else if isArr t = true then (elemR t, true) else ([], false)) := rfl
  have hbs : (str bytesT).toList = [98, 121, 116, 101, 115] := by rw [Lib.toList_data, str_data]; rfl
  rw [hbs] at he
  generalize elemV t = ev at *
  go_enter Tryz.func241, Tryz.ntmps241
  by_cases h1 : t = bytesT
  · rw [decide_eq_true h1] at he
    have HT : Hid (ev = (numT, true)) := by rw [hid_iff, HO.out, if_pos h1]
    clear h1 HO hel
    go_wp2
    go_ret2
    exact ⟨by rw [HT.out]; rfl, Below.refl _ _⟩
  · rw [decide_eq_false h1] at he
    cases h2 : isArr t
    · rw [h2] at hel
      have HT : Hid (ev = ([], false)) := by rw [hid_iff, HO.out, if_neg h1, if_neg (by rw [h2]; simp)]
      clear h1 HO
      simp only [Bool.false_eq_true, if_false] at hel
      go_wp2_with fail
      refine hel.mono ?_
      rintro e w1 ⟨rfl, hb⟩
      go_wp2
      go_ret2
      exact ⟨by rw [HT.out]; rfl, hb⟩
    · rw [h2] at hel
      have HT : Hid (ev = (elemR t, true)) := by rw [hid_iff, HO.out, if_neg h1, if_pos h2]
      clear h1 HO
      simp only [if_true] at hel
      go_wp2_with fail
      refine hel.mono ?_
      rintro e w1 ⟨rfl, hb⟩
      go_wp2
      go_ret2
      exact ⟨by rw [HT.out]; rfl, hb⟩
end Go.Proofs.YtdeckknfolaaeaaGreatDoor

namespace Go.Proofs.YtdeckknfolaaeaaGreatDoor
open Go.RowKit

theorem allN_no {l : List (List UInt8)} {k : Nat} (h : k < l.length) (hp : l[k] ≠ numT) : l.all (fun t => decide (t = numT)) = false := by
  rw [List.all_eq_false]
  exact ⟨l[k], List.getElem_mem h, by simpa using hp⟩
theorem allN_yes {l : List (List UInt8)} (h : ∀ k (hk : k < l.length), l[k] = numT) : l.all (fun t => decide (t = numT)) = true := by
  rw [List.all_eq_true]
  intro x hx
  obtain ⟨i, hi, rfl⟩ := List.getElem_of_mem hx
  simpa using h i hi
set_option maxRecDepth 1000000 in
set_option maxHeartbeats 4000000 in
theorem vresN (v : Value) (l : List (List UInt8)) (op : Int) (w : World) (h : StrRow w v l) (hpos : 0 < l.length) (hl : l.length ≤ 48) (h7 : op ≠ 7) (h9 : op ≠ 9) (h10 : op ≠ 10) (h11 : op ≠ 11) (h12 : op ≠ 12) :
    Calls Tryz.prog 208 #[.int .i64 op, v] w fun e w' => (∃ s, e = .returned (.tuple #[.string s, .bool (l.all fun t => decide (t = numT))]) ∧ (l.all (fun t => decide (t = numT)) = true → s = str numT)) ∧ Below w.heap.size w w' := by
  obtain ⟨va, vc, rfl⟩ := h.shape
  have H := hidden h
  obtain ⟨b, o, c, e1, hc0⟩ := strRow_atV h 0 hpos
  simp only [Value.slice.injEq, true_and] at e1
  obtain ⟨rfl, rfl⟩ := e1
  rw [Nat.add_zero] at hc0
  have hel := velem l[0] w
  have hposi : (0 : Int) < (l.length : Int) := by omega
  have n7 : (op == 7) = false := by simp [h7]
  have n9 : (op == 9) = false := by simp [h9]
  have n10 : (op == 10) = false := by simp [h10]
  have n11 : (op == 11) = false := by simp [h11]
  have n12 : (op == 12) = false := by simp [h12]
  generalize hba : (l.all fun t => decide (t = numT)) = ba
  have HBA := hidden hba
  clear hba
  generalize l[0] = x0 at *
  generalize elemV x0 = ev at *
  clear h
  go_enter Tryz.func208, Tryz.ntmps208
  go_wp2_with fail
  refine hel.mono ?_
  rintro e w1 ⟨rfl, hb1⟩
  clear hc0 hel
  go_wp2_with fail
  go_loopg [87] l.length (fun g i wr => ∃ (k : Nat), g + k = l.length ∧ i = .int .i64 (k : Int) ∧ (∀ j (hj : j < l.length), j < k → l[j] = numT) ∧ wr = w1)
  case atStart => exact ⟨0, by omega, rfl, fun j hj h => by omega, rfl⟩
  case round =>
    obtain ⟨k, hg, rfl, hal, hw0⟩ := hrel
    obtain rfl := hw0.symm
    by_cases hk : k < l.length
    · have hki : (k : Int) < (l.length : Int) := by omega
      obtain ⟨b2, o2, c2, e1, hc⟩ := strRow_atV (H.out.below hb1) k hk
      simp only [Value.slice.injEq, Option.some.injEq, Addr.mk.injEq, and_true, true_and] at e1
      obtain ⟨⟨rfl, rfl⟩, rfl⟩ := e1
      have he := eq_is l[k] numT
      have hns : (str numT).toList = [110, 117, 109] := by rw [Lib.toList_data, str_data]; rfl
      rw [hns] at he
      have HN := hidden (fun hne => allN_no (l := l) hk hne)
      have HQ := hidden (fun (e : l[k] = numT) => (fun j (hj : j < l.length) (hjk : j < k + 1) => by
        rcases Nat.lt_or_ge j k with hlt | hge
        · exact hal j hj hlt
        · obtain rfl : j = k := by omega
          exact e : ∀ j (hj : j < l.length), j < k + 1 → l[j] = numT))
      obtain ⟨q, hq⟩ : ∃ q, l[k] = q := ⟨_, rfl⟩
      rw [hq] at hc he HN HQ
      by_cases hy : q = numT
      · have HE := hidden (HQ.out hy)
        rw [decide_eq_true hy] at he
        clear hy HQ HN hq hal
        go_wp2
        go_roundg (l.length - (k + 1))
        case measure => omega
        case rel => exact ⟨k + 1, by omega, by go_num, HE.out, rfl⟩
      · have HE := hidden (HN.out hy)
        rw [decide_eq_false hy] at he
        clear hy HQ HN hq hal
        go_wp2
        go_ret2
        have hb := HBA.out.symm.trans HE.out
        subst hb
        first | exact ⟨⟨_, rfl, fun h => by cases h⟩, hb1⟩ | exact ⟨⟨_, rfl⟩, hb1⟩
    · have hki : ¬ (k : Int) < (l.length : Int) := by omega
      have HE := hidden (allN_yes fun j hj => hal j hj (by omega))
      clear hal
      go_wp2
      go_ret2
      have hb := HBA.out.symm.trans HE.out
      subst hb
      first | exact ⟨⟨_, rfl, fun _ => rfl⟩, hb1⟩ | exact ⟨⟨_, rfl, rfl⟩, hb1⟩
end Go.Proofs.YtdeckknfolaaeaaGreatDoor
