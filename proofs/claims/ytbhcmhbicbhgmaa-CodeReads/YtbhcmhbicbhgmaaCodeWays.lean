/-
  Where an instruction goes: the ways that are read, in a row of the call's own.
-/
import Derived.Test.YtbhcmhbicbhgmaaCodeSmall
import Derived.Deep.LoopGhost
import Derived.Laws.IdiomCopy
import Derived.Deep.OwnRows
namespace Go.Proofs.Ytbhcmhbicbhgmaa.Wire
open Go.RowKit

/-- Whole numbers in a row, in a block of F. -/
def IwR (F : Nat → Prop) (w : World) (v : Value) (xs : List Int) : Prop :=
  (∃ a c, v = .slice a 0 c ∧ xs = []) ∨ ∃ g o cap, v = .slice (some ⟨g, o, none⟩) xs.length cap ∧ xs.length ≤ cap ∧ F g ∧ ∀ (j : Nat) x, xs[j]? = some x → w.cell? ⟨g, o + j, none⟩ = some (.int .i64 x)
theorem IwR.frame {F G : Nat → Prop} {w w' : World} (hF : ∀ g, F g → G g ∧ w'.heap[g]? = w.heap[g]?) {v : Value} {xs : List Int} (h : IwR F w v xs) : IwR G w' v xs := by
  rcases h with h | ⟨g, o, cap, h1, h1', h2, h3⟩
  · exact .inl h
  · exact .inr ⟨g, o, cap, h1, h1', (hF g h2).1, fun j x hj => by rw [World.cell?_of_block (w := w) (hF g h2).2]; exact h3 j x hj⟩
theorem IwR.shape {F : Nat → Prop} {w : World} {v : Value} {xs : List Int} (h : IwR F w v xs) : ∃ a c, v = .slice a xs.length c := by
  rcases h with ⟨a, c, rfl, rfl⟩ | ⟨g, o, cap, rfl, _⟩
  · exact ⟨a, c, rfl⟩
  · exact ⟨_, _, rfl⟩
theorem IwR.nil (F : Nat → Prop) (w : World) : IwR F w (.slice none 0 0) [] := .inl ⟨none, 0, rfl, rfl⟩
theorem IwR.one {F : Nat → Prop} {w : World} {v : Value} {xs : List Int} (h : IwR F w v xs) : v.oneCell' = true := by
  obtain ⟨a, c, rfl⟩ := h.shape
  rfl
def ics (xs : List Int) : List Value := xs.map (Value.int .i64)
theorem ics_at (xs : List Int) (j : Nat) (x : Int) (h : xs[j]? = some x) : (ics xs)[j]? = some (.int .i64 x) := by simp [ics, h]
theorem Try.infoInt : (Try.prog.info? 3).map (fun i => (i.zero, i.size, i.bytes)) = some (some (.int .i64 0), 1, 8) := by kernel_rfl
/-- A block that holds these whole numbers. -/
def IBlk (w : World) (g : Nat) (xs : List Int) : Prop := w.heap[g]? = some (.cells (ics xs).toArray 3 (0, 0))
theorem IBlk.lt {w : World} {g : Nat} {xs : List Int} (h : IBlk w g xs) : g < w.heap.size := (Array.getElem?_eq_some_iff.1 h).1
theorem IBlk.kept {S : Nat → Prop} {w w' : World} {g : Nat} {xs : List Int} (h : IBlk w g xs) (k : Kept S w w') (hg : ¬ S g) : IBlk w' g xs := (k.block g h.lt hg).trans h
theorem IBlk.cell {w : World} {g : Nat} {xs : List Int} (h : IBlk w g xs) (j : Nat) : w.cell? ⟨g, j, none⟩ = (ics xs)[j]? := by
  rw [cell_of_row _ _ _ _ _ _ h]
  simp
theorem IBlk.set {w : World} {g : Nat} {xs : List Int} (h : IBlk w g xs) (j : Nat) (x : Int) : IBlk (w.setCell ⟨g, j, none⟩ (.int .i64 x)) g (xs.set j x) := by
  unfold IBlk at *
  rw [heap_setCell_same w g j _ _ _ h]
  simp [ics, List.map_set]
theorem IBlk.row {F : Nat → Prop} {w : World} {g cap : Nat} {xs : List Int} (h : IBlk w g xs) (hF : F g) (hc : xs.length ≤ cap) : IwR F w (.slice (some ⟨g, 0, none⟩) xs.length cap) xs :=
  .inr ⟨g, 0, cap, rfl, hc, hF, fun j x hj => by rw [Nat.zero_add, h.cell, ics_at xs j x hj]⟩

/-- What readWays leaves. -/
def WaysE (l : List Nat) (b g : Nat) (R : List Int × Nat × Nat) (w : World) (e : Ending) (w' : World) : Prop :=
  ∃ v, e = .returned v ∧ IwR (fun z => w.heap.size ≤ z ∧ z < w'.heap.size) w' v R.1 ∧ RIs w' b g l R.2.1 R.2.2 ∧ Kept (fun k => k = b) w w'
theorem way_step (l : List Nat) (bh : Int) (n p y : Nat) : rW l bh (n + 1) p y = ((bh + ((rP l p y).1 : Nat)) :: (rW l bh n (rP l p y).2.1 (rP l p y).2.2).1, (rW l bh n (rP l p y).2.1 (rP l p y).2.2).2) := rfl
theorem set_mid (ds : List Int) (m : Nat) (x : Int) : (ds ++ List.replicate (m + 1) 0).set ds.length x = (ds ++ [x]) ++ List.replicate m 0 := by
  rw [List.set_append_right _ _ (Nat.le_refl _), Nat.sub_self, List.replicate_succ, List.set_cons_zero]
  simp
theorem pair_lt (l : List Nat) (p y : Nat) (h256 : ∀ x ∈ l, x < 256) : (rP l p y).1 < 65536 := by
  unfold rP
  rcases take_two l p y h256 with h | ⟨x, z, h, hx, hz⟩
  · rw [h]; simp
  · rw [h]
    show x * 256 + z < 65536
    omega
set_option maxHeartbeats 1000000 in
set_option maxRecDepth 1000000 in
theorem creadWays (b g : Nat) (l : List Nat) (p why at0 n : Nat) (w : World) (hl : l.length ≤ 140737488355328) (h256 : ∀ x ∈ l, x < 256) (hp : p ≤ l.length) (hy : Yw why) (ha : at0 ≤ 140737488355328) (hn : n ≤ 255) (hr : RIs w b g l p why) :
    Calls Try.prog 37 #[.pointer (some ⟨b, 0, none⟩), .int .i64 at0, .int .i64 n] w (WaysE l b g (rW l ((at0 : Nat) + 2 * (n : Int)) n p why) w) := by
  have hmk : ∀ u : World, (Instr.makeSlice 32 (.int .i64 (n : Int)) (.int .i64 (n : Int))).run Try.prog u = .ok (.slice (some ⟨u.heap.size, 0, none⟩) n n) (u.alloc (.cells (madeCells #[.int .i64 0] n) 3)) :=
    fun u => run_make_row' (P := Try.prog) 32 3 (.int .i64 0) 8 Try.underlying32 Try.infoInt rfl .i64 .i64 n (by omega) (by omega) u
  have hI0 : IBlk (w.alloc (.cells (madeCells #[.int .i64 0] n) 3)) w.heap.size (List.replicate n 0) := by
    have h := heap_alloc_new w (.cells (madeCells #[.int .i64 0] n) 3)
    unfold IBlk
    rw [h]
    congr 2
    apply Array.ext'
    rw [toList_madeCells_one]
    simp [ics]
  have hK0 : Kept (fun k => k = b) w (w.alloc (.cells (madeCells #[.int .i64 0] n) 3)) := (Kept.refl _ w).alloc _
  have hr0 := hr.kept ((Kept.refl (fun _ => False) w).alloc (.cells (madeCells #[.int .i64 0] n) 3)) (fun h => h) (fun h => h)
  have hb := hr.lt
  have hg := hr.gt
  obtain ⟨bh, HB⟩ : ∃ bh : Int, Hid (bh = (at0 : Nat) + 2 * (n : Int)) := ⟨_, rfl⟩
  have hbh0 : 0 ≤ bh := by have := HB.out; omega
  have hbh1 : bh ≤ 150000000000000 := by have := HB.out; omega
  have HW : Hid (∀ R, R = rW l bh n p why → R = rW l ((at0 : Nat) + 2 * (n : Int)) n p why) := by
    intro R h
    rw [h, HB.out]
  have hgoal : WaysE l b g (rW l ((at0 : Nat) + 2 * (n : Int)) n p why) w = WaysE l b g (rW l bh n p why) w := by rw [HB.out]
  rw [hgoal]
  clear HW hgoal
  have hB := HB.out
  clear HB
  go_enter Try.func37, Try.ntmps37
  go_wp2
  rw [← hB]
  clear hB hmk
  go_loopg [18] n (fun gk i wr => ∃ (k p1 y1 : Nat) (ds : List Int), gk + k = n ∧ i = .int .i64 k ∧ ds.length = k ∧ IBlk wr w.heap.size (ds ++ List.replicate (n - k) 0) ∧ RIs wr b g l p1 y1 ∧ p1 ≤ l.length ∧ Yw y1 ∧ Kept (fun k => k = b) w wr ∧ rW l bh n p why = (ds ++ (rW l bh (n - k) p1 y1).1, (rW l bh (n - k) p1 y1).2))
  case atStart => exact ⟨0, p, why, [], rfl, rfl, rfl, by simpa using hI0, hr0, hp, hy, hK0, by simp⟩
  case round =>
    obtain ⟨k, p1, y1, ds, hgk, rfl, hdk, hI, hR, hp1, hy1, hK, hW⟩ := hrel
    clear hI0 hK0 hr0 hr
    have hz := hK.size
    have hIl := hI.lt
    by_cases hk : k < n
    · have hc := cpair b g l p1 y1 wr hl h256 hp1 hR
      have hs := rP_step l p1 y1 hp1 hy1
      have hlt := pair_lt l p1 y1 h256
      have HW := hidden hW
      clear hW
      have HS := way_step l bh (n - (k + 1)) p1 y1
      rw [show n - (k + 1) + 1 = n - k by omega] at HS
      have HS := hidden HS
      generalize rP l p1 y1 = R at *
      obtain ⟨q, p2, y2⟩ := R
      simp only at hc hs hlt HS
      have HG : Hid (gk + k = n) := hgk
      have HD : Hid (ds.length = k) := hdk
      clear hgk hdk
      go_wp2_with fail
      refine hc.mono ?_
      rintro e w1 ⟨rfl, k1, k2⟩
      have hI1 := hI.kept k2 (by omega)
      have hcell : w1.cell? ⟨w.heap.size, k, none⟩ = some (.int .i64 0) := by
        rw [hI1.cell]
        refine ics_at _ _ _ ?_
        have := HD.out
        rw [List.getElem?_append_right (by omega), List.getElem?_replicate, if_pos (by omega)]
      have hfz := frozen_of_row w1 w.heap.size k _ _ hI1
      have hI2 := hI1.set k (bh + (q : Int))
      have HI2 : Hid (IBlk (w1.setCell ⟨w.heap.size, k, none⟩ (.int .i64 (bh + (q : Int)))) w.heap.size ((ds ++ [bh + (q : Int)]) ++ List.replicate (n - (k + 1)) 0)) := by
        rw [show n - k = n - (k + 1) + 1 by omega] at hI2
        have := set_mid ds (n - (k + 1)) (bh + (q : Int))
        rw [HD.out] at this
        rw [this] at hI2
        exact hI2
      have K3 : Kept (fun z => z = b) w (w1.setCell ⟨w.heap.size, k, none⟩ (.int .i64 (bh + (q : Int)))) := (hK.trans k2 (fun _ _ h => h) (fun _ _ h => h)).setCell (p := ⟨w.heap.size, k, none⟩) (fun h => by simp at h) _
      have k3 := k1.kept (kept_set w1 w.heap.size k (.int .i64 (bh + (q : Int)))) (by omega) (by omega)
      clear hI2 hI1 hI
      go_wp2
      go_roundg (n - (k + 1))
      case measure => have := HG.out; omega
      case rel =>
        refine ⟨k + 1, p2, y2, ds ++ [bh + (q : Int)], by omega, by go_num, by rw [List.length_append, HD.out]; rfl, HI2.out, k3, hs.1, hs.2.1, K3, ?_⟩
        rw [HW.out, HS.out]
        simp
    · have hkn : k = n := by omega
      subst hkn
      have HW := hidden hW
      have HD : Hid (ds.length = k) := hdk
      clear hW hdk
      rw [Nat.sub_self, List.replicate_zero, List.append_nil] at hI
      go_wp2
      go_ret
      refine ⟨_, rfl, ?_, ?_, hK⟩
      · rw [HW.out, Nat.sub_self]
        show IwR _ _ _ (ds ++ [])
        rw [List.append_nil]
        have := hI.row (F := fun z => w.heap.size ≤ z ∧ z < wr.heap.size) (cap := k) ⟨Nat.le_refl _, hIl⟩ (by rw [HD.out]; exact Nat.le_refl _)
        rw [HD.out] at this
        exact this
      · rw [HW.out, Nat.sub_self]
        exact hR
end Go.Proofs.Ytbhcmhbicbhgmaa.Wire
