/-
  The package's rightCase.
-/
import Derived.Deep.RegionWith
import Derived.Deep.CutRange
import Derived.Test.YtcjddbponknnoaaGreatDoorIfaceSmall
namespace Go.Proofs.YtcjddbponknnoaaGreatDoor
open Go.RowKit

theorem below_drew {H : Nat} {w w1 : World} (h : Below H w w1) : Below H w w1.drew := ⟨h.os, h.tape, h.output, h.size, h.block⟩
theorem below_undrew {w w1 : World} (h : Below w.drew.heap.size w.drew w1) : Below w.heap.size w w1 := ⟨h.os, h.tape, h.output, h.size, h.block⟩
set_option maxHeartbeats 4000000 in
set_option maxRecDepth 1000000 in
theorem rightCase (F : Nat → Prop) (v : Value) (cs : List Cs) (i : Nat) (w : World) (h : CsR F w v cs) (hF : ∀ g, F g → g < w.heap.size) (hl : cs.length ≤ 3518437208883) (hok : ∀ c ∈ cs, CsOk c) (hi : i < cs.length) :
    Calls Tryz.prog 174 #[v, .int .i64 (i : Int)] w (NumB (caseE (cs.take i) cs[i]) w) := by
  obtain ⟨g, o, cap, fv, rfl, hcap, hFg, hT, q0, q1⟩ := h.at i hi
  have hc := hok _ (List.getElem_mem hi)
  obtain ⟨hc1, hc2, hc3⟩ := hc
  obtain ⟨fa, fc, rfl⟩ := hT.shape
  have hHT := CsR.take h hFg hcap i (by omega)
  have hlt : (cs.take i).length ≤ 3518437208883 := by rw [List.length_take]; omega
  have i0 : (0 : Int) ≤ (i : Int) := by omega
  have i1 : (i : Int) < (cs.length : Int) := by omega
  have i2 : (i : Int) ≤ (cap : Int) := by omega
  have i3 : (i : Int) ≤ (cs.length : Int) := by omega
  generalize hn : cs[i].1 = n at *
  generalize hfs : cs[i].2 = fs at *
  have HE : Hid (caseE (cs.take i) cs[i] = if bigR n = false then 13 else if (cs.take i).any (fun d => decide (d.1 = n)) = true then 13 else if 4 < fs.length then 19 else if fs.all rightR = true then 0 else 17) := by
    rw [hid_iff, ← hn, ← hfs]
    rfl
  have hb0 : Below w.heap.size w (w.alloc (.cells #[.string (str n), .slice fa fs.length fc] 204)) := (Below.refl _ _).alloc (Nat.le_refl _) _
  have hN := heap_alloc_new w (.cells #[.string (str n), .slice fa fs.length fc] 204)
  have hB := fun u => big (str n) u (by rw [str_size]; unfold Tk at hc1; omega)
  rw [str_data] at hB
  have hH : ∀ u, Below w.heap.size w u → Calls Tryz.prog 198 #[.slice (some ⟨g, o, none⟩) i cap, .string (str n)] u (BoolB ((cs.take i).any (fun d => decide (d.1 = n))) u) := fun u hu =>
    hasCase F _ (cs.take i) n u (hHT.below hu hF) (fun g hg => Nat.lt_of_lt_of_le (hF g hg) hu.size) hlt
  have hA : ∀ u, Below w.heap.size w u → Calls Tryz.prog 199 #[.slice fa fs.length fc] u (BoolB (fs.all rightR) u) := fun u hu =>
    allTypes F _ fs u (hT.below hu hF) (fun g hg => Nat.lt_of_lt_of_le (hF g hg) hu.size) hc2
  generalize (cs.take i).any (fun d => decide (d.1 = n)) = an at *
  generalize fs.all rightR = al at *
  have hQ : ∀ u, Below (w.alloc (.cells #[.string (str n), .slice fa fs.length fc] 204)).heap.size (w.alloc (.cells #[.string (str n), .slice fa fs.length fc] 204)) u → u.cell? ⟨w.heap.size, 1, none⟩ = some (.slice fa fs.length fc) := fun u hu => by
    have hn := (hu.block w.heap.size (by simp)).trans hN
    rw [cell_of_row u _ 1 _ _ _ hn]
    rfl
  clear h hT hHT hok hc1 hc3 hlt hn hfs hN
  cases hbg : bigR n
  · rw [hbg] at hB
    have HV : Hid (caseE (cs.take i) cs[i] = 13) := by rw [hid_iff, HE.out, if_pos hbg]
    clear hH hA hQ hbg HE
    go_enter Tryz.func174, Tryz.ntmps174
    go_wp2_with fail
    refine (hB _).mono ?_
    rintro e w1 ⟨rfl, hw1⟩
    obtain rfl := hw1.symm
    go_wp2
    go_ret
    exact ⟨(by rw [HV.out]; rfl), hb0⟩
  · rw [hbg] at hB
    have HE2 := HE.out
    rw [if_neg (by rw [hbg]; simp)] at HE2
    have HE3 := hidden HE2
    clear hbg HE HE2
    go_enter Tryz.func174, Tryz.ntmps174
    go_wp2_with fail
    refine (hB _).mono ?_
    rintro e w1 ⟨rfl, hw1⟩
    obtain rfl := hw1.symm
    go_wp2_with fail
    go_cut [10] from 15 to 20 (fun c wx => c = .bool an ∧ Below (w.alloc (.cells #[.string (str n), .slice fa fs.length fc] 204)).heap.size (w.alloc (.cells #[.string (str n), .slice fa fs.length fc] 204)) wx)
    case first =>
      go_region_with (go_at_call 198; refine (hH _ (by first | exact below_drew hb0 | exact hb0)).mono ?_; rintro e w2 ⟨rfl, hb2⟩)
      all_goals (
        go_wp2_with fail
        go_meet
        exact ⟨rfl, below_undrew hb2⟩)
    case rest =>
      obtain ⟨rfl, hb3⟩ := hcut
      have hb4 := below_trans hb0 hb3
      have y1 := hQ _ hb3
      clear hb3 hQ hB hH
      cases an
      · by_cases h4 : 4 < fs.length
        · have HV : Hid (caseE (cs.take i) cs[i] = 19) := by rw [hid_iff, HE3.out, if_neg (by simp), if_pos h4]
          have h4i : (4 : Int) < (fs.length : Int) := by omega
          clear hA HE3
          go_wp2
          go_ret
          exact ⟨(by rw [HV.out]; rfl), hb4⟩
        · have h4i : ¬ (4 : Int) < (fs.length : Int) := by omega
          have hA2 := hA _ hb4
          clear hA
          go_wp2_with fail
          refine hA2.mono ?_
          rintro e w5 ⟨rfl, hb5⟩
          have hb6 := below_trans hb4 hb5
          clear hA2
          cases al
          · have HV : Hid (caseE (cs.take i) cs[i] = 17) := by rw [hid_iff, HE3.out, if_neg (by simp), if_neg h4, if_neg (by simp)]
            clear HE3
            go_wp2
            go_ret
            exact ⟨(by rw [HV.out]; rfl), hb6⟩
          · have HV : Hid (caseE (cs.take i) cs[i] = 0) := by rw [hid_iff, HE3.out, if_neg (by simp), if_neg h4, if_pos rfl]
            clear HE3
            go_wp2
            go_ret
            exact ⟨(by rw [HV.out]; rfl), hb6⟩
      · have HV : Hid (caseE (cs.take i) cs[i] = 13) := by rw [hid_iff, HE3.out, if_pos rfl]
        clear hA HE3
        go_wp2
        go_ret
        exact ⟨(by rw [HV.out]; rfl), hb4⟩
end Go.Proofs.YtcjddbponknnoaaGreatDoor
