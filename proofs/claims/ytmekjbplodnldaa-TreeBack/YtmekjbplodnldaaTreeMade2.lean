/-
  The statements' 'made' at an Atom and at a Quoted.
-/
import Derived.Test.YtmekjbplodnldaaTreeMadeE
namespace Go.Proofs.Ytmekjbplodnldaa
open Go.RowKit
set_option maxHeartbeats 800000 in
set_option maxRecDepth 1000000 in
theorem made_p0 (d : Nat) (at0 ba n tn c tc' : Nat) (a : Addr) (ta : Option Addr) (zs : List Int) (xs : List ByteArray) (z : Int) (w : World) (hR : MadeR w ba n tn c tc' (some a) ta zs xs) (hat : w.heap[ba]? = some (.cells #[.int .i64 (at0 : Int)] 3 (0, 0))) (h60 : at0 ≤ 60) (hlt : at0 < n) (hzz : zs[at0]? = some z) (hrz : -9223372036854775808 ≤ z ∧ z ≤ 9223372036854775807) (hz : 0 ≤ z) (hc : ((z.toNat) % 3 = 0)) :
    Calls Try.prog 14 #[.slice (some a) n c, .slice ta tn tc', .pointer (some ⟨ba, 0, none⟩), .int .i64 ((d : Int) + 1)] w (MadeE (d + 1) at0 ba w) := by
  have hbl : ba < w.heap.size := (Array.getElem?_eq_some_iff.1 hat).1
  obtain ⟨l1, l2, l3⟩ := hR.l2 a rfl (by omega)
  have q1 := l3 at0 z hzz
  obtain ⟨q0, f0⟩ := one_cell hat
  obtain ⟨N, rfl⟩ : ∃ N : Nat, z = (N : Int) := ⟨z.toNat, by omega⟩
  have sz : ¬ (N : Int) < 0 := by omega
  have hN : (N : Int) ≤ 9223372036854775807 := by omega
  have c3 : N % 3 = 0 := by simpa using hc
  have c3' : (N : Int) % 3 = 0 := by omega
  have s1 : ¬ (n : Int) ≤ (at0 : Int) := by omega
  have s2 : ¬ (d : Int) + 1 ≤ 0 := by omega
  have s3 : (at0 : Int) < (n : Int) := by omega
  have hab : (a.add at0).block ≠ ba := by rw [add_block]; exact l1
  have hal : (a.add at0).block < w.heap.size := by rw [add_block]; exact l2
  have hX : ∀ O, ((w.setCell ⟨ba, 0, none⟩ (.int .i64 ((at0 : Int) + 1))).alloc O).heap[w.heap.size]? = some O := fun O => by
    have := heap_alloc_new (w.setCell ⟨ba, 0, none⟩ (.int .i64 ((at0 : Int) + 1))) O
    rw [show (w.setCell ⟨ba, 0, none⟩ (.int .i64 ((at0 : Int) + 1))).heap.size = w.heap.size from by simp] at this
    exact this
  have hA : (w.setCell ⟨ba, 0, none⟩ (.int .i64 ((at0 : Int) + 1))).heap[ba]? = some (.cells #[.int .i64 ((at0 + 1 : Nat) : Int)] 3 (0, 0)) := heap_setCell_same w ba 0 _ 3 _ hat
  have K1 : Kept (fun b => b = ba) w (w.setCell ⟨ba, 0, none⟩ (.int .i64 ((at0 : Int) + 1))) := (Kept.refl (fun b => b = ba) w).setCell (p := ⟨ba, 0, none⟩) (fun _ => rfl) _
  have hAO : ∀ O, ((w.setCell ⟨ba, 0, none⟩ (.int .i64 ((at0 : Int) + 1))).alloc O).heap[ba]? = some (.cells #[.int .i64 ((at0 + 1 : Nat) : Int)] 3 (0, 0)) := fun O => (Below.heap_alloc _ O ba (by simp; exact hbl)).trans hA
  clear hc
  have h5 : N % 5 = 0 ∨ N % 5 = 1 ∨ N % 5 = 2 ∨ N % 5 = 3 ∨ N % 5 = 4 := by omega
  have hR_sm := hR.sm
  clear hR
  rcases h5 with c5 | c5 | c5 | c5 | c5
  · have c5' : (N : Int) % 5 = 0 := by omega
    go_enter Try.func14, Try.ntmps14
    go_wp2
    (try simp only [Exit.inBlock, Exit.then])
    refine bodyPost_ret (results_cell_row rfl _ _ w.heap.size 32 _ (0, 0) _ rfl ((Below.heap_alloc _ _ _ (by simp)).trans (hX _)) Try.underlying32 rfl sizeRf) rfl ?_
    exact made_leaf (k := 3) (x := [97]) (at1 := at0 + 1) rfl (gd_leaf (.inl ⟨rfl, by simp, by decide⟩) (by simp)) (by omega) (by have := hR_sm; omega) ((Below.heap_alloc _ _ ba (by simp; omega)).trans (hAO _)) ((K1.alloc _).alloc _)
  · have c5' : (N : Int) % 5 = 1 := by omega
    go_enter Try.func14, Try.ntmps14
    go_wp2
    (try simp only [Exit.inBlock, Exit.then])
    refine bodyPost_ret (results_cell_row rfl _ _ w.heap.size 32 _ (0, 0) _ rfl ((Below.heap_alloc _ _ _ (by simp)).trans (hX _)) Try.underlying32 rfl sizeRf) rfl ?_
    exact made_leaf (k := 3) (x := [110, 117, 109]) (at1 := at0 + 1) rfl (gd_leaf (.inl ⟨rfl, by simp, by decide⟩) (by simp)) (by omega) (by have := hR_sm; omega) ((Below.heap_alloc _ _ ba (by simp; omega)).trans (hAO _)) ((K1.alloc _).alloc _)
  · have c5' : (N : Int) % 5 = 2 := by omega
    go_enter Try.func14, Try.ntmps14
    go_wp2
    (try simp only [Exit.inBlock, Exit.then])
    refine bodyPost_ret (results_cell_row rfl _ _ w.heap.size 32 _ (0, 0) _ rfl ((Below.heap_alloc _ _ _ (by simp)).trans (hX _)) Try.underlying32 rfl sizeRf) rfl ?_
    exact made_leaf (k := 3) (x := [51, 105]) (at1 := at0 + 1) rfl (gd_leaf (.inl ⟨rfl, by simp, by decide⟩) (by simp)) (by omega) (by have := hR_sm; omega) ((Below.heap_alloc _ _ ba (by simp; omega)).trans (hAO _)) ((K1.alloc _).alloc _)
  · have c5' : (N : Int) % 5 = 3 := by omega
    go_enter Try.func14, Try.ntmps14
    go_wp2
    (try simp only [Exit.inBlock, Exit.then])
    refine bodyPost_ret (results_cell_row rfl _ _ w.heap.size 32 _ (0, 0) _ rfl ((Below.heap_alloc _ _ _ (by simp)).trans (hX _)) Try.underlying32 rfl sizeRf) rfl ?_
    exact made_leaf (k := 3) (x := [109, 46, 84]) (at1 := at0 + 1) rfl (gd_leaf (.inl ⟨rfl, by simp, by decide⟩) (by simp)) (by omega) (by have := hR_sm; omega) ((Below.heap_alloc _ _ ba (by simp; omega)).trans (hAO _)) ((K1.alloc _).alloc _)
  · have c5' : (N : Int) % 5 = 4 := by omega
    go_enter Try.func14, Try.ntmps14
    go_wp2
    (try simp only [Exit.inBlock, Exit.then])
    refine bodyPost_ret (results_cell_row rfl _ _ w.heap.size 32 _ (0, 0) _ rfl ((Below.heap_alloc _ _ _ (by simp)).trans (hX _)) Try.underlying32 rfl sizeRf) rfl ?_
    exact made_leaf (k := 3) (x := [108, 101, 116]) (at1 := at0 + 1) rfl (gd_leaf (.inl ⟨rfl, by simp, by decide⟩) (by simp)) (by omega) (by have := hR_sm; omega) ((Below.heap_alloc _ _ ba (by simp; omega)).trans (hAO _)) ((K1.alloc _).alloc _)

set_option maxHeartbeats 800000 in
set_option maxRecDepth 1000000 in
theorem made_p1 (d : Nat) (at0 ba n tn c tc' : Nat) (a : Addr) (ta : Option Addr) (zs : List Int) (xs : List ByteArray) (z : Int) (w : World) (hR : MadeR w ba n tn c tc' (some a) ta zs xs) (hat : w.heap[ba]? = some (.cells #[.int .i64 (at0 : Int)] 3 (0, 0))) (h60 : at0 ≤ 60) (hlt : at0 < n) (hzz : zs[at0]? = some z) (hrz : -9223372036854775808 ≤ z ∧ z ≤ 9223372036854775807) (hz : 0 ≤ z) (hc : ((z.toNat) % 3 = 1)) :
    Calls Try.prog 14 #[.slice (some a) n c, .slice ta tn tc', .pointer (some ⟨ba, 0, none⟩), .int .i64 ((d : Int) + 1)] w (MadeE (d + 1) at0 ba w) := by
  have hbl : ba < w.heap.size := (Array.getElem?_eq_some_iff.1 hat).1
  obtain ⟨l1, l2, l3⟩ := hR.l2 a rfl (by omega)
  have q1 := l3 at0 z hzz
  obtain ⟨q0, f0⟩ := one_cell hat
  obtain ⟨N, rfl⟩ : ∃ N : Nat, z = (N : Int) := ⟨z.toNat, by omega⟩
  have sz : ¬ (N : Int) < 0 := by omega
  have hN : (N : Int) ≤ 9223372036854775807 := by omega
  have c3 : N % 3 = 1 := by simpa using hc
  have c3' : (N : Int) % 3 = 1 := by omega
  have s1 : ¬ (n : Int) ≤ (at0 : Int) := by omega
  have s2 : ¬ (d : Int) + 1 ≤ 0 := by omega
  have s3 : (at0 : Int) < (n : Int) := by omega
  have hab : (a.add at0).block ≠ ba := by rw [add_block]; exact l1
  have hal : (a.add at0).block < w.heap.size := by rw [add_block]; exact l2
  have hX : ∀ O, ((w.setCell ⟨ba, 0, none⟩ (.int .i64 ((at0 : Int) + 1))).alloc O).heap[w.heap.size]? = some O := fun O => by
    have := heap_alloc_new (w.setCell ⟨ba, 0, none⟩ (.int .i64 ((at0 : Int) + 1))) O
    rw [show (w.setCell ⟨ba, 0, none⟩ (.int .i64 ((at0 : Int) + 1))).heap.size = w.heap.size from by simp] at this
    exact this
  have hA : (w.setCell ⟨ba, 0, none⟩ (.int .i64 ((at0 : Int) + 1))).heap[ba]? = some (.cells #[.int .i64 ((at0 + 1 : Nat) : Int)] 3 (0, 0)) := heap_setCell_same w ba 0 _ 3 _ hat
  have K1 : Kept (fun b => b = ba) w (w.setCell ⟨ba, 0, none⟩ (.int .i64 ((at0 : Int) + 1))) := (Kept.refl (fun b => b = ba) w).setCell (p := ⟨ba, 0, none⟩) (fun _ => rfl) _
  have hAO : ∀ O, ((w.setCell ⟨ba, 0, none⟩ (.int .i64 ((at0 : Int) + 1))).alloc O).heap[ba]? = some (.cells #[.int .i64 ((at0 + 1 : Nat) : Int)] 3 (0, 0)) := fun O => (Below.heap_alloc _ O ba (by simp; exact hbl)).trans hA
  clear hc
  have hR_sm := hR.sm
  by_cases htn : 0 < tn
  · obtain ⟨b, rfl⟩ := hR.t1 htn
    obtain ⟨t1, t2, t3⟩ := hR.t2 b rfl htn
    have hm : N % tn < xs.length := by rw [hR.n2]; exact Nat.mod_lt _ htn
    have q2 := t3 (N % tn) xs[N % tn] (List.getElem?_eq_getElem hm)
    have q3 := K1.cell q2 (by rw [add_block]; exact t1)
    have q4 := ((Kept.refl (fun _ => False) (w.setCell ⟨ba, 0, none⟩ (.int .i64 ((at0 : Int) + 1)))).alloc (.cells #[.int .i64 0, .int .i64 0, .string ⟨#[]⟩, .slice none 0 0] 32)).cell q3 (fun h => h)
    have htn' : (0 : Int) < (tn : Int) := by omega
    have htn0 : ((tn : Int) == 0) = false := by rw [beq_eq_false_iff_ne]; omega
    have hmi : (N : Int) % (tn : Int) < (tn : Int) := Int.emod_lt_of_pos _ htn'
    have hm0 : (0 : Int) ≤ (N : Int) % (tn : Int) := Int.emod_nonneg _ (by omega)
    have htm := hR.tm
    generalize xs[N % tn] = sx at *
    clear hR t3 q2
    by_cases h40 : 40 < sx.size
    · have h40' : (40 : Int) < (sx.size : Int) := by omega
      have hex := extract_str sx 0 40
      have hgd : Gd (d + 1) (leafOf 4 ((sx.data.toList.drop 0).take (40 - 0))) := gd_leaf (.inr rfl) (by simp; omega)
      go_enter Try.func14, Try.ntmps14
      go_wp2
      (try simp only [Exit.inBlock, Exit.then])
      refine bodyPost_ret (results_cell_row rfl _ _ w.heap.size 32 _ (0, 0) _ rfl (hX _) Try.underlying32 rfl sizeRf) rfl ?_
      exact made_leaf (k := 4) (x := (sx.data.toList.drop 0).take (40 - 0)) (at1 := at0 + 1) (by first | rw [← hex]; rfl | (rw [hex]; rfl) | rfl) hgd (by omega) (by omega) (hAO _) (K1.alloc _)
    · have h40' : ¬ (40 : Int) < (sx.size : Int) := by omega
      have hgd : Gd (d + 1) (leafOf 4 sx.data.toList) := gd_leaf (.inr rfl) (by rw [size_len]; omega)
      go_enter Try.func14, Try.ntmps14
      go_wp2
      (try simp only [Exit.inBlock, Exit.then])
      refine bodyPost_ret (results_cell_row rfl _ _ w.heap.size 32 _ (0, 0) _ rfl (hX _) Try.underlying32 rfl sizeRf) rfl ?_
      exact made_leaf (k := 4) (x := sx.data.toList) (at1 := at0 + 1) (by first | rw [str_toList]; rfl | rfl) hgd (by omega) (by omega) (hAO _) (K1.alloc _)
  · have htn' : ¬ (0 : Int) < (tn : Int) := by omega
    have hgd : Gd (d + 1) (leafOf 4 [113]) := gd_leaf (.inr rfl) (by simp)
    clear hR
    go_enter Try.func14, Try.ntmps14
    go_wp2
    (try simp only [Exit.inBlock, Exit.then])
    refine bodyPost_ret (results_cell_row rfl _ _ w.heap.size 32 _ (0, 0) _ rfl (hX _) Try.underlying32 rfl sizeRf) rfl ?_
    exact made_leaf (k := 4) (x := [113]) (at1 := at0 + 1) rfl hgd (by omega) (by omega) (hAO _) (K1.alloc _)

set_option maxHeartbeats 800000 in
set_option maxRecDepth 1000000 in
theorem made_n0 (d : Nat) (at0 ba n tn c tc' : Nat) (a : Addr) (ta : Option Addr) (zs : List Int) (xs : List ByteArray) (z : Int) (w : World) (hR : MadeR w ba n tn c tc' (some a) ta zs xs) (hat : w.heap[ba]? = some (.cells #[.int .i64 (at0 : Int)] 3 (0, 0))) (h60 : at0 ≤ 60) (hlt : at0 < n) (hzz : zs[at0]? = some z) (hrz : -9223372036854775808 ≤ z ∧ z ≤ 9223372036854775807) (hz : z < 0) (hc : ((-(z + 1)).toNat % 3 = 0)) :
    Calls Try.prog 14 #[.slice (some a) n c, .slice ta tn tc', .pointer (some ⟨ba, 0, none⟩), .int .i64 ((d : Int) + 1)] w (MadeE (d + 1) at0 ba w) := by
  have hbl : ba < w.heap.size := (Array.getElem?_eq_some_iff.1 hat).1
  obtain ⟨l1, l2, l3⟩ := hR.l2 a rfl (by omega)
  have q1 := l3 at0 z hzz
  obtain ⟨q0, f0⟩ := one_cell hat
  obtain ⟨N, hNz⟩ : ∃ N : Nat, -(z + 1) = (N : Int) := ⟨(-(z + 1)).toNat, by omega⟩
  have sz : z < 0 := hz
  have hN : (N : Int) ≤ 9223372036854775807 := by omega
  have hNt : (-(z + 1)).toNat = N := by omega
  have c3 : N % 3 = 0 := by rw [hNt] at hc; exact hc
  have c3' : (N : Int) % 3 = 0 := by omega
  have s1 : ¬ (n : Int) ≤ (at0 : Int) := by omega
  have s2 : ¬ (d : Int) + 1 ≤ 0 := by omega
  have s3 : (at0 : Int) < (n : Int) := by omega
  have hab : (a.add at0).block ≠ ba := by rw [add_block]; exact l1
  have hal : (a.add at0).block < w.heap.size := by rw [add_block]; exact l2
  have hX : ∀ O, ((w.setCell ⟨ba, 0, none⟩ (.int .i64 ((at0 : Int) + 1))).alloc O).heap[w.heap.size]? = some O := fun O => by
    have := heap_alloc_new (w.setCell ⟨ba, 0, none⟩ (.int .i64 ((at0 : Int) + 1))) O
    rw [show (w.setCell ⟨ba, 0, none⟩ (.int .i64 ((at0 : Int) + 1))).heap.size = w.heap.size from by simp] at this
    exact this
  have hA : (w.setCell ⟨ba, 0, none⟩ (.int .i64 ((at0 : Int) + 1))).heap[ba]? = some (.cells #[.int .i64 ((at0 + 1 : Nat) : Int)] 3 (0, 0)) := heap_setCell_same w ba 0 _ 3 _ hat
  have K1 : Kept (fun b => b = ba) w (w.setCell ⟨ba, 0, none⟩ (.int .i64 ((at0 : Int) + 1))) := (Kept.refl (fun b => b = ba) w).setCell (p := ⟨ba, 0, none⟩) (fun _ => rfl) _
  have hAO : ∀ O, ((w.setCell ⟨ba, 0, none⟩ (.int .i64 ((at0 : Int) + 1))).alloc O).heap[ba]? = some (.cells #[.int .i64 ((at0 + 1 : Nat) : Int)] 3 (0, 0)) := fun O => (Below.heap_alloc _ O ba (by simp; exact hbl)).trans hA
  clear hc
  have h5 : N % 5 = 0 ∨ N % 5 = 1 ∨ N % 5 = 2 ∨ N % 5 = 3 ∨ N % 5 = 4 := by omega
  have hR_sm := hR.sm
  clear hR
  rcases h5 with c5 | c5 | c5 | c5 | c5
  · have c5' : (N : Int) % 5 = 0 := by omega
    go_enter Try.func14, Try.ntmps14
    go_wp2
    (try simp only [Exit.inBlock, Exit.then])
    refine bodyPost_ret (results_cell_row rfl _ _ w.heap.size 32 _ (0, 0) _ rfl ((Below.heap_alloc _ _ _ (by simp)).trans (hX _)) Try.underlying32 rfl sizeRf) rfl ?_
    exact made_leaf (k := 3) (x := [97]) (at1 := at0 + 1) rfl (gd_leaf (.inl ⟨rfl, by simp, by decide⟩) (by simp)) (by omega) (by have := hR_sm; omega) ((Below.heap_alloc _ _ ba (by simp; omega)).trans (hAO _)) ((K1.alloc _).alloc _)
  · have c5' : (N : Int) % 5 = 1 := by omega
    go_enter Try.func14, Try.ntmps14
    go_wp2
    (try simp only [Exit.inBlock, Exit.then])
    refine bodyPost_ret (results_cell_row rfl _ _ w.heap.size 32 _ (0, 0) _ rfl ((Below.heap_alloc _ _ _ (by simp)).trans (hX _)) Try.underlying32 rfl sizeRf) rfl ?_
    exact made_leaf (k := 3) (x := [110, 117, 109]) (at1 := at0 + 1) rfl (gd_leaf (.inl ⟨rfl, by simp, by decide⟩) (by simp)) (by omega) (by have := hR_sm; omega) ((Below.heap_alloc _ _ ba (by simp; omega)).trans (hAO _)) ((K1.alloc _).alloc _)
  · have c5' : (N : Int) % 5 = 2 := by omega
    go_enter Try.func14, Try.ntmps14
    go_wp2
    (try simp only [Exit.inBlock, Exit.then])
    refine bodyPost_ret (results_cell_row rfl _ _ w.heap.size 32 _ (0, 0) _ rfl ((Below.heap_alloc _ _ _ (by simp)).trans (hX _)) Try.underlying32 rfl sizeRf) rfl ?_
    exact made_leaf (k := 3) (x := [51, 105]) (at1 := at0 + 1) rfl (gd_leaf (.inl ⟨rfl, by simp, by decide⟩) (by simp)) (by omega) (by have := hR_sm; omega) ((Below.heap_alloc _ _ ba (by simp; omega)).trans (hAO _)) ((K1.alloc _).alloc _)
  · have c5' : (N : Int) % 5 = 3 := by omega
    go_enter Try.func14, Try.ntmps14
    go_wp2
    (try simp only [Exit.inBlock, Exit.then])
    refine bodyPost_ret (results_cell_row rfl _ _ w.heap.size 32 _ (0, 0) _ rfl ((Below.heap_alloc _ _ _ (by simp)).trans (hX _)) Try.underlying32 rfl sizeRf) rfl ?_
    exact made_leaf (k := 3) (x := [109, 46, 84]) (at1 := at0 + 1) rfl (gd_leaf (.inl ⟨rfl, by simp, by decide⟩) (by simp)) (by omega) (by have := hR_sm; omega) ((Below.heap_alloc _ _ ba (by simp; omega)).trans (hAO _)) ((K1.alloc _).alloc _)
  · have c5' : (N : Int) % 5 = 4 := by omega
    go_enter Try.func14, Try.ntmps14
    go_wp2
    (try simp only [Exit.inBlock, Exit.then])
    refine bodyPost_ret (results_cell_row rfl _ _ w.heap.size 32 _ (0, 0) _ rfl ((Below.heap_alloc _ _ _ (by simp)).trans (hX _)) Try.underlying32 rfl sizeRf) rfl ?_
    exact made_leaf (k := 3) (x := [108, 101, 116]) (at1 := at0 + 1) rfl (gd_leaf (.inl ⟨rfl, by simp, by decide⟩) (by simp)) (by omega) (by have := hR_sm; omega) ((Below.heap_alloc _ _ ba (by simp; omega)).trans (hAO _)) ((K1.alloc _).alloc _)

set_option maxHeartbeats 800000 in
set_option maxRecDepth 1000000 in
theorem made_n1 (d : Nat) (at0 ba n tn c tc' : Nat) (a : Addr) (ta : Option Addr) (zs : List Int) (xs : List ByteArray) (z : Int) (w : World) (hR : MadeR w ba n tn c tc' (some a) ta zs xs) (hat : w.heap[ba]? = some (.cells #[.int .i64 (at0 : Int)] 3 (0, 0))) (h60 : at0 ≤ 60) (hlt : at0 < n) (hzz : zs[at0]? = some z) (hrz : -9223372036854775808 ≤ z ∧ z ≤ 9223372036854775807) (hz : z < 0) (hc : ((-(z + 1)).toNat % 3 = 1)) :
    Calls Try.prog 14 #[.slice (some a) n c, .slice ta tn tc', .pointer (some ⟨ba, 0, none⟩), .int .i64 ((d : Int) + 1)] w (MadeE (d + 1) at0 ba w) := by
  have hbl : ba < w.heap.size := (Array.getElem?_eq_some_iff.1 hat).1
  obtain ⟨l1, l2, l3⟩ := hR.l2 a rfl (by omega)
  have q1 := l3 at0 z hzz
  obtain ⟨q0, f0⟩ := one_cell hat
  obtain ⟨N, hNz⟩ : ∃ N : Nat, -(z + 1) = (N : Int) := ⟨(-(z + 1)).toNat, by omega⟩
  have sz : z < 0 := hz
  have hN : (N : Int) ≤ 9223372036854775807 := by omega
  have hNt : (-(z + 1)).toNat = N := by omega
  have c3 : N % 3 = 1 := by rw [hNt] at hc; exact hc
  have c3' : (N : Int) % 3 = 1 := by omega
  have s1 : ¬ (n : Int) ≤ (at0 : Int) := by omega
  have s2 : ¬ (d : Int) + 1 ≤ 0 := by omega
  have s3 : (at0 : Int) < (n : Int) := by omega
  have hab : (a.add at0).block ≠ ba := by rw [add_block]; exact l1
  have hal : (a.add at0).block < w.heap.size := by rw [add_block]; exact l2
  have hX : ∀ O, ((w.setCell ⟨ba, 0, none⟩ (.int .i64 ((at0 : Int) + 1))).alloc O).heap[w.heap.size]? = some O := fun O => by
    have := heap_alloc_new (w.setCell ⟨ba, 0, none⟩ (.int .i64 ((at0 : Int) + 1))) O
    rw [show (w.setCell ⟨ba, 0, none⟩ (.int .i64 ((at0 : Int) + 1))).heap.size = w.heap.size from by simp] at this
    exact this
  have hA : (w.setCell ⟨ba, 0, none⟩ (.int .i64 ((at0 : Int) + 1))).heap[ba]? = some (.cells #[.int .i64 ((at0 + 1 : Nat) : Int)] 3 (0, 0)) := heap_setCell_same w ba 0 _ 3 _ hat
  have K1 : Kept (fun b => b = ba) w (w.setCell ⟨ba, 0, none⟩ (.int .i64 ((at0 : Int) + 1))) := (Kept.refl (fun b => b = ba) w).setCell (p := ⟨ba, 0, none⟩) (fun _ => rfl) _
  have hAO : ∀ O, ((w.setCell ⟨ba, 0, none⟩ (.int .i64 ((at0 : Int) + 1))).alloc O).heap[ba]? = some (.cells #[.int .i64 ((at0 + 1 : Nat) : Int)] 3 (0, 0)) := fun O => (Below.heap_alloc _ O ba (by simp; exact hbl)).trans hA
  clear hc
  have hR_sm := hR.sm
  by_cases htn : 0 < tn
  · obtain ⟨b, rfl⟩ := hR.t1 htn
    obtain ⟨t1, t2, t3⟩ := hR.t2 b rfl htn
    have hm : N % tn < xs.length := by rw [hR.n2]; exact Nat.mod_lt _ htn
    have q2 := t3 (N % tn) xs[N % tn] (List.getElem?_eq_getElem hm)
    have q3 := K1.cell q2 (by rw [add_block]; exact t1)
    have q4 := ((Kept.refl (fun _ => False) (w.setCell ⟨ba, 0, none⟩ (.int .i64 ((at0 : Int) + 1)))).alloc (.cells #[.int .i64 0, .int .i64 0, .string ⟨#[]⟩, .slice none 0 0] 32)).cell q3 (fun h => h)
    have htn' : (0 : Int) < (tn : Int) := by omega
    have htn0 : ((tn : Int) == 0) = false := by rw [beq_eq_false_iff_ne]; omega
    have hmi : (N : Int) % (tn : Int) < (tn : Int) := Int.emod_lt_of_pos _ htn'
    have hm0 : (0 : Int) ≤ (N : Int) % (tn : Int) := Int.emod_nonneg _ (by omega)
    have htm := hR.tm
    generalize xs[N % tn] = sx at *
    clear hR t3 q2
    by_cases h40 : 40 < sx.size
    · have h40' : (40 : Int) < (sx.size : Int) := by omega
      have hex := extract_str sx 0 40
      have hgd : Gd (d + 1) (leafOf 4 ((sx.data.toList.drop 0).take (40 - 0))) := gd_leaf (.inr rfl) (by simp; omega)
      go_enter Try.func14, Try.ntmps14
      go_wp2
      (try simp only [Exit.inBlock, Exit.then])
      refine bodyPost_ret (results_cell_row rfl _ _ w.heap.size 32 _ (0, 0) _ rfl (hX _) Try.underlying32 rfl sizeRf) rfl ?_
      exact made_leaf (k := 4) (x := (sx.data.toList.drop 0).take (40 - 0)) (at1 := at0 + 1) (by first | rw [← hex]; rfl | (rw [hex]; rfl) | rfl) hgd (by omega) (by omega) (hAO _) (K1.alloc _)
    · have h40' : ¬ (40 : Int) < (sx.size : Int) := by omega
      have hgd : Gd (d + 1) (leafOf 4 sx.data.toList) := gd_leaf (.inr rfl) (by rw [size_len]; omega)
      go_enter Try.func14, Try.ntmps14
      go_wp2
      (try simp only [Exit.inBlock, Exit.then])
      refine bodyPost_ret (results_cell_row rfl _ _ w.heap.size 32 _ (0, 0) _ rfl (hX _) Try.underlying32 rfl sizeRf) rfl ?_
      exact made_leaf (k := 4) (x := sx.data.toList) (at1 := at0 + 1) (by first | rw [str_toList]; rfl | rfl) hgd (by omega) (by omega) (hAO _) (K1.alloc _)
  · have htn' : ¬ (0 : Int) < (tn : Int) := by omega
    have hgd : Gd (d + 1) (leafOf 4 [113]) := gd_leaf (.inr rfl) (by simp)
    clear hR
    go_enter Try.func14, Try.ntmps14
    go_wp2
    (try simp only [Exit.inBlock, Exit.then])
    refine bodyPost_ret (results_cell_row rfl _ _ w.heap.size 32 _ (0, 0) _ rfl (hX _) Try.underlying32 rfl sizeRf) rfl ?_
    exact made_leaf (k := 4) (x := [113]) (at1 := at0 + 1) rfl hgd (by omega) (by omega) (hAO _) (K1.alloc _)

end Go.Proofs.Ytmekjbplodnldaa
