/-
  The walk of the law VerifyJoins.
-/
import Derived.Test.YtdeckknfolaaeaaGreatDoorG47
import Derived.Test.YtdeckknfolaaeaaGreatDoorVerJoinSZ
import Derived.BigQuiet
import Derived.Deep.QuietTactic
namespace Go.Proofs.YtdeckknfolaaeaaGreatDoor
open Go.RowKit Go.Maps

def BoolJ (w : World) (e : Ending) (w' : World) : Prop := e = .returned (.bool true) ∧ Below w.heap.size w w'
theorem within4 (n : Int) : ∃ x : UInt8, n % ((3 : Nat) + 1 : Int) = ((x.toNat : Nat) : Int) ∧ x.toNat < 4 := by
  have h1 := Int.emod_nonneg n (show ((3 : Nat) : Int) + 1 ≠ 0 by omega)
  have h2 := Int.emod_lt_of_pos n (show (0 : Int) < ((3 : Nat) : Int) + 1 by omega)
  have e : (UInt8.ofNat (n % ((3 : Nat) + 1 : Int)).toNat).toNat = (n % ((3 : Nat) + 1 : Int)).toNat := by
    rw [UInt8.toNat_ofNat']
    omega
  exact ⟨UInt8.ofNat (n % ((3 : Nat) + 1 : Int)).toNat, by rw [e]; omega, by rw [e]; omega⟩
theorem wrap4 {x : UInt8} (h : x.toNat < 4) : IntKind.u8.wrap ((x.toNat : Nat) : Int) = ((x.toNat : Nat) : Int) := by
  have : ∀ k : Nat, k < 4 → IntKind.u8.wrap ((k : Nat) : Int) = ((k : Nat) : Int) := by decide
  exact this _ h
set_option maxRecDepth 1000000 in
set_option maxHeartbeats 4000000 in
theorem joins_walk (n1 n2 : Int) (o : Bool) (h1 : -9223372036854775808 ≤ n1) (h1' : n1 ≤ 9223372036854775807) (h2 : -9223372036854775808 ≤ n2) (h2' : n2 ≤ 9223372036854775807) (w : World) : Calls Tryz.prog 8 #[.int .i64 n1, .int .i64 n2, .bool o] w (BoolJ w) := by
  have hwi1 := withinQ n1 3 h1 h1' (by omega) w
  have hwi2 := withinQ n2 3 h2 h2' (by omega) w
  obtain ⟨x, hx, hx4⟩ := within4 n1
  obtain ⟨y, hy, hy4⟩ := within4 n2
  rw [hx] at hwi1
  rw [hy] at hwi2
  unfold Pu at hwi1 hwi2
  have hwx := wrap4 hx4
  have hwy := wrap4 hy4
  have hok := joinsAt hx4 hy4 o
  simp only [joinOk, Bool.and_eq_true, decide_eq_true_eq] at hok
  obtain ⟨hk1, hk2⟩ := hok
  have HK1 := hidden hk1
  have HK2 := hidden hk2
  have HKN := hidden (fun u => known15 u)
  have hb : ∀ (x : World) (o : Obj), Below x.heap.size x (x.alloc o) := fun x o => (Below.refl _ x).alloc (Nat.le_refl _) _
  have HAb := hidden hb
  have HX4 := hidden hx4
  have HY4 := hidden hy4
  clear hk1 hk2 hx hy h1 h1' h2 h2' hx4 hy4 hb
  go_enter Tryz.func8, Tryz.ntmps8
  go_wp2_with fail
  refine hwi1.mono ?_
  rintro e w2 ⟨rfl, hw2⟩
  obtain rfl := hw2.symm
  clear hwi1
  go_wp2_with fail
  refine hwi2.mono ?_
  rintro e w2 ⟨rfl, hw2⟩
  obtain rfl := hw2.symm
  clear hwi2
  cases o
  · have hz1 : (w.alloc (.cells #[.int .u8 1, .int .u8 2, .int .u8 0] 5)).heap.size = w.heap.size + 1 := by simp
    have hn1 := World.alloc_heap_new (w.alloc (.cells #[.int .u8 1, .int .u8 2, .int .u8 0] 5)) (.cells #[.int .u8 1, .int .u8 2, .int .u8 0, .int .u8 6, .int .u8 0, .int .u8 8, .int .u8 1, .int .u8 2, .int .u8 0, .int .u8 4, .int .u8 ((x.toNat : Nat) : Int), .int .u8 5, .int .u8 0, .int .u8 5] 5)
    rw [hz1] at hn1
    have hW0 : Below w.heap.size w ((w.alloc (.cells #[.int .u8 1, .int .u8 2, .int .u8 0] 5)).alloc (.cells #[.int .u8 1, .int .u8 2, .int .u8 0, .int .u8 6, .int .u8 0, .int .u8 8, .int .u8 1, .int .u8 2, .int .u8 0, .int .u8 4, .int .u8 ((x.toNat : Nat) : Int), .int .u8 5, .int .u8 0, .int .u8 5] 5)) := ((Below.refl _ w).alloc (Nat.le_refl _) _).alloc (by simp) _
    have hq : ((w.alloc (.cells #[.int .u8 1, .int .u8 2, .int .u8 0] 5)).alloc (.cells #[.int .u8 1, .int .u8 2, .int .u8 0, .int .u8 6, .int .u8 0, .int .u8 8, .int .u8 1, .int .u8 2, .int .u8 0, .int .u8 4, .int .u8 ((x.toNat : Nat) : Int), .int .u8 5, .int .u8 0, .int .u8 5] 5)).heap[w.heap.size]? = some (.cells #[.int .u8 1, .int .u8 2, .int .u8 0] 5 (0, 0)) := (Below.heap_alloc _ _ _ (by simp)).trans (by
      have := World.alloc_heap_new w (.cells #[.int .u8 1, .int .u8 2, .int .u8 0] 5)
      simpa using this)
    have hown : ((w.alloc (.cells #[.int .u8 1, .int .u8 2, .int .u8 0] 5)).alloc (.cells #[.int .u8 1, .int .u8 2, .int .u8 0, .int .u8 6, .int .u8 0, .int .u8 8, .int .u8 1, .int .u8 2, .int .u8 0, .int .u8 4, .int .u8 ((x.toNat : Nat) : Int), .int .u8 5, .int .u8 0, .int .u8 5] 5)).ownsRow w.heap.size 5 1 (.slice (some ⟨w.heap.size + 1, 0, none⟩) 14 14) 14 (bc [1, 2, 0, 6, 0, 8, 1, 2, 0, 4, x, 5, 0, 5]) := ⟨rfl, .inr ⟨w.heap.size + 1, 14, #[.int .u8 1, .int .u8 2, .int .u8 0, .int .u8 6, .int .u8 0, .int .u8 8, .int .u8 1, .int .u8 2, .int .u8 0, .int .u8 4, .int .u8 ((x.toNat : Nat) : Int), .int .u8 5, .int .u8 0, .int .u8 5], rfl, by omega, hn1, Nat.le_refl _, by unfold maxLen; omega, rfl, rfl⟩⟩
    have hqc : ∀ j u, (bc [1, 2, 0])[j]? = some u → ((w.alloc (.cells #[.int .u8 1, .int .u8 2, .int .u8 0] 5)).alloc (.cells #[.int .u8 1, .int .u8 2, .int .u8 0, .int .u8 6, .int .u8 0, .int .u8 8, .int .u8 1, .int .u8 2, .int .u8 0, .int .u8 4, .int .u8 ((x.toNat : Nat) : Int), .int .u8 5, .int .u8 0, .int .u8 5] 5)).cell? ((⟨w.heap.size, 0, none⟩ : Addr).add j) = some u := fun j u hj => by
      rw [add_at, cell_of_row _ _ _ _ _ _ hq]
      show (bc [1, 2, 0]).toArray[j]? = some u
      rw [List.getElem?_toArray]
      exact hj
    have HOW := hidden hown
    have HQC := hidden hqc
    have HW0 := hidden hW0
    clear hown hqc hW0 hq hn1 hz1
    go_wp2_with (at_builtin; refine append_bytes rfl (.tmp 26) (.tmp 27) rfl w.heap.size _ [1, 2, 0, 6, 0, 8, 1, 2, 0, 4, x, 5, 0, 5] rfl HOW.out ⟨w.heap.size, 0, none⟩ 3 [1, 2, 0] (by simp) rfl HQC.out (by simp) HW0.out.size ?_)
    intro ad1 c1 w3 ho3 hg3
    have ho3' : w3.ownsRow w.heap.size 5 1 (.slice (some ad1) 17 c1) 17 (bc ([1, 2, 0, 6, 0, 8, 1, 2, 0, 4, x, 5, 0, 5] ++ [1, 2, 0])) := ho3
    have HB3 : Hid (Below w.heap.size w w3) := below_grown HOW.out HW0.out.size HW0.out hg3
    have HO3 := hidden ho3'
    have HB3a : Hid (Below w3.heap.size w3 (w3.alloc (.cells #[.int .u8 4, .int .u8 ((y.toNat : Nat) : Int), .int .u8 3, .int .u8 ((x.toNat : Nat) : Int), .int .u8 15] 5))) := HAb.out _ _
    clear ho3 hg3 ho3'
    go_wp2_with (at_builtin; refine append_bytes rfl (.tmp 28) (.tmp 31) rfl w.heap.size _ ([1, 2, 0, 6, 0, 8, 1, 2, 0, 4, x, 5, 0, 5] ++ [1, 2, 0]) rfl (HO3.out.alloc _) ⟨w3.heap.size, 0, none⟩ 5 [4, y, 3, x, 15] (by simp) rfl (cells_new w3 (bc [4, y, 3, x, 15]) 5) (by simp) (by have := HB3.out.size; simp; omega) ?_)
    intro ad2 c2 w4 ho4 hg4
    have ho4' : w4.ownsRow w.heap.size 5 1 (.slice (some ad2) 22 c2) 22 (bc (joinB x y false)) := ho4
    have HB4 : Hid (Below w.heap.size w w4) := below_grown (HO3.out.alloc _) (by have := HB3.out.size; rw [World.size_alloc]; omega) (HB3.out.trans (HB3a.out.mono HB3.out.size)) hg4
    have HO4 := hidden ho4'
    have hsm := vsmall ⟨#[110, 117, 109]⟩ (some ad2) 22 c2 w4
    unfold SmE smV at hsm
    clear ho4 hg4 ho4'
    go_wp2_with fail
    refine hsm.mono ?_
    rintro e w5 ⟨fb, eb, rfl, h1, h2, h3, h4, h5, h6⟩
    have HB5 : Hid (Below w.heap.size w w5) := HB4.out.trans (h6.mono HB4.out.size)
    have hlf : fb < w5.heap.size := (Array.getElem?_eq_some_iff.1 h4).1
    have hle : eb < w5.heap.size := (Array.getElem?_eq_some_iff.1 h5).1
    have hz45 := HB4.out.size
    have hc5 : w5.cell? ⟨fb, 4, none⟩ = some (.int .i64 1) := by rw [cell_of_row _ _ 4 _ _ _ h4]; rfl
    have hf5 := frozen_of_row w5 fb 4 _ _ h4
    have hzs : (w5.setCell ⟨fb, 4, none⟩ (.int .i64 4)).heap.size = w5.heap.size := by simp
    have hb7 : Below w.heap.size w ((w5.setCell ⟨fb, 4, none⟩ (.int .i64 4)).alloc (.cells #[.string ⟨#[109]⟩, .slice none 0 0, .slice none 0 0, .slice none 0 0, .slice (some ⟨fb, 0, none⟩) 1 1, .slice (some ⟨eb, 0, none⟩) 1 1, .slice none 0 0, .slice none 0 0] 31)) := (HB5.out.setCell (p := ⟨fb, 4, none⟩) (by show w.heap.size ≤ fb; omega) _).alloc (by rw [hzs]; exact HB5.out.size) _
    have hx7 := World.alloc_heap_new (w5.setCell ⟨fb, 4, none⟩ (.int .i64 4)) (.cells #[.string ⟨#[109]⟩, .slice none 0 0, .slice none 0 0, .slice none 0 0, .slice (some ⟨fb, 0, none⟩) 1 1, .slice (some ⟨eb, 0, none⟩) 1 1, .slice none 0 0, .slice none 0 0] 31)
    rw [hzs] at hx7
    have hfb7 : ((w5.setCell ⟨fb, 4, none⟩ (.int .i64 4)).alloc (.cells #[.string ⟨#[109]⟩, .slice none 0 0, .slice none 0 0, .slice none 0 0, .slice (some ⟨fb, 0, none⟩) 1 1, .slice (some ⟨eb, 0, none⟩) 1 1, .slice none 0 0, .slice none 0 0] 31)).heap[fb]? = some (.cells (smC ⟨#[110, 117, 109]⟩ 4 (.slice (some ad2) 22 c2)) 63 (0, 0)) := (Below.heap_alloc _ _ _ (by rw [hzs]; exact hlf)).trans (heap_setCell_same w5 fb 4 _ _ (.int .i64 4) h4)
    have heb7 : ((w5.setCell ⟨fb, 4, none⟩ (.int .i64 4)).alloc (.cells #[.string ⟨#[109]⟩, .slice none 0 0, .slice none 0 0, .slice none 0 0, .slice (some ⟨fb, 0, none⟩) 1 1, .slice (some ⟨eb, 0, none⟩) 1 1, .slice none 0 0, .slice none 0 0] 31)).heap[eb]? = some (.cells #[.string ⟨#[102]⟩] 9 (0, 0)) := (Below.heap_alloc _ _ _ (by rw [hzs]; exact hle)).trans ((Below.heap_setCell _ _ _ _ (by simpa using fun e : eb = fb => h3 e.symm)).trans h5)
    have ho7 : ((w5.setCell ⟨fb, 4, none⟩ (.int .i64 4)).alloc (.cells #[.string ⟨#[109]⟩, .slice none 0 0, .slice none 0 0, .slice none 0 0, .slice (some ⟨fb, 0, none⟩) 1 1, .slice (some ⟨eb, 0, none⟩) 1 1, .slice none 0 0, .slice none 0 0] 31)).ownsRow w.heap.size 5 1 (.slice (some ad2) 22 c2) 22 (bc (joinB x y false)) := owns_same HO4.out fun g hg => by
      have hgl := (HO4.out.lt g hg).2
      exact (Below.heap_alloc _ _ _ (by rw [hzs]; have := h6.size; omega)).trans ((Below.heap_setCell _ _ _ _ (by simp; omega)).trans (h6.block g hgl))
    have hz7 : ((w5.setCell ⟨fb, 4, none⟩ (.int .i64 4)).alloc (.cells #[.string ⟨#[109]⟩, .slice none 0 0, .slice none 0 0, .slice none 0 0, .slice (some ⟨fb, 0, none⟩) 1 1, .slice (some ⟨eb, 0, none⟩) 1 1, .slice none 0 0, .slice none 0 0] 31)).heap.size = w5.heap.size + 1 := by rw [World.size_alloc, hzs]
    obtain ⟨q, hqv⟩ : ∃ q, q = objV oth0 (fS numT 4 (joinB x y false)) := ⟨_, rfl⟩
    have hrun := vrun (F := fun g => w.heap.size ≤ g ∧ g < w5.heap.size + 1) (res := numT) (code := joinB x y false) (r := q) hfb7 heb7 rfl ⟨by omega, by omega⟩ ⟨by omega, by omega⟩ (byR_own (B := w.heap.size) ho7 (fun g h1 h2 => ⟨h1, by rw [hz7] at h2; exact h2⟩)) (fun g hg => by rw [hz7]; exact hg.2) (by decide) (by omega) HK1.out hqv.symm
    unfold ThreeI smV at hrun
    have hq1 : q.1 = (if x = y ∧ false = false then 0 else 21) := by rw [hqv]; simpa using HK2.out
    have HQ1 := hidden hq1
    have HB7 := hidden hb7
    clear hsm h1 h2 h3 h4 h5 h6 hqv hq1 hb7 hfb7 heb7 ho7 hz7 hzs
    go_wp2_with (refine wpList_load_row rfl 31 (.tmp 11) rfl w5.heap.size rfl 31 #[.string ⟨#[109]⟩, .slice none 0 0, .slice none 0 0, .slice none 0 0, .slice (some ⟨fb, 0, none⟩) 1 1, .slice (some ⟨eb, 0, none⟩) 1 1, .slice none 0 0, .slice none 0 0] (0, 0) _ hx7 Tryz.underlying31 rfl sizeOb15 ?_)
    refine hrun.mono ?_
    rintro e w8 ⟨rfl, hb8⟩
    have HB8 : Hid (Below w.heap.size w w8) := HB7.out.trans (hb8.mono HB7.out.size)
    clear hrun hb8 hx7 hc5 hf5
    have hxy : (((x.toNat : Nat) : Int) == ((y.toNat : Nat) : Int)) = decide (x = y) := by
      by_cases e : x = y
      · rw [decide_eq_true e, e]
        simp
      · rw [decide_eq_false e, beq_eq_false_iff_ne]
        intro h
        exact e (UInt8.toNat_inj.1 (by omega))
    generalize q.2 = q2
    obtain ⟨q1, hq⟩ : ∃ q1, q1 = q.1 := ⟨_, rfl⟩
    rw [← hq] at HQ1 ⊢
    clear hq
    by_cases e : x = y
    · have hv : q1 = 0 := by rw [HQ1.out]; simp [e]
      rw [decide_eq_true e] at hxy
      subst hv
      clear e
      go_wp2_with (go_at_call 13; refine (HKN.out _).mono ?_; rintro e w9 ⟨rfl, hb9⟩)
      go_ret
      exact ⟨rfl, HB8.out.trans (hb9.mono HB8.out.size)⟩
    · have hv : q1 = 21 := by rw [HQ1.out]; simp [e]
      rw [decide_eq_false e] at hxy
      subst hv
      clear e
      go_wp2_with (go_at_call 13; refine (HKN.out _).mono ?_; rintro e w9 ⟨rfl, hb9⟩)
      go_ret
      exact ⟨rfl, HB8.out.trans (hb9.mono HB8.out.size)⟩
  · have hz1 : ((w.alloc (.cells #[.int .u8 1, .int .u8 2, .int .u8 0] 5)).alloc (.cells #[.int .u8 2, .int .u8 1, .int .u8 120] 5)).heap.size = w.heap.size + 2 := by simp
    have hn1 := World.alloc_heap_new ((w.alloc (.cells #[.int .u8 1, .int .u8 2, .int .u8 0] 5)).alloc (.cells #[.int .u8 2, .int .u8 1, .int .u8 120] 5)) (.cells #[.int .u8 1, .int .u8 2, .int .u8 0, .int .u8 6, .int .u8 0, .int .u8 8, .int .u8 1, .int .u8 2, .int .u8 0, .int .u8 4, .int .u8 ((x.toNat : Nat) : Int), .int .u8 5, .int .u8 0, .int .u8 5] 5)
    rw [hz1] at hn1
    have hW0 : Below w.heap.size w (((w.alloc (.cells #[.int .u8 1, .int .u8 2, .int .u8 0] 5)).alloc (.cells #[.int .u8 2, .int .u8 1, .int .u8 120] 5)).alloc (.cells #[.int .u8 1, .int .u8 2, .int .u8 0, .int .u8 6, .int .u8 0, .int .u8 8, .int .u8 1, .int .u8 2, .int .u8 0, .int .u8 4, .int .u8 ((x.toNat : Nat) : Int), .int .u8 5, .int .u8 0, .int .u8 5] 5)) := (((Below.refl _ w).alloc (Nat.le_refl _) _).alloc (by simp) _).alloc (by simp; omega) _
    have hq : (((w.alloc (.cells #[.int .u8 1, .int .u8 2, .int .u8 0] 5)).alloc (.cells #[.int .u8 2, .int .u8 1, .int .u8 120] 5)).alloc (.cells #[.int .u8 1, .int .u8 2, .int .u8 0, .int .u8 6, .int .u8 0, .int .u8 8, .int .u8 1, .int .u8 2, .int .u8 0, .int .u8 4, .int .u8 ((x.toNat : Nat) : Int), .int .u8 5, .int .u8 0, .int .u8 5] 5)).heap[(w.heap.size + 1)]? = some (.cells #[.int .u8 2, .int .u8 1, .int .u8 120] 5 (0, 0)) := (Below.heap_alloc _ _ _ (by simp)).trans (by
      have := World.alloc_heap_new (w.alloc (.cells #[.int .u8 1, .int .u8 2, .int .u8 0] 5)) (.cells #[.int .u8 2, .int .u8 1, .int .u8 120] 5)
      simpa using this)
    have hown : (((w.alloc (.cells #[.int .u8 1, .int .u8 2, .int .u8 0] 5)).alloc (.cells #[.int .u8 2, .int .u8 1, .int .u8 120] 5)).alloc (.cells #[.int .u8 1, .int .u8 2, .int .u8 0, .int .u8 6, .int .u8 0, .int .u8 8, .int .u8 1, .int .u8 2, .int .u8 0, .int .u8 4, .int .u8 ((x.toNat : Nat) : Int), .int .u8 5, .int .u8 0, .int .u8 5] 5)).ownsRow w.heap.size 5 1 (.slice (some ⟨w.heap.size + 2, 0, none⟩) 14 14) 14 (bc [1, 2, 0, 6, 0, 8, 1, 2, 0, 4, x, 5, 0, 5]) := ⟨rfl, .inr ⟨w.heap.size + 2, 14, #[.int .u8 1, .int .u8 2, .int .u8 0, .int .u8 6, .int .u8 0, .int .u8 8, .int .u8 1, .int .u8 2, .int .u8 0, .int .u8 4, .int .u8 ((x.toNat : Nat) : Int), .int .u8 5, .int .u8 0, .int .u8 5], rfl, by omega, hn1, Nat.le_refl _, by unfold maxLen; omega, rfl, rfl⟩⟩
    have hqc : ∀ j u, (bc [2, 1, 120])[j]? = some u → (((w.alloc (.cells #[.int .u8 1, .int .u8 2, .int .u8 0] 5)).alloc (.cells #[.int .u8 2, .int .u8 1, .int .u8 120] 5)).alloc (.cells #[.int .u8 1, .int .u8 2, .int .u8 0, .int .u8 6, .int .u8 0, .int .u8 8, .int .u8 1, .int .u8 2, .int .u8 0, .int .u8 4, .int .u8 ((x.toNat : Nat) : Int), .int .u8 5, .int .u8 0, .int .u8 5] 5)).cell? ((⟨(w.heap.size + 1), 0, none⟩ : Addr).add j) = some u := fun j u hj => by
      rw [add_at, cell_of_row _ _ _ _ _ _ hq]
      show (bc [2, 1, 120]).toArray[j]? = some u
      rw [List.getElem?_toArray]
      exact hj
    have HOW := hidden hown
    have HQC := hidden hqc
    have HW0 := hidden hW0
    clear hown hqc hW0 hq hn1 hz1
    go_wp2_with (at_builtin; refine append_bytes rfl (.tmp 26) (.tmp 27) rfl w.heap.size _ [1, 2, 0, 6, 0, 8, 1, 2, 0, 4, x, 5, 0, 5] rfl HOW.out ⟨(w.heap.size + 1), 0, none⟩ 3 [2, 1, 120] (by simp) rfl HQC.out (by simp) HW0.out.size ?_)
    intro ad1 c1 w3 ho3 hg3
    have ho3' : w3.ownsRow w.heap.size 5 1 (.slice (some ad1) 17 c1) 17 (bc ([1, 2, 0, 6, 0, 8, 1, 2, 0, 4, x, 5, 0, 5] ++ [2, 1, 120])) := ho3
    have HB3 : Hid (Below w.heap.size w w3) := below_grown HOW.out HW0.out.size HW0.out hg3
    have HO3 := hidden ho3'
    have HB3a : Hid (Below w3.heap.size w3 (w3.alloc (.cells #[.int .u8 4, .int .u8 ((y.toNat : Nat) : Int), .int .u8 3, .int .u8 ((x.toNat : Nat) : Int), .int .u8 15] 5))) := HAb.out _ _
    clear ho3 hg3 ho3'
    go_wp2_with (at_builtin; refine append_bytes rfl (.tmp 28) (.tmp 31) rfl w.heap.size _ ([1, 2, 0, 6, 0, 8, 1, 2, 0, 4, x, 5, 0, 5] ++ [2, 1, 120]) rfl (HO3.out.alloc _) ⟨w3.heap.size, 0, none⟩ 5 [4, y, 3, x, 15] (by simp) rfl (cells_new w3 (bc [4, y, 3, x, 15]) 5) (by simp) (by have := HB3.out.size; simp; omega) ?_)
    intro ad2 c2 w4 ho4 hg4
    have ho4' : w4.ownsRow w.heap.size 5 1 (.slice (some ad2) 22 c2) 22 (bc (joinB x y true)) := ho4
    have HB4 : Hid (Below w.heap.size w w4) := below_grown (HO3.out.alloc _) (by have := HB3.out.size; rw [World.size_alloc]; omega) (HB3.out.trans (HB3a.out.mono HB3.out.size)) hg4
    have HO4 := hidden ho4'
    have hsm := vsmall ⟨#[110, 117, 109]⟩ (some ad2) 22 c2 w4
    unfold SmE smV at hsm
    clear ho4 hg4 ho4'
    go_wp2_with fail
    refine hsm.mono ?_
    rintro e w5 ⟨fb, eb, rfl, h1, h2, h3, h4, h5, h6⟩
    have HB5 : Hid (Below w.heap.size w w5) := HB4.out.trans (h6.mono HB4.out.size)
    have hlf : fb < w5.heap.size := (Array.getElem?_eq_some_iff.1 h4).1
    have hle : eb < w5.heap.size := (Array.getElem?_eq_some_iff.1 h5).1
    have hz45 := HB4.out.size
    have hc5 : w5.cell? ⟨fb, 4, none⟩ = some (.int .i64 1) := by rw [cell_of_row _ _ 4 _ _ _ h4]; rfl
    have hf5 := frozen_of_row w5 fb 4 _ _ h4
    have hzs : (w5.setCell ⟨fb, 4, none⟩ (.int .i64 4)).heap.size = w5.heap.size := by simp
    have hb7 : Below w.heap.size w ((w5.setCell ⟨fb, 4, none⟩ (.int .i64 4)).alloc (.cells #[.string ⟨#[109]⟩, .slice none 0 0, .slice none 0 0, .slice none 0 0, .slice (some ⟨fb, 0, none⟩) 1 1, .slice (some ⟨eb, 0, none⟩) 1 1, .slice none 0 0, .slice none 0 0] 31)) := (HB5.out.setCell (p := ⟨fb, 4, none⟩) (by show w.heap.size ≤ fb; omega) _).alloc (by rw [hzs]; exact HB5.out.size) _
    have hx7 := World.alloc_heap_new (w5.setCell ⟨fb, 4, none⟩ (.int .i64 4)) (.cells #[.string ⟨#[109]⟩, .slice none 0 0, .slice none 0 0, .slice none 0 0, .slice (some ⟨fb, 0, none⟩) 1 1, .slice (some ⟨eb, 0, none⟩) 1 1, .slice none 0 0, .slice none 0 0] 31)
    rw [hzs] at hx7
    have hfb7 : ((w5.setCell ⟨fb, 4, none⟩ (.int .i64 4)).alloc (.cells #[.string ⟨#[109]⟩, .slice none 0 0, .slice none 0 0, .slice none 0 0, .slice (some ⟨fb, 0, none⟩) 1 1, .slice (some ⟨eb, 0, none⟩) 1 1, .slice none 0 0, .slice none 0 0] 31)).heap[fb]? = some (.cells (smC ⟨#[110, 117, 109]⟩ 4 (.slice (some ad2) 22 c2)) 63 (0, 0)) := (Below.heap_alloc _ _ _ (by rw [hzs]; exact hlf)).trans (heap_setCell_same w5 fb 4 _ _ (.int .i64 4) h4)
    have heb7 : ((w5.setCell ⟨fb, 4, none⟩ (.int .i64 4)).alloc (.cells #[.string ⟨#[109]⟩, .slice none 0 0, .slice none 0 0, .slice none 0 0, .slice (some ⟨fb, 0, none⟩) 1 1, .slice (some ⟨eb, 0, none⟩) 1 1, .slice none 0 0, .slice none 0 0] 31)).heap[eb]? = some (.cells #[.string ⟨#[102]⟩] 9 (0, 0)) := (Below.heap_alloc _ _ _ (by rw [hzs]; exact hle)).trans ((Below.heap_setCell _ _ _ _ (by simpa using fun e : eb = fb => h3 e.symm)).trans h5)
    have ho7 : ((w5.setCell ⟨fb, 4, none⟩ (.int .i64 4)).alloc (.cells #[.string ⟨#[109]⟩, .slice none 0 0, .slice none 0 0, .slice none 0 0, .slice (some ⟨fb, 0, none⟩) 1 1, .slice (some ⟨eb, 0, none⟩) 1 1, .slice none 0 0, .slice none 0 0] 31)).ownsRow w.heap.size 5 1 (.slice (some ad2) 22 c2) 22 (bc (joinB x y true)) := owns_same HO4.out fun g hg => by
      have hgl := (HO4.out.lt g hg).2
      exact (Below.heap_alloc _ _ _ (by rw [hzs]; have := h6.size; omega)).trans ((Below.heap_setCell _ _ _ _ (by simp; omega)).trans (h6.block g hgl))
    have hz7 : ((w5.setCell ⟨fb, 4, none⟩ (.int .i64 4)).alloc (.cells #[.string ⟨#[109]⟩, .slice none 0 0, .slice none 0 0, .slice none 0 0, .slice (some ⟨fb, 0, none⟩) 1 1, .slice (some ⟨eb, 0, none⟩) 1 1, .slice none 0 0, .slice none 0 0] 31)).heap.size = w5.heap.size + 1 := by rw [World.size_alloc, hzs]
    obtain ⟨q, hqv⟩ : ∃ q, q = objV oth0 (fS numT 4 (joinB x y true)) := ⟨_, rfl⟩
    have hrun := vrun (F := fun g => w.heap.size ≤ g ∧ g < w5.heap.size + 1) (res := numT) (code := joinB x y true) (r := q) hfb7 heb7 rfl ⟨by omega, by omega⟩ ⟨by omega, by omega⟩ (byR_own (B := w.heap.size) ho7 (fun g h1 h2 => ⟨h1, by rw [hz7] at h2; exact h2⟩)) (fun g hg => by rw [hz7]; exact hg.2) (by decide) (by omega) HK1.out hqv.symm
    unfold ThreeI smV at hrun
    have hq1 : q.1 = (if x = y ∧ true = false then 0 else 21) := by rw [hqv]; simpa using HK2.out
    have HQ1 := hidden hq1
    have HB7 := hidden hb7
    clear hsm h1 h2 h3 h4 h5 h6 hqv hq1 hb7 hfb7 heb7 ho7 hz7 hzs
    go_wp2_with (refine wpList_load_row rfl 31 (.tmp 11) rfl w5.heap.size rfl 31 #[.string ⟨#[109]⟩, .slice none 0 0, .slice none 0 0, .slice none 0 0, .slice (some ⟨fb, 0, none⟩) 1 1, .slice (some ⟨eb, 0, none⟩) 1 1, .slice none 0 0, .slice none 0 0] (0, 0) _ hx7 Tryz.underlying31 rfl sizeOb15 ?_)
    refine hrun.mono ?_
    rintro e w8 ⟨rfl, hb8⟩
    have HB8 : Hid (Below w.heap.size w w8) := HB7.out.trans (hb8.mono HB7.out.size)
    clear hrun hb8 hx7 hc5 hf5
    have hxy : (((x.toNat : Nat) : Int) == ((y.toNat : Nat) : Int)) = decide (x = y) := by
      by_cases e : x = y
      · rw [decide_eq_true e, e]
        simp
      · rw [decide_eq_false e, beq_eq_false_iff_ne]
        intro h
        exact e (UInt8.toNat_inj.1 (by omega))
    generalize q.2 = q2
    obtain ⟨q1, hq⟩ : ∃ q1, q1 = q.1 := ⟨_, rfl⟩
    rw [← hq] at HQ1 ⊢
    clear hq
    by_cases e : x = y
    · have hv : q1 = 21 := by rw [HQ1.out]; simp [e]
      rw [decide_eq_true e] at hxy
      subst hv
      clear e
      go_wp2_with (go_at_call 13; refine (HKN.out _).mono ?_; rintro e w9 ⟨rfl, hb9⟩)
      go_ret
      exact ⟨rfl, HB8.out.trans (hb9.mono HB8.out.size)⟩
    · have hv : q1 = 21 := by rw [HQ1.out]; simp [e]
      rw [decide_eq_false e] at hxy
      subst hv
      clear e
      go_wp2_with (go_at_call 13; refine (HKN.out _).mono ?_; rintro e w9 ⟨rfl, hb9⟩)
      go_ret
      exact ⟨rfl, HB8.out.trans (hb9.mono HB8.out.size)⟩
end Go.Proofs.YtdeckknfolaaeaaGreatDoor
