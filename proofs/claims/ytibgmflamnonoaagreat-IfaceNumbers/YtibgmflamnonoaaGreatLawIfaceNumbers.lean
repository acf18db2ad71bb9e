/-
  IfaceNumbers: chapter 7's runs.
-/
import Derived.Test.YtibgmflamnonoaaGreatRows
import Derived.Test.YtibgmflamnonoaaGreatBookSame
import Derived.Test.YtibgmflamnonoaaGreatIfaceRuns
import Derived.ProofKit
import Derived.OpenShut
namespace Go.Proofs.YtibgmflamnonoaaGreat
open Go.ChangeShapes Go.WideShapes Go.ChangeAt Go.RowKit

theorem funC (n t : ByteArray) (w : World) : Calls Tryz.prog 8 #[.string n, .string t] w fun e w' => e = .returned (.agg #[.int .i64 3, .string n, .string t, .slice none 0 0]) ∧ Below w.heap.size w w' := by
  have hr : (w.alloc (.cells #[.int .i64 3, .string n, .string t, .slice none 0 0] 24)).heap[w.heap.size]? = some (.cells #[.int .i64 3, .string n, .string t, .slice none 0 0] 24 (0, 0)) := World.alloc_heap_new w _
  go_enter Tryz.func8, Tryz.ntmps8
  go_wp2
  (try simp only [Exit.inBlock, Exit.then])
  refine bodyPost_ret (results_cell_row rfl _ _ w.heap.size 24 _ (0, 0) _ rfl hr Tryz.underlying24 rfl sizeIt) rfl ?_
  exact ⟨rfl, (Below.refl _ _).alloc (Nat.le_refl _) _⟩
theorem al4 (w : World) (a b c d : Obj) : ((((w.alloc a).alloc b).alloc c).alloc d).heap[w.heap.size]? = some a ∧ ((((w.alloc a).alloc b).alloc c).alloc d).heap[w.heap.size + 1]? = some b ∧ ((((w.alloc a).alloc b).alloc c).alloc d).heap[w.heap.size + 1 + 1]? = some c ∧ ((((w.alloc a).alloc b).alloc c).alloc d).heap[w.heap.size + 1 + 1 + 1]? = some d ∧ Below w.heap.size w ((((w.alloc a).alloc b).alloc c).alloc d) := by
  refine ⟨?_, ?_, ?_, ?_, ((((Below.refl _ w).alloc (Nat.le_refl _) _).alloc (by simp <;> omega) _).alloc (by simp <;> omega) _).alloc (by simp <;> omega) _⟩
  · exact (Below.heap_alloc _ _ _ (by simp <;> omega)).trans ((Below.heap_alloc _ _ _ (by simp <;> omega)).trans ((Below.heap_alloc _ _ _ (by simp <;> omega)).trans (World.alloc_heap_new w a)))
  · have := World.alloc_heap_new (w.alloc a) b
    rw [World.size_alloc] at this
    exact (Below.heap_alloc _ _ _ (by simp <;> omega)).trans ((Below.heap_alloc _ _ _ (by simp <;> omega)).trans this)
  · have := World.alloc_heap_new ((w.alloc a).alloc b) c
    rw [World.size_alloc, World.size_alloc] at this
    exact (Below.heap_alloc _ _ _ (by simp <;> omega)).trans this
  · have := World.alloc_heap_new (((w.alloc a).alloc b).alloc c) d
    rw [World.size_alloc, World.size_alloc, World.size_alloc] at this
    exact this
set_option maxHeartbeats 4000000 in
set_option maxRecDepth 1000000 in
theorem numbers_walk (w : World) : Calls Tryz.prog 3 #[] w (KnownI w) := by
  obtain ⟨i1, i2, i3, i4, hB4⟩ := al4 w (.cells #[.int .i64 2, .string ⟨#[102]⟩, .string ⟨#[110, 117, 109]⟩, .slice none 0 0] 24) (.cells #[.string ⟨#[109]⟩, .slice (some ⟨w.heap.size, 0, none⟩) 1 1] 27) (.cells #[.int .i64 2, .string ⟨#[102]⟩, .string ⟨#[98, 121, 116, 101, 115]⟩, .slice none 0 0] 24) (.cells #[.string ⟨#[109]⟩, .slice (some ⟨w.heap.size + 1 + 1, 0, none⟩) 1 1] 27)
  have hz4 : ((((w.alloc (.cells #[.int .i64 2, .string ⟨#[102]⟩, .string ⟨#[110, 117, 109]⟩, .slice none 0 0] 24)).alloc (.cells #[.string ⟨#[109]⟩, .slice (some ⟨w.heap.size, 0, none⟩) 1 1] 27)).alloc (.cells #[.int .i64 2, .string ⟨#[102]⟩, .string ⟨#[98, 121, 116, 101, 115]⟩, .slice none 0 0] 24)).alloc (.cells #[.string ⟨#[109]⟩, .slice (some ⟨w.heap.size + 1 + 1, 0, none⟩) 1 1] 27)).heap.size = w.heap.size + 4 := by simp
  go_enter Tryz.func3, Tryz.ntmps3
  go_wp2_with fail
  generalize ((((w.alloc (.cells #[.int .i64 2, .string ⟨#[102]⟩, .string ⟨#[110, 117, 109]⟩, .slice none 0 0] 24)).alloc (.cells #[.string ⟨#[109]⟩, .slice (some ⟨w.heap.size, 0, none⟩) 1 1] 27)).alloc (.cells #[.int .i64 2, .string ⟨#[102]⟩, .string ⟨#[98, 121, 116, 101, 115]⟩, .slice none 0 0] 24)).alloc (.cells #[.string ⟨#[109]⟩, .slice (some ⟨w.heap.size + 1 + 1, 0, none⟩) 1 1] 27)) = W4 at *
  refine (funC ⟨#[102]⟩ ⟨#[40, 41, 110, 117, 109]⟩ _).mono ?_
  rintro e w5 ⟨rfl, hb5⟩
  go_wp2_with fail
  refine (funC ⟨#[102]⟩ ⟨#[40, 41, 110, 117, 109]⟩ _).mono ?_
  rintro e w6 ⟨rfl, hb6⟩
  have K6 : Below W4.heap.size W4 w6 := hb5.trans (hb6.mono hb5.size)
  have hs6 : w.heap.size + 4 ≤ w6.heap.size := by have := K6.size; omega
  have hbw6 : Below w.heap.size w w6 := hB4.trans (K6.mono (by omega))
  have hb8 : Below w6.heap.size w6 ((w6.alloc (.cells #[.int .i64 3, .string ⟨#[102]⟩, .string ⟨#[40, 41, 110, 117, 109]⟩, .slice none 0 0, .int .i64 3, .string ⟨#[102]⟩, .string ⟨#[40, 41, 110, 117, 109]⟩, .slice none 0 0] 24)).alloc (.cells #[.string ⟨#[109]⟩, .slice (some ⟨w6.heap.size, 0, none⟩) 2 2] 27)) := ((Below.refl _ _).alloc (Nat.le_refl _) _).alloc (by simp) _
  have hz8 : ((w6.alloc (.cells #[.int .i64 3, .string ⟨#[102]⟩, .string ⟨#[40, 41, 110, 117, 109]⟩, .slice none 0 0, .int .i64 3, .string ⟨#[102]⟩, .string ⟨#[40, 41, 110, 117, 109]⟩, .slice none 0 0] 24)).alloc (.cells #[.string ⟨#[109]⟩, .slice (some ⟨w6.heap.size, 0, none⟩) 2 2] 27)).heap.size = w6.heap.size + 2 := by simp
  have p1 := (hb8.block w.heap.size (by omega)).trans ((K6.block _ (by omega)).trans i1)
  have p2 := (hb8.block (w.heap.size + 1) (by omega)).trans ((K6.block _ (by omega)).trans i2)
  have p3 := (hb8.block (w.heap.size + 1 + 1) (by omega)).trans ((K6.block _ (by omega)).trans i3)
  have p4 := (hb8.block (w.heap.size + 1 + 1 + 1) (by omega)).trans ((K6.block _ (by omega)).trans i4)
  have p5 : ((w6.alloc (.cells #[.int .i64 3, .string ⟨#[102]⟩, .string ⟨#[40, 41, 110, 117, 109]⟩, .slice none 0 0, .int .i64 3, .string ⟨#[102]⟩, .string ⟨#[40, 41, 110, 117, 109]⟩, .slice none 0 0] 24)).alloc (.cells #[.string ⟨#[109]⟩, .slice (some ⟨w6.heap.size, 0, none⟩) 2 2] 27)).heap[w6.heap.size]? = some (.cells #[.int .i64 3, .string ⟨#[102]⟩, .string ⟨#[40, 41, 110, 117, 109]⟩, .slice none 0 0, .int .i64 3, .string ⟨#[102]⟩, .string ⟨#[40, 41, 110, 117, 109]⟩, .slice none 0 0] 24 (0, 0)) := (Below.heap_alloc _ _ _ (by simp)).trans (World.alloc_heap_new w6 _)
  have p6 : ((w6.alloc (.cells #[.int .i64 3, .string ⟨#[102]⟩, .string ⟨#[40, 41, 110, 117, 109]⟩, .slice none 0 0, .int .i64 3, .string ⟨#[102]⟩, .string ⟨#[40, 41, 110, 117, 109]⟩, .slice none 0 0] 24)).alloc (.cells #[.string ⟨#[109]⟩, .slice (some ⟨w6.heap.size, 0, none⟩) 2 2] 27)).heap[w6.heap.size + 1]? = some (.cells #[.string ⟨#[109]⟩, .slice (some ⟨w6.heap.size, 0, none⟩) 2 2] 27 (0, 0)) := by have := World.alloc_heap_new (w6.alloc (.cells #[.int .i64 3, .string ⟨#[102]⟩, .string ⟨#[40, 41, 110, 117, 109]⟩, .slice none 0 0, .int .i64 3, .string ⟨#[102]⟩, .string ⟨#[40, 41, 110, 117, 109]⟩, .slice none 0 0] 24)) (.cells #[.string ⟨#[109]⟩, .slice (some ⟨w6.heap.size, 0, none⟩) 2 2] 27); rw [World.size_alloc] at this; exact this
  have hN : ∀ u, Below ((w6.alloc (.cells #[.int .i64 3, .string ⟨#[102]⟩, .string ⟨#[40, 41, 110, 117, 109]⟩, .slice none 0 0, .int .i64 3, .string ⟨#[102]⟩, .string ⟨#[40, 41, 110, 117, 109]⟩, .slice none 0 0] 24)).alloc (.cells #[.string ⟨#[109]⟩, .slice (some ⟨w6.heap.size, 0, none⟩) 2 2] 27)).heap.size ((w6.alloc (.cells #[.int .i64 3, .string ⟨#[102]⟩, .string ⟨#[40, 41, 110, 117, 109]⟩, .slice none 0 0, .int .i64 3, .string ⟨#[102]⟩, .string ⟨#[40, 41, 110, 117, 109]⟩, .slice none 0 0] 24)).alloc (.cells #[.string ⟨#[109]⟩, .slice (some ⟨w6.heap.size, 0, none⟩) 2 2] 27)) u → Below w.heap.size w u := fun u hu => (hbw6.trans (hb8.mono (by omega))).trans (hu.mono (by omega))
  have hP : ∀ u, Below ((w6.alloc (.cells #[.int .i64 3, .string ⟨#[102]⟩, .string ⟨#[40, 41, 110, 117, 109]⟩, .slice none 0 0, .int .i64 3, .string ⟨#[102]⟩, .string ⟨#[40, 41, 110, 117, 109]⟩, .slice none 0 0] 24)).alloc (.cells #[.string ⟨#[109]⟩, .slice (some ⟨w6.heap.size, 0, none⟩) 2 2] 27)).heap.size ((w6.alloc (.cells #[.int .i64 3, .string ⟨#[102]⟩, .string ⟨#[40, 41, 110, 117, 109]⟩, .slice none 0 0, .int .i64 3, .string ⟨#[102]⟩, .string ⟨#[40, 41, 110, 117, 109]⟩, .slice none 0 0] 24)).alloc (.cells #[.string ⟨#[109]⟩, .slice (some ⟨w6.heap.size, 0, none⟩) 2 2] 27)) u → u.heap[w.heap.size]? = some (.cells #[.int .i64 2, .string ⟨#[102]⟩, .string ⟨#[110, 117, 109]⟩, .slice none 0 0] 24 (0, 0)) ∧ u.heap[w.heap.size + 1 + 1]? = some (.cells #[.int .i64 2, .string ⟨#[102]⟩, .string ⟨#[98, 121, 116, 101, 115]⟩, .slice none 0 0] 24 (0, 0)) ∧ u.heap[w6.heap.size]? = some (.cells #[.int .i64 3, .string ⟨#[102]⟩, .string ⟨#[40, 41, 110, 117, 109]⟩, .slice none 0 0, .int .i64 3, .string ⟨#[102]⟩, .string ⟨#[40, 41, 110, 117, 109]⟩, .slice none 0 0] 24 (0, 0)) := fun u hu => ⟨(hu.block _ (by omega)).trans p1, (hu.block _ (by omega)).trans p3, (hu.block _ (by omega)).trans p5⟩
  have hS : ∀ u, Below ((w6.alloc (.cells #[.int .i64 3, .string ⟨#[102]⟩, .string ⟨#[40, 41, 110, 117, 109]⟩, .slice none 0 0, .int .i64 3, .string ⟨#[102]⟩, .string ⟨#[40, 41, 110, 117, 109]⟩, .slice none 0 0] 24)).alloc (.cells #[.string ⟨#[109]⟩, .slice (some ⟨w6.heap.size, 0, none⟩) 2 2] 27)).heap.size ((w6.alloc (.cells #[.int .i64 3, .string ⟨#[102]⟩, .string ⟨#[40, 41, 110, 117, 109]⟩, .slice none 0 0, .int .i64 3, .string ⟨#[102]⟩, .string ⟨#[40, 41, 110, 117, 109]⟩, .slice none 0 0] 24)).alloc (.cells #[.string ⟨#[109]⟩, .slice (some ⟨w6.heap.size, 0, none⟩) 2 2] 27)) u → u.cell? ⟨w.heap.size + 1, 0, none⟩ = some (.string ⟨#[109]⟩) ∧ u.cell? ⟨w.heap.size + 1, 1, none⟩ = some (.slice (some ⟨w.heap.size, 0, none⟩) 1 1) ∧ u.cell? ⟨w.heap.size + 1 + 1 + 1, 0, none⟩ = some (.string ⟨#[109]⟩) ∧ u.cell? ⟨w.heap.size + 1 + 1 + 1, 1, none⟩ = some (.slice (some ⟨w.heap.size + 1 + 1, 0, none⟩) 1 1) ∧ u.cell? ⟨w6.heap.size + 1, 0, none⟩ = some (.string ⟨#[109]⟩) ∧ u.cell? ⟨w6.heap.size + 1, 1, none⟩ = some (.slice (some ⟨w6.heap.size, 0, none⟩) 2 2) := fun u hu => by
    have k2 := (hu.block (w.heap.size + 1) (by omega)).trans p2
    have k4 := (hu.block (w.heap.size + 1 + 1 + 1) (by omega)).trans p4
    have k6 := (hu.block (w6.heap.size + 1) (by omega)).trans p6
    exact ⟨by rw [cell_of_row _ _ 0 _ _ _ k2]; rfl, by rw [cell_of_row _ _ 1 _ _ _ k2]; rfl, by rw [cell_of_row _ _ 0 _ _ _ k4]; rfl, by rw [cell_of_row _ _ 1 _ _ _ k4]; rfl, by rw [cell_of_row _ _ 0 _ _ _ k6]; rfl, by rw [cell_of_row _ _ 1 _ _ _ k6]; rfl⟩
  have G8 : Below ((w6.alloc (.cells #[.int .i64 3, .string ⟨#[102]⟩, .string ⟨#[40, 41, 110, 117, 109]⟩, .slice none 0 0, .int .i64 3, .string ⟨#[102]⟩, .string ⟨#[40, 41, 110, 117, 109]⟩, .slice none 0 0] 24)).alloc (.cells #[.string ⟨#[109]⟩, .slice (some ⟨w6.heap.size, 0, none⟩) 2 2] 27)).heap.size ((w6.alloc (.cells #[.int .i64 3, .string ⟨#[102]⟩, .string ⟨#[40, 41, 110, 117, 109]⟩, .slice none 0 0, .int .i64 3, .string ⟨#[102]⟩, .string ⟨#[40, 41, 110, 117, 109]⟩, .slice none 0 0] 24)).alloc (.cells #[.string ⟨#[109]⟩, .slice (some ⟨w6.heap.size, 0, none⟩) 2 2] 27)) ((w6.alloc (.cells #[.int .i64 3, .string ⟨#[102]⟩, .string ⟨#[40, 41, 110, 117, 109]⟩, .slice none 0 0, .int .i64 3, .string ⟨#[102]⟩, .string ⟨#[40, 41, 110, 117, 109]⟩, .slice none 0 0] 24)).alloc (.cells #[.string ⟨#[109]⟩, .slice (some ⟨w6.heap.size, 0, none⟩) 2 2] 27)) := Below.refl _ _
  obtain ⟨a0, a1, b0, b1, c0, c1⟩ := hS _ G8
  clear i1 i2 i3 i4 hB4 hz4 hb5 hb6 K6 hb8 p2 p3 p4 p5 p6 hbw6 hz8
  go_wp2_with fail
  generalize ((w6.alloc (.cells #[.int .i64 3, .string ⟨#[102]⟩, .string ⟨#[40, 41, 110, 117, 109]⟩, .slice none 0 0, .int .i64 3, .string ⟨#[102]⟩, .string ⟨#[40, 41, 110, 117, 109]⟩, .slice none 0 0] 24)).alloc (.cells #[.string ⟨#[109]⟩, .slice (some ⟨w6.heap.size, 0, none⟩) 2 2] 27)) = W8 at *
  clear a0 a1 b0 b1 c0 c1
  refine (run_find _ _ p1).mono ?_
  rintro e w9 ⟨fa, fc, rfl, hb9⟩
  have hnx : ∀ u u', Below W8.heap.size W8 u → Below u.heap.size u u' → Below W8.heap.size W8 u' := fun u u' hu h => hu.trans (h.mono hu.size)
  have hAl : ∀ u (O : Obj), Below W8.heap.size W8 u → Below W8.heap.size W8 (u.alloc O) := fun u O hu => hu.alloc hu.size O
  have hz9 : (((w9.alloc (.cells #[.int .i64 0, .string ⟨#[]⟩, .string ⟨#[]⟩, .slice fa 0 fc] 24)).alloc (.cells #[.string ⟨#[99]⟩, .string ⟨#[99]⟩] 9)).alloc (.cells #[.string ⟨#[99]⟩, .string ⟨#[110, 117, 109]⟩, .int .i64 1, .int .i64 0, .string ⟨#[]⟩, .complex .f64 0 0, .string ⟨#[]⟩, .string ⟨#[]⟩, .slice none 0 0, .slice none 0 0, .slice none 0 0] 42)).heap.size = w9.heap.size + 1 + 1 + 1 := by simp
  have e1 : (((w9.alloc (.cells #[.int .i64 0, .string ⟨#[]⟩, .string ⟨#[]⟩, .slice fa 0 fc] 24)).alloc (.cells #[.string ⟨#[99]⟩, .string ⟨#[99]⟩] 9)).alloc (.cells #[.string ⟨#[99]⟩, .string ⟨#[110, 117, 109]⟩, .int .i64 1, .int .i64 0, .string ⟨#[]⟩, .complex .f64 0 0, .string ⟨#[]⟩, .string ⟨#[]⟩, .slice none 0 0, .slice none 0 0, .slice none 0 0] 42)).heap[w9.heap.size + 1]? = some (.cells #[.string ⟨#[99]⟩, .string ⟨#[99]⟩] 9 (0, 0)) := by
    have := World.alloc_heap_new (w9.alloc (.cells #[.int .i64 0, .string ⟨#[]⟩, .string ⟨#[]⟩, .slice fa 0 fc] 24)) (.cells #[.string ⟨#[99]⟩, .string ⟨#[99]⟩] 9)
    rw [World.size_alloc] at this
    exact (Below.heap_alloc _ _ _ (by simp)).trans this
  have e2 : (((w9.alloc (.cells #[.int .i64 0, .string ⟨#[]⟩, .string ⟨#[]⟩, .slice fa 0 fc] 24)).alloc (.cells #[.string ⟨#[99]⟩, .string ⟨#[99]⟩] 9)).alloc (.cells #[.string ⟨#[99]⟩, .string ⟨#[110, 117, 109]⟩, .int .i64 1, .int .i64 0, .string ⟨#[]⟩, .complex .f64 0 0, .string ⟨#[]⟩, .string ⟨#[]⟩, .slice none 0 0, .slice none 0 0, .slice none 0 0] 42)).heap[w9.heap.size + 1 + 1]? = some (.cells #[.string ⟨#[99]⟩, .string ⟨#[110, 117, 109]⟩, .int .i64 1, .int .i64 0, .string ⟨#[]⟩, .complex .f64 0 0, .string ⟨#[]⟩, .string ⟨#[]⟩, .slice none 0 0, .slice none 0 0, .slice none 0 0] 42 (0, 0)) := by
    have := World.alloc_heap_new ((w9.alloc (.cells #[.int .i64 0, .string ⟨#[]⟩, .string ⟨#[]⟩, .slice fa 0 fc] 24)).alloc (.cells #[.string ⟨#[99]⟩, .string ⟨#[99]⟩] 9)) (.cells #[.string ⟨#[99]⟩, .string ⟨#[110, 117, 109]⟩, .int .i64 1, .int .i64 0, .string ⟨#[]⟩, .complex .f64 0 0, .string ⟨#[]⟩, .string ⟨#[]⟩, .slice none 0 0, .slice none 0 0, .slice none 0 0] 42)
    rw [World.size_alloc, World.size_alloc] at this
    exact this
  have G12 : Below W8.heap.size W8 (((w9.alloc (.cells #[.int .i64 0, .string ⟨#[]⟩, .string ⟨#[]⟩, .slice fa 0 fc] 24)).alloc (.cells #[.string ⟨#[99]⟩, .string ⟨#[99]⟩] 9)).alloc (.cells #[.string ⟨#[99]⟩, .string ⟨#[110, 117, 109]⟩, .int .i64 1, .int .i64 0, .string ⟨#[]⟩, .complex .f64 0 0, .string ⟨#[]⟩, .string ⟨#[]⟩, .slice none 0 0, .slice none 0 0, .slice none 0 0] 42)) := hAl _ _ (hAl _ _ (hAl _ _ hb9))
  clear hb9 p1 hz9
  go_wp2_with fail
  generalize (((w9.alloc (.cells #[.int .i64 0, .string ⟨#[]⟩, .string ⟨#[]⟩, .slice fa 0 fc] 24)).alloc (.cells #[.string ⟨#[99]⟩, .string ⟨#[99]⟩] 9)).alloc (.cells #[.string ⟨#[99]⟩, .string ⟨#[110, 117, 109]⟩, .int .i64 1, .int .i64 0, .string ⟨#[]⟩, .complex .f64 0 0, .string ⟨#[]⟩, .string ⟨#[]⟩, .slice none 0 0, .slice none 0 0, .slice none 0 0] 42)) = W12 at *
  refine (run_of _ _ _ e1 e2).mono ?_
  rintro e w13 ⟨rfl, hb13⟩
  have G13 := hnx _ _ G12 hb13
  clear hb13 G12 e1 e2
  have G14 := hAl _ (.cells #[.string ⟨#[]⟩, .slice none 0 0] 27) G13
  obtain ⟨a0, a1, b0, b1, c0, c1⟩ := hS _ G14
  have G15 := hAl _ (.cells #[.string ⟨#[102]⟩, .string ⟨#[102]⟩, .string ⟨#[103]⟩] 9) G14
  have u1 : (((w13.alloc (.cells #[.string ⟨#[]⟩, .slice none 0 0] 27)).alloc (.cells #[.string ⟨#[102]⟩, .string ⟨#[102]⟩, .string ⟨#[103]⟩] 9))).heap[w13.heap.size + 1]? = some (.cells #[.string ⟨#[102]⟩, .string ⟨#[102]⟩, .string ⟨#[103]⟩] 9 (0, 0)) := by
    have := World.alloc_heap_new (w13.alloc (.cells #[.string ⟨#[]⟩, .slice none 0 0] 27)) (.cells #[.string ⟨#[102]⟩, .string ⟨#[102]⟩, .string ⟨#[103]⟩] 9)
    rw [World.size_alloc] at this
    exact this
  go_wp2_with fail
  generalize ((w13.alloc (.cells #[.string ⟨#[]⟩, .slice none 0 0] 27)).alloc (.cells #[.string ⟨#[102]⟩, .string ⟨#[102]⟩, .string ⟨#[103]⟩] 9)) = W15 at *
  clear a0 a1 b0 b1 c0 c1 G13 G14
  obtain ⟨q1, q2, q3⟩ := hP _ G15
  refine (run_breaks _ _ _ _ [98, 121, 116, 101, 115] [[102], [102], [103]] [[102]] q1 q2 u1 (by decide) (fun y hy => by unfold Tk; simp only [List.mem_cons, List.not_mem_nil, or_false] at hy; rcases hy with rfl | rfl | rfl <;> decide) (by decide) run_out1).mono ?_
  rintro e w16 ⟨v16, rfl, hs16, hb16⟩
  have G16 := hnx _ _ G15 hb16
  clear G15 u1 q1 q2 q3 hb16
  obtain ⟨va, vc, rfl⟩ := hs16.shape
  have hba : Below w16.heap.size w16 (w16.alloc (.cells #[.string ⟨#[102]⟩] 9)) := (Below.refl _ _).alloc (Nat.le_refl _) _
  have u2 : StrRow (w16.alloc (.cells #[.string ⟨#[102]⟩] 9)) (.slice (some ⟨w16.heap.size, 0, none⟩) 1 1) [[102]] := by
    refine .inr ⟨w16.heap.size, 0, 1, rfl, by simp, by simp, fun j x hj => ?_⟩
    obtain ⟨hj1, rfl⟩ := List.getElem?_eq_some_iff.1 hj
    obtain rfl : j = 0 := by simpa using hj1
    rw [cell_of_row _ _ _ _ _ (0, 0) (World.alloc_heap_new w16 (.cells #[.string ⟨#[102]⟩] 9))]
    rfl
  have hsm : Calls Tryz.prog 11 #[.slice va 1 vc, .slice (some ⟨w16.heap.size, 0, none⟩) 1 1] (w16.alloc (.cells #[.string ⟨#[102]⟩] 9)) fun e w' => e = .returned (.bool true) ∧ ∃ n, w' = (w16.alloc (.cells #[.string ⟨#[102]⟩] 9)).drewN n := (sameS _ _ [[102]] [[102]] _ (hs16.below hba) u2 (by decide) (by decide)).mono fun e w' h => ⟨by rw [h.1]; rfl, h.2⟩
  have G17 := hAl _ (.cells #[.string ⟨#[102]⟩] 9) G16
  clear hs16 u2 hba G16
  go_wp2_with fail
  refine hsm.mono ?_
  rintro e w17 ⟨rfl, n17, rfl⟩
  replace G17 := below_drewN G17 n17
  clear hsm
  generalize (w16.alloc (.cells #[.string ⟨#[102]⟩] 9)).drewN n17 = w17 at *
  obtain ⟨a0, a1, b0, b1, c0, c1⟩ := hS _ G17
  have G18 := hAl _ (.cells #[.string ⟨#[102]⟩] 9) G17
  have u3 : (w17.alloc (.cells #[.string ⟨#[102]⟩] 9)).heap[w17.heap.size]? = some (.cells #[.string ⟨#[102]⟩] 9 (0, 0)) := World.alloc_heap_new w17 _
  go_wp2_with fail
  generalize w17.alloc (.cells #[.string ⟨#[102]⟩] 9) = W18 at *
  clear a0 a1 b0 b1 c0 c1
  obtain ⟨q1, q2, q3⟩ := hP _ G18
  refine (run_breaks _ _ _ _ [110, 117, 109] [[102]] [] q1 q1 u3 (by decide) (fun y hy => by unfold Tk; obtain rfl := List.mem_singleton.1 hy; decide) (by decide) run_out2).mono ?_
  rintro e w19 ⟨v19, rfl, hs19, hb19⟩
  have G19 := hnx _ _ G18 hb19
  obtain ⟨vb, vd, rfl⟩ := hs19.shape
  clear hs19 u3 q1 q2 q3 hb19 G18 G17
  obtain ⟨a0, a1, b0, b1, c0, c1⟩ := hS _ G19
  go_wp2_with fail
  clear a0 a1 b0 b1 c0 c1
  obtain ⟨q1, q2, q3⟩ := hP _ G19
  refine (run_right_twice _ _ q3).mono ?_
  rintro e w20 ⟨rfl, hb20⟩
  have G20 := hnx _ _ G19 hb20
  clear q1 q2 q3 hb20 G19
  go_wp2_with fail
  refine (run_right_zero _).mono ?_
  rintro e w21 ⟨rfl, hb21⟩
  have G21 := hnx _ _ G20 hb21
  clear hb21 G20
  go_wp2_with fail
  refine (funC ⟨#[102]⟩ ⟨#[110, 117, 109]⟩ _).mono ?_
  rintro e w22 ⟨rfl, hb22⟩
  have G22 := hnx _ _ G21 hb22
  have G23 := hAl _ (.cells #[.int .i64 3, .string ⟨#[102]⟩, .string ⟨#[110, 117, 109]⟩, .slice none 0 0] 24) G22
  have u4 : (w22.alloc (.cells #[.int .i64 3, .string ⟨#[102]⟩, .string ⟨#[110, 117, 109]⟩, .slice none 0 0] 24)).heap[w22.heap.size]? = some (.cells #[.int .i64 3, .string ⟨#[102]⟩, .string ⟨#[110, 117, 109]⟩, .slice none 0 0] 24 (0, 0)) := World.alloc_heap_new w22 _
  clear hb22 G21 G22
  go_wp2_with fail
  generalize w22.alloc (.cells #[.int .i64 3, .string ⟨#[102]⟩, .string ⟨#[110, 117, 109]⟩, .slice none 0 0] 24) = W23 at *
  refine (run_right_one _ _ 3 [102] [110, 117, 109] 17 u4 (by decide) (by decide) (by decide) (by decide) run_17).mono ?_
  rintro e w24 ⟨rfl, hb24⟩
  have G24 := hnx _ _ G23 hb24
  have G25 := hAl _ (.cells #[.int .i64 1, .string ⟨#[84]⟩, .string ⟨#[]⟩, .slice none 0 0] 24) G24
  have u5 : (w24.alloc (.cells #[.int .i64 1, .string ⟨#[84]⟩, .string ⟨#[]⟩, .slice none 0 0] 24)).heap[w24.heap.size]? = some (.cells #[.int .i64 1, .string ⟨#[84]⟩, .string ⟨#[]⟩, .slice none 0 0] 24 (0, 0)) := World.alloc_heap_new w24 _
  clear hb24 G23 G24 u4
  go_wp2_with fail
  generalize w24.alloc (.cells #[.int .i64 1, .string ⟨#[84]⟩, .string ⟨#[]⟩, .slice none 0 0] 24) = W25 at *
  refine (run_right_one _ _ 1 [84] [] 12 u5 (by decide) (by decide) (by decide) (by decide) run_12).mono ?_
  rintro e w26 ⟨rfl, hb26⟩
  have G26 := hnx _ _ G25 hb26
  clear hb26 G25 u5
  go_wp2_with fail
  refine (known7 _).mono ?_
  rintro e w27 ⟨rfl, hb27⟩
  have hbw := hN _ (hnx _ _ G26 hb27)
  go_wp2
  go_ret
  exact ⟨rfl, hbw⟩

theorem ownIfaceNumbers : ownKnob Tryz.prog.godebug = none := by kernel_rfl
set_option maxRecDepth 100000 in
theorem ifaceNumbers_lifted (os : Os) (started : os.Started) (H : Type) (enc : TypeId × Value → H) :
    ReturnsInHanded {} Tryz.checked os 3 .any (Rows.ifaceNumbersSpec.pre6 enc Tryz.prog Tryz.f3 Rows.ifaceNumbersRow.domain false) (Rows.ifaceNumbersSpec.post enc Tryz.prog Tryz.f3 false true false false) := by
  refine returnsInHanded_of_change (C := Tryz.checked) ownIfaceNumbers started (by kernel_rfl) Tryz.func3
    (ChangeSpec.witness6 (enc := enc) (C := Tryz.checked) false ⟨#[], #[], []⟩ 8 (by kernel_rfl) (by kernel_rfl) (by kernel_rfl) (by kernel_rfl)) ?_
  intro W base args ds gs before hval0 hW hcnd _
  have hval : ∀ (j : Nat) t v, Tryz.f3.params[j]? = some t → args[j]? = some v → Value.okWide Tryz.prog W .any base t v := hval0
  have hW' := hW
  obtain ⟨p, q, hA0, hV, rfl, hfz, hnd⟩ := hW
  have hA : DataW.TrodAll enc Tryz.prog W 0 (fun _ => true) true Tryz.f3.params.toList args.toList ds p := hA0
  rw [Tryz.params3] at hA
  obtain ⟨hargs, rfl, rfl⟩ := trodAll_nil hA
  obtain rfl : args = #[] := by cases args; simp_all
  obtain ⟨rfl, rfl⟩ := trodVars_none hV
  clear hA0 hval0
  refine (numbers_walk W).mono fun e W' ⟨he, bel⟩ => ?_
  subst he
  exact ⟨_, rfl, _, _, _, [], _, [], hW', trodAll_mk1 (shut_bool Tryz.underlying4 _), trodAll_mk0, rfl, bel.frame _, fun h => by cases h⟩

theorem ifaceNumbers_holds : Rows.IfaceNumbersSaid :=
  OpenClaim.holds_of_wide 3 Tryz.f3 rfl rfl rfl rfl rfl rfl rfl ⟨rfl, rfl, rfl, rfl, rfl⟩ rfl rfl rfl rfl rfl (by kernel_rfl) Tryz.func3 (by kernel_rfl)
    (of_decide_eq_true (by kernel_rfl)) (by unfold Func.isWrapper; first | (rw [if_pos (by decide +kernel)]; kernel_rfl) | (rw [if_neg (by decide +kernel)]; exact ⟨rfl, rfl⟩))
    (fun os started H enc _ => ifaceNumbers_lifted os started H enc)
#print axioms ifaceNumbers_holds
end Go.Proofs.YtibgmflamnonoaaGreat
