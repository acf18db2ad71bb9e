/-
  The package's Find, and the copy that it answers.
-/
import Derived.Deep.RegionHeld3
import Derived.Deep.LoopGhost
import Derived.Laws.Rows
import Derived.Test.YtokkhdpkadgffaaGreatDoorIfaceCopy
import Derived.Test.YtokkhdpkadgffaaGreatDoorIfaceKnown
namespace Go.Proofs.YtokkhdpkadgffaaGreatDoor
open Go.RowKit

theorem four4 {w : World} {b : Nat} {z0 z1 z2 z3 : Value} {e : TypeId} (h : w.heap[b]? = some (.cells #[z0, z1, z2, z3] e (0, 0))) : w.cell? ⟨b, 0, none⟩ = some z0 ∧ w.cell? ⟨b, 1, none⟩ = some z1 ∧ w.cell? ⟨b, 2, none⟩ = some z2 ∧ w.cell? ⟨b, 3, none⟩ = some z3 ∧ w.frozen? ⟨b, 0, none⟩ = false ∧ w.frozen? ⟨b, 1, none⟩ = false ∧ w.frozen? ⟨b, 2, none⟩ = false ∧ w.frozen? ⟨b, 3, none⟩ = false := by
  refine ⟨?_, ?_, ?_, ?_, frozen_of_row w b 0 _ e h, frozen_of_row w b 1 _ e h, frozen_of_row w b 2 _ e h, frozen_of_row w b 3 _ e h⟩ <;> rw [cell_of_row w b _ _ e (0, 0) h] <;> rfl
theorem box4_set {w : World} {b : Nat} {z0 z1 z2 z3 : Value} {e : TypeId} (h : w.heap[b]? = some (.cells #[z0, z1, z2, z3] e (0, 0))) (a0 a1 a2 a3 : Value) : ((((w.setCell ⟨b, 0, none⟩ a0).setCell ⟨b, 1, none⟩ a1).setCell ⟨b, 2, none⟩ a2).setCell ⟨b, 3, none⟩ a3).heap[b]? = some (.cells #[a0, a1, a2, a3] e (0, 0)) :=
  heap_setCell_same _ _ 3 _ e a3 (heap_setCell_same _ _ 2 _ e a2 (heap_setCell_same _ _ 1 _ e a1 (heap_setCell_same _ _ 0 _ e a0 h)))
theorem box4_below {B : Nat} {w w' : World} (h : Below B w w') {b : Nat} (hb : B ≤ b) (a0 a1 a2 a3 : Value) : Below B w ((((w'.setCell ⟨b, 0, none⟩ a0).setCell ⟨b, 1, none⟩ a1).setCell ⟨b, 2, none⟩ a2).setCell ⟨b, 3, none⟩ a3) :=
  (((h.setCell (p := ⟨b, 0, none⟩) hb _).setCell (p := ⟨b, 1, none⟩) hb _).setCell (p := ⟨b, 2, none⟩) hb _).setCell (p := ⟨b, 3, none⟩) hb _
theorem box4_block (w : World) (b k : Nat) (hk : k ≠ b) (a0 a1 a2 a3 : Value) : ((((w.setCell ⟨b, 0, none⟩ a0).setCell ⟨b, 1, none⟩ a1).setCell ⟨b, 2, none⟩ a2).setCell ⟨b, 3, none⟩ a3).heap[k]? = w.heap[k]? :=
  (Below.heap_setCell _ ⟨b, 3, none⟩ _ k hk).trans ((Below.heap_setCell _ ⟨b, 2, none⟩ _ k hk).trans ((Below.heap_setCell _ ⟨b, 1, none⟩ _ k hk).trans (Below.heap_setCell _ ⟨b, 0, none⟩ _ k hk)))
theorem cs_more {n : Nat} {u u' : World} {v : Value} {xs : List Cs} (h : CsR (fun g => n ≤ g ∧ g < u.heap.size) u v xs) (hb : Below u.heap.size u u') : CsR (fun g => n ≤ g ∧ g < u'.heap.size) u' v xs :=
  h.frame fun g hg => ⟨⟨hg.1, Nat.lt_of_lt_of_le hg.2 hb.size⟩, hb.block g hg.2⟩
set_option maxHeartbeats 2000000 in
set_option maxRecDepth 1000000 in
theorem copyItem (F : Nat → Prop) (x : It) (cv : Value) (w : World) (h : CsR F w cv x.cases) (hF : ∀ g, F g → g < w.heap.size) (hx : ItOk x) :
    Calls Tryz.prog 176 #[itv x cv] w fun e w' => ∃ cv', e = .returned (itv x cv') ∧ CsR (Fr w w') w' cv' x.cases ∧ Below w.heap.size w w' := by
  obtain ⟨kd, nm, ty, cs⟩ := x
  obtain ⟨ca, cc, rfl⟩ := h.shape
  obtain ⟨_, _, hn, ht, hcl, hco⟩ := hx
  unfold itv
  simp only at h hn ht hcl hco ⊢
  have hb0 : Below w.heap.size w ((w.alloc (.cells #[.int .i64 kd, .string (str nm), .string (str ty), .slice ca cs.length cc] 38)).alloc (.cells #[.int .i64 0, .string ⟨#[]⟩, .string ⟨#[]⟩, .slice none 0 0] 38)) := ((Below.refl _ _).alloc (Nat.le_refl _) _).alloc (by simp) _
  have hSz : ∀ u, Below (w.heap.size + 2) ((w.alloc (.cells #[.int .i64 kd, .string (str nm), .string (str ty), .slice ca cs.length cc] 38)).alloc (.cells #[.int .i64 0, .string ⟨#[]⟩, .string ⟨#[]⟩, .slice none 0 0] 38)) u → w.heap.size + 2 ≤ u.heap.size := fun u hu => by have := hu.size; simpa using this
  have hN : ∀ u, Below (w.heap.size + 2) ((w.alloc (.cells #[.int .i64 kd, .string (str nm), .string (str ty), .slice ca cs.length cc] 38)).alloc (.cells #[.int .i64 0, .string ⟨#[]⟩, .string ⟨#[]⟩, .slice none 0 0] 38)) u → Below w.heap.size w u := fun u hu => hb0.trans (hu.mono (by omega))
  have hS : ∀ u, Below (w.heap.size + 1) ((w.alloc (.cells #[.int .i64 kd, .string (str nm), .string (str ty), .slice ca cs.length cc] 38)).alloc (.cells #[.int .i64 0, .string ⟨#[]⟩, .string ⟨#[]⟩, .slice none 0 0] 38)) u → u.cell? ⟨w.heap.size, 0, none⟩ = some (.int .i64 kd) ∧ u.cell? ⟨w.heap.size, 1, none⟩ = some (.string (str nm)) ∧ u.cell? ⟨w.heap.size, 2, none⟩ = some (.string (str ty)) ∧ u.cell? ⟨w.heap.size, 3, none⟩ = some (.slice ca cs.length cc) := fun u hu => by
    have k1 : u.heap[w.heap.size]? = some (.cells #[.int .i64 kd, .string (str nm), .string (str ty), .slice ca cs.length cc] 38 (0, 0)) := (hu.block _ (by omega)).trans ((Below.heap_alloc _ _ _ (by simp)).trans (World.alloc_heap_new w _))
    obtain ⟨c0, c1, c2, c3, _⟩ := four4 k1
    exact ⟨c0, c1, c2, c3⟩
  have hS2 : ∀ u, Below (w.heap.size + 2) ((w.alloc (.cells #[.int .i64 kd, .string (str nm), .string (str ty), .slice ca cs.length cc] 38)).alloc (.cells #[.int .i64 0, .string ⟨#[]⟩, .string ⟨#[]⟩, .slice none 0 0] 38)) u → u.cell? ⟨w.heap.size, 0, none⟩ = some (.int .i64 kd) ∧ u.cell? ⟨w.heap.size, 1, none⟩ = some (.string (str nm)) ∧ u.cell? ⟨w.heap.size, 2, none⟩ = some (.string (str ty)) ∧ u.cell? ⟨w.heap.size, 3, none⟩ = some (.slice ca cs.length cc) := fun u hu => hS u (hu.mono (by omega))
  have hS4 : ∀ u a0 a1 a2 a3, Below (w.heap.size + 2) ((w.alloc (.cells #[.int .i64 kd, .string (str nm), .string (str ty), .slice ca cs.length cc] 38)).alloc (.cells #[.int .i64 0, .string ⟨#[]⟩, .string ⟨#[]⟩, .slice none 0 0] 38)) u → ((((u.setCell ⟨w.heap.size + 1, 0, none⟩ a0).setCell ⟨w.heap.size + 1, 1, none⟩ a1).setCell ⟨w.heap.size + 1, 2, none⟩ a2).setCell ⟨w.heap.size + 1, 3, none⟩ a3).cell? ⟨w.heap.size, 0, none⟩ = some (.int .i64 kd) ∧ ((((u.setCell ⟨w.heap.size + 1, 0, none⟩ a0).setCell ⟨w.heap.size + 1, 1, none⟩ a1).setCell ⟨w.heap.size + 1, 2, none⟩ a2).setCell ⟨w.heap.size + 1, 3, none⟩ a3).cell? ⟨w.heap.size, 1, none⟩ = some (.string (str nm)) ∧ ((((u.setCell ⟨w.heap.size + 1, 0, none⟩ a0).setCell ⟨w.heap.size + 1, 1, none⟩ a1).setCell ⟨w.heap.size + 1, 2, none⟩ a2).setCell ⟨w.heap.size + 1, 3, none⟩ a3).cell? ⟨w.heap.size, 2, none⟩ = some (.string (str ty)) ∧ ((((u.setCell ⟨w.heap.size + 1, 0, none⟩ a0).setCell ⟨w.heap.size + 1, 1, none⟩ a1).setCell ⟨w.heap.size + 1, 2, none⟩ a2).setCell ⟨w.heap.size + 1, 3, none⟩ a3).cell? ⟨w.heap.size, 3, none⟩ = some (.slice ca cs.length cc) := fun u a0 a1 a2 a3 hu => hS _ (box4_below (hu.mono (by omega)) (by omega) _ _ _ _)
  have hR : ∀ u, Below (w.heap.size + 2) ((w.alloc (.cells #[.int .i64 kd, .string (str nm), .string (str ty), .slice ca cs.length cc] 38)).alloc (.cells #[.int .i64 0, .string ⟨#[]⟩, .string ⟨#[]⟩, .slice none 0 0] 38)) u → u.heap[w.heap.size + 1]? = some (.cells #[.int .i64 0, .string ⟨#[]⟩, .string ⟨#[]⟩, .slice none 0 0] 38 (0, 0)) := fun u hu => (hu.block _ (by omega)).trans (by have := World.alloc_heap_new (w.alloc (.cells #[.int .i64 kd, .string (str nm), .string (str ty), .slice ca cs.length cc] 38)) (.cells #[.int .i64 0, .string ⟨#[]⟩, .string ⟨#[]⟩, .slice none 0 0] 38); simpa using this)
  have hCC : ∀ u, Below (w.heap.size + 2) ((w.alloc (.cells #[.int .i64 kd, .string (str nm), .string (str ty), .slice ca cs.length cc] 38)).alloc (.cells #[.int .i64 0, .string ⟨#[]⟩, .string ⟨#[]⟩, .slice none 0 0] 38)) u → Calls Tryz.prog 201 #[.slice ca cs.length cc] u fun e w' => ∃ v', e = .returned v' ∧ CsR (Fr u w') w' v' cs ∧ Below u.heap.size u w' := fun u hu =>
    copyCases F _ cs u (h.below (hN u hu) hF) (fun g hg => by have := hF g hg; have := hSz u hu; omega) hcl hco
  have hnext : ∀ u u', Below (w.heap.size + 2) ((w.alloc (.cells #[.int .i64 kd, .string (str nm), .string (str ty), .slice ca cs.length cc] 38)).alloc (.cells #[.int .i64 0, .string ⟨#[]⟩, .string ⟨#[]⟩, .slice none 0 0] 38)) u → Below u.heap.size u u' → Below (w.heap.size + 2) ((w.alloc (.cells #[.int .i64 kd, .string (str nm), .string (str ty), .slice ca cs.length cc] 38)).alloc (.cells #[.int .i64 0, .string ⟨#[]⟩, .string ⟨#[]⟩, .slice none 0 0] 38)) u' := fun u u' hu h => hu.trans (h.mono (hSz u hu))
  have hCm : ∀ u w' v', Below (w.heap.size + 2) ((w.alloc (.cells #[.int .i64 kd, .string (str nm), .string (str ty), .slice ca cs.length cc] 38)).alloc (.cells #[.int .i64 0, .string ⟨#[]⟩, .string ⟨#[]⟩, .slice none 0 0] 38)) u → CsR (Fr u w') w' v' cs → CsR (fun g => w.heap.size + 2 ≤ g ∧ g < w'.heap.size) w' v' cs := fun u w' v' hu ht => ht.frame fun g hg => ⟨⟨by have := hSz u hu; have := hg.1; omega, hg.2⟩, rfl⟩
  have G0 : Below (w.heap.size + 2) ((w.alloc (.cells #[.int .i64 kd, .string (str nm), .string (str ty), .slice ca cs.length cc] 38)).alloc (.cells #[.int .i64 0, .string ⟨#[]⟩, .string ⟨#[]⟩, .slice none 0 0] 38)) ((w.alloc (.cells #[.int .i64 kd, .string (str nm), .string (str ty), .slice ca cs.length cc] 38)).alloc (.cells #[.int .i64 0, .string ⟨#[]⟩, .string ⟨#[]⟩, .slice none 0 0] 38)).drew := (Below.refl _ _).drew
  have G1 : Below (w.heap.size + 2) ((w.alloc (.cells #[.int .i64 kd, .string (str nm), .string (str ty), .slice ca cs.length cc] 38)).alloc (.cells #[.int .i64 0, .string ⟨#[]⟩, .string ⟨#[]⟩, .slice none 0 0] 38)) ((w.alloc (.cells #[.int .i64 kd, .string (str nm), .string (str ty), .slice ca cs.length cc] 38)).alloc (.cells #[.int .i64 0, .string ⟨#[]⟩, .string ⟨#[]⟩, .slice none 0 0] 38)) := Below.refl _ _
  clear h hb0 hF hcl hco
  go_enter Tryz.func176, Tryz.ntmps176
  go_wp2_with fail
  generalize hW : ((w.alloc (.cells #[.int .i64 kd, .string (str nm), .string (str ty), .slice ca cs.length cc] 38)).alloc (.cells #[.int .i64 0, .string ⟨#[]⟩, .string ⟨#[]⟩, .slice none 0 0] 38)) = W2 at *
  clear hW
  obtain ⟨d0, d1, d2, d3⟩ := hS2 _ G0
  have hr := hR _ G0
  obtain ⟨r0, r1, r2, r3, rf0, rf1, rf2, rf3⟩ := four4 hr
  go_region_held3 (fun u => u.cell? ⟨w.heap.size, 0, none⟩ = some (.int .i64 kd) ∧ u.cell? ⟨w.heap.size, 1, none⟩ = some (.string (str nm)) ∧ u.cell? ⟨w.heap.size, 2, none⟩ = some (.string (str ty)) ∧ u.cell? ⟨w.heap.size, 3, none⟩ = some (.slice ca cs.length cc)) (first | go_keep | exact hS2 _ (by assumption) | exact hS4 _ _ _ _ _ (by assumption)) (first
    | (go_at_call_of 42 (str nm); refine (sCloneT nm _ hn).mono ?_; rintro e wa ⟨rfl, hba⟩; have Ga := hnext _ _ (by assumption) hba; obtain ⟨d0, d1, d2, d3⟩ := hS2 _ Ga; have hr := hR _ Ga; obtain ⟨r0, r1, r2, r3, rf0, rf1, rf2, rf3⟩ := four4 hr; try (have hC5 := cs_more hC5 hba); clear hba)
    | (go_at_call_of 42 (str ty); refine (sCloneT ty _ ht).mono ?_; rintro e wb ⟨rfl, hbb⟩; have Gb := hnext _ _ (by assumption) hbb; obtain ⟨d0, d1, d2, d3⟩ := hS2 _ Gb; have hr := hR _ Gb; obtain ⟨r0, r1, r2, r3, rf0, rf1, rf2, rf3⟩ := four4 hr; try (have hC5 := cs_more hC5 hbb); clear hbb)
    | (go_at_call 201; refine (hCC _ (by assumption)).mono ?_; rintro e wc ⟨v5, rfl, hC4, hbc⟩; have hC5 := hCm _ _ _ (by assumption) hC4; obtain ⟨ga, gc, rfl⟩ := hC5.shape; have Gc := hnext _ _ (by assumption) hbc; obtain ⟨d0, d1, d2, d3⟩ := hS2 _ Gc; have hr := hR _ Gc; obtain ⟨r0, r1, r2, r3, rf0, rf1, rf2, rf3⟩ := four4 hr; clear hbc hC4))
  all_goals (
    go_wp2
    (try simp only [Exit.inBlock, Exit.then])
    refine bodyPost_ret (results_cell_row rfl _ _ (w.heap.size + 1) 38 _ (0, 0) _ rfl (box4_set hr _ _ _ _) Tryz.underlying38 rfl sizeIt) rfl ?_
    refine ⟨.slice ga cs.length gc, rfl, hC5.frame fun g hg => ⟨⟨by have := hg.1; omega, ?_⟩, box4_block _ _ _ (by have := hg.1; omega) _ _ _ _⟩, box4_below (hN _ (by assumption)) (by omega) _ _ _ _⟩
    have := hg.2
    simpa using this)
end Go.Proofs.YtokkhdpkadgffaaGreatDoor
