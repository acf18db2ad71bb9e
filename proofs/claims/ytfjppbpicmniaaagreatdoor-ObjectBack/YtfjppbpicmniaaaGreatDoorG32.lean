/-
  The package's Find, and the copy that it answers.
  And: The package's Find. named, and exportAt, where neither a global nor a function of the object has the name.
-/
import Derived.Deep.RegionHeld3
import Derived.Deep.LoopGhost
import Derived.Laws.Rows
import Derived.Test.YtfjppbpicmniaaaGreatDoorG13
import Derived.Test.YtfjppbpicmniaaaGreatDoorG22
import Derived.Test.YtfjppbpicmniaaaGreatDoorG27
namespace Go.Proofs.YtfjppbpicmniaaaGreatDoor
open Go.RowKit

theorem four4 {w : World} {b : Nat} {z0 z1 z2 z3 : Value} {e : TypeId} (h : w.heap[b]? = some (.cells #[z0, z1, z2, z3] e (0, 0))) : w.cell? ⟨b, 0, none⟩ = some z0 ∧ w.cell? ⟨b, 1, none⟩ = some z1 ∧ w.cell? ⟨b, 2, none⟩ = some z2 ∧ w.cell? ⟨b, 3, none⟩ = some z3 ∧ w.frozen? ⟨b, 0, none⟩ = false ∧ w.frozen? ⟨b, 1, none⟩ = false ∧ w.frozen? ⟨b, 2, none⟩ = false ∧ w.frozen? ⟨b, 3, none⟩ = false := by
  refine ⟨?_, ?_, ?_, ?_, frozen_of_row w b 0 _ e h, frozen_of_row w b 1 _ e h, frozen_of_row w b 2 _ e h, frozen_of_row w b 3 _ e h⟩ <;> rw [cell_of_row w b _ _ e (0, 0) h] <;> rfl
theorem box4_set {w : World} {b : Nat} {z0 z1 z2 z3 : Value} {e : TypeId} (h : w.heap[b]? = some (.cells #[z0, z1, z2, z3] e (0, 0))) (a0 a1 a2 a3 : Value) : ((((w.setCell ⟨b, 0, none⟩ a0).setCell ⟨b, 1, none⟩ a1).setCell ⟨b, 2, none⟩ a2).setCell ⟨b, 3, none⟩ a3).heap[b]? = some (.cells #[a0, a1, a2, a3] e (0, 0)) :=
  heap_setCell_same _ _ 3 _ e a3 (heap_setCell_same _ _ 2 _ e a2 (heap_setCell_same _ _ 1 _ e a1 (heap_setCell_same _ _ 0 _ e a0 h)))
theorem box4_below {B : Nat} {w w' : World} (h : Below B w w') {b : Nat} (hb : B ≤ b) (a0 a1 a2 a3 : Value) : Below B w ((((w'.setCell ⟨b, 0, none⟩ a0).setCell ⟨b, 1, none⟩ a1).setCell ⟨b, 2, none⟩ a2).setCell ⟨b, 3, none⟩ a3) :=
  (((h.setCell (p := ⟨b, 0, none⟩) hb _).setCell (p := ⟨b, 1, none⟩) hb _).setCell (p := ⟨b, 2, none⟩) hb _).setCell (p := ⟨b, 3, none⟩) hb _
theorem box4_block (w : World) (b k : Nat) (hk : k ≠ b) (a0 a1 a2 a3 : Value) : ((((w.setCell ⟨b, 0, none⟩ a0).setCell ⟨b, 1, none⟩ a1).setCell ⟨b, 2, none⟩ a2).setCell ⟨b, 3, none⟩ a3).heap[k]? = w.heap[k]? :=
  (Below.heap_setCell _ ⟨b, 3, none⟩ _ k hk).trans ((Below.heap_setCell _ ⟨b, 2, none⟩ _ k hk).trans ((Below.heap_setCell _ ⟨b, 1, none⟩ _ k hk).trans (Below.heap_setCell _ ⟨b, 0, none⟩ _ k hk)))
theorem cs_more {n : Nat} {u u' : World} {v : Value} {xs : List Cs} (h : CsR (fun g => n ≤ g ∧ g < u.heap.size) u v xs) (hb : Below u.heap.size u u') : CsR (fun g => n ≤ g ∧ g < u'.heap.size) u' v xs :=
  h.frame fun g hg => ⟨⟨hg.1, Nat.lt_of_lt_of_le hg.2 hb.size⟩, hb.block g hg.2⟩
set_option maxHeartbeats 2000000 in
set_option maxRecDepth 1000000 in
theorem copyItem (F : Nat → Prop) (x : It) (cv : Value) (w : World) (h : CsR F w cv x.cases) (hF : ∀ g, F g → g < w.heap.size) (hx : ItOk x) :
    Calls Tryz.prog 163 #[itv x cv] w fun e w' => ∃ cv', e = .returned (itv x cv') ∧ CsR (Fr w w') w' cv' x.cases ∧ Below w.heap.size w w' := by
  obtain ⟨kd, nm, ty, cs⟩ := x
  obtain ⟨ca, cc, rfl⟩ := h.shape
  obtain ⟨_, _, hn, ht, hcl, hco⟩ := hx
  unfold itv
  simp only at h hn ht hcl hco ⊢
  have hb0 : Below w.heap.size w ((w.alloc (.cells #[.int .i64 kd, .string (str nm), .string (str ty), .slice ca cs.length cc] 78)).alloc (.cells #[.int .i64 0, .string ⟨#[]⟩, .string ⟨#[]⟩, .slice none 0 0] 78)) := ((Below.refl _ _).alloc (Nat.le_refl _) _).alloc (by simp) _
  have hSz : ∀ u, Below (w.heap.size + 2) ((w.alloc (.cells #[.int .i64 kd, .string (str nm), .string (str ty), .slice ca cs.length cc] 78)).alloc (.cells #[.int .i64 0, .string ⟨#[]⟩, .string ⟨#[]⟩, .slice none 0 0] 78)) u → w.heap.size + 2 ≤ u.heap.size := fun u hu => by have := hu.size; simpa using this
  have hN : ∀ u, Below (w.heap.size + 2) ((w.alloc (.cells #[.int .i64 kd, .string (str nm), .string (str ty), .slice ca cs.length cc] 78)).alloc (.cells #[.int .i64 0, .string ⟨#[]⟩, .string ⟨#[]⟩, .slice none 0 0] 78)) u → Below w.heap.size w u := fun u hu => hb0.trans (hu.mono (by omega))
  have hS : ∀ u, Below (w.heap.size + 1) ((w.alloc (.cells #[.int .i64 kd, .string (str nm), .string (str ty), .slice ca cs.length cc] 78)).alloc (.cells #[.int .i64 0, .string ⟨#[]⟩, .string ⟨#[]⟩, .slice none 0 0] 78)) u → u.cell? ⟨w.heap.size, 0, none⟩ = some (.int .i64 kd) ∧ u.cell? ⟨w.heap.size, 1, none⟩ = some (.string (str nm)) ∧ u.cell? ⟨w.heap.size, 2, none⟩ = some (.string (str ty)) ∧ u.cell? ⟨w.heap.size, 3, none⟩ = some (.slice ca cs.length cc) := fun u hu => by
    have k1 : u.heap[w.heap.size]? = some (.cells #[.int .i64 kd, .string (str nm), .string (str ty), .slice ca cs.length cc] 78 (0, 0)) := (hu.block _ (by omega)).trans ((Below.heap_alloc _ _ _ (by simp)).trans (World.alloc_heap_new w _))
    obtain ⟨c0, c1, c2, c3, _⟩ := four4 k1
    exact ⟨c0, c1, c2, c3⟩
  have hS2 : ∀ u, Below (w.heap.size + 2) ((w.alloc (.cells #[.int .i64 kd, .string (str nm), .string (str ty), .slice ca cs.length cc] 78)).alloc (.cells #[.int .i64 0, .string ⟨#[]⟩, .string ⟨#[]⟩, .slice none 0 0] 78)) u → u.cell? ⟨w.heap.size, 0, none⟩ = some (.int .i64 kd) ∧ u.cell? ⟨w.heap.size, 1, none⟩ = some (.string (str nm)) ∧ u.cell? ⟨w.heap.size, 2, none⟩ = some (.string (str ty)) ∧ u.cell? ⟨w.heap.size, 3, none⟩ = some (.slice ca cs.length cc) := fun u hu => hS u (hu.mono (by omega))
  have hS4 : ∀ u a0 a1 a2 a3, Below (w.heap.size + 2) ((w.alloc (.cells #[.int .i64 kd, .string (str nm), .string (str ty), .slice ca cs.length cc] 78)).alloc (.cells #[.int .i64 0, .string ⟨#[]⟩, .string ⟨#[]⟩, .slice none 0 0] 78)) u → ((((u.setCell ⟨w.heap.size + 1, 0, none⟩ a0).setCell ⟨w.heap.size + 1, 1, none⟩ a1).setCell ⟨w.heap.size + 1, 2, none⟩ a2).setCell ⟨w.heap.size + 1, 3, none⟩ a3).cell? ⟨w.heap.size, 0, none⟩ = some (.int .i64 kd) ∧ ((((u.setCell ⟨w.heap.size + 1, 0, none⟩ a0).setCell ⟨w.heap.size + 1, 1, none⟩ a1).setCell ⟨w.heap.size + 1, 2, none⟩ a2).setCell ⟨w.heap.size + 1, 3, none⟩ a3).cell? ⟨w.heap.size, 1, none⟩ = some (.string (str nm)) ∧ ((((u.setCell ⟨w.heap.size + 1, 0, none⟩ a0).setCell ⟨w.heap.size + 1, 1, none⟩ a1).setCell ⟨w.heap.size + 1, 2, none⟩ a2).setCell ⟨w.heap.size + 1, 3, none⟩ a3).cell? ⟨w.heap.size, 2, none⟩ = some (.string (str ty)) ∧ ((((u.setCell ⟨w.heap.size + 1, 0, none⟩ a0).setCell ⟨w.heap.size + 1, 1, none⟩ a1).setCell ⟨w.heap.size + 1, 2, none⟩ a2).setCell ⟨w.heap.size + 1, 3, none⟩ a3).cell? ⟨w.heap.size, 3, none⟩ = some (.slice ca cs.length cc) := fun u a0 a1 a2 a3 hu => hS _ (box4_below (hu.mono (by omega)) (by omega) _ _ _ _)
  have hR : ∀ u, Below (w.heap.size + 2) ((w.alloc (.cells #[.int .i64 kd, .string (str nm), .string (str ty), .slice ca cs.length cc] 78)).alloc (.cells #[.int .i64 0, .string ⟨#[]⟩, .string ⟨#[]⟩, .slice none 0 0] 78)) u → u.heap[w.heap.size + 1]? = some (.cells #[.int .i64 0, .string ⟨#[]⟩, .string ⟨#[]⟩, .slice none 0 0] 78 (0, 0)) := fun u hu => (hu.block _ (by omega)).trans (by have := World.alloc_heap_new (w.alloc (.cells #[.int .i64 kd, .string (str nm), .string (str ty), .slice ca cs.length cc] 78)) (.cells #[.int .i64 0, .string ⟨#[]⟩, .string ⟨#[]⟩, .slice none 0 0] 78); simpa using this)
  have hCC : ∀ u, Below (w.heap.size + 2) ((w.alloc (.cells #[.int .i64 kd, .string (str nm), .string (str ty), .slice ca cs.length cc] 78)).alloc (.cells #[.int .i64 0, .string ⟨#[]⟩, .string ⟨#[]⟩, .slice none 0 0] 78)) u → Calls Tryz.prog 192 #[.slice ca cs.length cc] u fun e w' => ∃ v', e = .returned v' ∧ CsR (Fr u w') w' v' cs ∧ Below u.heap.size u w' := fun u hu =>
    copyCases F _ cs u (h.below (hN u hu) hF) (fun g hg => by have := hF g hg; have := hSz u hu; omega) hcl hco
  have hnext : ∀ u u', Below (w.heap.size + 2) ((w.alloc (.cells #[.int .i64 kd, .string (str nm), .string (str ty), .slice ca cs.length cc] 78)).alloc (.cells #[.int .i64 0, .string ⟨#[]⟩, .string ⟨#[]⟩, .slice none 0 0] 78)) u → Below u.heap.size u u' → Below (w.heap.size + 2) ((w.alloc (.cells #[.int .i64 kd, .string (str nm), .string (str ty), .slice ca cs.length cc] 78)).alloc (.cells #[.int .i64 0, .string ⟨#[]⟩, .string ⟨#[]⟩, .slice none 0 0] 78)) u' := fun u u' hu h => hu.trans (h.mono (hSz u hu))
  have hCm : ∀ u w' v', Below (w.heap.size + 2) ((w.alloc (.cells #[.int .i64 kd, .string (str nm), .string (str ty), .slice ca cs.length cc] 78)).alloc (.cells #[.int .i64 0, .string ⟨#[]⟩, .string ⟨#[]⟩, .slice none 0 0] 78)) u → CsR (Fr u w') w' v' cs → CsR (fun g => w.heap.size + 2 ≤ g ∧ g < w'.heap.size) w' v' cs := fun u w' v' hu ht => ht.frame fun g hg => ⟨⟨by have := hSz u hu; have := hg.1; omega, hg.2⟩, rfl⟩
  have G0 : Below (w.heap.size + 2) ((w.alloc (.cells #[.int .i64 kd, .string (str nm), .string (str ty), .slice ca cs.length cc] 78)).alloc (.cells #[.int .i64 0, .string ⟨#[]⟩, .string ⟨#[]⟩, .slice none 0 0] 78)) ((w.alloc (.cells #[.int .i64 kd, .string (str nm), .string (str ty), .slice ca cs.length cc] 78)).alloc (.cells #[.int .i64 0, .string ⟨#[]⟩, .string ⟨#[]⟩, .slice none 0 0] 78)).drew := (Below.refl _ _).drew
  have G1 : Below (w.heap.size + 2) ((w.alloc (.cells #[.int .i64 kd, .string (str nm), .string (str ty), .slice ca cs.length cc] 78)).alloc (.cells #[.int .i64 0, .string ⟨#[]⟩, .string ⟨#[]⟩, .slice none 0 0] 78)) ((w.alloc (.cells #[.int .i64 kd, .string (str nm), .string (str ty), .slice ca cs.length cc] 78)).alloc (.cells #[.int .i64 0, .string ⟨#[]⟩, .string ⟨#[]⟩, .slice none 0 0] 78)) := Below.refl _ _
  clear h hb0 hF hcl hco
  go_enter Tryz.func163, Tryz.ntmps163
  go_wp2_with fail
  generalize hW : ((w.alloc (.cells #[.int .i64 kd, .string (str nm), .string (str ty), .slice ca cs.length cc] 78)).alloc (.cells #[.int .i64 0, .string ⟨#[]⟩, .string ⟨#[]⟩, .slice none 0 0] 78)) = W2 at *
  clear hW
  obtain ⟨d0, d1, d2, d3⟩ := hS2 _ G0
  have hr := hR _ G0
  obtain ⟨r0, r1, r2, r3, rf0, rf1, rf2, rf3⟩ := four4 hr
  go_region_held3 (fun u => u.cell? ⟨w.heap.size, 0, none⟩ = some (.int .i64 kd) ∧ u.cell? ⟨w.heap.size, 1, none⟩ = some (.string (str nm)) ∧ u.cell? ⟨w.heap.size, 2, none⟩ = some (.string (str ty)) ∧ u.cell? ⟨w.heap.size, 3, none⟩ = some (.slice ca cs.length cc)) (first | go_keep | exact hS2 _ (by assumption) | exact hS4 _ _ _ _ _ (by assumption)) (first
    | (go_at_call_of 47 (str nm); refine (sCloneT nm _ hn).mono ?_; rintro e wa ⟨rfl, hba⟩; have Ga := hnext _ _ (by assumption) hba; obtain ⟨d0, d1, d2, d3⟩ := hS2 _ Ga; have hr := hR _ Ga; obtain ⟨r0, r1, r2, r3, rf0, rf1, rf2, rf3⟩ := four4 hr; try (have hC5 := cs_more hC5 hba); clear hba)
    | (go_at_call_of 47 (str ty); refine (sCloneT ty _ ht).mono ?_; rintro e wb ⟨rfl, hbb⟩; have Gb := hnext _ _ (by assumption) hbb; obtain ⟨d0, d1, d2, d3⟩ := hS2 _ Gb; have hr := hR _ Gb; obtain ⟨r0, r1, r2, r3, rf0, rf1, rf2, rf3⟩ := four4 hr; try (have hC5 := cs_more hC5 hbb); clear hbb)
    | (go_at_call 192; refine (hCC _ (by assumption)).mono ?_; rintro e wc ⟨v5, rfl, hC4, hbc⟩; have hC5 := hCm _ _ _ (by assumption) hC4; obtain ⟨ga, gc, rfl⟩ := hC5.shape; have Gc := hnext _ _ (by assumption) hbc; obtain ⟨d0, d1, d2, d3⟩ := hS2 _ Gc; have hr := hR _ Gc; obtain ⟨r0, r1, r2, r3, rf0, rf1, rf2, rf3⟩ := four4 hr; clear hbc hC4))
  all_goals (
    go_wp2
    (try simp only [Exit.inBlock, Exit.then])
    refine bodyPost_ret (results_cell_row rfl _ _ (w.heap.size + 1) 78 _ (0, 0) _ rfl (box4_set hr _ _ _ _) Tryz.underlying78 rfl sizeIt) rfl ?_
    refine ⟨.slice ga cs.length gc, rfl, hC5.frame fun g hg => ⟨⟨by have := hg.1; omega, ?_⟩, box4_block _ _ _ (by have := hg.1; omega) _ _ _ _⟩, box4_below (hN _ (by assumption)) (by omega) _ _ _ _⟩
    have := hg.2
    simpa using this)
end Go.Proofs.YtfjppbpicmniaaaGreatDoor

namespace Go.Proofs.YtfjppbpicmniaaaGreatDoor
open Go.RowKit

def it0 : It := ⟨0, [], [], []⟩
def FindE (l : List It) (q : List UInt8) (w : World) (e : Ending) (w' : World) : Prop := ∃ x cv, e = .returned (.tuple #[itv x cv, .bool (findI l q).isSome]) ∧ x = (findI l q).getD it0 ∧ CsR (Fr w w') w' cv x.cases ∧ Below w.heap.size w w'
theorem findI_at (l : List It) (q : List UInt8) (k : Nat) (h : k < l.length) : findI (l.drop k) q = if l[k].name = q then some l[k] else findI (l.drop (k + 1)) q := by
  rw [List.drop_eq_getElem_cons h, findI, List.find?_cons]
  by_cases e : l[k].name = q
  · simp [e]
  · simp [e, findI]
set_option maxHeartbeats 2000000 in
set_option maxRecDepth 1000000 in
theorem find7 (F : Nat → Prop) (m : List UInt8) (l : List It) (va : Option Addr) (vc : Nat) (q : List UInt8) (w : World) (h : ItR F w (.slice va l.length vc) l) (hF : ∀ g, F g → g < w.heap.size) (hok : ∀ x ∈ l, ItOk x) (hl : l.length ≤ 2199023255552) :
    Calls Tryz.prog 111 #[.agg #[.string (str m), .slice va l.length vc], .string (str q)] w (FindE l q w) := by
  have hb0 : Below w.heap.size w ((w.alloc (.cells #[.string (str m), .slice va l.length vc] 56)).alloc (.cells #[.int .i64 0, .string ⟨#[]⟩, .string ⟨#[]⟩, .slice none 0 0] 78)) := ((Below.refl _ _).alloc (Nat.le_refl _) _).alloc (by simp) _
  have hSz : ∀ u, Below (w.heap.size + 2) ((w.alloc (.cells #[.string (str m), .slice va l.length vc] 56)).alloc (.cells #[.int .i64 0, .string ⟨#[]⟩, .string ⟨#[]⟩, .slice none 0 0] 78)) u → w.heap.size + 2 ≤ u.heap.size := fun u hu => by have := hu.size; simpa using this
  have hN : ∀ u, Below (w.heap.size + 2) ((w.alloc (.cells #[.string (str m), .slice va l.length vc] 56)).alloc (.cells #[.int .i64 0, .string ⟨#[]⟩, .string ⟨#[]⟩, .slice none 0 0] 78)) u → Below w.heap.size w u := fun u hu => hb0.trans (hu.mono (by omega))
  have hR : ∀ u, Below (w.heap.size + 2) ((w.alloc (.cells #[.string (str m), .slice va l.length vc] 56)).alloc (.cells #[.int .i64 0, .string ⟨#[]⟩, .string ⟨#[]⟩, .slice none 0 0] 78)) u → u.heap[w.heap.size + 1]? = some (.cells #[.int .i64 0, .string ⟨#[]⟩, .string ⟨#[]⟩, .slice none 0 0] 78 (0, 0)) := fun u hu => (hu.block _ (by omega)).trans (by have := World.alloc_heap_new (w.alloc (.cells #[.string (str m), .slice va l.length vc] 56)) (.cells #[.int .i64 0, .string ⟨#[]⟩, .string ⟨#[]⟩, .slice none 0 0] 78); simpa using this)
  have hI : ∀ u, Below (w.heap.size + 2) ((w.alloc (.cells #[.string (str m), .slice va l.length vc] 56)).alloc (.cells #[.int .i64 0, .string ⟨#[]⟩, .string ⟨#[]⟩, .slice none 0 0] 78)) u → ItR F u (.slice va l.length vc) l := fun u hu => h.below (hN u hu) hF
  have hFu : ∀ u, Below (w.heap.size + 2) ((w.alloc (.cells #[.string (str m), .slice va l.length vc] 56)).alloc (.cells #[.int .i64 0, .string ⟨#[]⟩, .string ⟨#[]⟩, .slice none 0 0] 78)) u → ∀ g, F g → g < u.heap.size := fun u hu g hg => by have := hF g hg; have := hSz u hu; omega
  have hnext : ∀ u u', Below (w.heap.size + 2) ((w.alloc (.cells #[.string (str m), .slice va l.length vc] 56)).alloc (.cells #[.int .i64 0, .string ⟨#[]⟩, .string ⟨#[]⟩, .slice none 0 0] 78)) u → Below u.heap.size u u' → Below (w.heap.size + 2) ((w.alloc (.cells #[.string (str m), .slice va l.length vc] 56)).alloc (.cells #[.int .i64 0, .string ⟨#[]⟩, .string ⟨#[]⟩, .slice none 0 0] 78)) u' := fun u u' hu h => hu.trans (h.mono (hSz u hu))
  have G0 : Below (w.heap.size + 2) ((w.alloc (.cells #[.string (str m), .slice va l.length vc] 56)).alloc (.cells #[.int .i64 0, .string ⟨#[]⟩, .string ⟨#[]⟩, .slice none 0 0] 78)) ((w.alloc (.cells #[.string (str m), .slice va l.length vc] 56)).alloc (.cells #[.int .i64 0, .string ⟨#[]⟩, .string ⟨#[]⟩, .slice none 0 0] 78)) := Below.refl _ _
  clear h hb0
  go_enter Tryz.func111, Tryz.ntmps111
  go_wp2
  generalize hW : ((w.alloc (.cells #[.string (str m), .slice va l.length vc] 56)).alloc (.cells #[.int .i64 0, .string ⟨#[]⟩, .string ⟨#[]⟩, .slice none 0 0] 78)) = W2 at *
  clear hW
  go_loopg [11] l.length (fun g i wr => ∃ (k : Nat), g + k = l.length ∧ i = .int .i64 (k : Int) ∧ Hid (findI l q = findI (l.drop k) q) ∧ Below (w.heap.size + 2) W2 wr)
  case atStart => exact ⟨0, by simp, rfl, by simp [Hid], G0⟩
  case round =>
    obtain ⟨k, hg, rfl, hq, Gr⟩ := hrel
    by_cases hk : k < l.length
    · obtain ⟨bk, o, c, cv, e1, hgF, hC, q0, q1, q2, q3⟩ := (hI _ Gr).at k hk
      simp only [Value.slice.injEq, true_and] at e1
      obtain ⟨rfl, rfl⟩ := e1
      obtain ⟨ca, cc, rfl⟩ := hC.shape
      have hki : (k : Int) < (l.length : Int) := by omega
      have hx := hok _ (List.getElem_mem hk)
      have HQ := hq.out
      rw [findI_at l q k hk] at HQ
      clear hq
      generalize l[k] = x at *
      obtain ⟨kd, nm, ty, cs⟩ := x
      simp only at hC q0 q1 q2 q3 HQ
      have he := eq_is nm q
      have hba : Below wr.heap.size wr (wr.alloc (.cells #[.int .i64 kd, .string (str nm), .string (str ty), .slice ca cs.length cc] 78)) := (Below.refl _ _).alloc (Nat.le_refl _) _
      have Ga := hnext _ _ Gr hba
      by_cases hn : nm = q
      · rw [decide_eq_true hn] at he
        rw [if_pos hn] at HQ
        replace HQ := hidden HQ
        have hcp := copyItem F ⟨kd, nm, ty, cs⟩ (.slice ca cs.length cc) _ (hC.below hba (hFu _ Gr)) (hFu _ Ga) hx
        unfold itv at hcp
        simp only at hcp
        clear hn hI hok hx
        go_wp2_with fail
        refine hcp.mono ?_
        rintro e w3 ⟨cv', rfl, hC3, hb3⟩
        obtain ⟨da, dc, rfl⟩ := hC3.shape
        (try simp only at hC3)
        have G3 := hnext _ _ Ga hb3
        have hr := hR _ G3
        have hsa := hSz _ Ga
        have hbw := (hN _ G3).trans ((setRow_below w3 (w.heap.size + 1) #[.int .i64 kd, .string (str nm), .string (str ty), .slice da cs.length dc]).mono (by omega))
        have hC4 : CsR (Fr w (w3.setRow (w.heap.size + 1) #[.int .i64 kd, .string (str nm), .string (str ty), .slice da cs.length dc])) (w3.setRow (w.heap.size + 1) #[.int .i64 kd, .string (str nm), .string (str ty), .slice da cs.length dc]) (.slice da cs.length dc) cs := hC3.frame fun g hg => by
          have := hg.1
          refine ⟨⟨by omega, by simpa [World.setRow] using hg.2⟩, ?_⟩
          simp only [World.setRow]
          rw [Array.getElem?_modify, if_neg (by omega)]
        clear hcp hC3 hb3 G3 hsa
        go_wp2_with (refine wpList_store_row rfl 78 (.tmp 4) (.tmp 20) rfl (w.heap.size + 1) #[.int .i64 kd, .string (str nm), .string (str ty), .slice da cs.length dc] rfl rfl 78 #[.int .i64 0, .string ⟨#[]⟩, .string ⟨#[]⟩, .slice none 0 0] hr sizeIt rfl (by first | kernel_rfl | rfl | simp [Value.oneCell']) ?_)
        (try simp only [Exit.inBlock, Exit.then])
        refine bodyPost_ret (res7 rfl _ _ (w.heap.size + 1) 78 #[.int .i64 kd, .string (str nm), .string (str ty), .slice da cs.length dc] (0, 0) _ rfl (setRow_heap w3 (w.heap.size + 1) _ _ 78 (0, 0) hr) Tryz.underlying78 rfl sizeIt) rfl ?_
        exact ⟨⟨kd, nm, ty, cs⟩, _, by rw [HQ.out]; rfl, by rw [HQ.out]; rfl, hC4, hbw⟩
      · rw [decide_eq_false hn] at he
        rw [if_neg hn] at HQ
        replace HQ := hidden HQ
        clear hn hI hok hx
        go_wp2
        go_roundg (l.length - (k + 1))
        case measure => omega
        case rel => exact ⟨k + 1, by omega, by go_num, HQ, Ga⟩
    · have hki : ¬ (k : Int) < (l.length : Int) := by omega
      have HX : Hid (findI l q = none) := by
        rw [hid_iff, hq.out, List.drop_of_length_le (by omega)]
        rfl
      have hr := hR _ Gr
      have hbw := (hN _ Gr).trans ((setRow_below wr (w.heap.size + 1) #[.int .i64 0, .string ⟨#[]⟩, .string ⟨#[]⟩, .slice none 0 0]).mono (by omega))
      clear hq hI
      go_wp2_with (refine wpList_store_row rfl 78 (.tmp 4) (.tmp 22) rfl (w.heap.size + 1) #[.int .i64 0, .string ⟨#[]⟩, .string ⟨#[]⟩, .slice none 0 0] rfl rfl 78 #[.int .i64 0, .string ⟨#[]⟩, .string ⟨#[]⟩, .slice none 0 0] hr sizeIt rfl (by kernel_rfl) ?_)
      (try simp only [Exit.inBlock, Exit.then])
      refine bodyPost_ret (res7 rfl _ _ (w.heap.size + 1) 78 #[.int .i64 0, .string ⟨#[]⟩, .string ⟨#[]⟩, .slice none 0 0] (0, 0) _ rfl (setRow_heap wr (w.heap.size + 1) _ _ 78 (0, 0) hr) Tryz.underlying78 rfl sizeIt) rfl ?_
      exact ⟨it0, .slice none 0 0, by rw [HX.out]; rfl, by rw [HX.out]; rfl, CsR.nil _ _, hbw⟩
end Go.Proofs.YtfjppbpicmniaaaGreatDoor

namespace Go.Proofs.YtfjppbpicmniaaaGreatDoor
open Go.RowKit

theorem ownO_types {o : Ob} {q : List UInt8} (hq : q ≠ []) (hg : ∀ g ∈ o.globals, g.name ≠ q) (hf : ∀ f ∈ o.funs, f.name ≠ q) : ownO o q = findI o.types q := by
  have h1 : o.globals.find? (fun g => decide (g.name = q)) = none := List.find?_eq_none.2 fun g h => by simpa using hg g h
  have h2 : o.funs.find? (fun f => decide (f.name = q)) = none := List.find?_eq_none.2 fun f h => by simpa using hf f h
  rw [ownO, if_neg hq, h1, h2]
/-- What named answers, told by the refusal alone. -/
def NamedN (o : Ob) (q : List UInt8) (w : World) (e : Ending) (w' : World) : Prop := ∃ x ca cn cc, e = .returned (.tuple #[itv x (.slice ca cn cc), .bool (ownO o q).isSome]) ∧ Below w.heap.size w w'
set_option maxHeartbeats 4000000 in
set_option maxRecDepth 1000000 in
theorem onamed_types (F : Nat → Prop) (u : ObV) (o : Ob) (q : List UInt8) (w : World) (h : ObR F w u o) (hF : ∀ g, F g → g < w.heap.size) (hok : ObOk o) (hq : q ≠ []) (hg : ∀ g ∈ o.globals, g.name ≠ q) (hf : ∀ f ∈ o.funs, f.name ≠ q) (hnt : o.types.length ≤ 2199023255552) : Calls Tryz.prog 53 #[obv u o.mod, .string (str q)] w (NamedN o q w) := by
  have HO := hidden (ownO_types hq hg hf)
  unfold NamedN
  generalize ownO o q = ow at *
  have hnn := nil_text q
  rw [decide_eq_false hq] at hnn
  have hnq : ¬ (str q).toList = [] := by
    intro hh
    rw [hh] at hnn
    cases hnn
  have hTy := h.types
  have hGl := h.globals
  have hFn := h.funs
  have hot := hok.types
  obtain ⟨a2, c2, e2⟩ := h.texts.1.shape
  obtain ⟨a5, c5, e5⟩ := h.exports.1.shape
  obtain ⟨a6, c6, e6⟩ := h.symbols.shape
  obtain ⟨a7, c7, e7⟩ := h.relocs.shape
  have hng := hok.ng
  have hnf := hok.nf
  obtain ⟨m, ts, xs, gs, fs, es, ss, rs⟩ := o
  obtain ⟨tv, xv, gv, fv, ev, sv, rv⟩ := u
  unfold obv
  simp only at *
  subst e2 e5 e6 e7
  obtain ⟨a1, c1, rfl⟩ := hTy.shape
  obtain ⟨a3, c3, rfl⟩ := hGl.shape
  obtain ⟨a4, c4, rfl⟩ := hFn.shape
  generalize xs.length = n2 at *
  generalize es.length = n5 at *
  generalize ss.length = n6 at *
  generalize rs.length = n7 at *
  generalize hW : w.alloc (.cells #[.string (str m), .slice a1 ts.length c1, .slice a2 n2 c2, .slice a3 gs.length c3, .slice a4 fs.length c4, .slice a5 n5 c5, .slice a6 n6 c6, .slice a7 n7 c7] 29) = W0 at *
  have hb0 : Below w.heap.size w W0 := by rw [← hW]; exact (Below.refl _ _).alloc (Nat.le_refl _) _
  have hs0 : W0.heap.size = w.heap.size + 1 := by rw [← hW]; simp
  have hN0 := heap_alloc_new w (.cells #[.string (str m), .slice a1 ts.length c1, .slice a2 n2 c2, .slice a3 gs.length c3, .slice a4 fs.length c4, .slice a5 n5 c5, .slice a6 n6 c6, .slice a7 n7 c7] 29)
  rw [hW] at hN0
  generalize hW1 : W0.alloc (.cells #[.int .i64 0, .string ⟨#[]⟩, .string ⟨#[]⟩, .slice none 0 0] 78) = W1 at *
  have hb1 : Below W0.heap.size W0 W1 := by rw [← hW1]; exact (Below.refl _ _).alloc (Nat.le_refl _) _
  have hs1 : W1.heap.size = w.heap.size + 2 := by rw [← hW1]; simp; omega
  have hN1 := heap_alloc_new W0 (.cells #[.int .i64 0, .string ⟨#[]⟩, .string ⟨#[]⟩, .slice none 0 0] 78)
  rw [hW1, hs0] at hN1
  have hbw : Below w.heap.size w W1 := below_trans hb0 hb1
  have HC : ∀ u, Below W1.heap.size W1 u → u.cell? ⟨w.heap.size, 1, none⟩ = some (.slice a1 ts.length c1) ∧ u.cell? ⟨w.heap.size, 3, none⟩ = some (.slice a3 gs.length c3) ∧ u.cell? ⟨w.heap.size, 4, none⟩ = some (.slice a4 fs.length c4) ∧ u.heap[w.heap.size + 1]? = some (.cells #[.int .i64 0, .string ⟨#[]⟩, .string ⟨#[]⟩, .slice none 0 0] 78 (0, 0)) ∧ Below w.heap.size w u := by
    intro u hu
    have n0 := (hu.block w.heap.size (by omega)).trans ((hb1.block _ (by omega)).trans hN0)
    have n1 := (hu.block (w.heap.size + 1) (by omega)).trans hN1
    exact ⟨by rw [cell_of_row u _ 1 _ _ _ n0]; rfl, by rw [cell_of_row u _ 3 _ _ _ n0]; rfl, by rw [cell_of_row u _ 4 _ _ _ n0]; rfl, n1, below_trans hbw hu⟩
  have HCh := hidden HC
  obtain ⟨z1, z3, z4, z9, _⟩ := HC W1 (Below.refl _ _)
  have HTy := hidden hTy
  have HGl := hidden hGl
  have HFn := hidden hFn
  have HgN := hidden hg
  have HfN := hidden hf
  clear h hTy hGl hFn hg hf HC hN0 hN1 hok z9
  go_enter Tryz.func53, Tryz.ntmps53
  go_wp2_with fail
  go_loopg [16] gs.length (fun g i wr => ∃ (k : Nat), g + k = gs.length ∧ i = .int .i64 (k : Int) ∧ Below W1.heap.size W1 wr)
  case atStart => exact ⟨0, by omega, rfl, Below.refl _ _⟩
  case round =>
    obtain ⟨k, hgk, rfl, hbl⟩ := hrel
    obtain ⟨y1, y3, y4, y9, hwr⟩ := HCh.out wr hbl
    by_cases hk : k < gs.length
    · obtain ⟨g, of, cap, cs, e1, _, hgF, hC, hcell⟩ := (HGl.out.below cGl_stay hwr hF).at k hk
      simp only [Value.slice.injEq, true_and] at e1
      obtain ⟨rfl, rfl⟩ := e1
      unfold cGl at hC
      subst hC
      have q0 := hcell 0 _ rfl
      have q1 := hcell 1 _ rfl
      have q2 := hcell 2 _ rfl
      simp only [Nat.add_zero] at q0
      have hki : (k : Int) < (gs.length : Int) := by omega
      have he := eq_is gs[k].name q
      rw [decide_eq_false (HgN.out _ (List.getElem_mem hk))] at he
      generalize gs[k].name = xn at *
      generalize gs[k].ty = xt at *
      generalize gs[k].fn = xf at *
      have hba := hbl.trans (((Below.refl wr.heap.size wr).alloc (Nat.le_refl _) (.cells #[.string (str xn), .string (str xt), .int .i64 xf] 74)).mono hbl.size)
      clear hcell y1 y3 y4 y9
      go_wp2
      go_roundg (gs.length - (k + 1))
      case measure => omega
      case rel => exact ⟨k + 1, by omega, by go_num, hba⟩
    · have hki : ¬ (k : Int) < (gs.length : Int) := by omega
      go_wp2_with fail
      go_loopg [34] fs.length (fun g i wr' => ∃ (k : Nat), g + k = fs.length ∧ i = .int .i64 (k : Int) ∧ Below W1.heap.size W1 wr')
      case atStart => exact ⟨0, by omega, rfl, hbl⟩
      case round =>
        clear y1 y3 y4 y9 hwr hbl hgk hk hki
        obtain ⟨k2, hgk, rfl, hbl⟩ := hrel
        rename World => wi
        obtain ⟨y1, y3, y4, y9, hwr⟩ := HCh.out wi hbl
        by_cases hk : k2 < fs.length
        · obtain ⟨g, of, cap, cs, e1, _, hgF, hC, hcell⟩ := (HFn.out.below cFn_stay hwr hF).at k2 hk
          simp only [Value.slice.injEq, true_and] at e1
          obtain ⟨rfl, rfl⟩ := e1
          obtain ⟨pv, kv, rfl, hpv, hkv⟩ := hC
          have q0 := hcell 0 _ rfl
          have q1 := hcell 1 _ rfl
          have q2 := hcell 2 _ rfl
          have q3 := hcell 3 _ rfl
          have q4 := hcell 4 _ rfl
          have q5 := hcell 5 _ rfl
          simp only [Nat.add_zero] at q0
          have hki : (k2 : Int) < (fs.length : Int) := by omega
          have he := eq_is fs[k2].name q
          rw [decide_eq_false (HfN.out _ (List.getElem_mem hk))] at he
          obtain ⟨pa, pc, rfl⟩ := hpv.1.shape
          obtain ⟨ka, kc, rfl⟩ := hkv.shape
          generalize fs[k2].name = xn at *
          generalize fs[k2].caps = xp at *
          generalize fs[k2].res = xt at *
          generalize fs[k2].locals = xl at *
          have hba := hbl.trans (((Below.refl wi.heap.size wi).alloc (Nat.le_refl _) (.cells #[.string (str xn), .slice pa fs[k2].params.length pc, .int .i64 xp, .string (str xt), .int .i64 xl, .slice ka fs[k2].code.length kc] 52)).mono hbl.size)
          clear hcell hpv hkv y1 y3 y4 y9
          go_wp2
          go_roundg (fs.length - (k2 + 1))
          case measure => omega
          case rel => exact ⟨k2 + 1, by omega, by go_num, hba⟩
        · have hki : ¬ (k2 : Int) < (fs.length : Int) := by omega
          have hFd := find7 F [] ts a1 c1 q wi (HTy.out.below hwr hF) (fun g hg => Nat.lt_of_lt_of_le (hF g hg) hwr.size) hot hnt
          unfold FindE at hFd
          rw [← HO.out] at hFd
          go_wp2_with fail
          refine hFd.mono ?_
          rintro e w5 ⟨x, cv, rfl, hx, hcv, hb5⟩
          obtain ⟨ca, cc, rfl⟩ := hcv.shape
          have hb15 := below_trans hbl hb5
          obtain ⟨-, -, -, y9', hw5⟩ := HCh.out w5 hb15
          obtain ⟨kd, nm, ty, cs⟩ := x
          unfold itv
          simp only
          generalize cs.length = cn at *
          have hsw : w.heap.size ≤ w5.heap.size := hw5.size
          have hbe := hw5.trans ((setRow_below w5 (w.heap.size + 1) #[.int .i64 kd, .string (str nm), .string (str ty), .slice ca cn cc]).mono (by omega))
          clear hFd hcv hx
          go_wp2_with (refine wpList_store_row rfl 78 (.tmp 4) (.tmp 53) rfl (w.heap.size + 1) #[.int .i64 kd, .string (str nm), .string (str ty), .slice ca cn cc] rfl rfl 78 #[.int .i64 0, .string ⟨#[]⟩, .string ⟨#[]⟩, .slice none 0 0] y9' sizeIt rfl (by first | kernel_rfl | rfl | simp [Value.oneCell']) ?_)
          (try simp only [Exit.inBlock, Exit.then])
          refine bodyPost_ret (res7 rfl _ _ (w.heap.size + 1) 78 #[.int .i64 kd, .string (str nm), .string (str ty), .slice ca cn cc] (0, 0) _ rfl (setRow_heap w5 (w.heap.size + 1) _ _ 78 (0, 0) y9') Tryz.underlying78 rfl sizeIt) rfl ?_
          exact ⟨⟨kd, nm, ty, []⟩, ca, cn, cc, rfl, hbe⟩
end Go.Proofs.YtfjppbpicmniaaaGreatDoor
