/-
  The package's Find, and the copy that it answers.
  And: The package's Find. What the statement on Same asks, without a program: either way, with one thing turned, and of Breaks. The document's own Find and Same. The document's own Put at long rows: its walk. The document's own Breaks. The statements' Same at texts.
-/
import Derived.Deep.RegionHeld3
import Derived.Deep.LoopGhost
import Derived.Laws.Rows
import Derived.Test.YtalbjbahgbkifaaGreatIfcB
import Derived.Test.YtalbjbahgbkifaaGreatIfaceKnown
import Derived.Test.YtalbjbahgbkifaaGreatIfaceBytes
import Derived.Deep.QuietTactic
import Derived.BigQuiet
import Derived.Test.YtalbjbahgbkifaaGreatIfaceSameW
import Derived.Test.YtalbjbahgbkifaaGreatTypesCmp
import Derived.Deep.CutRange
import Derived.Test.YtalbjbahgbkifaaGreatLexLabels
import Derived.Test.YtalbjbahgbkifaaGreatTypesParts
namespace Go.Proofs.YtalbjbahgbkifaaGreat
open Go.RowKit

theorem four4 {w : World} {b : Nat} {z0 z1 z2 z3 : Value} {e : TypeId} (h : w.heap[b]? = some (.cells #[z0, z1, z2, z3] e (0, 0))) : w.cell? ⟨b, 0, none⟩ = some z0 ∧ w.cell? ⟨b, 1, none⟩ = some z1 ∧ w.cell? ⟨b, 2, none⟩ = some z2 ∧ w.cell? ⟨b, 3, none⟩ = some z3 ∧ w.frozen? ⟨b, 0, none⟩ = false ∧ w.frozen? ⟨b, 1, none⟩ = false ∧ w.frozen? ⟨b, 2, none⟩ = false ∧ w.frozen? ⟨b, 3, none⟩ = false := by
  refine ⟨?_, ?_, ?_, ?_, frozen_of_row w b 0 _ e h, frozen_of_row w b 1 _ e h, frozen_of_row w b 2 _ e h, frozen_of_row w b 3 _ e h⟩ <;> rw [cell_of_row w b _ _ e (0, 0) h] <;> rfl
theorem box4_set {w : World} {b : Nat} {z0 z1 z2 z3 : Value} {e : TypeId} (h : w.heap[b]? = some (.cells #[z0, z1, z2, z3] e (0, 0))) (a0 a1 a2 a3 : Value) : ((((w.setCell ⟨b, 0, none⟩ a0).setCell ⟨b, 1, none⟩ a1).setCell ⟨b, 2, none⟩ a2).setCell ⟨b, 3, none⟩ a3).heap[b]? = some (.cells #[a0, a1, a2, a3] e (0, 0)) :=
  heap_setCell_same _ _ 3 _ e a3 (heap_setCell_same _ _ 2 _ e a2 (heap_setCell_same _ _ 1 _ e a1 (heap_setCell_same _ _ 0 _ e a0 h)))
theorem box4_below {B : Nat} {w w' : World} (h : Below B w w') {b : Nat} (hb : B ≤ b) (a0 a1 a2 a3 : Value) : Below B w ((((w'.setCell ⟨b, 0, none⟩ a0).setCell ⟨b, 1, none⟩ a1).setCell ⟨b, 2, none⟩ a2).setCell ⟨b, 3, none⟩ a3) :=
  (((h.setCell (p := ⟨b, 0, none⟩) hb _).setCell (p := ⟨b, 1, none⟩) hb _).setCell (p := ⟨b, 2, none⟩) hb _).setCell (p := ⟨b, 3, none⟩) hb _
theorem box4_block (w : World) (b k : Nat) (hk : k ≠ b) (a0 a1 a2 a3 : Value) : ((((w.setCell ⟨b, 0, none⟩ a0).setCell ⟨b, 1, none⟩ a1).setCell ⟨b, 2, none⟩ a2).setCell ⟨b, 3, none⟩ a3).heap[k]? = w.heap[k]? :=
  (Below.heap_setCell _ ⟨b, 3, none⟩ _ k hk).trans ((Below.heap_setCell _ ⟨b, 2, none⟩ _ k hk).trans ((Below.heap_setCell _ ⟨b, 1, none⟩ _ k hk).trans (Below.heap_setCell _ ⟨b, 0, none⟩ _ k hk)))
theorem cs_more {n : Nat} {u u' : World} {v : Value} {xs : List Cs} (h : CsR (fun g => n ≤ g ∧ g < u.heap.size) u v xs) (hb : Below u.heap.size u u') : CsR (fun g => n ≤ g ∧ g < u'.heap.size) u' v xs :=
  h.frame fun g hg => ⟨⟨hg.1, Nat.lt_of_lt_of_le hg.2 hb.size⟩, hb.block g hg.2⟩
set_option maxHeartbeats 2000000 in
set_option maxRecDepth 1000000 in
theorem copyItem (F : Nat → Prop) (x : It) (cv : Value) (w : World) (h : CsR F w cv x.cases) (hF : ∀ g, F g → g < w.heap.size) (hx : ItOk x) :
    Calls Tryz.prog 32 #[itv x cv] w fun e w' => ∃ cv', e = .returned (itv x cv') ∧ CsR (Fr w w') w' cv' x.cases ∧ Below w.heap.size w w' := by
  obtain ⟨kd, nm, ty, cs⟩ := x
  obtain ⟨ca, cc, rfl⟩ := h.shape
  obtain ⟨_, _, hn, ht, hcl, hco⟩ := hx
  unfold itv
  simp only at h hn ht hcl hco ⊢
  have hb0 : Below w.heap.size w ((w.alloc (.cells #[.int .i64 kd, .string (str nm), .string (str ty), .slice ca cs.length cc] 34)).alloc (.cells #[.int .i64 0, .string ⟨#[]⟩, .string ⟨#[]⟩, .slice none 0 0] 34)) := ((Below.refl _ _).alloc (Nat.le_refl _) _).alloc (by simp) _
  have hSz : ∀ u, Below (w.heap.size + 2) ((w.alloc (.cells #[.int .i64 kd, .string (str nm), .string (str ty), .slice ca cs.length cc] 34)).alloc (.cells #[.int .i64 0, .string ⟨#[]⟩, .string ⟨#[]⟩, .slice none 0 0] 34)) u → w.heap.size + 2 ≤ u.heap.size := fun u hu => by have := hu.size; simpa using this
  have hN : ∀ u, Below (w.heap.size + 2) ((w.alloc (.cells #[.int .i64 kd, .string (str nm), .string (str ty), .slice ca cs.length cc] 34)).alloc (.cells #[.int .i64 0, .string ⟨#[]⟩, .string ⟨#[]⟩, .slice none 0 0] 34)) u → Below w.heap.size w u := fun u hu => hb0.trans (hu.mono (by omega))
  have hS : ∀ u, Below (w.heap.size + 1) ((w.alloc (.cells #[.int .i64 kd, .string (str nm), .string (str ty), .slice ca cs.length cc] 34)).alloc (.cells #[.int .i64 0, .string ⟨#[]⟩, .string ⟨#[]⟩, .slice none 0 0] 34)) u → u.cell? ⟨w.heap.size, 0, none⟩ = some (.int .i64 kd) ∧ u.cell? ⟨w.heap.size, 1, none⟩ = some (.string (str nm)) ∧ u.cell? ⟨w.heap.size, 2, none⟩ = some (.string (str ty)) ∧ u.cell? ⟨w.heap.size, 3, none⟩ = some (.slice ca cs.length cc) := fun u hu => by
    have k1 : u.heap[w.heap.size]? = some (.cells #[.int .i64 kd, .string (str nm), .string (str ty), .slice ca cs.length cc] 34 (0, 0)) := (hu.block _ (by omega)).trans ((Below.heap_alloc _ _ _ (by simp)).trans (World.alloc_heap_new w _))
    obtain ⟨c0, c1, c2, c3, _⟩ := four4 k1
    exact ⟨c0, c1, c2, c3⟩
  have hS2 : ∀ u, Below (w.heap.size + 2) ((w.alloc (.cells #[.int .i64 kd, .string (str nm), .string (str ty), .slice ca cs.length cc] 34)).alloc (.cells #[.int .i64 0, .string ⟨#[]⟩, .string ⟨#[]⟩, .slice none 0 0] 34)) u → u.cell? ⟨w.heap.size, 0, none⟩ = some (.int .i64 kd) ∧ u.cell? ⟨w.heap.size, 1, none⟩ = some (.string (str nm)) ∧ u.cell? ⟨w.heap.size, 2, none⟩ = some (.string (str ty)) ∧ u.cell? ⟨w.heap.size, 3, none⟩ = some (.slice ca cs.length cc) := fun u hu => hS u (hu.mono (by omega))
  have hS4 : ∀ u a0 a1 a2 a3, Below (w.heap.size + 2) ((w.alloc (.cells #[.int .i64 kd, .string (str nm), .string (str ty), .slice ca cs.length cc] 34)).alloc (.cells #[.int .i64 0, .string ⟨#[]⟩, .string ⟨#[]⟩, .slice none 0 0] 34)) u → ((((u.setCell ⟨w.heap.size + 1, 0, none⟩ a0).setCell ⟨w.heap.size + 1, 1, none⟩ a1).setCell ⟨w.heap.size + 1, 2, none⟩ a2).setCell ⟨w.heap.size + 1, 3, none⟩ a3).cell? ⟨w.heap.size, 0, none⟩ = some (.int .i64 kd) ∧ ((((u.setCell ⟨w.heap.size + 1, 0, none⟩ a0).setCell ⟨w.heap.size + 1, 1, none⟩ a1).setCell ⟨w.heap.size + 1, 2, none⟩ a2).setCell ⟨w.heap.size + 1, 3, none⟩ a3).cell? ⟨w.heap.size, 1, none⟩ = some (.string (str nm)) ∧ ((((u.setCell ⟨w.heap.size + 1, 0, none⟩ a0).setCell ⟨w.heap.size + 1, 1, none⟩ a1).setCell ⟨w.heap.size + 1, 2, none⟩ a2).setCell ⟨w.heap.size + 1, 3, none⟩ a3).cell? ⟨w.heap.size, 2, none⟩ = some (.string (str ty)) ∧ ((((u.setCell ⟨w.heap.size + 1, 0, none⟩ a0).setCell ⟨w.heap.size + 1, 1, none⟩ a1).setCell ⟨w.heap.size + 1, 2, none⟩ a2).setCell ⟨w.heap.size + 1, 3, none⟩ a3).cell? ⟨w.heap.size, 3, none⟩ = some (.slice ca cs.length cc) := fun u a0 a1 a2 a3 hu => hS _ (box4_below (hu.mono (by omega)) (by omega) _ _ _ _)
  have hR : ∀ u, Below (w.heap.size + 2) ((w.alloc (.cells #[.int .i64 kd, .string (str nm), .string (str ty), .slice ca cs.length cc] 34)).alloc (.cells #[.int .i64 0, .string ⟨#[]⟩, .string ⟨#[]⟩, .slice none 0 0] 34)) u → u.heap[w.heap.size + 1]? = some (.cells #[.int .i64 0, .string ⟨#[]⟩, .string ⟨#[]⟩, .slice none 0 0] 34 (0, 0)) := fun u hu => (hu.block _ (by omega)).trans (by have := World.alloc_heap_new (w.alloc (.cells #[.int .i64 kd, .string (str nm), .string (str ty), .slice ca cs.length cc] 34)) (.cells #[.int .i64 0, .string ⟨#[]⟩, .string ⟨#[]⟩, .slice none 0 0] 34); simpa using this)
  have hCC : ∀ u, Below (w.heap.size + 2) ((w.alloc (.cells #[.int .i64 kd, .string (str nm), .string (str ty), .slice ca cs.length cc] 34)).alloc (.cells #[.int .i64 0, .string ⟨#[]⟩, .string ⟨#[]⟩, .slice none 0 0] 34)) u → Calls Tryz.prog 64 #[.slice ca cs.length cc] u fun e w' => ∃ v', e = .returned v' ∧ CsR (Fr u w') w' v' cs ∧ Below u.heap.size u w' := fun u hu =>
    copyCases F _ cs u (h.below (hN u hu) hF) (fun g hg => by have := hF g hg; have := hSz u hu; omega) hcl hco
  have hnext : ∀ u u', Below (w.heap.size + 2) ((w.alloc (.cells #[.int .i64 kd, .string (str nm), .string (str ty), .slice ca cs.length cc] 34)).alloc (.cells #[.int .i64 0, .string ⟨#[]⟩, .string ⟨#[]⟩, .slice none 0 0] 34)) u → Below u.heap.size u u' → Below (w.heap.size + 2) ((w.alloc (.cells #[.int .i64 kd, .string (str nm), .string (str ty), .slice ca cs.length cc] 34)).alloc (.cells #[.int .i64 0, .string ⟨#[]⟩, .string ⟨#[]⟩, .slice none 0 0] 34)) u' := fun u u' hu h => hu.trans (h.mono (hSz u hu))
  have hCm : ∀ u w' v', Below (w.heap.size + 2) ((w.alloc (.cells #[.int .i64 kd, .string (str nm), .string (str ty), .slice ca cs.length cc] 34)).alloc (.cells #[.int .i64 0, .string ⟨#[]⟩, .string ⟨#[]⟩, .slice none 0 0] 34)) u → CsR (Fr u w') w' v' cs → CsR (fun g => w.heap.size + 2 ≤ g ∧ g < w'.heap.size) w' v' cs := fun u w' v' hu ht => ht.frame fun g hg => ⟨⟨by have := hSz u hu; have := hg.1; omega, hg.2⟩, rfl⟩
  have G0 : Below (w.heap.size + 2) ((w.alloc (.cells #[.int .i64 kd, .string (str nm), .string (str ty), .slice ca cs.length cc] 34)).alloc (.cells #[.int .i64 0, .string ⟨#[]⟩, .string ⟨#[]⟩, .slice none 0 0] 34)) ((w.alloc (.cells #[.int .i64 kd, .string (str nm), .string (str ty), .slice ca cs.length cc] 34)).alloc (.cells #[.int .i64 0, .string ⟨#[]⟩, .string ⟨#[]⟩, .slice none 0 0] 34)).drew := (Below.refl _ _).drew
  have G1 : Below (w.heap.size + 2) ((w.alloc (.cells #[.int .i64 kd, .string (str nm), .string (str ty), .slice ca cs.length cc] 34)).alloc (.cells #[.int .i64 0, .string ⟨#[]⟩, .string ⟨#[]⟩, .slice none 0 0] 34)) ((w.alloc (.cells #[.int .i64 kd, .string (str nm), .string (str ty), .slice ca cs.length cc] 34)).alloc (.cells #[.int .i64 0, .string ⟨#[]⟩, .string ⟨#[]⟩, .slice none 0 0] 34)) := Below.refl _ _
  clear h hb0 hF hcl hco
  go_enter Tryz.func32, Tryz.ntmps32
  go_wp2_with fail
  generalize hW : ((w.alloc (.cells #[.int .i64 kd, .string (str nm), .string (str ty), .slice ca cs.length cc] 34)).alloc (.cells #[.int .i64 0, .string ⟨#[]⟩, .string ⟨#[]⟩, .slice none 0 0] 34)) = W2 at *
  clear hW
  obtain ⟨d0, d1, d2, d3⟩ := hS2 _ G0
  have hr := hR _ G0
  obtain ⟨r0, r1, r2, r3, rf0, rf1, rf2, rf3⟩ := four4 hr
  go_region_held3 (fun u => u.cell? ⟨w.heap.size, 0, none⟩ = some (.int .i64 kd) ∧ u.cell? ⟨w.heap.size, 1, none⟩ = some (.string (str nm)) ∧ u.cell? ⟨w.heap.size, 2, none⟩ = some (.string (str ty)) ∧ u.cell? ⟨w.heap.size, 3, none⟩ = some (.slice ca cs.length cc)) (first | go_keep | exact hS2 _ (by assumption) | exact hS4 _ _ _ _ _ (by assumption)) (first
    | (go_at_call_of 46 (str nm); refine (sCloneT nm _ hn).mono ?_; rintro e wa ⟨rfl, hba⟩; have Ga := hnext _ _ (by assumption) hba; obtain ⟨d0, d1, d2, d3⟩ := hS2 _ Ga; have hr := hR _ Ga; obtain ⟨r0, r1, r2, r3, rf0, rf1, rf2, rf3⟩ := four4 hr; try (have hC5 := cs_more hC5 hba); clear hba)
    | (go_at_call_of 46 (str ty); refine (sCloneT ty _ ht).mono ?_; rintro e wb ⟨rfl, hbb⟩; have Gb := hnext _ _ (by assumption) hbb; obtain ⟨d0, d1, d2, d3⟩ := hS2 _ Gb; have hr := hR _ Gb; obtain ⟨r0, r1, r2, r3, rf0, rf1, rf2, rf3⟩ := four4 hr; try (have hC5 := cs_more hC5 hbb); clear hbb)
    | (go_at_call 64; refine (hCC _ (by assumption)).mono ?_; rintro e wc ⟨v5, rfl, hC4, hbc⟩; have hC5 := hCm _ _ _ (by assumption) hC4; obtain ⟨ga, gc, rfl⟩ := hC5.shape; have Gc := hnext _ _ (by assumption) hbc; obtain ⟨d0, d1, d2, d3⟩ := hS2 _ Gc; have hr := hR _ Gc; obtain ⟨r0, r1, r2, r3, rf0, rf1, rf2, rf3⟩ := four4 hr; clear hbc hC4))
  all_goals (
    go_wp2
    (try simp only [Exit.inBlock, Exit.then])
    refine bodyPost_ret (results_cell_row rfl _ _ (w.heap.size + 1) 34 _ (0, 0) _ rfl (box4_set hr _ _ _ _) Tryz.underlying34 rfl sizeIt) rfl ?_
    refine ⟨.slice ga cs.length gc, rfl, hC5.frame fun g hg => ⟨⟨by have := hg.1; omega, ?_⟩, box4_block _ _ _ (by have := hg.1; omega) _ _ _ _⟩, box4_below (hN _ (by assumption)) (by omega) _ _ _ _⟩
    have := hg.2
    simpa using this)
end Go.Proofs.YtalbjbahgbkifaaGreat

namespace Go.Proofs.YtalbjbahgbkifaaGreat
open Go.RowKit

def it0 : It := ⟨0, [], [], []⟩
def FindE (l : List It) (q : List UInt8) (w : World) (e : Ending) (w' : World) : Prop := ∃ x cv, e = .returned (.tuple #[itv x cv, .bool (findI l q).isSome]) ∧ x = (findI l q).getD it0 ∧ CsR (Fr w w') w' cv x.cases ∧ Below w.heap.size w w'
theorem findI_at (l : List It) (q : List UInt8) (k : Nat) (h : k < l.length) : findI (l.drop k) q = if l[k].name = q then some l[k] else findI (l.drop (k + 1)) q := by
  rw [List.drop_eq_getElem_cons h, findI, List.find?_cons]
  by_cases e : l[k].name = q
  · simp [e]
  · simp [e, findI]
set_option maxHeartbeats 2000000 in
set_option maxRecDepth 1000000 in
theorem find7 (F : Nat → Prop) (m : List UInt8) (l : List It) (va : Option Addr) (vc : Nat) (q : List UInt8) (w : World) (h : ItR F w (.slice va l.length vc) l) (hF : ∀ g, F g → g < w.heap.size) (hok : ∀ x ∈ l, ItOk x) (hl : l.length ≤ 2199023255552) :
    Calls Tryz.prog 7 #[.agg #[.string (str m), .slice va l.length vc], .string (str q)] w (FindE l q w) := by
  have hb0 : Below w.heap.size w ((w.alloc (.cells #[.string (str m), .slice va l.length vc] 24)).alloc (.cells #[.int .i64 0, .string ⟨#[]⟩, .string ⟨#[]⟩, .slice none 0 0] 34)) := ((Below.refl _ _).alloc (Nat.le_refl _) _).alloc (by simp) _
  have hSz : ∀ u, Below (w.heap.size + 2) ((w.alloc (.cells #[.string (str m), .slice va l.length vc] 24)).alloc (.cells #[.int .i64 0, .string ⟨#[]⟩, .string ⟨#[]⟩, .slice none 0 0] 34)) u → w.heap.size + 2 ≤ u.heap.size := fun u hu => by have := hu.size; simpa using this
  have hN : ∀ u, Below (w.heap.size + 2) ((w.alloc (.cells #[.string (str m), .slice va l.length vc] 24)).alloc (.cells #[.int .i64 0, .string ⟨#[]⟩, .string ⟨#[]⟩, .slice none 0 0] 34)) u → Below w.heap.size w u := fun u hu => hb0.trans (hu.mono (by omega))
  have hR : ∀ u, Below (w.heap.size + 2) ((w.alloc (.cells #[.string (str m), .slice va l.length vc] 24)).alloc (.cells #[.int .i64 0, .string ⟨#[]⟩, .string ⟨#[]⟩, .slice none 0 0] 34)) u → u.heap[w.heap.size + 1]? = some (.cells #[.int .i64 0, .string ⟨#[]⟩, .string ⟨#[]⟩, .slice none 0 0] 34 (0, 0)) := fun u hu => (hu.block _ (by omega)).trans (by have := World.alloc_heap_new (w.alloc (.cells #[.string (str m), .slice va l.length vc] 24)) (.cells #[.int .i64 0, .string ⟨#[]⟩, .string ⟨#[]⟩, .slice none 0 0] 34); simpa using this)
  have hI : ∀ u, Below (w.heap.size + 2) ((w.alloc (.cells #[.string (str m), .slice va l.length vc] 24)).alloc (.cells #[.int .i64 0, .string ⟨#[]⟩, .string ⟨#[]⟩, .slice none 0 0] 34)) u → ItR F u (.slice va l.length vc) l := fun u hu => h.below (hN u hu) hF
  have hFu : ∀ u, Below (w.heap.size + 2) ((w.alloc (.cells #[.string (str m), .slice va l.length vc] 24)).alloc (.cells #[.int .i64 0, .string ⟨#[]⟩, .string ⟨#[]⟩, .slice none 0 0] 34)) u → ∀ g, F g → g < u.heap.size := fun u hu g hg => by have := hF g hg; have := hSz u hu; omega
  have hnext : ∀ u u', Below (w.heap.size + 2) ((w.alloc (.cells #[.string (str m), .slice va l.length vc] 24)).alloc (.cells #[.int .i64 0, .string ⟨#[]⟩, .string ⟨#[]⟩, .slice none 0 0] 34)) u → Below u.heap.size u u' → Below (w.heap.size + 2) ((w.alloc (.cells #[.string (str m), .slice va l.length vc] 24)).alloc (.cells #[.int .i64 0, .string ⟨#[]⟩, .string ⟨#[]⟩, .slice none 0 0] 34)) u' := fun u u' hu h => hu.trans (h.mono (hSz u hu))
  have G0 : Below (w.heap.size + 2) ((w.alloc (.cells #[.string (str m), .slice va l.length vc] 24)).alloc (.cells #[.int .i64 0, .string ⟨#[]⟩, .string ⟨#[]⟩, .slice none 0 0] 34)) ((w.alloc (.cells #[.string (str m), .slice va l.length vc] 24)).alloc (.cells #[.int .i64 0, .string ⟨#[]⟩, .string ⟨#[]⟩, .slice none 0 0] 34)) := Below.refl _ _
  clear h hb0
  go_enter Tryz.func7, Tryz.ntmps7
  go_wp2
  generalize hW : ((w.alloc (.cells #[.string (str m), .slice va l.length vc] 24)).alloc (.cells #[.int .i64 0, .string ⟨#[]⟩, .string ⟨#[]⟩, .slice none 0 0] 34)) = W2 at *
  clear hW
  go_loopg [11] l.length (fun g i wr => ∃ (k : Nat), g + k = l.length ∧ i = .int .i64 (k : Int) ∧ Hid (findI l q = findI (l.drop k) q) ∧ Below (w.heap.size + 2) W2 wr)
  case atStart => exact ⟨0, by simp, rfl, by simp [Hid], G0⟩
  case round =>
    obtain ⟨k, hg, rfl, hq, Gr⟩ := hrel
    by_cases hk : k < l.length
    · obtain ⟨bk, o, c, cv, e1, hgF, hC, q0, q1, q2, q3⟩ := (hI _ Gr).at k hk
      simp only [Value.slice.injEq, true_and] at e1
      obtain ⟨rfl, rfl⟩ := e1
      obtain ⟨ca, cc, rfl⟩ := hC.shape
      have hki : (k : Int) < (l.length : Int) := by omega
      have hx := hok _ (List.getElem_mem hk)
      have HQ := hq.out
      rw [findI_at l q k hk] at HQ
      clear hq
      generalize l[k] = x at *
      obtain ⟨kd, nm, ty, cs⟩ := x
      simp only at hC q0 q1 q2 q3 HQ
      have he := eq_is nm q
      have hba : Below wr.heap.size wr (wr.alloc (.cells #[.int .i64 kd, .string (str nm), .string (str ty), .slice ca cs.length cc] 34)) := (Below.refl _ _).alloc (Nat.le_refl _) _
      have Ga := hnext _ _ Gr hba
      by_cases hn : nm = q
      · rw [decide_eq_true hn] at he
        rw [if_pos hn] at HQ
        replace HQ := hidden HQ
        have hcp := copyItem F ⟨kd, nm, ty, cs⟩ (.slice ca cs.length cc) _ (hC.below hba (hFu _ Gr)) (hFu _ Ga) hx
        unfold itv at hcp
        simp only at hcp
        clear hn hI hok hx
        go_wp2_with fail
        refine hcp.mono ?_
        rintro e w3 ⟨cv', rfl, hC3, hb3⟩
        obtain ⟨da, dc, rfl⟩ := hC3.shape
        (try simp only at hC3)
        have G3 := hnext _ _ Ga hb3
        have hr := hR _ G3
        have hsa := hSz _ Ga
        have hbw := (hN _ G3).trans ((setRow_below w3 (w.heap.size + 1) #[.int .i64 kd, .string (str nm), .string (str ty), .slice da cs.length dc]).mono (by omega))
        have hC4 : CsR (Fr w (w3.setRow (w.heap.size + 1) #[.int .i64 kd, .string (str nm), .string (str ty), .slice da cs.length dc])) (w3.setRow (w.heap.size + 1) #[.int .i64 kd, .string (str nm), .string (str ty), .slice da cs.length dc]) (.slice da cs.length dc) cs := hC3.frame fun g hg => by
          have := hg.1
          refine ⟨⟨by omega, by simpa [World.setRow] using hg.2⟩, ?_⟩
          simp only [World.setRow]
          rw [Array.getElem?_modify, if_neg (by omega)]
        clear hcp hC3 hb3 G3 hsa
        go_wp2_with (refine wpList_store_row rfl 34 (.tmp 4) (.tmp 20) rfl (w.heap.size + 1) #[.int .i64 kd, .string (str nm), .string (str ty), .slice da cs.length dc] rfl rfl 34 #[.int .i64 0, .string ⟨#[]⟩, .string ⟨#[]⟩, .slice none 0 0] hr sizeIt rfl (by first | kernel_rfl | rfl | simp [Value.oneCell']) ?_)
        (try simp only [Exit.inBlock, Exit.then])
        refine bodyPost_ret (res7 rfl _ _ (w.heap.size + 1) 34 #[.int .i64 kd, .string (str nm), .string (str ty), .slice da cs.length dc] (0, 0) _ rfl (setRow_heap w3 (w.heap.size + 1) _ _ 34 (0, 0) hr) Tryz.underlying34 rfl sizeIt) rfl ?_
        exact ⟨⟨kd, nm, ty, cs⟩, _, by rw [HQ.out]; rfl, by rw [HQ.out]; rfl, hC4, hbw⟩
      · rw [decide_eq_false hn] at he
        rw [if_neg hn] at HQ
        replace HQ := hidden HQ
        clear hn hI hok hx
        go_wp2
        go_roundg (l.length - (k + 1))
        case measure => omega
        case rel => exact ⟨k + 1, by omega, by go_num, HQ, Ga⟩
    · have hki : ¬ (k : Int) < (l.length : Int) := by omega
      have HX : Hid (findI l q = none) := by
        rw [hid_iff, hq.out, List.drop_of_length_le (by omega)]
        rfl
      have hr := hR _ Gr
      have hbw := (hN _ Gr).trans ((setRow_below wr (w.heap.size + 1) #[.int .i64 0, .string ⟨#[]⟩, .string ⟨#[]⟩, .slice none 0 0]).mono (by omega))
      clear hq hI
      go_wp2_with (refine wpList_store_row rfl 34 (.tmp 4) (.tmp 22) rfl (w.heap.size + 1) #[.int .i64 0, .string ⟨#[]⟩, .string ⟨#[]⟩, .slice none 0 0] rfl rfl 34 #[.int .i64 0, .string ⟨#[]⟩, .string ⟨#[]⟩, .slice none 0 0] hr sizeIt rfl (by kernel_rfl) ?_)
      (try simp only [Exit.inBlock, Exit.then])
      refine bodyPost_ret (res7 rfl _ _ (w.heap.size + 1) 34 #[.int .i64 0, .string ⟨#[]⟩, .string ⟨#[]⟩, .slice none 0 0] (0, 0) _ rfl (setRow_heap wr (w.heap.size + 1) _ _ 34 (0, 0) hr) Tryz.underlying34 rfl sizeIt) rfl ?_
      exact ⟨it0, .slice none 0 0, by rw [HX.out]; rfl, by rw [HX.out]; rfl, CsR.nil _ _, hbw⟩
end Go.Proofs.YtalbjbahgbkifaaGreat

namespace Go.Proofs.YtalbjbahgbkifaaGreat

theorem sameI_comm (a b : It) : sameI a b = sameI b a := by
  cases h : sameI a b
  · cases h' : sameI b a
    · rfl
    · rw [(sameI_iff b a).1 h'] at h
      rw [(sameI_iff a a).2 rfl] at h
      cases h
  · rw [(sameI_iff a b).1 h]
    exact ((sameI_iff b b).2 rfl).symm
theorem same_name (k : Int) (n t : List UInt8) (c : List Cs) : sameI ⟨k, n, t, c⟩ ⟨k, n ++ [95], t, c⟩ = false := by
  have : ¬ n = n ++ [95] := fun e => by have := congrArg List.length e; simp at this
  simp [sameI, this]
theorem kind_turn {k : Int} (h : kindE k = true) : k % 3 + 1 ≠ k ∧ 1 ≤ k % 3 + 1 ∧ k % 3 + 1 ≤ 3 := by
  simp only [kindE, Bool.or_eq_true, decide_eq_true_eq] at h
  rcases h with rfl | rfl | rfl <;> decide
theorem same_kind {k : Int} (h : kindE k = true) (n t : List UInt8) (c : List Cs) : sameI ⟨k, n, t, c⟩ ⟨k % 3 + 1, n, t, c⟩ = false := by
  have := (kind_turn h).1
  simp [sameI, Ne.symm this]
theorem items_right : ∀ {p : Option (List UInt8)} {l : List It}, itemsE p l = 0 → ∀ x ∈ l, kindE x.kind = true ∧ x.name.length ≤ 24
  | p, y :: r, h, x, hx => by
    rw [itemsE] at h
    by_cases h0 : itemE p y = 0
    · rw [if_pos h0] at h
      rcases List.mem_cons.1 hx with rfl | hx
      · rw [itemE] at h0
        by_cases hk : kindE x.kind = false
        · rw [if_pos hk] at h0
          cases h0
        · rw [if_neg hk] at h0
          by_cases hn : namedE x = false
          · rw [if_pos hn] at h0
            cases h0
          · refine ⟨by simpa using hk, ?_⟩
            have hn' : namedE x = true := by simpa using hn
            unfold namedE at hn'
            split at hn'
            · exact big_len hn'
            · exact value_len hn'
      · exact items_right h x hx
    · rw [if_neg h0] at h
      exact absurd h h0
theorem right_items {m : List UInt8} {l : List It} (h : rightI m l = 0) : ∀ x ∈ l, kindE x.kind = true ∧ x.name.length ≤ 24 := by
  unfold rightI at h
  by_cases h1 : valueR m = false
  · rw [if_pos h1] at h
    cases h
  · rw [if_neg h1] at h
    by_cases h2 : 32 < l.length
    · rw [if_pos h2] at h
      cases h
    · rw [if_neg h2] at h
      exact items_right h
theorem want_is (l l2 : List It) (q : List UInt8) : ((findI l q).isSome && !((findI l2 q).isSome && sameI ((findI l q).getD it0) ((findI l2 q).getD it0))) = brokenI l l2 q := by
  unfold brokenI
  cases findI l q with
  | none => rfl
  | some a =>
    cases findI l2 q with
    | none => rfl
    | some b => simp
theorem found_is (l l2 : List It) (xs : List (List UInt8)) (q : List UInt8) (h : q ∈ xs) : (breaksI l l2 xs).any (fun y => decide (y = q)) = brokenI l l2 q := by
  rw [Bool.eq_iff_iff, List.any_eq_true]
  unfold breaksI
  constructor
  · rintro ⟨y, hy, he⟩
    rw [decide_eq_true_eq] at he
    subst he
    exact (List.mem_filter.1 hy).2
  · intro hb
    exact ⟨q, List.mem_filter.2 ⟨(onceR_mem xs q).2 h, hb⟩, by simp⟩
theorem find_ok {l : List It} (h : ∀ x ∈ l, ItOk x) (q : List UInt8) : ItOk ((findI l q).getD it0) := by
  cases e : findI l q with
  | none => exact ⟨by decide, by decide, by simp [it0, Tk], by simp [it0, Tk], by simp [it0], by simp [it0]⟩
  | some x => exact h x (List.mem_of_find?_eq_some e)
end Go.Proofs.YtalbjbahgbkifaaGreat

namespace Go.Proofs.YtalbjbahgbkifaaGreat
open Go.RowKit

def FindR (F : Nat → Prop) (l : List It) (q : List UInt8) (w : World) (e : Ending) (w' : World) : Prop := ∃ x cv, e = .returned (.tuple #[itv x cv, .bool (findI l q).isSome]) ∧ x = (findI l q).getD it0 ∧ CsR F w' cv x.cases ∧ Below w.heap.size w w'
set_option maxHeartbeats 2000000 in
set_option maxRecDepth 1000000 in
theorem refFind (F : Nat → Prop) (m : List UInt8) (l : List It) (va : Option Addr) (vc : Nat) (q : List UInt8) (w : World) (h : ItR F w (.slice va l.length vc) l) (hF : ∀ g, F g → g < w.heap.size) (hl : l.length ≤ 2199023255552) :
    Calls Tryz.prog 8 #[.agg #[.string (str m), .slice va l.length vc], .string (str q)] w (FindR F l q w) := by
  have hb0 : Below w.heap.size w ((w.alloc (.cells #[.string (str m), .slice va l.length vc] 24)).alloc (.cells #[.int .i64 0, .string ⟨#[]⟩, .string ⟨#[]⟩, .slice none 0 0] 34)) := ((Below.refl _ _).alloc (Nat.le_refl _) _).alloc (by simp) _
  have hr : ((w.alloc (.cells #[.string (str m), .slice va l.length vc] 24)).alloc (.cells #[.int .i64 0, .string ⟨#[]⟩, .string ⟨#[]⟩, .slice none 0 0] 34)).heap[w.heap.size + 1]? = some (.cells #[.int .i64 0, .string ⟨#[]⟩, .string ⟨#[]⟩, .slice none 0 0] 34 (0, 0)) := by have := World.alloc_heap_new (w.alloc (.cells #[.string (str m), .slice va l.length vc] 24)) (.cells #[.int .i64 0, .string ⟨#[]⟩, .string ⟨#[]⟩, .slice none 0 0] 34); simpa using this
  have hN0 : ((w.alloc (.cells #[.string (str m), .slice va l.length vc] 24)).alloc (.cells #[.int .i64 0, .string ⟨#[]⟩, .string ⟨#[]⟩, .slice none 0 0] 34)).heap[w.heap.size]? = some (.cells #[.string (str m), .slice va l.length vc] 24 (0, 0)) := (Below.heap_alloc _ _ _ (by simp)).trans (World.alloc_heap_new w _)
  have s1 : ((w.alloc (.cells #[.string (str m), .slice va l.length vc] 24)).alloc (.cells #[.int .i64 0, .string ⟨#[]⟩, .string ⟨#[]⟩, .slice none 0 0] 34)).cell? ⟨w.heap.size, 1, none⟩ = some (.slice va l.length vc) := by rw [cell_of_row _ _ 1 _ _ _ hN0]; rfl
  have hI := hidden (h.below hb0 hF)
  clear h hN0
  go_enter Tryz.func8, Tryz.ntmps8
  go_wp2
  generalize ((w.alloc (.cells #[.string (str m), .slice va l.length vc] 24)).alloc (.cells #[.int .i64 0, .string ⟨#[]⟩, .string ⟨#[]⟩, .slice none 0 0] 34)) = W2 at *
  go_loopg [6] l.length (fun g i wr => ∃ (k : Nat), g + k = l.length ∧ i = .int .i64 (k : Int) ∧ Hid (findI l q = findI (l.drop k) q) ∧ wr = W2)
  case atStart => exact ⟨0, by simp, rfl, by simp [Hid], rfl⟩
  case round =>
    obtain ⟨k, hg, rfl, hq, rfl⟩ := hrel
    by_cases hk : k < l.length
    · obtain ⟨bk, o, c, cv, e1, hgF, hC, q0, q1, q2, q3⟩ := hI.out.at k hk
      simp only [Value.slice.injEq, true_and] at e1
      obtain ⟨rfl, rfl⟩ := e1
      obtain ⟨ca, cc, rfl⟩ := hC.shape
      have hki : (k : Int) < (l.length : Int) := by omega
      have HQ := hq.out
      rw [findI_at l q k hk] at HQ
      clear hq
      generalize l[k] = x at *
      obtain ⟨kd, nm, ty, cs⟩ := x
      simp only at hC q0 q1 q2 q3 HQ
      have he := eq_is nm q
      by_cases hn : nm = q
      · rw [decide_eq_true hn] at he
        rw [if_pos hn] at HQ
        replace HQ := hidden HQ
        have hbw : Below w.heap.size w (wr.setRow (w.heap.size + 1) #[.int .i64 kd, .string (str nm), .string (str ty), .slice ca cs.length cc]) := hb0.trans ((setRow_below wr (w.heap.size + 1) #[.int .i64 kd, .string (str nm), .string (str ty), .slice ca cs.length cc]).mono (by omega))
        have hC4 : CsR F (wr.setRow (w.heap.size + 1) #[.int .i64 kd, .string (str nm), .string (str ty), .slice ca cs.length cc]) (.slice ca cs.length cc) cs := hC.frame fun g hg => by
          have := hF g hg
          refine ⟨hg, ?_⟩
          simp only [World.setRow]
          rw [Array.getElem?_modify, if_neg (by omega)]
        clear hn hI
        go_wp2_with (refine wpList_store_row rfl 34 (.tmp 4) (.tmp 26) rfl (w.heap.size + 1) #[.int .i64 kd, .string (str nm), .string (str ty), .slice ca cs.length cc] rfl rfl 34 #[.int .i64 0, .string ⟨#[]⟩, .string ⟨#[]⟩, .slice none 0 0] hr sizeIt rfl (by first | kernel_rfl | rfl | simp [Value.oneCell']) ?_)
        (try simp only [Exit.inBlock, Exit.then])
        refine bodyPost_ret (res7 rfl _ _ (w.heap.size + 1) 34 #[.int .i64 kd, .string (str nm), .string (str ty), .slice ca cs.length cc] (0, 0) _ rfl (setRow_heap wr (w.heap.size + 1) _ _ 34 (0, 0) hr) Tryz.underlying34 rfl sizeIt) rfl ?_
        exact ⟨⟨kd, nm, ty, cs⟩, _, by rw [HQ.out]; rfl, by rw [HQ.out]; rfl, hC4, hbw⟩
      · rw [decide_eq_false hn] at he
        rw [if_neg hn] at HQ
        replace HQ := hidden HQ
        clear hn hI
        go_wp2
        go_roundg (l.length - (k + 1))
        case measure => omega
        case rel => exact ⟨k + 1, by omega, by go_num, HQ, rfl⟩
    · have hki : ¬ (k : Int) < (l.length : Int) := by omega
      have HX : Hid (findI l q = none) := by
        rw [hid_iff, hq.out, List.drop_of_length_le (by omega)]
        rfl
      have hbw := hb0.trans ((setRow_below wr (w.heap.size + 1) #[.int .i64 0, .string ⟨#[]⟩, .string ⟨#[]⟩, .slice none 0 0]).mono (by omega))
      clear hq hI
      go_wp2_with (refine wpList_store_row rfl 34 (.tmp 4) (.tmp 27) rfl (w.heap.size + 1) #[.int .i64 0, .string ⟨#[]⟩, .string ⟨#[]⟩, .slice none 0 0] rfl rfl 34 #[.int .i64 0, .string ⟨#[]⟩, .string ⟨#[]⟩, .slice none 0 0] hr sizeIt rfl (by kernel_rfl) ?_)
      (try simp only [Exit.inBlock, Exit.then])
      refine bodyPost_ret (res7 rfl _ _ (w.heap.size + 1) 34 #[.int .i64 0, .string ⟨#[]⟩, .string ⟨#[]⟩, .slice none 0 0] (0, 0) _ rfl (setRow_heap wr (w.heap.size + 1) _ _ 34 (0, 0) hr) Tryz.underlying34 rfl sizeIt) rfl ?_
      exact ⟨it0, .slice none 0 0, by rw [HX.out]; rfl, by rw [HX.out]; rfl, CsR.nil _ _, hbw⟩

theorem take_nextC {xs ys : List Cs} {k : Nat} (hx : k < xs.length) (hy : k < ys.length) (h : xs.take k = ys.take k) (he : xs[k] = ys[k]) : xs.take (k + 1) = ys.take (k + 1) := by
  rw [List.take_succ_eq_append_getElem hx, List.take_succ_eq_append_getElem hy, h, he]
theorem take_nextT {xs ys : List (List UInt8)} {k : Nat} (hx : k < xs.length) (hy : k < ys.length) (h : xs.take k = ys.take k) (he : xs[k] = ys[k]) : xs.take (k + 1) = ys.take (k + 1) := by
  rw [List.take_succ_eq_append_getElem hx, List.take_succ_eq_append_getElem hy, h, he]
set_option maxHeartbeats 4000000 in
set_option maxRecDepth 1000000 in
theorem refSame (F : Nat → Prop) (x y : It) (cv dv : Value) (w : World) (h : CsR F w cv x.cases) (h' : CsR F w dv y.cases) (hF : ∀ g, F g → g < w.heap.size) (hx : ItOk x) (hy : ItOk y) : Calls Tryz.prog 16 #[itv x cv, itv y dv] w (BoolB (sameI x y) w) := by
  obtain ⟨k1, n1, t1, c1⟩ := x
  obtain ⟨k2, n2, t2, c2⟩ := y
  obtain ⟨ca, cc, rfl⟩ := h.shape
  obtain ⟨da, dc, rfl⟩ := h'.shape
  obtain ⟨_, _, _, _, hx1, hx2⟩ := hx
  obtain ⟨_, _, _, _, hy1, hy2⟩ := hy
  unfold itv
  simp only at *
  have hb0 : Below w.heap.size w ((w.alloc (.cells #[.int .i64 k1, .string (str n1), .string (str t1), .slice ca c1.length cc] 34)).alloc (.cells #[.int .i64 k2, .string (str n2), .string (str t2), .slice da c2.length dc] 34)) := ((Below.refl _ _).alloc (Nat.le_refl _) _).alloc (by simp) _
  have hN1 : ((w.alloc (.cells #[.int .i64 k1, .string (str n1), .string (str t1), .slice ca c1.length cc] 34)).alloc (.cells #[.int .i64 k2, .string (str n2), .string (str t2), .slice da c2.length dc] 34)).heap[w.heap.size]? = some (.cells #[.int .i64 k1, .string (str n1), .string (str t1), .slice ca c1.length cc] 34 (0, 0)) := (Below.heap_alloc _ _ _ (by simp)).trans (World.alloc_heap_new w _)
  have hN2 : ((w.alloc (.cells #[.int .i64 k1, .string (str n1), .string (str t1), .slice ca c1.length cc] 34)).alloc (.cells #[.int .i64 k2, .string (str n2), .string (str t2), .slice da c2.length dc] 34)).heap[w.heap.size + 1]? = some (.cells #[.int .i64 k2, .string (str n2), .string (str t2), .slice da c2.length dc] 34 (0, 0)) := by have := World.alloc_heap_new (w.alloc (.cells #[.int .i64 k1, .string (str n1), .string (str t1), .slice ca c1.length cc] 34)) (.cells #[.int .i64 k2, .string (str n2), .string (str t2), .slice da c2.length dc] 34); simpa using this
  have p0 : ((w.alloc (.cells #[.int .i64 k1, .string (str n1), .string (str t1), .slice ca c1.length cc] 34)).alloc (.cells #[.int .i64 k2, .string (str n2), .string (str t2), .slice da c2.length dc] 34)).cell? ⟨w.heap.size, 0, none⟩ = some (.int .i64 k1) := by rw [cell_of_row _ _ 0 _ _ _ hN1]; rfl
  have p1 : ((w.alloc (.cells #[.int .i64 k1, .string (str n1), .string (str t1), .slice ca c1.length cc] 34)).alloc (.cells #[.int .i64 k2, .string (str n2), .string (str t2), .slice da c2.length dc] 34)).cell? ⟨w.heap.size, 1, none⟩ = some (.string (str n1)) := by rw [cell_of_row _ _ 1 _ _ _ hN1]; rfl
  have p2 : ((w.alloc (.cells #[.int .i64 k1, .string (str n1), .string (str t1), .slice ca c1.length cc] 34)).alloc (.cells #[.int .i64 k2, .string (str n2), .string (str t2), .slice da c2.length dc] 34)).cell? ⟨w.heap.size, 2, none⟩ = some (.string (str t1)) := by rw [cell_of_row _ _ 2 _ _ _ hN1]; rfl
  have p3 : ((w.alloc (.cells #[.int .i64 k1, .string (str n1), .string (str t1), .slice ca c1.length cc] 34)).alloc (.cells #[.int .i64 k2, .string (str n2), .string (str t2), .slice da c2.length dc] 34)).cell? ⟨w.heap.size, 3, none⟩ = some (.slice ca c1.length cc) := by rw [cell_of_row _ _ 3 _ _ _ hN1]; rfl
  have r0 : ((w.alloc (.cells #[.int .i64 k1, .string (str n1), .string (str t1), .slice ca c1.length cc] 34)).alloc (.cells #[.int .i64 k2, .string (str n2), .string (str t2), .slice da c2.length dc] 34)).cell? ⟨w.heap.size + 1, 0, none⟩ = some (.int .i64 k2) := by rw [cell_of_row _ _ 0 _ _ _ hN2]; rfl
  have r1 : ((w.alloc (.cells #[.int .i64 k1, .string (str n1), .string (str t1), .slice ca c1.length cc] 34)).alloc (.cells #[.int .i64 k2, .string (str n2), .string (str t2), .slice da c2.length dc] 34)).cell? ⟨w.heap.size + 1, 1, none⟩ = some (.string (str n2)) := by rw [cell_of_row _ _ 1 _ _ _ hN2]; rfl
  have r2 : ((w.alloc (.cells #[.int .i64 k1, .string (str n1), .string (str t1), .slice ca c1.length cc] 34)).alloc (.cells #[.int .i64 k2, .string (str n2), .string (str t2), .slice da c2.length dc] 34)).cell? ⟨w.heap.size + 1, 2, none⟩ = some (.string (str t2)) := by rw [cell_of_row _ _ 2 _ _ _ hN2]; rfl
  have r3 : ((w.alloc (.cells #[.int .i64 k1, .string (str n1), .string (str t1), .slice ca c1.length cc] 34)).alloc (.cells #[.int .i64 k2, .string (str n2), .string (str t2), .slice da c2.length dc] 34)).cell? ⟨w.heap.size + 1, 3, none⟩ = some (.slice da c2.length dc) := by rw [cell_of_row _ _ 3 _ _ _ hN2]; rfl
  have H1 := hidden (h.below hb0 hF)
  have H2 := hidden (h'.below hb0 hF)
  have hne1 := neq_is n1 n2
  have hne2 := neq_is t1 t2
  have heq1 := eq_is n1 n2
  have heq2 := eq_is t1 t2
  clear h h' hN1 hN2
  go_enter Tryz.func16, Tryz.ntmps16
  by_cases ek : k1 = k2
  case neg =>
    have hb : (k1 != k2) = true := by simp [bne_iff_ne, ek]
    have HE : Hid (sameI ⟨k1, n1, t1, c1⟩ ⟨k2, n2, t2, c2⟩ = false) := by rw [hid_iff]; simp [sameI, ek]
    clear ek
    go_wp2
    go_ret
    exact ⟨by rw [HE.out]; rfl, hb0⟩
  subst ek
  have hbk : (k1 != k1) = false := by simp
  by_cases en : n1 = n2
  case neg =>
    have HE : Hid (sameI ⟨k1, n1, t1, c1⟩ ⟨k1, n2, t2, c2⟩ = false) := by rw [hid_iff]; simp [sameI, en]
    rw [decide_eq_true en] at hne1
    rw [decide_eq_false en] at heq1
    clear en
    go_wp2
    go_ret
    exact ⟨by rw [HE.out]; rfl, hb0⟩
  subst en
  rw [decide_eq_false (by simp)] at hne1
  rw [decide_eq_true rfl] at heq1
  by_cases et : t1 = t2
  case neg =>
    have HE : Hid (sameI ⟨k1, n1, t1, c1⟩ ⟨k1, n1, t2, c2⟩ = false) := by rw [hid_iff]; simp [sameI, et]
    rw [decide_eq_true et] at hne2
    rw [decide_eq_false et] at heq2
    clear et
    go_wp2
    go_ret
    exact ⟨by rw [HE.out]; rfl, hb0⟩
  subst et
  rw [decide_eq_false (by simp)] at hne2
  rw [decide_eq_true rfl] at heq2
  by_cases el : c1.length = c2.length
  case neg =>
    have HE : Hid (sameI ⟨k1, n1, t1, c1⟩ ⟨k1, n1, t1, c2⟩ = false) := by
      rw [hid_iff]
      have : ¬ c1 = c2 := fun e => el (by rw [e])
      simp [sameI, this]
    have hbl : ((c1.length : Int) != (c2.length : Int)) = true := by rw [bne_iff_ne]; omega
    clear el
    go_wp2
    go_ret
    exact ⟨by rw [HE.out]; rfl, hb0⟩
  have hbl : ((c1.length : Int) != (c2.length : Int)) = false := by simp; omega
  have EL := hidden el
  clear el
  have hS : sameI ⟨k1, n1, t1, c1⟩ ⟨k1, n1, t1, c2⟩ = decide (c1 = c2) := by simp [sameI]
  rw [hS]
  clear hS
  go_wp2
  generalize ((w.alloc (.cells #[.int .i64 k1, .string (str n1), .string (str t1), .slice ca c1.length cc] 34)).alloc (.cells #[.int .i64 k1, .string (str n1), .string (str t1), .slice da c2.length dc] 34)) = W2 at *
  go_loopg [5] c1.length (fun g i wr => ∃ (k nn : Nat), g + k = c1.length ∧ i = .int .i64 (k : Int) ∧ Hid (c1.take k = c2.take k) ∧ wr = W2.drewN nn)
  case atStart => exact ⟨0, 0, by omega, rfl, by rw [hid_iff]; rfl, rfl⟩
  case round =>
    obtain ⟨k, nn, hg, rfl, ht, rfl⟩ := hrel
    by_cases hk : k < c1.length
    · have hky : k < c2.length := by have := EL.out; omega
      obtain ⟨g1, o1, d1, f1, e1, _, _, u1, q1, v1⟩ := H1.out.at k hk
      simp only [Value.slice.injEq, true_and] at e1
      obtain ⟨rfl, rfl⟩ := e1
      obtain ⟨g2, o2, d2, f2, e2, _, _, u2, q2, v2⟩ := H2.out.at k hky
      simp only [Value.slice.injEq, true_and] at e2
      obtain ⟨rfl, rfl⟩ := e2
      have hki : (k : Int) < (c1.length : Int) := by omega
      have hkj : (k : Int) < (c2.length : Int) := by omega
      have hc1 := hx2 _ (List.getElem_mem hk)
      have hc2 := hy2 _ (List.getElem_mem hky)
      have HN : Hid (c1[k] = c2[k] → c1.take (k + 1) = c2.take (k + 1)) := fun e => take_nextC hk hky ht.out e
      have HD : Hid (c1[k] ≠ c2[k] → decide (c1 = c2) = false) := fun e => decide_eq_false (fun h => e (by subst h; rfl))
      clear ht H1 H2
      generalize c1[k] = xa at *
      generalize c2[k] = ya at *
      obtain ⟨a1, fs1⟩ := xa
      obtain ⟨a2, fs2⟩ := ya
      simp only at u1 u2 q1 q2 v1 v2
      have hfl := hc1.2.1
      clear hc1 hc2
      simp only at hfl
      obtain ⟨fa1, fc1, rfl⟩ := u1.shape
      obtain ⟨fa2, fc2, rfl⟩ := u2.shape
      have hna := neq_is a1 a2
      have hea := eq_is a1 a2
      by_cases ea : a1 = a2
      case neg =>
        have HE : Hid (decide (c1 = c2) = false) := HD.out (fun h => ea (Prod.mk.inj h).1)
        rw [decide_eq_true ea] at hna
        rw [decide_eq_false ea] at hea
        clear ea HN HD u1 u2
        go_wp2_with fail
        go_quiet (fail)
        go_wp2
        go_ret
        exact ⟨by rw [HE.out]; rfl, hb0.trans (by first | exact belowK _ _ | (rw [drewK]; exact belowK _ _))⟩
      subst ea
      rw [decide_eq_false (by simp)] at hna
      rw [decide_eq_true rfl] at hea
      by_cases ef : fs1.length = fs2.length
      case neg =>
        have HE : Hid (decide (c1 = c2) = false) := HD.out (fun h => ef (by rw [(Prod.mk.inj h).2]))
        have hfb : ((fs1.length : Int) != (fs2.length : Int)) = true := by rw [bne_iff_ne]; omega
        clear ef HN HD u1 u2
        go_wp2_with fail
        go_quiet (fail)
        go_wp2
        go_ret
        exact ⟨by rw [HE.out]; rfl, hb0.trans (by first | exact belowK _ _ | (rw [drewK]; exact belowK _ _))⟩
      have hfb : ((fs1.length : Int) != (fs2.length : Int)) = false := by simp; omega
      have EF := hidden ef
      clear ef
      have U1 := hidden u1
      have U2 := hidden u2
      clear u1 u2
      go_wp2_with fail
      go_quiet (fail)
      go_wp2
      go_loopg [6] fs1.length (fun g i ws => ∃ (j mm : Nat), g + j = fs1.length ∧ i = .int .i64 (j : Int) ∧ Hid (fs1.take j = fs2.take j) ∧ ws = W2.drewN mm)
      case atStart => exact ⟨0, _, by omega, rfl, by rw [hid_iff]; rfl, by first | rfl | exact drewK _ _ _⟩
      case round =>
        obtain ⟨j, mm, hgj, rfl, hu, rfl⟩ := hrel
        by_cases hj : j < fs1.length
        · have hjy : j < fs2.length := by have := EF.out; omega
          obtain ⟨i1, m1, z1, e1, _, y1⟩ := U1.out.at j hj
          simp only [Value.slice.injEq, true_and] at e1
          obtain ⟨rfl, rfl⟩ := e1
          obtain ⟨i2, m2, z2, e2, _, y2⟩ := U2.out.at j hjy
          simp only [Value.slice.injEq, true_and] at e2
          obtain ⟨rfl, rfl⟩ := e2
          have hji : (j : Int) < (fs1.length : Int) := by omega
          have hjj : (j : Int) < (fs2.length : Int) := by omega
          have HM : Hid (fs1[j] = fs2[j] → fs1.take (j + 1) = fs2.take (j + 1)) := fun e => take_nextT hj hjy hu.out e
          have HF : Hid (fs1[j] ≠ fs2[j] → decide (c1 = c2) = false) := fun e => HD.out (fun h => e (by have := (Prod.mk.inj h).2; subst this; rfl))
          clear hu U1 U2 HN HD
          generalize fs1[j] = xf at *
          generalize fs2[j] = yf at *
          have hnf := neq_is xf yf
          have hef := eq_is xf yf
          by_cases eq : xf = yf
          · rw [decide_eq_false (fun h => h eq)] at hnf
            rw [decide_eq_true eq] at hef
            have HT : Hid (fs1.take (j + 1) = fs2.take (j + 1)) := HM.out eq
            clear eq HM HF
            go_wp2_with fail
            go_quiet (fail)
            go_wp2
            go_roundg (fs1.length - (j + 1))
            case measure => omega
            case rel => exact ⟨j + 1, _, by omega, by go_num, HT, by first | rfl | exact drewK _ _ _⟩
          · rw [decide_eq_true eq] at hnf
            rw [decide_eq_false eq] at hef
            have HE : Hid (decide (c1 = c2) = false) := HF.out eq
            clear eq HM HF
            go_wp2_with fail
            go_quiet (fail)
            go_wp2
            go_ret
            exact ⟨by rw [HE.out]; rfl, hb0.trans (by first | exact belowK _ _ | (rw [drewK]; exact belowK _ _))⟩
        · have hji : ¬ (j : Int) < (fs1.length : Int) := by omega
          have HT : Hid (c1.take (k + 1) = c2.take (k + 1)) := HN.out (by
            have hlen := EF.out
            have := hu.out
            rw [List.take_of_length_le (by omega), List.take_of_length_le (by omega)] at this
            rw [this])
          clear hu HN HD U1 U2
          go_wp2
          go_roundg (c1.length - (k + 1))
          case measure => omega
          case rel => exact ⟨k + 1, _, by omega, by go_num, HT, by first | rfl | exact drewK _ _ _⟩
    · have hki : ¬ (k : Int) < (c1.length : Int) := by omega
      have HE : Hid (decide (c1 = c2) = true) := by
        refine decide_eq_true ?_
        have hlen := EL.out
        have := ht.out
        rwa [List.take_of_length_le (by omega), List.take_of_length_le (by omega)] at this
      clear ht
      go_wp2
      go_ret
      exact ⟨by rw [HE.out]; rfl, hb0.trans (belowK _ _)⟩
end Go.Proofs.YtalbjbahgbkifaaGreat

namespace Go.Proofs.YtalbjbahgbkifaaGreat
open Go.RowKit

set_option maxHeartbeats 8000000 in
set_option maxRecDepth 1000000 in
theorem putN (v : Value) (xs : List (List UInt8)) (s : List UInt8) (w : World) (h : StrRow w v xs) (hl : xs.length + 1 ≤ 8796093022208) : Calls Tryz.prog 47 #[v, .string (str s)] w fun e w' => ∃ v', e = .returned v' ∧ w'.ownsRow w.heap.size 9 1 v' (putR xs s).length (sc (putR xs s)) ∧ Below w.heap.size w w' := by
  obtain ⟨va, vc, rfl⟩ := h.shape
  have H := hidden h
  clear h
  go_enter Tryz.func47, Tryz.ntmps47
  go_wp2
  go_loopg [5, 6, 7] xs.length (fun g o d i wr => ∃ (k : Nat) (acc : List (List UInt8)) (b : Bool), g + k = xs.length ∧ i = .int .i64 (k : Int) ∧ d = .bool b ∧ acc.length ≤ k + b.toNat ∧ Hid (acc ++ putF s b (xs.drop k) = putR xs s) ∧ wr.ownsRow w.heap.size 9 1 o acc.length (sc acc) ∧ Below w.heap.size w wr)
  case atStart => exact ⟨0, [], false, by omega, rfl, rfl, by simp, by rw [hid_iff]; rfl, World.ownsRow_nil _ _ _ _, Below.refl _ _⟩
  case round =>
    obtain ⟨k, acc, b, hg, rfl, rfl, hal, hq, hown, hbl⟩ := hrel
    have hB := hbl.size
    by_cases hk : k < xs.length
    · obtain ⟨bk, o, c, e1, q1⟩ := (H.out.below hbl).atJ k hk
      simp only [Value.slice.injEq, true_and] at e1
      obtain ⟨rfl, rfl⟩ := e1
      have q1b : ∀ u, Below w.heap.size w u → u.cell? ⟨bk, o + k, none⟩ = some (.string (str xs[k])) := by
        intro u hu
        obtain ⟨bk', o', c', e1, q1⟩ := (H.out.below hu).atJ k hk
        simp only [Value.slice.injEq, Option.some.injEq, Addr.mk.injEq, and_true, true_and] at e1
        obtain ⟨⟨rfl, rfl⟩, _⟩ := e1
        exact q1
      have hki : (k : Int) < (xs.length : Int) := by omega
      have hdr : xs.drop k = xs[k] :: xs.drop (k + 1) := List.drop_eq_getElem_cons hk
      generalize xs[k] = x at *
      have hge := geq_is x s
      have hne := neq_is x s
      have heq := eq_is x s
      by_cases hxs : x = s
      · rw [decide_eq_false (fun h => h hxs)] at hne
        rw [decide_eq_true hxs] at heq
        subst hxs
        cases b with
        | false =>
          (try simp at hal)
          have hc : x ≤ x := List.le_refl _
          rw [decide_eq_true hc] at hge
          have HQ : Hid ((acc ++ [x]) ++ putF x true (xs.drop (k + 1)) = putR xs x) := by
            rw [hid_iff, ← hq.out, hdr, putF]
            simp
          clear hq hdr
          go_wp2_with (at_builtin; refine append_textN rfl (.tmp 24) (.tmp 26) rfl w.heap.size _ acc rfl (hown.alloc _) _ _ x rfl ?src1 ?len1 ?hB1 ?next1)
          case src1 => first | exact cells_new _ _ _ | exact fun j u h => h
          case len1 => first | omega | (simp; omega)
          case hB1 => first | omega | (simp; omega)
          case next1 =>
            intro ad1 c1 wz1 a1 g1
            have b1 := below_grown (hown.alloc _) (by simp; omega) (hbl.alloc (by omega) _) g1
            have s1 := b1.size
            clear g1 hown hbl
            have q2 := q1b _ b1
            clear q1b q1
            go_wp2
            go_roundg (xs.length - (k + 1))
            case measure => omega
            case rel => exact ⟨k + 1, acc ++ [x], true, by omega, by go_num, rfl, by first | omega | (simp; omega), HQ, by simpa using a1, b1⟩
        | true =>
          (try simp at hal)
          have HQ : Hid (acc ++ putF x true (xs.drop (k + 1)) = putR xs x) := by
            rw [hid_iff, ← hq.out, hdr, putF]
            simp
          clear hq hdr q1b
          go_wp2
          go_roundg (xs.length - (k + 1))
          case measure => omega
          case rel => exact ⟨k + 1, acc, true, by omega, by go_num, rfl, by first | omega | (simp; omega), HQ, hown, hbl⟩
      · rw [decide_eq_true hxs] at hne
        rw [decide_eq_false hxs] at heq
        cases b with
        | false =>
          (try simp at hal)
          by_cases hc : s ≤ x
          · rw [decide_eq_true hc] at hge
            have HQ : Hid (((acc ++ [s]) ++ [x]) ++ putF s true (xs.drop (k + 1)) = putR xs s) := by
              rw [hid_iff, ← hq.out, hdr, putF]
              simp [hc, hxs]
            clear hq hdr
            go_wp2_with (at_builtin; refine append_textN rfl (.tmp 24) (.tmp 26) rfl w.heap.size _ acc rfl (hown.alloc _) _ _ s rfl ?src1 ?len1 ?hB1 ?next1)
            case src1 => first | exact cells_new _ _ _ | exact fun j u h => h
            case len1 => first | omega | (simp; omega)
            case hB1 => first | omega | (simp; omega)
            case next1 =>
              intro ad1 c1 wz1 a1 g1
              have b1 := below_grown (hown.alloc _) (by simp; omega) (hbl.alloc (by omega) _) g1
              have s1 := b1.size
              clear g1 hown hbl
              have q2 := q1b _ b1
              clear q1b q1
              have a1x : wz1.ownsRow w.heap.size 9 1 (.slice (some ad1) (acc.length + 1) c1) (acc ++ [s]).length (sc (acc ++ [s])) := by simpa using a1
              have hlen1 : (acc ++ [s]).length = acc.length + 1 := by simp
              go_wp2_with (at_builtin; refine append_textN rfl (.tmp 34) (.tmp 39) rfl w.heap.size _ (acc ++ [s]) rfl (a1x.alloc _) _ _ x rfl ?src2 ?len2 ?hB2 ?next2)
              case src2 => first | exact cells_new _ _ _ | exact fun j u h => h
              case len2 => first | omega | (simp; omega)
              case hB2 => first | omega | (simp; omega)
              case next2 =>
                intro ad2 c2 wz2 a2 g2
                have b2 := below_grown (a1x.alloc _) (by simp; omega) (b1.alloc (by omega) _) g2
                have s2 := b2.size
                clear g2 a1x b1
                go_wp2
                go_roundg (xs.length - (k + 1))
                case measure => omega
                case rel => exact ⟨k + 1, (acc ++ [s]) ++ [x], true, by omega, by go_num, rfl, by first | omega | (simp; omega), HQ, by simpa using a2, b2⟩
          · rw [decide_eq_false hc] at hge
            have HQ : Hid ((acc ++ [x]) ++ putF s false (xs.drop (k + 1)) = putR xs s) := by
              rw [hid_iff, ← hq.out, hdr, putF]
              simp [hc, hxs]
            clear hq hdr q1b
            go_wp2_with (at_builtin; refine append_textN rfl (.tmp 34) (.tmp 39) rfl w.heap.size _ acc rfl (hown.alloc _) _ _ x rfl ?src1 ?len1 ?hB1 ?next1)
            case src1 => first | exact cells_new _ _ _ | exact fun j u h => h
            case len1 => first | omega | (simp; omega)
            case hB1 => first | omega | (simp; omega)
            case next1 =>
              intro ad1 c1 wz1 a1 g1
              have b1 := below_grown (hown.alloc _) (by simp; omega) (hbl.alloc (by omega) _) g1
              have s1 := b1.size
              clear g1 hown hbl
              go_wp2
              go_roundg (xs.length - (k + 1))
              case measure => omega
              case rel => exact ⟨k + 1, acc ++ [x], false, by omega, by go_num, rfl, by first | omega | (simp; omega), HQ, by simpa using a1, b1⟩
        | true =>
          (try simp at hal)
          have HQ : Hid ((acc ++ [x]) ++ putF s true (xs.drop (k + 1)) = putR xs s) := by
            rw [hid_iff, ← hq.out, hdr, putF]
            simp [hxs]
          clear hq hdr q1b
          go_wp2_with (at_builtin; refine append_textN rfl (.tmp 34) (.tmp 39) rfl w.heap.size _ acc rfl (hown.alloc _) _ _ x rfl ?src1 ?len1 ?hB1 ?next1)
          case src1 => first | exact cells_new _ _ _ | exact fun j u h => h
          case len1 => first | omega | (simp; omega)
          case hB1 => first | omega | (simp; omega)
          case next1 =>
            intro ad1 c1 wz1 a1 g1
            have b1 := below_grown (hown.alloc _) (by simp; omega) (hbl.alloc (by omega) _) g1
            have s1 := b1.size
            clear g1 hown hbl
            go_wp2
            go_roundg (xs.length - (k + 1))
            case measure => omega
            case rel => exact ⟨k + 1, acc ++ [x], true, by omega, by go_num, rfl, by first | omega | (simp; omega), HQ, by simpa using a1, b1⟩
    · have hki : ¬ (k : Int) < (xs.length : Int) := by omega
      cases b with
      | false =>
        (try simp at hal)
        have HQ : Hid (acc ++ [s] = putR xs s) := by rw [hid_iff, ← hq.out, List.drop_eq_nil_of_le (by omega)]; rfl
        clear hq
        go_wp2_with (at_builtin; refine append_textN rfl (.tmp 43) (.tmp 45) rfl w.heap.size _ acc rfl (hown.alloc _) _ _ s rfl ?src1 ?len1 ?hB1 ?next1)
        case src1 => first | exact cells_new _ _ _ | exact fun j u h => h
        case len1 => first | omega | (simp; omega)
        case hB1 => first | omega | (simp; omega)
        case next1 =>
          intro ad1 c1 wz1 a1 g1
          have b1 := below_grown (hown.alloc _) (by simp; omega) (hbl.alloc (by omega) _) g1
          have s1 := b1.size
          clear g1 hown hbl
          go_wp2
          go_ret
          exact ⟨_, rfl, by rw [← HQ.out]; simpa using a1, b1⟩
      | true =>
        (try simp at hal)
        have HQ : Hid (acc = putR xs s) := by rw [hid_iff, ← hq.out, List.drop_eq_nil_of_le (by omega)]; simp [putF]
        clear hq
        go_wp2
        go_ret
        exact ⟨_, rfl, by rw [← HQ.out]; exact hown, hbl⟩
end Go.Proofs.YtalbjbahgbkifaaGreat

namespace Go.Proofs.YtalbjbahgbkifaaGreat
open Go.RowKit

theorem putN_le (s : List UInt8) : ∀ (l : List (List UInt8)) (b : Bool), (putF s b l).length ≤ l.length + (if b then 0 else 1)
  | [], b => by cases b <;> simp [putF]
  | x :: r, b => by
    have h1 := putN_le s r true
    have h2 := putN_le s r false
    cases b
    · by_cases e1 : s ≤ x
      · by_cases e2 : x = s
        · simp [putF, e2] at *
          omega
        · simp [putF, e1, e2] at *
          omega
      · by_cases e2 : x = s
        · exact absurd (by rw [e2]; exact List.le_refl _) e1
        · simp [putF, e1, e2] at *
          omega
    · by_cases e2 : x = s
      · simp [putF, e2] at *
        omega
      · simp [putF, e2] at *
        omega
theorem puts_le : ∀ (m l : List (List UInt8)), (putsR l m).length ≤ l.length + m.length
  | [], l => by simp [putsR]
  | x :: r, l => by
    have h := puts_le r (putR l x)
    have h2 : (putR l x).length ≤ l.length + 1 := putN_le x l false
    have e : putsR l (x :: r) = putsR (putR l x) r := rfl
    rw [e, List.length_cons]
    omega
theorem breaks_puts (l l2 : List It) (xs : List (List UInt8)) : putsR [] (xs.filter (brokenI l l2)) = breaksI l l2 xs := by
  refine asc_ext (putsR_asc _ [] List.Pairwise.nil) ((onceR_asc xs).filter _) (fun x => ?_)
  rw [putsR_mem]
  simp [breaksI, onceR_mem]
def brk (l l2 : List It) (xs : List (List UInt8)) (k : Nat) : List (List UInt8) := putsR [] ((xs.take k).filter (brokenI l l2))
theorem brk_le (l l2 : List It) (xs : List (List UInt8)) (k : Nat) : (brk l l2 xs k).length ≤ k := by
  unfold brk
  have h := puts_le ((xs.take k).filter (brokenI l l2)) []
  have h2 := List.length_filter_le (brokenI l l2) (xs.take k)
  have h3 := List.length_take_le k xs
  simp only [List.length_nil] at h
  omega
theorem brk_next (l l2 : List It) (xs : List (List UInt8)) (k : Nat) (hk : k < xs.length) : brk l l2 xs (k + 1) = if brokenI l l2 xs[k] = true then putR (brk l l2 xs k) xs[k] else brk l l2 xs k := by
  unfold brk
  rw [List.take_succ_eq_append_getElem hk, List.filter_append]
  split
  · rename_i h
    simp [h, putsR]
  · rename_i h
    simp [h]
theorem brk_end (l l2 : List It) (xs : List (List UInt8)) (k : Nat) (hk : xs.length ≤ k) : brk l l2 xs k = breaksI l l2 xs := by
  unfold brk
  rw [List.take_of_length_le hk, breaks_puts]
set_option maxHeartbeats 4000000 in
set_option maxRecDepth 1000000 in
theorem refBreaks (F : Nat → Prop) (m m2 : List UInt8) (l l2 : List It) (va : Option Addr) (vc : Nat) (ua : Option Addr) (uc : Nat) (uv : Value) (xs : List (List UInt8)) (w : World)
    (h1 : ItR F w (.slice va l.length vc) l) (h2 : ItR F w (.slice ua l2.length uc) l2) (h3 : TxR F w uv xs) (hF : ∀ g, F g → g < w.heap.size) (hok1 : ∀ x ∈ l, ItOk x) (hok2 : ∀ x ∈ l2, ItOk x) (hl1 : l.length ≤ 2199023255552) (hl2 : l2.length ≤ 2199023255552) (hl3 : xs.length ≤ 8796093022208) :
    Calls Tryz.prog 14 #[.agg #[.string (str m), .slice va l.length vc], .agg #[.string (str m2), .slice ua l2.length uc], uv] w fun e w' => ∃ v', e = .returned v' ∧ StrRow w' v' (breaksI l l2 xs) ∧ Below w.heap.size w w' := by
  have hb0 : Below w.heap.size w ((w.alloc (.cells #[.string (str m), .slice va l.length vc] 24)).alloc (.cells #[.string (str m2), .slice ua l2.length uc] 24)) := ((Below.refl _ _).alloc (Nat.le_refl _) _).alloc (by simp) _
  have hSz : ∀ u, Below (w.heap.size + 2) ((w.alloc (.cells #[.string (str m), .slice va l.length vc] 24)).alloc (.cells #[.string (str m2), .slice ua l2.length uc] 24)) u → w.heap.size + 2 ≤ u.heap.size := fun u hu => by have := hu.size; simpa using this
  have hN : ∀ u, Below (w.heap.size + 2) ((w.alloc (.cells #[.string (str m), .slice va l.length vc] 24)).alloc (.cells #[.string (str m2), .slice ua l2.length uc] 24)) u → Below w.heap.size w u := fun u hu => hb0.trans (hu.mono (by omega))
  have hS : ∀ u, Below (w.heap.size + 2) ((w.alloc (.cells #[.string (str m), .slice va l.length vc] 24)).alloc (.cells #[.string (str m2), .slice ua l2.length uc] 24)) u → u.cell? ⟨w.heap.size, 0, none⟩ = some (.string (str m)) ∧ u.cell? ⟨w.heap.size, 1, none⟩ = some (.slice va l.length vc) ∧ u.cell? ⟨w.heap.size + 1, 0, none⟩ = some (.string (str m2)) ∧ u.cell? ⟨w.heap.size + 1, 1, none⟩ = some (.slice ua l2.length uc) := fun u hu => by
    have k1 : u.heap[w.heap.size]? = some (.cells #[.string (str m), .slice va l.length vc] 24 (0, 0)) := (hu.block _ (by omega)).trans ((Below.heap_alloc _ _ _ (by simp)).trans (World.alloc_heap_new w _))
    have k2 : u.heap[w.heap.size + 1]? = some (.cells #[.string (str m2), .slice ua l2.length uc] 24 (0, 0)) := (hu.block _ (by omega)).trans (by have := World.alloc_heap_new (w.alloc (.cells #[.string (str m), .slice va l.length vc] 24)) (.cells #[.string (str m2), .slice ua l2.length uc] 24); simpa using this)
    exact ⟨by rw [cell_of_row u _ 0 _ _ _ k1]; rfl, by rw [cell_of_row u _ 1 _ _ _ k1]; rfl, by rw [cell_of_row u _ 0 _ _ _ k2]; rfl, by rw [cell_of_row u _ 1 _ _ _ k2]; rfl⟩
  have hI1 : ∀ u, Below (w.heap.size + 2) ((w.alloc (.cells #[.string (str m), .slice va l.length vc] 24)).alloc (.cells #[.string (str m2), .slice ua l2.length uc] 24)) u → ItR F u (.slice va l.length vc) l := fun u hu => h1.below (hN u hu) hF
  have hI2 : ∀ u, Below (w.heap.size + 2) ((w.alloc (.cells #[.string (str m), .slice va l.length vc] 24)).alloc (.cells #[.string (str m2), .slice ua l2.length uc] 24)) u → ItR F u (.slice ua l2.length uc) l2 := fun u hu => h2.below (hN u hu) hF
  obtain ⟨ta, tc, htv⟩ := h3.shape
  subst htv
  have hT : ∀ u, Below (w.heap.size + 2) ((w.alloc (.cells #[.string (str m), .slice va l.length vc] 24)).alloc (.cells #[.string (str m2), .slice ua l2.length uc] 24)) u → TxR F u (.slice ta xs.length tc) xs := fun u hu => h3.below (hN u hu) hF
  have hFu : ∀ u, Below (w.heap.size + 2) ((w.alloc (.cells #[.string (str m), .slice va l.length vc] 24)).alloc (.cells #[.string (str m2), .slice ua l2.length uc] 24)) u → ∀ g, F g → g < u.heap.size := fun u hu g hg => by have := hF g hg; have := hSz u hu; omega
  have hnext : ∀ u u', Below (w.heap.size + 2) ((w.alloc (.cells #[.string (str m), .slice va l.length vc] 24)).alloc (.cells #[.string (str m2), .slice ua l2.length uc] 24)) u → Below u.heap.size u u' → Below (w.heap.size + 2) ((w.alloc (.cells #[.string (str m), .slice va l.length vc] 24)).alloc (.cells #[.string (str m2), .slice ua l2.length uc] 24)) u' := fun u u' hu h => hu.trans (h.mono (hSz u hu))
  have G0 : Below (w.heap.size + 2) ((w.alloc (.cells #[.string (str m), .slice va l.length vc] 24)).alloc (.cells #[.string (str m2), .slice ua l2.length uc] 24)) ((w.alloc (.cells #[.string (str m), .slice va l.length vc] 24)).alloc (.cells #[.string (str m2), .slice ua l2.length uc] 24)) := Below.refl _ _
  clear h1 h2 h3 hb0
  go_enter Tryz.func14, Tryz.ntmps14
  go_wp2
  generalize ((w.alloc (.cells #[.string (str m), .slice va l.length vc] 24)).alloc (.cells #[.string (str m2), .slice ua l2.length uc] 24)) = W2 at *
  go_loopg [7, 8] xs.length (fun g o i wr => ∃ (jj : Nat), g + jj = xs.length ∧ i = .int .i64 (jj : Int) ∧ StrRow wr o (brk l l2 xs jj) ∧ Below (w.heap.size + 2) W2 wr)
  case atStart => exact ⟨0, by omega, rfl, .inl ⟨by simp [brk, putsR], none, 0, rfl⟩, G0⟩
  case round =>
    obtain ⟨jj, hgj, rfl, hrow, Gr⟩ := hrel
    obtain ⟨oa, oc, rfl⟩ := hrow.shape
    by_cases hj : jj < xs.length
    · have hji : (jj : Int) < (xs.length : Int) := by omega
      have hbn := hidden (brk_next l l2 xs jj hj)
      have hble := brk_le l l2 xs jj
      obtain ⟨gT, oT, cT, eT, hgT, qT⟩ := (hT _ Gr).at jj hj
      simp only [Value.slice.injEq, true_and] at eT
      obtain ⟨rfl, rfl⟩ := eT
      have hTq : ∀ u, Below wr.heap.size wr u → u.cell? ⟨gT, oT + jj, none⟩ = some (.string (str xs[jj])) := fun u hu => (hu.cell (p := ⟨gT, oT + jj, none⟩) (hFu _ Gr _ hgT)).trans qT
      clear qT hT
      have HQ : ∀ q, q = xs[jj] → Hid (brk l l2 xs (jj + 1) = if brokenI l l2 q = true then putR (brk l l2 xs jj) q else brk l l2 xs jj) := fun q hq => by subst hq; exact hbn
      clear hbn
      obtain ⟨q, hq⟩ : ∃ q, q = xs[jj] := ⟨_, rfl⟩
      replace HQ := HQ q hq
      rw [← hq] at hTq
      clear hq
      go_wp2_with fail
      have KWB1 : Below wr.heap.size wr wr := Below.refl _ _
      have hGW : ∀ u, Below wr.heap.size wr u → Below (w.heap.size + 2) W2 u := fun u hu => hnext _ _ (hnext _ _ Gr KWB1) hu
      have hFd : ∀ u, Below wr.heap.size wr u → Calls Tryz.prog 8 #[.agg #[.string (str m), .slice va l.length vc], .string (str q)] u (FindR F l q u) := fun u hu => refFind F m l _ _ q u (hI1 _ (hGW u hu)) (hFu _ (hGW u hu)) hl1
      have hSf : ∀ u, Below wr.heap.size wr u → u.cell? ⟨w.heap.size, 0, none⟩ = some (.string (str m)) ∧ u.cell? ⟨w.heap.size, 1, none⟩ = some (.slice va l.length vc) ∧ u.cell? ⟨gT, oT + jj, none⟩ = some (.string (str q)) := fun u hu => by
        obtain ⟨s0, s1, _, _⟩ := hS _ (hGW u hu)
        exact ⟨s0, s1, hTq _ (KWB1.trans (hu.mono KWB1.size))⟩
      have hnx2 : ∀ u u', Below wr.heap.size wr u → Below u.heap.size u u' → Below wr.heap.size wr u' := fun u u' hu h => hu.trans (h.mono hu.size)
      have hFh : ∀ g, F g → g < wr.heap.size := hFu _ (hnext _ _ Gr KWB1)
      have K0 : Below wr.heap.size wr wr.drew := (Below.refl _ _).drew
      have K1 : Below wr.heap.size wr (wr.drew.alloc (.cells #[.int .i64 0, .string ⟨#[]⟩, .string ⟨#[]⟩, .slice none 0 0] 34)) := K0.alloc (Nat.le_refl _) _
      have K2 : Below wr.heap.size wr (wr.alloc (.cells #[.int .i64 0, .string ⟨#[]⟩, .string ⟨#[]⟩, .slice none 0 0] 34)) := (Below.refl _ wr).alloc (Nat.le_refl _) _
      have hr0 : (wr.drew.alloc (.cells #[.int .i64 0, .string ⟨#[]⟩, .string ⟨#[]⟩, .slice none 0 0] 34)).heap[wr.heap.size]? = some (.cells #[.int .i64 0, .string ⟨#[]⟩, .string ⟨#[]⟩, .slice none 0 0] 34 (0, 0)) := World.alloc_heap_new wr.drew _
      have hkz : wr.drew.heap.size = wr.heap.size := rfl
      obtain ⟨s0, s1, s2⟩ := hSf _ K0
      obtain ⟨r0, r1, r2, r3, rf0, rf1, rf2, rf3⟩ := four4 hr0
      go_cut [9, 10] from 19 to 27 (fun p b wx => ∃ (x : It) (cv : Value) (g : Nat), p = .pointer (some ⟨g, 0, none⟩) ∧ b = .bool (findI l q).isSome ∧ Hid (x = (findI l q).getD it0) ∧ wx.heap[g]? = some (.cells #[.int .i64 x.kind, .string (str x.name), .string (str x.ty), cv] 34 (0, 0)) ∧ CsR F wx cv x.cases ∧ Below wr.heap.size wr wx ∧ wr.heap.size ≤ g)
      case first =>
        clear hS hI1 hI2 hN hFu hnext hSz hTq hGW HQ hrow 
        go_region_held3 (fun u => u.cell? ⟨w.heap.size, 0, none⟩ = some (.string (str m)) ∧ u.cell? ⟨w.heap.size, 1, none⟩ = some (.slice va l.length vc) ∧ u.cell? ⟨gT, oT + jj, none⟩ = some (.string (str q))) (first | go_keep | exact hSf _ (by assumption) | exact hSf _ (box4_below (by assumption) (Nat.le_refl _) _ _ _ _)) (first | (go_at_call 8; refine (hFd _ (by assumption)).mono ?_; rintro e w8 ⟨x, cv, rfl, hx, hC, hb8⟩; obtain ⟨kx, nx, tx, csx⟩ := x; replace hx := hidden hx; obtain ⟨cax, ccx, rfl⟩ := hC.shape; unfold itv; have G8 := hnx2 _ _ (by assumption) hb8; obtain ⟨s0, s1, s2⟩ := hSf _ G8; try (have hr := (hb8.block wr.heap.size (by simp)).trans hr0; obtain ⟨r0, r1, r2, r3, rf0, rf1, rf2, rf3⟩ := four4 hr)))
        all_goals (
          go_wp2_with fail
          go_meet
          first
            | exact ⟨⟨kx, nx, tx, csx⟩, _, _, rfl, rfl, hx, World.alloc_heap_new w8 _, hC.frame (fun g' hg' => ⟨hg', Below.heap_alloc _ _ _ (Nat.lt_of_lt_of_le (hFh g' hg') G8.size)⟩), G8.alloc G8.size _, G8.size⟩
            | exact ⟨⟨kx, nx, tx, csx⟩, _, _, rfl, rfl, hx, box4_set hr _ _ _ _, hC.frame (fun g' hg' => ⟨hg', box4_block _ _ _ (by have := hFh g' hg'; omega) _ _ _ _⟩), box4_below G8 (Nat.le_refl _) _ _ _ _, Nat.le_refl _⟩)
      obtain ⟨⟨k1, n1, t1, c1⟩, cv1, g1, rfl, rfl, hx1, hq1, hC1, KQ, hg1⟩ := hcut
      rename World => wq
      obtain ⟨ca1, cc1, rfl⟩ := hC1.shape
      clear hFd hSf hnx2 K0 K1 K2 hr0 hkz s0 s1 s2 r0 r1 r2 r3 rf0 rf1 rf2 rf3 KWB1 hGW hFh
      go_wp2_with fail
      have KWB2 : Below wr.heap.size wr wq := KQ
      have hGW : ∀ u, Below wq.heap.size wq u → Below (w.heap.size + 2) W2 u := fun u hu => hnext _ _ (hnext _ _ Gr KWB2) hu
      have hFd : ∀ u, Below wq.heap.size wq u → Calls Tryz.prog 8 #[.agg #[.string (str m2), .slice ua l2.length uc], .string (str q)] u (FindR F l2 q u) := fun u hu => refFind F m2 l2 _ _ q u (hI2 _ (hGW u hu)) (hFu _ (hGW u hu)) hl2
      have hSf : ∀ u, Below wq.heap.size wq u → u.cell? ⟨w.heap.size + 1, 0, none⟩ = some (.string (str m2)) ∧ u.cell? ⟨w.heap.size + 1, 1, none⟩ = some (.slice ua l2.length uc) ∧ u.cell? ⟨gT, oT + jj, none⟩ = some (.string (str q)) := fun u hu => by
        obtain ⟨_, _, s0, s1⟩ := hS _ (hGW u hu)
        exact ⟨s0, s1, hTq _ (KWB2.trans (hu.mono KWB2.size))⟩
      have hnx2 : ∀ u u', Below wq.heap.size wq u → Below u.heap.size u u' → Below wq.heap.size wq u' := fun u u' hu h => hu.trans (h.mono hu.size)
      have hFh : ∀ g, F g → g < wq.heap.size := hFu _ (hnext _ _ Gr KWB2)
      have K0 : Below wq.heap.size wq wq.drew := (Below.refl _ _).drew
      have K1 : Below wq.heap.size wq (wq.drew.alloc (.cells #[.int .i64 0, .string ⟨#[]⟩, .string ⟨#[]⟩, .slice none 0 0] 34)) := K0.alloc (Nat.le_refl _) _
      have K2 : Below wq.heap.size wq (wq.alloc (.cells #[.int .i64 0, .string ⟨#[]⟩, .string ⟨#[]⟩, .slice none 0 0] 34)) := (Below.refl _ wq).alloc (Nat.le_refl _) _
      have hr0 : (wq.drew.alloc (.cells #[.int .i64 0, .string ⟨#[]⟩, .string ⟨#[]⟩, .slice none 0 0] 34)).heap[wq.heap.size]? = some (.cells #[.int .i64 0, .string ⟨#[]⟩, .string ⟨#[]⟩, .slice none 0 0] 34 (0, 0)) := World.alloc_heap_new wq.drew _
      have hkz : wq.drew.heap.size = wq.heap.size := rfl
      obtain ⟨s0, s1, s2⟩ := hSf _ K0
      obtain ⟨r0, r1, r2, r3, rf0, rf1, rf2, rf3⟩ := four4 hr0
      go_cut [11, 12] from 28 to 36 (fun p b wx => ∃ (x : It) (cv : Value) (g : Nat), p = .pointer (some ⟨g, 0, none⟩) ∧ b = .bool (findI l2 q).isSome ∧ Hid (x = (findI l2 q).getD it0) ∧ wx.heap[g]? = some (.cells #[.int .i64 x.kind, .string (str x.name), .string (str x.ty), cv] 34 (0, 0)) ∧ CsR F wx cv x.cases ∧ Below wq.heap.size wq wx ∧ wq.heap.size ≤ g)
      case first =>
        clear hS hI1 hI2 hN hFu hnext hSz hTq hGW HQ hrow hq1 hC1 hg1 hx1
        go_region_held3 (fun u => u.cell? ⟨w.heap.size + 1, 0, none⟩ = some (.string (str m2)) ∧ u.cell? ⟨w.heap.size + 1, 1, none⟩ = some (.slice ua l2.length uc) ∧ u.cell? ⟨gT, oT + jj, none⟩ = some (.string (str q))) (first | go_keep | exact hSf _ (by assumption) | exact hSf _ (box4_below (by assumption) (Nat.le_refl _) _ _ _ _)) (first | (go_at_call 8; refine (hFd _ (by assumption)).mono ?_; rintro e w8 ⟨x, cv, rfl, hx, hC, hb8⟩; obtain ⟨kx, nx, tx, csx⟩ := x; replace hx := hidden hx; obtain ⟨cax, ccx, rfl⟩ := hC.shape; unfold itv; have G8 := hnx2 _ _ (by assumption) hb8; obtain ⟨s0, s1, s2⟩ := hSf _ G8; try (have hr := (hb8.block wq.heap.size (by simp)).trans hr0; obtain ⟨r0, r1, r2, r3, rf0, rf1, rf2, rf3⟩ := four4 hr)))
        all_goals (
          go_wp2_with fail
          go_meet
          first
            | exact ⟨⟨kx, nx, tx, csx⟩, _, _, rfl, rfl, hx, World.alloc_heap_new w8 _, hC.frame (fun g' hg' => ⟨hg', Below.heap_alloc _ _ _ (Nat.lt_of_lt_of_le (hFh g' hg') G8.size)⟩), G8.alloc G8.size _, G8.size⟩
            | exact ⟨⟨kx, nx, tx, csx⟩, _, _, rfl, rfl, hx, box4_set hr _ _ _ _, hC.frame (fun g' hg' => ⟨hg', box4_block _ _ _ (by have := hFh g' hg'; omega) _ _ _ _⟩), box4_below G8 (Nat.le_refl _) _ _ _ _, Nat.le_refl _⟩)
      obtain ⟨⟨k2, n2, t2, c2⟩, cv2, g2, rfl, rfl, hx2, hq2, hC2, KZ, hg2⟩ := hcut
      rename World => wz
      obtain ⟨ca2, cc2, rfl⟩ := hC2.shape
      clear hFd hSf hnx2 K0 K1 K2 hr0 hkz s0 s1 s2 r0 r1 r2 r3 rf0 rf1 rf2 rf3 hGW KWB2
      simp only at hq1 hq2 hC1 hC2
      have hlt1 : g1 < wq.heap.size := (Array.getElem?_eq_some_iff.1 hq1).1
      have hq1' := (KZ.block g1 hlt1).trans hq1
      have KW : Below wr.heap.size wr wz := KQ.trans (KZ.mono KQ.size)
      have Gz := hnext _ _ Gr KW
      have hC1' : CsR F wz (.slice ca1 c1.length cc1) c1 := hC1.below KZ hFh
      have hSame := refSame F ⟨k1, n1, t1, c1⟩ ⟨k2, n2, t2, c2⟩ _ _ wz hC1' hC2 (hFu _ Gz) (by rw [hx1.out]; exact find_ok hok1 q) (by rw [hx2.out]; exact find_ok hok2 q)
      have HW : Hid (brokenI l l2 q = ((findI l q).isSome && !((findI l2 q).isSome && sameI ⟨k1, n1, t1, c1⟩ ⟨k2, n2, t2, c2⟩))) := by rw [hid_iff, ← want_is, hx1.out, hx2.out]
      unfold itv at hSame
      simp only at hSame
      clear hx1 hx2 hC1 hC2 hC1' hq1 hg1 hg2 KZ KQ hlt1 hFh
      have hrz := hrow.below KW
      clear hrow
      generalize (findI l q).isSome = b1 at *
      generalize (findI l2 q).isSome = b2 at *
      generalize sameI ⟨k1, n1, t1, c1⟩ ⟨k2, n2, t2, c2⟩ = rs at *
      generalize brokenI l l2 q = bk at *
      obtain ⟨z0, z1, z2, z3, _⟩ := four4 hq1'
      obtain ⟨y0, y1, y2, y3, _⟩ := four4 hq2
      have hqz := hTq _ KW
      go_upto_region 7 with fail
      go_cut [47] from 37 to 47 (fun c wx => c = .bool bk ∧ Below wz.heap.size wz wx)
      case first =>
        clear hS hI1 hI2 hN hFu hnext hSz hok1 hok2 hTq HQ hrz
        cases b1
        · have hbk : bk = false := HW.out
          subst hbk
          go_wp2_with fail
          go_meet
          exact ⟨rfl, Below.refl _ _⟩
        · cases b2
          · have hbk : bk = true := HW.out
            subst hbk
            go_wp2_with fail
            go_meet
            exact ⟨rfl, Below.refl _ _⟩
          · have hbk : bk = !rs := HW.out
            subst hbk
            go_wp2_with fail
            refine hSame.mono ?_
            rintro e w9 ⟨rfl, hb9⟩
            go_wp2_with fail
            go_meet
            exact ⟨rfl, hb9⟩
      obtain ⟨rfl, KY⟩ := hcut
      rename World => wy
      have KV : Below wr.heap.size wr wy := KW.trans (KY.mono KW.size)
      have Gy := hnext _ _ Gr KV
      have hqy := hTq _ KV
      have hry := hrz.below KY
      clear hSame HW hq1' hq2 z0 z1 z2 z3 y0 y1 y2 y3 hS hI1 hI2 hrz hTq KW Gz hqz KY
      cases bk
      · rw [if_neg (by simp)] at HQ
        have hr2 : StrRow wy (.slice oa (brk l l2 xs jj).length oc) (brk l l2 xs (jj + 1)) := by rw [HQ.out]; exact hry
        clear HQ
        go_wp2
        go_roundg (xs.length - (jj + 1))
        case measure => omega
        case rel => exact ⟨jj + 1, by omega, by go_num, hr2, Gy⟩
      · rw [if_pos rfl] at HQ
        have hput := putN _ _ q wy hry (by omega)
        clear hry
        go_wp2_with fail
        refine hput.mono ?_
        rintro e wp ⟨v', rfl, hown, hbp⟩
        have Gp := hnext _ _ Gy hbp
        have hr2 : StrRow wp v' (brk l l2 xs (jj + 1)) := by rw [HQ.out]; exact strRow_own hown
        clear hput hown HQ
        obtain ⟨pa, pc, rfl⟩ := hr2.shape
        go_wp2
        go_roundg (xs.length - (jj + 1))
        case measure => omega
        case rel => exact ⟨jj + 1, by omega, by go_num, hr2, Gp⟩
    · have hji : ¬ (jj : Int) < (xs.length : Int) := by omega
      have hrow2 : StrRow wr (.slice oa (brk l l2 xs jj).length oc) (breaksI l l2 xs) := by rw [← brk_end l l2 xs jj (by omega)]; exact hrow
      clear hrow
      have hbw := hN _ Gr
      clear hI1 hI2 hT hS
      go_wp2
      go_ret
      exact ⟨_, rfl, hrow2, hbw⟩
end Go.Proofs.YtalbjbahgbkifaaGreat

namespace Go.Proofs.YtalbjbahgbkifaaGreat
open Go.RowKit

theorem take_next {xs ys : List (List UInt8)} {k : Nat} (hx : k < xs.length) (hy : k < ys.length) (h : xs.take k = ys.take k) (he : xs[k] = ys[k]) : xs.take (k + 1) = ys.take (k + 1) := by
  rw [List.take_succ_eq_append_getElem hx, List.take_succ_eq_append_getElem hy, h, he]
theorem StrRow.at {w : World} {v : Value} {xs : List (List UInt8)} (h : StrRow w v xs) (i : Nat) (hi : i < xs.length) : ∃ bk o c, v = .slice (some ⟨bk, o, none⟩) xs.length c ∧ w.cell? ⟨bk, o + i, none⟩ = some (.string (str xs[i])) := by
  rcases h with ⟨rfl, _⟩ | ⟨bk, o, c, rfl, _, _, h3⟩
  · simp at hi
  · exact ⟨bk, o, c, rfl, h3 i _ (List.getElem?_eq_getElem hi)⟩

set_option maxHeartbeats 2000000 in
set_option maxRecDepth 1000000 in
theorem sameS (v v' : Value) (xs ys : List (List UInt8)) (w : World) (h : StrRow w v xs) (h' : StrRow w v' ys) (_hl : xs.length ≤ 8796093022208) (_hl' : ys.length ≤ 8796093022208) : Calls Tryz.prog 12 #[v, v'] w (BoolE (decide (xs = ys)) w) := by
  obtain ⟨va, vc, hv⟩ := h.shape
  obtain ⟨ua, uc, hu⟩ := h'.shape
  by_cases hn : xs.length = ys.length
  · have hn' : ((xs.length : Int) != (ys.length : Int)) = false := by simp; omega
    have h1 := hidden h
    have h2 := hidden h'
    have H1 : Hid (∃ va vc, v = .slice va xs.length vc) := ⟨va, vc, hv⟩
    clear h h'
    subst hv hu
    go_enter Tryz.func12, Tryz.ntmps12
    go_wp2
    go_loopg [5] xs.length (fun g i wr => ∃ (k n : Nat), g + k = xs.length ∧ i = .int .i64 (k : Int) ∧ Hid (xs.take k = ys.take k) ∧ wr = w.drewN n)
    case atStart => exact ⟨0, 0, rfl, rfl, rfl, rfl⟩
    case round =>
      obtain ⟨k, n, hg, rfl, ht, rfl⟩ := hrel
      by_cases hk : k < xs.length
      · have hky : k < ys.length := by omega
        obtain ⟨b1, o1, c1, e1, q1⟩ := h1.out.at k hk
        obtain ⟨b2, o2, c2, e2, q2⟩ := h2.out.at k hky
        simp only [Value.slice.injEq, true_and] at e1 e2
        obtain ⟨rfl, rfl⟩ := e1
        obtain ⟨rfl, rfl⟩ := e2
        have hki : (k : Int) < (xs.length : Int) := by omega
        have hkj : (k : Int) < (ys.length : Int) := by omega
        by_cases he : xs[k] = ys[k]
        · have HT : Hid (xs.take (k + 1) = ys.take (k + 1)) := take_next hk hky ht.out he
          rw [← he] at q2
          generalize xs[k] = x at *
          clear he ht hn
          go_wp2
          go_region
          go_wp2
          go_roundg (xs.length - (k + 1))
          case measure => omega
          case rel => exact ⟨k + 1, n + 1, by omega, by go_num, HT, rfl⟩
        · have HE : Hid (decide (xs = ys) = false) := decide_eq_false (fun e => he (by subst e; rfl))
          have hne : ((str xs[k]).toList == (str ys[k]).toList) = false := by
            rw [beq_eq_false_iff_ne, Lib.toList_data, Lib.toList_data, str_data, str_data]
            exact he
          have hne' : ((str xs[k]).toList != (str ys[k]).toList) = true := by simp only [bne, hne]; rfl
          clear he ht hn
          generalize xs[k] = x at *
          generalize ys[k] = y at *
          go_wp2
          go_region
          go_wp2
          go_ret
          exact ⟨by rw [HE.out]; rfl, n + 1, rfl⟩
      · have HE : Hid (decide (xs = ys) = true) := by
          refine decide_eq_true ?_
          have := ht.out
          rwa [List.take_of_length_le (by omega), List.take_of_length_le (by omega)] at this
        have hki : ¬ (k : Int) < (xs.length : Int) := by omega
        clear ht hn
        go_wp2
        go_ret
        exact ⟨by rw [HE.out]; rfl, n, rfl⟩
  · have hn' : ((xs.length : Int) != (ys.length : Int)) = true := by simp; omega
    have HE : Hid (decide (xs = ys) = false) := decide_eq_false (fun e => hn (by rw [e]))
    clear hn h h'
    subst hv hu
    go_enter Tryz.func12, Tryz.ntmps12
    go_wp2
    go_ret
    exact ⟨by rw [HE.out]; rfl, 0, rfl⟩
end Go.Proofs.YtalbjbahgbkifaaGreat
