/-
  The law on what is written and read: its walk.
  And: The statement on what is let by, written and compared: its walk. The statement on what is let by, written and compared: for every two interfaces, all used names and any name: what the package answers is what the document says. No condition.
-/
import Derived.Deep.CutBlock
import Derived.Deep.CutRange
import Derived.Deep.DeepCutAuto
import Derived.Test.YtalbjbahgbkifaaGreatIfcB
import Derived.Test.YtalbjbahgbkifaaGreatDecA
import Derived.Test.YtalbjbahgbkifaaGreatIfaceEncode
import Derived.Test.YtalbjbahgbkifaaGreatIfaceKnown
import Derived.Deep.RegionHeld3
import Derived.Deep.LoopGhost
import Derived.Test.YtalbjbahgbkifaaGreatChA
import Derived.Test.YtalbjbahgbkifaaGreatIfaceRight
import Derived.Test.YtalbjbahgbkifaaGreatRefB
import Derived.ProofKit
import Derived.OpenShut
import Derived.SizedLaws
import Derived.ChangeShapes
import Derived.WideShapes
import Derived.Test.YtalbjbahgbkifaaGreatRows
import Derived.Test.YtalbjbahgbkifaaGreatIfaceRows
import Derived.ChangeMaps
namespace Go.Proofs.YtalbjbahgbkifaaGreat
open Go.RowKit

theorem rdW {w w' : World} {b : Nat} {v : Value} {l : List Nat} (h : Wire.Rd w b v l) (k : Below w.heap.size w w') : Wire.Rd w' b v l := by
  rcases h with h | ⟨a, cap, h1, h2, h3⟩
  · exact .inl h
  · refine .inr ⟨a, cap, h1, h2, fun j u hj => ?_⟩
    have := h3 j u hj
    rw [k.cell (World.block_lt_of_cell? w _ this)]
    exact this
theorem txtB_256 (x : List UInt8) : ∀ n ∈ txtB x, n < 256 := by
  intro n hn
  rcases List.mem_append.1 hn with h | h
  · exact Wire.enc_256 _ n h
  · obtain ⟨c, _, rfl⟩ := List.mem_map.1 h
    exact c.toNat_lt
theorem fieldsB_256 : ∀ (fs : List (List UInt8)), ∀ n ∈ fieldsB fs, n < 256
  | [], n, hn => by simp [fieldsB] at hn
  | f :: r, n, hn => by
    rcases List.mem_append.1 hn with h | h
    · exact txtB_256 f n h
    · exact fieldsB_256 r n h
theorem caseB_256 (c : Cs) : ∀ n ∈ caseB c, n < 256 := by
  intro n hn
  rcases List.mem_append.1 hn with h | h
  · exact txtB_256 _ n h
  · rcases List.mem_append.1 h with h | h
    · exact Wire.enc_256 _ n h
    · exact fieldsB_256 _ n h
theorem casesB_256 : ∀ (fs : List Cs), ∀ n ∈ casesB fs, n < 256
  | [], n, hn => by simp [casesB] at hn
  | f :: r, n, hn => by
    rcases List.mem_append.1 hn with h | h
    · exact caseB_256 f n h
    · exact casesB_256 r n h
theorem itemB_256 (x : It) : ∀ n ∈ itemB x, n < 256 := by
  intro n hn
  rcases List.mem_append.1 hn with h | h
  · exact Wire.enc_256 _ n h
  · rcases List.mem_append.1 h with h | h
    · exact txtB_256 _ n h
    · split at h
      · rcases List.mem_append.1 h with h | h
        · exact Wire.enc_256 _ n h
        · exact casesB_256 _ n h
      · exact txtB_256 _ n h
theorem itemsB_256 : ∀ (fs : List It), ∀ n ∈ itemsB fs, n < 256
  | [], n, hn => by simp [itemsB] at hn
  | f :: r, n, hn => by
    rcases List.mem_append.1 hn with h | h
    · exact itemB_256 f n h
    · exact itemsB_256 r n h
theorem ifaceB_256 (m : List UInt8) (l : List It) : ∀ n ∈ ifaceB m l, n < 256 := by
  intro n hn
  rcases List.mem_append.1 hn with h | h
  · exact txtB_256 _ n h
  · rcases List.mem_append.1 h with h | h
    · exact Wire.enc_256 _ n h
    · exact itemsB_256 _ n h
theorem breaks_self (l : List It) (xs : List (List UInt8)) : breaksI l l xs = [] := by
  unfold breaksI
  rw [List.filter_eq_nil_iff]
  intro n _
  unfold brokenI
  cases h : findI l n with
  | none => simp
  | some a =>
    have := (sameI_iff a a).2 rfl
    simp [this]
theorem why_right {l : List Nat} (h : (whyD l).1 = 0) : (endR l).1 = 0 ∧ rightI (txtR l 24 0 0).1 (itemsR l).1 = 0 := by
  unfold whyD at h
  split at h
  · rename_i h1
    exact absurd h h1
  · rename_i h1
    exact ⟨Classical.not_not.1 h1, h⟩
end Go.Proofs.YtalbjbahgbkifaaGreat

namespace Go.Proofs.YtalbjbahgbkifaaGreat
open Go.RowKit

def encL (m : List UInt8) (l : List It) : List Nat := if rightI m l = 0 then ifaceB m l else []
theorem enc_one {m : List UInt8} {l : List It} {w w' : World} {e : Ending} (h : EncE m l w e w') : ∃ v b, e = .returned (.tuple #[v, .int .i64 (rightI m l : Int)]) ∧ Wire.Rd w' b v (encL m l) ∧ Below w.heap.size w w' := by
  obtain ⟨hc, hb⟩ := h
  unfold encL
  rcases hc with ⟨h1, v, g, rfl, h2, h3⟩ | ⟨h1, rfl⟩
  · rw [if_pos h1, h1]
    exact ⟨v, g, rfl, h2.rd, hb⟩
  · rw [if_neg h1]
    exact ⟨_, 0, rfl, .inl ⟨rfl, rfl⟩, hb⟩
theorem breaks_le (l l2 : List It) (xs : List (List UInt8)) : (breaksI l l2 xs).length ≤ xs.length := by
  rw [← brk_end l l2 xs xs.length (Nat.le_refl _)]
  exact brk_le l l2 xs xs.length
set_option maxHeartbeats 8000000 in
set_option maxRecDepth 1000000 in
theorem checks_walk (F : Nat → Prop) (m m2 : List UInt8) (l l2 : List It) (va : Option Addr) (vc : Nat) (ua : Option Addr) (uc : Nat) (uv : Value) (xs : List (List UInt8)) (q : List UInt8) (w : World)
    (h1 : ItR F w (.slice va l.length vc) l) (h2 : ItR F w (.slice ua l2.length uc) l2) (h3 : TxR F w uv xs) (hF : ∀ g, F g → g < w.heap.size) (hm1 : Tk m) (hok1 : ∀ x ∈ l, ItOk x) (hok2 : ∀ x ∈ l2, ItOk x) (hl1 : l.length ≤ 2199023255552) (hl2 : l2.length ≤ 2199023255552) (hl3 : xs.length ≤ 8796093022208) (htk : ∀ x ∈ xs, Tk x) :
    Calls Tryz.prog 3 #[.agg #[.string (str m), .slice va l.length vc], .agg #[.string (str m2), .slice ua l2.length uc], uv, .string (str q)] w fun e w' => e = .returned (.bool true) ∧ Below w.heap.size w w' := by
  have hb0 : Below w.heap.size w ((w.alloc (.cells #[.string (str m), .slice va l.length vc] 24)).alloc (.cells #[.string (str m2), .slice ua l2.length uc] 24)) := ((Below.refl _ _).alloc (Nat.le_refl _) _).alloc (by simp) _
  have hSz : ∀ u, Below (w.heap.size + 2) ((w.alloc (.cells #[.string (str m), .slice va l.length vc] 24)).alloc (.cells #[.string (str m2), .slice ua l2.length uc] 24)) u → w.heap.size + 2 ≤ u.heap.size := fun u hu => by have := hu.size; simpa using this
  have hN : ∀ u, Below (w.heap.size + 2) ((w.alloc (.cells #[.string (str m), .slice va l.length vc] 24)).alloc (.cells #[.string (str m2), .slice ua l2.length uc] 24)) u → Below w.heap.size w u := fun u hu => hb0.trans (hu.mono (by omega))
  have hS : ∀ u, Below (w.heap.size + 2) ((w.alloc (.cells #[.string (str m), .slice va l.length vc] 24)).alloc (.cells #[.string (str m2), .slice ua l2.length uc] 24)) u → u.cell? ⟨w.heap.size, 0, none⟩ = some (.string (str m)) ∧ u.cell? ⟨w.heap.size, 1, none⟩ = some (.slice va l.length vc) ∧ u.cell? ⟨w.heap.size + 1, 0, none⟩ = some (.string (str m2)) ∧ u.cell? ⟨w.heap.size + 1, 1, none⟩ = some (.slice ua l2.length uc) := fun u hu => by
    have k1 : u.heap[w.heap.size]? = some (.cells #[.string (str m), .slice va l.length vc] 24 (0, 0)) := (hu.block _ (by omega)).trans ((Below.heap_alloc _ _ _ (by simp)).trans (World.alloc_heap_new w _))
    have k2 : u.heap[w.heap.size + 1]? = some (.cells #[.string (str m2), .slice ua l2.length uc] 24 (0, 0)) := (hu.block _ (by omega)).trans (by have := World.alloc_heap_new (w.alloc (.cells #[.string (str m), .slice va l.length vc] 24)) (.cells #[.string (str m2), .slice ua l2.length uc] 24); simpa using this)
    exact ⟨by rw [cell_of_row u _ 0 _ _ _ k1]; rfl, by rw [cell_of_row u _ 1 _ _ _ k1]; rfl, by rw [cell_of_row u _ 0 _ _ _ k2]; rfl, by rw [cell_of_row u _ 1 _ _ _ k2]; rfl⟩
  have hI1 : ∀ u, Below (w.heap.size + 2) ((w.alloc (.cells #[.string (str m), .slice va l.length vc] 24)).alloc (.cells #[.string (str m2), .slice ua l2.length uc] 24)) u → ItR F u (.slice va l.length vc) l := fun u hu => h1.below (hN u hu) hF
  have hI2 : ∀ u, Below (w.heap.size + 2) ((w.alloc (.cells #[.string (str m), .slice va l.length vc] 24)).alloc (.cells #[.string (str m2), .slice ua l2.length uc] 24)) u → ItR F u (.slice ua l2.length uc) l2 := fun u hu => h2.below (hN u hu) hF
  obtain ⟨ta, tc, htv⟩ := h3.shape
  subst htv
  have hT : ∀ u, Below (w.heap.size + 2) ((w.alloc (.cells #[.string (str m), .slice va l.length vc] 24)).alloc (.cells #[.string (str m2), .slice ua l2.length uc] 24)) u → TxR F u (.slice ta xs.length tc) xs := fun u hu => h3.below (hN u hu) hF
  have hFu : ∀ u, Below (w.heap.size + 2) ((w.alloc (.cells #[.string (str m), .slice va l.length vc] 24)).alloc (.cells #[.string (str m2), .slice ua l2.length uc] 24)) u → ∀ g, F g → g < u.heap.size := fun u hu g hg => by have := hF g hg; have := hSz u hu; omega
  have hnext : ∀ u u', Below (w.heap.size + 2) ((w.alloc (.cells #[.string (str m), .slice va l.length vc] 24)).alloc (.cells #[.string (str m2), .slice ua l2.length uc] 24)) u → Below u.heap.size u u' → Below (w.heap.size + 2) ((w.alloc (.cells #[.string (str m), .slice va l.length vc] 24)).alloc (.cells #[.string (str m2), .slice ua l2.length uc] 24)) u' := fun u u' hu h => hu.trans (h.mono (hSz u hu))
  have G0 : Below (w.heap.size + 2) ((w.alloc (.cells #[.string (str m), .slice va l.length vc] 24)).alloc (.cells #[.string (str m2), .slice ua l2.length uc] 24)) ((w.alloc (.cells #[.string (str m), .slice va l.length vc] 24)).alloc (.cells #[.string (str m2), .slice ua l2.length uc] 24)) := Below.refl _ _
  obtain ⟨d0, d1, d2, d3⟩ := hS _ G0
  clear h1 h2 h3 hb0
  go_enter Tryz.func3, Tryz.ntmps3
  go_wp2_with fail
  generalize ((w.alloc (.cells #[.string (str m), .slice va l.length vc] 24)).alloc (.cells #[.string (str m2), .slice ua l2.length uc] 24)) = W2 at *
  refine (encode7 F m _ l W2 (hI1 _ G0) (hFu _ G0) hm1 hok1).mono ?_
  intro e w1 h1
  obtain ⟨v1, b1, rfl, hr1, bl1⟩ := enc_one h1
  obtain ⟨xa1, xc1, rfl⟩ := hr1.shape
  have G1 := hnext _ _ G0 bl1
  clear h1 bl1 G0 d0 d1 d2 d3
  obtain ⟨d0, d1, d2, d3⟩ := hS _ G1
  go_wp2_with fail
  refine (refEncodeB F m _ l w1 (hI1 _ G1) (hFu _ G1) hm1 hok1).mono ?_
  intro e w2 h2
  obtain ⟨v2, b2, rfl, hr2, bl2⟩ := enc_one h2
  obtain ⟨xa2, xc2, rfl⟩ := hr2.shape
  have G2 := hnext _ _ G1 bl2
  replace hr1 := rdW hr1 bl2
  clear h2 bl2 G1 d0 d1 d2 d3
  obtain ⟨d0, d1, d2, d3⟩ := hS _ G2
  go_wp2_with fail
  refine (find7 F m l va vc q w2 (hI1 _ G2) (hFu _ G2) hok1 hl1).mono ?_
  rintro e w3 ⟨x, cv3, rfl, hx, hC3, bl3⟩
  obtain ⟨kx, nx, tx, csx⟩ := x
  have hxo : ItOk ⟨kx, nx, tx, csx⟩ := by rw [hx]; exact find_ok hok1 q
  have HX := hidden hx
  clear hx
  obtain ⟨ca3, cc3, rfl⟩ := hC3.shape
  unfold itv
  have G3 := hnext _ _ G2 bl3
  replace hr1 := rdW hr1 bl3
  replace hr2 := rdW hr2 bl3
  have bA4 : Below w3.heap.size w3 (w3.alloc (.cells #[.int .i64 kx, .string (str nx), .string (str tx), .slice ca3 csx.length cc3] 34)) := (Below.refl _ _).alloc (Nat.le_refl _) _
  have hN4 : (w3.alloc (.cells #[.int .i64 kx, .string (str nx), .string (str tx), .slice ca3 csx.length cc3] 34)).heap[w3.heap.size]? = some (.cells #[.int .i64 kx, .string (str nx), .string (str tx), .slice ca3 csx.length cc3] 34 (0, 0)) := World.alloc_heap_new w3 _
  have G4 := hnext _ _ G3 bA4
  replace hr1 := rdW hr1 bA4
  replace hr2 := rdW hr2 bA4
  have hC4 := hC3.below bA4 (fun g hg => hg.2)
  have hF4 : ∀ g, Fr w2 w3 g → g < (w3.alloc (.cells #[.int .i64 kx, .string (str nx), .string (str tx), .slice ca3 csx.length cc3] 34)).heap.size := fun g hg => Nat.lt_of_lt_of_le hg.2 bA4.size
  have hz4 : w3.heap.size < (w3.alloc (.cells #[.int .i64 kx, .string (str nx), .string (str tx), .slice ca3 csx.length cc3] 34)).heap.size := by simp
  clear G2 d0 d1 d2 d3 hC3 bl3 bA4 G3
  obtain ⟨d0, d1, d2, d3⟩ := hS _ G4
  simp only at hC4
  go_wp2_with fail
  generalize (w3.alloc (.cells #[.int .i64 kx, .string (str nx), .string (str tx), .slice ca3 csx.length cc3] 34)) = W4 at *
  refine (refFind F m l va vc q W4 (hI1 _ G4) (hFu _ G4) hl1).mono ?_
  rintro e w5 ⟨y, cv5, rfl, hy, hC5, bl5⟩
  obtain rfl : y = ⟨kx, nx, tx, csx⟩ := hy.trans HX.out.symm
  clear HX hy
  obtain ⟨ca5, cc5, rfl⟩ := hC5.shape
  unfold itv
  have G5 := hnext _ _ G4 bl5
  replace hr1 := rdW hr1 bl5
  replace hr2 := rdW hr2 bl5
  have bA6 : Below w5.heap.size w5 (w5.alloc (.cells #[.int .i64 kx, .string (str nx), .string (str tx), .slice ca5 csx.length cc5] 34)) := (Below.refl _ _).alloc (Nat.le_refl _) _
  have hN6 : (w5.alloc (.cells #[.int .i64 kx, .string (str nx), .string (str tx), .slice ca5 csx.length cc5] 34)).heap[w5.heap.size]? = some (.cells #[.int .i64 kx, .string (str nx), .string (str tx), .slice ca5 csx.length cc5] 34 (0, 0)) := World.alloc_heap_new w5 _
  have G6 := hnext _ _ G5 bA6
  replace hr1 := rdW hr1 bA6
  replace hr2 := rdW hr2 bA6
  have B46 : Below W4.heap.size W4 (w5.alloc (.cells #[.int .i64 kx, .string (str nx), .string (str tx), .slice ca5 csx.length cc5] 34)) := bl5.trans (bA6.mono bl5.size)
  have hC6 := hC4.below B46 hF4
  have hN46 := (B46.block w3.heap.size hz4).trans hN4
  have hF6 : ∀ g, Fr w2 w3 g → g < (w5.alloc (.cells #[.int .i64 kx, .string (str nx), .string (str tx), .slice ca5 csx.length cc5] 34)).heap.size := fun g hg => Nat.lt_of_lt_of_le (hF4 g hg) B46.size
  have hD6 := hC5.below bA6 (hFu _ G5)
  have hz6 : w5.heap.size < (w5.alloc (.cells #[.int .i64 kx, .string (str nx), .string (str tx), .slice ca5 csx.length cc5] 34)).heap.size := by simp
  have hz46 : w3.heap.size < (w5.alloc (.cells #[.int .i64 kx, .string (str nx), .string (str tx), .slice ca5 csx.length cc5] 34)).heap.size := Nat.lt_of_lt_of_le hz4 B46.size
  clear G4 d0 d1 d2 d3 hC4 hC5 bl5 bA6 G5 B46 hN4 hF4
  simp only at hD6
  generalize encL m l = LL at *
  go_upto_region 5 with fail
  generalize (w5.alloc (.cells #[.int .i64 kx, .string (str nx), .string (str tx), .slice ca5 csx.length cc5] 34)) = W6 at *
  generalize w3.heap.size = g3 at *
  generalize w5.heap.size = g5 at *
  go_cut [79] from 40 to 79 (fun c wx => c = .bool false ∧ Below (w.heap.size + 2) W2 wx)
  case first =>
    have hGW : ∀ u, Below W6.heap.size W6 u → Below (w.heap.size + 2) W2 u := fun u hu => hnext _ _ G6 hu
    have hnx : ∀ u u', Below W6.heap.size W6 u → Below u.heap.size u u' → Below W6.heap.size W6 u' := fun u u' hu h => hu.trans (h.mono hu.size)
    have hSf : ∀ u, Below W6.heap.size W6 u → u.cell? ⟨w.heap.size, 0, none⟩ = some (.string (str m)) ∧ u.cell? ⟨w.heap.size, 1, none⟩ = some (.slice va l.length vc) ∧ u.cell? ⟨w.heap.size + 1, 0, none⟩ = some (.string (str m2)) ∧ u.cell? ⟨w.heap.size + 1, 1, none⟩ = some (.slice ua l2.length uc) ∧ u.cell? ⟨g3, 0, none⟩ = some (.int .i64 kx) ∧ u.cell? ⟨g3, 1, none⟩ = some (.string (str nx)) ∧ u.cell? ⟨g3, 2, none⟩ = some (.string (str tx)) ∧ u.cell? ⟨g3, 3, none⟩ = some (.slice ca3 csx.length cc3) ∧ u.cell? ⟨g5, 0, none⟩ = some (.int .i64 kx) ∧ u.cell? ⟨g5, 1, none⟩ = some (.string (str nx)) ∧ u.cell? ⟨g5, 2, none⟩ = some (.string (str tx)) ∧ u.cell? ⟨g5, 3, none⟩ = some (.slice ca5 csx.length cc5) ∧ (convert 26 9 (.slice xa1 LL.length xc1)).run Tryz.prog u = .ok (.string (Wire.toStr LL)) u ∧ (convert 26 9 (.slice xa2 LL.length xc2)).run Tryz.prog u = .ok (.string (Wire.toStr LL)) u := fun u hu => by
      obtain ⟨s0, s1, s2, s3⟩ := hS _ (hGW u hu)
      obtain ⟨x0, x1, x2, x3, _⟩ := four4 ((hu.block g3 hz46).trans hN46)
      obtain ⟨y0, y1, y2, y3, _⟩ := four4 ((hu.block g5 hz6).trans hN6)
      exact ⟨s0, s1, s2, s3, x0, x1, x2, x3, y0, y1, y2, y3, (rdW hr1 hu).string, (rdW hr2 hu).string⟩
    have hRi : ∀ u, Below W6.heap.size W6 u → Calls Tryz.prog 9 #[.agg #[.string (str m), .slice va l.length vc]] u (NumB (rightI m l) u) := fun u hu => right7 F m _ l u (hI1 _ (hGW u hu)) (hFu _ (hGW u hu)) hm1 hok1
    have hRr : ∀ u, Below W6.heap.size W6 u → Calls Tryz.prog 10 #[.agg #[.string (str m), .slice va l.length vc]] u (NumB (rightI m l) u) := fun u hu => refRightW F m _ l u (hI1 _ (hGW u hu)) (hFu _ (hGW u hu)) hm1 hok1
    have hKe : ∀ u, Below W6.heap.size W6 u → Calls Tryz.prog 11 #[.agg #[.int .i64 kx, .string (str nx), .string (str tx), .slice ca3 csx.length cc3], .agg #[.int .i64 kx, .string (str nx), .string (str tx), .slice ca5 csx.length cc5]] u fun e w' => e = .returned (.bool true) ∧ Below u.heap.size u w' := fun u hu => keepItem (Fr w2 w3) F ⟨kx, nx, tx, csx⟩ _ _ u (hC6.below hu hF6) (hD6.below hu (hFu _ G6)) (fun g hg => Nat.lt_of_lt_of_le (hF6 g hg) hu.size) (hFu _ (hGW u hu)) hxo
    have hBr : ∀ u, Below W6.heap.size W6 u → Calls Tryz.prog 13 #[.agg #[.string (str m), .slice va l.length vc], .agg #[.string (str m2), .slice ua l2.length uc], .slice ta xs.length tc] u fun e w' => ∃ v', e = .returned v' ∧ StrRow w' v' (breaksI l l2 xs) ∧ Below u.heap.size u w' := fun u hu => breaks7 F m m2 l l2 va vc ua uc _ xs u (hI1 _ (hGW u hu)) (hI2 _ (hGW u hu)) (hT _ (hGW u hu)) (hFu _ (hGW u hu)) hok1 hok2 hl1 hl2 hl3 htk
    have hBf : ∀ u, Below W6.heap.size W6 u → Calls Tryz.prog 14 #[.agg #[.string (str m), .slice va l.length vc], .agg #[.string (str m2), .slice ua l2.length uc], .slice ta xs.length tc] u fun e w' => ∃ v', e = .returned v' ∧ StrRow w' v' (breaksI l l2 xs) ∧ Below u.heap.size u w' := fun u hu => refBreaks F m m2 l l2 va vc ua uc _ xs u (hI1 _ (hGW u hu)) (hI2 _ (hGW u hu)) (hT _ (hGW u hu)) (hFu _ (hGW u hu)) hok1 hok2 hl1 hl2 hl3
    have hble : (breaksI l l2 xs).length ≤ 8796093022208 := Nat.le_trans (breaks_le l l2 xs) hl3
    have hSm : ∀ (u : World) (a b : Value), StrRow u a (breaksI l l2 xs) → StrRow u b (breaksI l l2 xs) → Calls Tryz.prog 12 #[a, b] u fun e w' => e = .returned (.bool true) ∧ Below u.heap.size u w' := fun u a b ha hb => (sameS a b _ _ u ha hb hble hble).mono (fun e w' h => by
      obtain ⟨h1, n, h2⟩ := h
      exact ⟨by rw [h1]; simp, by rw [h2]; exact belowK _ _⟩)
    have hss : ((Wire.toStr LL).toList != (Wire.toStr LL).toList) = false := by simp
    have hse : ((Wire.toStr LL).toList == (Wire.toStr LL).toList) = true := by simp
    have K0 : Below W6.heap.size W6 W6.drew := (Below.refl _ _).drew
    obtain ⟨s0, s1, s2, s3, x0, x1, x2, x3, y0, y1, y2, y3, cv1, cv2⟩ := hSf _ K0
    generalize Wire.toStr LL = sb at *
    generalize rightI m l = yc at *
    generalize (findI l q).isSome = bx at *
    generalize breaksI l l2 xs = zs at *
    have hyy : ((yc : Int) != (yc : Int)) = false := by simp
    have hbb : (bx != bx) = false := by simp
    clear hS hI1 hI2 hT hFu hN hSz hN6 hN46 hC6 hD6 hF6 hr1 hr2 hxo hok1 hok2 htk hnext hble
    go_region_held3 (fun u => u.cell? ⟨w.heap.size, 0, none⟩ = some (.string (str m)) ∧ u.cell? ⟨w.heap.size, 1, none⟩ = some (.slice va l.length vc) ∧ u.cell? ⟨w.heap.size + 1, 0, none⟩ = some (.string (str m2)) ∧ u.cell? ⟨w.heap.size + 1, 1, none⟩ = some (.slice ua l2.length uc) ∧ u.cell? ⟨g3, 0, none⟩ = some (.int .i64 kx) ∧ u.cell? ⟨g3, 1, none⟩ = some (.string (str nx)) ∧ u.cell? ⟨g3, 2, none⟩ = some (.string (str tx)) ∧ u.cell? ⟨g3, 3, none⟩ = some (.slice ca3 csx.length cc3) ∧ u.cell? ⟨g5, 0, none⟩ = some (.int .i64 kx) ∧ u.cell? ⟨g5, 1, none⟩ = some (.string (str nx)) ∧ u.cell? ⟨g5, 2, none⟩ = some (.string (str tx)) ∧ u.cell? ⟨g5, 3, none⟩ = some (.slice ca5 csx.length cc5) ∧ (convert 26 9 (.slice xa1 LL.length xc1)).run Tryz.prog u = .ok (.string (sb)) u ∧ (convert 26 9 (.slice xa2 LL.length xc2)).run Tryz.prog u = .ok (.string (sb)) u) (first | go_keep | exact hSf _ (by assumption)) (first
      | (go_at_call 9; refine (hRi _ (by assumption)).mono ?_; rintro e wa ⟨rfl, ba⟩; have Ga := hnx _ _ (by assumption) ba; obtain ⟨s0, s1, s2, s3, x0, x1, x2, x3, y0, y1, y2, y3, cv1, cv2⟩ := hSf _ Ga)
      | (go_at_call 10; refine (hRr _ (by assumption)).mono ?_; rintro e wb ⟨rfl, bb⟩; have Gb := hnx _ _ (by assumption) bb; obtain ⟨s0, s1, s2, s3, x0, x1, x2, x3, y0, y1, y2, y3, cv1, cv2⟩ := hSf _ Gb)
      | (go_at_call 11; refine (hKe _ (by assumption)).mono ?_; rintro e wc ⟨rfl, bc⟩; have Gc := hnx _ _ (by assumption) bc; obtain ⟨s0, s1, s2, s3, x0, x1, x2, x3, y0, y1, y2, y3, cv1, cv2⟩ := hSf _ Gc)
      | (go_at_call 13; refine (hBr _ (by assumption)).mono ?_; rintro e wd ⟨z1, rfl, hs1, bd⟩; obtain ⟨za1, zc1, rfl⟩ := hs1.shape; have Gd := hnx _ _ (by assumption) bd; obtain ⟨s0, s1, s2, s3, x0, x1, x2, x3, y0, y1, y2, y3, cv1, cv2⟩ := hSf _ Gd)
      | (go_at_call 14; refine (hBf _ (by assumption)).mono ?_; rintro e we ⟨z2, rfl, hs2, be⟩; obtain ⟨za2, zc2, rfl⟩ := hs2.shape; have Ge := hnx _ _ (by assumption) be; have hs1e := hs1.below be; obtain ⟨s0, s1, s2, s3, x0, x1, x2, x3, y0, y1, y2, y3, cv1, cv2⟩ := hSf _ Ge)
      | (go_at_call 12; refine (hSm _ _ _ hs1e hs2).mono ?_; rintro e wf ⟨rfl, bf⟩; have Gf := hnx _ _ (by assumption) bf; obtain ⟨s0, s1, s2, s3, x0, x1, x2, x3, y0, y1, y2, y3, cv1, cv2⟩ := hSf _ Gf))
    all_goals (
      go_wp2_with fail
      go_meet
      exact ⟨rfl, hGW _ (by first | exact Gf | exact Gf.drew)⟩)
  obtain ⟨rfl, G7⟩ := hcut
  rename World => w7
  clear hr1 hr2 hN6 hN46 hC6 hD6 hF6 hxo hz6 hz46 G6 hT htk
  go_wp2
  go_loopg [17] l.length (fun g i wr => ∃ (k : Nat), g + k = l.length ∧ i = .int .i64 (k : Int) ∧ Below (w.heap.size + 2) W2 wr)
  case atStart => exact ⟨0, by omega, rfl, G7⟩
  case round =>
    obtain ⟨k, hg, rfl, Gr⟩ := hrel
    obtain ⟨s0, s1, s2, s3⟩ := hS _ Gr
    by_cases hk : k < l.length
    · have hki : (k : Int) < (l.length : Int) := by omega
      by_cases hk2 : k < l2.length
      · have hkj : (k : Int) < (l2.length : Int) := by omega
        obtain ⟨g1, o1, e1, cv1, p1, f1, u1, q10, q11, q12, q13⟩ := (hI1 _ Gr).at k hk
        simp only [Value.slice.injEq, true_and] at p1
        obtain ⟨rfl, rfl⟩ := p1
        obtain ⟨g2, o2, e2, cv2, p2, f2, u2, q20, q21, q22, q23⟩ := (hI2 _ Gr).at k hk2
        simp only [Value.slice.injEq, true_and] at p2
        obtain ⟨rfl, rfl⟩ := p2
        obtain ⟨ca1, cc1, rfl⟩ := u1.shape
        obtain ⟨ca2, cc2, rfl⟩ := u2.shape
        have hx1 := hok1 _ (List.getElem_mem hk)
        have hx2 := hok2 _ (List.getElem_mem hk2)
        have hg1 := hFu _ Gr _ f1
        have hg2 := hFu _ Gr _ f2
        have hFr := hFu _ Gr
        generalize l[k] = x1 at *
        generalize l2[k] = x2 at *
        obtain ⟨k1, n1, t1, c1⟩ := x1
        obtain ⟨k2, n2, t2, c2⟩ := x2
        simp only at u1 u2 q10 q11 q12 q13 q20 q21 q22 q23
        go_upto_region 10 with fail
        go_cut [130] from 94 to 130 (fun c wx => c = .bool false ∧ Below wr.heap.size wr wx)
        case first =>
          have hA : ∀ u, Below wr.heap.size wr u → Calls Tryz.prog 15 #[.agg #[.int .i64 k1, .string (str n1), .string (str t1), .slice ca1 c1.length cc1], .agg #[.int .i64 k2, .string (str n2), .string (str t2), .slice ca2 c2.length cc2]] u (BoolB (sameI ⟨k1, n1, t1, c1⟩ ⟨k2, n2, t2, c2⟩) u) := fun u hu => same7 F ⟨k1, n1, t1, c1⟩ ⟨k2, n2, t2, c2⟩ _ _ u (u1.below hu hFr) (u2.below hu hFr) (fun g hg => Nat.lt_of_lt_of_le (hFr g hg) hu.size) hx1 hx2
          have hB : ∀ u, Below wr.heap.size wr u → Calls Tryz.prog 16 #[.agg #[.int .i64 k1, .string (str n1), .string (str t1), .slice ca1 c1.length cc1], .agg #[.int .i64 k2, .string (str n2), .string (str t2), .slice ca2 c2.length cc2]] u (BoolB (sameI ⟨k1, n1, t1, c1⟩ ⟨k2, n2, t2, c2⟩) u) := fun u hu => refSame F ⟨k1, n1, t1, c1⟩ ⟨k2, n2, t2, c2⟩ _ _ u (u1.below hu hFr) (u2.below hu hFr) (fun g hg => Nat.lt_of_lt_of_le (hFr g hg) hu.size) hx1 hx2
          have hC : ∀ u, Below wr.heap.size wr u → Calls Tryz.prog 15 #[.agg #[.int .i64 k1, .string (str n1), .string (str t1), .slice ca1 c1.length cc1], .agg #[.int .i64 k1, .string (str n1), .string (str t1), .slice ca1 c1.length cc1]] u (BoolB true u) := fun u hu => by
            have h := same7 F ⟨k1, n1, t1, c1⟩ ⟨k1, n1, t1, c1⟩ _ _ u (u1.below hu hFr) (u1.below hu hFr) (fun g hg => Nat.lt_of_lt_of_le (hFr g hg) hu.size) hx1 hx1
            rw [(sameI_iff _ _).2 rfl] at h
            exact h
          have hnx : ∀ u u', Below wr.heap.size wr u → Below u.heap.size u u' → Below wr.heap.size wr u' := fun u u' hu h => hu.trans (h.mono hu.size)
          have hSf : ∀ u, Below wr.heap.size wr u → u.cell? ⟨w.heap.size, 1, none⟩ = some (.slice (some ⟨g1, o1, none⟩) l.length vc) ∧ u.cell? ⟨w.heap.size + 1, 1, none⟩ = some (.slice (some ⟨g2, o2, none⟩) l2.length uc) ∧ u.cell? ⟨g1, o1 + k * 4, none⟩ = some (.int .i64 k1) ∧ u.cell? ⟨g1, o1 + k * 4 + 1, none⟩ = some (.string (str n1)) ∧ u.cell? ⟨g1, o1 + k * 4 + 2, none⟩ = some (.string (str t1)) ∧ u.cell? ⟨g1, o1 + k * 4 + 3, none⟩ = some (.slice ca1 c1.length cc1) ∧ u.cell? ⟨g2, o2 + k * 4, none⟩ = some (.int .i64 k2) ∧ u.cell? ⟨g2, o2 + k * 4 + 1, none⟩ = some (.string (str n2)) ∧ u.cell? ⟨g2, o2 + k * 4 + 2, none⟩ = some (.string (str t2)) ∧ u.cell? ⟨g2, o2 + k * 4 + 3, none⟩ = some (.slice ca2 c2.length cc2) := fun u hu => by
            obtain ⟨_, s1, _, s3⟩ := hS _ (hnext _ _ Gr hu)
            have b1 := hu.block g1 hg1
            have b2 := hu.block g2 hg2
            exact ⟨s1, s3, (World.cell?_of_block (a := ⟨g1, o1 + k * 4, none⟩) b1).trans q10, (World.cell?_of_block (a := ⟨g1, o1 + k * 4 + 1, none⟩) b1).trans q11, (World.cell?_of_block (a := ⟨g1, o1 + k * 4 + 2, none⟩) b1).trans q12, (World.cell?_of_block (a := ⟨g1, o1 + k * 4 + 3, none⟩) b1).trans q13, (World.cell?_of_block (a := ⟨g2, o2 + k * 4, none⟩) b2).trans q20, (World.cell?_of_block (a := ⟨g2, o2 + k * 4 + 1, none⟩) b2).trans q21, (World.cell?_of_block (a := ⟨g2, o2 + k * 4 + 2, none⟩) b2).trans q22, (World.cell?_of_block (a := ⟨g2, o2 + k * 4 + 3, none⟩) b2).trans q23⟩
          have K0 : Below wr.heap.size wr wr.drew := (Below.refl _ _).drew
          clear s0 s1 s2 s3 q10 q11 q12 q13 q20 q21 q22 q23
          obtain ⟨s1, s3, q10, q11, q12, q13, q20, q21, q22, q23⟩ := hSf _ K0
          generalize sameI ⟨k1, n1, t1, c1⟩ ⟨k2, n2, t2, c2⟩ = rs at *
          have hrr : (rs != rs) = false := by simp
          clear hS hI1 hI2 hFu hN hSz hok1 hok2 hnext u1 u2 hx1 hx2 f1 f2 hFr
          go_region_held3 (fun u => u.cell? ⟨w.heap.size, 1, none⟩ = some (.slice (some ⟨g1, o1, none⟩) l.length vc) ∧ u.cell? ⟨w.heap.size + 1, 1, none⟩ = some (.slice (some ⟨g2, o2, none⟩) l2.length uc) ∧ u.cell? ⟨g1, o1 + k * 4, none⟩ = some (.int .i64 k1) ∧ u.cell? ⟨g1, o1 + k * 4 + 1, none⟩ = some (.string (str n1)) ∧ u.cell? ⟨g1, o1 + k * 4 + 2, none⟩ = some (.string (str t1)) ∧ u.cell? ⟨g1, o1 + k * 4 + 3, none⟩ = some (.slice ca1 c1.length cc1) ∧ u.cell? ⟨g2, o2 + k * 4, none⟩ = some (.int .i64 k2) ∧ u.cell? ⟨g2, o2 + k * 4 + 1, none⟩ = some (.string (str n2)) ∧ u.cell? ⟨g2, o2 + k * 4 + 2, none⟩ = some (.string (str t2)) ∧ u.cell? ⟨g2, o2 + k * 4 + 3, none⟩ = some (.slice ca2 c2.length cc2)) (first | go_keep | exact hSf _ (by assumption)) (first
            | (go_at_call 15; have hgate := Gb; refine (hC _ (by assumption)).mono ?_; rintro e wc ⟨rfl, bc⟩; have Gc := hnx _ _ (by assumption) bc; obtain ⟨s1, s3, q10, q11, q12, q13, q20, q21, q22, q23⟩ := hSf _ Gc)
            | (go_at_call 15; refine (hA _ (by assumption)).mono ?_; rintro e wa ⟨rfl, ba⟩; have Ga := hnx _ _ (by assumption) ba; obtain ⟨s1, s3, q10, q11, q12, q13, q20, q21, q22, q23⟩ := hSf _ Ga)
            | (go_at_call 16; refine (hB _ (by assumption)).mono ?_; rintro e wb ⟨rfl, bb⟩; have Gb := hnx _ _ (by assumption) bb; obtain ⟨s1, s3, q10, q11, q12, q13, q20, q21, q22, q23⟩ := hSf _ Gb))
          all_goals (
            go_wp2_with fail
            go_meet
            exact ⟨rfl, by first | exact Gc | exact Gc.drew⟩)
        obtain ⟨rfl, KY⟩ := hcut
        rename World => wy
        have Gy := hnext _ _ Gr KY
        clear hS hI1 hI2
        go_wp2
        go_roundg (l.length - (k + 1))
        case measure => omega
        case rel => exact ⟨k + 1, by omega, by go_num, Gy⟩
      · have hkj : ¬ (k : Int) < (l2.length : Int) := by omega
        clear hI1 hI2 hS
        go_wp2_with fail
        refine (known7 _).mono ?_
        rintro e w9 ⟨rfl, hb9⟩
        have hbw := hN _ (hnext _ _ Gr hb9)
        go_wp2
        go_ret
        exact ⟨rfl, hbw⟩
    · have hki : ¬ (k : Int) < (l.length : Int) := by omega
      clear hI1 hI2 hS
      go_wp2_with fail
      refine (known7 _).mono ?_
      rintro e w9 ⟨rfl, hb9⟩
      have hbw := hN _ (hnext _ _ Gr hb9)
      go_wp2
      go_ret
      exact ⟨rfl, hbw⟩
end Go.Proofs.YtalbjbahgbkifaaGreat

namespace Go.Proofs.YtalbjbahgbkifaaGreat
open Go.ChangeShapes Go.WideShapes Go.ChangeAt Go.RowKit Go.Deep
open Go.ChangeMaps (open_string shut_string)

theorem ownIfaceChecks : ownKnob Tryz.prog.godebug = none := by kernel_rfl
theorem laidIfaceChecks : laidOutB Tryz.prog = true := by kernel_rfl
set_option maxRecDepth 100000 in
theorem ifaceChecks_lifted (os : Os) (started : os.Started) (H : Type) (enc : TypeId × Value → H) :
    ReturnsInHanded {} Tryz.checked os 3 .any (Rows.ifaceChecksSpec.pre6 enc Tryz.prog Tryz.f3 Rows.ifaceChecksRow.domain false) (Rows.ifaceChecksSpec.post enc Tryz.prog Tryz.f3 false true false false) := by
  refine returnsInHanded_of_change_sized (C := Tryz.checked) ownIfaceChecks started (by kernel_rfl) Tryz.func3
    (ChangeSpec.witness6 (enc := enc) (C := Tryz.checked) false ⟨#[], #[.agg #[.string ByteArray.empty, .slice none 0 0], .agg #[.string ByteArray.empty, .slice none 0 0], .slice none 0 0, .string ByteArray.empty], []⟩ 8 (by kernel_rfl) (by kernel_rfl) (by kernel_rfl) (by kernel_rfl)) ?_
  intro W base args ds gs before hval0 hW hcnd hsz0 _
  have hval : ∀ (j : Nat) t v, Tryz.f3.params[j]? = some t → args[j]? = some v → Value.okWide Tryz.prog W .any base t v := hval0
  have hsz : (DataW.weightsEach Tryz.prog (Tryz.f3.params.toList ++ Rows.ifaceChecksSpec.plain.varTypes Tryz.prog) (ds ++ gs)).all (· ≤ reachBytes) = true := hsz0
  have hW' := hW
  obtain ⟨p, q, hA0, hV, rfl, hfz, hnd⟩ := hW
  have hA : DataW.TrodAll enc Tryz.prog W 0 (fun _ => true) true Tryz.f3.params.toList args.toList ds p := hA0
  rw [Tryz.params3] at hA hval hsz
  obtain ⟨v0, vs0, d0, ds0, p0, q0, hargs, rfl, rfl, h0, r0⟩ := trodAll_cons hA
  obtain ⟨v1, vs1, d1, ds1, p1, q1, rfl, rfl, rfl, h1, r1⟩ := trodAll_cons r0
  obtain ⟨v2, vs2, d2, ds2, p2, q2, rfl, rfl, rfl, h2, r2⟩ := trodAll_cons r1
  obtain ⟨v3, vs3, d3, ds3, p3, q3, rfl, rfl, rfl, h3, r3⟩ := trodAll_cons r2
  obtain ⟨rfl, rfl, rfl⟩ := trodAll_nil r3
  obtain rfl : args = #[v0, v1, v2, v3] := by cases args; simp_all
  obtain ⟨rfl, rfl⟩ := trodVars_none hV
  have hw0 : WOk 24 d0 := fun n hn => by simpa using List.all_eq_true.1 hsz _ (DataW.weights_mem_each (j := 0) (t := 24) (d := d0) rfl rfl n hn)
  have hw1 : WOk 24 d1 := fun n hn => by simpa using List.all_eq_true.1 hsz _ (DataW.weights_mem_each (j := 1) (t := 24) (d := d1) rfl rfl n hn)
  have hw2 : WOk 25 d2 := fun n hn => by simpa using List.all_eq_true.1 hsz _ (DataW.weights_mem_each (j := 2) (t := 25) (d := d2) rfl rfl n hn)
  have k0 := h0
  have k1 := h1
  have k2 := h2
  have lt0 : ∀ x ∈ p0, x.block < W.heap.size := by obtain ⟨m, hm⟩ := k0; exact DataW.trod_lt m _ _ _ hm
  have lt1 : ∀ x ∈ p1, x.block < W.heap.size := by obtain ⟨m, hm⟩ := k1; exact DataW.trod_lt m _ _ _ hm
  have lt2 : ∀ x ∈ p2, x.block < W.heap.size := by obtain ⟨m, hm⟩ := k2; exact DataW.trod_lt m _ _ _ hm
  obtain ⟨m, l, va, vc, rfl, hm, hI, hl, hok⟩ := iface_open (hval 0 24 v0 rfl rfl) h0 hw0
  obtain ⟨m2, l2, ua, uc, rfl, hm2, hI2, hl2, hok2⟩ := iface_open (hval 1 24 v1 rfl rfl) h1 hw1
  obtain ⟨a2, len2, cap2, rfl⟩ := okWide_slice Tryz.underlying25 (hval 2 25 v2 rfl rfl)
  obtain ⟨f2, hf2⟩ := h2
  obtain ⟨xs, z1, z2, z3, z4⟩ := texts_open (by simpa [Value.cells] using hf2) hw2
  subst z1
  obtain ⟨a3, rfl, rfl, rfl, w3⟩ := open_string Tryz.underlying9 (hval 3 9 v3 rfl rfl) h3
  have hwalk := checks_walk (fun g => g < W.heap.size) m m2 l l2 va vc ua uc _ xs a3.data.toList W hI hI2 z2 (fun g hg => hg) hm hok hok2 hl hl2 z3 z4
  rw [show str a3.data.toList = a3 by cases a3; simp [str]] at hwalk
  clear hA0 hval0
  simp only [List.append_nil] at hW'
  refine hwalk.mono fun e W' ⟨he, bel⟩ => ?_
  subst he
  exact ⟨_, rfl, _, _, _, [], _, [], hW', trodAll_mk1 (shut_bool Tryz.underlying4 _), (trodAll_cons_mk (Below.trod laidIfaceChecks (by kernel_rfl) (of_decide_eq_true (by kernel_rfl)) k0 bel lt0) (trodAll_cons_mk (Below.trod laidIfaceChecks (by kernel_rfl) (of_decide_eq_true (by kernel_rfl)) k1 bel lt1) (trodAll_cons_mk (Below.trod laidIfaceChecks (by kernel_rfl) (of_decide_eq_true (by kernel_rfl)) k2 bel lt2) (trodAll_cons_mk (shut_string Tryz.underlying9 w3) trodAll_mk0)))), rfl, bel.frame _, fun h => by cases h⟩

theorem ifaceChecks_holds : Rows.IfaceChecksSaid :=
  OpenClaim.holds_of_wide 3 Tryz.f3 rfl rfl rfl rfl rfl rfl rfl ⟨rfl, rfl, rfl, rfl, rfl⟩ rfl rfl rfl rfl rfl (by kernel_rfl) Tryz.func3 (by kernel_rfl)
    (of_decide_eq_true (by kernel_rfl)) (by unfold Func.isWrapper; first | (rw [if_pos (by decide +kernel)]; kernel_rfl) | (rw [if_neg (by decide +kernel)]; exact ⟨rfl, rfl⟩))
    (fun os started H enc _ => ifaceChecks_lifted os started H enc)
#print axioms ifaceChecks_holds
end Go.Proofs.YtalbjbahgbkifaaGreat
