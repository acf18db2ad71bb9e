/-
  The statement on Same: its walk.
-/
import Derived.Deep.CutRange
import Derived.Deep.RegionHeld3
import Derived.Deep.LoopGhost
import Derived.Test.YtibgmflamnonoabGreatIfaceSameMath
import Derived.Test.YtibgmflamnonoabGreatIfaceRight
namespace Go.Proofs.YtibgmflamnonoabGreat
open Go.RowKit

set_option maxHeartbeats 4000000 in
set_option maxRecDepth 1000000 in
theorem same_walk (F : Nat → Prop) (m m2 : List UInt8) (l l2 : List It) (va : Option Addr) (vc : Nat) (ua : Option Addr) (uc : Nat) (uv : Value) (xs : List (List UInt8)) (w : World)
    (h1 : ItR F w (.slice va l.length vc) l) (h2 : ItR F w (.slice ua l2.length uc) l2) (h3 : TxR F w uv xs) (hF : ∀ g, F g → g < w.heap.size) (hm1 : Tk m) (hm2 : Tk m2) (hok1 : ∀ x ∈ l, ItOk x) (hok2 : ∀ x ∈ l2, ItOk x) (hl1 : l.length ≤ 2199023255552) (hl2 : l2.length ≤ 2199023255552) (hl3 : xs.length ≤ 8796093022208) (htk : ∀ x ∈ xs, Tk x) :
    Calls Tryz.prog 3 #[.agg #[.string (str m), .slice va l.length vc], .agg #[.string (str m2), .slice ua l2.length uc], uv] w (KnownI w) := by
  have hb0 : Below w.heap.size w ((w.alloc (.cells #[.string (str m), .slice va l.length vc] 24)).alloc (.cells #[.string (str m2), .slice ua l2.length uc] 24)) := ((Below.refl _ _).alloc (Nat.le_refl _) _).alloc (by simp) _
  have hSz : ∀ u, Below (w.heap.size + 2) ((w.alloc (.cells #[.string (str m), .slice va l.length vc] 24)).alloc (.cells #[.string (str m2), .slice ua l2.length uc] 24)) u → w.heap.size + 2 ≤ u.heap.size := fun u hu => by have := hu.size; simpa using this
  have hN : ∀ u, Below (w.heap.size + 2) ((w.alloc (.cells #[.string (str m), .slice va l.length vc] 24)).alloc (.cells #[.string (str m2), .slice ua l2.length uc] 24)) u → Below w.heap.size w u := fun u hu => hb0.trans (hu.mono (by omega))
  have hS : ∀ u, Below (w.heap.size + 2) ((w.alloc (.cells #[.string (str m), .slice va l.length vc] 24)).alloc (.cells #[.string (str m2), .slice ua l2.length uc] 24)) u → u.cell? ⟨w.heap.size, 0, none⟩ = some (.string (str m)) ∧ u.cell? ⟨w.heap.size, 1, none⟩ = some (.slice va l.length vc) ∧ u.cell? ⟨w.heap.size + 1, 0, none⟩ = some (.string (str m2)) ∧ u.cell? ⟨w.heap.size + 1, 1, none⟩ = some (.slice ua l2.length uc) := fun u hu => by
    have k1 : u.heap[w.heap.size]? = some (.cells #[.string (str m), .slice va l.length vc] 24 (0, 0)) := (hu.block _ (by omega)).trans ((Below.heap_alloc _ _ _ (by simp)).trans (World.alloc_heap_new w _))
    have k2 : u.heap[w.heap.size + 1]? = some (.cells #[.string (str m2), .slice ua l2.length uc] 24 (0, 0)) := (hu.block _ (by omega)).trans (by have := World.alloc_heap_new (w.alloc (.cells #[.string (str m), .slice va l.length vc] 24)) (.cells #[.string (str m2), .slice ua l2.length uc] 24); simpa using this)
    exact ⟨by rw [cell_of_row u _ 0 _ _ _ k1]; rfl, by rw [cell_of_row u _ 1 _ _ _ k1]; rfl, by rw [cell_of_row u _ 0 _ _ _ k2]; rfl, by rw [cell_of_row u _ 1 _ _ _ k2]; rfl⟩
  have hI1 : ∀ u, Below (w.heap.size + 2) ((w.alloc (.cells #[.string (str m), .slice va l.length vc] 24)).alloc (.cells #[.string (str m2), .slice ua l2.length uc] 24)) u → ItR F u (.slice va l.length vc) l := fun u hu => h1.below (hN u hu) hF
  have hI2 : ∀ u, Below (w.heap.size + 2) ((w.alloc (.cells #[.string (str m), .slice va l.length vc] 24)).alloc (.cells #[.string (str m2), .slice ua l2.length uc] 24)) u → ItR F u (.slice ua l2.length uc) l2 := fun u hu => h2.below (hN u hu) hF
  have hT : ∀ u, Below (w.heap.size + 2) ((w.alloc (.cells #[.string (str m), .slice va l.length vc] 24)).alloc (.cells #[.string (str m2), .slice ua l2.length uc] 24)) u → TxR F u uv xs := fun u hu => h3.below (hN u hu) hF
  have hFu : ∀ u, Below (w.heap.size + 2) ((w.alloc (.cells #[.string (str m), .slice va l.length vc] 24)).alloc (.cells #[.string (str m2), .slice ua l2.length uc] 24)) u → ∀ g, F g → g < u.heap.size := fun u hu g hg => by have := hF g hg; have := hSz u hu; omega
  have hnext : ∀ u u', Below (w.heap.size + 2) ((w.alloc (.cells #[.string (str m), .slice va l.length vc] 24)).alloc (.cells #[.string (str m2), .slice ua l2.length uc] 24)) u → Below u.heap.size u u' → Below (w.heap.size + 2) ((w.alloc (.cells #[.string (str m), .slice va l.length vc] 24)).alloc (.cells #[.string (str m2), .slice ua l2.length uc] 24)) u' := fun u u' hu h => hu.trans (h.mono (hSz u hu))
  have hR1 : ∀ u, Below (w.heap.size + 2) ((w.alloc (.cells #[.string (str m), .slice va l.length vc] 24)).alloc (.cells #[.string (str m2), .slice ua l2.length uc] 24)) u → Calls Tryz.prog 4 #[.agg #[.string (str m), .slice va l.length vc]] u (NumB (rightI m l) u) := fun u hu => right7 F m _ l u (hI1 u hu) (hFu u hu) hm1 hok1
  have hR2 : ∀ u, Below (w.heap.size + 2) ((w.alloc (.cells #[.string (str m), .slice va l.length vc] 24)).alloc (.cells #[.string (str m2), .slice ua l2.length uc] 24)) u → Calls Tryz.prog 4 #[.agg #[.string (str m2), .slice ua l2.length uc]] u (NumB (rightI m2 l2) u) := fun u hu => right7 F m2 _ l2 u (hI2 u hu) (hFu u hu) hm2 hok2
  have G0 : Below (w.heap.size + 2) ((w.alloc (.cells #[.string (str m), .slice va l.length vc] 24)).alloc (.cells #[.string (str m2), .slice ua l2.length uc] 24)) ((w.alloc (.cells #[.string (str m), .slice va l.length vc] 24)).alloc (.cells #[.string (str m2), .slice ua l2.length uc] 24)) := Below.refl _ _
  obtain ⟨ta, tc, htv⟩ := h3.shape
  subst htv
  obtain ⟨d0, d1, d2, d3⟩ := hS _ G0
  have hrc1 := hidden (@right_items m l)
  have hrc2 := hidden (@right_items m2 l2)
  generalize rightI m l = y1 at *
  generalize rightI m2 l2 = y2 at *
  clear h1 h2 h3 hb0
  go_enter Tryz.func3, Tryz.ntmps3
  go_wp2_with fail
  generalize hW : ((w.alloc (.cells #[.string (str m), .slice va l.length vc] 24)).alloc (.cells #[.string (str m2), .slice ua l2.length uc] 24)) = W2 at *
  clear hW
  refine (hR1 _ G0).mono ?_
  rintro e w1 ⟨rfl, hb1⟩
  have G1 := hnext _ _ G0 hb1
  clear hb1 G0 d0 d1 d2 d3
  obtain ⟨d0, d1, d2, d3⟩ := hS _ G1
  by_cases hy1 : y1 = 0
  · subst hy1
    replace hrc1 := hidden (hrc1.out rfl)
    go_wp2_with fail
    refine (hR2 _ G1).mono ?_
    rintro e w2 ⟨rfl, hb2⟩
    have G2 := hnext _ _ G1 hb2
    clear hb2 G1 d0 d1 d2 d3 hR1 hR2
    by_cases hy2 : y2 = 0
    · subst hy2
      clear hrc2
      go_wp2_with fail
      go_loopg [7] l.length (fun g i wr => ∃ (kk : Nat), g + kk = l.length ∧ i = .int .i64 (kk : Int) ∧ Below (w.heap.size + 2) W2 wr)
      case atStart => exact ⟨0, by simp, rfl, G2⟩
      case round =>
        obtain ⟨kk, hg, rfl, Gr⟩ := hrel
        obtain ⟨d0, d1, d2, d3⟩ := hS _ Gr
        by_cases hk : kk < l.length
        · have hki : (kk : Int) < (l.length : Int) := by omega
          obtain ⟨gA, oA, capA, cvA, eA1, hgA, hCA, _, _, _, _⟩ := (hI1 _ Gr).at kk hk
          simp only [Value.slice.injEq, true_and] at eA1
          obtain ⟨rfl, rfl⟩ := eA1
          have hoA := hok1 _ (List.getElem_mem hk)
          obtain ⟨hkd, hnl⟩ := hrc1.out _ (List.getElem_mem hk)
          have hAt : ∀ u, Below (w.heap.size + 2) W2 u → ∃ cv, CsR F u cv l[kk].cases ∧ u.cell? ⟨gA, oA + kk * 4, none⟩ = some (.int .i64 l[kk].kind) ∧ u.cell? ⟨gA, oA + kk * 4 + 1, none⟩ = some (.string (str l[kk].name)) ∧ u.cell? ⟨gA, oA + kk * 4 + 2, none⟩ = some (.string (str l[kk].ty)) ∧ u.cell? ⟨gA, oA + kk * 4 + 3, none⟩ = some cv := fun u hu => by
            obtain ⟨g', o', c', cv, e1, _, hC, z0, z1, z2, z3⟩ := (hI1 _ hu).at kk hk
            simp only [Value.slice.injEq, Option.some.injEq, Addr.mk.injEq, true_and, and_true] at e1
            obtain ⟨⟨rfl, rfl⟩, _⟩ := e1
            exact ⟨cv, hC, z0, z1, z2, z3⟩
          clear hCA
          generalize l[kk] = x at *
          obtain ⟨kA, nA, tA, csA⟩ := x
          simp only at hAt hkd hnl
          go_wp2_with fail
          go_loopg [8] l2.length (fun g i wr => ∃ (jj : Nat), g + jj = l2.length ∧ i = .int .i64 (jj : Int) ∧ Below (w.heap.size + 2) W2 wr)
          case atStart => exact ⟨0, by simp, rfl, Gr⟩
          case round =>
            clear Gr d0 d1 d2 d3
            obtain ⟨jj, hgj, rfl, Gi⟩ := hrel
            obtain ⟨d0, d1, d2, d3⟩ := hS _ Gi
            by_cases hj : jj < l2.length
            · have hji : (jj : Int) < (l2.length : Int) := by omega
              obtain ⟨gB, oB, capB, cvB, eB1, hgB, hCB, r0, r1, r2, r3⟩ := (hI2 _ Gi).at jj hj
              obtain ⟨cvA, hCA, q0, q1, q2, q3⟩ := hAt _ Gi
              simp only [Value.slice.injEq, true_and] at eB1
              obtain ⟨rfl, rfl⟩ := eB1
              have hoB := hok2 _ (List.getElem_mem hj)
              generalize l2[jj] = xB at *
              obtain ⟨kB, nB, tB, csB⟩ := xB
              simp only at hCB r0 r1 r2
              have hFi := hFu _ Gi
              have hSm : ∀ u, Below wr.heap.size wr u → ∀ av, (av = #[itv ⟨kA, nA, tA, csA⟩ cvA, itv ⟨kB, nB, tB, csB⟩ cvB] ∨ av = #[itv ⟨kB, nB, tB, csB⟩ cvB, itv ⟨kA, nA, tA, csA⟩ cvA]) → Calls Tryz.prog 6 av u (BoolB (sameI ⟨kA, nA, tA, csA⟩ ⟨kB, nB, tB, csB⟩) u) := fun u hu av hav => by
                have g1 := hCA.below hu hFi
                have g2 := hCB.below hu hFi
                have g3 : ∀ g, F g → g < u.heap.size := fun g hg => Nat.lt_of_lt_of_le (hFi g hg) hu.size
                rcases hav with rfl | rfl
                · exact same7 F _ _ _ _ u g1 g2 g3 hoA hoB
                · rw [sameI_comm]
                  exact same7 F _ _ _ _ u g2 g1 g3 hoB hoA
              obtain ⟨caA, ccA, rfl⟩ := hCA.shape
              obtain ⟨caB, ccB, rfl⟩ := hCB.shape
              have hS9 : ∀ u, Below wr.heap.size wr u → u.cell? ⟨w.heap.size, 1, none⟩ = some (.slice (some ⟨gA, oA, none⟩) l.length vc) ∧ u.cell? ⟨w.heap.size + 1, 1, none⟩ = some (.slice (some ⟨gB, oB, none⟩) l2.length uc) ∧ u.cell? ⟨gA, oA + kk * 4, none⟩ = some (.int .i64 kA) ∧ u.cell? ⟨gA, oA + kk * 4 + 1, none⟩ = some (.string (str nA)) ∧ u.cell? ⟨gA, oA + kk * 4 + 2, none⟩ = some (.string (str tA)) ∧ u.cell? ⟨gA, oA + kk * 4 + 3, none⟩ = some (.slice caA csA.length ccA) ∧ u.cell? ⟨gB, oB + jj * 4, none⟩ = some (.int .i64 kB) ∧ u.cell? ⟨gB, oB + jj * 4 + 1, none⟩ = some (.string (str nB)) ∧ u.cell? ⟨gB, oB + jj * 4 + 2, none⟩ = some (.string (str tB)) ∧ u.cell? ⟨gB, oB + jj * 4 + 3, none⟩ = some (.slice caB csB.length ccB) := fun u hu => by
                obtain ⟨_, p1, _, p2⟩ := hS _ (hnext _ _ Gi hu)
                exact ⟨p1, p2, (hu.cell (p := ⟨gA, oA + kk * 4, none⟩) (hFi _ hgA)).trans q0, (hu.cell (p := ⟨gA, oA + kk * 4 + 1, none⟩) (hFi _ hgA)).trans q1, (hu.cell (p := ⟨gA, oA + kk * 4 + 2, none⟩) (hFi _ hgA)).trans q2, (hu.cell (p := ⟨gA, oA + kk * 4 + 3, none⟩) (hFi _ hgA)).trans q3, (hu.cell (p := ⟨gB, oB + jj * 4, none⟩) (hFi _ hgB)).trans r0, (hu.cell (p := ⟨gB, oB + jj * 4 + 1, none⟩) (hFi _ hgB)).trans r1, (hu.cell (p := ⟨gB, oB + jj * 4 + 2, none⟩) (hFi _ hgB)).trans r2, (hu.cell (p := ⟨gB, oB + jj * 4 + 3, none⟩) (hFi _ hgB)).trans r3⟩
              have hnx2 : ∀ u u', Below wr.heap.size wr u → Below u.heap.size u u' → Below wr.heap.size wr u' := fun u u' hu h => hu.trans (h.mono hu.size)
              have K0 : Below wr.heap.size wr wr.drew := (Below.refl _ _).drew
              have hGn : ∀ u, Below wr.heap.size wr u → Below (w.heap.size + 2) W2 u := fun u hu => hnext _ _ Gi hu
              unfold itv at hSm
              simp only at hSm
              generalize sameI ⟨kA, nA, tA, csA⟩ ⟨kB, nB, tB, csB⟩ = rs at *
              have hrr : (rs != rs) = false := by simp
              clear hS hI1 hI2 hT hAt hCA hCB hoA hoB hok1 hok2 q0 q1 q2 q3 r0 r1 r2 r3 hN hFu hFi hnext hSz d0 d1 d2 d3 hrc1
              obtain ⟨p1, p2, q0, q1, q2, q3, r0, r1, r2, r3⟩ := hS9 _ (Below.refl _ _)
              go_wp2_with fail
              clear p1 p2 q0 q1 q2 q3 r0 r1 r2 r3
              obtain ⟨p1, p2, q0, q1, q2, q3, r0, r1, r2, r3⟩ := hS9 _ K0
              go_region_held3 (fun u => u.cell? ⟨w.heap.size, 1, none⟩ = some (.slice (some ⟨gA, oA, none⟩) l.length vc) ∧ u.cell? ⟨w.heap.size + 1, 1, none⟩ = some (.slice (some ⟨gB, oB, none⟩) l2.length uc) ∧ u.cell? ⟨gA, oA + kk * 4, none⟩ = some (.int .i64 kA) ∧ u.cell? ⟨gA, oA + kk * 4 + 1, none⟩ = some (.string (str nA)) ∧ u.cell? ⟨gA, oA + kk * 4 + 2, none⟩ = some (.string (str tA)) ∧ u.cell? ⟨gA, oA + kk * 4 + 3, none⟩ = some (.slice caA csA.length ccA) ∧ u.cell? ⟨gB, oB + jj * 4, none⟩ = some (.int .i64 kB) ∧ u.cell? ⟨gB, oB + jj * 4 + 1, none⟩ = some (.string (str nB)) ∧ u.cell? ⟨gB, oB + jj * 4 + 2, none⟩ = some (.string (str tB)) ∧ u.cell? ⟨gB, oB + jj * 4 + 3, none⟩ = some (.slice caB csB.length ccB)) (first | go_keep | exact hS9 _ (by assumption)) (first | (go_at_call 6; refine (hSm _ (by assumption) _ (by first | exact .inl rfl | exact .inr rfl)).mono ?_; rintro e w8 ⟨rfl, hb8⟩; have G8 := hnx2 _ _ (by assumption) hb8; obtain ⟨p1, p2, q0, q1, q2, q3, r0, r1, r2, r3⟩ := hS9 _ G8; clear hb8))
              all_goals (
                have Gz := hGn _ (by assumption)
                go_wp2
                go_roundg (l2.length - (jj + 1))
                case measure => omega
                case rel => exact ⟨jj + 1, by omega, by go_num, Gz⟩)
            · have hji : ¬ (jj : Int) < (l2.length : Int) := by omega
              obtain ⟨cvA, hCA, q0, q1, q2, q3⟩ := hAt _ Gi
              obtain ⟨caA, ccA, rfl⟩ := hCA.shape
              have hsn : (str nA).size ≤ 24 := by rw [str_size]; exact hnl
              have hk3 : 1 ≤ kA ∧ kA ≤ 3 := by
                simp only [kindE, Bool.or_eq_true, decide_eq_true_eq] at hkd
                omega
              obtain ⟨hk31, hk32⟩ := hk3
              have e1 := cell_more d1 (.cells #[.int .i64 kA, .string (str nA ++ ⟨#[95]⟩), .string (str tA), .slice caA csA.length ccA] 32)
              have x0 := cell_more q0 (.cells #[.int .i64 kA, .string (str nA ++ ⟨#[95]⟩), .string (str tA), .slice caA csA.length ccA] 32)
              have x1 := cell_more q1 (.cells #[.int .i64 kA, .string (str nA ++ ⟨#[95]⟩), .string (str tA), .slice caA csA.length ccA] 32)
              have x2 := cell_more q2 (.cells #[.int .i64 kA, .string (str nA ++ ⟨#[95]⟩), .string (str tA), .slice caA csA.length ccA] 32)
              have x3 := cell_more q3 (.cells #[.int .i64 kA, .string (str nA ++ ⟨#[95]⟩), .string (str tA), .slice caA csA.length ccA] 32)
              go_wp2_with fail
              have hFi := hFu _ Gi
              have hsr := hSz _ Gi
              have hb5 : Below wr.heap.size wr ((wr.alloc (.cells #[.int .i64 kA, .string (str nA ++ ⟨#[95]⟩), .string (str tA), .slice caA csA.length ccA] 32)).alloc (.cells #[.int .i64 (kA % 3 + 1), .string (str nA), .string (str tA), .slice caA csA.length ccA] 32)) := ((Below.refl _ _).alloc (Nat.le_refl _) _).alloc (by simp) _
              have hz5 : ((wr.alloc (.cells #[.int .i64 kA, .string (str nA ++ ⟨#[95]⟩), .string (str tA), .slice caA csA.length ccA] 32)).alloc (.cells #[.int .i64 (kA % 3 + 1), .string (str nA), .string (str tA), .slice caA csA.length ccA] 32)).heap.size = wr.heap.size + 1 + 1 := by simp
              have hbr : ∀ u, Below (wr.heap.size + 2) ((wr.alloc (.cells #[.int .i64 kA, .string (str nA ++ ⟨#[95]⟩), .string (str tA), .slice caA csA.length ccA] 32)).alloc (.cells #[.int .i64 (kA % 3 + 1), .string (str nA), .string (str tA), .slice caA csA.length ccA] 32)) u → Below wr.heap.size wr u := fun u hu => hb5.trans (hu.mono (by omega))
              have hGn : ∀ u, Below (wr.heap.size + 2) ((wr.alloc (.cells #[.int .i64 kA, .string (str nA ++ ⟨#[95]⟩), .string (str tA), .slice caA csA.length ccA] 32)).alloc (.cells #[.int .i64 (kA % 3 + 1), .string (str nA), .string (str tA), .slice caA csA.length ccA] 32)) u → Below (w.heap.size + 2) W2 u := fun u hu => hnext _ _ Gi (hbr u hu)
              have hSm : ∀ u, Below (wr.heap.size + 2) ((wr.alloc (.cells #[.int .i64 kA, .string (str nA ++ ⟨#[95]⟩), .string (str tA), .slice caA csA.length ccA] 32)).alloc (.cells #[.int .i64 (kA % 3 + 1), .string (str nA), .string (str tA), .slice caA csA.length ccA] 32)) u → ∀ av, (av = #[itv ⟨kA, nA, tA, csA⟩ (.slice caA csA.length ccA), itv ⟨kA, nA ++ [95], tA, csA⟩ (.slice caA csA.length ccA)] ∨ av = #[itv ⟨kA, nA, tA, csA⟩ (.slice caA csA.length ccA), itv ⟨kA % 3 + 1, nA, tA, csA⟩ (.slice caA csA.length ccA)]) → Calls Tryz.prog 6 av u (BoolB false u) := fun u hu av hav => by
                have g1 := hCA.below (hbr u hu) hFi
                have g3 : ∀ g, F g → g < u.heap.size := fun g hg => Nat.lt_of_lt_of_le (hFi g hg) (hbr u hu).size
                rcases hav with rfl | rfl
                · rw [← same_name kA nA tA csA]
                  exact same7 F _ _ _ _ u g1 g1 g3 hoA ⟨hoA.1, hoA.2.1, by simp [Tk]; omega, hoA.2.2.2⟩
                · rw [← same_kind hkd nA tA csA]
                  have hkt := kind_turn hkd
                  exact same7 F _ _ _ _ u g1 g1 g3 hoA ⟨by show _ ≤ kA % 3 + 1; omega, by show kA % 3 + 1 ≤ _; omega, hoA.2.2⟩
              have hcat : str (nA ++ [95]) = str nA ++ ⟨#[95]⟩ := by
                apply ByteArray.ext
                simp [str]
              unfold itv at hSm
              simp only [hcat] at hSm
              have hS15 : ∀ u, Below (wr.heap.size + 2) ((wr.alloc (.cells #[.int .i64 kA, .string (str nA ++ ⟨#[95]⟩), .string (str tA), .slice caA csA.length ccA] 32)).alloc (.cells #[.int .i64 (kA % 3 + 1), .string (str nA), .string (str tA), .slice caA csA.length ccA] 32)) u → u.cell? ⟨w.heap.size, 1, none⟩ = some (.slice (some ⟨gA, oA, none⟩) l.length vc) ∧ u.cell? ⟨gA, oA + kk * 4, none⟩ = some (.int .i64 kA) ∧ u.cell? ⟨gA, oA + kk * 4 + 1, none⟩ = some (.string (str nA)) ∧ u.cell? ⟨gA, oA + kk * 4 + 2, none⟩ = some (.string (str tA)) ∧ u.cell? ⟨gA, oA + kk * 4 + 3, none⟩ = some (.slice caA csA.length ccA) ∧ u.cell? ⟨wr.heap.size, 0, none⟩ = some (.int .i64 kA) ∧ u.cell? ⟨wr.heap.size, 1, none⟩ = some (.string (str nA ++ ⟨#[95]⟩)) ∧ u.cell? ⟨wr.heap.size, 2, none⟩ = some (.string (str tA)) ∧ u.cell? ⟨wr.heap.size, 3, none⟩ = some (.slice caA csA.length ccA) ∧ u.cell? ⟨wr.heap.size + 1, 0, none⟩ = some (.int .i64 (kA % 3 + 1)) ∧ u.cell? ⟨wr.heap.size + 1, 1, none⟩ = some (.string (str nA)) ∧ u.cell? ⟨wr.heap.size + 1, 2, none⟩ = some (.string (str tA)) ∧ u.cell? ⟨wr.heap.size + 1, 3, none⟩ = some (.slice caA csA.length ccA) := fun u hu => by
                have k1 : u.heap[wr.heap.size]? = some (.cells #[.int .i64 kA, .string (str nA ++ ⟨#[95]⟩), .string (str tA), .slice caA csA.length ccA] 32 (0, 0)) := (hu.block _ (by omega)).trans ((Below.heap_alloc _ _ _ (by simp)).trans (World.alloc_heap_new wr _))
                have k2 : u.heap[wr.heap.size + 1]? = some (.cells #[.int .i64 (kA % 3 + 1), .string (str nA), .string (str tA), .slice caA csA.length ccA] 32 (0, 0)) := (hu.block _ (by omega)).trans (by have := World.alloc_heap_new (wr.alloc (.cells #[.int .i64 kA, .string (str nA ++ ⟨#[95]⟩), .string (str tA), .slice caA csA.length ccA] 32)) (.cells #[.int .i64 (kA % 3 + 1), .string (str nA), .string (str tA), .slice caA csA.length ccA] 32); simpa using this)
                obtain ⟨a0, a1, a2, a3, _⟩ := four4 k1
                obtain ⟨b0, b1, b2, b3, _⟩ := four4 k2
                have hu' := hbr u hu
                obtain ⟨_, p1, _, _⟩ := hS _ (hGn u hu)
                exact ⟨p1, (hu'.cell (p := ⟨gA, oA + kk * 4, none⟩) (hFi _ hgA)).trans q0, (hu'.cell (p := ⟨gA, oA + kk * 4 + 1, none⟩) (hFi _ hgA)).trans q1, (hu'.cell (p := ⟨gA, oA + kk * 4 + 2, none⟩) (hFi _ hgA)).trans q2, (hu'.cell (p := ⟨gA, oA + kk * 4 + 3, none⟩) (hFi _ hgA)).trans q3, a0, a1, a2, a3, b0, b1, b2, b3⟩
              have hnx2 : ∀ u u', Below (wr.heap.size + 2) ((wr.alloc (.cells #[.int .i64 kA, .string (str nA ++ ⟨#[95]⟩), .string (str tA), .slice caA csA.length ccA] 32)).alloc (.cells #[.int .i64 (kA % 3 + 1), .string (str nA), .string (str tA), .slice caA csA.length ccA] 32)) u → Below u.heap.size u u' → Below (wr.heap.size + 2) ((wr.alloc (.cells #[.int .i64 kA, .string (str nA ++ ⟨#[95]⟩), .string (str tA), .slice caA csA.length ccA] 32)).alloc (.cells #[.int .i64 (kA % 3 + 1), .string (str nA), .string (str tA), .slice caA csA.length ccA] 32)) u' := fun u u' hu h => hu.trans (h.mono (by have := hu.size; omega))
              have K0 : Below (wr.heap.size + 2) ((wr.alloc (.cells #[.int .i64 kA, .string (str nA ++ ⟨#[95]⟩), .string (str tA), .slice caA csA.length ccA] 32)).alloc (.cells #[.int .i64 (kA % 3 + 1), .string (str nA), .string (str tA), .slice caA csA.length ccA] 32)) ((wr.alloc (.cells #[.int .i64 kA, .string (str nA ++ ⟨#[95]⟩), .string (str tA), .slice caA csA.length ccA] 32)).alloc (.cells #[.int .i64 (kA % 3 + 1), .string (str nA), .string (str tA), .slice caA csA.length ccA] 32)).drew := (Below.refl _ _).drew
              clear hS hI1 hI2 hT hAt hCA hoA hok1 hok2 q0 q1 q2 q3 hN hFu hFi hnext hSz d0 d1 d2 d3 hrc1 e1 x0 x1 x2 x3 hb5 hz5 hbr hcat
              generalize ((wr.alloc (.cells #[.int .i64 kA, .string (str nA ++ ⟨#[95]⟩), .string (str tA), .slice caA csA.length ccA] 32)).alloc (.cells #[.int .i64 (kA % 3 + 1), .string (str nA), .string (str tA), .slice caA csA.length ccA] 32)) = W5 at *
              obtain ⟨p1, q0, q1, q2, q3, x0, x1, x2, x3, y0, y1, y2, y3⟩ := hS15 _ K0
              go_region_held3 (fun u => u.cell? ⟨w.heap.size, 1, none⟩ = some (.slice (some ⟨gA, oA, none⟩) l.length vc) ∧ u.cell? ⟨gA, oA + kk * 4, none⟩ = some (.int .i64 kA) ∧ u.cell? ⟨gA, oA + kk * 4 + 1, none⟩ = some (.string (str nA)) ∧ u.cell? ⟨gA, oA + kk * 4 + 2, none⟩ = some (.string (str tA)) ∧ u.cell? ⟨gA, oA + kk * 4 + 3, none⟩ = some (.slice caA csA.length ccA) ∧ u.cell? ⟨wr.heap.size, 0, none⟩ = some (.int .i64 kA) ∧ u.cell? ⟨wr.heap.size, 1, none⟩ = some (.string (str nA ++ ⟨#[95]⟩)) ∧ u.cell? ⟨wr.heap.size, 2, none⟩ = some (.string (str tA)) ∧ u.cell? ⟨wr.heap.size, 3, none⟩ = some (.slice caA csA.length ccA) ∧ u.cell? ⟨wr.heap.size + 1, 0, none⟩ = some (.int .i64 (kA % 3 + 1)) ∧ u.cell? ⟨wr.heap.size + 1, 1, none⟩ = some (.string (str nA)) ∧ u.cell? ⟨wr.heap.size + 1, 2, none⟩ = some (.string (str tA)) ∧ u.cell? ⟨wr.heap.size + 1, 3, none⟩ = some (.slice caA csA.length ccA)) (first | go_keep | exact hS15 _ (by assumption)) (first | (go_at_call 6; refine (hSm _ (by assumption) _ (by first | exact .inl rfl | exact .inr rfl)).mono ?_; rintro e w8 ⟨rfl, hb8⟩; have G8 := hnx2 _ _ (by assumption) hb8; obtain ⟨p1, q0, q1, q2, q3, x0, x1, x2, x3, y0, y1, y2, y3⟩ := hS15 _ G8; clear hb8))
              all_goals (
                have Gz := hGn _ (by assumption)
                go_wp2
                go_roundg (l.length - (kk + 1))
                case measure => omega
                case rel => exact ⟨kk + 1, by omega, by go_num, Gz⟩)
        · have hki : ¬ (kk : Int) < (l.length : Int) := by omega
          have hBr := breaks7 F m m2 l l2 va vc ua uc _ xs _ (hI1 _ Gr) (hI2 _ Gr) (hT _ Gr) (hFu _ Gr) hok1 hok2 hl1 hl2 hl3 htk
          have HF : Hid (∀ q ∈ xs, (breaksI l l2 xs).any (fun y => decide (y = q)) = brokenI l l2 q) := found_is l l2 xs
          have hzl : (breaksI l l2 xs).length ≤ 8796093022208 := by
            have a1 := List.length_filter_le (brokenI l l2) (onceR xs)
            have a2 := (once_tk htk).2
            have a3 : (breaksI l l2 xs).length = ((onceR xs).filter (brokenI l l2)).length := rfl
            omega
          clear hrc1
          generalize breaksI l l2 xs = zs at *
          go_wp2_with fail
          refine hBr.mono ?_
          rintro e w6 ⟨v6, rfl, hs6, hb6⟩
          have G6 := hnext _ _ Gr hb6
          obtain ⟨ba, bc, rfl⟩ := hs6.shape
          clear hBr hb6 Gr d0 d1 d2 d3 hki
          go_wp2_with fail
          go_loopg [12] xs.length (fun g i wr => ∃ (jj : Nat), g + jj = xs.length ∧ i = .int .i64 (jj : Int) ∧ Below w6.heap.size w6 wr)
          case atStart => exact ⟨0, by simp, rfl, Below.refl _ _⟩
          case round =>
            obtain ⟨jj, hgj, rfl, K6⟩ := hrel
            have Gr := hnext _ _ G6 K6
            by_cases hj : jj < xs.length
            · have hji : (jj : Int) < (xs.length : Int) := by omega
              have hq := List.getElem_mem hj
              have HB : Hid (zs.any (fun y => decide (y = xs[jj])) = brokenI l l2 xs[jj]) := HF.out _ hq
              obtain ⟨gT, oT, cT, eT, hgT, qT⟩ := (hT _ Gr).at jj hj
              simp only [Value.slice.injEq, true_and] at eT
              obtain ⟨rfl, rfl⟩ := eT
              have hTq : ∀ u, Below wr.heap.size wr u → u.cell? ⟨gT, oT + jj, none⟩ = some (.string (str xs[jj])) := fun u hu => (hu.cell (p := ⟨gT, oT + jj, none⟩) (hFu _ Gr _ hgT)).trans qT
              clear qT hT HF hq
              generalize xs[jj] = q at *
              go_wp2_with fail
              have KWB : Below wr.heap.size wr wr := Below.refl _ _
              have hGW : ∀ u, Below wr.heap.size wr u → Below (w.heap.size + 2) W2 u := fun u hu => hnext _ _ Gr hu
              have hFd : ∀ u, Below wr.heap.size wr u → Calls Tryz.prog 8 #[.agg #[.string (str m), .slice va l.length vc], .string (str q)] u (FindE l q u) := fun u hu => find7 F m l va vc q u (hI1 _ (hGW u hu)) (hFu _ (hGW u hu)) hok1 hl1
              have hSf : ∀ u, Below wr.heap.size wr u → u.cell? ⟨w.heap.size, 0, none⟩ = some (.string (str m)) ∧ u.cell? ⟨w.heap.size, 1, none⟩ = some (.slice va l.length vc) ∧ u.cell? ⟨gT, oT + jj, none⟩ = some (.string (str q)) := fun u hu => by
                obtain ⟨s0, s1, _, _⟩ := hS _ (hGW u hu)
                exact ⟨s0, s1, hTq _ (KWB.trans (hu.mono KWB.size))⟩
              have hnx2 : ∀ u u', Below wr.heap.size wr u → Below u.heap.size u u' → Below wr.heap.size wr u' := fun u u' hu h => hu.trans (h.mono hu.size)
              have K0 : Below wr.heap.size wr wr.drew := (Below.refl _ _).drew
              have K1 : Below wr.heap.size wr (wr.drew.alloc (.cells #[.int .i64 0, .string ⟨#[]⟩, .string ⟨#[]⟩, .slice none 0 0] 32)) := K0.alloc (Nat.le_refl _) _
              have K2 : Below wr.heap.size wr (wr.alloc (.cells #[.int .i64 0, .string ⟨#[]⟩, .string ⟨#[]⟩, .slice none 0 0] 32)) := (Below.refl _ wr).alloc (Nat.le_refl _) _
              have hr0 : (wr.drew.alloc (.cells #[.int .i64 0, .string ⟨#[]⟩, .string ⟨#[]⟩, .slice none 0 0] 32)).heap[wr.heap.size]? = some (.cells #[.int .i64 0, .string ⟨#[]⟩, .string ⟨#[]⟩, .slice none 0 0] 32 (0, 0)) := World.alloc_heap_new wr.drew _
              have hkz : wr.drew.heap.size = wr.heap.size := rfl
              obtain ⟨s0, s1, s2⟩ := hSf _ K0
              obtain ⟨r0, r1, r2, r3, rf0, rf1, rf2, rf3⟩ := four4 hr0
              go_cut [13, 14] from 111 to 119 (fun p b wx => ∃ (x : It) (cv : Value) (g : Nat), p = .pointer (some ⟨g, 0, none⟩) ∧ b = .bool (findI l q).isSome ∧ Hid (x = (findI l q).getD it0) ∧ wx.heap[g]? = some (.cells #[.int .i64 x.kind, .string (str x.name), .string (str x.ty), cv] 32 (0, 0)) ∧ CsR (fun g' => g' < wx.heap.size ∧ g' ≠ g) wx cv x.cases ∧ Below wr.heap.size wr wx ∧ wr.heap.size ≤ g)
              case first =>
                clear hS hI1 hI2 HB hN hFu hnext hSz hok1 hok2 htk hs6 hTq hGW
                go_region_held3 (fun u => u.cell? ⟨w.heap.size, 0, none⟩ = some (.string (str m)) ∧ u.cell? ⟨w.heap.size, 1, none⟩ = some (.slice va l.length vc) ∧ u.cell? ⟨gT, oT + jj, none⟩ = some (.string (str q))) (first | go_keep | exact hSf _ (by assumption) | exact hSf _ (box4_below (by assumption) (Nat.le_refl _) _ _ _ _)) (first | (go_at_call 8; refine (hFd _ (by assumption)).mono ?_; rintro e w8 ⟨x, cv, rfl, hx, hC, hb8⟩; obtain ⟨kx, nx, tx, csx⟩ := x; replace hx := hidden hx; obtain ⟨cax, ccx, rfl⟩ := hC.shape; unfold itv; have G8 := hnx2 _ _ (by assumption) hb8; obtain ⟨s0, s1, s2⟩ := hSf _ G8; try (have hr := (hb8.block wr.heap.size (by simp)).trans hr0; obtain ⟨r0, r1, r2, r3, rf0, rf1, rf2, rf3⟩ := four4 hr)))
                all_goals (
                  go_wp2_with fail
                  go_meet
                  first
                    | exact ⟨⟨kx, nx, tx, csx⟩, _, _, rfl, rfl, hx, World.alloc_heap_new w8 _, hC.frame (fun g' hg' => ⟨⟨by have := hg'.2; simp; omega, by have := hg'.2; omega⟩, Below.heap_alloc _ _ _ hg'.2⟩), G8.alloc G8.size _, G8.size⟩
                    | exact ⟨⟨kx, nx, tx, csx⟩, _, _, rfl, rfl, hx, box4_set hr _ _ _ _, hC.frame (fun g' hg' => ⟨⟨by have := hg'.2; simpa using this, by have := hg'.1; simp at this; omega⟩, box4_block _ _ _ (by have := hg'.1; simp at this; omega) _ _ _ _⟩), box4_below G8 (Nat.le_refl _) _ _ _ _, Nat.le_refl _⟩)
              case rest =>
                obtain ⟨⟨k1, n1, t1, c1⟩, cv1, g1, rfl, rfl, hx1, hq1, hC1, KQ, hg1⟩ := hcut
                rename World => wq
                obtain ⟨ca1, cc1, rfl⟩ := hC1.shape
                clear hFd hSf hnx2 K0 K1 K2 hr0 hkz s0 s1 s2 r0 r1 r2 r3 rf0 rf1 rf2 rf3 KWB hGW
                have KWB := KQ
                go_wp2_with fail
                have hGW : ∀ u, Below wq.heap.size wq u → Below (w.heap.size + 2) W2 u := fun u hu => hnext _ _ (hnext _ _ Gr KWB) hu
                have hFd : ∀ u, Below wq.heap.size wq u → Calls Tryz.prog 8 #[.agg #[.string (str m2), .slice ua l2.length uc], .string (str q)] u (FindE l2 q u) := fun u hu => find7 F m2 l2 ua uc q u (hI2 _ (hGW u hu)) (hFu _ (hGW u hu)) hok2 hl2
                have hSf : ∀ u, Below wq.heap.size wq u → u.cell? ⟨w.heap.size + 1, 0, none⟩ = some (.string (str m2)) ∧ u.cell? ⟨w.heap.size + 1, 1, none⟩ = some (.slice ua l2.length uc) ∧ u.cell? ⟨gT, oT + jj, none⟩ = some (.string (str q)) := fun u hu => by
                  obtain ⟨_, _, s0, s1⟩ := hS _ (hGW u hu)
                  exact ⟨s0, s1, hTq _ (KWB.trans (hu.mono KWB.size))⟩
                have hnx2 : ∀ u u', Below wq.heap.size wq u → Below u.heap.size u u' → Below wq.heap.size wq u' := fun u u' hu h => hu.trans (h.mono hu.size)
                have K0 : Below wq.heap.size wq wq.drew := (Below.refl _ _).drew
                have K1 : Below wq.heap.size wq (wq.drew.alloc (.cells #[.int .i64 0, .string ⟨#[]⟩, .string ⟨#[]⟩, .slice none 0 0] 32)) := K0.alloc (Nat.le_refl _) _
                have K2 : Below wq.heap.size wq (wq.alloc (.cells #[.int .i64 0, .string ⟨#[]⟩, .string ⟨#[]⟩, .slice none 0 0] 32)) := (Below.refl _ wq).alloc (Nat.le_refl _) _
                have hr0 : (wq.drew.alloc (.cells #[.int .i64 0, .string ⟨#[]⟩, .string ⟨#[]⟩, .slice none 0 0] 32)).heap[wq.heap.size]? = some (.cells #[.int .i64 0, .string ⟨#[]⟩, .string ⟨#[]⟩, .slice none 0 0] 32 (0, 0)) := World.alloc_heap_new wq.drew _
                have hkz : wq.drew.heap.size = wq.heap.size := rfl
                obtain ⟨s0, s1, s2⟩ := hSf _ K0
                obtain ⟨r0, r1, r2, r3, rf0, rf1, rf2, rf3⟩ := four4 hr0
                go_cut [15, 16] from 120 to 128 (fun p b wx => ∃ (x : It) (cv : Value) (g : Nat), p = .pointer (some ⟨g, 0, none⟩) ∧ b = .bool (findI l2 q).isSome ∧ Hid (x = (findI l2 q).getD it0) ∧ wx.heap[g]? = some (.cells #[.int .i64 x.kind, .string (str x.name), .string (str x.ty), cv] 32 (0, 0)) ∧ CsR (fun g' => g' < wx.heap.size ∧ g' ≠ g) wx cv x.cases ∧ Below wq.heap.size wq wx ∧ wq.heap.size ≤ g)
                case first =>
                  clear hS hI1 hq1 hC1 hg1 hx1 hI2 HB hN hFu hnext hSz hok1 hok2 htk hs6 hTq hGW
                  go_region_held3 (fun u => u.cell? ⟨w.heap.size + 1, 0, none⟩ = some (.string (str m2)) ∧ u.cell? ⟨w.heap.size + 1, 1, none⟩ = some (.slice ua l2.length uc) ∧ u.cell? ⟨gT, oT + jj, none⟩ = some (.string (str q))) (first | go_keep | exact hSf _ (by assumption) | exact hSf _ (box4_below (by assumption) (Nat.le_refl _) _ _ _ _)) (first | (go_at_call 8; refine (hFd _ (by assumption)).mono ?_; rintro e w8 ⟨x, cv, rfl, hx, hC, hb8⟩; obtain ⟨kx, nx, tx, csx⟩ := x; replace hx := hidden hx; obtain ⟨cax, ccx, rfl⟩ := hC.shape; unfold itv; have G8 := hnx2 _ _ (by assumption) hb8; obtain ⟨s0, s1, s2⟩ := hSf _ G8; try (have hr := (hb8.block wq.heap.size (by simp)).trans hr0; obtain ⟨r0, r1, r2, r3, rf0, rf1, rf2, rf3⟩ := four4 hr)))
                  all_goals (
                    go_wp2_with fail
                    go_meet
                    first
                      | exact ⟨⟨kx, nx, tx, csx⟩, _, _, rfl, rfl, hx, World.alloc_heap_new w8 _, hC.frame (fun g' hg' => ⟨⟨by have := hg'.2; simp; omega, by have := hg'.2; omega⟩, Below.heap_alloc _ _ _ hg'.2⟩), G8.alloc G8.size _, G8.size⟩
                      | exact ⟨⟨kx, nx, tx, csx⟩, _, _, rfl, rfl, hx, box4_set hr _ _ _ _, hC.frame (fun g' hg' => ⟨⟨by have := hg'.2; simpa using this, by have := hg'.1; simp at this; omega⟩, box4_block _ _ _ (by have := hg'.1; simp at this; omega) _ _ _ _⟩), box4_below G8 (Nat.le_refl _) _ _ _ _, Nat.le_refl _⟩)
                case rest =>
                  obtain ⟨⟨k2, n2, t2, c2⟩, cv2, g2, rfl, rfl, hx2, hq2, hC2, KZ, hg2⟩ := hcut
                  rename World => wz
                  obtain ⟨ca2, cc2, rfl⟩ := hC2.shape
                  clear hFd hSf hnx2 K0 K1 K2 hr0 hkz s0 s1 s2 r0 r1 r2 r3 rf0 rf1 rf2 rf3 hGW
                  simp only at hq1 hq2 hC1 hC2
                  have hlt1 : g1 < wq.heap.size := (Array.getElem?_eq_some_iff.1 hq1).1
                  have hq1' := (KZ.block g1 hlt1).trans hq1
                  have hC1' : CsR (fun g => g < wz.heap.size) wz (.slice ca1 c1.length cc1) c1 := hC1.frame fun g hg => ⟨Nat.lt_of_lt_of_le hg.1 KZ.size, KZ.block g hg.1⟩
                  have hC2' : CsR (fun g => g < wz.heap.size) wz (.slice ca2 c2.length cc2) c2 := hC2.frame fun g hg => ⟨hg.1, rfl⟩
                  have hSame := same7 (fun g => g < wz.heap.size) ⟨k1, n1, t1, c1⟩ ⟨k2, n2, t2, c2⟩ _ _ wz hC1' hC2' (fun g hg => hg) (by rw [hx1.out]; exact find_ok hok1 q) (by rw [hx2.out]; exact find_ok hok2 q)
                  have HW : Hid (brokenI l l2 q = ((findI l q).isSome && !((findI l2 q).isSome && sameI ⟨k1, n1, t1, c1⟩ ⟨k2, n2, t2, c2⟩))) := by rw [hid_iff, ← want_is, hx1.out, hx2.out]
                  have KW : Below wr.heap.size wr wz := KWB.trans (KZ.mono KWB.size)
                  unfold itv at hSame
                  simp only at hSame
                  clear hx1 hx2 hC1 hC2 hC1' hC2' hq1 hg1 hg2 KZ KWB KQ hlt1
                  generalize (findI l q).isSome = b1 at *
                  generalize (findI l2 q).isSome = b2 at *
                  generalize sameI ⟨k1, n1, t1, c1⟩ ⟨k2, n2, t2, c2⟩ = rs at *
                  generalize brokenI l l2 q = bk at *
                  obtain ⟨z0, z1, z2, z3, _⟩ := four4 hq1'
                  obtain ⟨y0, y1, y2, y3, _⟩ := four4 hq2
                  go_upto_region 23 with fail
                  go_cut [17] from 129 to 138 (fun c wx => c = .bool bk ∧ Below wz.heap.size wz wx)
                  case first =>
                    clear hS hI1 hI2 HB hN hFu hnext hSz hok1 hok2 htk hs6 hTq
                    cases b1
                    · have hbk : bk = false := HW.out
                      subst hbk
                      go_wp2_with fail
                      go_meet
                      exact ⟨rfl, Below.refl _ _⟩
                    · cases b2
                      · have hbk : bk = true := HW.out
                        subst hbk
                        go_wp2_with fail
                        go_meet
                        exact ⟨rfl, Below.refl _ _⟩
                      · have hbk : bk = !rs := HW.out
                        subst hbk
                        go_wp2_with fail
                        refine hSame.mono ?_
                        rintro e w9 ⟨rfl, hb9⟩
                        go_wp2_with fail
                        go_meet
                        exact ⟨rfl, hb9⟩
                  case rest =>
                    obtain ⟨rfl, KY⟩ := hcut
                    rename World => wy
                    clear hSame HW hq1' hq2 z0 z1 z2 z3 y0 y1 y2 y3 hS hI1 hI2
                    have KV0 : Below wr.heap.size wr wy := KW.trans (KY.mono KW.size)
                    have K60 : Below w6.heap.size w6 wy := K6.trans (KV0.mono K6.size)
                    go_wp2_with fail
                    go_loopg [18, 19] zs.length (fun g f i wv => ∃ (n : Nat), g + n = zs.length ∧ i = .int .i64 (n : Int) ∧ f = .bool ((zs.take n).any (fun y => decide (y = q))) ∧ Below wy.heap.size wy wv)
                    case atStart => exact ⟨0, by simp, rfl, by simp, Below.refl _ _⟩
                    case round =>
                      obtain ⟨n, hgn, rfl, hf, KV⟩ := hrel
                      have K6n : Below w6.heap.size w6 wr := K60.trans (KV.mono K60.size)
                      have KWn := KV0.trans (KV.mono KV0.size)
                      by_cases hn : n < zs.length
                      · obtain ⟨bz, bo, bcc, eZ, qz⟩ := (hs6.below K6n).atJ n hn
                        simp only [Value.slice.injEq, true_and] at eZ
                        obtain ⟨rfl, rfl⟩ := eZ
                        have qq := hTq _ KWn
                        have hni : (n : Int) < (zs.length : Int) := by omega
                        have HT : Hid ((zs.take (n + 1)).any (fun y => decide (y = q)) = ((zs.take n).any (fun y => decide (y = q)) || decide (zs[n] = q))) := by
                          rw [hid_iff, List.take_succ_eq_append_getElem hn, List.any_append]
                          simp only [List.any_cons, List.any_nil, Bool.or_false]
                        have he := eq_is zs[n] q
                        clear HB hN hFu hnext hSz hok1 hok2 htk hs6 hTq K6n KWn K60 KV0
                        generalize (zs.take n).any (fun y => decide (y = q)) = fb at *
                        generalize decide (zs[n] = q) = dz at *
                        generalize zs[n] = z at *
                        subst hf
                        go_wp2_with fail
                        cases fb
                        · go_region
                          all_goals (
                            go_wp2
                            go_roundg (zs.length - (n + 1))
                            case measure => omega
                            case rel => exact ⟨n + 1, by omega, by go_num, by rw [HT.out]; rfl, by first | exact below_drew KV | exact KV⟩)
                        · go_region
                          all_goals (
                            go_wp2
                            go_roundg (zs.length - (n + 1))
                            case measure => omega
                            case rel => exact ⟨n + 1, by omega, by go_num, by rw [HT.out]; rfl, by first | exact below_drew KV | exact KV⟩)
                      · have hni : ¬ (n : Int) < (zs.length : Int) := by omega
                        have hbb : (bk != bk) = false := by simp
                        rw [List.take_of_length_le (by omega), HB.out] at hf
                        subst hf
                        clear HB hN hFu hnext hSz hok1 hok2 htk hs6 hTq KWn K60 KV0
                        go_wp2
                        go_roundg (xs.length - (jj + 1))
                        case measure => omega
                        case rel => exact ⟨jj + 1, by omega, by go_num, K6n⟩
            · have hji : ¬ (jj : Int) < (xs.length : Int) := by omega
              clear hS hI1 hI2 hT HF
              go_wp2_with fail
              refine (known7 _).mono ?_
              rintro e w7 ⟨rfl, hb7⟩
              have hbw := hN _ (hnext _ _ Gr hb7)
              go_wp2
              go_ret
              exact ⟨rfl, hbw⟩
    · have hne : ((y2 : Int) != 0) = true := by simp; omega
      clear hS hI1 hI2 hT
      go_wp2_with fail
      refine (known7 _).mono ?_
      rintro e w3 ⟨rfl, hb3⟩
      have hbw := hN _ (hnext _ _ G2 hb3)
      go_wp2
      go_ret
      exact ⟨rfl, hbw⟩
  · have hne : ((y1 : Int) != 0) = true := by simp; omega
    clear hS hI1 hI2 hT hR1 hR2
    go_wp2_with fail
    refine (known7 _).mono ?_
    rintro e w3 ⟨rfl, hb3⟩
    have hbw := hN _ (hnext _ _ G1 hb3)
    go_wp2
    go_ret
    exact ⟨rfl, hbw⟩
end Go.Proofs.YtibgmflamnonoabGreat
