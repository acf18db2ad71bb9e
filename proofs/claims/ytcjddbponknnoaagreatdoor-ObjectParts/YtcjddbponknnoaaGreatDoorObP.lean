/-
  Right, given what is answered of each element once the lists ahead of it are let by.
  And: Right of any object that memory can hold: the refusal and its number, as the chapter says. What ObjectParts asks of an object's imports and of its interface's items. No program in it. A row of items that a call makes, one put behind the others. Iface: the interface of an object. Imports: the modules of an object's symbols that are not its own; Decode of bytes that are too many. ObjectParts: the law's walk.
-/
import Derived.Laws.EntriesVeiled
import Derived.Test.YtcjddbponknnoaaGreatDoorObB
import Derived.Test.YtcjddbponknnoaaGreatDoorObR
import Derived.Test.YtcjddbponknnoaaGreatDoorObC
import Derived.Test.YtcjddbponknnoaaGreatDoorObE
import Derived.Test.YtcjddbponknnoaaGreatDoorObA
import Derived.Test.YtcjddbponknnoaaGreatDoorTypesSort
import Derived.Deep.AppendLies
import Derived.Test.YtcjddbponknnoaaGreatDoorIfaceCopy
import Derived.Test.YtcjddbponknnoaaGreatDoorWireBase
import Derived.Test.YtcjddbponknnoaaGreatDoorIfaceBreaks
import Derived.BigQuiet
namespace Go.Proofs.YtcjddbponknnoaaGreatDoor
open Go.RowKit

/-- What is answered of each element where nothing of the lists ahead is refused, in every later world. -/
def ElS (u : ObV) (o : Ob) (w : World) : Prop := ∀ (j k : Nat), j < 7 → k < lenO o j → (∀ i, i < j → (scanO (elemO o i) 0 (lenO o i)).1 = 0) → ∀ v, Below w.heap.size w v → Calls Tryz.prog (fnO j) #[obv u o.mod, .int .i64 (k : Int)] v (NumB (elemO o j k) v)
set_option maxHeartbeats 4000000 in
set_option maxRecDepth 1000000 in
theorem rightOs (F : Nat → Prop) (u : ObV) (o : Ob) (w : World) (h : ObR F w u o) (hF : ∀ g, F g → g < w.heap.size) (hm : Tk o.mod) (hE : valueR o.mod = true → manyO o = false → ElS u o w) : Calls Tryz.prog 8 #[obv u o.mod] w (TwoB (rightO o) w) := by
  have HV : Hid (rightO o = if valueR o.mod = false then (13, 0) else if manyO o = true then (4, 0) else listsO o 0 7) := rfl
  generalize rightO o = r at *
  have hL0 : o.types.length = lenO o 0 := rfl
  have hL1 : o.texts.length = lenO o 1 := rfl
  have hL2 : o.globals.length = lenO o 2 := rfl
  have hL3 : o.funs.length = lenO o 3 := rfl
  have hL4 : o.exports.length = lenO o 4 := rfl
  have hL5 : o.symbols.length = lenO o 5 := rfl
  have hL6 : o.relocs.length = lenO o 6 := rfl
  have hTM : ∀ v, Below w.heap.size w v → Calls Tryz.prog 28 #[obv u o.mod] v (BoolB (manyO o) v) := fun v hv => otooMany F u o v (h.below hv hF)
  obtain ⟨a1, c1, e1⟩ := h.types.shape
  obtain ⟨a2, c2, e2⟩ := h.texts.1.shape
  obtain ⟨a3, c3, e3⟩ := h.globals.shape
  obtain ⟨a4, c4, e4⟩ := h.funs.shape
  obtain ⟨a5, c5, e5⟩ := h.exports.1.shape
  obtain ⟨a6, c6, e6⟩ := h.symbols.shape
  obtain ⟨a7, c7, e7⟩ := h.relocs.shape
  have hE2 : valueR o.mod = true → manyO o = false → Hid (ElS u o w) := fun h1 h2 => hE h1 h2
  clear hE
  unfold ElS at hE2
  rw [hL0] at e1
  rw [hL1] at e2
  rw [hL2] at e3
  rw [hL3] at e4
  rw [hL4] at e5
  rw [hL5] at e6
  rw [hL6] at e7
  have HMn : Hid (manyO o = false → ∀ j, j < 7 → lenO o j ≤ 384) := by
    rw [hid_iff]
    intro hmn j hj
    simp only [manyO, Bool.or_eq_false_iff, decide_eq_false_iff_not] at hmn
    rcases j with _ | _ | _ | _ | _ | _ | _ | j <;> simp only [lenO] <;> omega
  obtain ⟨tv, xv, gv, fv, ev, sv, rv⟩ := u
  unfold obv at hTM hE2 ⊢
  simp only at e1 e2 e3 e4 e5 e6 e7 hTM hE2 ⊢
  subst e1 e2 e3 e4 e5 e6 e7
  clear h hL0 hL1 hL2 hL3 hL4 hL5 hL6
  have hV := fun v => value (str o.mod) v (by rw [str_size]; unfold Tk at hm; omega)
  rw [str_data] at hV
  generalize hLn : lenO o = ln at *
  generalize hm' : o.mod = m at *
  generalize hW : w.alloc (.cells #[.string (str m), .slice a1 (ln 0) c1, .slice a2 (ln 1) c2, .slice a3 (ln 2) c3, .slice a4 (ln 3) c4, .slice a5 (ln 4) c5, .slice a6 (ln 5) c6, .slice a7 (ln 6) c7] 29) = W0 at *
  have hb0 : Below w.heap.size w W0 := by rw [← hW]; exact (Below.refl _ _).alloc (Nat.le_refl _) _
  have hs0 : W0.heap.size = w.heap.size + 1 := by rw [← hW]; simp
  have hN0 := heap_alloc_new w (.cells #[.string (str m), .slice a1 (ln 0) c1, .slice a2 (ln 1) c2, .slice a3 (ln 2) c3, .slice a4 (ln 3) c4, .slice a5 (ln 4) c5, .slice a6 (ln 5) c6, .slice a7 (ln 6) c7] 29)
  rw [hW] at hN0
  have HC : ∀ u, Below W0.heap.size W0 u → u.cell? ⟨w.heap.size, 0, none⟩ = some (.string (str m)) ∧ u.cell? ⟨w.heap.size, 1, none⟩ = some (.slice a1 (ln 0) c1) ∧ u.cell? ⟨w.heap.size, 2, none⟩ = some (.slice a2 (ln 1) c2) ∧ u.cell? ⟨w.heap.size, 3, none⟩ = some (.slice a3 (ln 2) c3) ∧ u.cell? ⟨w.heap.size, 4, none⟩ = some (.slice a4 (ln 3) c4) ∧ u.cell? ⟨w.heap.size, 5, none⟩ = some (.slice a5 (ln 4) c5) ∧ u.cell? ⟨w.heap.size, 6, none⟩ = some (.slice a6 (ln 5) c6) ∧ u.cell? ⟨w.heap.size, 7, none⟩ = some (.slice a7 (ln 6) c7) := by
    intro u hu
    have n0 := (hu.block w.heap.size (by omega)).trans hN0
    exact ⟨by rw [cell_of_row u _ 0 _ _ _ n0]; rfl, by rw [cell_of_row u _ 1 _ _ _ n0]; rfl, by rw [cell_of_row u _ 2 _ _ _ n0]; rfl, by rw [cell_of_row u _ 3 _ _ _ n0]; rfl, by rw [cell_of_row u _ 4 _ _ _ n0]; rfl, by rw [cell_of_row u _ 5 _ _ _ n0]; rfl, by rw [cell_of_row u _ 6 _ _ _ n0]; rfl, by rw [cell_of_row u _ 7 _ _ _ n0]; rfl⟩
  cases hv : valueR m
  · rw [hv] at hV HV
    have HW : Hid (r = (13, 0)) := by rw [hid_iff, HV.out]; rfl
    obtain ⟨z0, -, -, -, -, -, -, -⟩ := HC W0 (Below.refl _ _)
    clear HC hE2 HMn hTM HV
    go_enter Tryz.func8, Tryz.ntmps8
    go_wp2_with fail
    refine (hV _).mono ?_
    rintro e w2 ⟨rfl, hw2⟩
    obtain rfl := hw2.symm
    go_wp2
    go_ret2
    exact ⟨(by rw [HW.out]; first | done | rfl), hb0⟩
  · rw [hv] at hV HV
    have HCh := hidden HC
    have hT0 := hTM W0 hb0
    obtain ⟨z0, z1, z2, z3, z4, z5, z6, z7⟩ := HC W0 (Below.refl _ _)
    clear HC hTM
    cases hmn : manyO o
    · rw [hmn] at hT0 HV
      have HE := hE2 hv hmn
      have HM := HMn.out hmn
      have HV' := HV.out
      simp only [Bool.true_eq_false, Bool.false_eq_true, if_false] at HV'
      have HV := hidden HV'
      clear HV' hE2 HMn hmn
      go_enter Tryz.func8, Tryz.ntmps8
      go_wp2_with (go_at_call 27; refine (hV _).mono ?_; rintro e w2 ⟨rfl, hw2⟩; obtain rfl := hw2.symm)
      refine hT0.mono ?_
      rintro e w3 ⟨rfl, hb3⟩
      obtain ⟨y0, y1, y2, y3, y4, y5, y6, y7⟩ := HCh.out w3 hb3
      clear hT0 z0 z1 z2 z3 z4 z5 z6 z7
      have hbw3 := below_trans hb0 hb3
      have hs3 := hb3.size
      generalize hW4 : w3.alloc (.cells #[.string (str m), .slice a1 (ln 0) c1, .slice a2 (ln 1) c2, .slice a3 (ln 2) c3, .slice a4 (ln 3) c4, .slice a5 (ln 4) c5, .slice a6 (ln 5) c6, .slice a7 (ln 6) c7] 87) = W4 at *
      have hb4 : Below w3.heap.size w3 W4 := by rw [← hW4]; exact (Below.refl _ _).alloc (Nat.le_refl _) _
      have hs4 : W4.heap.size = w3.heap.size + 1 := by rw [← hW4]; simp
      have hN4 := heap_alloc_new w3 (.cells #[.string (str m), .slice a1 (ln 0) c1, .slice a2 (ln 1) c2, .slice a3 (ln 2) c3, .slice a4 (ln 3) c4, .slice a5 (ln 4) c5, .slice a6 (ln 5) c6, .slice a7 (ln 6) c7] 87)
      rw [hW4] at hN4
      obtain ⟨t0, t1, t2, t3, t4, t5, t6, t7⟩ := HCh.out W4 (below_trans hb3 hb4)
      obtain ⟨l0, l1, l2, l3, l4, l5, l6, l7⟩ : W4.cell? ⟨w3.heap.size, 0, none⟩ = some (.string (str m)) ∧ W4.cell? ⟨w3.heap.size, 1, none⟩ = some (.slice a1 (ln 0) c1) ∧ W4.cell? ⟨w3.heap.size, 2, none⟩ = some (.slice a2 (ln 1) c2) ∧ W4.cell? ⟨w3.heap.size, 3, none⟩ = some (.slice a3 (ln 2) c3) ∧ W4.cell? ⟨w3.heap.size, 4, none⟩ = some (.slice a4 (ln 3) c4) ∧ W4.cell? ⟨w3.heap.size, 5, none⟩ = some (.slice a5 (ln 4) c5) ∧ W4.cell? ⟨w3.heap.size, 6, none⟩ = some (.slice a6 (ln 5) c6) ∧ W4.cell? ⟨w3.heap.size, 7, none⟩ = some (.slice a7 (ln 6) c7) := ⟨by rw [cell_of_row W4 _ 0 _ _ _ hN4]; rfl, by rw [cell_of_row W4 _ 1 _ _ _ hN4]; rfl, by rw [cell_of_row W4 _ 2 _ _ _ hN4]; rfl, by rw [cell_of_row W4 _ 3 _ _ _ hN4]; rfl, by rw [cell_of_row W4 _ 4 _ _ _ hN4]; rfl, by rw [cell_of_row W4 _ 5 _ _ _ hN4]; rfl, by rw [cell_of_row W4 _ 6 _ _ _ hN4]; rfl, by rw [cell_of_row W4 _ 7 _ _ _ hN4]; rfl⟩
      generalize hW5 : W4.alloc (.cells #[.int .i64 (ln 0 : Int), .func (.func 29) #[.agg #[.string (str m), .slice a1 (ln 0) c1, .slice a2 (ln 1) c2, .slice a3 (ln 2) c3, .slice a4 (ln 3) c4, .slice a5 (ln 4) c5, .slice a6 (ln 5) c6, .slice a7 (ln 6) c7]] #[], .int .i64 (ln 1 : Int), .func (.func 30) #[.agg #[.string (str m), .slice a1 (ln 0) c1, .slice a2 (ln 1) c2, .slice a3 (ln 2) c3, .slice a4 (ln 3) c4, .slice a5 (ln 4) c5, .slice a6 (ln 5) c6, .slice a7 (ln 6) c7]] #[], .int .i64 (ln 2 : Int), .func (.func 31) #[.agg #[.string (str m), .slice a1 (ln 0) c1, .slice a2 (ln 1) c2, .slice a3 (ln 2) c3, .slice a4 (ln 3) c4, .slice a5 (ln 4) c5, .slice a6 (ln 5) c6, .slice a7 (ln 6) c7]] #[], .int .i64 (ln 3 : Int), .func (.func 32) #[.agg #[.string (str m), .slice a1 (ln 0) c1, .slice a2 (ln 1) c2, .slice a3 (ln 2) c3, .slice a4 (ln 3) c4, .slice a5 (ln 4) c5, .slice a6 (ln 5) c6, .slice a7 (ln 6) c7]] #[], .int .i64 (ln 4 : Int), .func (.func 33) #[.agg #[.string (str m), .slice a1 (ln 0) c1, .slice a2 (ln 1) c2, .slice a3 (ln 2) c3, .slice a4 (ln 3) c4, .slice a5 (ln 4) c5, .slice a6 (ln 5) c6, .slice a7 (ln 6) c7]] #[], .int .i64 (ln 5 : Int), .func (.func 34) #[.agg #[.string (str m), .slice a1 (ln 0) c1, .slice a2 (ln 1) c2, .slice a3 (ln 2) c3, .slice a4 (ln 3) c4, .slice a5 (ln 4) c5, .slice a6 (ln 5) c6, .slice a7 (ln 6) c7]] #[], .int .i64 (ln 6 : Int), .func (.func 35) #[.agg #[.string (str m), .slice a1 (ln 0) c1, .slice a2 (ln 1) c2, .slice a3 (ln 2) c3, .slice a4 (ln 3) c4, .slice a5 (ln 4) c5, .slice a6 (ln 5) c6, .slice a7 (ln 6) c7]] #[]] 89) = W5 at *
      have hb5 : Below W4.heap.size W4 W5 := by rw [← hW5]; exact (Below.refl _ _).alloc (Nat.le_refl _) _
      have hs5 : W5.heap.size = w3.heap.size + 2 := by rw [← hW5]; simp; omega
      have hN5 := heap_alloc_new W4 (.cells #[.int .i64 (ln 0 : Int), .func (.func 29) #[.agg #[.string (str m), .slice a1 (ln 0) c1, .slice a2 (ln 1) c2, .slice a3 (ln 2) c3, .slice a4 (ln 3) c4, .slice a5 (ln 4) c5, .slice a6 (ln 5) c6, .slice a7 (ln 6) c7]] #[], .int .i64 (ln 1 : Int), .func (.func 30) #[.agg #[.string (str m), .slice a1 (ln 0) c1, .slice a2 (ln 1) c2, .slice a3 (ln 2) c3, .slice a4 (ln 3) c4, .slice a5 (ln 4) c5, .slice a6 (ln 5) c6, .slice a7 (ln 6) c7]] #[], .int .i64 (ln 2 : Int), .func (.func 31) #[.agg #[.string (str m), .slice a1 (ln 0) c1, .slice a2 (ln 1) c2, .slice a3 (ln 2) c3, .slice a4 (ln 3) c4, .slice a5 (ln 4) c5, .slice a6 (ln 5) c6, .slice a7 (ln 6) c7]] #[], .int .i64 (ln 3 : Int), .func (.func 32) #[.agg #[.string (str m), .slice a1 (ln 0) c1, .slice a2 (ln 1) c2, .slice a3 (ln 2) c3, .slice a4 (ln 3) c4, .slice a5 (ln 4) c5, .slice a6 (ln 5) c6, .slice a7 (ln 6) c7]] #[], .int .i64 (ln 4 : Int), .func (.func 33) #[.agg #[.string (str m), .slice a1 (ln 0) c1, .slice a2 (ln 1) c2, .slice a3 (ln 2) c3, .slice a4 (ln 3) c4, .slice a5 (ln 4) c5, .slice a6 (ln 5) c6, .slice a7 (ln 6) c7]] #[], .int .i64 (ln 5 : Int), .func (.func 34) #[.agg #[.string (str m), .slice a1 (ln 0) c1, .slice a2 (ln 1) c2, .slice a3 (ln 2) c3, .slice a4 (ln 3) c4, .slice a5 (ln 4) c5, .slice a6 (ln 5) c6, .slice a7 (ln 6) c7]] #[], .int .i64 (ln 6 : Int), .func (.func 35) #[.agg #[.string (str m), .slice a1 (ln 0) c1, .slice a2 (ln 1) c2, .slice a3 (ln 2) c3, .slice a4 (ln 3) c4, .slice a5 (ln 4) c5, .slice a6 (ln 5) c6, .slice a7 (ln 6) c7]] #[]] 89)
      rw [hW5, hs4] at hN5
      have hbw5 : Below w.heap.size w W5 := below_trans hbw3 (below_trans hb4 hb5)
      have HF : Hid (∀ u, Below W5.heap.size W5 u → ∀ j, j < 7 → u.cell? ⟨w3.heap.size + 1, j * 2, none⟩ = some (.int .i64 (ln j : Int)) ∧ u.cell? ⟨w3.heap.size + 1, j * 2 + 1, none⟩ = some (.func (.func (fnO j)) #[.agg #[.string (str m), .slice a1 (ln 0) c1, .slice a2 (ln 1) c2, .slice a3 (ln 2) c3, .slice a4 (ln 3) c4, .slice a5 (ln 4) c5, .slice a6 (ln 5) c6, .slice a7 (ln 6) c7]] #[])) := by
        rw [hid_iff]
        intro u hu j hj
        have n5 := (hu.block (w3.heap.size + 1) (by omega)).trans hN5
        rcases j with _ | _ | _ | _ | _ | _ | _ | j
        all_goals first
          | omega
          | exact ⟨by rw [cell_of_row u _ _ _ _ _ n5]; rfl, by rw [cell_of_row u _ _ _ _ _ n5]; rfl⟩
      go_wp2_with fail
      clear y0 y1 y2 y3 y4 y5 y6 y7 t0 t1 t2 t3 t4 t5 t6 t7 l0 l1 l2 l3 l4 l5 l6 l7 hN0 hN4 hN5 hW hW4 hW5 HCh
      go_loopg [61] 7 (fun g i wr => ∃ (j : Nat), g + j = 7 ∧ i = .int .i64 (j : Int) ∧ Hid (r = listsO o j (7 - j)) ∧ Hid (∀ i, i < j → (scanO (elemO o i) 0 (ln i)).1 = 0) ∧ Below W5.heap.size W5 wr)
      case atStart => exact ⟨0, by omega, rfl, HV, (by rw [hid_iff]; intro i hi; omega), Below.refl _ _⟩
      case round =>
        obtain ⟨j, hg, rfl, hq, hpre, hbl⟩ := hrel
        rename World => wo
        have hso := hbl.size
        by_cases hj : j < 7
        · have hji : (j : Int) < 7 := by omega
          obtain ⟨f0, f1⟩ := HF.out wo hbl j hj
          generalize hW6 : wo.alloc (.cells #[.int .i64 (ln j : Int), .func (.func (fnO j)) #[.agg #[.string (str m), .slice a1 (ln 0) c1, .slice a2 (ln 1) c2, .slice a3 (ln 2) c3, .slice a4 (ln 3) c4, .slice a5 (ln 4) c5, .slice a6 (ln 5) c6, .slice a7 (ln 6) c7]] #[]] 89) = W6 at *
          have hb6 : Below wo.heap.size wo W6 := by rw [← hW6]; exact (Below.refl _ _).alloc (Nat.le_refl _) _
          have hs6 : W6.heap.size = wo.heap.size + 1 := by rw [← hW6]; simp
          have hN6 := heap_alloc_new wo (.cells #[.int .i64 (ln j : Int), .func (.func (fnO j)) #[.agg #[.string (str m), .slice a1 (ln 0) c1, .slice a2 (ln 1) c2, .slice a3 (ln 2) c3, .slice a4 (ln 3) c4, .slice a5 (ln 4) c5, .slice a6 (ln 5) c6, .slice a7 (ln 6) c7]] #[]] 89)
          rw [hW6] at hN6
          have hb56 : Below W5.heap.size W5 W6 := below_trans hbl hb6
          have HG : Hid (∀ u, Below W6.heap.size W6 u → u.cell? ⟨wo.heap.size, 0, none⟩ = some (.int .i64 (ln j : Int)) ∧ u.cell? ⟨wo.heap.size, 1, none⟩ = some (.func (.func (fnO j)) #[.agg #[.string (str m), .slice a1 (ln 0) c1, .slice a2 (ln 1) c2, .slice a3 (ln 2) c3, .slice a4 (ln 3) c4, .slice a5 (ln 4) c5, .slice a6 (ln 5) c6, .slice a7 (ln 6) c7]] #[])) := by
            rw [hid_iff]
            intro u hu
            have n6 := (hu.block wo.heap.size (by omega)).trans hN6
            exact ⟨by rw [cell_of_row u _ 0 _ _ _ n6]; rfl, by rw [cell_of_row u _ 1 _ _ _ n6]; rfl⟩
          obtain ⟨s0, s1⟩ := HG.out W6 (Below.refl _ _)
          have HLJ := hidden (listsO_at o j hj)
          have hlj : ln j ≤ 384 := HM j hj
          go_wp2_with fail
          go_loopg [67] (ln j) (fun g i wr => ∃ (k : Nat), g + k = ln j ∧ i = .int .i64 (k : Int) ∧ Hid (scanO (elemO o j) 0 (ln j) = scanO (elemO o j) k (ln j - k)) ∧ Below W6.heap.size W6 wr)
          case atStart => exact ⟨0, by omega, rfl, rfl, Below.refl _ _⟩
          case round =>
            obtain ⟨k, hgk, rfl, hqk, hbk⟩ := hrel
            rename World => wi
            obtain ⟨u0, u1⟩ := HG.out wi hbk
            have hbwi : Below w.heap.size w wi := below_trans hbw5 (below_trans hb56 hbk)
            by_cases hk : k < ln j
            · have hki : (k : Int) < (ln j : Int) := by omega
              have hCal := HE.out j k hj hk hpre.out wi hbwi
              have HSA := hidden (scanO_at (elemO o j) (ln j) k hk)
              have eg := enterO j hj
              generalize elemO o j k = el at *
              generalize fnO j = fj at *
              go_wp2_with fail
              refine hCal.mono ?_
              rintro e wx ⟨rfl, hbx⟩
              have hb7 : Below W6.heap.size W6 wx := below_trans hbk hbx
              by_cases h0 : el = 0
              · subst h0
                have HQ : Hid (scanO (elemO o j) 0 (ln j) = scanO (elemO o j) (k + 1) (ln j - (k + 1))) := by rw [hid_iff, hqk.out, HSA.out, if_pos rfl]
                clear hCal hqk HSA
                go_wp2
                go_roundg (ln j - (k + 1))
                case measure => omega
                case rel => exact ⟨k + 1, by omega, by go_num, HQ, hb7⟩
              · have h0i : ¬ (el : Int) = 0 := by omega
                have HW : Hid (r = (el, k)) := by
                  have e1 : scanO (elemO o j) 0 (ln j) = (el, k) := by rw [hqk.out, HSA.out, if_neg h0]
                  rw [hid_iff, hq.out, HLJ.out, hLn, e1, if_neg h0]
                clear hCal hqk HSA
                have hbe : Below w.heap.size w wx := below_trans hbw5 (below_trans hb56 hb7)
                go_wp2
                go_ret2
                exact ⟨(by rw [HW.out]; first | done | rfl), hbe⟩
            · have hki : ¬ (k : Int) < (ln j : Int) := by omega
              have HE1 : Hid (scanO (elemO o j) 0 (ln j) = (0, 0)) := by rw [hid_iff, hqk.out, show ln j - k = 0 from by omega]; rfl
              have HQ : Hid (r = listsO o (j + 1) (7 - (j + 1))) := by
                rw [hid_iff, hq.out, HLJ.out, hLn, HE1.out, if_pos rfl]
              clear hqk
              have hb7 : Below W5.heap.size W5 wi := below_trans hb56 hbk
              have HPre : Hid (∀ i, i < j + 1 → (scanO (elemO o i) 0 (ln i)).1 = 0) := by
                rw [hid_iff]
                intro i hi
                by_cases hij : i = j
                · rw [hij, HE1.out]
                · exact hpre.out i (by omega)
              go_wp2
              go_roundg (7 - (j + 1))
              case measure => omega
              case rel => exact ⟨j + 1, by omega, by go_num, HQ, HPre, hb7⟩
        · have hji : ¬ (j : Int) < 7 := by omega
          have HW : Hid (r = (0, 0)) := by
            rw [hid_iff, hq.out, show 7 - j = 0 from by omega]
            rfl
          have hbe : Below w.heap.size w wo := below_trans hbw5 hbl
          clear hq
          go_wp2
          go_ret2
          exact ⟨(by rw [HW.out]; first | done | rfl), hbe⟩
    · rw [hmn] at hT0 HV
      have HW : Hid (r = (4, 0)) := by rw [hid_iff, HV.out]; rfl
      clear hE2 HMn HV
      go_enter Tryz.func8, Tryz.ntmps8
      go_wp2_with (go_at_call 27; refine (hV _).mono ?_; rintro e w2 ⟨rfl, hw2⟩; obtain rfl := hw2.symm)
      refine hT0.mono ?_
      rintro e w3 ⟨rfl, hb3⟩
      go_wp2
      go_ret2
      exact ⟨(by rw [HW.out]; first | done | rfl), below_trans hb0 hb3⟩
end Go.Proofs.YtcjddbponknnoaaGreatDoor

namespace Go.Proofs.YtcjddbponknnoaaGreatDoor
open Go.RowKit

theorem fun_small {gs : List Gl} {ah : List Fn} {f : Fn} (h : funO gs ah f = 0) : f.params.length ≤ 24 ∧ (joinR (f.params.drop (cutO f))).length ≤ 10000 ∧ f.res.length ≤ 200 := by
  unfold funO at h
  by_cases h1 : f.name ≠ [] ∧ valueR f.name = false
  · rw [if_pos h1] at h
    cases h
  rw [if_neg h1] at h
  by_cases h2 : f.name ≠ [] ∧ (ah.any (fun d => decide (d.name = f.name)) = true ∨ gs.any (fun d => decide (d.name = f.name)) = true)
  · rw [if_pos h2] at h
    cases h
  rw [if_neg h2] at h
  cases h3 : countsO f
  · rw [if_pos h3] at h
    cases h
  rw [if_neg (by rw [h3]; simp)] at h
  by_cases h4 : rightR f.res = false ∨ f.params.all rightR = false ∨ rightR (signO f) = false
  · rw [if_pos h4] at h
    cases h
  have hr : rightR f.res = true := by cases hh : rightR f.res with | false => exact absurd (.inl hh) h4 | true => rfl
  have hp : f.params.all rightR = true := by cases hh : f.params.all rightR with | false => exact absurd (.inr (.inl hh)) h4 | true => rfl
  have hl : f.params.length ≤ 24 := by
    simp only [countsO, Bool.and_eq_true, decide_eq_true_eq] at h3
    omega
  have hj := join_len 200 (f.params.drop (cutO f)) (fun p hp' => rightR_len (List.all_eq_true.1 hp p (List.mem_of_mem_drop hp')))
  have hd : (f.params.drop (cutO f)).length ≤ 24 := by rw [List.length_drop]; omega
  have := Nat.mul_le_mul_left 201 hd
  exact ⟨hl, by omega, rightR_len hr⟩
theorem funs_small {o : Ob} (h : (scanO (elemO o 3) 0 (lenO o 3)).1 = 0) : ∀ f ∈ o.funs, f.params.length ≤ 1000000 ∧ (joinR (f.params.drop (cutO f))).length ≤ 1000000000 ∧ f.res.length ≤ 1000000000 := by
  intro f hf
  obtain ⟨i, hi, rfl⟩ := List.getElem_of_mem hf
  have h1 := scanO_all _ _ h i (by omega) (by show i < 0 + o.funs.length; omega)
  have h2 : funO o.globals (o.funs.take i) o.funs[i] = 0 := by
    rw [← h1, elemO, List.getElem?_eq_getElem hi]
  obtain ⟨a, b, c⟩ := fun_small h2
  exact ⟨by omega, by omega, by omega⟩
theorem NamedO.n {o : Ob} {q : List UInt8} {w : World} {e : Ending} {w' : World} (h : NamedO o q w e w') : NamedN o q w e w' := by
  obtain ⟨x, cv, h1, h2, h3, h4⟩ := h
  obtain ⟨ca, cc, rfl⟩ := h3.shape
  exact ⟨x, ca, x.cases.length, cc, h1, h4⟩
set_option maxHeartbeats 1000000 in
set_option maxRecDepth 1000000 in
theorem onamed_nil (F : Nat → Prop) (u : ObV) (o : Ob) (w : World) (h : ObR F w u o) : Calls Tryz.prog 54 #[obv u o.mod, .string (str [])] w (NamedN o [] w) := by
  have HO : Hid (ownO o [] = none) := by rw [hid_iff, ownO, if_pos rfl]
  unfold NamedN
  generalize ownO o [] = ow at *
  obtain ⟨a1, c1, e1⟩ := h.types.shape
  obtain ⟨a2, c2, e2⟩ := h.texts.1.shape
  obtain ⟨a3, c3, e3⟩ := h.globals.shape
  obtain ⟨a4, c4, e4⟩ := h.funs.shape
  obtain ⟨a5, c5, e5⟩ := h.exports.1.shape
  obtain ⟨a6, c6, e6⟩ := h.symbols.shape
  obtain ⟨a7, c7, e7⟩ := h.relocs.shape
  clear h
  obtain ⟨tv, xv, gv, fv, ev, sv, rv⟩ := u
  unfold obv
  simp only at *
  subst e1 e2 e3 e4 e5 e6 e7
  generalize o.types.length = n1 at *
  generalize o.texts.length = n2 at *
  generalize o.globals.length = n3 at *
  generalize o.funs.length = n4 at *
  generalize o.exports.length = n5 at *
  generalize o.symbols.length = n6 at *
  generalize o.relocs.length = n7 at *
  generalize o.mod = m at *
  have hnn : (str []).toList.isEmpty = true := by rw [nil_text]; rfl
  have hnq : (str []).toList = [] := by rw [← List.isEmpty_iff]; exact hnn
  generalize hW : w.alloc (.cells #[.string (str m), .slice a1 n1 c1, .slice a2 n2 c2, .slice a3 n3 c3, .slice a4 n4 c4, .slice a5 n5 c5, .slice a6 n6 c6, .slice a7 n7 c7] 29) = W0 at *
  have hb0 : Below w.heap.size w W0 := by rw [← hW]; exact (Below.refl _ _).alloc (Nat.le_refl _) _
  have hs0 : W0.heap.size = w.heap.size + 1 := by rw [← hW]; simp
  have hN1 := heap_alloc_new W0 (.cells #[.int .i64 0, .string ⟨#[]⟩, .string ⟨#[]⟩, .slice none 0 0] 75)
  have hb1 : Below w.heap.size w (W0.alloc (.cells #[.int .i64 0, .string ⟨#[]⟩, .string ⟨#[]⟩, .slice none 0 0] 75)) := below_trans hb0 ((Below.refl _ _).alloc (Nat.le_refl _) _)
  rw [hs0] at hN1
  go_enter Tryz.func54, Tryz.ntmps54
  go_wp2
  (try simp only [Exit.inBlock, Exit.then])
  refine bodyPost_ret (res7 rfl _ _ (w.heap.size + 1) 75 #[.int .i64 0, .string ⟨#[]⟩, .string ⟨#[]⟩, .slice none 0 0] (0, 0) _ rfl hN1 Tryz.underlying75 rfl sizeIt) rfl ?_
  exact ⟨⟨0, [], [], []⟩, none, 0, 0, by rw [HO.out]; rfl, hb1⟩
theorem right14 (F : Nat → Prop) (u : ObV) (o : Ob) (w : World) (h : ObR F w u o) (hF : ∀ g, F g → g < w.heap.size) (hok : ObOk o) : Calls Tryz.prog 8 #[obv u o.mod] w (TwoB (rightO o) w) := by
  refine rightOs F u o w h hF hok.mod (fun _ hmn j k hj hk hpre v hv => ?_)
  have hO := h.below hv hF
  have hFv : ∀ g, F g → g < v.heap.size := fun g hg => Nat.lt_of_lt_of_le (hF g hg) hv.size
  simp only [manyO, Bool.or_eq_false_iff, decide_eq_false_iff_not] at hmn
  have h48 : o.funs.length ≤ 48 := by omega
  rcases j with _ | _ | _ | _ | _ | _ | _ | j
  · exact typeAt F u o v hO hFv hok k hk
  · exact textAt F u o v hO k hk
  · exact globalAt F u o v hO hFv hok k hk
  · exact funAt F u o v hO hFv hok k hk
  · refine exportAt F u o v hO hFv hok k hk (fun V hV => ?_)
    have hOV := hO.below hV hFv
    have hFV : ∀ g, F g → g < V.heap.size := fun g hg => Nat.lt_of_lt_of_le (hFv g hg) hV.size
    by_cases hq : o.exports[k] = []
    · rw [hq]
      exact onamed_nil F u o V hOV
    · exact (onamed F u o o.exports[k] V hOV hFV hok hq (hok.exports _ (List.getElem_mem hk)) (funs_small (hpre 3 (by omega))) (by omega)).mono fun e w' hh => hh.n
  · exact symbolAt F u o v hO hFv hok h48 k hk
  · exact relocAt F u o v hO hFv hok k hk
  · omega
end Go.Proofs.YtcjddbponknnoaaGreatDoor

namespace Go.Proofs.YtcjddbponknnoaaGreatDoor

theorem imports_ne (o : Ob) (k : Nat) (h : k < (importsO o).length) : (importsO o)[k] ≠ o.mod := by
  have h1 : (importsO o)[k] ∈ onceR ((o.symbols.map (·.mod)).filter fun m => decide (m ≠ o.mod)) := List.getElem_mem h
  have h2 := (List.mem_filter.1 ((onceR_mem _ _).1 h1)).2
  simpa using h2
theorem imports_asc (o : Ob) (k : Nat) (h : k + 1 < (importsO o).length) : (importsO o)[k] < (importsO o)[k + 1] :=
  List.pairwise_iff_getElem.1 (onceR_asc _) k (k + 1) (by exact Nat.lt_of_succ_lt h) h (by omega)
theorem imports_has (o : Ob) (k : Nat) (h : k < o.symbols.length) (hm : o.symbols[k].mod ≠ o.mod) : o.symbols[k].mod ∈ importsO o := by
  rw [importsO, onceR_mem, List.mem_filter]
  exact ⟨List.mem_map.2 ⟨_, List.getElem_mem h, rfl⟩, by simpa using hm⟩
theorem find_name {ts : List It} {n : List UInt8} {x : It} (h : findI ts n = some x) : x.name = n := by
  unfold findI at h
  simpa using List.find?_some h
theorem own_name {o : Ob} {n : List UInt8} {x : It} (h : ownO o n = some x) : x.name = n := by
  unfold ownO at h
  split at h
  · cases h
  · split at h
    · cases h; rfl
    · split at h
      · cases h; rfl
      · exact find_name h
theorem lists_zero {o : Ob} (h : (rightO o).1 = 0) : rightO o = (0, 0) ∧ manyO o = false ∧ ∀ j, j < 7 → (scanO (elemO o j) 0 (lenO o j)).1 = 0 := by
  unfold rightO at h ⊢
  by_cases h1 : valueR o.mod = false
  · rw [if_pos h1] at h
    cases h
  · rw [if_neg h1] at h ⊢
    by_cases h2 : manyO o = true
    · rw [if_pos h2] at h
      cases h
    · rw [if_neg h2] at h ⊢
      have h3 := listsO_all o 7 0 h
      refine ⟨?_, by simpa using h2, fun j hj => h3 j (by omega) (by omega)⟩
      have : ∀ n j, (∀ i, j ≤ i → i < j + n → (scanO (elemO o i) 0 (lenO o i)).1 = 0) → listsO o j n = (0, 0) := by
        intro n
        induction n with
        | zero => intro j _; rfl
        | succ n ih =>
          intro j hh
          rw [listsO, if_pos (hh j (by omega) (by omega))]
          exact ih (j + 1) fun i a b => hh i (by omega) (by omega)
      exact this 7 0 fun i a b => h3 i a b
theorem exports_own {o : Ob} (h : (rightO o).1 = 0) (k : Nat) (hk : k < o.exports.length) : o.exports[k] ≠ [] ∧ ∃ x, ownO o o.exports[k] = some x ∧ x.name = o.exports[k] := by
  obtain ⟨_, _, h2⟩ := lists_zero h
  have h3 := scanO_all _ _ (h2 4 (by omega)) k (by omega) (by show k < 0 + o.exports.length; omega)
  rw [elemO, List.getElem?_eq_getElem hk] at h3
  simp only [exportO] at h3
  cases h4 : ownO o o.exports[k] with
  | none => rw [h4] at h3; simp at h3
  | some x =>
    refine ⟨fun e => ?_, x, rfl, own_name h4⟩
    rw [e, ownO, if_pos rfl] at h4
    cases h4
theorem iface_len (o : Ob) : (ifaceO o).length = o.exports.length := by simp [ifaceO]
theorem iface_name {o : Ob} (h : (rightO o).1 = 0) (k : Nat) (hk : k < (ifaceO o).length) : (ifaceO o)[k].name = o.exports[k]'(by rw [← iface_len]; exact hk) := by
  obtain ⟨_, x, h1, h2⟩ := exports_own h k (by rw [← iface_len]; exact hk)
  simp only [ifaceO, List.getElem_map]
  rw [h1]
  exact h2
end Go.Proofs.YtcjddbponknnoaaGreatDoor

namespace Go.Proofs.YtcjddbponknnoaaGreatDoor
open Go.RowKit

def rowJ (ps : List (It × Value)) : List Value := ps.flatMap fun p => [.int .i64 p.1.kind, .string (str p.1.name), .string (str p.1.ty), p.2]
theorem rowJ_snoc (ps : List (It × Value)) (p : It × Value) : rowJ (ps ++ [p]) = rowJ ps ++ [.int .i64 p.1.kind, .string (str p.1.name), .string (str p.1.ty), p.2] := by simp [rowJ]
/-- Items in a row of the call's own, their cases apart from it. -/
def ItI (B : Nat) (w : World) (v : Value) (xs : List It) : Prop := ∃ ps : List (It × Value), ps.map (·.1) = xs ∧ w.ownsRow B 75 4 v xs.length (rowJ ps) ∧ ∀ p ∈ ps, CsR (fun g => B ≤ g ∧ g < w.heap.size ∧ some g ≠ v.ownBlock) w p.2 p.1.cases
theorem ItI.nil (B : Nat) (w : World) : ItI B w (.slice none 0 0) [] := ⟨[], rfl, World.ownsRow_nil _ _ _ _, by simp⟩
theorem ItI.block {B : Nat} {w : World} {v : Value} {cs : List It} (h : ItI B w v cs) {g : Nat} (hg : v.ownBlock = some g) : B ≤ g ∧ g < w.heap.size := by
  obtain ⟨ps, h1, h2, h3⟩ := h
  exact owns_block h2 hg
theorem ItI.shape {B : Nat} {w : World} {v : Value} {cs : List It} (h : ItI B w v cs) : ∃ a c, v = .slice a cs.length c := by
  obtain ⟨ps, h1, h2, h3⟩ := h
  rcases h2.2 with ⟨rfl, hn⟩ | ⟨g, cap, cur, rfl, _⟩
  · exact ⟨none, 0, by rw [hn]⟩
  · exact ⟨_, _, rfl⟩
theorem rowJ_at : ∀ (ps : List (It × Value)) (j : Nat) (h : j < ps.length) (i : Nat), i < 4 → (rowJ ps)[j * 4 + i]? = ([.int .i64 ps[j].1.kind, .string (str ps[j].1.name), .string (str ps[j].1.ty), ps[j].2] : List Value)[i]?
  | p :: r, 0, _, i, hi => by
    rw [Nat.zero_mul, Nat.zero_add, rowJ, List.flatMap_cons, List.getElem?_append_left (by simpa using hi)]
    rfl
  | p :: r, j + 1, h, i, hi => by
    have := rowJ_at r j (by simpa using h) i hi
    rw [rowJ, List.flatMap_cons, List.getElem?_append_right (by simp; omega)]
    simpa [rowJ, Nat.add_mul, Nat.add_right_comm] using this
theorem ItI.row {B : Nat} {w : World} {v : Value} {xs : List It} (h : ItI B w v xs) : ItR (fun g => B ≤ g ∧ g < w.heap.size) w v xs := by
  obtain ⟨ps, rfl, h2, h3⟩ := h
  rcases h2.2 with ⟨rfl, hn⟩ | ⟨g, cap, cur, rfl, hb, hg, hl, _⟩
  · exact .inl ⟨none, 0, rfl, List.eq_nil_of_length_eq_zero hn⟩
  · refine .inr ⟨g, 0, cap, rfl, hl, ⟨hb, (Array.getElem?_eq_some_iff.1 hg).1⟩, fun j x hj => ?_⟩
    rw [List.getElem?_map] at hj
    obtain ⟨p, hp, rfl⟩ := Option.map_eq_some_iff.1 hj
    obtain ⟨hlt, rfl⟩ := List.getElem?_eq_some_iff.1 hp
    have q : ∀ i, i < 4 → w.cell? ⟨g, 0 + j * 4 + i, none⟩ = ([.int .i64 ps[j].1.kind, .string (str ps[j].1.name), .string (str ps[j].1.ty), ps[j].2] : List Value)[i]? := fun i hi => by
      rw [Nat.zero_add, h2.cellAt (j * 4 + i) (by simp; omega), rowJ_at ps j hlt i hi]
    exact ⟨ps[j].2, (h3 _ (List.getElem_mem hlt)).frame fun g' hg' => ⟨⟨hg'.1, hg'.2.1⟩, rfl⟩, q 0 (by omega), q 1 (by omega), q 2 (by omega), q 3 (by omega)⟩
theorem infoIt5 : (Tryz.prog.info? 75).map (fun i => (i.zero.map (fun z => z.cells.size), i.size, i.bytes)) = some (some 4, 4, 64) := by kernel_rfl
theorem CsR.one {F : Nat → Prop} {w : World} {v : Value} {xs : List Cs} (h : CsR F w v xs) : v.oneCell' = true := by
  obtain ⟨a, c, rfl⟩ := h.shape
  rfl
theorem append_itemJ {w : World} {ops : Array Oper} {rest : List Oper} {o : Oper} {a : Act} {Q : Exit → Act → World → Prop} (hgd : o.guard = none) (s x : Operand)
    (ho : o.op = .call { callee := .builtin .append, args := #[s, x], argTypes := #[22, 22] })
    (B : Nat) (v : Value) (xs : List It) (hs : a.eval s = v) (hI : ItI B w v xs) (c : It) (fv : Value) (ad : Addr) (cp : Nat) (hx : a.eval x = .slice (some ad) 1 cp)
    (hnews : ∀ j u, ([.int .i64 c.kind, .string (str c.name), .string (str c.ty), fv] : List Value)[j]? = some u → w.cell? (ad.add j) = some u) (hT : CsR (fun g => B ≤ g ∧ g < w.heap.size ∧ some g ≠ v.ownBlock) w fv c.cases) (hlen : xs.length + 1 ≤ 1000000) (hB : B ≤ w.heap.size)
    (h : ∀ g cap w', ItI B w' (.slice (some ⟨g, 0, none⟩) (xs.length + 1) cap) (xs ++ [c]) → w.grownBy w' v.ownBlock → wpList Tryz.prog ops Q rest (a.put o.dst (.slice (some ⟨g, 0, none⟩) (xs.length + 1) cap)) w') :
    wpList Tryz.prog ops Q (o :: rest) a w := by
  obtain ⟨i, z, hi, hz, h1, h2, h3⟩ := info_z infoIt5
  obtain ⟨ps, rfl, p2, p3⟩ := hI
  refine wpList_append_lies w hgd s x 22 ho B 75 i z 4 64 Tryz.underlying22 hi hz h1 h2 h3 (by decide) v _ (rowJ ps) hs p2 ad 1 cp [.int .i64 c.kind, .string (str c.name), .string (str c.ty), fv] hx rfl hnews (fun u hu => ?_) (by decide) (by unfold maxLen; omega) (by omega) hB w.heap.size rfl ?_
  · simp only [List.mem_cons, List.not_mem_nil, or_false] at hu
    rcases hu with rfl | rfl | rfl | rfl
    · rfl
    · rfl
    · rfl
    · exact hT.one
  · intro g cap w' q1 q2 q3 q4
    refine h g cap w' ⟨ps ++ [(c, fv)], by simp, by rw [rowJ_snoc]; simpa using q1, fun p hp => ?_⟩ q2
    have key : ∀ fv' (xs : List Cs), CsR (fun g => B ≤ g ∧ g < w.heap.size ∧ some g ≠ v.ownBlock) w fv' xs → CsR (fun g' => B ≤ g' ∧ g' < w'.heap.size ∧ some g' ≠ (Value.slice (some ⟨g, 0, none⟩) ((ps.map (·.1)).length + 1) cap).ownBlock) w' fv' xs := fun fv' xs ht => ht.frame fun g' hg' => by
      refine ⟨⟨hg'.1, Nat.lt_of_lt_of_le hg'.2.1 q2.size, fun e => ?_⟩, q2.block g' hg'.2.1 hg'.2.2⟩
      simp only [Value.ownBlock, Option.some.injEq] at e
      subst e
      rcases q3 with q3 | q3
      · exact hg'.2.2 q3.symm
      · have := hg'.2.1
        omega
    rcases List.mem_append.1 hp with hp | hp
    · exact key _ _ (p3 p hp)
    · rw [List.mem_singleton.1 hp]
      exact key _ _ hT
/-- What lies from B on is left alone by whoever turns a block below B alone. -/
theorem owns_wkept {S : Nat → Prop} {w w' : World} {B e sz n : Nat} {v : Value} {xs : List Value} (h : w.ownsRow B e sz v n xs) (k : Wire.Kept S w w') (hS : ∀ b, B ≤ b → ¬ S b) : w'.ownsRow B e sz v n xs := by
  refine ⟨h.1, ?_⟩
  rcases h.2 with hn | ⟨g, cap, cur, rfl, h2, h3, h4⟩
  · exact .inl hn
  · exact .inr ⟨g, cap, cur, rfl, h2, (k.block g (Array.getElem?_eq_some_iff.1 h3).1 (hS g h2)).trans h3, h4⟩
theorem ItI.wkept {S : Nat → Prop} {w w' : World} {B : Nat} {v : Value} {cs : List It} (h : ItI B w v cs) (k : Wire.Kept S w w') (hS : ∀ b, B ≤ b → ¬ S b) : ItI B w' v cs := by
  obtain ⟨ps, h1, h2, h3⟩ := h
  exact ⟨ps, h1, owns_wkept h2 k hS, fun p hp => (h3 p hp).frame fun g hg => ⟨⟨hg.1, Nat.lt_of_lt_of_le hg.2.1 k.size, hg.2.2⟩, k.block g hg.2.1 (hS g hg.1)⟩⟩
theorem wkept_grown {w w' : World} {row : Option Nat} (h : w.grownBy w' row) : Wire.Kept (fun b => row = some b) w w' := ⟨h.os, h.tape, h.output, h.size, fun b hb hn => h.block b hb (fun e => hn e.symm)⟩
theorem wkept_below {w w' : World} (h : Below w.heap.size w w') : Wire.Kept (fun _ => False) w w' := ⟨h.os, h.tape, h.output, h.size, fun k hk _ => h.block k hk⟩
theorem wkept_alloc (w : World) (o : Obj) : Wire.Kept (fun _ => False) w (w.alloc o) := wkept_below ((Below.refl _ _).alloc (Nat.le_refl _) _)
end Go.Proofs.YtcjddbponknnoaaGreatDoor

namespace Go.Proofs.YtcjddbponknnoaaGreatDoor
open Go.RowKit

/-- What Iface answers. -/
def IfaceO (o : Ob) (w : World) (e : Ending) (w' : World) : Prop :=
  Below w.heap.size w w' ∧ (((rightO o).1 ≠ 0 ∧ e = .returned (.tuple #[.agg #[.string ⟨#[]⟩, .slice none 0 0], .int .i64 ((rightO o).1 : Int)])) ∨
    ((rightO o).1 = 0 ∧ ∃ v, e = .returned (.tuple #[.agg #[.string (str o.mod), v], .int .i64 0]) ∧ ItR (Fr w w') w' v (ifaceO o)))
theorem iface_take (o : Ob) (k : Nat) (h : k < o.exports.length) : (ifaceO o).take (k + 1) = (ifaceO o).take k ++ [(ownO o o.exports[k]).getD it00] := by
  rw [List.take_succ_eq_append_getElem (by rw [iface_len]; exact h)]
  simp only [ifaceO, List.getElem_map]
  rfl
set_option maxHeartbeats 4000000 in
set_option maxRecDepth 1000000 in
theorem oiface (F : Nat → Prop) (u : ObV) (o : Ob) (w : World) (h : ObR F w u o) (hF : ∀ g, F g → g < w.heap.size) (hok : ObOk o) : Calls Tryz.prog 17 #[obv u o.mod] w (IfaceO o w) := by
  have hR := fun v (hb : Below w.heap.size w v) => right14 F u o v (h.below hb hF) (fun g hg => Nat.lt_of_lt_of_le (hF g hg) hb.size) hok
  have HR := hidden hR
  have HNm := hidden (fun (hr : (rightO o).1 = 0) (k : Nat) (hk : k < o.exports.length) v (hb : Below w.heap.size w v) => onamed F u o o.exports[k] v (h.below hb hF) (fun g hg => Nat.lt_of_lt_of_le (hF g hg) hb.size) hok (exports_own hr k hk).1 (hok.exports _ (List.getElem_mem hk)) (funs_small ((lists_zero hr).2.2 3 (by omega))) (by
    have h2 := (lists_zero hr).2.1
    simp only [manyO, Bool.or_eq_false_iff, decide_eq_false_iff_not] at h2
    omega))
  have HTk := hidden (iface_take o)
  have HLn := hidden (iface_len o)
  have HE := h.exports
  have hm := hok.mod
  have hne : (rightO o).1 = 0 → o.exports.length ≤ 32 := fun hr => by
    have h2 := (lists_zero hr).2.1
    simp only [manyO, Bool.or_eq_false_iff, decide_eq_false_iff_not] at h2
    omega
  unfold IfaceO
  unfold TwoB at HR
  unfold NamedO at HNm
  obtain ⟨a1, c1, e1⟩ := h.types.shape
  obtain ⟨a2, c2, e2⟩ := h.texts.1.shape
  obtain ⟨a3, c3, e3⟩ := h.globals.shape
  obtain ⟨a4, c4, e4⟩ := h.funs.shape
  obtain ⟨a6, c6, e6⟩ := h.symbols.shape
  obtain ⟨a7, c7, e7⟩ := h.relocs.shape
  clear h hR hok
  generalize rightO o = rr at *
  generalize ifaceO o = io at *
  generalize ownO o = ow at *
  obtain ⟨m, ts, xs, gs, fs, es, ss, rs⟩ := o
  obtain ⟨tv, xv, gv, fv, ev, sv, rv⟩ := u
  unfold obv at *
  simp only at *
  subst e1 e2 e3 e4 e6 e7
  obtain ⟨a5, c5, rfl⟩ := HE.1.shape
  generalize ts.length = n1 at *
  generalize xs.length = n2 at *
  generalize gs.length = n3 at *
  generalize fs.length = n4 at *
  generalize ss.length = n6 at *
  generalize rs.length = n7 at *
  generalize hW : w.alloc (.cells #[.string (str m), .slice a1 n1 c1, .slice a2 n2 c2, .slice a3 n3 c3, .slice a4 n4 c4, .slice a5 es.length c5, .slice a6 n6 c6, .slice a7 n7 c7] 29) = W0 at *
  have hb0 : Below w.heap.size w W0 := by rw [← hW]; exact (Below.refl _ _).alloc (Nat.le_refl _) _
  have hs0 : W0.heap.size = w.heap.size + 1 := by rw [← hW]; simp
  have hN0 := heap_alloc_new w (.cells #[.string (str m), .slice a1 n1 c1, .slice a2 n2 c2, .slice a3 n3 c3, .slice a4 n4 c4, .slice a5 es.length c5, .slice a6 n6 c6, .slice a7 n7 c7] 29)
  rw [hW] at hN0
  generalize hW1 : W0.alloc (.cells #[.string ⟨#[]⟩, .slice none 0 0] 56) = W1 at *
  have hb1 : Below W0.heap.size W0 W1 := by rw [← hW1]; exact (Below.refl _ _).alloc (Nat.le_refl _) _
  have hs1 : W1.heap.size = w.heap.size + 2 := by rw [← hW1]; simp; omega
  have hN1 := heap_alloc_new W0 (.cells #[.string ⟨#[]⟩, .slice none 0 0] 56)
  rw [hW1, hs0] at hN1
  have hbw : Below w.heap.size w W1 := below_trans hb0 hb1
  have HC : ∀ v, Below W1.heap.size W1 v → (v.cell? ⟨w.heap.size, 0, none⟩ = some (.string (str m)) ∧ v.cell? ⟨w.heap.size, 1, none⟩ = some (.slice a1 n1 c1) ∧ v.cell? ⟨w.heap.size, 2, none⟩ = some (.slice a2 n2 c2) ∧ v.cell? ⟨w.heap.size, 3, none⟩ = some (.slice a3 n3 c3) ∧ v.cell? ⟨w.heap.size, 4, none⟩ = some (.slice a4 n4 c4) ∧ v.cell? ⟨w.heap.size, 5, none⟩ = some (.slice a5 es.length c5) ∧ v.cell? ⟨w.heap.size, 6, none⟩ = some (.slice a6 n6 c6) ∧ v.cell? ⟨w.heap.size, 7, none⟩ = some (.slice a7 n7 c7)) ∧ v.heap[w.heap.size + 1]? = some (.cells #[.string ⟨#[]⟩, .slice none 0 0] 56 (0, 0)) ∧ Below w.heap.size w v := by
    intro v hv
    have n0 := (hv.block w.heap.size (by omega)).trans ((hb1.block _ (by omega)).trans hN0)
    have n1 := (hv.block (w.heap.size + 1) (by omega)).trans hN1
    exact ⟨⟨(by rw [cell_of_row v _ 0 _ _ _ n0]; rfl), (by rw [cell_of_row v _ 1 _ _ _ n0]; rfl), (by rw [cell_of_row v _ 2 _ _ _ n0]; rfl), (by rw [cell_of_row v _ 3 _ _ _ n0]; rfl), (by rw [cell_of_row v _ 4 _ _ _ n0]; rfl), (by rw [cell_of_row v _ 5 _ _ _ n0]; rfl), (by rw [cell_of_row v _ 6 _ _ _ n0]; rfl), (by rw [cell_of_row v _ 7 _ _ _ n0]; rfl)⟩, n1, below_trans hbw hv⟩
  have HCh := hidden HC
  obtain ⟨⟨z0, z1, z2, z3, z4, z5, z6, z7⟩, -, -⟩ := HC W1 (Below.refl _ _)
  clear HC hN0 hN1
  go_enter Tryz.func17, Tryz.ntmps17
  go_wp2_with fail
  refine (HR.out W1 hbw).mono ?_
  rintro e w1 ⟨rfl, hb2⟩
  obtain ⟨⟨y0, y1, y2, y3, y4, y5, y6, y7⟩, hN2, hbw2⟩ := HCh.out w1 hb2
  have hs2 := hb2.size
  clear z0 z1 z2 z3 z4 z5 z6 z7
  by_cases hr : rr.1 = 0
  · have hri : ¬ ((rr.1 : Nat) : Int) ≠ 0 := by omega
    have hri2 : ((rr.1 : Nat) : Int) = 0 := by omega
    have hne := hne hr
    rw [hri2]
    go_wp2_with fail
    refine (sCloneT m _ hm).mono ?_
    rintro e w3 ⟨rfl, hb3⟩
    have hb30 : Below W1.heap.size W1 w3 := below_trans hb2 hb3
    obtain ⟨⟨x0, x1, x2, x3, x4, x5, x6, x7⟩, hN3, hbw3⟩ := HCh.out w3 hb30
    have hs3 := hb30.size
    have hbA : Below w3.heap.size w3 (w3.alloc (.cells #[.string (str m), .slice none 0 0] 56)) := (Below.refl _ _).alloc (Nat.le_refl _) _
    obtain ⟨⟨v0, v1, v2, v3, v4, v5, v6, v7⟩, hNA, hbwA⟩ := HCh.out _ (below_trans hb30 hbA)
    have hBA := heap_alloc_new w3 (.cells #[.string (str m), .slice none 0 0] 56)
    have hsA : (w3.alloc (.cells #[.string (str m), .slice none 0 0] 56)).heap.size = w3.heap.size + 1 := by simp
    clear y0 y1 y2 y3 y4 y5 y6 y7 x0 x1 x2 x3 x4 x5 x6 x7 hb2 hb3
    go_wp2_with fail
    generalize w3.alloc (.cells #[.string (str m), .slice none 0 0] 56) = wA at *
    go_loopg [27] es.length (fun g i wr => ∃ (k : Nat) (v : Value), g + k = es.length ∧ i = .int .i64 (k : Int) ∧ wr.heap[w3.heap.size]? = some (.cells #[.string (str m), v] 56 (0, 0)) ∧ ItI (w3.heap.size + 1) wr v (io.take k) ∧ Below w3.heap.size w3 wr)
    case atStart => exact ⟨0, _, by omega, rfl, hBA, ItI.nil _ _, hbA⟩
    case round =>
      obtain ⟨k, v, hg, rfl, hBr, hIr, Kr⟩ := hrel
      rename World => wr
      have hbr0 : Below W1.heap.size W1 wr := below_trans hb30 Kr
      obtain ⟨⟨r0, r1, r2, r3, r4, r5, r6, r7⟩, hNr, hbr⟩ := HCh.out wr hbr0
      have hsr := Kr.size
      have hltI := (Array.getElem?_eq_some_iff.1 hBr).1
      clear v0 v1 v2 v3 v4 v5 v6 v7
      by_cases hk : k < es.length
      · obtain ⟨g, of, cap, e1, hgF, hcell⟩ := (HE.1.below hbr hF).at k hk
        simp only [Value.slice.injEq, true_and] at e1
        obtain ⟨rfl, rfl⟩ := e1
        have hki : (k : Int) < (es.length : Int) := by omega
        have hNm := HNm.out hr k hk wr hbr
        have HX := hidden (HTk.out k hk)
        have hlk : (io.take k).length ≤ k := by rw [List.length_take]; omega
        generalize (ow es[k]).getD it00 = x at *
        generalize (ow es[k]).isSome = xb at *
        generalize es[k] = q at *
        generalize io.take k = acc at *
        go_wp2_with fail
        refine hNm.mono ?_
        rintro e w4 ⟨x', cv, rfl, hxe, hcv, hb4⟩
        obtain rfl := hxe.symm
        unfold itv
        have hs4 := hb4.size
        have hb40 : Below W1.heap.size W1 w4 := below_trans hbr0 hb4
        obtain ⟨ca, cc, rfl⟩ := hcv.shape
        have hI4 := hIr.wkept (wkept_below hb4) (fun _ _ h => h)
        have hB4 := (hb4.block w3.heap.size hltI).trans hBr
        have hb5 : Below w4.heap.size w4 (w4.alloc (.cells #[.int .i64 x.kind, .string (str x.name), .string (str x.ty), .slice ca x.cases.length cc] 75)) := (Below.refl _ _).alloc (Nat.le_refl _) _
        have hI5 := hI4.wkept (wkept_below hb5) (fun _ _ h => h)
        have hB5 := (hb5.block w3.heap.size (by omega)).trans hB4
        obtain ⟨va, vc, rfl⟩ := hIr.shape
        have b1 : (w4.alloc (.cells #[.int .i64 x.kind, .string (str x.name), .string (str x.ty), .slice ca x.cases.length cc] 75)).cell? ⟨w3.heap.size, 1, none⟩ = some (.slice va acc.length vc) := by rw [cell_of_row _ _ 1 _ _ _ hB5]; rfl
        have hs5 : (w4.alloc (.cells #[.int .i64 x.kind, .string (str x.name), .string (str x.ty), .slice ca x.cases.length cc] 75)).heap.size = w4.heap.size + 1 := by simp
        have hcv5 : CsR (fun g => w3.heap.size + 1 ≤ g ∧ g < (w4.alloc (.cells #[.int .i64 x.kind, .string (str x.name), .string (str x.ty), .slice ca x.cases.length cc] 75)).heap.size ∧ some g ≠ (Value.slice va acc.length vc).ownBlock) (w4.alloc (.cells #[.int .i64 x.kind, .string (str x.name), .string (str x.ty), .slice ca x.cases.length cc] 75)) (.slice ca x.cases.length cc) x.cases := hcv.frame fun g hg => by
          obtain ⟨hg1, hg2⟩ := hg
          refine ⟨⟨by omega, by omega, fun e => ?_⟩, hb5.block g hg2⟩
          have := (hIr.block e.symm).2
          omega
        have K5 : Below w3.heap.size w3 (w4.alloc (.cells #[.int .i64 x.kind, .string (str x.name), .string (str x.ty), .slice ca x.cases.length cc] 75)) := below_trans Kr (below_trans hb4 hb5)
        clear r0 r1 r2 r3 r4 r5 r6 r7 hNm hIr hI4 hBr hB4 hcell
        go_wp2_with (at_builtin; refine append_itemJ rfl (.tmp 38) (.tmp 40) rfl (w3.heap.size + 1) _ acc rfl (hI5.wkept (wkept_alloc _ _) (fun _ _ h => h)) x (.slice ca x.cases.length cc) _ _ rfl ?src ?hT ?len ?hB ?next)
        case src =>
          intro j u' hju
          have hcn := cells_new (w4.alloc (.cells #[.int .i64 x.kind, .string (str x.name), .string (str x.ty), .slice ca x.cases.length cc] 75)) [.int .i64 x.kind, .string (str x.name), .string (str x.ty), .slice ca x.cases.length cc] 75 j u' hju
          first | exact hcn | (rw [World.size_alloc] at hcn; exact hcn)
        case hT => exact hcv5.frame fun g hg => ⟨⟨hg.1, by rw [World.size_alloc]; omega, hg.2.2⟩, ((Below.refl _ _).alloc (Nat.le_refl _) _).block g hg.2.1⟩
        case len => omega
        case hB => first | omega | (simp; omega)
        case next =>
          intro ad c' w6 j1 j2
          have hne6 : ∀ b, (Value.slice va acc.length vc).ownBlock = some b → w3.heap.size + 1 ≤ b := fun b hb => (hI5.block hb).1
          have hB6 : w6.heap[w3.heap.size]? = some (.cells #[.string (str m), .slice va acc.length vc] 56 (0, 0)) := (j2.block _ (by simp; omega) (fun e => by have := hne6 _ e.symm; omega)).trans ((Below.heap_alloc _ _ _ (by omega)).trans hB5)
          have K6 : Below w3.heap.size w3 w6 := (K5.alloc K5.size _).grown j2 (by simp; omega) (fun b hb => by have := hne6 _ hb; omega)
          have x1 : w6.cell? ⟨w3.heap.size, 1, none⟩ = some (.slice va acc.length vc) := by rw [cell_of_row _ _ 1 _ _ _ hB6]; rfl
          have f1 := frozen_of_row w6 w3.heap.size 1 _ _ hB6
          have hB7 := heap_setCell_same w6 w3.heap.size 1 _ _ (.slice (some ⟨ad, 0, none⟩) (acc.length + 1) c') hB6
          have hI7 := j1.wkept ((Wire.Kept.refl (fun b => b = w3.heap.size) w6).setCell (p := ⟨w3.heap.size, 1, none⟩) (fun _ => rfl) (.slice (some ⟨ad, 0, none⟩) (acc.length + 1) c')) (fun b hb h => by omega)
          have K7 := K6.setCell (p := ⟨w3.heap.size, 1, none⟩) (Nat.le_refl _) (.slice (some ⟨ad, 0, none⟩) (acc.length + 1) c')
          clear j1 j2 hI5 hB5 b1 hB6 K6 K5
          go_wp2
          go_roundg (es.length - (k + 1))
          case measure => omega
          case rel => exact ⟨k + 1, _, by omega, by go_num, by simpa using hB7, by rw [HX.out]; exact hI7, K7⟩
      · have hki : ¬ (k : Int) < (es.length : Int) := by omega
        rw [List.take_of_length_le (by rw [HLn.out]; omega)] at hIr
        have hIt := hIr.row
        obtain ⟨va, vc, rfl⟩ := hIr.shape
        have i0 : wr.cell? ⟨w3.heap.size, 0, none⟩ = some (.string (str m)) := by rw [cell_of_row _ _ 0 _ _ _ hBr]; rfl
        have i1 : wr.cell? ⟨w3.heap.size, 1, none⟩ = some (.slice va io.length vc) := by rw [cell_of_row _ _ 1 _ _ _ hBr]; rfl
        have hb9 : Below w.heap.size w (wr.setRow (w.heap.size + 1) #[.string (str m), .slice va io.length vc]) := hbr.trans ((setRow_below wr (w.heap.size + 1) #[.string (str m), .slice va io.length vc]).mono (by omega))
        have hN9 := setRow_heap _ (w.heap.size + 1) _ #[.string (str m), .slice va io.length vc] 56 (0, 0) hNr
        have hk9 := fun g (hg : g ≠ w.heap.size + 1) => setRow_other wr (w.heap.size + 1) g #[.string (str m), .slice va io.length vc] hg
        clear r1 r2 r3 r4 r5 r6 r7 HNm HTk
        go_wp2_with (refine wpList_store_row rfl 56 (.tmp 2) (.tmp 44) rfl (w.heap.size + 1) #[.string (str m), .slice va io.length vc] rfl rfl 56 #[.string ⟨#[]⟩, .slice none 0 0] hNr sizeIf rfl (by kernel_rfl) ?_)
        (try simp only [Exit.inBlock, Exit.then])
        refine bodyPost_ret (res7 rfl _ _ (w.heap.size + 1) 56 #[.string (str m), .slice va io.length vc] (0, 0) _ rfl hN9 Tryz.underlying56 rfl sizeIf) rfl ?_
        have hfin : ItR (Fr w (wr.setRow (w.heap.size + 1) #[.string (str m), .slice va io.length vc])) (wr.setRow (w.heap.size + 1) #[.string (str m), .slice va io.length vc]) (.slice va io.length vc) io := hIt.frame fun g hg => by
          obtain ⟨hg1, hg2⟩ := hg
          exact ⟨⟨by omega, by rw [setRow_size]; omega⟩, hk9 g (by omega)⟩
        first | exact ⟨hb9, .inr ⟨hr, _, rfl, hfin⟩⟩ | exact ⟨hb9, _, rfl, hfin⟩
  · have hri : ((rr.1 : Nat) : Int) ≠ 0 := by omega
    have hb9 : Below w.heap.size w (w1.setRow (w.heap.size + 1) #[.string ⟨#[]⟩, .slice none 0 0]) := hbw2.trans ((setRow_below w1 (w.heap.size + 1) #[.string ⟨#[]⟩, .slice none 0 0]).mono (by omega))
    have hN9 := setRow_heap _ (w.heap.size + 1) _ #[.string ⟨#[]⟩, .slice none 0 0] 56 (0, 0) hN2
    go_wp2_with (refine wpList_store_row rfl 56 (.tmp 2) (.tmp 18) rfl (w.heap.size + 1) #[.string ⟨#[]⟩, .slice none 0 0] rfl rfl 56 #[.string ⟨#[]⟩, .slice none 0 0] hN2 sizeIf rfl (by kernel_rfl) ?_)
    (try simp only [Exit.inBlock, Exit.then])
    refine bodyPost_ret (res7 rfl _ _ (w.heap.size + 1) 56 #[.string ⟨#[]⟩, .slice none 0 0] (0, 0) _ rfl hN9 Tryz.underlying56 rfl sizeIf) rfl ?_
    first | exact ⟨hb9, .inl ⟨hr, rfl⟩⟩ | exact ⟨hb9, rfl⟩
end Go.Proofs.YtcjddbponknnoaaGreatDoor

namespace Go.Proofs.YtcjddbponknnoaaGreatDoor
open Go.RowKit

/-- The modules of some symbols that are not m. -/
def impF (m : List UInt8) (ss : List Sy) : List (List UInt8) := (ss.map (·.mod)).filter fun x => decide (x ≠ m)
theorem impF_yes (m : List UInt8) (ss : List Sy) (k : Nat) (h : k < ss.length) (hn : ss[k].mod ≠ m) : impF m (ss.take (k + 1)) = impF m (ss.take k) ++ [ss[k].mod] := by
  rw [impF, List.take_succ_eq_append_getElem h, List.map_append, List.filter_append]
  simp [impF, hn]
theorem impF_no (m : List UInt8) (ss : List Sy) (k : Nat) (h : k < ss.length) (hn : ss[k].mod = m) : impF m (ss.take (k + 1)) = impF m (ss.take k) := by
  rw [impF, List.take_succ_eq_append_getElem h, List.map_append, List.filter_append]
  simp [impF, hn]
theorem impF_len (m : List UInt8) (ss : List Sy) : (impF m ss).length ≤ ss.length := by
  have := List.length_filter_le (fun x => decide (x ≠ m)) (ss.map (·.mod))
  rw [List.length_map] at this
  exact this
set_option maxHeartbeats 4000000 in
set_option maxRecDepth 1000000 in
theorem oimports (F : Nat → Prop) (u : ObV) (o : Ob) (w : World) (h : ObR F w u o) (hF : ∀ g, F g → g < w.heap.size) (hok : ObOk o) : Calls Tryz.prog 13 #[obv u o.mod] w fun e w' => ∃ v, e = .returned v ∧ StrRow w' v (importsO o) ∧ Below w.heap.size w w' := by
  have HI : Hid (importsO o = Lib.compact (sortR (impF o.mod o.symbols))) := rfl
  generalize importsO o = im at *
  have hS := h.symbols
  have hso := hok.symbols
  have hns := hok.ns
  obtain ⟨a1, c1, e1⟩ := h.types.shape
  obtain ⟨a2, c2, e2⟩ := h.texts.1.shape
  obtain ⟨a3, c3, e3⟩ := h.globals.shape
  obtain ⟨a4, c4, e4⟩ := h.funs.shape
  obtain ⟨a5, c5, e5⟩ := h.exports.1.shape
  obtain ⟨a7, c7, e7⟩ := h.relocs.shape
  obtain ⟨m, ts, xs, gs, fs, es, ss, rs⟩ := o
  obtain ⟨tv, xv, gv, fv, ev, sv, rv⟩ := u
  unfold obv
  simp only at *
  subst e1 e2 e3 e4 e5 e7
  obtain ⟨a6, c6, rfl⟩ := hS.shape
  generalize ts.length = n1 at *
  generalize xs.length = n2 at *
  generalize gs.length = n3 at *
  generalize fs.length = n4 at *
  generalize es.length = n5 at *
  generalize rs.length = n7 at *
  generalize hW : w.alloc (.cells #[.string (str m), .slice a1 n1 c1, .slice a2 n2 c2, .slice a3 n3 c3, .slice a4 n4 c4, .slice a5 n5 c5, .slice a6 ss.length c6, .slice a7 n7 c7] 29) = W0 at *
  have hb0 : Below w.heap.size w W0 := by rw [← hW]; exact (Below.refl _ _).alloc (Nat.le_refl _) _
  have hs0 : W0.heap.size = w.heap.size + 1 := by rw [← hW]; simp
  have hN0 := heap_alloc_new w (.cells #[.string (str m), .slice a1 n1 c1, .slice a2 n2 c2, .slice a3 n3 c3, .slice a4 n4 c4, .slice a5 n5 c5, .slice a6 ss.length c6, .slice a7 n7 c7] 29)
  rw [hW] at hN0
  have HC : ∀ u, Below W0.heap.size W0 u → u.cell? ⟨w.heap.size, 0, none⟩ = some (.string (str m)) ∧ u.cell? ⟨w.heap.size, 6, none⟩ = some (.slice a6 ss.length c6) ∧ Below w.heap.size w u := by
    intro u hu
    have n0 := (hu.block w.heap.size (by omega)).trans hN0
    exact ⟨by rw [cell_of_row u _ 0 _ _ _ n0]; rfl, by rw [cell_of_row u _ 6 _ _ _ n0]; rfl, below_trans hb0 hu⟩
  have HCh := hidden HC
  obtain ⟨z0, z6, _⟩ := HC W0 (Below.refl _ _)
  have HS := hidden hS
  have HSo := hidden hso
  clear h hS hso hok HC hN0
  go_enter Tryz.func13, Tryz.ntmps13
  go_wp2_with fail
  go_loopg [3, 9] ss.length (fun g x i wr => ∃ (k : Nat), g + k = ss.length ∧ i = .int .i64 (k : Int) ∧ wr.ownsRow W0.heap.size 9 1 x (impF m (ss.take k)).length (sc (impF m (ss.take k))) ∧ Below W0.heap.size W0 wr)
  case atStart => exact ⟨0, by omega, rfl, by simpa [sc, impF] using World.ownsRow_nil _ _ _ _, Below.refl _ _⟩
  case round =>
    obtain ⟨k, hg, rfl, hown, hbl⟩ := hrel
    rename World => wr
    obtain ⟨y0, y6, hwr⟩ := HCh.out wr hbl
    by_cases hk : k < ss.length
    · obtain ⟨g, of, cap, cs, e1, _, hgF, hC, hcell⟩ := (HS.out.below cSy_stay hwr hF).at k hk
      simp only [Value.slice.injEq, true_and] at e1
      obtain ⟨rfl, rfl⟩ := e1
      obtain ⟨cv, rfl, hcv⟩ := hC
      obtain ⟨ca, cc, rfl⟩ := hcv.shape
      have q0 := hcell 0 _ rfl
      have q1 := hcell 1 _ rfl
      have q2 := hcell 2 _ rfl
      have q3 := hcell 3 _ rfl
      have q4 := hcell 4 _ rfl
      simp only [Nat.add_zero] at q0
      have hki : (k : Int) < (ss.length : Int) := by omega
      have hx := (HSo.out _ (List.getElem_mem hk)).1
      have hal := impF_len m (ss.take k)
      have hal2 : (ss.take k).length ≤ k := by simp; omega
      have he := eq_is ss[k].mod m
      have hYes := impF_yes m ss k hk
      have hNo := impF_no m ss k hk
      generalize hTK : impF m (ss.take k) = acc at *
      clear hTK hcell hcv
      generalize ss[k].mod = x at *
      generalize ss[k].item.kind = xk at *
      generalize ss[k].item.name = xn at *
      generalize ss[k].item.ty = xt at *
      generalize ss[k].item.cases.length = xc at *
      generalize hWs : wr.alloc (.cells #[.string (str x), .int .i64 xk, .string (str xn), .string (str xt), .slice ca xc cc] 77) = ws at *
      have hbs : Below wr.heap.size wr ws := by rw [← hWs]; exact (Below.refl _ _).alloc (Nat.le_refl _) _
      have hNs := heap_alloc_new wr (.cells #[.string (str x), .int .i64 xk, .string (str xn), .string (str xt), .slice ca xc cc] 77)
      rw [hWs] at hNs
      have d0 : ws.cell? ⟨wr.heap.size, 0, none⟩ = some (.string (str x)) := by rw [cell_of_row ws _ 0 _ _ _ hNs]; rfl
      have hb0s : Below W0.heap.size W0 ws := below_trans hbl hbs
      obtain ⟨v0, v6, hws⟩ := HCh.out ws hb0s
      have hos := owns_below hown hbs
      have hsr := hbl.size
      have hss := hb0s.size
      by_cases hn : x = m
      · have HX := hidden (hNo hn)
        rw [decide_eq_true hn] at he
        clear hn hYes hNo hown hbl y0 y6 hNs
        go_wp2
        go_roundg (ss.length - (k + 1))
        case measure => omega
        case rel => exact ⟨k + 1, by omega, by go_num, by rw [HX.out]; exact hos, hb0s⟩
      · have HX := hidden (hYes hn)
        rw [decide_eq_false hn] at he
        clear hn hYes hNo hown hbl y0 y6 hNs
        go_wp2_with fail
        refine (sCloneT x _ hx).mono ?_
        rintro e w9 ⟨rfl, hb9⟩
        have ho9 := owns_below hos hb9
        have hb90 : Below W0.heap.size W0 w9 := below_trans hb0s hb9
        have hB9 := hb90.size
        clear hos hb9 hb0s v0 v6 d0
        go_wp2_with (at_builtin; refine append_textN rfl (.tmp 18) (.tmp 22) rfl W0.heap.size _ acc rfl (ho9.alloc _) _ _ x rfl ?src ?len ?hB ?next)
        case src => first | exact cells_new _ _ _ | exact fun j u h => h
        case len => first | omega | (simp; omega)
        case hB => first | omega | (simp; omega)
        case next =>
          intro ad c' w' k1 k2
          have k3 := below_grown (ho9.alloc _) (by simp; omega) (hb90.alloc hB9 _) k2
          clear k2 ho9 hb90
          go_wp2
          go_roundg (ss.length - (k + 1))
          case measure => omega
          case rel => exact ⟨k + 1, by omega, by go_num, by rw [HX.out, List.length_append, List.length_singleton]; first | exact k1 | (rw [hs0]; exact k1), k3⟩
    · have hki : ¬ (k : Int) < (ss.length : Int) := by omega
      rw [List.take_of_length_le (by omega)] at hown
      have hro := rowO_own hown
      have hil := impF_len m ss
      clear hown y0 y6
      go_wp2_with fail
      refine (sortO _ _ _ _ hro (by omega)).mono ?_
      rintro e w2 ⟨rfl, hr2, hb2⟩
      go_wp2_with fail
      refine (compactO _ _ _ _ hr2 (by rw [sortR_length]; omega)).mono ?_
      rintro e w3 ⟨v3, rfl, hr3, hb3⟩
      have hbe : Below w.heap.size w w3 := hb0.trans ((hbl.trans (hb2.trans hb3)).mono (by omega))
      clear hro hr2 hb2 hb3
      go_wp2
      go_ret
      exact ⟨v3, rfl, by rw [HI.out]; exact hr3, hbe⟩
end Go.Proofs.YtcjddbponknnoaaGreatDoor

namespace Go.Proofs.YtcjddbponknnoaaGreatDoor
open Go.RowKit

/-- What Iface answers, either way. -/
theorem IfaceO.one {o : Ob} {w : World} {e : Ending} {w' : World} (h : IfaceO o w e w') : Below w.heap.size w w' ∧ ∃ s a n c, e = .returned (.tuple #[.agg #[.string s, .slice a n c], .int .i64 ((rightO o).1 : Int)]) ∧ ((rightO o).1 = 0 → s = str o.mod ∧ n = (ifaceO o).length ∧ ItR (Fr w w') w' (.slice a n c) (ifaceO o)) := by
  obtain ⟨h1, h2⟩ := h
  refine ⟨h1, ?_⟩
  rcases h2 with ⟨h3, rfl⟩ | ⟨h3, v, rfl, h4⟩
  · exact ⟨_, _, _, _, rfl, fun e => absurd e h3⟩
  · obtain ⟨a, c, rfl⟩ := h4.shape
    exact ⟨_, a, _, c, by rw [h3]; rfl, fun _ => ⟨rfl, rfl, h4⟩⟩
theorem strRow_at {w : World} {v : Value} {xs : List (List UInt8)} (h : StrRow w v xs) (k : Nat) (hk : k < xs.length) : ∃ b of c, v = .slice (some ⟨b, of, none⟩) xs.length c ∧ w.cell? ⟨b, of + k, none⟩ = some (.string (str xs[k])) := by
  rcases h with ⟨rfl, _⟩ | ⟨b, of, c, rfl, _, _, h3⟩
  · simp at hk
  · exact ⟨b, of, c, rfl, h3 k _ (List.getElem?_eq_getElem hk)⟩
theorem imports_len (o : Ob) : (importsO o).length ≤ o.symbols.length := by
  have h1 := compactO_len (sortR ((o.symbols.map (·.mod)).filter fun m => decide (m ≠ o.mod)))
  rw [sortR_length] at h1
  have h2 := List.length_filter_le (fun m => decide (m ≠ o.mod)) (o.symbols.map (·.mod))
  rw [List.length_map] at h2
  exact Nat.le_trans h1 h2
/-- Whether one of the first j is q. -/
def hasJ (q : List UInt8) (l : List (List UInt8)) (j : Nat) : Bool := (l.take j).any fun x => decide (x = q)
theorem hasJ_succ (q : List UInt8) (l : List (List UInt8)) (j : Nat) (h : j < l.length) : hasJ q l (j + 1) = (hasJ q l j || decide (l[j] = q)) := by
  rw [hasJ, List.take_succ_eq_append_getElem h, List.any_append]
  simp [hasJ]
theorem hasJ_all {q : List UInt8} {l : List (List UInt8)} (h : q ∈ l) : hasJ q l l.length = true := by
  rw [hasJ, List.take_length, List.any_eq_true]
  exact ⟨q, h, by simp⟩
set_option maxHeartbeats 4000000 in
set_option maxRecDepth 1000000 in
theorem parts_walk (F : Nat → Prop) (u : ObV) (o : Ob) (w : World) (h : ObR F w u o) (hF : ∀ g, F g → g < w.heap.size) (hok : ObOk o) : Calls Tryz.prog 6 #[obv u o.mod] w (BoolB true w) := by
  have HR := hidden (fun v (hb : Below w.heap.size w v) => right14 F u o v (h.below hb hF) (fun g hg => Nat.lt_of_lt_of_le (hF g hg) hb.size) hok)
  have HIf := hidden (fun v (hb : Below w.heap.size w v) => (oiface F u o v (h.below hb hF) (fun g hg => Nat.lt_of_lt_of_le (hF g hg) hb.size) hok).mono fun e w' hh => hh.one)
  have HIm := hidden (fun v (hb : Below w.heap.size w v) => oimports F u o v (h.below hb hF) (fun g hg => Nat.lt_of_lt_of_le (hF g hg) hb.size) hok)
  have HNe := hidden (imports_ne o)
  have HAs : Hid (∀ (k : Nat) (h1 : k < (importsO o).length) (h2 : k + 1 < (importsO o).length), (importsO o)[k] < (importsO o)[k + 1]) := fun k _ h2 => imports_asc o k h2
  have HHas := hidden (imports_has o)
  have HLn := hidden (iface_len o)
  have HNa : Hid ((rightO o).1 = 0 → ∀ (k : Nat) (hk : k < (ifaceO o).length) (hk' : k < o.exports.length), (ifaceO o)[k].name = o.exports[k]) := fun hr k hk _ => iface_name hr k hk
  have HE := hidden h.exports
  have HS := hidden h.symbols
  have hes := hok.ne
  have hns := hok.ns
  have hil : (importsO o).length ≤ 3518437208883 := Nat.le_trans (imports_len o) hok.ns
  unfold TwoB at HR
  obtain ⟨a1, c1, e1⟩ := h.types.shape
  obtain ⟨a2, c2, e2⟩ := h.texts.1.shape
  obtain ⟨a3, c3, e3⟩ := h.globals.shape
  obtain ⟨a4, c4, e4⟩ := h.funs.shape
  obtain ⟨a5, c5, e5⟩ := h.exports.1.shape
  obtain ⟨a6, c6, e6⟩ := h.symbols.shape
  obtain ⟨a7, c7, e7⟩ := h.relocs.shape
  clear h hok
  generalize rightO o = rr at *
  generalize ifaceO o = io at *
  generalize importsO o = im at *
  obtain ⟨m, ts, xs, gs, fs, es, ss, rs⟩ := o
  obtain ⟨tv, xv, gv, fv, ev, sv, rv⟩ := u
  unfold obv at *
  simp only at *
  subst e1 e2 e3 e4 e5 e6 e7
  generalize ts.length = n1 at *
  generalize xs.length = n2 at *
  generalize gs.length = n3 at *
  generalize fs.length = n4 at *
  generalize rs.length = n7 at *
  generalize hW : w.alloc (.cells #[.string (str m), .slice a1 n1 c1, .slice a2 n2 c2, .slice a3 n3 c3, .slice a4 n4 c4, .slice a5 es.length c5, .slice a6 ss.length c6, .slice a7 n7 c7] 29) = W0 at *
  have hb0 : Below w.heap.size w W0 := by rw [← hW]; exact (Below.refl _ _).alloc (Nat.le_refl _) _
  have hs0 : W0.heap.size = w.heap.size + 1 := by rw [← hW]; simp
  have hN0 := heap_alloc_new w (.cells #[.string (str m), .slice a1 n1 c1, .slice a2 n2 c2, .slice a3 n3 c3, .slice a4 n4 c4, .slice a5 es.length c5, .slice a6 ss.length c6, .slice a7 n7 c7] 29)
  rw [hW] at hN0
  have HC : ∀ v, Below W0.heap.size W0 v → (v.cell? ⟨w.heap.size, 0, none⟩ = some (.string (str m)) ∧ v.cell? ⟨w.heap.size, 1, none⟩ = some (.slice a1 n1 c1) ∧ v.cell? ⟨w.heap.size, 2, none⟩ = some (.slice a2 n2 c2) ∧ v.cell? ⟨w.heap.size, 3, none⟩ = some (.slice a3 n3 c3) ∧ v.cell? ⟨w.heap.size, 4, none⟩ = some (.slice a4 n4 c4) ∧ v.cell? ⟨w.heap.size, 5, none⟩ = some (.slice a5 es.length c5) ∧ v.cell? ⟨w.heap.size, 6, none⟩ = some (.slice a6 ss.length c6) ∧ v.cell? ⟨w.heap.size, 7, none⟩ = some (.slice a7 n7 c7)) ∧ Below w.heap.size w v := by
    intro v hv
    have n0 := (hv.block w.heap.size (by omega)).trans hN0
    exact ⟨⟨(by rw [cell_of_row v _ 0 _ _ _ n0]; rfl), (by rw [cell_of_row v _ 1 _ _ _ n0]; rfl), (by rw [cell_of_row v _ 2 _ _ _ n0]; rfl), (by rw [cell_of_row v _ 3 _ _ _ n0]; rfl), (by rw [cell_of_row v _ 4 _ _ _ n0]; rfl), (by rw [cell_of_row v _ 5 _ _ _ n0]; rfl), (by rw [cell_of_row v _ 6 _ _ _ n0]; rfl), (by rw [cell_of_row v _ 7 _ _ _ n0]; rfl)⟩, below_trans hb0 hv⟩
  have HCh := hidden HC
  obtain ⟨⟨z0, z1, z2, z3, z4, z5, z6, z7⟩, -⟩ := HC W0 (Below.refl _ _)
  clear HC hN0
  go_enter Tryz.func6, Tryz.ntmps6
  go_wp2_with fail
  refine (HR.out W0 hb0).mono ?_
  rintro e w1 ⟨rfl, hb1⟩
  obtain ⟨⟨y0, y1, y2, y3, y4, y5, y6, y7⟩, hbw1⟩ := HCh.out w1 hb1
  have hs1 := hb1.size
  clear z0 z1 z2 z3 z4 z5 z6 z7
  go_wp2_with fail
  refine (HIf.out w1 hbw1).mono ?_
  rintro e w2 ⟨hb2, is, ia, il, ic, rfl, hIf⟩
  have hb20 : Below W0.heap.size W0 w2 := below_trans hb1 hb2
  have hs2 := hb2.size
  have hbA : Below w2.heap.size w2 (w2.alloc (.cells #[.string is, .slice ia il ic] 56)) := (Below.refl _ _).alloc (Nat.le_refl _) _
  have hNA := heap_alloc_new w2 (.cells #[.string is, .slice ia il ic] 56)
  have hsA : (w2.alloc (.cells #[.string is, .slice ia il ic] 56)).heap.size = w2.heap.size + 1 := by simp
  obtain ⟨⟨z0, z1, z2, z3, z4, z5, z6, z7⟩, hbwA⟩ := HCh.out _ (below_trans hb20 hbA)
  clear y0 y1 y2 y3 y4 y5 y6 y7
  go_wp2_with fail
  refine (HIm.out _ hbwA).mono ?_
  rintro e w3 ⟨lv, rfl, hL, hb3⟩
  have hb30 : Below W0.heap.size W0 w3 := below_trans hb20 (below_trans hbA hb3)
  have hN3 := (hb3.block w2.heap.size (by omega)).trans hNA
  have hb23 : Below w2.heap.size w2 w3 := below_trans hbA hb3
  have hs3 := hb3.size
  obtain ⟨la, lc, rfl⟩ := hL.shape
  have HL := hidden hL
  have HCi : ∀ v, Below w3.heap.size w3 v → v.cell? ⟨w2.heap.size, 0, none⟩ = some (.string is) ∧ v.cell? ⟨w2.heap.size, 1, none⟩ = some (.slice ia il ic) ∧ Below W0.heap.size W0 v ∧ StrRow v (.slice la im.length lc) im := fun v hv => by
    have n0 := (hv.block w2.heap.size (by omega)).trans hN3
    exact ⟨(by rw [cell_of_row v _ 0 _ _ _ n0]; rfl), (by rw [cell_of_row v _ 1 _ _ _ n0]; rfl), below_trans hb30 hv, HL.out.below hv⟩
  have HCih := hidden HCi
  clear z0 z1 z2 z3 z4 z5 z6 z7 HCi hL hbA hNA hN3 HR HIm
  go_wp2_with fail
  go_loopg [8] im.length (fun g i wr => ∃ (k : Nat), g + k = im.length ∧ i = .int .i64 (k : Int) ∧ Below w3.heap.size w3 wr)
  case atStart => exact ⟨0, by omega, rfl, Below.refl _ _⟩
  case round =>
    obtain ⟨k, hg, rfl, hbl⟩ := hrel
    rename World => wr
    obtain ⟨i0, i1, hbr0, hLr⟩ := HCih.out wr hbl
    obtain ⟨⟨y0, y1, y2, y3, y4, y5, y6, y7⟩, hbr⟩ := HCh.out wr hbr0
    by_cases hk : k < im.length
    · have hki : (k : Int) < (im.length : Int) := by omega
      obtain ⟨lb, lof, lc', e1, hc1⟩ := strRow_at hLr k hk
      simp only [Value.slice.injEq, true_and] at e1
      obtain ⟨rfl, rfl⟩ := e1
      have hne := HNe.out k hk
      have he := eq_is im[k] m
      rw [decide_eq_false hne] at he
      by_cases hk0 : k = 0
      · subst hk0
        generalize im[0] = x at *
        simp only [Nat.add_zero] at hc1
        go_wp2_with fail
        first | (go_quiet (fail)) | fail
        go_wp2
        go_roundg (im.length - 1)
        case measure => omega
        case rel => exact ⟨1, by omega, by go_num, by first | exact hbl | exact below_drewN hbl _ | exact below_drew hbl⟩
      · have hk1 : (k : Int) > 0 := by omega
        obtain ⟨k', rfl⟩ : ∃ k', k = k' + 1 := ⟨k - 1, by omega⟩
        obtain ⟨lb2, lof2, lc2, e2, hc2⟩ := strRow_at hLr k' (by omega)
        simp only [Value.slice.injEq, Option.some.injEq, Addr.mk.injEq, and_true, true_and] at e2
        obtain ⟨⟨rfl, rfl⟩, rfl⟩ := e2
        have has := HAs.out k' (by omega) hk
        have hge := geq_is im[k'] im[k' + 1]
        rw [decide_eq_false (by rw [List.not_le]; exact has)] at hge
        have hsub : ((k' + 1 : Nat) : Int) - 1 = (k' : Int) := by omega
        have hki2 : (k' : Int) < (im.length : Int) := by omega
        have hki3 : (0 : Int) ≤ (k' : Int) := by omega
        generalize im[k' + 1] = x at *
        generalize im[k'] = y at *
        go_wp2_with fail
        first | (go_quiet (fail)) | fail
        go_wp2
        go_roundg (im.length - (k' + 1 + 1))
        case measure => omega
        case rel => exact ⟨k' + 1 + 1, by omega, by go_num, by first | exact hbl | exact below_drewN hbl _ | exact below_drew hbl⟩
    · have hki : ¬ (k : Int) < (im.length : Int) := by omega
      clear i0 i1 y0 y1 y2 y3 y4 y5 y6 y7 HNe HAs
      go_wp2_with fail
      go_loopg [9] ss.length (fun g i wr => ∃ (k : Nat), g + k = ss.length ∧ i = .int .i64 (k : Int) ∧ Below w3.heap.size w3 wr)
      case atStart => exact ⟨0, by omega, rfl, hbl⟩
      case round =>
        obtain ⟨k2, hg2, rfl, hbl2⟩ := hrel
        rename World => wr2
        obtain ⟨i0, i1, hbr0, hLr⟩ := HCih.out wr2 hbl2
        obtain ⟨⟨y0, y1, y2, y3, y4, y5, y6, y7⟩, hbr⟩ := HCh.out wr2 hbr0
        by_cases hk2 : k2 < ss.length
        · have hki2 : (k2 : Int) < (ss.length : Int) := by omega
          obtain ⟨g6, of6, cap6, cs6, e1, _, hgF, hC6, hcell6⟩ := HS.out.at k2 hk2
          simp only [Value.slice.injEq, true_and] at e1
          obtain ⟨rfl, rfl⟩ := e1
          obtain ⟨cv6, rfl, hcv6⟩ := hC6
          have q0' := hcell6 0 _ rfl
          simp only [Nat.add_zero] at q0'
          have HQ := hidden (fun v (hv : Below w.heap.size w v) => (World.cell?_of_block (a := ⟨g6, of6 + k2 * 5, none⟩) (hv.block g6 (hF g6 hgF))).trans q0')
          have q0 := HQ.out wr2 hbr
          clear q0'
          have he := eq_is ss[k2].mod m
          have HH := hidden (HHas.out k2 hk2)
          generalize ss[k2].mod = x at *
          clear hcell6 hcv6
          go_wp2_with fail
          first | (go_quiet (fail)) | fail
          go_wp2_with fail
          go_loopg [10, 11] im.length (fun g f j wr => ∃ (jj : Nat), g + jj = im.length ∧ f = .bool (decide (x = m) || hasJ x im jj) ∧ j = .int .i64 (jj : Int) ∧ Below w3.heap.size w3 wr)
          case atStart => exact ⟨0, by omega, by rw [← he]; simp [hasJ], rfl, by first | exact hbl2 | exact below_drewN hbl2 _⟩
          case round =>
            obtain ⟨j, hg3, rfl, rfl, hbl3⟩ := hrel
            rename World => wr3
            obtain ⟨i0', i1', hbr0', hLr'⟩ := HCih.out wr3 hbl3
            obtain ⟨⟨x0, x1, x2, x3, x4, x5, x6, x7⟩, hbr'⟩ := HCh.out wr3 hbr0'
            by_cases hj : j < im.length
            · have hji : (j : Int) < (im.length : Int) := by omega
              obtain ⟨lb, lof, lc', e1, hc1⟩ := strRow_at hLr' j hj
              simp only [Value.slice.injEq, true_and] at e1
              obtain ⟨rfl, rfl⟩ := e1
              have q1 := HQ.out wr3 hbr'
              have he2 := eq_is im[j] x
              have HJ := hidden (hasJ_succ x im j hj)
              cases hf : (decide (x = m) || hasJ x im j)
              · generalize im[j] = y at *
                go_wp2_with fail
                first | (go_quiet (fail)) | fail
                go_wp2
                go_roundg (im.length - (j + 1))
                case measure => omega
                case rel => exact ⟨j + 1, by omega, by (try rw [he2]); rw [HJ.out, ← Bool.or_assoc, hf]; rfl, by go_num, by first | exact hbl3 | exact below_drewN hbl3 _ | exact below_drew hbl3⟩
              · go_wp2_with fail
                first | (go_quiet (fail)) | fail
                go_wp2
                go_roundg (im.length - (j + 1))
                case measure => omega
                case rel => exact ⟨j + 1, by omega, by rw [HJ.out, ← Bool.or_assoc, hf]; rfl, by go_num, by first | exact hbl3 | exact below_drewN hbl3 _ | exact below_drew hbl3⟩
            · have hji : ¬ (j : Int) < (im.length : Int) := by omega
              have hf : (decide (x = m) || hasJ x im j) = true := by
                by_cases hxm : x = m
                · rw [decide_eq_true hxm]; rfl
                · rw [show j = im.length from by omega, hasJ_all (HH.out hxm), Bool.or_true]
              rw [hf]
              go_wp2
              go_roundg (ss.length - (k2 + 1))
              case measure => omega
              case rel => exact ⟨k2 + 1, by omega, by go_num, by first | exact hbl3 | exact below_drewN hbl3 _ | exact below_drew hbl3⟩
        · have hki2 : ¬ (k2 : Int) < (ss.length : Int) := by omega
          clear i0 i1 hLr y1 y2 y3 y4 y7 HHas HS
          by_cases hr : rr.1 = 0
          · obtain ⟨rfl, rfl, hIt⟩ := hIf hr
            have hri : ((rr.1 : Nat) : Int) = 0 := by omega
            have hio := HLn.out
            have hmm := neq_is m m
            rw [decide_eq_false (fun h => h rfl)] at hmm
            obtain ⟨i0, i1, -, -⟩ := HCih.out wr2 hbl2
            rw [hri]
            rw [hio] at i1
            go_wp2_with fail
            go_loopg [12] es.length (fun g i wr => ∃ (k : Nat), g + k = es.length ∧ i = .int .i64 (k : Int) ∧ Below w3.heap.size w3 wr)
            case atStart => exact ⟨0, by omega, rfl, by first | exact hbl2 | exact below_drewN hbl2 _⟩
            case round =>
              obtain ⟨k4, hg4, rfl, hbl4⟩ := hrel
              rename World => wr4
              obtain ⟨j0, j1, hbr40, -⟩ := HCih.out wr4 hbl4
              obtain ⟨⟨x0, x1, x2, x3, x4, x5, x6, x7⟩, hbr4⟩ := HCh.out wr4 hbr40
              rw [hio] at j1
              by_cases hk4 : k4 < es.length
              · have hki4 : (k4 : Int) < (es.length : Int) := by omega
                obtain ⟨g5, of5, cap5, e5, hgF5, hcell5⟩ := (HE.out.1.below hbr4 hF).at k4 hk4
                simp only [Value.slice.injEq, true_and] at e5
                obtain ⟨rfl, rfl⟩ := e5
                obtain ⟨gi, oi, capi, cvi, e6, hgi, -, -, hn6, -⟩ := (hIt.below (H := w2.heap.size) (below_trans hb23 hbl4) (fun g hg => hg.2)).at k4 (by omega)
                simp only [Value.slice.injEq, true_and] at e6
                obtain ⟨rfl, rfl⟩ := e6
                have hnm := HNa.out hr k4 (by omega) hk4
                rw [hnm] at hn6
                have hqq := neq_is es[k4] es[k4]
                rw [decide_eq_false (fun h => h rfl)] at hqq
                generalize es[k4] = q at *
                go_wp2_with fail
                first | (go_quiet (fail)) | fail
                go_wp2
                go_roundg (es.length - (k4 + 1))
                case measure => omega
                case rel => exact ⟨k4 + 1, by omega, by go_num, by first | exact hbl4 | exact below_drewN hbl4 _ | exact below_drew hbl4⟩
              · have hki4 : ¬ (k4 : Int) < (es.length : Int) := by omega
                go_wp2_with (go_at_call 18; refine (known14 _).mono ?_; rintro e w7 ⟨rfl, hb7⟩)
                go_ret
                exact ⟨rfl, below_trans hbr4 hb7⟩
          · have hri : ((rr.1 : Nat) : Int) ≠ 0 := by omega
            go_wp2_with (go_at_call 18; refine (known14 _).mono ?_; rintro e w7 ⟨rfl, hb7⟩)
            go_ret
            exact ⟨rfl, below_trans hbr hb7⟩
end Go.Proofs.YtcjddbponknnoaaGreatDoor
