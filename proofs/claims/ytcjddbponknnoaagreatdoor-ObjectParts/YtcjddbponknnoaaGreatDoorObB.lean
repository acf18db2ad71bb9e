/-
  Right: the refusal and its number, given what is answered of each element.
  And: What Encode and Right answer of an object that has a name alone; the law's known.
-/
import Derived.Laws.EntriesVeiled
import Derived.Test.YtcjddbponknnoaaGreatDoorObA
import Derived.Test.YtcjddbponknnoaaGreatDoorIfaceWrite
import Derived.Test.YtcjddbponknnoaaGreatDoorIfaceKnown
import Derived.Test.YtcjddbponknnoaaGreatDoorWireStr
namespace Go.Proofs.YtcjddbponknnoaaGreatDoor
open Go.RowKit

/-- The method that looks at an element of list j. -/
def fnO (j : Nat) : Nat :=
  match j with
  | 0 => 29
  | 1 => 30
  | 2 => 31
  | 3 => 32
  | 4 => 33
  | 5 => 34
  | _ => 35
/-- What is answered of each element, in every later world. -/
def ElO (u : ObV) (o : Ob) (w : World) : Prop := ∀ (j k : Nat), j < 7 → k < lenO o j → ∀ v, Below w.heap.size w v → Calls Tryz.prog (fnO j) #[obv u o.mod, .int .i64 (k : Int)] v (NumB (elemO o j k) v)
def TwoB (p : Nat × Nat) (w : World) (e : Ending) (w' : World) : Prop := e = .returned (.tuple #[.int .i64 (p.1 : Int), .int .i64 (p.2 : Int)]) ∧ Below w.heap.size w w'
theorem scanO_at (f : Nat → Nat) (n k : Nat) (h : k < n) : scanO f k (n - k) = if f k = 0 then scanO f (k + 1) (n - (k + 1)) else (f k, k) := by
  obtain ⟨m, hm⟩ : ∃ m, n - k = m + 1 := ⟨n - k - 1, by omega⟩
  rw [hm, scanO, show n - (k + 1) = m from by omega]
theorem listsO_at (o : Ob) (j : Nat) (h : j < 7) : listsO o j (7 - j) = if (scanO (elemO o j) 0 (lenO o j)).1 = 0 then listsO o (j + 1) (7 - (j + 1)) else scanO (elemO o j) 0 (lenO o j) := by
  obtain ⟨m, hm⟩ : ∃ m, 7 - j = m + 1 := ⟨7 - j - 1, by omega⟩
  rw [hm, listsO, show 7 - (j + 1) = m from by omega]
set_option maxRecDepth 1000000 in
theorem enterO (j : Nat) (hj : j < 7) : ∀ args w, (callFunc (fnO j) args).run Tryz.prog w = .ok (.enter (fnO j) args) w := by
  rcases j with _ | _ | _ | _ | _ | _ | _ | j
  · exact enters_of Tryz.func29 (by kernel_rfl) rfl
  · exact enters_of Tryz.func30 (by kernel_rfl) rfl
  · exact enters_of Tryz.func31 (by kernel_rfl) rfl
  · exact enters_of Tryz.func32 (by kernel_rfl) rfl
  · exact enters_of Tryz.func33 (by kernel_rfl) rfl
  · exact enters_of Tryz.func34 (by kernel_rfl) rfl
  · exact enters_of Tryz.func35 (by kernel_rfl) rfl
  · omega
set_option maxHeartbeats 4000000 in
set_option maxRecDepth 1000000 in
theorem rightOb (F : Nat → Prop) (u : ObV) (o : Ob) (w : World) (h : ObR F w u o) (hF : ∀ g, F g → g < w.heap.size) (hm : Tk o.mod) (hE : valueR o.mod = true → manyO o = false → ElO u o w) : Calls Tryz.prog 8 #[obv u o.mod] w (TwoB (rightO o) w) := by
  have HV : Hid (rightO o = if valueR o.mod = false then (13, 0) else if manyO o = true then (4, 0) else listsO o 0 7) := rfl
  generalize rightO o = r at *
  have hL0 : o.types.length = lenO o 0 := rfl
  have hL1 : o.texts.length = lenO o 1 := rfl
  have hL2 : o.globals.length = lenO o 2 := rfl
  have hL3 : o.funs.length = lenO o 3 := rfl
  have hL4 : o.exports.length = lenO o 4 := rfl
  have hL5 : o.symbols.length = lenO o 5 := rfl
  have hL6 : o.relocs.length = lenO o 6 := rfl
  have hTM : ∀ v, Below w.heap.size w v → Calls Tryz.prog 28 #[obv u o.mod] v (BoolB (manyO o) v) := fun v hv => otooMany F u o v (h.below hv hF)
  obtain ⟨a1, c1, e1⟩ := h.types.shape
  obtain ⟨a2, c2, e2⟩ := h.texts.1.shape
  obtain ⟨a3, c3, e3⟩ := h.globals.shape
  obtain ⟨a4, c4, e4⟩ := h.funs.shape
  obtain ⟨a5, c5, e5⟩ := h.exports.1.shape
  obtain ⟨a6, c6, e6⟩ := h.symbols.shape
  obtain ⟨a7, c7, e7⟩ := h.relocs.shape
  have hE2 : valueR o.mod = true → manyO o = false → Hid (ElO u o w) := fun h1 h2 => hE h1 h2
  clear hE
  unfold ElO at hE2
  rw [hL0] at e1
  rw [hL1] at e2
  rw [hL2] at e3
  rw [hL3] at e4
  rw [hL4] at e5
  rw [hL5] at e6
  rw [hL6] at e7
  have HMn : Hid (manyO o = false → ∀ j, j < 7 → lenO o j ≤ 384) := by
    rw [hid_iff]
    intro hmn j hj
    simp only [manyO, Bool.or_eq_false_iff, decide_eq_false_iff_not] at hmn
    rcases j with _ | _ | _ | _ | _ | _ | _ | j <;> simp only [lenO] <;> omega
  obtain ⟨tv, xv, gv, fv, ev, sv, rv⟩ := u
  unfold obv at hTM hE2 ⊢
  simp only at e1 e2 e3 e4 e5 e6 e7 hTM hE2 ⊢
  subst e1 e2 e3 e4 e5 e6 e7
  clear h hL0 hL1 hL2 hL3 hL4 hL5 hL6
  have hV := fun v => value (str o.mod) v (by rw [str_size]; unfold Tk at hm; omega)
  rw [str_data] at hV
  generalize hLn : lenO o = ln at *
  generalize hm' : o.mod = m at *
  generalize hW : w.alloc (.cells #[.string (str m), .slice a1 (ln 0) c1, .slice a2 (ln 1) c2, .slice a3 (ln 2) c3, .slice a4 (ln 3) c4, .slice a5 (ln 4) c5, .slice a6 (ln 5) c6, .slice a7 (ln 6) c7] 29) = W0 at *
  have hb0 : Below w.heap.size w W0 := by rw [← hW]; exact (Below.refl _ _).alloc (Nat.le_refl _) _
  have hs0 : W0.heap.size = w.heap.size + 1 := by rw [← hW]; simp
  have hN0 := heap_alloc_new w (.cells #[.string (str m), .slice a1 (ln 0) c1, .slice a2 (ln 1) c2, .slice a3 (ln 2) c3, .slice a4 (ln 3) c4, .slice a5 (ln 4) c5, .slice a6 (ln 5) c6, .slice a7 (ln 6) c7] 29)
  rw [hW] at hN0
  have HC : ∀ u, Below W0.heap.size W0 u → u.cell? ⟨w.heap.size, 0, none⟩ = some (.string (str m)) ∧ u.cell? ⟨w.heap.size, 1, none⟩ = some (.slice a1 (ln 0) c1) ∧ u.cell? ⟨w.heap.size, 2, none⟩ = some (.slice a2 (ln 1) c2) ∧ u.cell? ⟨w.heap.size, 3, none⟩ = some (.slice a3 (ln 2) c3) ∧ u.cell? ⟨w.heap.size, 4, none⟩ = some (.slice a4 (ln 3) c4) ∧ u.cell? ⟨w.heap.size, 5, none⟩ = some (.slice a5 (ln 4) c5) ∧ u.cell? ⟨w.heap.size, 6, none⟩ = some (.slice a6 (ln 5) c6) ∧ u.cell? ⟨w.heap.size, 7, none⟩ = some (.slice a7 (ln 6) c7) := by
    intro u hu
    have n0 := (hu.block w.heap.size (by omega)).trans hN0
    exact ⟨by rw [cell_of_row u _ 0 _ _ _ n0]; rfl, by rw [cell_of_row u _ 1 _ _ _ n0]; rfl, by rw [cell_of_row u _ 2 _ _ _ n0]; rfl, by rw [cell_of_row u _ 3 _ _ _ n0]; rfl, by rw [cell_of_row u _ 4 _ _ _ n0]; rfl, by rw [cell_of_row u _ 5 _ _ _ n0]; rfl, by rw [cell_of_row u _ 6 _ _ _ n0]; rfl, by rw [cell_of_row u _ 7 _ _ _ n0]; rfl⟩
  cases hv : valueR m
  · rw [hv] at hV HV
    have HW : Hid (r = (13, 0)) := by rw [hid_iff, HV.out]; rfl
    obtain ⟨z0, -, -, -, -, -, -, -⟩ := HC W0 (Below.refl _ _)
    clear HC hE2 HMn hTM HV
    go_enter Tryz.func8, Tryz.ntmps8
    go_wp2_with fail
    refine (hV _).mono ?_
    rintro e w2 ⟨rfl, hw2⟩
    obtain rfl := hw2.symm
    go_wp2
    go_ret2
    exact ⟨(by rw [HW.out]; first | done | rfl), hb0⟩
  · rw [hv] at hV HV
    have HCh := hidden HC
    have hT0 := hTM W0 hb0
    obtain ⟨z0, z1, z2, z3, z4, z5, z6, z7⟩ := HC W0 (Below.refl _ _)
    clear HC hTM
    cases hmn : manyO o
    · rw [hmn] at hT0 HV
      have HE := hE2 hv hmn
      have HM := HMn.out hmn
      have HV' := HV.out
      simp only [Bool.true_eq_false, Bool.false_eq_true, if_false] at HV'
      have HV := hidden HV'
      clear HV' hE2 HMn hmn
      go_enter Tryz.func8, Tryz.ntmps8
      go_wp2_with (go_at_call 27; refine (hV _).mono ?_; rintro e w2 ⟨rfl, hw2⟩; obtain rfl := hw2.symm)
      refine hT0.mono ?_
      rintro e w3 ⟨rfl, hb3⟩
      obtain ⟨y0, y1, y2, y3, y4, y5, y6, y7⟩ := HCh.out w3 hb3
      clear hT0 z0 z1 z2 z3 z4 z5 z6 z7
      have hbw3 := below_trans hb0 hb3
      have hs3 := hb3.size
      generalize hW4 : w3.alloc (.cells #[.string (str m), .slice a1 (ln 0) c1, .slice a2 (ln 1) c2, .slice a3 (ln 2) c3, .slice a4 (ln 3) c4, .slice a5 (ln 4) c5, .slice a6 (ln 5) c6, .slice a7 (ln 6) c7] 87) = W4 at *
      have hb4 : Below w3.heap.size w3 W4 := by rw [← hW4]; exact (Below.refl _ _).alloc (Nat.le_refl _) _
      have hs4 : W4.heap.size = w3.heap.size + 1 := by rw [← hW4]; simp
      have hN4 := heap_alloc_new w3 (.cells #[.string (str m), .slice a1 (ln 0) c1, .slice a2 (ln 1) c2, .slice a3 (ln 2) c3, .slice a4 (ln 3) c4, .slice a5 (ln 4) c5, .slice a6 (ln 5) c6, .slice a7 (ln 6) c7] 87)
      rw [hW4] at hN4
      obtain ⟨t0, t1, t2, t3, t4, t5, t6, t7⟩ := HCh.out W4 (below_trans hb3 hb4)
      obtain ⟨l0, l1, l2, l3, l4, l5, l6, l7⟩ : W4.cell? ⟨w3.heap.size, 0, none⟩ = some (.string (str m)) ∧ W4.cell? ⟨w3.heap.size, 1, none⟩ = some (.slice a1 (ln 0) c1) ∧ W4.cell? ⟨w3.heap.size, 2, none⟩ = some (.slice a2 (ln 1) c2) ∧ W4.cell? ⟨w3.heap.size, 3, none⟩ = some (.slice a3 (ln 2) c3) ∧ W4.cell? ⟨w3.heap.size, 4, none⟩ = some (.slice a4 (ln 3) c4) ∧ W4.cell? ⟨w3.heap.size, 5, none⟩ = some (.slice a5 (ln 4) c5) ∧ W4.cell? ⟨w3.heap.size, 6, none⟩ = some (.slice a6 (ln 5) c6) ∧ W4.cell? ⟨w3.heap.size, 7, none⟩ = some (.slice a7 (ln 6) c7) := ⟨by rw [cell_of_row W4 _ 0 _ _ _ hN4]; rfl, by rw [cell_of_row W4 _ 1 _ _ _ hN4]; rfl, by rw [cell_of_row W4 _ 2 _ _ _ hN4]; rfl, by rw [cell_of_row W4 _ 3 _ _ _ hN4]; rfl, by rw [cell_of_row W4 _ 4 _ _ _ hN4]; rfl, by rw [cell_of_row W4 _ 5 _ _ _ hN4]; rfl, by rw [cell_of_row W4 _ 6 _ _ _ hN4]; rfl, by rw [cell_of_row W4 _ 7 _ _ _ hN4]; rfl⟩
      generalize hW5 : W4.alloc (.cells #[.int .i64 (ln 0 : Int), .func (.func 29) #[.agg #[.string (str m), .slice a1 (ln 0) c1, .slice a2 (ln 1) c2, .slice a3 (ln 2) c3, .slice a4 (ln 3) c4, .slice a5 (ln 4) c5, .slice a6 (ln 5) c6, .slice a7 (ln 6) c7]] #[], .int .i64 (ln 1 : Int), .func (.func 30) #[.agg #[.string (str m), .slice a1 (ln 0) c1, .slice a2 (ln 1) c2, .slice a3 (ln 2) c3, .slice a4 (ln 3) c4, .slice a5 (ln 4) c5, .slice a6 (ln 5) c6, .slice a7 (ln 6) c7]] #[], .int .i64 (ln 2 : Int), .func (.func 31) #[.agg #[.string (str m), .slice a1 (ln 0) c1, .slice a2 (ln 1) c2, .slice a3 (ln 2) c3, .slice a4 (ln 3) c4, .slice a5 (ln 4) c5, .slice a6 (ln 5) c6, .slice a7 (ln 6) c7]] #[], .int .i64 (ln 3 : Int), .func (.func 32) #[.agg #[.string (str m), .slice a1 (ln 0) c1, .slice a2 (ln 1) c2, .slice a3 (ln 2) c3, .slice a4 (ln 3) c4, .slice a5 (ln 4) c5, .slice a6 (ln 5) c6, .slice a7 (ln 6) c7]] #[], .int .i64 (ln 4 : Int), .func (.func 33) #[.agg #[.string (str m), .slice a1 (ln 0) c1, .slice a2 (ln 1) c2, .slice a3 (ln 2) c3, .slice a4 (ln 3) c4, .slice a5 (ln 4) c5, .slice a6 (ln 5) c6, .slice a7 (ln 6) c7]] #[], .int .i64 (ln 5 : Int), .func (.func 34) #[.agg #[.string (str m), .slice a1 (ln 0) c1, .slice a2 (ln 1) c2, .slice a3 (ln 2) c3, .slice a4 (ln 3) c4, .slice a5 (ln 4) c5, .slice a6 (ln 5) c6, .slice a7 (ln 6) c7]] #[], .int .i64 (ln 6 : Int), .func (.func 35) #[.agg #[.string (str m), .slice a1 (ln 0) c1, .slice a2 (ln 1) c2, .slice a3 (ln 2) c3, .slice a4 (ln 3) c4, .slice a5 (ln 4) c5, .slice a6 (ln 5) c6, .slice a7 (ln 6) c7]] #[]] 89) = W5 at *
      have hb5 : Below W4.heap.size W4 W5 := by rw [← hW5]; exact (Below.refl _ _).alloc (Nat.le_refl _) _
      have hs5 : W5.heap.size = w3.heap.size + 2 := by rw [← hW5]; simp; omega
      have hN5 := heap_alloc_new W4 (.cells #[.int .i64 (ln 0 : Int), .func (.func 29) #[.agg #[.string (str m), .slice a1 (ln 0) c1, .slice a2 (ln 1) c2, .slice a3 (ln 2) c3, .slice a4 (ln 3) c4, .slice a5 (ln 4) c5, .slice a6 (ln 5) c6, .slice a7 (ln 6) c7]] #[], .int .i64 (ln 1 : Int), .func (.func 30) #[.agg #[.string (str m), .slice a1 (ln 0) c1, .slice a2 (ln 1) c2, .slice a3 (ln 2) c3, .slice a4 (ln 3) c4, .slice a5 (ln 4) c5, .slice a6 (ln 5) c6, .slice a7 (ln 6) c7]] #[], .int .i64 (ln 2 : Int), .func (.func 31) #[.agg #[.string (str m), .slice a1 (ln 0) c1, .slice a2 (ln 1) c2, .slice a3 (ln 2) c3, .slice a4 (ln 3) c4, .slice a5 (ln 4) c5, .slice a6 (ln 5) c6, .slice a7 (ln 6) c7]] #[], .int .i64 (ln 3 : Int), .func (.func 32) #[.agg #[.string (str m), .slice a1 (ln 0) c1, .slice a2 (ln 1) c2, .slice a3 (ln 2) c3, .slice a4 (ln 3) c4, .slice a5 (ln 4) c5, .slice a6 (ln 5) c6, .slice a7 (ln 6) c7]] #[], .int .i64 (ln 4 : Int), .func (.func 33) #[.agg #[.string (str m), .slice a1 (ln 0) c1, .slice a2 (ln 1) c2, .slice a3 (ln 2) c3, .slice a4 (ln 3) c4, .slice a5 (ln 4) c5, .slice a6 (ln 5) c6, .slice a7 (ln 6) c7]] #[], .int .i64 (ln 5 : Int), .func (.func 34) #[.agg #[.string (str m), .slice a1 (ln 0) c1, .slice a2 (ln 1) c2, .slice a3 (ln 2) c3, .slice a4 (ln 3) c4, .slice a5 (ln 4) c5, .slice a6 (ln 5) c6, .slice a7 (ln 6) c7]] #[], .int .i64 (ln 6 : Int), .func (.func 35) #[.agg #[.string (str m), .slice a1 (ln 0) c1, .slice a2 (ln 1) c2, .slice a3 (ln 2) c3, .slice a4 (ln 3) c4, .slice a5 (ln 4) c5, .slice a6 (ln 5) c6, .slice a7 (ln 6) c7]] #[]] 89)
      rw [hW5, hs4] at hN5
      have hbw5 : Below w.heap.size w W5 := below_trans hbw3 (below_trans hb4 hb5)
      have HF : Hid (∀ u, Below W5.heap.size W5 u → ∀ j, j < 7 → u.cell? ⟨w3.heap.size + 1, j * 2, none⟩ = some (.int .i64 (ln j : Int)) ∧ u.cell? ⟨w3.heap.size + 1, j * 2 + 1, none⟩ = some (.func (.func (fnO j)) #[.agg #[.string (str m), .slice a1 (ln 0) c1, .slice a2 (ln 1) c2, .slice a3 (ln 2) c3, .slice a4 (ln 3) c4, .slice a5 (ln 4) c5, .slice a6 (ln 5) c6, .slice a7 (ln 6) c7]] #[])) := by
        rw [hid_iff]
        intro u hu j hj
        have n5 := (hu.block (w3.heap.size + 1) (by omega)).trans hN5
        rcases j with _ | _ | _ | _ | _ | _ | _ | j
        all_goals first
          | omega
          | exact ⟨by rw [cell_of_row u _ _ _ _ _ n5]; rfl, by rw [cell_of_row u _ _ _ _ _ n5]; rfl⟩
      go_wp2_with fail
      clear y0 y1 y2 y3 y4 y5 y6 y7 t0 t1 t2 t3 t4 t5 t6 t7 l0 l1 l2 l3 l4 l5 l6 l7 hN0 hN4 hN5 hW hW4 hW5 HCh
      go_loopg [61] 7 (fun g i wr => ∃ (j : Nat), g + j = 7 ∧ i = .int .i64 (j : Int) ∧ Hid (r = listsO o j (7 - j)) ∧ Below W5.heap.size W5 wr)
      case atStart => exact ⟨0, by omega, rfl, HV, Below.refl _ _⟩
      case round =>
        obtain ⟨j, hg, rfl, hq, hbl⟩ := hrel
        rename World => wo
        have hso := hbl.size
        by_cases hj : j < 7
        · have hji : (j : Int) < 7 := by omega
          obtain ⟨f0, f1⟩ := HF.out wo hbl j hj
          generalize hW6 : wo.alloc (.cells #[.int .i64 (ln j : Int), .func (.func (fnO j)) #[.agg #[.string (str m), .slice a1 (ln 0) c1, .slice a2 (ln 1) c2, .slice a3 (ln 2) c3, .slice a4 (ln 3) c4, .slice a5 (ln 4) c5, .slice a6 (ln 5) c6, .slice a7 (ln 6) c7]] #[]] 89) = W6 at *
          have hb6 : Below wo.heap.size wo W6 := by rw [← hW6]; exact (Below.refl _ _).alloc (Nat.le_refl _) _
          have hs6 : W6.heap.size = wo.heap.size + 1 := by rw [← hW6]; simp
          have hN6 := heap_alloc_new wo (.cells #[.int .i64 (ln j : Int), .func (.func (fnO j)) #[.agg #[.string (str m), .slice a1 (ln 0) c1, .slice a2 (ln 1) c2, .slice a3 (ln 2) c3, .slice a4 (ln 3) c4, .slice a5 (ln 4) c5, .slice a6 (ln 5) c6, .slice a7 (ln 6) c7]] #[]] 89)
          rw [hW6] at hN6
          have hb56 : Below W5.heap.size W5 W6 := below_trans hbl hb6
          have HG : Hid (∀ u, Below W6.heap.size W6 u → u.cell? ⟨wo.heap.size, 0, none⟩ = some (.int .i64 (ln j : Int)) ∧ u.cell? ⟨wo.heap.size, 1, none⟩ = some (.func (.func (fnO j)) #[.agg #[.string (str m), .slice a1 (ln 0) c1, .slice a2 (ln 1) c2, .slice a3 (ln 2) c3, .slice a4 (ln 3) c4, .slice a5 (ln 4) c5, .slice a6 (ln 5) c6, .slice a7 (ln 6) c7]] #[])) := by
            rw [hid_iff]
            intro u hu
            have n6 := (hu.block wo.heap.size (by omega)).trans hN6
            exact ⟨by rw [cell_of_row u _ 0 _ _ _ n6]; rfl, by rw [cell_of_row u _ 1 _ _ _ n6]; rfl⟩
          obtain ⟨s0, s1⟩ := HG.out W6 (Below.refl _ _)
          have HLJ := hidden (listsO_at o j hj)
          have hlj : ln j ≤ 384 := HM j hj
          go_wp2_with fail
          go_loopg [67] (ln j) (fun g i wr => ∃ (k : Nat), g + k = ln j ∧ i = .int .i64 (k : Int) ∧ Hid (scanO (elemO o j) 0 (ln j) = scanO (elemO o j) k (ln j - k)) ∧ Below W6.heap.size W6 wr)
          case atStart => exact ⟨0, by omega, rfl, rfl, Below.refl _ _⟩
          case round =>
            obtain ⟨k, hgk, rfl, hqk, hbk⟩ := hrel
            rename World => wi
            obtain ⟨u0, u1⟩ := HG.out wi hbk
            have hbwi : Below w.heap.size w wi := below_trans hbw5 (below_trans hb56 hbk)
            by_cases hk : k < ln j
            · have hki : (k : Int) < (ln j : Int) := by omega
              have hCal := HE.out j k hj hk wi hbwi
              have HSA := hidden (scanO_at (elemO o j) (ln j) k hk)
              have eg := enterO j hj
              generalize elemO o j k = el at *
              generalize fnO j = fj at *
              go_wp2_with fail
              refine hCal.mono ?_
              rintro e wx ⟨rfl, hbx⟩
              have hb7 : Below W6.heap.size W6 wx := below_trans hbk hbx
              by_cases h0 : el = 0
              · subst h0
                have HQ : Hid (scanO (elemO o j) 0 (ln j) = scanO (elemO o j) (k + 1) (ln j - (k + 1))) := by rw [hid_iff, hqk.out, HSA.out, if_pos rfl]
                clear hCal hqk HSA
                go_wp2
                go_roundg (ln j - (k + 1))
                case measure => omega
                case rel => exact ⟨k + 1, by omega, by go_num, HQ, hb7⟩
              · have h0i : ¬ (el : Int) = 0 := by omega
                have HW : Hid (r = (el, k)) := by
                  have e1 : scanO (elemO o j) 0 (ln j) = (el, k) := by rw [hqk.out, HSA.out, if_neg h0]
                  rw [hid_iff, hq.out, HLJ.out, hLn, e1, if_neg h0]
                clear hCal hqk HSA
                have hbe : Below w.heap.size w wx := below_trans hbw5 (below_trans hb56 hb7)
                go_wp2
                go_ret2
                exact ⟨(by rw [HW.out]; first | done | rfl), hbe⟩
            · have hki : ¬ (k : Int) < (ln j : Int) := by omega
              have HQ : Hid (r = listsO o (j + 1) (7 - (j + 1))) := by
                have e1 : scanO (elemO o j) 0 (ln j) = (0, 0) := by rw [hqk.out, show ln j - k = 0 from by omega]; rfl
                rw [hid_iff, hq.out, HLJ.out, hLn, e1, if_pos rfl]
              clear hqk
              have hb7 : Below W5.heap.size W5 wi := below_trans hb56 hbk
              go_wp2
              go_roundg (7 - (j + 1))
              case measure => omega
              case rel => exact ⟨j + 1, by omega, by go_num, HQ, hb7⟩
        · have hji : ¬ (j : Int) < 7 := by omega
          have HW : Hid (r = (0, 0)) := by
            rw [hid_iff, hq.out, show 7 - j = 0 from by omega]
            rfl
          have hbe : Below w.heap.size w wo := below_trans hbw5 hbl
          clear hq
          go_wp2
          go_ret2
          exact ⟨(by rw [HW.out]; first | done | rfl), hbe⟩
    · rw [hmn] at hT0 HV
      have HW : Hid (r = (4, 0)) := by rw [hid_iff, HV.out]; rfl
      clear hE2 HMn HV
      go_enter Tryz.func8, Tryz.ntmps8
      go_wp2_with (go_at_call 27; refine (hV _).mono ?_; rintro e w2 ⟨rfl, hw2⟩; obtain rfl := hw2.symm)
      refine hT0.mono ?_
      rintro e w3 ⟨rfl, hb3⟩
      go_wp2
      go_ret2
      exact ⟨(by rw [HW.out]; first | done | rfl), below_trans hb0 hb3⟩
end Go.Proofs.YtcjddbponknnoaaGreatDoor

namespace Go.Proofs.YtcjddbponknnoaaGreatDoor
open Go.RowKit

def wrv (b : Nat) : Value := .agg #[.pointer (some ⟨b, 0, none⟩)]
theorem box1 {w : World} {d : Nat} {x0 : Value} {T : Nat} (h : w.heap[d]? = some (.cells #[x0] T (0, 0))) : w.cell? ⟨d, 0, none⟩ = some x0 := by rw [cell_of_row w d 0 _ _ _ h]; rfl
set_option maxHeartbeats 1000000 in
set_option maxRecDepth 1000000 in
theorem onum (D : Nat → Prop) (n : Nat) (b : Nat) (l : List Nat) (w : World) (hD : ∀ k, D k → k < w.heap.size) (hn : n < 9223372036854775808) (hl : l.length + 10 ≤ 140737488355328) (hw : WB D w b l) :
    Calls Tryz.prog 146 #[wrv b, .int .i64 (n : Int)] w (WP D w b (l ++ Wire.enc n)) := by
  unfold wrv
  have hwA := hw.new (.cells #[.pointer (some ⟨b, 0, none⟩)] 97)
  have hDA := Dx.lt hD (.cells #[.pointer (some ⟨b, 0, none⟩)] 97)
  have hn1 := wNum7 (Dx D w.heap.size) n b l _ hDA (by omega) hl hwA
  have HK : Hid (∀ w', WB (Dx D w.heap.size) w' b (l ++ Wire.enc n) → Kept (fun k => ¬ Dx D w.heap.size k) (w.alloc (.cells #[.pointer (some ⟨b, 0, none⟩)] 97)) w' → WP D w b (l ++ Wire.enc n) (.returned (.tuple #[])) w') := by
    rw [hid_iff]
    rintro w' h1 h2
    exact ⟨rfl, h1.less (fun k hk => .inl hk), Dx.kept h2 hD⟩
  have hku : IntKind.u64.wrap (n : Int) = (n : Int) := u64_small n (by omega)
  clear hwA hDA hw
  go_enter Tryz.func146, Tryz.ntmps146
  go_wp2_with fail
  refine hn1.mono ?_
  rintro e w1 ⟨rfl, h1, k1⟩
  have hQ := HK.out _ h1 k1
  clear hn1 h1 k1 HK
  go_wp2
  go_end0
  exact hQ
set_option maxHeartbeats 1000000 in
set_option maxRecDepth 1000000 in
theorem olistI (D : Nat → Prop) (fv : Value) (b : Nat) (l : List Nat) (w : World) (hD : ∀ k, D k → k < w.heap.size) (hl : l.length + 10 ≤ 140737488355328) (hw : WB D w b l) :
    Calls Tryz.prog 94 #[wrv b, .slice none 0 0, fv] w (WP D w b (l ++ Wire.enc 0)) := by
  have hwA := hw.new (.cells #[.pointer (some ⟨b, 0, none⟩)] 97)
  have hDA := Dx.lt hD (.cells #[.pointer (some ⟨b, 0, none⟩)] 97)
  have hn1 := onum (Dx D w.heap.size) 0 b l _ hDA (by omega) hl hwA
  unfold wrv at *
  have HK : Hid (∀ w', WB (Dx D w.heap.size) w' b (l ++ Wire.enc 0) → Kept (fun k => ¬ Dx D w.heap.size k) (w.alloc (.cells #[.pointer (some ⟨b, 0, none⟩)] 97)) w' → WP D w b (l ++ Wire.enc 0) (.returned (.tuple #[])) w') := by
    rw [hid_iff]
    rintro w' h1 h2
    exact ⟨rfl, h1.less (fun k hk => .inl hk), Dx.kept h2 hD⟩
  clear hwA hDA hw
  go_enter Tryz.func94, Tryz.ntmps94
  go_wp2_with fail
  refine hn1.mono ?_
  rintro e w1 ⟨rfl, h1, k1⟩
  have hQ := HK.out _ h1 k1
  clear hn1 h1 k1 HK
  go_wp2
  go_loopg [14] 0 (fun g i wr => g = 0 ∧ i = .int .i64 0 ∧ wr = w1)
  case atStart => exact ⟨rfl, rfl, rfl⟩
  case round =>
    obtain ⟨rfl, rfl, rfl⟩ := hrel
    go_wp2
    go_end0
    exact hQ
set_option maxHeartbeats 1000000 in
set_option maxRecDepth 1000000 in
theorem olistT (D : Nat → Prop) (fv : Value) (b : Nat) (l : List Nat) (w : World) (hD : ∀ k, D k → k < w.heap.size) (hl : l.length + 10 ≤ 140737488355328) (hw : WB D w b l) :
    Calls Tryz.prog 96 #[wrv b, .slice none 0 0, fv] w (WP D w b (l ++ Wire.enc 0)) := by
  have hwA := hw.new (.cells #[.pointer (some ⟨b, 0, none⟩)] 97)
  have hDA := Dx.lt hD (.cells #[.pointer (some ⟨b, 0, none⟩)] 97)
  have hn1 := onum (Dx D w.heap.size) 0 b l _ hDA (by omega) hl hwA
  unfold wrv at *
  have HK : Hid (∀ w', WB (Dx D w.heap.size) w' b (l ++ Wire.enc 0) → Kept (fun k => ¬ Dx D w.heap.size k) (w.alloc (.cells #[.pointer (some ⟨b, 0, none⟩)] 97)) w' → WP D w b (l ++ Wire.enc 0) (.returned (.tuple #[])) w') := by
    rw [hid_iff]
    rintro w' h1 h2
    exact ⟨rfl, h1.less (fun k hk => .inl hk), Dx.kept h2 hD⟩
  clear hwA hDA hw
  go_enter Tryz.func96, Tryz.ntmps96
  go_wp2_with fail
  refine hn1.mono ?_
  rintro e w1 ⟨rfl, h1, k1⟩
  have hQ := HK.out _ h1 k1
  clear hn1 h1 k1 HK
  go_wp2
  go_loopg [14] 0 (fun g i wr => g = 0 ∧ i = .int .i64 0 ∧ wr = w1)
  case atStart => exact ⟨rfl, rfl, rfl⟩
  case round =>
    obtain ⟨rfl, rfl, rfl⟩ := hrel
    go_wp2
    go_end0
    exact hQ
set_option maxHeartbeats 1000000 in
set_option maxRecDepth 1000000 in
theorem olistG (D : Nat → Prop) (fv : Value) (b : Nat) (l : List Nat) (w : World) (hD : ∀ k, D k → k < w.heap.size) (hl : l.length + 10 ≤ 140737488355328) (hw : WB D w b l) :
    Calls Tryz.prog 97 #[wrv b, .slice none 0 0, fv] w (WP D w b (l ++ Wire.enc 0)) := by
  have hwA := hw.new (.cells #[.pointer (some ⟨b, 0, none⟩)] 97)
  have hDA := Dx.lt hD (.cells #[.pointer (some ⟨b, 0, none⟩)] 97)
  have hn1 := onum (Dx D w.heap.size) 0 b l _ hDA (by omega) hl hwA
  unfold wrv at *
  have HK : Hid (∀ w', WB (Dx D w.heap.size) w' b (l ++ Wire.enc 0) → Kept (fun k => ¬ Dx D w.heap.size k) (w.alloc (.cells #[.pointer (some ⟨b, 0, none⟩)] 97)) w' → WP D w b (l ++ Wire.enc 0) (.returned (.tuple #[])) w') := by
    rw [hid_iff]
    rintro w' h1 h2
    exact ⟨rfl, h1.less (fun k hk => .inl hk), Dx.kept h2 hD⟩
  clear hwA hDA hw
  go_enter Tryz.func97, Tryz.ntmps97
  go_wp2_with fail
  refine hn1.mono ?_
  rintro e w1 ⟨rfl, h1, k1⟩
  have hQ := HK.out _ h1 k1
  clear hn1 h1 k1 HK
  go_wp2
  go_loopg [14] 0 (fun g i wr => g = 0 ∧ i = .int .i64 0 ∧ wr = w1)
  case atStart => exact ⟨rfl, rfl, rfl⟩
  case round =>
    obtain ⟨rfl, rfl, rfl⟩ := hrel
    go_wp2
    go_end0
    exact hQ
set_option maxHeartbeats 1000000 in
set_option maxRecDepth 1000000 in
theorem olistF (D : Nat → Prop) (fv : Value) (b : Nat) (l : List Nat) (w : World) (hD : ∀ k, D k → k < w.heap.size) (hl : l.length + 10 ≤ 140737488355328) (hw : WB D w b l) :
    Calls Tryz.prog 99 #[wrv b, .slice none 0 0, fv] w (WP D w b (l ++ Wire.enc 0)) := by
  have hwA := hw.new (.cells #[.pointer (some ⟨b, 0, none⟩)] 97)
  have hDA := Dx.lt hD (.cells #[.pointer (some ⟨b, 0, none⟩)] 97)
  have hn1 := onum (Dx D w.heap.size) 0 b l _ hDA (by omega) hl hwA
  unfold wrv at *
  have HK : Hid (∀ w', WB (Dx D w.heap.size) w' b (l ++ Wire.enc 0) → Kept (fun k => ¬ Dx D w.heap.size k) (w.alloc (.cells #[.pointer (some ⟨b, 0, none⟩)] 97)) w' → WP D w b (l ++ Wire.enc 0) (.returned (.tuple #[])) w') := by
    rw [hid_iff]
    rintro w' h1 h2
    exact ⟨rfl, h1.less (fun k hk => .inl hk), Dx.kept h2 hD⟩
  clear hwA hDA hw
  go_enter Tryz.func99, Tryz.ntmps99
  go_wp2_with fail
  refine hn1.mono ?_
  rintro e w1 ⟨rfl, h1, k1⟩
  have hQ := HK.out _ h1 k1
  clear hn1 h1 k1 HK
  go_wp2
  go_loopg [14] 0 (fun g i wr => g = 0 ∧ i = .int .i64 0 ∧ wr = w1)
  case atStart => exact ⟨rfl, rfl, rfl⟩
  case round =>
    obtain ⟨rfl, rfl, rfl⟩ := hrel
    go_wp2
    go_end0
    exact hQ
set_option maxHeartbeats 1000000 in
set_option maxRecDepth 1000000 in
theorem olistS (D : Nat → Prop) (fv : Value) (b : Nat) (l : List Nat) (w : World) (hD : ∀ k, D k → k < w.heap.size) (hl : l.length + 10 ≤ 140737488355328) (hw : WB D w b l) :
    Calls Tryz.prog 101 #[wrv b, .slice none 0 0, fv] w (WP D w b (l ++ Wire.enc 0)) := by
  have hwA := hw.new (.cells #[.pointer (some ⟨b, 0, none⟩)] 97)
  have hDA := Dx.lt hD (.cells #[.pointer (some ⟨b, 0, none⟩)] 97)
  have hn1 := onum (Dx D w.heap.size) 0 b l _ hDA (by omega) hl hwA
  unfold wrv at *
  have HK : Hid (∀ w', WB (Dx D w.heap.size) w' b (l ++ Wire.enc 0) → Kept (fun k => ¬ Dx D w.heap.size k) (w.alloc (.cells #[.pointer (some ⟨b, 0, none⟩)] 97)) w' → WP D w b (l ++ Wire.enc 0) (.returned (.tuple #[])) w') := by
    rw [hid_iff]
    rintro w' h1 h2
    exact ⟨rfl, h1.less (fun k hk => .inl hk), Dx.kept h2 hD⟩
  clear hwA hDA hw
  go_enter Tryz.func101, Tryz.ntmps101
  go_wp2_with fail
  refine hn1.mono ?_
  rintro e w1 ⟨rfl, h1, k1⟩
  have hQ := HK.out _ h1 k1
  clear hn1 h1 k1 HK
  go_wp2
  go_loopg [14] 0 (fun g i wr => g = 0 ∧ i = .int .i64 0 ∧ wr = w1)
  case atStart => exact ⟨rfl, rfl, rfl⟩
  case round =>
    obtain ⟨rfl, rfl, rfl⟩ := hrel
    go_wp2
    go_end0
    exact hQ
set_option maxHeartbeats 1000000 in
set_option maxRecDepth 1000000 in
theorem olistR (D : Nat → Prop) (fv : Value) (b : Nat) (l : List Nat) (w : World) (hD : ∀ k, D k → k < w.heap.size) (hl : l.length + 10 ≤ 140737488355328) (hw : WB D w b l) :
    Calls Tryz.prog 103 #[wrv b, .slice none 0 0, fv] w (WP D w b (l ++ Wire.enc 0)) := by
  have hwA := hw.new (.cells #[.pointer (some ⟨b, 0, none⟩)] 97)
  have hDA := Dx.lt hD (.cells #[.pointer (some ⟨b, 0, none⟩)] 97)
  have hn1 := onum (Dx D w.heap.size) 0 b l _ hDA (by omega) hl hwA
  unfold wrv at *
  have HK : Hid (∀ w', WB (Dx D w.heap.size) w' b (l ++ Wire.enc 0) → Kept (fun k => ¬ Dx D w.heap.size k) (w.alloc (.cells #[.pointer (some ⟨b, 0, none⟩)] 97)) w' → WP D w b (l ++ Wire.enc 0) (.returned (.tuple #[])) w') := by
    rw [hid_iff]
    rintro w' h1 h2
    exact ⟨rfl, h1.less (fun k hk => .inl hk), Dx.kept h2 hD⟩
  clear hwA hDA hw
  go_enter Tryz.func103, Tryz.ntmps103
  go_wp2_with fail
  refine hn1.mono ?_
  rintro e w1 ⟨rfl, h1, k1⟩
  have hQ := HK.out _ h1 k1
  clear hn1 h1 k1 HK
  go_wp2
  go_loopg [14] 0 (fun g i wr => g = 0 ∧ i = .int .i64 0 ∧ wr = w1)
  case atStart => exact ⟨rfl, rfl, rfl⟩
  case round =>
    obtain ⟨rfl, rfl, rfl⟩ := hrel
    go_wp2
    go_end0
    exact hQ
set_option maxHeartbeats 4000000 in
set_option maxRecDepth 1000000 in
theorem oobj0 (D : Nat → Prop) (m : List UInt8) (b : Nat) (w : World) (hD : ∀ k, D k → k < w.heap.size) (hm : m.length ≤ 1000) (hw : WB D w b []) :
    Calls Tryz.prog 42 #[wrv b, .agg #[.string (str m), .slice none 0 0, .slice none 0 0, .slice none 0 0, .slice none 0 0, .slice none 0 0, .slice none 0 0, .slice none 0 0]] w (WP D w b (txtB m ++ [0, 0, 0, 0, 0, 0, 0])) := by
  have hwA := hw.new (.cells #[.pointer (some ⟨b, 0, none⟩)] 97)
  have hDA := Dx.lt hD (.cells #[.pointer (some ⟨b, 0, none⟩)] 97)
  have hNA := heap_alloc_new w (.cells #[.pointer (some ⟨b, 0, none⟩)] 97)
  have hKA : ∀ w', Kept (fun k => ¬ Dx D w.heap.size k) (w.alloc (.cells #[.pointer (some ⟨b, 0, none⟩)] 97)) w' → Kept (fun k => ¬ D k) w w' := fun w' h => Dx.kept h hD
  generalize hWA : w.alloc (.cells #[.pointer (some ⟨b, 0, none⟩)] 97) = wA at *
  have hsA : wA.heap.size = w.heap.size + 1 := by rw [← hWA]; simp
  have hwB := hwA.new (.cells #[.string (str m), .slice none 0 0, .slice none 0 0, .slice none 0 0, .slice none 0 0, .slice none 0 0, .slice none 0 0, .slice none 0 0] 29)
  have hDB := Dx.lt hDA (.cells #[.string (str m), .slice none 0 0, .slice none 0 0, .slice none 0 0, .slice none 0 0, .slice none 0 0, .slice none 0 0, .slice none 0 0] 29)
  have hNB := heap_alloc_new wA (.cells #[.string (str m), .slice none 0 0, .slice none 0 0, .slice none 0 0, .slice none 0 0, .slice none 0 0, .slice none 0 0, .slice none 0 0] 29)
  have hKB : ∀ w', Kept (fun k => ¬ Dx (Dx D w.heap.size) wA.heap.size k) (wA.alloc (.cells #[.string (str m), .slice none 0 0, .slice none 0 0, .slice none 0 0, .slice none 0 0, .slice none 0 0, .slice none 0 0, .slice none 0 0] 29)) w' → Kept (fun k => ¬ D k) w w' := fun w' h => hKA w' (Dx.kept h hDA)
  have hNA' : (wA.alloc (.cells #[.string (str m), .slice none 0 0, .slice none 0 0, .slice none 0 0, .slice none 0 0, .slice none 0 0, .slice none 0 0, .slice none 0 0] 29)).heap[w.heap.size]? = some (.cells #[.pointer (some ⟨b, 0, none⟩)] 97 (0, 0)) := (Below.heap_alloc _ _ _ (by omega)).trans hNA
  have hle : ∀ k, Dx (Dx D w.heap.size) wA.heap.size k → Dx (Dx D w.heap.size) wA.heap.size k := fun _ h => h
  generalize hWB : wA.alloc (.cells #[.string (str m), .slice none 0 0, .slice none 0 0, .slice none 0 0, .slice none 0 0, .slice none 0 0, .slice none 0 0, .slice none 0 0] 29) = wB at *
  have hsB : wB.heap.size = w.heap.size + 2 := by rw [← hWB]; simp; omega
  rw [hsA] at hNB
  have e1 : Dx (Dx D w.heap.size) wA.heap.size w.heap.size := .inl (.inr rfl)
  have e2 : Dx (Dx D w.heap.size) wA.heap.size (w.heap.size + 1) := .inr hsA.symm
  have hless : ∀ w' l, WB (Dx (Dx D w.heap.size) wA.heap.size) w' b l → WB D w' b l := fun w' l h => h.less (fun k hk => .inl (.inl hk))
  generalize Dx (Dx D w.heap.size) wA.heap.size = E at *
  have HB : Hid (∀ u, Kept (fun k => ¬ E k) wB u → (∀ k, E k → k < u.heap.size) ∧ u.cell? ⟨w.heap.size, 0, none⟩ = some (.pointer (some ⟨b, 0, none⟩)) ∧ u.cell? ⟨w.heap.size + 1, 0, none⟩ = some (.string (str m)) ∧ u.cell? ⟨w.heap.size + 1, 1, none⟩ = some (.slice none 0 0) ∧ u.cell? ⟨w.heap.size + 1, 2, none⟩ = some (.slice none 0 0) ∧ u.cell? ⟨w.heap.size + 1, 3, none⟩ = some (.slice none 0 0) ∧ u.cell? ⟨w.heap.size + 1, 4, none⟩ = some (.slice none 0 0) ∧ u.cell? ⟨w.heap.size + 1, 5, none⟩ = some (.slice none 0 0) ∧ u.cell? ⟨w.heap.size + 1, 6, none⟩ = some (.slice none 0 0) ∧ u.cell? ⟨w.heap.size + 1, 7, none⟩ = some (.slice none 0 0)) := by
    rw [hid_iff]
    intro u hu
    have n0 := (keep_blk hu e1 (by omega)).trans hNA'
    have n1 := (keep_blk hu e2 (by omega)).trans hNB
    exact ⟨keep_lt hu hDB, by rw [cell_of_row u _ 0 _ _ _ n0]; rfl, by rw [cell_of_row u _ 0 _ _ _ n1]; rfl, by rw [cell_of_row u _ 1 _ _ _ n1]; rfl, by rw [cell_of_row u _ 2 _ _ _ n1]; rfl, by rw [cell_of_row u _ 3 _ _ _ n1]; rfl, by rw [cell_of_row u _ 4 _ _ _ n1]; rfl, by rw [cell_of_row u _ 5 _ _ _ n1]; rfl, by rw [cell_of_row u _ 6 _ _ _ n1]; rfl, by rw [cell_of_row u _ 7 _ _ _ n1]; rfl⟩
  have hz : Wire.enc 0 = [0] := rfl
  have tl : (txtB m).length ≤ 1010 := Nat.le_trans (txtB_len m (by omega)) (by omega)
  have k0 : Kept (fun k => ¬ E k) wB wB := Kept.refl _ _
  obtain ⟨hD0, p0, q0, -, -, -, -, -, -, -⟩ := HB.out _ k0
  have h1 := wText7 E m b [] wB hD0 (by simp; omega) hwB
  have HKB := hidden hKB
  have HLS := hidden hless
  clear hKA hKB hless hle hNA hNA' hNB hwA hwB hDA hDB hw
  unfold wrv at *
  go_enter Tryz.func42, Tryz.ntmps42
  go_wp2_with fail
  refine h1.mono ?_
  rintro e v1 ⟨rfl, w1, k1⟩
  rw [List.nil_append] at w1
  clear h1 p0 q0
  obtain ⟨hD1, p1, -, q1, -, -, -, -, -, -⟩ := HB.out _ k1
  have g1 := fun fv => olistI E fv b (txtB m) v1 hD1 (by (try simp only [List.length_append, List.length_cons, List.length_nil]); omega) w1
  unfold wrv at g1
  go_wp2_with fail
  refine (g1 _).mono ?_
  rintro e u1 ⟨rfl, x1, y1'⟩
  have y1 := keep_trans k1 y1'
  rw [hz] at x1
  clear g1 p1 q1 w1 k1 y1'
  obtain ⟨hD2, p2, -, -, q2, -, -, -, -, -⟩ := HB.out _ y1
  have g2 := fun fv => olistT E fv b ((txtB m) ++ [0]) u1 hD2 (by (try simp only [List.length_append, List.length_cons, List.length_nil]); omega) x1
  unfold wrv at g2
  go_wp2_with fail
  refine (g2 _).mono ?_
  rintro e u2 ⟨rfl, x2, y2'⟩
  have y2 := keep_trans y1 y2'
  rw [hz] at x2
  clear g2 p2 q2 x1 y1 y2'
  obtain ⟨hD3, p3, -, -, -, q3, -, -, -, -⟩ := HB.out _ y2
  have g3 := fun fv => olistG E fv b ((txtB m) ++ [0] ++ [0]) u2 hD3 (by (try simp only [List.length_append, List.length_cons, List.length_nil]); omega) x2
  unfold wrv at g3
  go_wp2_with fail
  refine (g3 _).mono ?_
  rintro e u3 ⟨rfl, x3, y3'⟩
  have y3 := keep_trans y2 y3'
  rw [hz] at x3
  clear g3 p3 q3 x2 y2 y3'
  obtain ⟨hD4, p4, -, -, -, -, q4, -, -, -⟩ := HB.out _ y3
  have g4 := fun fv => olistF E fv b ((txtB m) ++ [0] ++ [0] ++ [0]) u3 hD4 (by (try simp only [List.length_append, List.length_cons, List.length_nil]); omega) x3
  unfold wrv at g4
  go_wp2_with fail
  refine (g4 _).mono ?_
  rintro e u4 ⟨rfl, x4, y4'⟩
  have y4 := keep_trans y3 y4'
  rw [hz] at x4
  clear g4 p4 q4 x3 y3 y4'
  obtain ⟨hD5, p5, -, -, -, -, -, q5, -, -⟩ := HB.out _ y4
  have g5 := fun fv => olistT E fv b ((txtB m) ++ [0] ++ [0] ++ [0] ++ [0]) u4 hD5 (by (try simp only [List.length_append, List.length_cons, List.length_nil]); omega) x4
  unfold wrv at g5
  go_wp2_with fail
  refine (g5 _).mono ?_
  rintro e u5 ⟨rfl, x5, y5'⟩
  have y5 := keep_trans y4 y5'
  rw [hz] at x5
  clear g5 p5 q5 x4 y4 y5'
  obtain ⟨hD6, p6, -, -, -, -, -, -, q6, -⟩ := HB.out _ y5
  have g6 := fun fv => olistS E fv b ((txtB m) ++ [0] ++ [0] ++ [0] ++ [0] ++ [0]) u5 hD6 (by (try simp only [List.length_append, List.length_cons, List.length_nil]); omega) x5
  unfold wrv at g6
  go_wp2_with fail
  refine (g6 _).mono ?_
  rintro e u6 ⟨rfl, x6, y6'⟩
  have y6 := keep_trans y5 y6'
  rw [hz] at x6
  clear g6 p6 q6 x5 y5 y6'
  obtain ⟨hD7, p7, -, -, -, -, -, -, -, q7⟩ := HB.out _ y6
  have g7 := fun fv => olistR E fv b ((txtB m) ++ [0] ++ [0] ++ [0] ++ [0] ++ [0] ++ [0]) u6 hD7 (by (try simp only [List.length_append, List.length_cons, List.length_nil]); omega) x6
  unfold wrv at g7
  go_wp2_with fail
  refine (g7 _).mono ?_
  rintro e u7 ⟨rfl, x7, y7'⟩
  have y7 := keep_trans y6 y7'
  rw [hz] at x7
  clear g7 p7 q7 x6 y6 y7'
  have hK := HKB.out _ y7
  have hW := HLS.out _ _ x7
  simp only [List.append_assoc, List.cons_append, List.nil_append] at hW
  clear x7 y7 HKB HLS HB
  go_wp2
  go_end0
  exact ⟨rfl, hW, hK⟩
def ob0 (m : List UInt8) : Ob := ⟨m, [], [], [], [], [], [], []⟩
def obV0 : ObV := ⟨.slice none 0 0, .slice none 0 0, .slice none 0 0, .slice none 0 0, .slice none 0 0, .slice none 0 0, .slice none 0 0⟩
theorem obR0 (F : Nat → Prop) (m : List UInt8) (w : World) : ObR F w obV0 (ob0 m) :=
  ⟨ItR.nil _ _, ⟨TxR.nil _ _, by rintro a n c h; simp only [obV0, Value.slice.injEq] at h; omega⟩, RwR.nil _ _ _ _, RwR.nil _ _ _ _, ⟨TxR.nil _ _, by rintro a n c h; simp only [obV0, Value.slice.injEq] at h; omega⟩, RwR.nil _ _ _ _, RwR.nil _ _ _ _⟩
theorem elO0 (m : List UInt8) (w : World) : ElO obV0 (ob0 m) w := by
  intro j k hj hk
  rcases j with _ | _ | _ | _ | _ | _ | _ | j <;> simp [lenO, ob0] at hk
theorem right0 (m : List UInt8) (w : World) (hm : Tk m) : Calls Tryz.prog 8 #[obv obV0 m] w (TwoB (rightO (ob0 m)) w) := rightOb (fun _ => False) obV0 (ob0 m) w (obR0 _ _ _) (fun _ h => h.elim) hm (fun _ _ => elO0 m w)
theorem rightO_m : rightO (ob0 [109]) = (0, 0) := by decide
theorem rightO_M : rightO (ob0 [77]) = (13, 0) := by decide
set_option maxHeartbeats 2000000 in
set_option maxRecDepth 1000000 in
theorem oenc0 (m : List UInt8) (w : World) (hm : m.length ≤ 1000) (hr : rightO (ob0 m) = (0, 0)) : Calls Tryz.prog 10 #[obv obV0 m] w fun e w' => ∃ v g, e = .returned (.tuple #[v, .int .i64 0]) ∧ Wire.Row w' g v (txtB m ++ [0, 0, 0, 0, 0, 0, 0]) ∧ w.heap.size ≤ g ∧ Below w.heap.size w w' := by
  have hR := fun u => right0 m u (by unfold Tk; omega)
  rw [hr] at hR
  unfold TwoB at hR
  unfold obv obV0 at *
  simp only at hR ⊢
  generalize hW : w.alloc (.cells #[.string (str m), .slice none 0 0, .slice none 0 0, .slice none 0 0, .slice none 0 0, .slice none 0 0, .slice none 0 0, .slice none 0 0] 29) = w0 at *
  have hb0 : Below w.heap.size w w0 := by rw [← hW]; exact (Below.refl _ _).alloc (Nat.le_refl _) _
  have hs0 : w0.heap.size = w.heap.size + 1 := by rw [← hW]; simp
  have hN := heap_alloc_new w (.cells #[.string (str m), .slice none 0 0, .slice none 0 0, .slice none 0 0, .slice none 0 0, .slice none 0 0, .slice none 0 0, .slice none 0 0] 29)
  rw [hW] at hN
  have HC : ∀ u : World, u.heap[w.heap.size]? = w0.heap[w.heap.size]? → u.cell? ⟨w.heap.size, 0, none⟩ = some (.string (str m)) ∧ u.cell? ⟨w.heap.size, 1, none⟩ = some (.slice none 0 0) ∧ u.cell? ⟨w.heap.size, 2, none⟩ = some (.slice none 0 0) ∧ u.cell? ⟨w.heap.size, 3, none⟩ = some (.slice none 0 0) ∧ u.cell? ⟨w.heap.size, 4, none⟩ = some (.slice none 0 0) ∧ u.cell? ⟨w.heap.size, 5, none⟩ = some (.slice none 0 0) ∧ u.cell? ⟨w.heap.size, 6, none⟩ = some (.slice none 0 0) ∧ u.cell? ⟨w.heap.size, 7, none⟩ = some (.slice none 0 0) := by
    intro u hu
    have n1 := hu.trans hN
    exact ⟨by rw [cell_of_row u _ 0 _ _ _ n1]; rfl, by rw [cell_of_row u _ 1 _ _ _ n1]; rfl, by rw [cell_of_row u _ 2 _ _ _ n1]; rfl, by rw [cell_of_row u _ 3 _ _ _ n1]; rfl, by rw [cell_of_row u _ 4 _ _ _ n1]; rfl, by rw [cell_of_row u _ 5 _ _ _ n1]; rfl, by rw [cell_of_row u _ 6 _ _ _ n1]; rfl, by rw [cell_of_row u _ 7 _ _ _ n1]; rfl⟩
  have HCh := hidden HC
  obtain ⟨z0, z1, z2, z3, z4, z5, z6, z7⟩ := HC w0 rfl
  clear HC
  go_enter Tryz.func10, Tryz.ntmps10
  go_wp2_with fail
  refine (hR _).mono ?_
  rintro e w1 ⟨rfl, hb1⟩
  have hs1 := hb1.size
  clear z0 z1 z2 z3 z4 z5 z6 z7
  go_wp2_with fail
  refine (Wire.newwriter w1).mono ?_
  rintro e w2 ⟨b, rfl, hW2, hbb, hk2⟩
  have hk2' := keep_of hk2
  have hw2 : WB (fun k => k < w1.heap.size) w2 b [] := ⟨b, hW2, by omega, by omega⟩
  have hD2 : ∀ k, k < w1.heap.size → k < w2.heap.size := fun k hk => Nat.lt_of_lt_of_le hk hk2'.size
  have hB2 : Kept (fun k => ¬ k < w1.heap.size) w1 w2 := hk2'.mono (fun _ _ h => h.elim)
  have hw3 := hw2.new (.cells #[.pointer (some ⟨b, 0, none⟩)] 97)
  have hD3 := Dx.lt hD2 (.cells #[.pointer (some ⟨b, 0, none⟩)] 97)
  have hN3 := heap_alloc_new w2 (.cells #[.pointer (some ⟨b, 0, none⟩)] 97)
  have hK3 : ∀ w', Kept (fun k => ¬ Dx (fun k => k < w1.heap.size) w2.heap.size k) (w2.alloc (.cells #[.pointer (some ⟨b, 0, none⟩)] 97)) w' → Kept (fun k => ¬ k < w1.heap.size) w2 w' := fun w' h => Dx.kept h hD2
  have hO3 := oobj0 (Dx (fun k => k < w1.heap.size) w2.heap.size) m b _ hD3 hm hw3
  unfold wrv at hO3
  have hob3 : (w2.alloc (.cells #[.pointer (some ⟨b, 0, none⟩)] 97)).heap[w.heap.size]? = w0.heap[w.heap.size]? := (Below.heap_alloc _ _ _ (by have := hD2 w.heap.size (by omega); omega)).trans ((hB2.block _ (by omega) (fun h => h (by omega))).trans (hb1.block _ (by omega)))
  obtain ⟨z0, z1, z2, z3, z4, z5, z6, z7⟩ := HCh.out _ hob3
  have p3 := box1 hN3
  generalize hW3 : w2.alloc (.cells #[.pointer (some ⟨b, 0, none⟩)] 97) = w3 at *
  have hs3 : w3.heap.size = w2.heap.size + 1 := by rw [← hW3]; simp
  clear hw2 hw3 hD3 hW2 hk2 hk2' hob3
  go_wp2_with fail
  refine hO3.mono ?_
  rintro e w4 ⟨rfl, hw4, k4⟩
  have hN4 := (keep_blk k4 (show Dx (fun k => k < w1.heap.size) w2.heap.size w2.heap.size from .inr rfl) (by omega)).trans hN3
  have p4 := box1 hN4
  have k5 := hK3 _ k4
  have hbo : Below w.heap.size w w4 := by
    have k : Kept (fun k => ¬ k < w1.heap.size) w1 w4 := keep_trans hB2 k5
    exact (below_trans hb0 hb1).trans (k.below (by omega) (fun x hx h => h (by omega)))
  obtain ⟨g, hWj, hbj, hgj⟩ := hw4
  have tl : (txtB m).length ≤ 1010 := Nat.le_trans (txtB_len m (by omega)) (by omega)
  have hd := Wire.wdone b g _ w4 (by simp only [List.length_append, List.length_cons, List.length_nil]; omega) hWj
  clear z0 z1 z2 z3 z4 z5 z6 z7 p3 hO3 hWj k4 k5 hK3
  go_wp2_with fail
  refine hd.mono ?_
  rintro e w5 ⟨v', g', rfl, hr5, hg5, hk5⟩
  have hb6 : Below w.heap.size w w5 := hbo.trans ((keep_of hk5).below (by have := hbo.size; omega) (fun _ _ h => h))
  have hsz5 := hbo.size
  have hlen : (txtB m ++ [0, 0, 0, 0, 0, 0, 0]).length ≤ 1017 := by simp only [List.length_append, List.length_cons, List.length_nil]; omega
  have HQ : Hid (∃ v g, Ending.returned (.tuple #[v', .int .i64 0]) = .returned (.tuple #[v, .int .i64 0]) ∧ Wire.Row w5 g v (txtB m ++ [0, 0, 0, 0, 0, 0, 0]) ∧ w.heap.size ≤ g ∧ Below w.heap.size w w5) := ⟨v', g', rfl, hr5, by omega, hb6⟩
  obtain ⟨va', vc', hv'⟩ : ∃ a c, v' = .slice a (txtB m ++ [0, 0, 0, 0, 0, 0, 0]).length c := by
    rcases hr5.shape with ⟨rfl, h⟩ | ⟨cap, rfl, _⟩
    · exact ⟨none, 0, by rw [h]; rfl⟩
    · exact ⟨_, _, rfl⟩
  subst hv'
  generalize (txtB m ++ [0, 0, 0, 0, 0, 0, 0]).length = nb at *
  have hni : ¬ (8192 : Int) < (nb : Int) := by omega
  clear hd hr5 hk5 hb6 p4
  go_wp2
  go_ret2
  exact HQ.out
theorem k14_bytes : txtB [109] ++ [0, 0, 0, 0, 0, 0, 0] = [1, 109, 0, 0, 0, 0, 0, 0, 0] := rfl
theorem k14_str : Wire.toStr [1, 109, 0, 0, 0, 0, 0, 0, 0] = ⟨#[1, 109, 0, 0, 0, 0, 0, 0, 0]⟩ := by rw [Wire.toStr_eq]; rfl
set_option maxHeartbeats 2000000 in
set_option maxRecDepth 1000000 in
theorem known14 (w : World) : Calls Tryz.prog 18 #[] w (BoolB true w) := by
  have he := oenc0 [109] w (by simp) rightO_m
  rw [k14_bytes] at he
  have hM := fun u => right0 [77] u (by unfold Tk; simp)
  rw [rightO_M] at hM
  unfold TwoB at hM
  unfold obv obV0 at *
  simp only at he hM
  go_enter Tryz.func18, Tryz.ntmps18
  go_wp2_with fail
  refine he.mono ?_
  rintro e w1 ⟨v, g, rfl, hr1, hg1, hb1⟩
  clear he
  obtain ⟨cap, rfl⟩ : ∃ cap, v = .slice (some ⟨g, 0, none⟩) 9 cap := by
    rcases hr1.shape with ⟨_, h⟩ | ⟨cap, h, _⟩
    · cases h
    · exact ⟨cap, h⟩
  have hgl : g < w1.heap.size := hr1.lt (k := g) rfl
  go_wp2_with fail
  refine (hM _).mono ?_
  rintro e w3 ⟨rfl, hb4⟩
  have hr3 : Wire.Row w3 g (.slice (some ⟨g, 0, none⟩) 9 cap) [1, 109, 0, 0, 0, 0, 0, 0, 0] := hr1.kept (S := fun k => w1.heap.size ≤ k) ⟨hb4.os, hb4.tape, hb4.output, hb4.size, fun k hk hn => hb4.block k hk⟩ (fun _ h => by omega)
  have hst := hr3.rd.string
  rw [k14_str] at hst
  have hb5 := below_trans hb1 hb4
  clear hr1 hr3 hb1 hb4 hgl hM
  go_wp2
  go_ret
  exact ⟨rfl, hb5⟩
end Go.Proofs.YtcjddbponknnoaaGreatDoor
