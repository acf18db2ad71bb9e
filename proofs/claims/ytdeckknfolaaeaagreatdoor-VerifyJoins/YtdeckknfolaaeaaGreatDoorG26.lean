/-
  readInst: one instruction is read.
-/
import Derived.Test.YtdeckknfolaaeaaGreatDoorG25
import Derived.Laws.Rows
import Derived.Laws.Tables
import Derived.Deep.RegionHeld3
import Derived.Deep.RegionWith
namespace Go.Proofs.YtdeckknfolaaeaaGreatDoor.Wire
open Go.RowKit

/-- An instruction as a value, as cells. -/
def insC (i : Ins) (tv : Value) : Array Value := #[.int .i64 i.pl, .int .i64 i.op, .int .i64 i.a, .int .i64 i.b, .complex .f64 (floatOfInt .f64 i.x) (floatOfInt .f64 i.y), .string (toStr i.tx), tv]
/-- A block that holds an instruction. -/
def BxI (w : World) (g : Nat) (i : Ins) (tv : Value) : Prop := w.heap[g]? = some (.cells (insC i tv) 144 (0, 0))
theorem BxI.lt {w : World} {g : Nat} {i : Ins} {tv : Value} (h : BxI w g i tv) : g < w.heap.size := (Array.getElem?_eq_some_iff.1 h).1
theorem BxI.kept {S : Nat → Prop} {w w' : World} {g : Nat} {i : Ins} {tv : Value} (h : BxI w g i tv) (k : Kept S w w') (hg : ¬ S g) : BxI w' g i tv := (k.block g h.lt hg).trans h
theorem BxI.cells {w : World} {g : Nat} {i : Ins} {tv : Value} (h : BxI w g i tv) : w.cell? ⟨g, 0, none⟩ = some (.int .i64 i.pl) ∧ w.cell? ⟨g, 1, none⟩ = some (.int .i64 i.op) ∧ w.cell? ⟨g, 2, none⟩ = some (.int .i64 i.a) ∧ w.cell? ⟨g, 3, none⟩ = some (.int .i64 i.b) ∧ w.cell? ⟨g, 4, none⟩ = some (.complex .f64 (floatOfInt .f64 i.x) (floatOfInt .f64 i.y)) ∧ w.cell? ⟨g, 5, none⟩ = some (.string (toStr i.tx)) ∧ w.cell? ⟨g, 6, none⟩ = some tv := by
  refine ⟨?_, ?_, ?_, ?_, ?_, ?_, ?_⟩ <;> (rw [cell_of_row _ _ _ _ _ _ h]; rfl)
theorem BxI.frozen {w : World} {g : Nat} {i : Ins} {tv : Value} (h : BxI w g i tv) (j : Nat) : w.frozen? ⟨g, j, none⟩ = false := frozen_of_row w g j _ _ h
theorem BxI.set {w : World} {g : Nat} {i : Ins} {tv : Value} (h : BxI w g i tv) (j : Nat) (u : Value) (i' : Ins) (tv' : Value) (e : (insC i tv).setIfInBounds j u = insC i' tv') : BxI (w.setCell ⟨g, j, none⟩ u) g i' tv' := by
  unfold BxI at *
  rw [heap_setCell_same w g j _ _ _ h, e]
theorem kept_setRow (w : World) (g : Nat) (cs : Array Value) : Kept (fun k => k = g) w (w.setRow g cs) := by
  refine ⟨rfl, rfl, rfl, by simp [World.setRow], fun k hk hn => ?_⟩
  simp only [World.setRow]
  rw [Array.getElem?_modify, if_neg (fun e => hn e.symm)]
/-- A value of one cell is stored. -/
theorem wpList_store_cell {P : Program} {ops : Array Oper} {rest : List Oper} {o : Oper} {a : Act} {w : World} {Q : Exit → Act → World → Prop} (hgd : o.guard = none) (ty : TypeId) (x y : Operand) (ho : o.op = .store ty x y)
    (g j : Nat) (hx : a.eval x = .pointer (some ⟨g, j, none⟩)) (v old : Value) (hy : a.eval y = v) (h1 : v.oneCell' = true) (hc : w.cell? ⟨g, j, none⟩ = some old) (hf : w.frozen? ⟨g, j, none⟩ = false) (hi : (P.info? ty).map (·.size) = some 1)
    (h : wpList P ops Q rest (a.put o.dst undef) (w.setCell ⟨g, j, none⟩ v)) : wpList P ops Q (o :: rest) a w :=
  wpList_plain hgd fun _ hK => by
    have hcs : v.cells = #[v] := by cases v <;> first | rfl | cases h1
    have hs : (storeVar ty ⟨g, j, none⟩ v).run P w = .ok () (w.setCell ⟨g, j, none⟩ v) := by
      have := run_storeCells_cells (P := P) g j [v] 0 w (fun k hk => by simp at hk; subst hk; simp [hc]) (fun k hk => by simp at hk; subst hk; simp [hf]) (fun u hu => by simp at hu; subst hu; exact h1)
      cases hq : P.info? ty with
      | none => simp [hq] at hi
      | some i =>
        have hs : i.size = 1 := by simpa [hq] using hi
        simp [World.setCells] at this
        simp [storeVar, sizeOf, typeInfo, hq, hcs, hs, this]
    unfold Oper.wp execOp
    simp only [ho, hx, hy, Instr.storeAt, Instr.sureAddr, Sem.run_bind, Sem.run_pure, Result.andThen_ok, hs]
    exact hK _ _ h
theorem sizeCx : (Tryz.prog.info? 133).map (·.size) = some 1 := by kernel_rfl
theorem sizeIns : (Tryz.prog.info? 144).map (·.size) = some 7 := by kernel_rfl
def zIns : Ins := ⟨0, 0, 0, 0, 0, 0, [], []⟩
theorem zero_ins : insC zIns (.slice none 0 0) = #[.int .i64 0, .int .i64 0, .int .i64 0, .int .i64 0, .complex .f64 0 0, .string ⟨#[]⟩, .slice none 0 0] := by
  unfold insC zIns
  rw [show floatOfInt .f64 0 = 0 from by decide]
  rfl
/-- What readInst leaves. -/
def InstE (l : List Nat) (b g : Nat) (R : Ins × Nat × Nat) (w : World) (e : Ending) (w' : World) : Prop :=
  ∃ tv, e = .returned (.agg (insC R.1 tv)) ∧ IwR (fun z => w.heap.size ≤ z ∧ z < w'.heap.size) w' tv R.1.tos ∧ RIs w' b g l R.2.1 R.2.2 ∧ Kept (fun k => k = b) w w'
/-- What may stand ahead yet. -/
def Sfx (ls : List Nat) : Prop := ls = [] ∨ ls = [110] ∨ ls = [116] ∨ ls = [97] ∨ ls = [103] ∨ ls = [97, 98] ∨ ls = [98] ∨ ls = [97, 114] ∨ ls = [114] ∨ ls = [97, 114, 103] ∨ ls = [114, 103]
theorem lay_sfx (op : Int) : Sfx (layS op) := by
  unfold Sfx
  rcases op_cases op with rfl | rfl | rfl | rfl | rfl | rfl | rfl | rfl | rfl | rfl | rfl | rfl | rfl | rfl | rfl | h
  all_goals first | (rw [lay_none h]; simp) | decide
theorem rleft' (b g : Nat) (l : List Nat) (p why : Nat) (w : World) (hl : l.length ≤ 140737488355328) (hp : p ≤ l.length) (hr : RIs w b g l p why) :
    Calls Tryz.prog 68 #[.pointer (some ⟨b, 0, none⟩)] w fun e w' => e = .returned (.int .i64 (lf l p why : Nat)) ∧ Kept (fun _ => False) w w' := rleft b g l p why w hl hp hr
theorem lf_le (l : List Nat) (p why : Nat) : lf l p why ≤ l.length := by unfold lf; split <;> omega
theorem lf_zero (l : List Nat) (p : Nat) (hp : p ≤ l.length) : l.length - lf l p 0 = p := by unfold lf; rw [if_pos rfl]; omega
theorem rB_lt (l : List Nat) (p y : Nat) (h256 : ∀ x ∈ l, x < 256) : (rB l p y).1 < 256 := by
  unfold rB
  rcases take_one l p y h256 with h | ⟨x, h, hx⟩
  · rw [h]; simp
  · rw [h]; exact hx

/-- Where reading an instruction stands: its block, the answer's block, the reader. -/
structure Mid (w w' : World) (b g : Nat) (l : List Nat) (i : Ins) (p1 y1 iB : Nat) (tv : Value) : Prop where
  hB : BxI w' iB i tv
  hA : BxI w' w.heap.size zIns (.slice none 0 0)
  hT : IwR (fun z => iB < z ∧ z < w'.heap.size) w' tv i.tos
  hi : w.heap.size < iB
  hb : b < w.heap.size
  hg : g < w.heap.size
  hr : RIs w' b g l p1 y1
  hk : Kept (fun k => k = b) w w'
theorem Mid.call {w w' w2 : World} {b g : Nat} {l : List Nat} {i : Ins} {p1 y1 iB p2 y2 : Nat} {tv : Value} (h : Mid w w' b g l i p1 y1 iB tv) (hr : RIs w2 b g l p2 y2) (k : Kept (fun k => k = b) w' w2) : Mid w w2 b g l i p2 y2 iB tv :=
  have h1 := h.hi
  have h2 := h.hb
  ⟨h.hB.kept k (by omega), h.hA.kept k (by omega), h.hT.frame fun z hz => ⟨⟨hz.1, Nat.lt_of_lt_of_le hz.2 k.size⟩, k.block z hz.2 (by have := hz.1; omega)⟩, h1, h2, h.hg, hr, h.hk.trans k (fun _ _ h => h) (fun _ _ h => h)⟩
theorem Mid.quiet {w w' w2 : World} {b g : Nat} {l : List Nat} {i : Ins} {p1 y1 iB : Nat} {tv : Value} (h : Mid w w' b g l i p1 y1 iB tv) (k : Kept (fun _ => False) w' w2) : Mid w w2 b g l i p1 y1 iB tv :=
  h.call (h.hr.kept k (fun h => h) (fun h => h)) (k.mono fun _ _ h => h.elim)
theorem Mid.set {w w' : World} {b g : Nat} {l : List Nat} {i : Ins} {p1 y1 iB : Nat} {tv : Value} (h : Mid w w' b g l i p1 y1 iB tv) (j : Nat) (u : Value) (i' : Ins) (tv' : Value) (e : (insC i tv).setIfInBounds j u = insC i' tv') (hT : IwR (fun z => iB < z ∧ z < w'.heap.size) w' tv' i'.tos) : Mid w (w'.setCell ⟨iB, j, none⟩ u) b g l i' p1 y1 iB tv' :=
  have h1 := h.hi
  have h2 := h.hb
  have h3 := h.hg
  have k := kept_set w' iB j u
  ⟨h.hB.set j u i' tv' e, h.hA.kept k (by omega), hT.frame fun z hz => ⟨⟨hz.1, Nat.lt_of_lt_of_le hz.2 k.size⟩, k.block z hz.2 (by have := hz.1; omega)⟩, h1, h2, h3, h.hr.kept k (by omega) (by omega), h.hk.setCell (p := ⟨iB, j, none⟩) (fun h => by have : iB < w.heap.size := h; omega) _⟩
/-- The slots, when a field is to be read next. -/
def Shp (a' : Act) (b n A iB : Nat) (ls : List Nat) : Prop := ∃ (u2 u3 u7 u8 u9 u10 u11 u12 u13 u14 u15 u16 u17 u18 u19 u20 u21 u22 u23 u24 u25 u26 u27 u28 u29 u30 u31 u32 u33 u34 u35 u36 u37 u38 u39 u40 u41 u42 u43 u44 u45 u46 u47 u48 u49 u50 u51 u52 u53 u54 u55 u56 u57 u58 u59 u60 u61 u62 u63 u64 u65 u66 u67 u68 u69 u70 u71 u72 u73 : Value), a' = { tmps := #[.pointer (some ⟨b, 0, none⟩), .int .i64 n, u2, u3, .pointer (some ⟨A, 0, none⟩), .pointer (some ⟨iB, 0, none⟩), .string (toStr ls), u7, u8, u9, u10, u11, u12, u13, u14, u15, u16, u17, u18, u19, u20, u21, u22, u23, u24, u25, u26, u27, u28, u29, u30, u31, u32, u33, u34, u35, u36, u37, u38, u39, u40, u41, u42, u43, u44, u45, u46, u47, u48, u49, u50, u51, u52, u53, u54, u55, u56, u57, u58, u59, u60, u61, u62, u63, u64, u65, u66, u67, u68, u69, u70, u71, u72, u73], defers := [] }
theorem Mid.ways {w u uR : World} {b g : Nat} {l : List Nat} {i : Ins} {p1 y1 iB p2 y2 : Nat} {tv rv : Value} {to : List Int} (M : Mid w u b g l i p1 y1 iB tv) (tR : IwR (fun z => u.heap.size ≤ z ∧ z < uR.heap.size) uR rv to) (rR : RIs uR b g l p2 y2) (kR : Kept (fun k => k = b) u uR) :
    Mid w (uR.setCell ⟨iB, 6, none⟩ rv) b g l { i with tos := to } p2 y2 iB rv :=
  (M.call rR kR).set 6 rv { i with tos := to } rv rfl (tR.frame fun z hz => ⟨⟨by have := M.hB.lt; have := hz.1; omega, hz.2⟩, rfl⟩)
def strLen (v : Value) : Nat := match v with | .string s => s.size | _ => 0

set_option maxHeartbeats 20000000 in
set_option maxRecDepth 1000000 in
theorem creadInst (b g : Nat) (l : List Nat) (p : Nat) (w : World) (hl : l.length ≤ 2048) (h256 : ∀ x ∈ l, x < 256) (hp : p < l.length) (hr : RIs w b g l p 0) :
    Calls Tryz.prog 69 #[.pointer (some ⟨b, 0, none⟩), .int .i64 l.length] w (InstE l b g (rdI l p) w) := by
  have hb := hr.lt
  have hg := hr.gt
  have hA0 : BxI (w.alloc (.cells #[.int .i64 0, .int .i64 0, .int .i64 0, .int .i64 0, .complex .f64 0 0, .string ⟨#[]⟩, .slice none 0 0] 144)) w.heap.size zIns (.slice none 0 0) := by
    unfold BxI
    rw [zero_ins]
    exact heap_alloc_new w _
  have hK0 : Kept (fun k => k = b) w (w.alloc (.cells #[.int .i64 0, .int .i64 0, .int .i64 0, .int .i64 0, .complex .f64 0 0, .string ⟨#[]⟩, .slice none 0 0] 144)) := (Kept.refl _ w).alloc _
  have hr0 := hr.kept ((Kept.refl (fun _ => False) w).alloc (.cells #[.int .i64 0, .int .i64 0, .int .i64 0, .int .i64 0, .complex .f64 0 0, .string ⟨#[]⟩, .slice none 0 0] 144)) (fun h => h) (fun h => h)
  have hll : l.length ≤ 140737488355328 := by omega
  clear hr
  go_enter Tryz.func69, Tryz.ntmps69
  go_wp2_with fail
  refine wp_scope_via 0 (fun a' w' => ∃ (ls : List Nat) (i : Ins) (p1 y1 iB : Nat) (tv : Value), Shp a' b l.length w.heap.size iB ls ∧ Sfx ls ∧ Mid w w' b g l i p1 y1 iB tv ∧ p1 ≤ l.length ∧ Yw y1 ∧ 0 ≤ i.a ∧ i.a ≤ 255 ∧ flds l ls i p1 y1 = rdI l p) (fun a' _ => strLen (a'.tmps.getD 6 undef)) rfl ?_ ?_
  · intro hpass
    generalize w.alloc (.cells #[.int .i64 0, .int .i64 0, .int .i64 0, .int .i64 0, .complex .f64 0 0, .string ⟨#[]⟩, .slice none 0 0] 144) = W0 at *
    have hz0 := hK0.size
    have hAl := hA0.lt
    go_wp2_with fail
    refine (rleft' b g l p 0 _ hll (by omega) hr0).mono ?_
    rintro e w1 ⟨rfl, K1⟩
    have hlf : ((l.length : Int) - (lf l p 0 : Nat)) = (p : Int) := by
      have := lf_zero l p (by omega)
      have := lf_le l p 0
      omega
    have hz1 := K1.size
    have hZ : (w1.alloc (.cells #[.int .i64 0, .int .i64 0, .int .i64 0, .int .i64 0, .complex .f64 0 0, .string ⟨#[]⟩, .slice none 0 0] 144)).heap[w1.heap.size]? = some (.cells #[.int .i64 0, .int .i64 0, .int .i64 0, .int .i64 0, .complex .f64 0 0, .string ⟨#[]⟩, .slice none 0 0] 144 (0, 0)) := heap_alloc_new w1 _
    have hM1 : Mid w ((w1.alloc (.cells #[.int .i64 0, .int .i64 0, .int .i64 0, .int .i64 0, .complex .f64 0 0, .string ⟨#[]⟩, .slice none 0 0] 144)).setRow w1.heap.size #[.int .i64 p, .int .i64 0, .int .i64 0, .int .i64 0, .complex .f64 0 0, .string ⟨#[]⟩, .slice none 0 0]) b g l ⟨p, 0, 0, 0, 0, 0, [], []⟩ p 0 w1.heap.size (.slice none 0 0) := by
      have k := (Kept.refl (fun _ => False) w1).alloc (.cells #[.int .i64 0, .int .i64 0, .int .i64 0, .int .i64 0, .complex .f64 0 0, .string ⟨#[]⟩, .slice none 0 0] 144)
      have k2 := kept_setRow (w1.alloc (.cells #[.int .i64 0, .int .i64 0, .int .i64 0, .int .i64 0, .complex .f64 0 0, .string ⟨#[]⟩, .slice none 0 0] 144)) w1.heap.size #[.int .i64 p, .int .i64 0, .int .i64 0, .int .i64 0, .complex .f64 0 0, .string ⟨#[]⟩, .slice none 0 0]
      refine ⟨?_, ((hA0.kept K1 (fun h => h)).kept k (fun h => h)).kept k2 (by omega), IwR.nil _ _, by omega, hb, hg, ((hr0.kept K1 (fun h => h) (fun h => h)).kept k (fun h => h) (fun h => h)).kept k2 (by omega) (by omega), ((hK0.trans K1 (fun _ _ h => h) (fun _ _ h => h.elim)).alloc _).trans k2 (fun _ _ h => h) (fun x hx h => by omega)⟩
      unfold BxI insC
      rw [show floatOfInt .f64 0 = 0 from by decide]
      exact setRow_heap _ w1.heap.size _ _ 144 (0, 0) hZ
    have hc2 := cbyte b g l p 0 _ hll h256 (by omega) hM1.hr
    have hs2 := rB_step l p 0 (by omega) (.inl rfl)
    have hlt2 := rB_lt l p 0 h256
    have HE : Hid (flds l (layS (rB l p 0).1) ⟨p, ((rB l p 0).1 : Nat), 0, 0, 0, 0, [], []⟩ (rB l p 0).2.1 (fU (rB l p 0).2.2 (isOp ((rB l p 0).1 : Nat))) = rdI l p) := rfl
    generalize rB l p 0 = R at *
    obtain ⟨op, p2, y2⟩ := R
    simp only at hc2 hs2 hlt2 HE
    clear K1 hA0 hK0 hr0 hz0 hz1 hAl
    go_wp2_with (refine wpList_store_row rfl 144 (.tmp 5) (.tmp 12) rfl w1.heap.size #[.int .i64 p, .int .i64 0, .int .i64 0, .int .i64 0, .complex .f64 0 0, .string ⟨#[]⟩, .slice none 0 0] rfl rfl 144 #[.int .i64 0, .int .i64 0, .int .i64 0, .int .i64 0, .complex .f64 0 0, .string ⟨#[]⟩, .slice none 0 0] hZ sizeIns rfl (by kernel_rfl) ?_)
    clear hlf hZ
    refine hc2.mono ?_
    rintro e w2 ⟨rfl, k1, k2⟩
    have hM2 := hM1.call k1 k2
    obtain ⟨c0, c1, c2, c3, c4, c5, c6⟩ := hM2.hB.cells
    have f1 := hM2.hB.frozen 1
    have hM3 := hM2.set 1 (.int .i64 op) ⟨p, op, 0, 0, 0, 0, [], []⟩ (.slice none 0 0) rfl (IwR.nil _ _)
    clear hM1 hM2 k1 k2 hc2
    generalize w1.heap.size = iB at *
    have d1 := hM3.hB.cells.2.1
    have hcl := clayout (op : Int) (w2.setCell ⟨iB, 1, none⟩ (.int .i64 op))
    go_wp2_with fail
    refine hcl.mono ?_
    rintro e w3 ⟨rfl, rfl⟩
    clear hcl c0 c1 c2 c3 c4 c5 c6 f1 d1
    generalize w2.setCell ⟨iB, 1, none⟩ (.int .i64 op) = w3 at *
    have hcf := cfail (isOp (op : Int)) b g l p2 y2 w3 hM3.hr
    generalize hfu : fU y2 (isOp (op : Int)) = y3 at *
    have hy3 : Yw y3 := by rw [← hfu]; exact fU_yw hs2.2.1 _
    clear hfu
    have hsf := lay_sfx (op : Int)
    generalize layS (op : Int) = ls at *
    generalize isOp (op : Int) = okv at *
    go_wp2_with fail
    refine hcf.mono ?_
    rintro e w4 ⟨rfl, k1, k2⟩
    have hM4 := hM3.call k1 k2
    clear hcf hM3 k1 k2
    go_wp2
    (try (rename_i K hK; refine wp_label (hK _ _ ?_)))
    (try (refine wp_label ?_))
    exact hpass _ _ ⟨ls, _, p2, y3, iB, _, ⟨_, _, _, _, _, _, _, _, _, _, _, _, _, _, _, _, _, _, _, _, _, _, _, _, _, _, _, _, _, _, _, _, _, _, _, _, _, _, _, _, _, _, _, _, _, _, _, _, _, _, _, _, _, _, _, _, _, _, _, _, _, _, _, _, _, _, _, _, _, rfl⟩, hsf, hM4, hs2.1, hy3, Int.le_refl _, (by show (0 : Int) ≤ 255; decide), HE.out⟩
  · rintro a' w' ⟨ls, i, p1, y1, iB, tv, hsh, hsf, M, hp1, hy1, ha1, ha2, he⟩
    clear hA0 hK0 hr0
    rcases hsf with rfl | rfl | rfl | rfl | rfl | rfl | rfl | rfl | rfl | rfl | rfl
    · obtain ⟨u2, u3, u7, u8, u9, u10, u11, u12, u13, u14, u15, u16, u17, u18, u19, u20, u21, u22, u23, u24, u25, u26, u27, u28, u29, u30, u31, u32, u33, u34, u35, u36, u37, u38, u39, u40, u41, u42, u43, u44, u45, u46, u47, u48, u49, u50, u51, u52, u53, u54, u55, u56, u57, u58, u59, u60, u61, u62, u63, u64, u65, u66, u67, u68, u69, u70, u71, u72, u73, rfl⟩ := hsh
      rw [show toStr [] = ⟨#[]⟩ from rfl]
      have HE : Hid ((i, p1, y1) = rdI l p) := he
      clear he
      have hB := M.hB
      have hA := M.hA
      have hT := M.hT
      have hi := M.hi
      have hR := M.hr
      have hk := M.hk
      have hbb := M.hb
      have hgg := M.hg
      obtain ⟨c0, c1, c2, c3, c4, c5, c6⟩ := hB.cells
      have KR : Kept (fun z => z = w.heap.size) w' (w'.setRow w.heap.size (insC i tv)) := kept_setRow w' w.heap.size (insC i tv)
      have hRR := hR.kept KR (by omega) (by omega)
      have hTR : IwR (fun z => w.heap.size ≤ z ∧ z < (w'.setRow w.heap.size (insC i tv)).heap.size) (w'.setRow w.heap.size (insC i tv)) tv i.tos := hT.frame fun z hz => ⟨⟨by have := hz.1; omega, Nat.lt_of_lt_of_le hz.2 KR.size⟩, KR.block z hz.2 (by have := hz.1; omega)⟩
      have hkR : Kept (fun k => k = b) w (w'.setRow w.heap.size (insC i tv)) := hk.trans KR (fun _ _ h => h) (fun x hx h => by omega)
      have h1c : (insC i tv).all (·.oneCell') = true := by
        obtain ⟨ta, tc, rfl⟩ := hT.shape
        unfold insC
        kernel_rfl
      go_wp2_with (refine wpList_store_row rfl 144 (.tmp 4) (.tmp 27) rfl w.heap.size (insC i tv) rfl rfl 144 (insC zIns (.slice none 0 0)) hA sizeIns rfl h1c ?_)
      simp only [Exit.jump]
      refine bodyPost_ret (results_cell_row rfl _ _ w.heap.size 144 (insC i tv) (0, 0) _ rfl (setRow_heap _ w.heap.size _ _ 144 (0, 0) hA) Tryz.underlying144 rfl sizeIns) rfl ?_
      rw [← HE.out]
      exact ⟨tv, rfl, hTR, hRR, hkR⟩
    · obtain ⟨u2, u3, u7, u8, u9, u10, u11, u12, u13, u14, u15, u16, u17, u18, u19, u20, u21, u22, u23, u24, u25, u26, u27, u28, u29, u30, u31, u32, u33, u34, u35, u36, u37, u38, u39, u40, u41, u42, u43, u44, u45, u46, u47, u48, u49, u50, u51, u52, u53, u54, u55, u56, u57, u58, u59, u60, u61, u62, u63, u64, u65, u66, u67, u68, u69, u70, u71, u72, u73, rfl⟩ := hsh
      rw [show toStr [110] = ⟨#[110]⟩ from rfl]
      have hc := cnumber b g l p1 y1 w' hll h256 hp1 M.hr
      have hs := rN_step l p1 y1 hp1 hy1
      have HE : Hid (flds l [] { i with x := (rN l p1 y1).1.1, y := (rN l p1 y1).1.2 } (rN l p1 y1).2.1 (rN l p1 y1).2.2 = rdI l p) := he
      clear he
      generalize rN l p1 y1 = R at *
      obtain ⟨⟨n1, n2⟩, p2, y2⟩ := R
      simp only at hc hs HE
      go_wp2_with fail
      refine hc.mono ?_
      rintro e w1 ⟨rfl, k1, k2⟩
      have M1 := M.call k1 k2
      obtain ⟨c0, c1, c2, c3, c4, c5, c6⟩ := M1.hB.cells
      have f4 := M1.hB.frozen 4
      have M2 := M1.set 4 (.complex .f64 (floatOfInt .f64 n1) (floatOfInt .f64 n2)) { i with x := n1, y := n2 } tv rfl M1.hT
      clear hc M M1 k1 k2
      generalize floatOfInt .f64 i.x = ix at *
      generalize floatOfInt .f64 i.y = iy at *
      generalize floatOfInt .f64 n1 = nx at *
      generalize floatOfInt .f64 n2 = ny at *
      go_wp2_with (refine wpList_store_cell rfl 133 (.tmp 34) (.tmp 33) rfl iB 4 rfl (.complex .f64 nx ny) (.complex .f64 ix iy) rfl rfl c4 f4 sizeCx ?_)
      go_wp2
      rw [show (ByteArray.empty : ByteArray) = toStr [] from rfl]
      refine wp_goto ⟨rfl, ⟨[], { i with x := n1, y := n2 }, p2, y2, iB, tv, ⟨_, _, _, _, _, _, _, _, _, _, _, _, _, _, _, _, _, _, _, _, _, _, _, _, _, _, _, _, _, _, _, _, _, _, _, _, _, _, _, _, _, _, _, _, _, _, _, _, _, _, _, _, _, _, _, _, _, _, _, _, _, _, _, _, _, _, _, _, _, rfl⟩, by simp [Sfx], M2, hs.1, hs.2.1, ha1, ha2, HE.out⟩, (by show (toStr []).size < (ByteArray.mk #[110]).size; decide)⟩
    · obtain ⟨u2, u3, u7, u8, u9, u10, u11, u12, u13, u14, u15, u16, u17, u18, u19, u20, u21, u22, u23, u24, u25, u26, u27, u28, u29, u30, u31, u32, u33, u34, u35, u36, u37, u38, u39, u40, u41, u42, u43, u44, u45, u46, u47, u48, u49, u50, u51, u52, u53, u54, u55, u56, u57, u58, u59, u60, u61, u62, u63, u64, u65, u66, u67, u68, u69, u70, u71, u72, u73, rfl⟩ := hsh
      rw [show toStr [116] = ⟨#[116]⟩ from rfl]
      have hc := rtext 200 b g l p1 y1 w' (by decide) (by decide) hll h256 hp1 M.hr
      have hs := rT_step l p1 y1 hp1 hy1
      have HE : Hid (flds l [] { i with tx := (rT l p1 y1).1 } (rT l p1 y1).2.1 (rT l p1 y1).2.2 = rdI l p) := he
      clear he
      go_wp2_with fail
      refine hc.mono ?_
      rintro e w1 ⟨R, rfl, rfl, k1, k2⟩
      have M1 : Mid w w1 b g l i (rT l p1 y1).2.1 (rT l p1 y1).2.2 iB tv := M.call k1 k2
      obtain ⟨c0, c1, c2, c3, c4, c5, c6⟩ := M1.hB.cells
      have f5 := M1.hB.frozen 5
      have M2 := M1.set 5 (.string (toStr (rT l p1 y1).1)) { i with tx := (rT l p1 y1).1 } tv rfl M1.hT
      clear hc M M1 k1 k2
      rw [show (rTake l (rNum l p1 y1 (Int.toNat 200)).2.1 (rNum l p1 y1 (Int.toNat 200)).2.2 (rNum l p1 y1 (Int.toNat 200)).1).1 = (rT l p1 y1).1 from rfl]
      generalize rT l p1 y1 = R at *
      obtain ⟨tx, p2, y2⟩ := R
      simp only at hs HE M2 ⊢
      generalize toStr tx = tS at *
      generalize toStr i.tx = tI at *
      go_wp2
      rw [show (ByteArray.empty : ByteArray) = toStr [] from rfl]
      refine wp_goto ⟨rfl, ⟨[], { i with tx := tx }, p2, y2, iB, tv, ⟨_, _, _, _, _, _, _, _, _, _, _, _, _, _, _, _, _, _, _, _, _, _, _, _, _, _, _, _, _, _, _, _, _, _, _, _, _, _, _, _, _, _, _, _, _, _, _, _, _, _, _, _, _, _, _, _, _, _, _, _, _, _, _, _, _, _, _, _, _, rfl⟩, by simp [Sfx], M2, hs.1, hs.2.1, ha1, ha2, HE.out⟩, (by show (toStr []).size < (ByteArray.mk #[116]).size; decide)⟩
    · obtain ⟨u2, u3, u7, u8, u9, u10, u11, u12, u13, u14, u15, u16, u17, u18, u19, u20, u21, u22, u23, u24, u25, u26, u27, u28, u29, u30, u31, u32, u33, u34, u35, u36, u37, u38, u39, u40, u41, u42, u43, u44, u45, u46, u47, u48, u49, u50, u51, u52, u53, u54, u55, u56, u57, u58, u59, u60, u61, u62, u63, u64, u65, u66, u67, u68, u69, u70, u71, u72, u73, rfl⟩ := hsh
      rw [show toStr [97] = ⟨#[97]⟩ from rfl]
      have hc := cbyte b g l p1 y1 w' hll h256 hp1 M.hr
      have hs := rB_step l p1 y1 hp1 hy1
      have hlt := rB_lt l p1 y1 h256
      have HE : Hid (flds l [] { i with a := ((rB l p1 y1).1 : Nat) } (rB l p1 y1).2.1 (fU (rB l p1 y1).2.2 (rcR i.op ((rB l p1 y1).1 : Nat))) = rdI l p) := he
      clear he
      generalize rB l p1 y1 = R at *
      obtain ⟨q, p2, y2⟩ := R
      simp only at hc hs hlt HE
      go_wp2_with fail
      refine hc.mono ?_
      rintro e w1 ⟨rfl, k1, k2⟩
      have M1 := M.call k1 k2
      obtain ⟨c0, c1, c2, c3, c4, c5, c6⟩ := M1.hB.cells
      have f2 := M1.hB.frozen 2
      have M2 := M1.set 2 (.int .i64 q) { i with a := (q : Nat) } tv rfl M1.hT
      clear hc M M1 k1 k2
      obtain ⟨d0, d1, d2, d3, d4, d5, d6⟩ := M2.hB.cells
      simp only at d0 d1 d2 d3 d4 d5 d6
      have hcc := ccount i.op (q : Nat) (.int .i64 i.pl) (.int .i64 i.b) (.complex .f64 (floatOfInt .f64 i.x) (floatOfInt .f64 i.y)) (.string (toStr i.tx)) tv (w1.setCell ⟨iB, 2, none⟩ (.int .i64 q))
      generalize floatOfInt .f64 i.x = ix at *
      generalize floatOfInt .f64 i.y = iy at *
      generalize toStr i.tx = tI at *
      go_wp2_with fail
      generalize w1.setCell ⟨iB, 2, none⟩ (.int .i64 q) = w2 at *
      refine hcc.mono ?_
      rintro e w3 ⟨rfl, k3⟩
      have M3 := M2.quiet k3
      have hcf := cfail (rcR i.op (q : Nat)) b g l p2 y2 w3 M3.hr
      generalize hfu : fU y2 (rcR i.op (q : Nat)) = y3 at *
      have hy3 : Yw y3 := by rw [← hfu]; exact fU_yw hs.2.1 _
      clear hfu d0 d1 d2 d3 d4 d5 d6 c0 c1 c2 c3 c4 c5 c6 f2 hcc M2 k3
      generalize rcR i.op (q : Nat) = okc at *
      go_wp2_with fail
      refine hcf.mono ?_
      rintro e w4 ⟨rfl, k1, k2⟩
      have M4 := M3.call k1 k2
      clear hcf M3 k1 k2
      go_wp2
      rw [show (ByteArray.empty : ByteArray) = toStr [] from rfl]
      refine wp_goto ⟨rfl, ⟨[], { i with a := (q : Nat) }, p2, y3, iB, tv, ⟨_, _, _, _, _, _, _, _, _, _, _, _, _, _, _, _, _, _, _, _, _, _, _, _, _, _, _, _, _, _, _, _, _, _, _, _, _, _, _, _, _, _, _, _, _, _, _, _, _, _, _, _, _, _, _, _, _, _, _, _, _, _, _, _, _, _, _, _, _, rfl⟩, by simp [Sfx], M4, hs.1, hy3, (by show (0 : Int) ≤ (q : Nat); omega), (by show ((q : Nat) : Int) ≤ 255; omega), HE.out⟩, (by show (toStr []).size < (ByteArray.mk #[97]).size; decide)⟩
    · obtain ⟨u2, u3, u7, u8, u9, u10, u11, u12, u13, u14, u15, u16, u17, u18, u19, u20, u21, u22, u23, u24, u25, u26, u27, u28, u29, u30, u31, u32, u33, u34, u35, u36, u37, u38, u39, u40, u41, u42, u43, u44, u45, u46, u47, u48, u49, u50, u51, u52, u53, u54, u55, u56, u57, u58, u59, u60, u61, u62, u63, u64, u65, u66, u67, u68, u69, u70, u71, u72, u73, rfl⟩ := hsh
      rw [show toStr [103] = ⟨#[103]⟩ from rfl]
      go_wp2_with fail
      have hwn : 0 ≤ waysR i.op i.a ∧ waysR i.op i.a ≤ 255 := by
        unfold waysR
        split
        · exact ⟨by decide, by decide⟩
        · split
          · exact ⟨ha1, ha2⟩
          · exact ⟨by decide, by decide⟩
      obtain ⟨m, hm⟩ : ∃ m : Nat, waysR i.op i.a = m := ⟨(waysR i.op i.a).toNat, by omega⟩
      have hm2 : m ≤ 255 := by omega
      have hlf := lf_le l p1 y1
      have HE : Hid (flds l [] { i with tos := (rW l ((l.length - lf l p1 y1 : Nat) + 2 * (m : Int)) m p1 y1).1 } (rW l ((l.length - lf l p1 y1 : Nat) + 2 * (m : Int)) m p1 y1).2.1 (rW l ((l.length - lf l p1 y1 : Nat) + 2 * (m : Int)) m p1 y1).2.2 = rdI l p) := by
        unfold Hid
        rw [← he]
        show _ = flds l [] (fld l 103 i p1 y1).1 (fld l 103 i p1 y1).2.1 (fld l 103 i p1 y1).2.2
        unfold fld
        rw [hm]
        rfl
      have hL : ∀ u, Kept (fun _ => False) w' u → Calls Tryz.prog 68 #[.pointer (some ⟨b, 0, none⟩)] u fun e u' => e = .returned (.int .i64 (lf l p1 y1 : Nat)) ∧ Kept (fun _ => False) u u' := fun u k => rleft' b g l p1 y1 u hll hp1 (M.hr.kept k (fun h => h) (fun h => h))
      have hW : ∀ u, Calls Tryz.prog 131 #[.agg #[.int .i64 i.pl, .int .i64 i.op, .int .i64 i.a, .int .i64 i.b, .complex .f64 (floatOfInt .f64 i.x) (floatOfInt .f64 i.y), .string (toStr i.tx), tv]] u fun e u' => e = .returned (.int .i64 (m : Nat)) ∧ Kept (fun _ => False) u u' := fun u => by
        have := cways i.op i.a (.int .i64 i.pl) (.int .i64 i.b) (.complex .f64 (floatOfInt .f64 i.x) (floatOfInt .f64 i.y)) (.string (toStr i.tx)) tv u
        rw [hm] at this
        exact this
      have hRW : ∀ u, Kept (fun _ => False) w' u → Calls Tryz.prog 130 #[.pointer (some ⟨b, 0, none⟩), .int .i64 ((l.length : Int) - (lf l p1 y1 : Nat)), .int .i64 m] u (WaysE l b g (rW l ((l.length - lf l p1 y1 : Nat) + 2 * (m : Int)) m p1 y1) u) := fun u k => by
        have := creadWays b g l p1 y1 (l.length - lf l p1 y1) m u hll h256 hp1 hy1 (by omega) hm2 (M.hr.kept k (fun h => h) (fun h => h))
        rw [show ((l.length - lf l p1 y1 : Nat) : Int) = (l.length : Int) - (lf l p1 y1 : Nat) by omega] at this ⊢
        exact this
      have hs := rW_step l ((l.length - lf l p1 y1 : Nat) + 2 * (m : Int)) m p1 y1 hp1 hy1
      clear he hm hwn
      generalize rW l ((l.length - lf l p1 y1 : Nat) + 2 * (m : Int)) m p1 y1 = R at *
      obtain ⟨to, p2, y2⟩ := R
      simp only at hs HE
      have hfit : ((lf l p1 y1 : Nat) : Int) ≤ 2048 := by omega
      generalize lf l p1 y1 = lv at *
      have q0 : Kept (fun _ => False) w' w'.drew := (Kept.refl _ w').drew
      have M0 := M.quiet q0
      obtain ⟨c0, c1, c2, c3, c4, c5, c6⟩ := M0.hB.cells
      have f6 := M0.hB.frozen 6
      have hmx : Tryz.prog.follows .mixedOrders = true := by kernel_rfl
      have HWR : Hid (IntKind.i64.wrap ((l.length : Int) - (lv : Nat)) = (l.length : Int) - (lv : Nat)) := by unfold Hid; rw [IntKind.wrap_i64]; omega
      refine wp_region_any hmx ?_
      refine wpAny_take (i := 0) (v := .pointer (some ⟨b, 0, none⟩)) rfl (by kernel_rfl) (by kernel_rfl) (by kernel_rfl) (fun _ _ _ h => h) (.inl ⟨by rfl, fun w => by go_simp⟩) ?_
      refine wpAny_take (i := 1) (v := .int .i64 l.length) rfl (by kernel_rfl) (by kernel_rfl) (by kernel_rfl) (fun _ _ _ h => h) (.inl ⟨by rfl, fun w => by go_simp⟩) ?_
      refine wpAny_take (i := 2) (v := .pointer (some ⟨b, 0, none⟩)) rfl (by kernel_rfl) (by kernel_rfl) (by kernel_rfl) (fun _ _ _ h => h) (.inl ⟨by rfl, fun w => by go_simp⟩) ?_
      show wpAny Tryz.prog .any _ _ _ _ _ w'.drew
      refine wpAny_ready (rs := [3, 5]) (by kernel_rfl) (by simp) ?_
      refine AllReady.cons rfl (fun K hK => ?_) (AllReady.cons rfl (fun K hK => ?_) AllReady.nil)
      · go_simp
        refine (hL w'.drew q0).mono ?_
        rintro e uL ⟨rfl, kuL⟩
        have quL : Kept (fun _ => False) w' uL := q0.trans kuL (fun _ _ h => h) (fun _ _ h => h)
        obtain ⟨c0, c1, c2, c3, c4, c5, c6⟩ := (M.quiet quL).hB.cells
        refine hK _ _ ?_
        clear hK K
        refine wpAny_take (i := 4) (v := .int .i64 ((l.length : Int) - (lv : Nat))) rfl (by kernel_rfl) (by kernel_rfl) (by kernel_rfl) (fun _ _ _ h => h) (.inl ⟨by rfl, fun w => by go_simp; exact HWR.out⟩) ?_
        refine wpAny_ready (rs := [5]) (by kernel_rfl) (by simp) ?_
        refine AllReady.cons rfl (fun K hK => ?_) AllReady.nil
        go_simp
        refine hK _ _ ?_
        clear hK K
        refine wpAny_ready (rs := [6]) (by kernel_rfl) (by simp) ?_
        refine AllReady.cons rfl (fun K hK => ?_) AllReady.nil
        go_simp
        refine (hW uL).mono ?_
        rintro e uW ⟨rfl, kuW⟩
        have quW : Kept (fun _ => False) w' uW := quL.trans kuW (fun _ _ h => h) (fun _ _ h => h)
        refine hK _ _ ?_
        clear hK K
        refine wpAny_ready (rs := [7]) (by kernel_rfl) (by simp) ?_
        refine AllReady.cons rfl (fun K hK => ?_) AllReady.nil
        go_simp
        refine (hRW uW quW).mono ?_
        rintro e uR ⟨rv, rfl, tR, rR, kR⟩
        have M2 := (M.quiet quW).ways tR rR kR
        obtain ⟨ra, rc, rfl⟩ := tR.shape
        have c6 := ((M.quiet quW).call rR kR).hB.cells.2.2.2.2.2.2
        have f6 := ((M.quiet quW).call rR kR).hB.frozen 6
        refine hK _ _ ?_
        clear hK K
        refine wpAny_take (i := 8) (v := .pointer (some ⟨iB, 6, none⟩)) rfl (by kernel_rfl) (by kernel_rfl) (by kernel_rfl) (fun _ _ _ h => h) (.inl ⟨by rfl, fun w => by go_simp⟩) ?_
        refine wpAny_ready (rs := [9]) (by kernel_rfl) (by simp) ?_
        refine AllReady.cons rfl (fun K hK => ?_) AllReady.nil
        go_simp
        refine hK _ _ ?_
        clear hK K
        refine wpAny_done (by kernel_rfl) ?_ _
        clear tR rR kR hL hW hRW c6 f6
        go_wp2
        rw [show (ByteArray.empty : ByteArray) = toStr [] from rfl]
        refine wp_goto ⟨rfl, ⟨[], { i with tos := to }, p2, y2, iB, _, ⟨_, _, _, _, _, _, _, _, _, _, _, _, _, _, _, _, _, _, _, _, _, _, _, _, _, _, _, _, _, _, _, _, _, _, _, _, _, _, _, _, _, _, _, _, _, _, _, _, _, _, _, _, _, _, _, _, _, _, _, _, _, _, _, _, _, _, _, _, _, rfl⟩, by simp [Sfx], M2, hs.1, hs.2.1, ha1, ha2, HE.out⟩, (by show (toStr []).size < (ByteArray.mk #[103]).size; decide)⟩
      · go_simp
        refine hK _ _ ?_
        clear hK K
        refine wpAny_ready (rs := [3]) (by kernel_rfl) (by simp) ?_
        refine AllReady.cons rfl (fun K hK => ?_) AllReady.nil
        go_simp
        refine (hL w'.drew q0).mono ?_
        rintro e uL ⟨rfl, kuL⟩
        have quL : Kept (fun _ => False) w' uL := q0.trans kuL (fun _ _ h => h) (fun _ _ h => h)
        obtain ⟨c0, c1, c2, c3, c4, c5, c6⟩ := (M.quiet quL).hB.cells
        refine hK _ _ ?_
        clear hK K
        refine wpAny_take (i := 4) (v := .int .i64 ((l.length : Int) - (lv : Nat))) rfl (by kernel_rfl) (by kernel_rfl) (by kernel_rfl) (fun _ _ _ h => h) (.inl ⟨by rfl, fun w => by go_simp; exact HWR.out⟩) ?_
        refine wpAny_ready (rs := [6]) (by kernel_rfl) (by simp) ?_
        refine AllReady.cons rfl (fun K hK => ?_) AllReady.nil
        go_simp
        refine (hW uL).mono ?_
        rintro e uW ⟨rfl, kuW⟩
        have quW : Kept (fun _ => False) w' uW := quL.trans kuW (fun _ _ h => h) (fun _ _ h => h)
        refine hK _ _ ?_
        clear hK K
        refine wpAny_ready (rs := [7]) (by kernel_rfl) (by simp) ?_
        refine AllReady.cons rfl (fun K hK => ?_) AllReady.nil
        go_simp
        refine (hRW uW quW).mono ?_
        rintro e uR ⟨rv, rfl, tR, rR, kR⟩
        have M2 := (M.quiet quW).ways tR rR kR
        obtain ⟨ra, rc, rfl⟩ := tR.shape
        have c6 := ((M.quiet quW).call rR kR).hB.cells.2.2.2.2.2.2
        have f6 := ((M.quiet quW).call rR kR).hB.frozen 6
        refine hK _ _ ?_
        clear hK K
        refine wpAny_take (i := 8) (v := .pointer (some ⟨iB, 6, none⟩)) rfl (by kernel_rfl) (by kernel_rfl) (by kernel_rfl) (fun _ _ _ h => h) (.inl ⟨by rfl, fun w => by go_simp⟩) ?_
        refine wpAny_ready (rs := [9]) (by kernel_rfl) (by simp) ?_
        refine AllReady.cons rfl (fun K hK => ?_) AllReady.nil
        go_simp
        refine hK _ _ ?_
        clear hK K
        refine wpAny_done (by kernel_rfl) ?_ _
        clear tR rR kR hL hW hRW c6 f6
        go_wp2
        rw [show (ByteArray.empty : ByteArray) = toStr [] from rfl]
        refine wp_goto ⟨rfl, ⟨[], { i with tos := to }, p2, y2, iB, _, ⟨_, _, _, _, _, _, _, _, _, _, _, _, _, _, _, _, _, _, _, _, _, _, _, _, _, _, _, _, _, _, _, _, _, _, _, _, _, _, _, _, _, _, _, _, _, _, _, _, _, _, _, _, _, _, _, _, _, _, _, _, _, _, _, _, _, _, _, _, _, rfl⟩, by simp [Sfx], M2, hs.1, hs.2.1, ha1, ha2, HE.out⟩, (by show (toStr []).size < (ByteArray.mk #[103]).size; decide)⟩
    · obtain ⟨u2, u3, u7, u8, u9, u10, u11, u12, u13, u14, u15, u16, u17, u18, u19, u20, u21, u22, u23, u24, u25, u26, u27, u28, u29, u30, u31, u32, u33, u34, u35, u36, u37, u38, u39, u40, u41, u42, u43, u44, u45, u46, u47, u48, u49, u50, u51, u52, u53, u54, u55, u56, u57, u58, u59, u60, u61, u62, u63, u64, u65, u66, u67, u68, u69, u70, u71, u72, u73, rfl⟩ := hsh
      rw [show toStr [97, 98] = ⟨#[97, 98]⟩ from rfl]
      have hc := cbyte b g l p1 y1 w' hll h256 hp1 M.hr
      have hs := rB_step l p1 y1 hp1 hy1
      have hlt := rB_lt l p1 y1 h256
      have HE : Hid (flds l [98] { i with a := ((rB l p1 y1).1 : Nat) } (rB l p1 y1).2.1 (fU (rB l p1 y1).2.2 (rcR i.op ((rB l p1 y1).1 : Nat))) = rdI l p) := he
      clear he
      generalize rB l p1 y1 = R at *
      obtain ⟨q, p2, y2⟩ := R
      simp only at hc hs hlt HE
      go_wp2_with fail
      refine hc.mono ?_
      rintro e w1 ⟨rfl, k1, k2⟩
      have M1 := M.call k1 k2
      obtain ⟨c0, c1, c2, c3, c4, c5, c6⟩ := M1.hB.cells
      have f2 := M1.hB.frozen 2
      have M2 := M1.set 2 (.int .i64 q) { i with a := (q : Nat) } tv rfl M1.hT
      clear hc M M1 k1 k2
      obtain ⟨d0, d1, d2, d3, d4, d5, d6⟩ := M2.hB.cells
      simp only at d0 d1 d2 d3 d4 d5 d6
      have hcc := ccount i.op (q : Nat) (.int .i64 i.pl) (.int .i64 i.b) (.complex .f64 (floatOfInt .f64 i.x) (floatOfInt .f64 i.y)) (.string (toStr i.tx)) tv (w1.setCell ⟨iB, 2, none⟩ (.int .i64 q))
      generalize floatOfInt .f64 i.x = ix at *
      generalize floatOfInt .f64 i.y = iy at *
      generalize toStr i.tx = tI at *
      go_wp2_with fail
      generalize w1.setCell ⟨iB, 2, none⟩ (.int .i64 q) = w2 at *
      refine hcc.mono ?_
      rintro e w3 ⟨rfl, k3⟩
      have M3 := M2.quiet k3
      have hcf := cfail (rcR i.op (q : Nat)) b g l p2 y2 w3 M3.hr
      generalize hfu : fU y2 (rcR i.op (q : Nat)) = y3 at *
      have hy3 : Yw y3 := by rw [← hfu]; exact fU_yw hs.2.1 _
      clear hfu d0 d1 d2 d3 d4 d5 d6 c0 c1 c2 c3 c4 c5 c6 f2 hcc M2 k3
      generalize rcR i.op (q : Nat) = okc at *
      go_wp2_with fail
      refine hcf.mono ?_
      rintro e w4 ⟨rfl, k1, k2⟩
      have M4 := M3.call k1 k2
      clear hcf M3 k1 k2
      go_wp2
      rw [show (ByteArray.mk #[97, 98]).extract 1 2 = toStr [98] from rfl]
      refine wp_goto ⟨rfl, ⟨[98], { i with a := (q : Nat) }, p2, y3, iB, tv, ⟨_, _, _, _, _, _, _, _, _, _, _, _, _, _, _, _, _, _, _, _, _, _, _, _, _, _, _, _, _, _, _, _, _, _, _, _, _, _, _, _, _, _, _, _, _, _, _, _, _, _, _, _, _, _, _, _, _, _, _, _, _, _, _, _, _, _, _, _, _, rfl⟩, by simp [Sfx], M4, hs.1, hy3, (by show (0 : Int) ≤ (q : Nat); omega), (by show ((q : Nat) : Int) ≤ 255; omega), HE.out⟩, (by show (toStr [98]).size < (ByteArray.mk #[97, 98]).size; decide)⟩
    · obtain ⟨u2, u3, u7, u8, u9, u10, u11, u12, u13, u14, u15, u16, u17, u18, u19, u20, u21, u22, u23, u24, u25, u26, u27, u28, u29, u30, u31, u32, u33, u34, u35, u36, u37, u38, u39, u40, u41, u42, u43, u44, u45, u46, u47, u48, u49, u50, u51, u52, u53, u54, u55, u56, u57, u58, u59, u60, u61, u62, u63, u64, u65, u66, u67, u68, u69, u70, u71, u72, u73, rfl⟩ := hsh
      rw [show toStr [98] = ⟨#[98]⟩ from rfl]
      have hc := cbyte b g l p1 y1 w' hll h256 hp1 M.hr
      have hs := rB_step l p1 y1 hp1 hy1
      have hlt := rB_lt l p1 y1 h256
      have HE : Hid (flds l [] { i with b := ((rB l p1 y1).1 : Nat) } (rB l p1 y1).2.1 (rB l p1 y1).2.2 = rdI l p) := he
      clear he
      generalize rB l p1 y1 = R at *
      obtain ⟨q, p2, y2⟩ := R
      simp only at hc hs hlt HE
      go_wp2_with fail
      refine hc.mono ?_
      rintro e w1 ⟨rfl, k1, k2⟩
      have M1 := M.call k1 k2
      obtain ⟨c0, c1, c2, c3, c4, c5, c6⟩ := M1.hB.cells
      have f3 := M1.hB.frozen 3
      have M2 := M1.set 3 (.int .i64 q) { i with b := (q : Nat) } tv rfl M1.hT
      clear hc M M1 k1 k2
      go_wp2
      rw [show (ByteArray.empty : ByteArray) = toStr [] from rfl]
      refine wp_goto ⟨rfl, ⟨[], { i with b := (q : Nat) }, p2, y2, iB, tv, ⟨_, _, _, _, _, _, _, _, _, _, _, _, _, _, _, _, _, _, _, _, _, _, _, _, _, _, _, _, _, _, _, _, _, _, _, _, _, _, _, _, _, _, _, _, _, _, _, _, _, _, _, _, _, _, _, _, _, _, _, _, _, _, _, _, _, _, _, _, _, rfl⟩, by simp [Sfx], M2, hs.1, hs.2.1, ha1, ha2, HE.out⟩, (by show (toStr []).size < (ByteArray.mk #[98]).size; decide)⟩
    · obtain ⟨u2, u3, u7, u8, u9, u10, u11, u12, u13, u14, u15, u16, u17, u18, u19, u20, u21, u22, u23, u24, u25, u26, u27, u28, u29, u30, u31, u32, u33, u34, u35, u36, u37, u38, u39, u40, u41, u42, u43, u44, u45, u46, u47, u48, u49, u50, u51, u52, u53, u54, u55, u56, u57, u58, u59, u60, u61, u62, u63, u64, u65, u66, u67, u68, u69, u70, u71, u72, u73, rfl⟩ := hsh
      rw [show toStr [97, 114] = ⟨#[97, 114]⟩ from rfl]
      have hc := cbyte b g l p1 y1 w' hll h256 hp1 M.hr
      have hs := rB_step l p1 y1 hp1 hy1
      have hlt := rB_lt l p1 y1 h256
      have HE : Hid (flds l [114] { i with a := ((rB l p1 y1).1 : Nat) } (rB l p1 y1).2.1 (fU (rB l p1 y1).2.2 (rcR i.op ((rB l p1 y1).1 : Nat))) = rdI l p) := he
      clear he
      generalize rB l p1 y1 = R at *
      obtain ⟨q, p2, y2⟩ := R
      simp only at hc hs hlt HE
      go_wp2_with fail
      refine hc.mono ?_
      rintro e w1 ⟨rfl, k1, k2⟩
      have M1 := M.call k1 k2
      obtain ⟨c0, c1, c2, c3, c4, c5, c6⟩ := M1.hB.cells
      have f2 := M1.hB.frozen 2
      have M2 := M1.set 2 (.int .i64 q) { i with a := (q : Nat) } tv rfl M1.hT
      clear hc M M1 k1 k2
      obtain ⟨d0, d1, d2, d3, d4, d5, d6⟩ := M2.hB.cells
      simp only at d0 d1 d2 d3 d4 d5 d6
      have hcc := ccount i.op (q : Nat) (.int .i64 i.pl) (.int .i64 i.b) (.complex .f64 (floatOfInt .f64 i.x) (floatOfInt .f64 i.y)) (.string (toStr i.tx)) tv (w1.setCell ⟨iB, 2, none⟩ (.int .i64 q))
      generalize floatOfInt .f64 i.x = ix at *
      generalize floatOfInt .f64 i.y = iy at *
      generalize toStr i.tx = tI at *
      go_wp2_with fail
      generalize w1.setCell ⟨iB, 2, none⟩ (.int .i64 q) = w2 at *
      refine hcc.mono ?_
      rintro e w3 ⟨rfl, k3⟩
      have M3 := M2.quiet k3
      have hcf := cfail (rcR i.op (q : Nat)) b g l p2 y2 w3 M3.hr
      generalize hfu : fU y2 (rcR i.op (q : Nat)) = y3 at *
      have hy3 : Yw y3 := by rw [← hfu]; exact fU_yw hs.2.1 _
      clear hfu d0 d1 d2 d3 d4 d5 d6 c0 c1 c2 c3 c4 c5 c6 f2 hcc M2 k3
      generalize rcR i.op (q : Nat) = okc at *
      go_wp2_with fail
      refine hcf.mono ?_
      rintro e w4 ⟨rfl, k1, k2⟩
      have M4 := M3.call k1 k2
      clear hcf M3 k1 k2
      go_wp2
      rw [show (ByteArray.mk #[97, 114]).extract 1 2 = toStr [114] from rfl]
      refine wp_goto ⟨rfl, ⟨[114], { i with a := (q : Nat) }, p2, y3, iB, tv, ⟨_, _, _, _, _, _, _, _, _, _, _, _, _, _, _, _, _, _, _, _, _, _, _, _, _, _, _, _, _, _, _, _, _, _, _, _, _, _, _, _, _, _, _, _, _, _, _, _, _, _, _, _, _, _, _, _, _, _, _, _, _, _, _, _, _, _, _, _, _, rfl⟩, by simp [Sfx], M4, hs.1, hy3, (by show (0 : Int) ≤ (q : Nat); omega), (by show ((q : Nat) : Int) ≤ 255; omega), HE.out⟩, (by show (toStr [114]).size < (ByteArray.mk #[97, 114]).size; decide)⟩
    · obtain ⟨u2, u3, u7, u8, u9, u10, u11, u12, u13, u14, u15, u16, u17, u18, u19, u20, u21, u22, u23, u24, u25, u26, u27, u28, u29, u30, u31, u32, u33, u34, u35, u36, u37, u38, u39, u40, u41, u42, u43, u44, u45, u46, u47, u48, u49, u50, u51, u52, u53, u54, u55, u56, u57, u58, u59, u60, u61, u62, u63, u64, u65, u66, u67, u68, u69, u70, u71, u72, u73, rfl⟩ := hsh
      rw [show toStr [114] = ⟨#[114]⟩ from rfl]
      have hc := cpair b g l p1 y1 w' hll h256 hp1 M.hr
      have hs := rP_step l p1 y1 hp1 hy1
      have HE : Hid (flds l [] i (rP l p1 y1).2.1 (fU (rP l p1 y1).2.2 (decide ((rP l p1 y1).1 = 0))) = rdI l p) := he
      clear he
      generalize rP l p1 y1 = R at *
      obtain ⟨q, p2, y2⟩ := R
      simp only at hc hs HE
      go_wp2_with fail
      refine hc.mono ?_
      rintro e w1 ⟨rfl, k1, k2⟩
      have M1 := M.call k1 k2
      have hcf := cfail (decide (q = 0)) b g l p2 y2 w1 M1.hr
      have hde : (decide (q = 0)) = ((q : Int) == 0) := by
        by_cases h0 : q = 0
        · subst h0; rfl
        · rw [decide_eq_false h0]; symm; rw [beq_eq_false_iff_ne]; omega
      generalize hfu : fU y2 (decide (q = 0)) = y3 at *
      have hy3 : Yw y3 := by rw [← hfu]; exact fU_yw hs.2.1 _
      clear hfu hc M k1 k2
      rw [hde] at hcf
      clear hde
      go_wp2_with fail
      refine hcf.mono ?_
      rintro e w4 ⟨rfl, k1, k2⟩
      have M4 := M1.call k1 k2
      clear hcf M1 k1 k2
      go_wp2
      rw [show (ByteArray.empty : ByteArray) = toStr [] from rfl]
      refine wp_goto ⟨rfl, ⟨[], i, p2, y3, iB, tv, ⟨_, _, _, _, _, _, _, _, _, _, _, _, _, _, _, _, _, _, _, _, _, _, _, _, _, _, _, _, _, _, _, _, _, _, _, _, _, _, _, _, _, _, _, _, _, _, _, _, _, _, _, _, _, _, _, _, _, _, _, _, _, _, _, _, _, _, _, _, _, rfl⟩, by simp [Sfx], M4, hs.1, hy3, ha1, ha2, HE.out⟩, (by show (toStr []).size < (ByteArray.mk #[114]).size; decide)⟩
    · obtain ⟨u2, u3, u7, u8, u9, u10, u11, u12, u13, u14, u15, u16, u17, u18, u19, u20, u21, u22, u23, u24, u25, u26, u27, u28, u29, u30, u31, u32, u33, u34, u35, u36, u37, u38, u39, u40, u41, u42, u43, u44, u45, u46, u47, u48, u49, u50, u51, u52, u53, u54, u55, u56, u57, u58, u59, u60, u61, u62, u63, u64, u65, u66, u67, u68, u69, u70, u71, u72, u73, rfl⟩ := hsh
      rw [show toStr [97, 114, 103] = ⟨#[97, 114, 103]⟩ from rfl]
      have hc := cbyte b g l p1 y1 w' hll h256 hp1 M.hr
      have hs := rB_step l p1 y1 hp1 hy1
      have hlt := rB_lt l p1 y1 h256
      have HE : Hid (flds l [114, 103] { i with a := ((rB l p1 y1).1 : Nat) } (rB l p1 y1).2.1 (fU (rB l p1 y1).2.2 (rcR i.op ((rB l p1 y1).1 : Nat))) = rdI l p) := he
      clear he
      generalize rB l p1 y1 = R at *
      obtain ⟨q, p2, y2⟩ := R
      simp only at hc hs hlt HE
      go_wp2_with fail
      refine hc.mono ?_
      rintro e w1 ⟨rfl, k1, k2⟩
      have M1 := M.call k1 k2
      obtain ⟨c0, c1, c2, c3, c4, c5, c6⟩ := M1.hB.cells
      have f2 := M1.hB.frozen 2
      have M2 := M1.set 2 (.int .i64 q) { i with a := (q : Nat) } tv rfl M1.hT
      clear hc M M1 k1 k2
      obtain ⟨d0, d1, d2, d3, d4, d5, d6⟩ := M2.hB.cells
      simp only at d0 d1 d2 d3 d4 d5 d6
      have hcc := ccount i.op (q : Nat) (.int .i64 i.pl) (.int .i64 i.b) (.complex .f64 (floatOfInt .f64 i.x) (floatOfInt .f64 i.y)) (.string (toStr i.tx)) tv (w1.setCell ⟨iB, 2, none⟩ (.int .i64 q))
      generalize floatOfInt .f64 i.x = ix at *
      generalize floatOfInt .f64 i.y = iy at *
      generalize toStr i.tx = tI at *
      go_wp2_with fail
      generalize w1.setCell ⟨iB, 2, none⟩ (.int .i64 q) = w2 at *
      refine hcc.mono ?_
      rintro e w3 ⟨rfl, k3⟩
      have M3 := M2.quiet k3
      have hcf := cfail (rcR i.op (q : Nat)) b g l p2 y2 w3 M3.hr
      generalize hfu : fU y2 (rcR i.op (q : Nat)) = y3 at *
      have hy3 : Yw y3 := by rw [← hfu]; exact fU_yw hs.2.1 _
      clear hfu d0 d1 d2 d3 d4 d5 d6 c0 c1 c2 c3 c4 c5 c6 f2 hcc M2 k3
      generalize rcR i.op (q : Nat) = okc at *
      go_wp2_with fail
      refine hcf.mono ?_
      rintro e w4 ⟨rfl, k1, k2⟩
      have M4 := M3.call k1 k2
      clear hcf M3 k1 k2
      go_wp2
      rw [show (ByteArray.mk #[97, 114, 103]).extract 1 3 = toStr [114, 103] from rfl]
      refine wp_goto ⟨rfl, ⟨[114, 103], { i with a := (q : Nat) }, p2, y3, iB, tv, ⟨_, _, _, _, _, _, _, _, _, _, _, _, _, _, _, _, _, _, _, _, _, _, _, _, _, _, _, _, _, _, _, _, _, _, _, _, _, _, _, _, _, _, _, _, _, _, _, _, _, _, _, _, _, _, _, _, _, _, _, _, _, _, _, _, _, _, _, _, _, rfl⟩, by simp [Sfx], M4, hs.1, hy3, (by show (0 : Int) ≤ (q : Nat); omega), (by show ((q : Nat) : Int) ≤ 255; omega), HE.out⟩, (by show (toStr [114, 103]).size < (ByteArray.mk #[97, 114, 103]).size; decide)⟩
    · obtain ⟨u2, u3, u7, u8, u9, u10, u11, u12, u13, u14, u15, u16, u17, u18, u19, u20, u21, u22, u23, u24, u25, u26, u27, u28, u29, u30, u31, u32, u33, u34, u35, u36, u37, u38, u39, u40, u41, u42, u43, u44, u45, u46, u47, u48, u49, u50, u51, u52, u53, u54, u55, u56, u57, u58, u59, u60, u61, u62, u63, u64, u65, u66, u67, u68, u69, u70, u71, u72, u73, rfl⟩ := hsh
      rw [show toStr [114, 103] = ⟨#[114, 103]⟩ from rfl]
      have hc := cpair b g l p1 y1 w' hll h256 hp1 M.hr
      have hs := rP_step l p1 y1 hp1 hy1
      have HE : Hid (flds l [103] i (rP l p1 y1).2.1 (fU (rP l p1 y1).2.2 (decide ((rP l p1 y1).1 = 0))) = rdI l p) := he
      clear he
      generalize rP l p1 y1 = R at *
      obtain ⟨q, p2, y2⟩ := R
      simp only at hc hs HE
      go_wp2_with fail
      refine hc.mono ?_
      rintro e w1 ⟨rfl, k1, k2⟩
      have M1 := M.call k1 k2
      have hcf := cfail (decide (q = 0)) b g l p2 y2 w1 M1.hr
      have hde : (decide (q = 0)) = ((q : Int) == 0) := by
        by_cases h0 : q = 0
        · subst h0; rfl
        · rw [decide_eq_false h0]; symm; rw [beq_eq_false_iff_ne]; omega
      generalize hfu : fU y2 (decide (q = 0)) = y3 at *
      have hy3 : Yw y3 := by rw [← hfu]; exact fU_yw hs.2.1 _
      clear hfu hc M k1 k2
      rw [hde] at hcf
      clear hde
      go_wp2_with fail
      refine hcf.mono ?_
      rintro e w4 ⟨rfl, k1, k2⟩
      have M4 := M1.call k1 k2
      clear hcf M1 k1 k2
      go_wp2
      rw [show (ByteArray.mk #[114, 103]).extract 1 2 = toStr [103] from rfl]
      refine wp_goto ⟨rfl, ⟨[103], i, p2, y3, iB, tv, ⟨_, _, _, _, _, _, _, _, _, _, _, _, _, _, _, _, _, _, _, _, _, _, _, _, _, _, _, _, _, _, _, _, _, _, _, _, _, _, _, _, _, _, _, _, _, _, _, _, _, _, _, _, _, _, _, _, _, _, _, _, _, _, _, _, _, _, _, _, _, rfl⟩, by simp [Sfx], M4, hs.1, hy3, ha1, ha2, HE.out⟩, (by show (toStr [103]).size < (ByteArray.mk #[114, 103]).size; decide)⟩
end Go.Proofs.YtdeckknfolaaeaaGreatDoor.Wire
