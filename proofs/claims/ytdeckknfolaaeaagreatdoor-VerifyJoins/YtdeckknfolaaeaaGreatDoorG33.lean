/-
  verify's Fun: a function of an object that has no relocations, whose code names nothing.
-/
import Derived.Test.YtdeckknfolaaeaaGreatDoorG31
import Derived.Test.YtdeckknfolaaeaaGreatDoorG32
import Derived.Test.YtdeckknfolaaeaaGreatDoorG27
import Derived.Test.YtdeckknfolaaeaaGreatDoorG19
import Derived.Test.YtdeckknfolaaeaaGreatDoorG09
import Derived.Deep.RegionHeld3
namespace Go.Proofs.YtdeckknfolaaeaaGreatDoor
open Go.RowKit Go.Maps

theorem insG {B ty : Nat} {w : World} {v : Value} {l : List Wire.Ins} (h : Wire.RowG Wire.cIns ty 7 B w v l) : Wire.InsR (fun g => B ≤ g ∧ g < w.heap.size) w v l := by
  by_cases h0 : l.length = 0
  · obtain ⟨a, c, rfl⟩ := h.shape
    refine .inl ⟨a, c, by rw [h0], List.eq_nil_of_length_eq_zero h0⟩
  · obtain ⟨g, cap, _, hv, hc, hg, _⟩ := h.at Wire.cIns_ok 0 (by omega)
    refine .inr ⟨g, 0, cap, hv, hc, hg, fun j x hj => ?_⟩
    obtain ⟨hjl, rfl⟩ := List.getElem?_eq_some_iff.1 hj
    obtain ⟨g2, cap2, c, hv2, _, _, ⟨tv, hc1, hc2⟩, hcell⟩ := h.at Wire.cIns_ok j hjl
    rw [hv] at hv2
    simp only [Value.slice.injEq, Option.some.injEq, Addr.mk.injEq, and_true, true_and] at hv2
    obtain ⟨rfl, rfl⟩ := hv2
    refine ⟨tv, hc2, fun k u hu => ?_⟩
    rw [Nat.zero_add]
    refine hcell k u ?_
    rw [hc1]
    simpa using hu
theorem byR_rd {F : Nat → Prop} {w : World} {v : Value} {l : List UInt8} (h : ByR F w v l) (hne : l ≠ []) : ∃ b, F b ∧ Wire.Rd w b v (l.map (·.toNat)) := by
  rcases h with ⟨a, c, _, e⟩ | ⟨g, o, cap, rfl, _, hg, hc⟩
  · exact absurd e hne
  · refine ⟨g, hg, .inr ⟨⟨g, o, none⟩, cap, by simp, rfl, fun j u hu => ?_⟩⟩
    simp only [Wire.bs, List.map_map, List.getElem?_map, Option.map_eq_some_iff] at hu
    obtain ⟨x, hx, rfl⟩ := hu
    rw [add_noneV]
    exact hc j x hx
theorem sizeOb15 : (Tryz.prog.info? 31).map (·.size) = some 8 := by kernel_rfl
theorem sizeWk : (Tryz.prog.info? 97).map (·.size) = some 13 := by kernel_rfl
/-- A whole struct is stored, in a region that draws. -/
theorem step_store_row {P : Program} {w : World} {ops : Array Oper} {o : Oper} {a : Act} {K : Act → World → Prop} {Q : Exit → Act → World → Prop} {Z : Prop} (hgd : o.guard = none) (ty : TypeId) (x y : Operand) (ho : o.op = .store ty x y)
    (g : Nat) (cells : Array Value) (hx : a.eval x = .pointer (some ⟨g, 0, none⟩)) (hy : a.eval y = .agg cells) (t : TypeId) (old : Array Value) (hg : w.heap[g]? = some (.cells old t (0, 0))) (hi : (P.info? ty).map (·.size) = some cells.size) (hold : old.size = cells.size) (h1 : cells.all (·.oneCell') = true)
    (h : K (a.put o.dst undef) (w.setRow g cells)) : if Region.wanted o (yielded ops a.tmps) = true then Oper.wp P o a w K Q else Z := by
  have hw : Region.wanted o (yielded ops a.tmps) = true := by simp [Region.wanted, hgd]
  rw [if_pos hw]
  exact wp_store_row ty x y ho g cells hx hy t old hg hi hold h1 h
theorem toNat_lt (l : List UInt8) : ∀ x ∈ l.map (·.toNat), x < 256 := by
  intro x hx
  obtain ⟨y, _, rfl⟩ := List.mem_map.1 hx
  exact UInt8.toNat_lt y
def codeD (f : Fn) : (Nat × Nat) × List Wire.Ins := Wire.decodeR (f.code.map (·.toNat))
/-- Fun: what is refused, and where, of code that names nothing. -/
def funV (oth : Wire.Ins → Wk → Nat × Wk) (f : Fn) : Nat × Int := if (codeD f).1.1 ≠ 0 then ((codeD f).1.1, ((codeD f).1.2 : Int)) else thruE f.res oth (codeD f).2 (firstL f)
/-- Two numbers; nothing below is turned. -/
def TwoI (p : Nat × Int) (w : World) (e : Ending) (w' : World) : Prop := e = .returned (.tuple #[.int .i64 (p.1 : Int), .int .i64 p.2]) ∧ Below w.heap.size w w'
theorem first_len (f : Fn) : (firstL f).length = firstN f ∧ (firstL f).length ≤ 256 := by
  have h1 : (firstL f).length = firstN f := by
    rw [firstL, length_splice _ _ _ (by simp; omega)]
    simp
  refine ⟨h1, ?_⟩
  rw [h1]
  unfold firstN
  omega
theorem arr_all (u : ObV) (m res : List UInt8) (L : Nat) (hL : L ≤ 256) : ArrAll u m res L := fun _ _ _ _ _ _ _ _ _ _ _ _ h hp hcp hpb hok hl => varrive hL h hp hcp hpb hok hl
set_option maxRecDepth 1000000 in
set_option maxHeartbeats 4000000 in
theorem vfun (F : Nat → Prop) (u : ObV) (o : Ob) (n : Nat) (hn : n < o.funs.length) (w : World) (h : ObR F w u o) (hF : ∀ g, F g → g < w.heap.size) (hrel : o.relocs = []) (hne : o.funs[n].code ≠ []) (hcl : o.funs[n].code.length ≤ 140737488355328) (oth : Wire.Ins → Wk → Nat × Wk) (hgood : (codeD o.funs[n]).1.1 = 0 → Wire.refsR (codeD o.funs[n]).2 = [] ∧ FitI (codeD o.funs[n]).2) :
    Calls Tryz.prog 17 #[obv u o.mod, .int .i64 (n : Int)] w (TwoI (funV oth o.funs[n]) w) := by
  obtain ⟨a1, c1, e1⟩ := h.types.shape
  obtain ⟨a2, c2, e2⟩ := h.texts.1.shape
  obtain ⟨a3, c3, e3⟩ := h.globals.shape
  obtain ⟨a5, c5, e5⟩ := h.exports.1.shape
  obtain ⟨a6, c6, e6⟩ := h.symbols.shape
  obtain ⟨a7, c7, e7⟩ := h.relocs.shape
  rw [hrel] at e7
  obtain ⟨gf, of, cap, cs, e4, hcap, hgF, hC, hcell⟩ := h.funs.at n hn
  obtain ⟨pv, kv, rfl, hpv, hkv⟩ := hC
  have hpr := hpv.1.row hF (fun a n c e => hpv.2 a n c e)
  obtain ⟨ka, kc, rfl⟩ := hkv.shape
  obtain ⟨cb, hcb, hrd⟩ := byR_rd hkv hne
  obtain ⟨pa, pc, rfl⟩ := hpr.shape
  clear h
  obtain ⟨tv, xv, gv, fv, ev, sv, rv⟩ := u
  unfold obv
  simp only at *
  subst e1 e2 e3 e4 e5 e6 e7
  have hni : (n : Int) < ((o.funs.length : Nat) : Int) := by omega
  have hidx : inO (n : Int) (o.funs.length : Int) = true := by simp [inO, hni]
  obtain ⟨q0, q1, q2, q3, q4, q5⟩ : w.cell? ⟨gf, of + n * 6, none⟩ = some (.string (str o.funs[n].name)) ∧ w.cell? ⟨gf, of + n * 6 + 1, none⟩ = some (.slice pa o.funs[n].params.length pc) ∧ w.cell? ⟨gf, of + n * 6 + 2, none⟩ = some (.int .i64 o.funs[n].caps) ∧ w.cell? ⟨gf, of + n * 6 + 3, none⟩ = some (.string (str o.funs[n].res)) ∧ w.cell? ⟨gf, of + n * 6 + 4, none⟩ = some (.int .i64 o.funs[n].locals) ∧ w.cell? ⟨gf, of + n * 6 + 5, none⟩ = some (.slice ka o.funs[n].code.length kc) := ⟨hcell 0 _ rfl, hcell 1 _ rfl, hcell 2 _ rfl, hcell 3 _ rfl, hcell 4 _ rfl, hcell 5 _ rfl⟩
  clear hcell
  generalize o.types.length = n1 at *
  generalize o.texts.length = n2 at *
  generalize o.globals.length = n3 at *
  generalize o.exports.length = n5 at *
  generalize o.symbols.length = n6 at *
  generalize o.mod = m at *
  generalize o.funs[n] = f at *
  generalize hNf : o.funs.length = nf at *
  have hb1 : Below w.heap.size w (w.alloc (.cells #[.string (str m), .slice a1 n1 c1, .slice a2 n2 c2, .slice a3 n3 c3, .slice (some ⟨gf, of, none⟩) nf cap, .slice a5 n5 c5, .slice a6 n6 c6, .slice a7 0 c7] 31)) := (Below.refl _ w).alloc (Nat.le_refl _) _
  have hx1 := World.alloc_heap_new w (.cells #[.string (str m), .slice a1 n1 c1, .slice a2 n2 c2, .slice a3 n3 c3, .slice (some ⟨gf, of, none⟩) nf cap, .slice a5 n5 c5, .slice a6 n6 c6, .slice a7 0 c7] 31)
  generalize hW1 : w.alloc (.cells #[.string (str m), .slice a1 n1 c1, .slice a2 n2 c2, .slice a3 n3 c3, .slice (some ⟨gf, of, none⟩) nf cap, .slice a5 n5 c5, .slice a6 n6 c6, .slice a7 0 c7] 31) = w1 at *
  have HO : Hid (∀ v, Below w.heap.size w v → (v.cell? ⟨gf, of + n * 6, none⟩ = some (.string (str f.name)) ∧ v.cell? ⟨gf, of + n * 6 + 1, none⟩ = some (.slice pa f.params.length pc) ∧ v.cell? ⟨gf, of + n * 6 + 2, none⟩ = some (.int .i64 f.caps) ∧ v.cell? ⟨gf, of + n * 6 + 3, none⟩ = some (.string (str f.res)) ∧ v.cell? ⟨gf, of + n * 6 + 4, none⟩ = some (.int .i64 f.locals) ∧ v.cell? ⟨gf, of + n * 6 + 5, none⟩ = some (.slice ka f.code.length kc)) ∧ StrRow v (.slice pa f.params.length pc) f.params ∧ Wire.Rd v cb (.slice ka f.code.length kc) (f.code.map (·.toNat))) := fun v hv => by
    have hb : ∀ j x, w.cell? ⟨gf, j, none⟩ = some x → v.cell? ⟨gf, j, none⟩ = some x := fun j x hx => (World.cell?_of_block (a := ⟨gf, j, none⟩) (hv.block gf (hF gf hgF))).trans hx
    exact ⟨⟨hb _ _ q0, hb _ _ q1, hb _ _ q2, hb _ _ q3, hb _ _ q4, hb _ _ q5⟩, hpr.below hv, hrd.kept (S := fun _ => False) ⟨hv.os, hv.tape, hv.output, hv.size, fun b hb _ => hv.block b hb⟩ (fun h => h)⟩
  have hz1 : w1.heap.size = w.heap.size + 1 := by rw [← hW1]; simp
  have HX : Hid (∀ v, Below w1.heap.size w1 v → v.heap[w.heap.size]? = some (.cells #[.string (str m), .slice a1 n1 c1, .slice a2 n2 c2, .slice a3 n3 c3, .slice (some ⟨gf, of, none⟩) nf cap, .slice a5 n5 c5, .slice a6 n6 c6, .slice a7 0 c7] 31 (0, 0))) := fun v hv => (hv.block _ (by omega)).trans hx1
  have HB1 := hidden hb1
  clear q0 q1 q2 q3 q4 q5 hb1 hpr hrd hpv hkv
  obtain ⟨⟨q0, q1, q2, q3, q4, q5⟩, hps, hrd⟩ := HO.out w1 HB1.out
  have x4 : w1.cell? ⟨w.heap.size, 4, none⟩ = some (.slice (some ⟨gf, of, none⟩) nf cap) := by rw [cell_of_row _ _ 4 _ _ _ hx1]; rfl
  have hix := visIdx (n : Int) (nf : Int) w1
  rw [hidx] at hix
  have hdc := Wire.cdecode (.slice ka f.code.length kc) cb (f.code.map (·.toNat)) w1 (toNat_lt _) (by rw [List.length_map]; exact hcl) hrd
  obtain ⟨OC, hOC⟩ : ∃ OC : Array Value, OC = #[.string (str m), .slice a1 n1 c1, .slice a2 n2 c2, .slice a3 n3 c3, .slice (some ⟨gf, of, none⟩) nf cap, .slice a5 n5 c5, .slice a6 n6 c6, .slice a7 0 c7] := ⟨_, rfl⟩
  have hsy : ∀ W, Calls Tryz.prog 28 #[.agg OC, .int .i64 (n : Int)] W fun e w' => e = .returned (.map (some (W.heap.size + 1))) ∧ MapI w' (W.heap.size + 1) 0 (fun _ => none) ∧ Below W.heap.size W w' := fun W => by
    rw [hOC]
    exact vsyms0 m a1 a2 a3 _ a5 a6 a7 n1 n2 n3 nf n5 n6 c1 c2 c3 cap c5 c6 c7 (n : Int) W
  have hls : ∀ (W : World) (ar : Option Addr) (cr : Nat) (sy : Value), Calls Tryz.prog 29 #[.agg OC, .int .i64 (n : Int), .slice ar 0 cr, sy] W fun e w' => e = .returned (.tuple #[.int .i64 0, .bool false]) ∧ Below W.heap.size W w' := fun W ar cr sy => by
    rw [hOC]
    exact vloose0 m a1 a2 a3 _ a5 a6 a7 ar n1 n2 n3 nf n5 n6 c1 c2 c3 cap c5 c6 c7 cr (n : Int) sy W
  have hsz : (Tryz.prog.info? 31).map (·.size) = some OC.size := by rw [hOC]; exact sizeOb15
  have HOC := hidden hOC
  rw [← hOC] at HX
  clear hOC
  go_enter Tryz.func17, Tryz.ntmps17
  go_wp2_with fail
  refine hix.mono ?_
  rintro e w2 ⟨rfl, hw2⟩
  obtain rfl := hw2.symm
  go_wp2_with fail
  refine hdc.mono ?_
  rintro e w2 ⟨v, B, rfl, hrow, hB, K2⟩
  have hFV : Hid (funV oth f = if (codeD f).1.1 ≠ 0 then ((codeD f).1.1, ((codeD f).1.2 : Int)) else thruE f.res oth (codeD f).2 (firstL f)) := rfl
  have HG := hidden hgood
  have HROW := hidden (insG hrow)
  have HBB := hidden hB
  have hb2 := below_kept K2
  have hB2 : Below w.heap.size w w2 := below_trans HB1.out hb2
  have HB2 := hidden hB2
  have HX2 := hidden (HX.out w2 hb2)
  have hK2z := hb2.size
  have hwz2 : w.heap.size < w2.heap.size := by omega
  have hcd : Wire.decodeR (f.code.map (·.toNat)) = codeD f := rfl
  rw [hcd] at HROW ⊢
  clear hdc hix q0 q1 q2 q3 q4 q5 hps hrd x4 hgood hrow hB K2 hb2 hB2 hx1 hcd
  generalize codeD f = D at *
  generalize funV oth f = FV at *
  by_cases hz : D.1.1 = 0
  · have hzi : ((D.1.1 : Nat) : Int) = 0 := by omega
    obtain ⟨hrf, hfit⟩ := HG.out hz
    have HRF := hidden hrf
    have HFIT := hidden hfit
    have hx2 := HX2.out
    obtain ⟨va, vc, rfl⟩ := HROW.out.shape
    rw [hzi]
    clear hrf hfit
    go_wp2_with (refine wpList_load_row rfl 31 (.tmp 2) rfl w.heap.size rfl 31 OC (0, 0) _ hx2 Tryz.underlying31 rfl hsz ?_)
    refine (hsy _).mono ?_
    rintro e w3 ⟨rfl, hM3, hb3⟩
    have hB3 : Below w.heap.size w w3 := below_trans HB2.out hb3
    have hrfs := Wire.crefs _ _ D.2 w3.drew (HROW.out.frame (G := fun g => B ≤ g ∧ g < w2.heap.size) fun g hg => ⟨hg, hb3.block g hg.2⟩) (fun g hg => Nat.lt_of_lt_of_le hg.2 hb3.size) (by have := HFIT.out.len; omega) (fun i hi => by have := HFIT.out.pl i hi; omega)
    have HB3 := hidden hB3
    have HX3 : Hid (∀ x, Below w3.heap.size w3 x → x.heap[w.heap.size]? = some (.cells OC 31 (0, 0))) := fun x hx => (hx.block _ (by have := hb3.size; omega)).trans ((hb3.block _ (by omega)).trans hx2)
    have HM := hidden hM3
    have HC3 : Hid (∀ x, Below w3.heap.size w3 x → x.cell? ⟨w.heap.size, 0, none⟩ = some (.string (str m)) ∧ x.cell? ⟨w.heap.size, 1, none⟩ = some (.slice a1 n1 c1) ∧ x.cell? ⟨w.heap.size, 2, none⟩ = some (.slice a2 n2 c2) ∧ x.cell? ⟨w.heap.size, 3, none⟩ = some (.slice a3 n3 c3) ∧ x.cell? ⟨w.heap.size, 4, none⟩ = some (.slice (some ⟨gf, of, none⟩) nf cap) ∧ x.cell? ⟨w.heap.size, 5, none⟩ = some (.slice a5 n5 c5) ∧ x.cell? ⟨w.heap.size, 6, none⟩ = some (.slice a6 n6 c6) ∧ x.cell? ⟨w.heap.size, 7, none⟩ = some (.slice a7 0 c7)) := fun x hx => by
      have hh := HX3.out x hx
      rw [HOC.out] at hh
      exact ⟨by rw [cell_of_row _ _ 0 _ _ _ hh]; rfl, by rw [cell_of_row _ _ 1 _ _ _ hh]; rfl, by rw [cell_of_row _ _ 2 _ _ _ hh]; rfl, by rw [cell_of_row _ _ 3 _ _ _ hh]; rfl, by rw [cell_of_row _ _ 4 _ _ _ hh]; rfl, by rw [cell_of_row _ _ 5 _ _ _ hh]; rfl, by rw [cell_of_row _ _ 6 _ _ _ hh]; rfl, by rw [cell_of_row _ _ 7 _ _ _ hh]; rfl⟩
    clear hM3 hx2
    go_wp2_with fail
    have G0 : Below w3.heap.size w3 w3.drew := below_drew (Below.refl _ w3)
    refine wp_region_held (S := fun x => Below w3.heap.size w3 x) (by kernel_rfl) ?_
    show wpAnyH Tryz.prog .any _ _ _ _ _ _ w3.drew
    refine wpAnyH_take (i := 0) (v := .agg OC) rfl (by kernel_rfl) (by kernel_rfl) (by kernel_rfl) (fun _ _ _ h => h) (.inl ⟨by rfl, fun x hx => by obtain ⟨z0, z1, z2, z3, z4, z5, z6, z7⟩ := HC3.out x hx; go_simp; rw [HOC.out]⟩) G0 ?_
    show wpAnyH Tryz.prog .any _ _ _ _ _ (Act.put _ (some 38) (.agg OC)) _
    simp only [Act.put, List.setIfInBounds_toArray, List.set_cons_zero, List.set_cons_succ]
    refine wpAnyH_take (i := 1) (v := .int .i64 (n : Int)) rfl (by kernel_rfl) (by kernel_rfl) (by kernel_rfl) (fun _ _ _ h => h) (.inl ⟨by rfl, fun x hx => by go_simp⟩) G0 ?_
    show wpAnyH Tryz.prog .any _ _ _ _ _ (Act.put _ (some 39) (.int .i64 (n : Int))) _
    simp only [Act.put, List.setIfInBounds_toArray, List.set_cons_zero, List.set_cons_succ]
    refine wpAnyH_take (i := 2) (v := .slice va D.2.length vc) rfl (by kernel_rfl) (by kernel_rfl) (by kernel_rfl) (fun _ _ _ h => h) (.inl ⟨by rfl, fun x hx => by go_simp⟩) G0 ?_
    show wpAnyH Tryz.prog .any _ _ _ _ _ (Act.put _ (some 40) (.slice va D.2.length vc)) _
    simp only [Act.put, List.setIfInBounds_toArray, List.set_cons_zero, List.set_cons_succ]
    refine wpAnyH_take (i := 4) (v := .map (some (w2.heap.size + 1))) rfl (by kernel_rfl) (by kernel_rfl) (by kernel_rfl) (fun _ _ _ h => h) (.inl ⟨by rfl, fun x hx => by go_simp⟩) G0 ?_
    show wpAnyH Tryz.prog .any _ _ _ _ _ (Act.put _ (some 42) (.map (some (w2.heap.size + 1)))) _
    simp only [Act.put, List.setIfInBounds_toArray, List.set_cons_zero, List.set_cons_succ]
    refine wpAnyH_ready (rs := [3]) (by kernel_rfl) (by simp) ?_
    refine AllReadyH.cons rfl (fun K hK => ?_) AllReadyH.nil
    go_simp
    refine hrfs.mono ?_
    rintro e w4 ⟨rv, rfl, hrv, K4⟩
    have hb4 := below_kept K4
    have G4 : Below w3.heap.size w3 w4 := G0.trans hb4
    have hrs := hrv.shape
    rw [HRF.out] at hrs
    obtain ⟨ra, rc, rfl⟩ := hrs
    simp only [List.length_nil] at *
    refine hK.out _ _ G4 (fun _ => ?_)
    clear hK K
    refine wpAnyH_ready (rs := [5]) (by kernel_rfl) (by simp) ?_
    refine AllReadyH.cons rfl (fun K hK => ?_) AllReadyH.nil
    go_simp
    refine (hls w4 ra rc _).mono ?_
    rintro e w5 ⟨rfl, hb5⟩
    have G5 : Below w3.heap.size w3 w5 := G4.trans (hb5.mono G4.size)
    refine hK.out _ _ G5 (fun _ => ?_)
    clear hK K
    refine wpAnyH_take (i := 6) (v := .tuple #[.int .i64 0, .bool false]) rfl (by kernel_rfl) (by kernel_rfl) (by kernel_rfl) (fun _ _ _ h => h) (.inl ⟨by rfl, fun x hx => by go_simp⟩) G5 ?_
    show wpAnyH Tryz.prog .any _ _ _ _ _ (Act.put _ (some 37) (.tuple #[.int .i64 0, .bool false])) _
    simp only [Act.put, List.setIfInBounds_toArray, List.set_cons_zero, List.set_cons_succ]
    refine wpAnyH_take (i := 7) (v := .int .i64 0) rfl (by kernel_rfl) (by kernel_rfl) (by kernel_rfl) (fun _ _ _ h => h) (.inl ⟨by rfl, fun x hx => by go_simp⟩) G5 ?_
    show wpAnyH Tryz.prog .any _ _ _ _ _ (Act.put _ (some 44) (.int .i64 0)) _
    simp only [Act.put, List.setIfInBounds_toArray, List.set_cons_zero, List.set_cons_succ]
    refine wpAnyH_take (i := 8) (v := .bool false) rfl (by kernel_rfl) (by kernel_rfl) (by kernel_rfl) (fun _ _ _ h => h) (.inl ⟨by rfl, fun x hx => by go_simp⟩) G5 ?_
    show wpAnyH Tryz.prog .any _ _ _ _ _ (Act.put _ (some 45) (.bool false)) _
    simp only [Act.put, List.setIfInBounds_toArray, List.set_cons_zero, List.set_cons_succ]
    refine wpAnyH_take (i := 9) (v := .int .i64 0) rfl (by kernel_rfl) (by kernel_rfl) (by kernel_rfl) (fun _ _ _ h => h) (.inl ⟨by rfl, fun x hx => by go_simp⟩) G5 ?_
    show wpAnyH Tryz.prog .any _ _ _ _ _ (Act.put _ (some 10) (.int .i64 0)) _
    simp only [Act.put, List.setIfInBounds_toArray, List.set_cons_zero, List.set_cons_succ]
    refine wpAnyH_take (i := 10) (v := .bool false) rfl (by kernel_rfl) (by kernel_rfl) (by kernel_rfl) (fun _ _ _ h => h) (.inl ⟨by rfl, fun x hx => by go_simp⟩) G5 ?_
    show wpAnyH Tryz.prog .any _ _ _ _ _ (Act.put _ (some 11) (.bool false)) _
    simp only [Act.put, List.setIfInBounds_toArray, List.set_cons_zero, List.set_cons_succ]
    refine wpAnyH_done (by kernel_rfl) ?_ _
    go_wp2_with fail
    have HC5 : Hid (∀ x, Below w5.heap.size w5 x → (x.cell? ⟨w.heap.size, 0, none⟩ = some (.string (str m)) ∧ x.cell? ⟨w.heap.size, 1, none⟩ = some (.slice a1 n1 c1) ∧ x.cell? ⟨w.heap.size, 2, none⟩ = some (.slice a2 n2 c2) ∧ x.cell? ⟨w.heap.size, 3, none⟩ = some (.slice a3 n3 c3) ∧ x.cell? ⟨w.heap.size, 4, none⟩ = some (.slice (some ⟨gf, of, none⟩) nf cap) ∧ x.cell? ⟨w.heap.size, 5, none⟩ = some (.slice a5 n5 c5) ∧ x.cell? ⟨w.heap.size, 6, none⟩ = some (.slice a6 n6 c6) ∧ x.cell? ⟨w.heap.size, 7, none⟩ = some (.slice a7 0 c7)) ∧ x.cell? ⟨gf, of + n * 6 + 3, none⟩ = some (.string (str f.res))) := fun x hx => by
      have h35 : Below w3.heap.size w3 x := G5.trans (hx.mono G5.size)
      exact ⟨HC3.out x h35, (HO.out x (HB3.out.trans (h35.mono HB3.out.size))).1.2.2.2.1⟩
    have hOC := HOC.out
    subst hOC
    have G6 : Below w5.heap.size w5 w5.drew := below_drew (Below.refl _ w5)
    refine wp_region_held (S := fun x => Below w5.heap.size w5 x) (by kernel_rfl) ?_
    show wpAnyH Tryz.prog .any _ _ _ _ _ _ w5.drew
    refine wpAnyH_take (i := 0) (v := .agg #[.string (str m), .slice a1 n1 c1, .slice a2 n2 c2, .slice a3 n3 c3, .slice (some ⟨gf, of, none⟩) nf cap, .slice a5 n5 c5, .slice a6 n6 c6, .slice a7 0 c7]) rfl (by kernel_rfl) (by kernel_rfl) (by kernel_rfl) (fun _ _ _ h => h) (.inl ⟨by rfl, fun x hx => by obtain ⟨⟨z0, z1, z2, z3, z4, z5, z6, z7⟩, z8⟩ := HC5.out x hx; go_simp⟩) G6 ?_
    show wpAnyH Tryz.prog .any _ _ _ _ _ (Act.put _ (some 48) (.agg #[.string (str m), .slice a1 n1 c1, .slice a2 n2 c2, .slice a3 n3 c3, .slice (some ⟨gf, of, none⟩) nf cap, .slice a5 n5 c5, .slice a6 n6 c6, .slice a7 0 c7])) _
    simp only [Act.put, List.setIfInBounds_toArray, List.set_cons_zero, List.set_cons_succ]
    refine wpAnyH_take (i := 1) (v := .pointer (some ⟨w.heap.size, 4, none⟩)) rfl (by kernel_rfl) (by kernel_rfl) (by kernel_rfl) (fun _ _ _ h => h) (.inl ⟨by rfl, fun x hx => by go_simp⟩) G6 ?_
    show wpAnyH Tryz.prog .any _ _ _ _ _ (Act.put _ (some 49) (.pointer (some ⟨w.heap.size, 4, none⟩))) _
    simp only [Act.put, List.setIfInBounds_toArray, List.set_cons_zero, List.set_cons_succ]
    refine wpAnyH_take (i := 2) (v := .slice (some ⟨gf, of, none⟩) nf cap) rfl (by kernel_rfl) (by kernel_rfl) (by kernel_rfl) (fun _ _ _ h => h) (.inl ⟨by rfl, fun x hx => by obtain ⟨⟨z0, z1, z2, z3, z4, z5, z6, z7⟩, z8⟩ := HC5.out x hx; go_simp⟩) G6 ?_
    show wpAnyH Tryz.prog .any _ _ _ _ _ (Act.put _ (some 50) (.slice (some ⟨gf, of, none⟩) nf cap)) _
    simp only [Act.put, List.setIfInBounds_toArray, List.set_cons_zero, List.set_cons_succ]
    refine wpAnyH_take (i := 3) (v := .int .i64 (n : Int)) rfl (by kernel_rfl) (by kernel_rfl) (by kernel_rfl) (fun _ _ _ h => h) (.inl ⟨by rfl, fun x hx => by go_simp⟩) G6 ?_
    show wpAnyH Tryz.prog .any _ _ _ _ _ (Act.put _ (some 51) (.int .i64 (n : Int))) _
    simp only [Act.put, List.setIfInBounds_toArray, List.set_cons_zero, List.set_cons_succ]
    refine wpAnyH_take (i := 4) (v := .pointer (some ⟨gf, of + n * 6, none⟩)) rfl (by kernel_rfl) (by kernel_rfl) (by kernel_rfl) (fun _ _ _ h => h) (.inl ⟨by rfl, fun x hx => by go_simp⟩) G6 ?_
    show wpAnyH Tryz.prog .any _ _ _ _ _ (Act.put _ (some 52) (.pointer (some ⟨gf, of + n * 6, none⟩))) _
    simp only [Act.put, List.setIfInBounds_toArray, List.set_cons_zero, List.set_cons_succ]
    refine wpAnyH_take (i := 5) (v := .pointer (some ⟨gf, of + n * 6 + 3, none⟩)) rfl (by kernel_rfl) (by kernel_rfl) (by kernel_rfl) (fun _ _ _ h => h) (.inl ⟨by rfl, fun x hx => by go_simp⟩) G6 ?_
    show wpAnyH Tryz.prog .any _ _ _ _ _ (Act.put _ (some 53) (.pointer (some ⟨gf, of + n * 6 + 3, none⟩))) _
    simp only [Act.put, List.setIfInBounds_toArray, List.set_cons_zero, List.set_cons_succ]
    refine wpAnyH_take (i := 6) (v := .string (str f.res)) rfl (by kernel_rfl) (by kernel_rfl) (by kernel_rfl) (fun _ _ _ h => h) (.inl ⟨by rfl, fun x hx => by obtain ⟨⟨z0, z1, z2, z3, z4, z5, z6, z7⟩, z8⟩ := HC5.out x hx; go_simp⟩) G6 ?_
    show wpAnyH Tryz.prog .any _ _ _ _ _ (Act.put _ (some 54) (.string (str f.res))) _
    simp only [Act.put, List.setIfInBounds_toArray, List.set_cons_zero, List.set_cons_succ]
    refine wpAnyH_take (i := 7) (v := .map (some (w2.heap.size + 1))) rfl (by kernel_rfl) (by kernel_rfl) (by kernel_rfl) (fun _ _ _ h => h) (.inl ⟨by rfl, fun x hx => by go_simp⟩) G6 ?_
    show wpAnyH Tryz.prog .any _ _ _ _ _ (Act.put _ (some 55) (.map (some (w2.heap.size + 1)))) _
    simp only [Act.put, List.setIfInBounds_toArray, List.set_cons_zero, List.set_cons_succ]
    refine wpAnyH_take (i := 8) (v := .agg #[.string (str m), .slice a1 n1 c1, .slice a2 n2 c2, .slice a3 n3 c3, .slice (some ⟨gf, of, none⟩) nf cap, .slice a5 n5 c5, .slice a6 n6 c6, .slice a7 0 c7, .string (str f.res), .map (some (w2.heap.size + 1)), .map none, .slice none 0 0, .slice none 0 0]) rfl (by kernel_rfl) (by kernel_rfl) (by kernel_rfl) (fun _ _ _ h => h) (.inl ⟨by rfl, fun x hx => by go_simp⟩) G6 ?_
    show wpAnyH Tryz.prog .any _ _ _ _ _ (Act.put _ (some 56) (.agg #[.string (str m), .slice a1 n1 c1, .slice a2 n2 c2, .slice a3 n3 c3, .slice (some ⟨gf, of, none⟩) nf cap, .slice a5 n5 c5, .slice a6 n6 c6, .slice a7 0 c7, .string (str f.res), .map (some (w2.heap.size + 1)), .map none, .slice none 0 0, .slice none 0 0])) _
    simp only [Act.put, List.setIfInBounds_toArray, List.set_cons_zero, List.set_cons_succ]
    refine wpAnyH_ready (rs := [9]) (by kernel_rfl) (by simp) ?_
    refine AllReadyH.cons rfl (fun K hK => ?_) AllReadyH.nil
    go_simp
    have hzz := World.alloc_heap_new w5 (.cells #[.string ⟨#[]⟩, .slice none 0 0, .slice none 0 0, .slice none 0 0, .slice none 0 0, .slice none 0 0, .slice none 0 0, .slice none 0 0, .string ⟨#[]⟩, .map none, .map none, .slice none 0 0, .slice none 0 0] 97)
    have hG7 : Below w5.heap.size w5 (w5.alloc (.cells #[.string ⟨#[]⟩, .slice none 0 0, .slice none 0 0, .slice none 0 0, .slice none 0 0, .slice none 0 0, .slice none 0 0, .slice none 0 0, .string ⟨#[]⟩, .map none, .map none, .slice none 0 0, .slice none 0 0] 97)).drew := ((Below.refl _ w5).alloc (Nat.le_refl _) _).drew
    refine hK.out _ _ hG7 (fun _ => ?_)
    clear hK K
    refine wpAnyH_ready (rs := [10]) (by kernel_rfl) (by simp) ?_
    refine AllReadyH.cons rfl (fun K hK => ?_) AllReadyH.nil
    refine step_store_row rfl 97 (.tmp 12) (.tmp 56) rfl w5.heap.size #[.string (str m), .slice a1 n1 c1, .slice a2 n2 c2, .slice a3 n3 c3, .slice (some ⟨gf, of, none⟩) nf cap, .slice a5 n5 c5, .slice a6 n6 c6, .slice a7 0 c7, .string (str f.res), .map (some (w2.heap.size + 1)), .map none, .slice none 0 0, .slice none 0 0] rfl rfl 97 #[.string ⟨#[]⟩, .slice none 0 0, .slice none 0 0, .slice none 0 0, .slice none 0 0, .slice none 0 0, .slice none 0 0, .slice none 0 0, .string ⟨#[]⟩, .map none, .map none, .slice none 0 0, .slice none 0 0] hzz sizeWk rfl (by kernel_rfl) ?_
    have hbx6 := setRow_heap (w5.alloc (.cells #[.string ⟨#[]⟩, .slice none 0 0, .slice none 0 0, .slice none 0 0, .slice none 0 0, .slice none 0 0, .slice none 0 0, .slice none 0 0, .string ⟨#[]⟩, .map none, .map none, .slice none 0 0, .slice none 0 0] 97)).drew w5.heap.size _ #[.string (str m), .slice a1 n1 c1, .slice a2 n2 c2, .slice a3 n3 c3, .slice (some ⟨gf, of, none⟩) nf cap, .slice a5 n5 c5, .slice a6 n6 c6, .slice a7 0 c7, .string (str f.res), .map (some (w2.heap.size + 1)), .map none, .slice none 0 0, .slice none 0 0] 97 (0, 0) hzz
    have G8 := below_setRow hG7 (Nat.le_refl _) #[.string (str m), .slice a1 n1 c1, .slice a2 n2 c2, .slice a3 n3 c3, .slice (some ⟨gf, of, none⟩) nf cap, .slice a5 n5 c5, .slice a6 n6 c6, .slice a7 0 c7, .string (str f.res), .map (some (w2.heap.size + 1)), .map none, .slice none 0 0, .slice none 0 0]
    refine hK.out _ _ G8 (fun _ => ?_)
    clear hK K hzz hG7
    generalize (w5.alloc (.cells #[.string ⟨#[]⟩, .slice none 0 0, .slice none 0 0, .slice none 0 0, .slice none 0 0, .slice none 0 0, .slice none 0 0, .slice none 0 0, .string ⟨#[]⟩, .map none, .map none, .slice none 0 0, .slice none 0 0] 97)).drew.setRow w5.heap.size #[.string (str m), .slice a1 n1 c1, .slice a2 n2 c2, .slice a3 n3 c3, .slice (some ⟨gf, of, none⟩) nf cap, .slice a5 n5 c5, .slice a6 n6 c6, .slice a7 0 c7, .string (str f.res), .map (some (w2.heap.size + 1)), .map none, .slice none 0 0, .slice none 0 0] = w6 at *
    have h06 : Below w.heap.size w w6 := HB3.out.trans ((G5.trans (G8.mono G5.size)).mono HB3.out.size)
    have hw35 := G5.size
    have hw03 := HB3.out.size
    have hw23 := hb3.size
    have hw6 : w5.heap.size < w6.heap.size := (Array.getElem?_eq_some_iff.1 hbx6).1
    obtain ⟨⟨q0, q1, q2, q3, q4, q5⟩, hps, -⟩ := HO.out w6 h06
    have hx4 : w6.cell? ⟨w.heap.size, 4, none⟩ = some (.slice (some ⟨gf, of, none⟩) nf cap) := (HC5.out w6 G8).1.2.2.2.2.1
    have hvf := vfirst f (.slice pa f.params.length pc) (.slice ka f.code.length kc) w6 hps ⟨_, _, _, rfl⟩
    have HI2 : Hid (Wire.InsR (fun g => B ≤ g ∧ g < w2.heap.size) w6 (.slice va D.2.length vc) D.2) := HROW.out.frame fun g hg => ⟨hg, by
      have h1 := hb3.block g hg.2
      have h2 := G5.block g (by omega)
      have h3 := G8.block g (by omega)
      exact h3.trans (h2.trans h1)⟩
    refine wpAnyH_done (by kernel_rfl) ?_ _
    go_wp2_with fail
    refine hvf.mono ?_
    rintro e w7 ⟨lv, rfl, hlo, hb7⟩
    have hlc := first_len f
    have hb7z := hb7.size
    have hthr := vthru (w := w7) (wb := w5.heap.size) (col := fun g => if g = w5.heap.size then (7, 0, 0) else if lv.ownBlock = some g then (3, 0, 0) else (0, 0, 0)) (u := ⟨.slice a1 n1 c1, .slice a2 n2 c2, .slice a3 n3 c3, .slice (some ⟨gf, of, none⟩) nf cap, .slice a5 n5 c5, .slice a6 n6 c6, .slice a7 0 c7⟩) (m := m) (res := f.res) (sy := .map (some (w2.heap.size + 1))) (X := .map none) (sv0 := .slice none 0 0) (lv0 := .slice none 0 0) oth (firstL f).length
      (arr_all _ _ _ _ hlc.2) (fun g => B ≤ g ∧ g < w2.heap.size) D.2 (.slice va D.2.length vc) ((hb7.block _ hw6).trans hbx6) (by simp) (HI2.out.frame fun g hg => ⟨hg, hb7.block g (by have := hg.2; omega)⟩)
      (fun g hg => ⟨by have := hg.2; omega, by
        have e1 : g ≠ w5.heap.size := by have := hg.2; omega
        have e2 : lv.ownBlock ≠ some g := fun e => by have := (hlo.lt g e).1; have := hg.2; omega
        simp [e1, e2, ownT]⟩) (firstL f) lv (.inr ⟨owns_mono hlo (Nat.zero_le _), fun g hg => by
        have e1 : g ≠ w5.heap.size := by have := (hlo.lt g hg).1; omega
        simp [e1, hg]⟩) rfl hlc.2 HFIT.out
    have HFin : Hid (∀ w8, Kc (fun g => if g = w5.heap.size then (7, 0, 0) else if lv.ownBlock = some g then (3, 0, 0) else (0, 0, 0)) ownT w7 w8 → Below w.heap.size w w8) := fun w8 k8 => by
      have h07 : Below w.heap.size w w7 := h06.trans (hb7.mono h06.size)
      refine ⟨k8.os.trans h07.os, k8.tape.trans h07.tape, k8.output.trans h07.output, Nat.le_trans h07.size k8.size, fun b hb => (k8.block b (by omega) ?_).trans (h07.block b hb)⟩
      have e1 : b ≠ w5.heap.size := by omega
      have e2 : lv.ownBlock ≠ some b := fun e => by have := (hlo.lt b e).1; omega
      simp [e1, e2, ownT]
    have HR : Hid (FV = thruE f.res oth D.2 (firstL f)) := by rw [hid_iff, hFV.out, if_neg (fun h => h hz)]
    clear hvf hlo hb7 hbx6 G8 q0 q1 q2 q3 q4 q5 hps hx4
    go_wp2_with fail
    refine hthr.mono ?_
    rintro e w8 ⟨rfl, k8⟩
    have HB8 := hidden (HFin.out w8 k8)
    clear hthr k8
    go_wp2
    go_ret2
    exact ⟨by rw [HR.out]; rfl, HB8.out⟩
  · have hzi : ¬ ((D.1.1 : Nat) : Int) = 0 := by omega
    have HR : Hid (FV = (D.1.1, (D.1.2 : Int))) := by rw [hid_iff, hFV.out, if_pos hz]
    go_wp2
    go_ret2
    exact ⟨by rw [HR.out]; rfl, HB2.out⟩
end Go.Proofs.YtdeckknfolaaeaaGreatDoor
