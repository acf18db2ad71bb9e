/-
  named, and exportAt, where neither a global nor a function of the object has the name.
-/
import Derived.Test.YtdeckknfolaaeaaGreatDoorG34
import Derived.Test.YtdeckknfolaaeaaGreatDoorG40
namespace Go.Proofs.YtdeckknfolaaeaaGreatDoor
open Go.RowKit

theorem ownO_types {o : Ob} {q : List UInt8} (hq : q ≠ []) (hg : ∀ g ∈ o.globals, g.name ≠ q) (hf : ∀ f ∈ o.funs, f.name ≠ q) : ownO o q = findI o.types q := by
  have h1 : o.globals.find? (fun g => decide (g.name = q)) = none := List.find?_eq_none.2 fun g h => by simpa using hg g h
  have h2 : o.funs.find? (fun f => decide (f.name = q)) = none := List.find?_eq_none.2 fun f h => by simpa using hf f h
  rw [ownO, if_neg hq, h1, h2]
/-- What named answers, told by the refusal alone. -/
def NamedN (o : Ob) (q : List UInt8) (w : World) (e : Ending) (w' : World) : Prop := ∃ x ca cn cc, e = .returned (.tuple #[itv x (.slice ca cn cc), .bool (ownO o q).isSome]) ∧ Below w.heap.size w w'
set_option maxHeartbeats 4000000 in
set_option maxRecDepth 1000000 in
theorem onamed_types (F : Nat → Prop) (u : ObV) (o : Ob) (q : List UInt8) (w : World) (h : ObR F w u o) (hF : ∀ g, F g → g < w.heap.size) (hok : ObOk o) (hq : q ≠ []) (hg : ∀ g ∈ o.globals, g.name ≠ q) (hf : ∀ f ∈ o.funs, f.name ≠ q) (hnt : o.types.length ≤ 2199023255552) : Calls Tryz.prog 87 #[obv u o.mod, .string (str q)] w (NamedN o q w) := by
  have HO := hidden (ownO_types hq hg hf)
  unfold NamedN
  generalize ownO o q = ow at *
  have hnn := nil_text q
  rw [decide_eq_false hq] at hnn
  have hnq : ¬ (str q).toList = [] := by
    intro hh
    rw [hh] at hnn
    cases hnn
  have hTy := h.types
  have hGl := h.globals
  have hFn := h.funs
  have hot := hok.types
  obtain ⟨a2, c2, e2⟩ := h.texts.1.shape
  obtain ⟨a5, c5, e5⟩ := h.exports.1.shape
  obtain ⟨a6, c6, e6⟩ := h.symbols.shape
  obtain ⟨a7, c7, e7⟩ := h.relocs.shape
  have hng := hok.ng
  have hnf := hok.nf
  obtain ⟨m, ts, xs, gs, fs, es, ss, rs⟩ := o
  obtain ⟨tv, xv, gv, fv, ev, sv, rv⟩ := u
  unfold obv
  simp only at *
  subst e2 e5 e6 e7
  obtain ⟨a1, c1, rfl⟩ := hTy.shape
  obtain ⟨a3, c3, rfl⟩ := hGl.shape
  obtain ⟨a4, c4, rfl⟩ := hFn.shape
  generalize xs.length = n2 at *
  generalize es.length = n5 at *
  generalize ss.length = n6 at *
  generalize rs.length = n7 at *
  generalize hW : w.alloc (.cells #[.string (str m), .slice a1 ts.length c1, .slice a2 n2 c2, .slice a3 gs.length c3, .slice a4 fs.length c4, .slice a5 n5 c5, .slice a6 n6 c6, .slice a7 n7 c7] 31) = W0 at *
  have hb0 : Below w.heap.size w W0 := by rw [← hW]; exact (Below.refl _ _).alloc (Nat.le_refl _) _
  have hs0 : W0.heap.size = w.heap.size + 1 := by rw [← hW]; simp
  have hN0 := heap_alloc_new w (.cells #[.string (str m), .slice a1 ts.length c1, .slice a2 n2 c2, .slice a3 gs.length c3, .slice a4 fs.length c4, .slice a5 n5 c5, .slice a6 n6 c6, .slice a7 n7 c7] 31)
  rw [hW] at hN0
  generalize hW1 : W0.alloc (.cells #[.int .i64 0, .string ⟨#[]⟩, .string ⟨#[]⟩, .slice none 0 0] 47) = W1 at *
  have hb1 : Below W0.heap.size W0 W1 := by rw [← hW1]; exact (Below.refl _ _).alloc (Nat.le_refl _) _
  have hs1 : W1.heap.size = w.heap.size + 2 := by rw [← hW1]; simp; omega
  have hN1 := heap_alloc_new W0 (.cells #[.int .i64 0, .string ⟨#[]⟩, .string ⟨#[]⟩, .slice none 0 0] 47)
  rw [hW1, hs0] at hN1
  have hbw : Below w.heap.size w W1 := below_trans hb0 hb1
  have HC : ∀ u, Below W1.heap.size W1 u → u.cell? ⟨w.heap.size, 1, none⟩ = some (.slice a1 ts.length c1) ∧ u.cell? ⟨w.heap.size, 3, none⟩ = some (.slice a3 gs.length c3) ∧ u.cell? ⟨w.heap.size, 4, none⟩ = some (.slice a4 fs.length c4) ∧ u.heap[w.heap.size + 1]? = some (.cells #[.int .i64 0, .string ⟨#[]⟩, .string ⟨#[]⟩, .slice none 0 0] 47 (0, 0)) ∧ Below w.heap.size w u := by
    intro u hu
    have n0 := (hu.block w.heap.size (by omega)).trans ((hb1.block _ (by omega)).trans hN0)
    have n1 := (hu.block (w.heap.size + 1) (by omega)).trans hN1
    exact ⟨by rw [cell_of_row u _ 1 _ _ _ n0]; rfl, by rw [cell_of_row u _ 3 _ _ _ n0]; rfl, by rw [cell_of_row u _ 4 _ _ _ n0]; rfl, n1, below_trans hbw hu⟩
  have HCh := hidden HC
  obtain ⟨z1, z3, z4, z9, _⟩ := HC W1 (Below.refl _ _)
  have HTy := hidden hTy
  have HGl := hidden hGl
  have HFn := hidden hFn
  have HgN := hidden hg
  have HfN := hidden hf
  clear h hTy hGl hFn hg hf HC hN0 hN1 hok z9
  go_enter Tryz.func87, Tryz.ntmps87
  go_wp2_with fail
  go_loopg [16] gs.length (fun g i wr => ∃ (k : Nat), g + k = gs.length ∧ i = .int .i64 (k : Int) ∧ Below W1.heap.size W1 wr)
  case atStart => exact ⟨0, by omega, rfl, Below.refl _ _⟩
  case round =>
    obtain ⟨k, hgk, rfl, hbl⟩ := hrel
    obtain ⟨y1, y3, y4, y9, hwr⟩ := HCh.out wr hbl
    by_cases hk : k < gs.length
    · obtain ⟨g, of, cap, cs, e1, _, hgF, hC, hcell⟩ := (HGl.out.below cGl_stay hwr hF).at k hk
      simp only [Value.slice.injEq, true_and] at e1
      obtain ⟨rfl, rfl⟩ := e1
      unfold cGl at hC
      subst hC
      have q0 := hcell 0 _ rfl
      have q1 := hcell 1 _ rfl
      have q2 := hcell 2 _ rfl
      simp only [Nat.add_zero] at q0
      have hki : (k : Int) < (gs.length : Int) := by omega
      have he := eq_is gs[k].name q
      rw [decide_eq_false (HgN.out _ (List.getElem_mem hk))] at he
      generalize gs[k].name = xn at *
      generalize gs[k].ty = xt at *
      generalize gs[k].fn = xf at *
      have hba := hbl.trans (((Below.refl wr.heap.size wr).alloc (Nat.le_refl _) (.cells #[.string (str xn), .string (str xt), .int .i64 xf] 60)).mono hbl.size)
      clear hcell y1 y3 y4 y9
      go_wp2
      go_roundg (gs.length - (k + 1))
      case measure => omega
      case rel => exact ⟨k + 1, by omega, by go_num, hba⟩
    · have hki : ¬ (k : Int) < (gs.length : Int) := by omega
      go_wp2_with fail
      go_loopg [34] fs.length (fun g i wr' => ∃ (k : Nat), g + k = fs.length ∧ i = .int .i64 (k : Int) ∧ Below W1.heap.size W1 wr')
      case atStart => exact ⟨0, by omega, rfl, hbl⟩
      case round =>
        clear y1 y3 y4 y9 hwr hbl hgk hk hki
        obtain ⟨k2, hgk, rfl, hbl⟩ := hrel
        rename World => wi
        obtain ⟨y1, y3, y4, y9, hwr⟩ := HCh.out wi hbl
        by_cases hk : k2 < fs.length
        · obtain ⟨g, of, cap, cs, e1, _, hgF, hC, hcell⟩ := (HFn.out.below cFn_stay hwr hF).at k2 hk
          simp only [Value.slice.injEq, true_and] at e1
          obtain ⟨rfl, rfl⟩ := e1
          obtain ⟨pv, kv, rfl, hpv, hkv⟩ := hC
          have q0 := hcell 0 _ rfl
          have q1 := hcell 1 _ rfl
          have q2 := hcell 2 _ rfl
          have q3 := hcell 3 _ rfl
          have q4 := hcell 4 _ rfl
          have q5 := hcell 5 _ rfl
          simp only [Nat.add_zero] at q0
          have hki : (k2 : Int) < (fs.length : Int) := by omega
          have he := eq_is fs[k2].name q
          rw [decide_eq_false (HfN.out _ (List.getElem_mem hk))] at he
          obtain ⟨pa, pc, rfl⟩ := hpv.1.shape
          obtain ⟨ka, kc, rfl⟩ := hkv.shape
          generalize fs[k2].name = xn at *
          generalize fs[k2].caps = xp at *
          generalize fs[k2].res = xt at *
          generalize fs[k2].locals = xl at *
          have hba := hbl.trans (((Below.refl wi.heap.size wi).alloc (Nat.le_refl _) (.cells #[.string (str xn), .slice pa fs[k2].params.length pc, .int .i64 xp, .string (str xt), .int .i64 xl, .slice ka fs[k2].code.length kc] 63)).mono hbl.size)
          clear hcell hpv hkv y1 y3 y4 y9
          go_wp2
          go_roundg (fs.length - (k2 + 1))
          case measure => omega
          case rel => exact ⟨k2 + 1, by omega, by go_num, hba⟩
        · have hki : ¬ (k2 : Int) < (fs.length : Int) := by omega
          have hFd := find7 F [] ts a1 c1 q wi (HTy.out.below hwr hF) (fun g hg => Nat.lt_of_lt_of_le (hF g hg) hwr.size) hot hnt
          unfold FindE at hFd
          rw [← HO.out] at hFd
          go_wp2_with fail
          refine hFd.mono ?_
          rintro e w5 ⟨x, cv, rfl, hx, hcv, hb5⟩
          obtain ⟨ca, cc, rfl⟩ := hcv.shape
          have hb15 := below_trans hbl hb5
          obtain ⟨-, -, -, y9', hw5⟩ := HCh.out w5 hb15
          obtain ⟨kd, nm, ty, cs⟩ := x
          unfold itv
          simp only
          generalize cs.length = cn at *
          have hsw : w.heap.size ≤ w5.heap.size := hw5.size
          have hbe := hw5.trans ((setRow_below w5 (w.heap.size + 1) #[.int .i64 kd, .string (str nm), .string (str ty), .slice ca cn cc]).mono (by omega))
          clear hFd hcv hx
          go_wp2_with (refine wpList_store_row rfl 47 (.tmp 4) (.tmp 53) rfl (w.heap.size + 1) #[.int .i64 kd, .string (str nm), .string (str ty), .slice ca cn cc] rfl rfl 47 #[.int .i64 0, .string ⟨#[]⟩, .string ⟨#[]⟩, .slice none 0 0] y9' sizeIt rfl (by first | kernel_rfl | rfl | simp [Value.oneCell']) ?_)
          (try simp only [Exit.inBlock, Exit.then])
          refine bodyPost_ret (res7 rfl _ _ (w.heap.size + 1) 47 #[.int .i64 kd, .string (str nm), .string (str ty), .slice ca cn cc] (0, 0) _ rfl (setRow_heap w5 (w.heap.size + 1) _ _ 47 (0, 0) y9') Tryz.underlying47 rfl sizeIt) rfl ?_
          exact ⟨⟨kd, nm, ty, []⟩, ca, cn, cc, rfl, hbe⟩
end Go.Proofs.YtdeckknfolaaeaaGreatDoor
