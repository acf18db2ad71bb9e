/-
  named, and exportAt, where neither a global nor a function of the object has the name.
  And: What is refused of one export of an object, given what named answers of it.
-/
import Derived.Test.YtokkhdpkadgffaaGreatDoorObA
import Derived.Test.YtokkhdpkadgffaaGreatDoorIfaceFind2
import Derived.Deep.RegionHeld3
namespace Go.Proofs.YtokkhdpkadgffaaGreatDoor
open Go.RowKit

theorem ownO_types {o : Ob} {q : List UInt8} (hq : q ≠ []) (hg : ∀ g ∈ o.globals, g.name ≠ q) (hf : ∀ f ∈ o.funs, f.name ≠ q) : ownO o q = findI o.types q := by
  have h1 : o.globals.find? (fun g => decide (g.name = q)) = none := List.find?_eq_none.2 fun g h => by simpa using hg g h
  have h2 : o.funs.find? (fun f => decide (f.name = q)) = none := List.find?_eq_none.2 fun f h => by simpa using hf f h
  rw [ownO, if_neg hq, h1, h2]
/-- What named answers, told by the refusal alone. -/
def NamedN (o : Ob) (q : List UInt8) (w : World) (e : Ending) (w' : World) : Prop := ∃ x ca cn cc, e = .returned (.tuple #[itv x (.slice ca cn cc), .bool (ownO o q).isSome]) ∧ Below w.heap.size w w'
set_option maxHeartbeats 4000000 in
set_option maxRecDepth 1000000 in
theorem onamed_types (F : Nat → Prop) (u : ObV) (o : Ob) (q : List UInt8) (w : World) (h : ObR F w u o) (hF : ∀ g, F g → g < w.heap.size) (hok : ObOk o) (hq : q ≠ []) (hg : ∀ g ∈ o.globals, g.name ≠ q) (hf : ∀ f ∈ o.funs, f.name ≠ q) (hnt : o.types.length ≤ 2199023255552) : Calls Tryz.prog 60 #[obv u o.mod, .string (str q)] w (NamedN o q w) := by
  have HO := hidden (ownO_types hq hg hf)
  unfold NamedN
  generalize ownO o q = ow at *
  have hnn := nil_text q
  rw [decide_eq_false hq] at hnn
  have hnq : ¬ (str q).toList = [] := by
    intro hh
    rw [hh] at hnn
    cases hnn
  have hTy := h.types
  have hGl := h.globals
  have hFn := h.funs
  have hot := hok.types
  obtain ⟨a2, c2, e2⟩ := h.texts.1.shape
  obtain ⟨a5, c5, e5⟩ := h.exports.1.shape
  obtain ⟨a6, c6, e6⟩ := h.symbols.shape
  obtain ⟨a7, c7, e7⟩ := h.relocs.shape
  have hng := hok.ng
  have hnf := hok.nf
  obtain ⟨m, ts, xs, gs, fs, es, ss, rs⟩ := o
  obtain ⟨tv, xv, gv, fv, ev, sv, rv⟩ := u
  unfold obv
  simp only at *
  subst e2 e5 e6 e7
  obtain ⟨a1, c1, rfl⟩ := hTy.shape
  obtain ⟨a3, c3, rfl⟩ := hGl.shape
  obtain ⟨a4, c4, rfl⟩ := hFn.shape
  generalize xs.length = n2 at *
  generalize es.length = n5 at *
  generalize ss.length = n6 at *
  generalize rs.length = n7 at *
  generalize hW : w.alloc (.cells #[.string (str m), .slice a1 ts.length c1, .slice a2 n2 c2, .slice a3 gs.length c3, .slice a4 fs.length c4, .slice a5 n5 c5, .slice a6 n6 c6, .slice a7 n7 c7] 35) = W0 at *
  have hb0 : Below w.heap.size w W0 := by rw [← hW]; exact (Below.refl _ _).alloc (Nat.le_refl _) _
  have hs0 : W0.heap.size = w.heap.size + 1 := by rw [← hW]; simp
  have hN0 := heap_alloc_new w (.cells #[.string (str m), .slice a1 ts.length c1, .slice a2 n2 c2, .slice a3 gs.length c3, .slice a4 fs.length c4, .slice a5 n5 c5, .slice a6 n6 c6, .slice a7 n7 c7] 35)
  rw [hW] at hN0
  generalize hW1 : W0.alloc (.cells #[.int .i64 0, .string ⟨#[]⟩, .string ⟨#[]⟩, .slice none 0 0] 38) = W1 at *
  have hb1 : Below W0.heap.size W0 W1 := by rw [← hW1]; exact (Below.refl _ _).alloc (Nat.le_refl _) _
  have hs1 : W1.heap.size = w.heap.size + 2 := by rw [← hW1]; simp; omega
  have hN1 := heap_alloc_new W0 (.cells #[.int .i64 0, .string ⟨#[]⟩, .string ⟨#[]⟩, .slice none 0 0] 38)
  rw [hW1, hs0] at hN1
  have hbw : Below w.heap.size w W1 := below_trans hb0 hb1
  have HC : ∀ u, Below W1.heap.size W1 u → u.cell? ⟨w.heap.size, 1, none⟩ = some (.slice a1 ts.length c1) ∧ u.cell? ⟨w.heap.size, 3, none⟩ = some (.slice a3 gs.length c3) ∧ u.cell? ⟨w.heap.size, 4, none⟩ = some (.slice a4 fs.length c4) ∧ u.heap[w.heap.size + 1]? = some (.cells #[.int .i64 0, .string ⟨#[]⟩, .string ⟨#[]⟩, .slice none 0 0] 38 (0, 0)) ∧ Below w.heap.size w u := by
    intro u hu
    have n0 := (hu.block w.heap.size (by omega)).trans ((hb1.block _ (by omega)).trans hN0)
    have n1 := (hu.block (w.heap.size + 1) (by omega)).trans hN1
    exact ⟨by rw [cell_of_row u _ 1 _ _ _ n0]; rfl, by rw [cell_of_row u _ 3 _ _ _ n0]; rfl, by rw [cell_of_row u _ 4 _ _ _ n0]; rfl, n1, below_trans hbw hu⟩
  have HCh := hidden HC
  obtain ⟨z1, z3, z4, z9, _⟩ := HC W1 (Below.refl _ _)
  have HTy := hidden hTy
  have HGl := hidden hGl
  have HFn := hidden hFn
  have HgN := hidden hg
  have HfN := hidden hf
  clear h hTy hGl hFn hg hf HC hN0 hN1 hok z9
  go_enter Tryz.func60, Tryz.ntmps60
  go_wp2_with fail
  go_loopg [16] gs.length (fun g i wr => ∃ (k : Nat), g + k = gs.length ∧ i = .int .i64 (k : Int) ∧ Below W1.heap.size W1 wr)
  case atStart => exact ⟨0, by omega, rfl, Below.refl _ _⟩
  case round =>
    obtain ⟨k, hgk, rfl, hbl⟩ := hrel
    obtain ⟨y1, y3, y4, y9, hwr⟩ := HCh.out wr hbl
    by_cases hk : k < gs.length
    · obtain ⟨g, of, cap, cs, e1, _, hgF, hC, hcell⟩ := (HGl.out.below cGl_stay hwr hF).at k hk
      simp only [Value.slice.injEq, true_and] at e1
      obtain ⟨rfl, rfl⟩ := e1
      unfold cGl at hC
      subst hC
      have q0 := hcell 0 _ rfl
      have q1 := hcell 1 _ rfl
      have q2 := hcell 2 _ rfl
      simp only [Nat.add_zero] at q0
      have hki : (k : Int) < (gs.length : Int) := by omega
      have he := eq_is gs[k].name q
      rw [decide_eq_false (HgN.out _ (List.getElem_mem hk))] at he
      generalize gs[k].name = xn at *
      generalize gs[k].ty = xt at *
      generalize gs[k].fn = xf at *
      have hba := hbl.trans (((Below.refl wr.heap.size wr).alloc (Nat.le_refl _) (.cells #[.string (str xn), .string (str xt), .int .i64 xf] 99)).mono hbl.size)
      clear hcell y1 y3 y4 y9
      go_wp2
      go_roundg (gs.length - (k + 1))
      case measure => omega
      case rel => exact ⟨k + 1, by omega, by go_num, hba⟩
    · have hki : ¬ (k : Int) < (gs.length : Int) := by omega
      go_wp2_with fail
      go_loopg [34] fs.length (fun g i wr' => ∃ (k : Nat), g + k = fs.length ∧ i = .int .i64 (k : Int) ∧ Below W1.heap.size W1 wr')
      case atStart => exact ⟨0, by omega, rfl, hbl⟩
      case round =>
        clear y1 y3 y4 y9 hwr hbl hgk hk hki
        obtain ⟨k2, hgk, rfl, hbl⟩ := hrel
        rename World => wi
        obtain ⟨y1, y3, y4, y9, hwr⟩ := HCh.out wi hbl
        by_cases hk : k2 < fs.length
        · obtain ⟨g, of, cap, cs, e1, _, hgF, hC, hcell⟩ := (HFn.out.below cFn_stay hwr hF).at k2 hk
          simp only [Value.slice.injEq, true_and] at e1
          obtain ⟨rfl, rfl⟩ := e1
          obtain ⟨pv, kv, rfl, hpv, hkv⟩ := hC
          have q0 := hcell 0 _ rfl
          have q1 := hcell 1 _ rfl
          have q2 := hcell 2 _ rfl
          have q3 := hcell 3 _ rfl
          have q4 := hcell 4 _ rfl
          have q5 := hcell 5 _ rfl
          simp only [Nat.add_zero] at q0
          have hki : (k2 : Int) < (fs.length : Int) := by omega
          have he := eq_is fs[k2].name q
          rw [decide_eq_false (HfN.out _ (List.getElem_mem hk))] at he
          obtain ⟨pa, pc, rfl⟩ := hpv.1.shape
          obtain ⟨ka, kc, rfl⟩ := hkv.shape
          generalize fs[k2].name = xn at *
          generalize fs[k2].caps = xp at *
          generalize fs[k2].res = xt at *
          generalize fs[k2].locals = xl at *
          have hba := hbl.trans (((Below.refl wi.heap.size wi).alloc (Nat.le_refl _) (.cells #[.string (str xn), .slice pa fs[k2].params.length pc, .int .i64 xp, .string (str xt), .int .i64 xl, .slice ka fs[k2].code.length kc] 25)).mono hbl.size)
          clear hcell hpv hkv y1 y3 y4 y9
          go_wp2
          go_roundg (fs.length - (k2 + 1))
          case measure => omega
          case rel => exact ⟨k2 + 1, by omega, by go_num, hba⟩
        · have hki : ¬ (k2 : Int) < (fs.length : Int) := by omega
          have hFd := find7 F [] ts a1 c1 q wi (HTy.out.below hwr hF) (fun g hg => Nat.lt_of_lt_of_le (hF g hg) hwr.size) hot hnt
          unfold FindE at hFd
          rw [← HO.out] at hFd
          go_wp2_with fail
          refine hFd.mono ?_
          rintro e w5 ⟨x, cv, rfl, hx, hcv, hb5⟩
          obtain ⟨ca, cc, rfl⟩ := hcv.shape
          have hb15 := below_trans hbl hb5
          obtain ⟨-, -, -, y9', hw5⟩ := HCh.out w5 hb15
          obtain ⟨kd, nm, ty, cs⟩ := x
          unfold itv
          simp only
          generalize cs.length = cn at *
          have hsw : w.heap.size ≤ w5.heap.size := hw5.size
          have hbe := hw5.trans ((setRow_below w5 (w.heap.size + 1) #[.int .i64 kd, .string (str nm), .string (str ty), .slice ca cn cc]).mono (by omega))
          clear hFd hcv hx
          go_wp2_with (refine wpList_store_row rfl 38 (.tmp 4) (.tmp 53) rfl (w.heap.size + 1) #[.int .i64 kd, .string (str nm), .string (str ty), .slice ca cn cc] rfl rfl 38 #[.int .i64 0, .string ⟨#[]⟩, .string ⟨#[]⟩, .slice none 0 0] y9' sizeIt rfl (by first | kernel_rfl | rfl | simp [Value.oneCell']) ?_)
          (try simp only [Exit.inBlock, Exit.then])
          refine bodyPost_ret (res7 rfl _ _ (w.heap.size + 1) 38 #[.int .i64 kd, .string (str nm), .string (str ty), .slice ca cn cc] (0, 0) _ rfl (setRow_heap w5 (w.heap.size + 1) _ _ 38 (0, 0) y9') Tryz.underlying38 rfl sizeIt) rfl ?_
          exact ⟨⟨kd, nm, ty, []⟩, ca, cn, cc, rfl, hbe⟩
end Go.Proofs.YtokkhdpkadgffaaGreatDoor

namespace Go.Proofs.YtokkhdpkadgffaaGreatDoor
open Go.RowKit

set_option maxHeartbeats 4000000 in
set_option maxRecDepth 1000000 in
theorem exportAt (F : Nat → Prop) (u : ObV) (o : Ob) (w : World) (h : ObR F w u o) (hF : ∀ g, F g → g < w.heap.size) (hok : ObOk o) (k : Nat) (hk : k < o.exports.length) (hNm : ∀ v, Below w.heap.size w v → Calls Tryz.prog 60 #[obv u o.mod, .string (str o.exports[k])] v (NamedN o o.exports[k] v)) : Calls Tryz.prog 36 #[obv u o.mod, .int .i64 (k : Int)] w (NumB (elemO o 4 k) w) := by
  have HV : Hid (elemO o 4 k = if (ownO o o.exports[k]).isSome = false then 16 else if (if k = 0 then none else o.exports[k - 1]?).any (fun p => decide (o.exports[k] ≤ p)) = true then 15 else 0) := by rw [hid_iff, elemO, List.getElem?_eq_getElem hk]; rfl
  generalize elemO o 4 k = r at *
  unfold NamedN at hNm
  generalize (ownO o o.exports[k]).isSome = ow at *
  have hT := h.exports.1
  have hne := hok.ne
  obtain ⟨g, of, cap, e5, hg, q⟩ := hT.at k hk
  have HPv : Hid (∀ v, Below w.heap.size w v → v.cell? ⟨g, of + k, none⟩ = some (.string (str o.exports[k])) ∧ ∀ j, k = j + 1 → ∃ p, o.exports[k - 1]? = some p ∧ v.cell? ⟨g, of + j, none⟩ = some (.string (str p))) := by
    rw [hid_iff]
    intro v hv
    refine ⟨(hv.cell (p := ⟨g, of + k, none⟩) (hF g hg)).trans q, ?_⟩
    rintro j rfl
    obtain ⟨g', of', cap', e5', hg', q'⟩ := hT.at j (by omega)
    rw [e5] at e5'
    simp only [Value.slice.injEq, Option.some.injEq, Addr.mk.injEq, and_true, true_and] at e5'
    obtain ⟨⟨rfl, rfl⟩, _⟩ := e5'
    exact ⟨o.exports[j], by simp [show j < o.exports.length by omega], (hv.cell (p := ⟨g, of + j, none⟩) (hF g hg)).trans q'⟩
  obtain ⟨a1, c1, e1⟩ := h.types.shape
  obtain ⟨a2, c2, e2⟩ := h.texts.1.shape
  obtain ⟨a3, c3, e3⟩ := h.globals.shape
  obtain ⟨a4, c4, e4⟩ := h.funs.shape
  obtain ⟨a6, c6, e6⟩ := h.symbols.shape
  obtain ⟨a7, c7, e7⟩ := h.relocs.shape
  have hk' : (k : Int) < (o.exports.length : Int) := by omega
  generalize o.exports[k] = x at *
  generalize hpv : (if k = 0 then none else o.exports[k - 1]?) = pr at HV
  have HPr : Hid ((if k = 0 then none else o.exports[k - 1]?) = pr) := hpv
  have hkl : k < o.exports.length := hk
  clear hpv h hT q hok
  generalize o.exports[k - 1]? = pe at *
  generalize o.exports.length = n5 at *
  obtain ⟨tv, xv, gv, fv, ev, sv, rv⟩ := u
  unfold obv at *
  simp only at *
  subst e1 e2 e3 e4 e5 e6 e7
  generalize o.types.length = n1 at *
  generalize o.texts.length = n2 at *
  generalize o.globals.length = n3 at *
  generalize o.funs.length = n4 at *
  generalize o.symbols.length = n6 at *
  generalize o.relocs.length = n7 at *
  generalize o.mod = m at *
  generalize hW : w.alloc (.cells #[.string (str m), .slice a1 n1 c1, .slice a2 n2 c2, .slice a3 n3 c3, .slice a4 n4 c4, .slice (some ⟨g, of, none⟩) n5 cap, .slice a6 n6 c6, .slice a7 n7 c7] 84) = W0 at *
  have hb0 : Below w.heap.size w W0 := by rw [← hW]; exact (Below.refl _ _).alloc (Nat.le_refl _) _
  have hs0 : W0.heap.size = w.heap.size + 1 := by rw [← hW]; simp
  have hN0 := heap_alloc_new w (.cells #[.string (str m), .slice a1 n1 c1, .slice a2 n2 c2, .slice a3 n3 c3, .slice a4 n4 c4, .slice (some ⟨g, of, none⟩) n5 cap, .slice a6 n6 c6, .slice a7 n7 c7] 84)
  rw [hW] at hN0
  have HC : ∀ u, Below W0.heap.size W0 u → u.cell? ⟨w.heap.size, 0, none⟩ = some (.string (str m)) ∧ u.cell? ⟨w.heap.size, 1, none⟩ = some (.slice a1 n1 c1) ∧ u.cell? ⟨w.heap.size, 2, none⟩ = some (.slice a2 n2 c2) ∧ u.cell? ⟨w.heap.size, 3, none⟩ = some (.slice a3 n3 c3) ∧ u.cell? ⟨w.heap.size, 4, none⟩ = some (.slice a4 n4 c4) ∧ u.cell? ⟨w.heap.size, 5, none⟩ = some (.slice (some ⟨g, of, none⟩) n5 cap) ∧ u.cell? ⟨w.heap.size, 6, none⟩ = some (.slice a6 n6 c6) ∧ u.cell? ⟨w.heap.size, 7, none⟩ = some (.slice a7 n7 c7) ∧ Below w.heap.size w u := by
    intro u hu
    have n0 := (hu.block w.heap.size (by omega)).trans hN0
    exact ⟨by rw [cell_of_row u _ 0 _ _ _ n0]; rfl, by rw [cell_of_row u _ 1 _ _ _ n0]; rfl, by rw [cell_of_row u _ 2 _ _ _ n0]; rfl, by rw [cell_of_row u _ 3 _ _ _ n0]; rfl, by rw [cell_of_row u _ 4 _ _ _ n0]; rfl, by rw [cell_of_row u _ 5 _ _ _ n0]; rfl, by rw [cell_of_row u _ 6 _ _ _ n0]; rfl, by rw [cell_of_row u _ 7 _ _ _ n0]; rfl, below_trans hb0 hu⟩
  have HCh := hidden HC
  obtain ⟨z0, z1, z2, z3, z4, z5, z6, z7, _⟩ := HC W0 (Below.refl _ _)
  obtain ⟨q0, -⟩ := HPv.out W0 hb0
  have HNm := hidden hNm
  have ki0 : (0 : Int) ≤ (k : Int) := by omega
  have hgl : g < w.heap.size := hF g hg
  have hgl1 : g < w.heap.size + 1 := by omega
  have hgl2 : ¬ g = w.heap.size + 1 := by omega
  clear HC hN0 hNm
  go_enter Tryz.func36, Tryz.ntmps36
  go_wp2_with fail
  go_cut [6] from 7 to 18 (fun c wx => c = .bool ow ∧ Below W0.heap.size W0 wx)
  case first =>
    first | (go_region_with (go_at_call 60; refine (HNm.out _ (by first | exact below_drew hb0 | exact hb0 | exact (below_drew hb0).alloc (by simp; omega) _)).mono ?_; rintro e w3 ⟨⟨kd, nm, ty, cs⟩, ca, cn, cc, rfl, hb3⟩; simp only [itv]; try (have hr : w3.heap[W0.heap.size]? = some (.cells #[.int .i64 0, .string ⟨#[]⟩, .string ⟨#[]⟩, .slice none 0 0] 38 (0, 0)) := (hb3.block W0.heap.size (by simp)).trans (heap_alloc_new W0.drew (.cells #[.int .i64 0, .string ⟨#[]⟩, .string ⟨#[]⟩, .slice none 0 0] 38)); rw [hs0] at hr; obtain ⟨r0, r1, r2, r3, rf0, rf1, rf2, rf3⟩ := four4 hr))) | fail
    all_goals (
      have hB : Below W0.heap.size W0 w3 := by first | exact below_undrew hb3 | exact ((below_drew (Below.refl _ W0)).alloc (by simp) _).trans (hb3.mono (by simp))
      go_wp2_with fail
      go_meet
      first
        | exact ⟨rfl, hB.alloc hB.size _⟩
        | exact ⟨rfl, box4_below hB (Nat.le_refl _) _ _ _ _⟩
        | exact ⟨rfl, box4_below hB (show W0.heap.size ≤ w.heap.size + 1 by omega) _ _ _ _⟩
        | exact ⟨rfl, hB⟩)
  case rest =>
    obtain ⟨rfl, hq⟩ := hcut
    rename World => wq
    obtain ⟨-, -, -, -, -, d5, -, -, hwq⟩ := HCh.out wq hq
    obtain ⟨p0, pj⟩ := HPv.out wq hwq
    have HPj := hidden pj
    clear z0 z1 z2 z3 z4 z5 z6 z7 q0 pj
    cases ow
    · have HW : Hid (r = 16) := by rw [hid_iff, HV.out]; rfl
      go_wp2
      go_ret
      exact ⟨(by rw [HW.out]; first | done | rfl), hwq⟩
    · have HV' := HV.out
      simp only [Bool.true_eq_false, if_false] at HV'
      generalize hbad : pr.any (fun p => decide (x ≤ p)) = bad at HV'
      have HB := hidden hbad
      have HV2 := hidden HV'
      clear hbad HV' HV
      go_wp2_with fail
      go_cut [38] from 21 to 37 (fun c wx => c = .bool bad ∧ ∃ n, wx = wq.drewN n)
      case first =>
        cases k with
        | zero =>
          have hz : bad = false := by rw [← HB.out, ← HPr.out]; rfl
          subst hz
          clear HPj HPv HPr HB HV2 HNm
          first | (go_quiet (fail)) | fail
          go_wp2_with fail
          go_meet
          exact ⟨rfl, _, rfl⟩
        | succ j =>
          obtain ⟨p, hp0, hp1⟩ := HPj.out j rfl
          have hz : bad = decide (x ≤ p) := by
            rw [← HB.out, ← HPr.out, if_neg (by omega), hp0]
            rfl
          have hle := leq_is x p
          rw [← hz] at hle
          have hj0 : (0 : Int) ≤ (j : Int) := by omega
          have hj1 : IntKind.i64.wrap (((j + 1 : Nat) : Int) - 1) = (j : Int) := by rw [IntKind.wrap_i64]; omega
          have hj2 : (j : Int) < (n5 : Int) := by omega
          have hj3 : (0 : Int) < ((j + 1 : Nat) : Int) := by omega
          have hj4 : ((j + 1 : Nat) : Int) - 1 = (j : Int) := by omega
          have hj5 : IntKind.i64.wrap ((j : Int) + 1 - 1) = (j : Int) := by rw [IntKind.wrap_i64]; omega
          have hj6 : IntKind.i64.wrap (j : Int) = (j : Int) := by rw [IntKind.wrap_i64]; omega
          clear HPj HPv HPr HB HV2 HNm hz hp0
          first | (go_quiet (fail)) | fail
          go_wp2_with fail
          go_meet
          exact ⟨rfl, _, rfl⟩
      case rest =>
        obtain ⟨rfl, n, rfl⟩ := hcut
        have hwn := below_drewN hwq n
        cases bad
        · have HW : Hid (r = 0) := by rw [hid_iff, HV2.out]; rfl
          go_wp2
          go_ret
          exact ⟨(by rw [HW.out]; first | done | rfl), hwn⟩
        · have HW : Hid (r = 15) := by rw [hid_iff, HV2.out]; rfl
          go_wp2
          go_ret
          exact ⟨(by rw [HW.out]; first | done | rfl), hwn⟩
end Go.Proofs.YtokkhdpkadgffaaGreatDoor
