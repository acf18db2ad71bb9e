/-
  The law on what is written and read of objects: its walk.
-/
import Derived.Test.YtfjppbpicmniaaaGreatDoorObjSameLZ
import Derived.Test.YtfjppbpicmniaaaGreatDoorG37
import Derived.Test.YtfjppbpicmniaaaGreatDoorG42
import Derived.Test.YtfjppbpicmniaaaGreatDoorG38
namespace Go.Proofs.YtfjppbpicmniaaaGreatDoor
open Go.RowKit

theorem rdB {w w' : World} {b : Nat} {v : Value} {l : List Nat} (h : Wire.Rd w b v l) (k : Below w.heap.size w w') : Wire.Rd w' b v l := by
  rcases h with h | ⟨a, cap, h1, h2, h3⟩
  · exact .inl h
  · refine .inr ⟨a, cap, h1, h2, fun j u hj => ?_⟩
    have := h3 j u hj
    rw [k.cell (World.block_lt_of_cell? w _ this)]
    exact this
theorem decO_no (l : List Nat) : (decO l).1.1 ≠ 0 → (decO l).2 = noneO := by
  unfold decO
  split
  · exact fun _ => rfl
  · split
    · exact fun _ => rfl
    · split
      · exact fun _ => rfl
      · exact fun h => absurd rfl h
theorem noneS : ObS noneO := ⟨by simp [noneO], ⟨by simp [noneO], by simp [noneO]⟩, ⟨by simp [noneO], by simp [noneO]⟩, ⟨by simp [noneO], by simp [noneO]⟩, ⟨by simp [noneO], by simp [noneO]⟩, ⟨by simp [noneO], by simp [noneO]⟩, ⟨by simp [noneO], by simp [noneO]⟩, ⟨by simp [noneO], by simp [noneO]⟩⟩
set_option maxHeartbeats 4000000 in
set_option maxRecDepth 1000000 in
theorem back_walk14 (F : Nat → Prop) (v : ObV) (o : Ob) (b0 : Nat) (ba : Option Addr) (bc : Nat) (bl : List Nat) (w : World) (hO : ObR F w v o) (hF : ∀ g, F g → g < w.heap.size) (hok : ObOk o) (hB : Wire.Rd w b0 (.slice ba bl.length bc) bl) (hbl : bl.length ≤ 140737488355328) (h256 : ∀ x ∈ bl, x < 256) :
    Calls Tryz.prog 5 #[obv v o.mod, .slice ba bl.length bc] w (BoolB true w) := by
  obtain ⟨v1, v2, v3, v4, v5, v6, v7⟩ := v
  obtain ⟨m, ts, xs, gs, fs, es, ss, rs⟩ := o
  obtain ⟨aa1, ac1, e1⟩ := hO.types.shape
  obtain ⟨aa2, ac2, e2⟩ := hO.texts.1.shape
  obtain ⟨aa3, ac3, e3⟩ := hO.globals.shape
  obtain ⟨aa4, ac4, e4⟩ := hO.funs.shape
  obtain ⟨aa5, ac5, e5⟩ := hO.exports.1.shape
  obtain ⟨aa6, ac6, e6⟩ := hO.symbols.shape
  obtain ⟨aa7, ac7, e7⟩ := hO.relocs.shape
  simp only at e1 e2 e3 e4 e5 e6 e7
  subst e1 e2 e3 e4 e5 e6 e7
  have hBH := hidden hB
  have n1 := World.alloc_heap_new w (.cells #[.string (str m), .slice aa1 ts.length ac1, .slice aa2 xs.length ac2, .slice aa3 gs.length ac3, .slice aa4 fs.length ac4, .slice aa5 es.length ac5, .slice aa6 ss.length ac6, .slice aa7 rs.length ac7] 29)
  have b1 : Below w.heap.size w (w.alloc (.cells #[.string (str m), .slice aa1 ts.length ac1, .slice aa2 xs.length ac2, .slice aa3 gs.length ac3, .slice aa4 fs.length ac4, .slice aa5 es.length ac5, .slice aa6 ss.length ac6, .slice aa7 rs.length ac7] 29)) := (Below.refl _ _).alloc (Nat.le_refl _) _
  have z1 : (w.alloc (.cells #[.string (str m), .slice aa1 ts.length ac1, .slice aa2 xs.length ac2, .slice aa3 gs.length ac3, .slice aa4 fs.length ac4, .slice aa5 es.length ac5, .slice aa6 ss.length ac6, .slice aa7 rs.length ac7] 29)).heap.size = w.heap.size + 1 := by simp
  have hO1 := hO.below b1 hF
  have henc := oencO F ⟨.slice aa1 ts.length ac1, .slice aa2 xs.length ac2, .slice aa3 gs.length ac3, .slice aa4 fs.length ac4, .slice aa5 es.length ac5, .slice aa6 ss.length ac6, .slice aa7 rs.length ac7⟩ ⟨m, ts, xs, gs, fs, es, ss, rs⟩ _ hO1 (fun g hg => by have := hF g hg; omega) hok
  have hRS : (rightO ⟨m, ts, xs, gs, fs, es, ss, rs⟩).1 = 0 → ObS ⟨m, ts, xs, gs, fs, es, ss, rs⟩ ∧ ((objB ⟨m, ts, xs, gs, fs, es, ss, rs⟩).length ≤ 8192 → decO (objB ⟨m, ts, xs, gs, fs, es, ss, rs⟩) = ((0, 0), ⟨m, ts, xs, gs, fs, es, ss, rs⟩)) := fun h => ⟨obj_short h, fun h2 => dec_forthO (obj_short h) h h2⟩
  have h8 := objB_lt ⟨m, ts, xs, gs, fs, es, ss, rs⟩
  unfold EncO at henc
  unfold obv at henc ⊢
  simp only at henc ⊢
  have d0 : (w.alloc (.cells #[.string (str m), .slice aa1 ts.length ac1, .slice aa2 xs.length ac2, .slice aa3 gs.length ac3, .slice aa4 fs.length ac4, .slice aa5 es.length ac5, .slice aa6 ss.length ac6, .slice aa7 rs.length ac7] 29)).cell? ⟨w.heap.size, 0, none⟩ = some (.string (str m)) := by rw [cell_of_row _ _ 0 _ _ _ n1]; rfl
  have d1 : (w.alloc (.cells #[.string (str m), .slice aa1 ts.length ac1, .slice aa2 xs.length ac2, .slice aa3 gs.length ac3, .slice aa4 fs.length ac4, .slice aa5 es.length ac5, .slice aa6 ss.length ac6, .slice aa7 rs.length ac7] 29)).cell? ⟨w.heap.size, 1, none⟩ = some (.slice aa1 ts.length ac1) := by rw [cell_of_row _ _ 1 _ _ _ n1]; rfl
  have d2 : (w.alloc (.cells #[.string (str m), .slice aa1 ts.length ac1, .slice aa2 xs.length ac2, .slice aa3 gs.length ac3, .slice aa4 fs.length ac4, .slice aa5 es.length ac5, .slice aa6 ss.length ac6, .slice aa7 rs.length ac7] 29)).cell? ⟨w.heap.size, 2, none⟩ = some (.slice aa2 xs.length ac2) := by rw [cell_of_row _ _ 2 _ _ _ n1]; rfl
  have d3 : (w.alloc (.cells #[.string (str m), .slice aa1 ts.length ac1, .slice aa2 xs.length ac2, .slice aa3 gs.length ac3, .slice aa4 fs.length ac4, .slice aa5 es.length ac5, .slice aa6 ss.length ac6, .slice aa7 rs.length ac7] 29)).cell? ⟨w.heap.size, 3, none⟩ = some (.slice aa3 gs.length ac3) := by rw [cell_of_row _ _ 3 _ _ _ n1]; rfl
  have d4 : (w.alloc (.cells #[.string (str m), .slice aa1 ts.length ac1, .slice aa2 xs.length ac2, .slice aa3 gs.length ac3, .slice aa4 fs.length ac4, .slice aa5 es.length ac5, .slice aa6 ss.length ac6, .slice aa7 rs.length ac7] 29)).cell? ⟨w.heap.size, 4, none⟩ = some (.slice aa4 fs.length ac4) := by rw [cell_of_row _ _ 4 _ _ _ n1]; rfl
  have d5 : (w.alloc (.cells #[.string (str m), .slice aa1 ts.length ac1, .slice aa2 xs.length ac2, .slice aa3 gs.length ac3, .slice aa4 fs.length ac4, .slice aa5 es.length ac5, .slice aa6 ss.length ac6, .slice aa7 rs.length ac7] 29)).cell? ⟨w.heap.size, 5, none⟩ = some (.slice aa5 es.length ac5) := by rw [cell_of_row _ _ 5 _ _ _ n1]; rfl
  have d6 : (w.alloc (.cells #[.string (str m), .slice aa1 ts.length ac1, .slice aa2 xs.length ac2, .slice aa3 gs.length ac3, .slice aa4 fs.length ac4, .slice aa5 es.length ac5, .slice aa6 ss.length ac6, .slice aa7 rs.length ac7] 29)).cell? ⟨w.heap.size, 6, none⟩ = some (.slice aa6 ss.length ac6) := by rw [cell_of_row _ _ 6 _ _ _ n1]; rfl
  have d7 : (w.alloc (.cells #[.string (str m), .slice aa1 ts.length ac1, .slice aa2 xs.length ac2, .slice aa3 gs.length ac3, .slice aa4 fs.length ac4, .slice aa5 es.length ac5, .slice aa6 ss.length ac6, .slice aa7 rs.length ac7] 29)).cell? ⟨w.heap.size, 7, none⟩ = some (.slice aa7 rs.length ac7) := by rw [cell_of_row _ _ 7 _ _ _ n1]; rfl
  generalize objB ⟨m, ts, xs, gs, fs, es, ss, rs⟩ = OBJ at *
  generalize (rightO ⟨m, ts, xs, gs, fs, es, ss, rs⟩).1 = RN at *
  replace hRS := hidden hRS
  unfold EncQ at henc
  clear hO hB
  go_enter Tryz.func5, Tryz.ntmps5
  go_wp2_with fail
  generalize w.alloc (.cells #[.string (str m), .slice aa1 ts.length ac1, .slice aa2 xs.length ac2, .slice aa3 gs.length ac3, .slice aa4 fs.length ac4, .slice aa5 es.length ac5, .slice aa6 ss.length ac6, .slice aa7 rs.length ac7] 29) = w1 at *
  refine henc.mono ?_
  rintro e w2 ⟨hb2, hcase⟩
  have s2 := hb2.size
  have n2 := (hb2.block w.heap.size (by omega)).trans n1
  have hO2 := hO1.below hb2 (fun g hg => by have := hF g hg; omega)
  have GW : Below w.heap.size w w2 := b1.trans (hb2.mono (by omega))
  clear henc hb2 hO1 n1 b1 d0 d1 d2 d3 d4 d5 d6 d7
  rcases hcase with ⟨y, hy0, _, rfl⟩ | ⟨hr0, hlen, xv, gx, rfl, hrow, _⟩
  · have hyf : ((y : Int) == 0) = false := by rw [beq_eq_false_iff_ne]; omega
    clear hRS n2 hO2 h8 hok
    have hd2 := decodeO (.slice ba bl.length bc) b0 bl w2 hbl h256 (rdB hBH.out GW)
    unfold DecO at hd2
    go_wp2_with fail
    refine hd2.mono ?_
    rintro e wd ⟨hbd, qv, rfl, hq⟩
    have hDQ := hidden (show (decO bl).2 = (decO bl).2 from rfl)
    have hNO := hidden (decO_no bl)
    have hOK := hidden (fun h => dec_backO (l := bl) h256 h)
    have hqok := dec_ok bl
    generalize decO bl = RES at *
    obtain ⟨⟨y1, y2⟩, q⟩ := RES
    simp only at hq hNO hOK hqok
    have Gd : Below w.heap.size w wd := GW.trans (hbd.mono GW.size)
    have sd := hbd.size
    obtain ⟨qv1, qv2, qv3, qv4, qv5, qv6, qv7⟩ := qv
    obtain ⟨qa1, qc1, e1⟩ := hq.types.shape
    obtain ⟨qa2, qc2, e2⟩ := hq.texts.1.shape
    obtain ⟨qa3, qc3, e3⟩ := hq.globals.shape
    obtain ⟨qa4, qc4, e4⟩ := hq.funs.shape
    obtain ⟨qa5, qc5, e5⟩ := hq.exports.1.shape
    obtain ⟨qa6, qc6, e6⟩ := hq.symbols.shape
    obtain ⟨qa7, qc7, e7⟩ := hq.relocs.shape
    simp only at e1 e2 e3 e4 e5 e6 e7
    subst e1 e2 e3 e4 e5 e6 e7
    unfold obv
    simp only
    have hFr : ∀ g, Fr w2 wd g → g < wd.heap.size := fun g hg => hg.2
    clear hd2 hbd GW hDQ
    have nq := World.alloc_heap_new wd (.cells #[.string (str q.mod), .slice qa1 q.types.length qc1, .slice qa2 q.texts.length qc2, .slice qa3 q.globals.length qc3, .slice qa4 q.funs.length qc4, .slice qa5 q.exports.length qc5, .slice qa6 q.symbols.length qc6, .slice qa7 q.relocs.length qc7] 29)
    have bq : Below wd.heap.size wd (wd.alloc (.cells #[.string (str q.mod), .slice qa1 q.types.length qc1, .slice qa2 q.texts.length qc2, .slice qa3 q.globals.length qc3, .slice qa4 q.funs.length qc4, .slice qa5 q.exports.length qc5, .slice qa6 q.symbols.length qc6, .slice qa7 q.relocs.length qc7] 29)) := (Below.refl _ _).alloc (Nat.le_refl _) _
    have zq : (wd.alloc (.cells #[.string (str q.mod), .slice qa1 q.types.length qc1, .slice qa2 q.texts.length qc2, .slice qa3 q.globals.length qc3, .slice qa4 q.funs.length qc4, .slice qa5 q.exports.length qc5, .slice qa6 q.symbols.length qc6, .slice qa7 q.relocs.length qc7] 29)).heap.size = wd.heap.size + 1 := by simp
    have hq' := hq.below bq hFr
    have Gq : Below w.heap.size w (wd.alloc (.cells #[.string (str q.mod), .slice qa1 q.types.length qc1, .slice qa2 q.texts.length qc2, .slice qa3 q.globals.length qc3, .slice qa4 q.funs.length qc4, .slice qa5 q.exports.length qc5, .slice qa6 q.symbols.length qc6, .slice qa7 q.relocs.length qc7] 29)) := Gd.trans (bq.mono Gd.size)
    have d0 : (wd.alloc (.cells #[.string (str q.mod), .slice qa1 q.types.length qc1, .slice qa2 q.texts.length qc2, .slice qa3 q.globals.length qc3, .slice qa4 q.funs.length qc4, .slice qa5 q.exports.length qc5, .slice qa6 q.symbols.length qc6, .slice qa7 q.relocs.length qc7] 29)).cell? ⟨wd.heap.size, 0, none⟩ = some (.string (str q.mod)) := by rw [cell_of_row _ _ 0 _ _ _ nq]; rfl
    have d1 : (wd.alloc (.cells #[.string (str q.mod), .slice qa1 q.types.length qc1, .slice qa2 q.texts.length qc2, .slice qa3 q.globals.length qc3, .slice qa4 q.funs.length qc4, .slice qa5 q.exports.length qc5, .slice qa6 q.symbols.length qc6, .slice qa7 q.relocs.length qc7] 29)).cell? ⟨wd.heap.size, 1, none⟩ = some (.slice qa1 q.types.length qc1) := by rw [cell_of_row _ _ 1 _ _ _ nq]; rfl
    have d2 : (wd.alloc (.cells #[.string (str q.mod), .slice qa1 q.types.length qc1, .slice qa2 q.texts.length qc2, .slice qa3 q.globals.length qc3, .slice qa4 q.funs.length qc4, .slice qa5 q.exports.length qc5, .slice qa6 q.symbols.length qc6, .slice qa7 q.relocs.length qc7] 29)).cell? ⟨wd.heap.size, 2, none⟩ = some (.slice qa2 q.texts.length qc2) := by rw [cell_of_row _ _ 2 _ _ _ nq]; rfl
    have d3 : (wd.alloc (.cells #[.string (str q.mod), .slice qa1 q.types.length qc1, .slice qa2 q.texts.length qc2, .slice qa3 q.globals.length qc3, .slice qa4 q.funs.length qc4, .slice qa5 q.exports.length qc5, .slice qa6 q.symbols.length qc6, .slice qa7 q.relocs.length qc7] 29)).cell? ⟨wd.heap.size, 3, none⟩ = some (.slice qa3 q.globals.length qc3) := by rw [cell_of_row _ _ 3 _ _ _ nq]; rfl
    have d4 : (wd.alloc (.cells #[.string (str q.mod), .slice qa1 q.types.length qc1, .slice qa2 q.texts.length qc2, .slice qa3 q.globals.length qc3, .slice qa4 q.funs.length qc4, .slice qa5 q.exports.length qc5, .slice qa6 q.symbols.length qc6, .slice qa7 q.relocs.length qc7] 29)).cell? ⟨wd.heap.size, 4, none⟩ = some (.slice qa4 q.funs.length qc4) := by rw [cell_of_row _ _ 4 _ _ _ nq]; rfl
    have d5 : (wd.alloc (.cells #[.string (str q.mod), .slice qa1 q.types.length qc1, .slice qa2 q.texts.length qc2, .slice qa3 q.globals.length qc3, .slice qa4 q.funs.length qc4, .slice qa5 q.exports.length qc5, .slice qa6 q.symbols.length qc6, .slice qa7 q.relocs.length qc7] 29)).cell? ⟨wd.heap.size, 5, none⟩ = some (.slice qa5 q.exports.length qc5) := by rw [cell_of_row _ _ 5 _ _ _ nq]; rfl
    have d6 : (wd.alloc (.cells #[.string (str q.mod), .slice qa1 q.types.length qc1, .slice qa2 q.texts.length qc2, .slice qa3 q.globals.length qc3, .slice qa4 q.funs.length qc4, .slice qa5 q.exports.length qc5, .slice qa6 q.symbols.length qc6, .slice qa7 q.relocs.length qc7] 29)).cell? ⟨wd.heap.size, 6, none⟩ = some (.slice qa6 q.symbols.length qc6) := by rw [cell_of_row _ _ 6 _ _ _ nq]; rfl
    have d7 : (wd.alloc (.cells #[.string (str q.mod), .slice qa1 q.types.length qc1, .slice qa2 q.texts.length qc2, .slice qa3 q.globals.length qc3, .slice qa4 q.funs.length qc4, .slice qa5 q.exports.length qc5, .slice qa6 q.symbols.length qc6, .slice qa7 q.relocs.length qc7] 29)).cell? ⟨wd.heap.size, 7, none⟩ = some (.slice qa7 q.relocs.length qc7) := by rw [cell_of_row _ _ 7 _ _ _ nq]; rfl
    clear hq bq nq Gd
    by_cases hy : y1 = 0
    · obtain ⟨hr1, hr2, hr3⟩ := hOK.out hy
      clear hOK hNO
      subst hy
      have henc := oencO (Fr w2 wd) ⟨.slice qa1 q.types.length qc1, .slice qa2 q.texts.length qc2, .slice qa3 q.globals.length qc3, .slice qa4 q.funs.length qc4, .slice qa5 q.exports.length qc5, .slice qa6 q.symbols.length qc6, .slice qa7 q.relocs.length qc7⟩ q _ hq' (fun g hg => by have := hFr g hg; omega) hqok
      unfold EncO at henc
      rw [hr1, hr2] at henc
      unfold EncQ obv at henc
      simp only at henc
      go_wp2_with fail
      generalize wd.alloc (.cells #[.string (str q.mod), .slice qa1 q.types.length qc1, .slice qa2 q.texts.length qc2, .slice qa3 q.globals.length qc3, .slice qa4 q.funs.length qc4, .slice qa5 q.exports.length qc5, .slice qa6 q.symbols.length qc6, .slice qa7 q.relocs.length qc7] 29) = we at *
      refine henc.mono ?_
      rintro e wf ⟨hbf, hcase⟩
      have Gf : Below w.heap.size w wf := Gq.trans (hbf.mono Gq.size)
      have hgood : ∃ yv g, e = .returned (.tuple #[yv, .int .i64 0]) ∧ Wire.Row wf g yv bl := by
        rcases hcase with ⟨y, hy0, h, _⟩ | ⟨_, _, yv, g, h1, h2, _⟩
        · rcases h with ⟨h, _⟩ | ⟨_, h, _⟩
          · exact absurd rfl h
          · omega
        · exact ⟨yv, g, h1, h2⟩
      obtain ⟨yv, g, rfl, hrow⟩ := hgood
      have hc1 := hrow.rd.string
      have hc2 := (rdB hBH.out Gf).string
      obtain ⟨ya, yc, rfl⟩ := hrow.rd.shape
      generalize Wire.toStr bl = sb at *
      have heq : (sb.toList == sb.toList) = true := by simp
      clear henc hcase hbf hrow hq' hqok d0 d1 d2 d3 d4 d5 d6 d7 Gq zq
      go_wp2_with fail
      refine (known14 wf).mono ?_
      rintro e wg ⟨rfl, hbg⟩
      have Gg : Below w.heap.size w wg := Gf.trans (hbg.mono Gf.size)
      clear hbg Gf hc1 hc2
      go_wp2
      go_ret
      exact ⟨rfl, Gg⟩
    · have hqn := hNO.out hy
      clear hOK hNO
      subst hqn
      have hyn : ((y1 : Int) != 0) = true := by rw [bne_iff_ne]; omega
      have hsm := sameL (Fr w2 wd) (fun _ => False) ⟨.slice qa1 noneO.types.length qc1, .slice qa2 noneO.texts.length qc2, .slice qa3 noneO.globals.length qc3, .slice qa4 noneO.funs.length qc4, .slice qa5 noneO.exports.length qc5, .slice qa6 noneO.symbols.length qc6, .slice qa7 noneO.relocs.length qc7⟩ obVn noneO _ hq' (obR_n _ _) (fun g hg => by have := hFr g hg; omega) (fun _ h => h.elim) none_ok noneS
      unfold obv obVn at hsm
      simp only at hsm
      go_wp2_with fail
      generalize wd.alloc (.cells #[.string (str noneO.mod), .slice qa1 noneO.types.length qc1, .slice qa2 noneO.texts.length qc2, .slice qa3 noneO.globals.length qc3, .slice qa4 noneO.funs.length qc4, .slice qa5 noneO.exports.length qc5, .slice qa6 noneO.symbols.length qc6, .slice qa7 noneO.relocs.length qc7] 29) = we at *
      refine hsm.mono ?_
      rintro e wf ⟨rfl, hbf⟩
      have Gf : Below w.heap.size w wf := Gq.trans (hbf.mono Gq.size)
      clear hsm hbf hq' hqok d0 d1 d2 d3 d4 d5 d6 d7 Gq zq
      go_wp2_with fail
      refine (known14 wf).mono ?_
      rintro e wg ⟨rfl, hbg⟩
      have Gg : Below w.heap.size w wg := Gf.trans (hbg.mono Gf.size)
      clear hbg Gf
      go_wp2
      go_ret
      exact ⟨rfl, Gg⟩
  · obtain ⟨hOS, hdec⟩ := hRS.out hr0
    replace hdec := hidden (hdec hlen)
    clear hRS hr0
    have hd1 := decodeO xv gx OBJ w2 (by omega) h8 hrow.rd
    obtain ⟨xa, xc, rfl⟩ := hrow.rd.shape
    unfold DecO at hd1
    rw [hdec.out] at hd1
    unfold obv at hd1
    simp only at hd1
    clear hdec hrow h8
    go_wp2_with fail
    refine hd1.mono ?_
    rintro e w3 ⟨hb3, pv, rfl, hp3⟩
    obtain ⟨p1, p2, p3, p4, p5, p6, p7⟩ := pv
    obtain ⟨pa1, pc1, e1⟩ := hp3.types.shape
    obtain ⟨pa2, pc2, e2⟩ := hp3.texts.1.shape
    obtain ⟨pa3, pc3, e3⟩ := hp3.globals.shape
    obtain ⟨pa4, pc4, e4⟩ := hp3.funs.shape
    obtain ⟨pa5, pc5, e5⟩ := hp3.exports.1.shape
    obtain ⟨pa6, pc6, e6⟩ := hp3.symbols.shape
    obtain ⟨pa7, pc7, e7⟩ := hp3.relocs.shape
    simp only at e1 e2 e3 e4 e5 e6 e7
    subst e1 e2 e3 e4 e5 e6 e7
    have s3 := hb3.size
    have n3 := (hb3.block w.heap.size (by omega)).trans n2
    have hO3 := hO2.below hb3 (fun g hg => by have := hF g hg; omega)
    have G3 : Below w.heap.size w w3 := GW.trans (hb3.mono (by omega))
    have hPf : ∀ g, Fr w2 w3 g → g < w3.heap.size := fun g hg => hg.2
    have n4p := World.alloc_heap_new w3 (.cells #[.string (str m), .slice pa1 ts.length pc1, .slice pa2 xs.length pc2, .slice pa3 gs.length pc3, .slice pa4 fs.length pc4, .slice pa5 es.length pc5, .slice pa6 ss.length pc6, .slice pa7 rs.length pc7] 29)
    have b4 : Below w3.heap.size w3 (w3.alloc (.cells #[.string (str m), .slice pa1 ts.length pc1, .slice pa2 xs.length pc2, .slice pa3 gs.length pc3, .slice pa4 fs.length pc4, .slice pa5 es.length pc5, .slice pa6 ss.length pc6, .slice pa7 rs.length pc7] 29)) := (Below.refl _ _).alloc (Nat.le_refl _) _
    have z4 : (w3.alloc (.cells #[.string (str m), .slice pa1 ts.length pc1, .slice pa2 xs.length pc2, .slice pa3 gs.length pc3, .slice pa4 fs.length pc4, .slice pa5 es.length pc5, .slice pa6 ss.length pc6, .slice pa7 rs.length pc7] 29)).heap.size = w3.heap.size + 1 := by simp
    have n4 := (b4.block w.heap.size (by omega)).trans n3
    have hO4 := hO3.below b4 (fun g hg => by have := hF g hg; omega)
    have hP4 := hp3.below b4 hPf
    have G4 : Below w.heap.size w (w3.alloc (.cells #[.string (str m), .slice pa1 ts.length pc1, .slice pa2 xs.length pc2, .slice pa3 gs.length pc3, .slice pa4 fs.length pc4, .slice pa5 es.length pc5, .slice pa6 ss.length pc6, .slice pa7 rs.length pc7] 29)) := G3.trans (b4.mono (by omega))
    clear hd1 hb3 hO2 n2 GW hp3 hO3 n3 b4 G3
    go_upto_region 4 with fail
    generalize w3.alloc (.cells #[.string (str m), .slice pa1 ts.length pc1, .slice pa2 xs.length pc2, .slice pa3 gs.length pc3, .slice pa4 fs.length pc4, .slice pa5 es.length pc5, .slice pa6 ss.length pc6, .slice pa7 rs.length pc7] 29) = w4 at *
    have HX : Hid (∀ u, Below w4.heap.size w4 u → (u.cell? ⟨w.heap.size, 0, none⟩ = some (.string (str m)) ∧ u.cell? ⟨w.heap.size, 1, none⟩ = some (.slice aa1 ts.length ac1) ∧ u.cell? ⟨w.heap.size, 2, none⟩ = some (.slice aa2 xs.length ac2) ∧ u.cell? ⟨w.heap.size, 3, none⟩ = some (.slice aa3 gs.length ac3) ∧ u.cell? ⟨w.heap.size, 4, none⟩ = some (.slice aa4 fs.length ac4) ∧ u.cell? ⟨w.heap.size, 5, none⟩ = some (.slice aa5 es.length ac5) ∧ u.cell? ⟨w.heap.size, 6, none⟩ = some (.slice aa6 ss.length ac6) ∧ u.cell? ⟨w.heap.size, 7, none⟩ = some (.slice aa7 rs.length ac7)) ∧ (u.cell? ⟨w3.heap.size, 0, none⟩ = some (.string (str m)) ∧ u.cell? ⟨w3.heap.size, 1, none⟩ = some (.slice pa1 ts.length pc1) ∧ u.cell? ⟨w3.heap.size, 2, none⟩ = some (.slice pa2 xs.length pc2) ∧ u.cell? ⟨w3.heap.size, 3, none⟩ = some (.slice pa3 gs.length pc3) ∧ u.cell? ⟨w3.heap.size, 4, none⟩ = some (.slice pa4 fs.length pc4) ∧ u.cell? ⟨w3.heap.size, 5, none⟩ = some (.slice pa5 es.length pc5) ∧ u.cell? ⟨w3.heap.size, 6, none⟩ = some (.slice pa6 ss.length pc6) ∧ u.cell? ⟨w3.heap.size, 7, none⟩ = some (.slice pa7 rs.length pc7)) ∧ ObR F u ⟨.slice aa1 ts.length ac1, .slice aa2 xs.length ac2, .slice aa3 gs.length ac3, .slice aa4 fs.length ac4, .slice aa5 es.length ac5, .slice aa6 ss.length ac6, .slice aa7 rs.length ac7⟩ ⟨m, ts, xs, gs, fs, es, ss, rs⟩ ∧ ObR (Fr w2 w3) u ⟨.slice pa1 ts.length pc1, .slice pa2 xs.length pc2, .slice pa3 gs.length pc3, .slice pa4 fs.length pc4, .slice pa5 es.length pc5, .slice pa6 ss.length pc6, .slice pa7 rs.length pc7⟩ ⟨m, ts, xs, gs, fs, es, ss, rs⟩ ∧ Below w.heap.size w u ∧ w4.heap.size ≤ u.heap.size) := by
      rw [hid_iff]
      intro u hu
      have y2 := (hu.block w.heap.size (by omega)).trans n4
      have y4 := (hu.block w3.heap.size (by omega)).trans n4p
      exact ⟨⟨by rw [cell_of_row _ _ 0 _ _ _ y2]; rfl, by rw [cell_of_row _ _ 1 _ _ _ y2]; rfl, by rw [cell_of_row _ _ 2 _ _ _ y2]; rfl, by rw [cell_of_row _ _ 3 _ _ _ y2]; rfl, by rw [cell_of_row _ _ 4 _ _ _ y2]; rfl, by rw [cell_of_row _ _ 5 _ _ _ y2]; rfl, by rw [cell_of_row _ _ 6 _ _ _ y2]; rfl, by rw [cell_of_row _ _ 7 _ _ _ y2]; rfl⟩, ⟨by rw [cell_of_row _ _ 0 _ _ _ y4]; rfl, by rw [cell_of_row _ _ 1 _ _ _ y4]; rfl, by rw [cell_of_row _ _ 2 _ _ _ y4]; rfl, by rw [cell_of_row _ _ 3 _ _ _ y4]; rfl, by rw [cell_of_row _ _ 4 _ _ _ y4]; rfl, by rw [cell_of_row _ _ 5 _ _ _ y4]; rfl, by rw [cell_of_row _ _ 6 _ _ _ y4]; rfl, by rw [cell_of_row _ _ 7 _ _ _ y4]; rfl⟩, hO4.below hu (fun g hg => by have := hF g hg; omega), hP4.below hu (fun g hg => by have := hPf g hg; omega), G4.trans (hu.mono (by have := G4.size; omega)), hu.size⟩
    have HIN : Hid (∀ u, Below w4.heap.size w4 u → Calls Tryz.prog 6 #[.agg #[.string (str m), .slice aa1 ts.length ac1, .slice aa2 xs.length ac2, .slice aa3 gs.length ac3, .slice aa4 fs.length ac4, .slice aa5 es.length ac5, .slice aa6 ss.length ac6, .slice aa7 rs.length ac7]] u (InO F ⟨m, ts, xs, gs, fs, es, ss, rs⟩ u)) := by
      rw [hid_iff]
      intro u hu
      obtain ⟨-, -, hx, -, -, hs⟩ := HX.out u hu
      exact inL F ⟨.slice aa1 ts.length ac1, .slice aa2 xs.length ac2, .slice aa3 gs.length ac3, .slice aa4 fs.length ac4, .slice aa5 es.length ac5, .slice aa6 ss.length ac6, .slice aa7 rs.length ac7⟩ ⟨m, ts, xs, gs, fs, es, ss, rs⟩ u hx (fun g hg => by have := hF g hg; omega) hOS.globals.1 hOS.funs.1 hOS.symbols.1 hOS.relocs.1
    have HSM : Hid (∀ u u', Below w4.heap.size w4 u → Below u.heap.size u u' → ∀ iv : ObV, ObR (fun g => F g ∨ Fr u u' g) u' iv ⟨m, ts, xs, gs, fs, es, ss, rs⟩ → Calls Tryz.prog 24 #[.agg #[.string (str m), .slice pa1 ts.length pc1, .slice pa2 xs.length pc2, .slice pa3 gs.length pc3, .slice pa4 fs.length pc4, .slice pa5 es.length pc5, .slice pa6 ss.length pc6, .slice pa7 rs.length pc7], obv iv m] u' (BoolB true u')) := by
      rw [hid_iff]
      intro u u' hu hu' iv hiv
      obtain ⟨-, -, -, hy, -, hs⟩ := HX.out u' (hu.trans (hu'.mono hu.size))
      have hs1 := hu.size
      have hs2 := hu'.size
      exact sameL (Fr w2 w3) (fun g => F g ∨ Fr u u' g) ⟨.slice pa1 ts.length pc1, .slice pa2 xs.length pc2, .slice pa3 gs.length pc3, .slice pa4 fs.length pc4, .slice pa5 es.length pc5, .slice pa6 ss.length pc6, .slice pa7 rs.length pc7⟩ iv ⟨m, ts, xs, gs, fs, es, ss, rs⟩ u' hy hiv (fun g hg => by have := hPf g hg; omega) (fun g hg => by rcases hg with h | h; have := hF g h; omega; exact h.2) hok hOS
    obtain ⟨⟨c0, c1, c2, c3, c4, c5, c6, c7⟩, ⟨k0, k1, k2, k3, k4, k5, k6, k7⟩, -, -, -, -⟩ := HX.out w4 (Below.refl _ _)
    have G40 : Below w4.heap.size w4 w4.drew := (Below.refl _ _).drew
    clear hO4 hP4 n4 n4p G4 hok hOS
    (try dsimp only [List.append])
    refine wp_region_held (S := fun u => Below w4.heap.size w4 u) (by kernel_rfl) ?_
    show wpAnyH Tryz.prog .any _ _ _ _ _ _ w4.drew
    refine wpAnyH_take (i := 0) (v := .int .i64 0) rfl (by kernel_rfl) (by kernel_rfl) (by kernel_rfl) (fun _ _ _ h => h) (.inl ⟨by rfl, fun u hu => by go_simp⟩) G40 ?_
    show wpAnyH Tryz.prog .any _ _ _ _ _ (Act.put _ (some 28) (.int .i64 0)) _
    simp only [Act.put, List.setIfInBounds_toArray, List.set_cons_zero, List.set_cons_succ]
    refine wpAnyH_take (i := 1) (v := .bool false) rfl (by kernel_rfl) (by kernel_rfl) (by kernel_rfl) (fun _ _ _ h => h) (.inl ⟨by rfl, fun u hu => by go_simp⟩) G40 ?_
    show wpAnyH Tryz.prog .any _ _ _ _ _ (Act.put _ (some 29) (.bool false)) _
    simp only [Act.put, List.setIfInBounds_toArray, List.set_cons_zero, List.set_cons_succ]
    refine wpAnyH_take (i := 2) (v := .bool false) rfl (by kernel_rfl) (by kernel_rfl) (by kernel_rfl) (fun _ _ _ h => h) (.inl ⟨by rfl, fun u hu => by go_simp⟩) G40 ?_
    show wpAnyH Tryz.prog .any _ _ _ _ _ (Act.put _ (some 30) (.bool false)) _
    simp only [Act.put, List.setIfInBounds_toArray, List.set_cons_zero, List.set_cons_succ]
    refine wpAnyH_take (i := 3) (v := .agg #[.string (str m), .slice pa1 ts.length pc1, .slice pa2 xs.length pc2, .slice pa3 gs.length pc3, .slice pa4 fs.length pc4, .slice pa5 es.length pc5, .slice pa6 ss.length pc6, .slice pa7 rs.length pc7]) rfl (by kernel_rfl) (by kernel_rfl) (by kernel_rfl) (fun _ _ _ h => h) (.inl ⟨by rfl, fun u hu => by obtain ⟨⟨e0, e1, e2, e3, e4, e5, e6, e7⟩, ⟨f0, f1, f2, f3, f4, f5, f6, f7⟩, -, -, -, -⟩ := HX.out u hu; go_simp⟩) G40 ?_
    show wpAnyH Tryz.prog .any _ _ _ _ _ (Act.put _ (some 31) (.agg #[.string (str m), .slice pa1 ts.length pc1, .slice pa2 xs.length pc2, .slice pa3 gs.length pc3, .slice pa4 fs.length pc4, .slice pa5 es.length pc5, .slice pa6 ss.length pc6, .slice pa7 rs.length pc7])) _
    simp only [Act.put, List.setIfInBounds_toArray, List.set_cons_zero, List.set_cons_succ]
    refine wpAnyH_take (i := 4) (v := .agg #[.string (str m), .slice aa1 ts.length ac1, .slice aa2 xs.length ac2, .slice aa3 gs.length ac3, .slice aa4 fs.length ac4, .slice aa5 es.length ac5, .slice aa6 ss.length ac6, .slice aa7 rs.length ac7]) rfl (by kernel_rfl) (by kernel_rfl) (by kernel_rfl) (fun _ _ _ h => h) (.inl ⟨by rfl, fun u hu => by obtain ⟨⟨e0, e1, e2, e3, e4, e5, e6, e7⟩, ⟨f0, f1, f2, f3, f4, f5, f6, f7⟩, -, -, -, -⟩ := HX.out u hu; go_simp⟩) G40 ?_
    show wpAnyH Tryz.prog .any _ _ _ _ _ (Act.put _ (some 32) (.agg #[.string (str m), .slice aa1 ts.length ac1, .slice aa2 xs.length ac2, .slice aa3 gs.length ac3, .slice aa4 fs.length ac4, .slice aa5 es.length ac5, .slice aa6 ss.length ac6, .slice aa7 rs.length ac7])) _
    simp only [Act.put, List.setIfInBounds_toArray, List.set_cons_zero, List.set_cons_succ]
    refine wpAnyH_ready (rs := [5]) (by kernel_rfl) (by simp) ?_
    refine AllReadyH.cons rfl (fun K hK => ?_) AllReadyH.nil
    go_simp
    refine (HIN.out _ G40).mono ?_
    rintro e w5 ⟨hb5, iv, rfl, hiv⟩
    have G5 : Below w4.heap.size w4 w5 := G40.trans (hb5.mono (Nat.le_refl _))
    have hsm := HSM.out _ w5 G40 hb5 iv hiv
    refine hK _ _ G5 (fun _ => ?_)
    clear hK K
    refine wpAnyH_ready (rs := [6]) (by kernel_rfl) (by simp) ?_
    refine AllReadyH.cons rfl (fun K hK => ?_) AllReadyH.nil
    go_simp
    refine hsm.mono ?_
    rintro e w6 ⟨rfl, hb6⟩
    have G6 : Below w4.heap.size w4 w6 := G5.trans (hb6.mono G5.size)
    refine hK _ _ G6 (fun _ => ?_)
    clear hK K hsm
    refine wpAnyH_take (i := 7) (v := .bool false) rfl (by kernel_rfl) (by kernel_rfl) (by kernel_rfl) (fun _ _ _ h => h) (.inl ⟨by rfl, fun u hu => by go_simp⟩) G6 ?_
    show wpAnyH Tryz.prog .any _ _ _ _ _ (Act.put _ (some 35) (.bool false)) _
    simp only [Act.put, List.setIfInBounds_toArray]
    refine wpAnyH_take (i := 8) (v := .bool false) rfl (by kernel_rfl) (by kernel_rfl) (by kernel_rfl) (fun _ _ _ h => h) (.inl ⟨by rfl, fun u hu => by go_simp⟩) G6 ?_
    show wpAnyH Tryz.prog .any _ _ _ _ _ (Act.put _ (some 36) (.bool false)) _
    simp only [Act.put, List.setIfInBounds_toArray, List.set_cons_zero, List.set_cons_succ]
    refine wpAnyH_done (by kernel_rfl) ?_ _
    obtain ⟨-, -, -, -, GW, -⟩ := HX.out w6 G6
    clear HX HIN HSM c0 c1 c2 c3 c4 c5 c6 c7 k0 k1 k2 k3 k4 k5 k6 k7 G40 G5 G6 hb5 hb6 hiv
    have hd2 := decodeO (.slice ba bl.length bc) b0 bl w6 hbl h256 (rdB hBH.out GW)
    unfold DecO at hd2
    go_wp2_with fail
    refine hd2.mono ?_
    rintro e wd ⟨hbd, qv, rfl, hq⟩
    have hDQ := hidden (show (decO bl).2 = (decO bl).2 from rfl)
    have hNO := hidden (decO_no bl)
    have hOK := hidden (fun h => dec_backO (l := bl) h256 h)
    have hqok := dec_ok bl
    generalize decO bl = RES at *
    obtain ⟨⟨y1, y2⟩, q⟩ := RES
    simp only at hq hNO hOK hqok
    have Gd : Below w.heap.size w wd := GW.trans (hbd.mono GW.size)
    have sd := hbd.size
    obtain ⟨qv1, qv2, qv3, qv4, qv5, qv6, qv7⟩ := qv
    obtain ⟨qa1, qc1, e1⟩ := hq.types.shape
    obtain ⟨qa2, qc2, e2⟩ := hq.texts.1.shape
    obtain ⟨qa3, qc3, e3⟩ := hq.globals.shape
    obtain ⟨qa4, qc4, e4⟩ := hq.funs.shape
    obtain ⟨qa5, qc5, e5⟩ := hq.exports.1.shape
    obtain ⟨qa6, qc6, e6⟩ := hq.symbols.shape
    obtain ⟨qa7, qc7, e7⟩ := hq.relocs.shape
    simp only at e1 e2 e3 e4 e5 e6 e7
    subst e1 e2 e3 e4 e5 e6 e7
    unfold obv
    simp only
    have hFr : ∀ g, Fr w6 wd g → g < wd.heap.size := fun g hg => hg.2
    clear hd2 hbd GW hDQ
    have nq := World.alloc_heap_new wd (.cells #[.string (str q.mod), .slice qa1 q.types.length qc1, .slice qa2 q.texts.length qc2, .slice qa3 q.globals.length qc3, .slice qa4 q.funs.length qc4, .slice qa5 q.exports.length qc5, .slice qa6 q.symbols.length qc6, .slice qa7 q.relocs.length qc7] 29)
    have bq : Below wd.heap.size wd (wd.alloc (.cells #[.string (str q.mod), .slice qa1 q.types.length qc1, .slice qa2 q.texts.length qc2, .slice qa3 q.globals.length qc3, .slice qa4 q.funs.length qc4, .slice qa5 q.exports.length qc5, .slice qa6 q.symbols.length qc6, .slice qa7 q.relocs.length qc7] 29)) := (Below.refl _ _).alloc (Nat.le_refl _) _
    have zq : (wd.alloc (.cells #[.string (str q.mod), .slice qa1 q.types.length qc1, .slice qa2 q.texts.length qc2, .slice qa3 q.globals.length qc3, .slice qa4 q.funs.length qc4, .slice qa5 q.exports.length qc5, .slice qa6 q.symbols.length qc6, .slice qa7 q.relocs.length qc7] 29)).heap.size = wd.heap.size + 1 := by simp
    have hq' := hq.below bq hFr
    have Gq : Below w.heap.size w (wd.alloc (.cells #[.string (str q.mod), .slice qa1 q.types.length qc1, .slice qa2 q.texts.length qc2, .slice qa3 q.globals.length qc3, .slice qa4 q.funs.length qc4, .slice qa5 q.exports.length qc5, .slice qa6 q.symbols.length qc6, .slice qa7 q.relocs.length qc7] 29)) := Gd.trans (bq.mono Gd.size)
    have d0 : (wd.alloc (.cells #[.string (str q.mod), .slice qa1 q.types.length qc1, .slice qa2 q.texts.length qc2, .slice qa3 q.globals.length qc3, .slice qa4 q.funs.length qc4, .slice qa5 q.exports.length qc5, .slice qa6 q.symbols.length qc6, .slice qa7 q.relocs.length qc7] 29)).cell? ⟨wd.heap.size, 0, none⟩ = some (.string (str q.mod)) := by rw [cell_of_row _ _ 0 _ _ _ nq]; rfl
    have d1 : (wd.alloc (.cells #[.string (str q.mod), .slice qa1 q.types.length qc1, .slice qa2 q.texts.length qc2, .slice qa3 q.globals.length qc3, .slice qa4 q.funs.length qc4, .slice qa5 q.exports.length qc5, .slice qa6 q.symbols.length qc6, .slice qa7 q.relocs.length qc7] 29)).cell? ⟨wd.heap.size, 1, none⟩ = some (.slice qa1 q.types.length qc1) := by rw [cell_of_row _ _ 1 _ _ _ nq]; rfl
    have d2 : (wd.alloc (.cells #[.string (str q.mod), .slice qa1 q.types.length qc1, .slice qa2 q.texts.length qc2, .slice qa3 q.globals.length qc3, .slice qa4 q.funs.length qc4, .slice qa5 q.exports.length qc5, .slice qa6 q.symbols.length qc6, .slice qa7 q.relocs.length qc7] 29)).cell? ⟨wd.heap.size, 2, none⟩ = some (.slice qa2 q.texts.length qc2) := by rw [cell_of_row _ _ 2 _ _ _ nq]; rfl
    have d3 : (wd.alloc (.cells #[.string (str q.mod), .slice qa1 q.types.length qc1, .slice qa2 q.texts.length qc2, .slice qa3 q.globals.length qc3, .slice qa4 q.funs.length qc4, .slice qa5 q.exports.length qc5, .slice qa6 q.symbols.length qc6, .slice qa7 q.relocs.length qc7] 29)).cell? ⟨wd.heap.size, 3, none⟩ = some (.slice qa3 q.globals.length qc3) := by rw [cell_of_row _ _ 3 _ _ _ nq]; rfl
    have d4 : (wd.alloc (.cells #[.string (str q.mod), .slice qa1 q.types.length qc1, .slice qa2 q.texts.length qc2, .slice qa3 q.globals.length qc3, .slice qa4 q.funs.length qc4, .slice qa5 q.exports.length qc5, .slice qa6 q.symbols.length qc6, .slice qa7 q.relocs.length qc7] 29)).cell? ⟨wd.heap.size, 4, none⟩ = some (.slice qa4 q.funs.length qc4) := by rw [cell_of_row _ _ 4 _ _ _ nq]; rfl
    have d5 : (wd.alloc (.cells #[.string (str q.mod), .slice qa1 q.types.length qc1, .slice qa2 q.texts.length qc2, .slice qa3 q.globals.length qc3, .slice qa4 q.funs.length qc4, .slice qa5 q.exports.length qc5, .slice qa6 q.symbols.length qc6, .slice qa7 q.relocs.length qc7] 29)).cell? ⟨wd.heap.size, 5, none⟩ = some (.slice qa5 q.exports.length qc5) := by rw [cell_of_row _ _ 5 _ _ _ nq]; rfl
    have d6 : (wd.alloc (.cells #[.string (str q.mod), .slice qa1 q.types.length qc1, .slice qa2 q.texts.length qc2, .slice qa3 q.globals.length qc3, .slice qa4 q.funs.length qc4, .slice qa5 q.exports.length qc5, .slice qa6 q.symbols.length qc6, .slice qa7 q.relocs.length qc7] 29)).cell? ⟨wd.heap.size, 6, none⟩ = some (.slice qa6 q.symbols.length qc6) := by rw [cell_of_row _ _ 6 _ _ _ nq]; rfl
    have d7 : (wd.alloc (.cells #[.string (str q.mod), .slice qa1 q.types.length qc1, .slice qa2 q.texts.length qc2, .slice qa3 q.globals.length qc3, .slice qa4 q.funs.length qc4, .slice qa5 q.exports.length qc5, .slice qa6 q.symbols.length qc6, .slice qa7 q.relocs.length qc7] 29)).cell? ⟨wd.heap.size, 7, none⟩ = some (.slice qa7 q.relocs.length qc7) := by rw [cell_of_row _ _ 7 _ _ _ nq]; rfl
    clear hq bq nq Gd
    by_cases hy : y1 = 0
    · obtain ⟨hr1, hr2, hr3⟩ := hOK.out hy
      clear hOK hNO
      subst hy
      have henc := oencO (Fr w6 wd) ⟨.slice qa1 q.types.length qc1, .slice qa2 q.texts.length qc2, .slice qa3 q.globals.length qc3, .slice qa4 q.funs.length qc4, .slice qa5 q.exports.length qc5, .slice qa6 q.symbols.length qc6, .slice qa7 q.relocs.length qc7⟩ q _ hq' (fun g hg => by have := hFr g hg; omega) hqok
      unfold EncO at henc
      rw [hr1, hr2] at henc
      unfold EncQ obv at henc
      simp only at henc
      go_wp2_with fail
      generalize wd.alloc (.cells #[.string (str q.mod), .slice qa1 q.types.length qc1, .slice qa2 q.texts.length qc2, .slice qa3 q.globals.length qc3, .slice qa4 q.funs.length qc4, .slice qa5 q.exports.length qc5, .slice qa6 q.symbols.length qc6, .slice qa7 q.relocs.length qc7] 29) = we at *
      refine henc.mono ?_
      rintro e wf ⟨hbf, hcase⟩
      have Gf : Below w.heap.size w wf := Gq.trans (hbf.mono Gq.size)
      have hgood : ∃ yv g, e = .returned (.tuple #[yv, .int .i64 0]) ∧ Wire.Row wf g yv bl := by
        rcases hcase with ⟨y, hy0, h, _⟩ | ⟨_, _, yv, g, h1, h2, _⟩
        · rcases h with ⟨h, _⟩ | ⟨_, h, _⟩
          · exact absurd rfl h
          · omega
        · exact ⟨yv, g, h1, h2⟩
      obtain ⟨yv, g, rfl, hrow⟩ := hgood
      have hc1 := hrow.rd.string
      have hc2 := (rdB hBH.out Gf).string
      obtain ⟨ya, yc, rfl⟩ := hrow.rd.shape
      generalize Wire.toStr bl = sb at *
      have heq : (sb.toList == sb.toList) = true := by simp
      clear henc hcase hbf hrow hq' hqok d0 d1 d2 d3 d4 d5 d6 d7 Gq zq
      go_wp2_with fail
      refine (known14 wf).mono ?_
      rintro e wg ⟨rfl, hbg⟩
      have Gg : Below w.heap.size w wg := Gf.trans (hbg.mono Gf.size)
      clear hbg Gf hc1 hc2
      go_wp2
      go_ret
      exact ⟨rfl, Gg⟩
    · have hqn := hNO.out hy
      clear hOK hNO
      subst hqn
      have hyn : ((y1 : Int) != 0) = true := by rw [bne_iff_ne]; omega
      have hsm := sameL (Fr w6 wd) (fun _ => False) ⟨.slice qa1 noneO.types.length qc1, .slice qa2 noneO.texts.length qc2, .slice qa3 noneO.globals.length qc3, .slice qa4 noneO.funs.length qc4, .slice qa5 noneO.exports.length qc5, .slice qa6 noneO.symbols.length qc6, .slice qa7 noneO.relocs.length qc7⟩ obVn noneO _ hq' (obR_n _ _) (fun g hg => by have := hFr g hg; omega) (fun _ h => h.elim) none_ok noneS
      unfold obv obVn at hsm
      simp only at hsm
      go_wp2_with fail
      generalize wd.alloc (.cells #[.string (str noneO.mod), .slice qa1 noneO.types.length qc1, .slice qa2 noneO.texts.length qc2, .slice qa3 noneO.globals.length qc3, .slice qa4 noneO.funs.length qc4, .slice qa5 noneO.exports.length qc5, .slice qa6 noneO.symbols.length qc6, .slice qa7 noneO.relocs.length qc7] 29) = we at *
      refine hsm.mono ?_
      rintro e wf ⟨rfl, hbf⟩
      have Gf : Below w.heap.size w wf := Gq.trans (hbf.mono Gq.size)
      clear hsm hbf hq' hqok d0 d1 d2 d3 d4 d5 d6 d7 Gq zq
      go_wp2_with fail
      refine (known14 wf).mono ?_
      rintro e wg ⟨rfl, hbg⟩
      have Gg : Below w.heap.size w wg := Gf.trans (hbg.mono Gf.size)
      clear hbg Gf
      go_wp2
      go_ret
      exact ⟨rfl, Gg⟩
end Go.Proofs.YtfjppbpicmniaaaGreatDoor
