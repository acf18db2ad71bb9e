/-
  The package's readForm: the first row; no form.
  And: The package's readForm: numbers, texts, variables. The package's readForm: If, Apply. The package's readForm: Let.
-/
import Derived.Deep.CutRange
import Derived.Deep.RegionWith
import Derived.Test.YtchfhkfepghfjaaPfAu
namespace Go.Proofs.Ytchfhkfepghfjaa
open Go.RowKit

/-- Behind the first row: the Kind and the place are set. -/
structure FS1 (F : Nat → Prop) (rb : Nat) (m : List UInt8) (w : World) (tv : Value) (ps0 : List Pt) (d : Nat) (t : Tr) (pre post : List Value) (T k : Nat) (wx : World) : Prop where
  rd : DIs wx rb m tv none
  own : wx.ownsRow (rb + 1) 72 3 tv ps0.length (pcells ps0)
  cells : At wx d pre ((exz.set 0 (.int .i64 (k : Int))).set 1 (.int .i64 (t.place : Int))) post T
  ev : Ev rb d w wx
  fr : ∀ b, F b → wx.heap[b]? = w.heap[b]?
theorem FS.first {F : Nat → Prop} {rb : Nat} {m : List UInt8} {w : World} {tv : Value} {ps0 : List Pt} {tg tj d : Nat} {t : Tr} {arm : Bool} {pre post : List Value} {T : Nat} (h : FS F rb m w tv ps0 ⟨tg, tj, t, arm, d, pre.length⟩ pre post T) (harm : arm = false) (k n : Nat) :
    FS1 F rb m w tv ps0 d t pre post T k (((w.drewN n).setCell ⟨d, pre.length, none⟩ (.int .i64 (k : Int))).setCell ⟨d, pre.length + 1, none⟩ (.int .i64 (t.place : Int))) := by
  subst harm
  obtain ⟨hA, _, hT, hrd⟩ := h.dst
  simp only [Bool.false_eq_true, if_false] at hA hrd
  have hA0 : At (w.drewN n) d pre exz post T := hA
  have hA1 := hA0.set 0 (by decide) (.int .i64 (k : Int))
  rw [Nat.add_zero] at hA1
  have hA2 := hA1.set 1 (by simp [exz, exc]) (.int .i64 (t.place : Int))
  have K : Kept (fun b => b = d) w (((w.drewN n).setCell ⟨d, pre.length, none⟩ (.int .i64 (k : Int))).setCell ⟨d, pre.length + 1, none⟩ (.int .i64 (t.place : Int))) := ((kept_drewN (Kept.refl (fun b => b = d) w) n).setCell (p := ⟨d, pre.length, none⟩) (fun _ => rfl) _).setCell (p := ⟨d, pre.length + 1, none⟩) (fun _ => rfl) _
  have hpb := own_pb h.own
  refine ⟨h.rd.kept K (fun e => by omega), K.own h.own (fun b e hb => ?_), hA2, K.mono (fun _ _ e => .inr (.inr e)), fun b hb => ?_⟩
  · have := (hpb b e).2
    rw [hb] at this
    exact hA.np hT this
  · have h1 := h.hF b hb
    have h2 := h.rd.lt
    exact K.block b (by omega) (by omega)
set_option maxHeartbeats 4000000 in
set_option maxRecDepth 1000000 in
theorem readForm_0 (F : Nat → Prop) (rb : Nat) (m : List UInt8) (w : World) (tv : Value) (ps0 : List Pt) (tg tj d : Nat) (t : Tr) (pre post : List Value) (T : Nat) (h : FS F rb m w tv ps0 ⟨tg, tj, t, false, d, pre.length⟩ pre post T) (hk : kindX t = 0) :
    Calls Try.prog 19 #[.pointer (some ⟨rb, 0, none⟩), .pointer (some ⟨tg, tj, none⟩), .pointer (some ⟨d, pre.length, none⟩)] w (FormQ F rb m ps0 ⟨tg, tj, t, false, d, pre.length⟩ pre post T w) := by
  obtain ⟨hA, _, hT, hrd⟩ := h.dst
  simp only [Bool.false_eq_true, if_false] at hA hrd
  have c0 := hA.cell (j := 0) (v := .int .i64 0) rfl
  have c1 := hA.cell (j := 1) (v := .int .i64 0) rfl
  rw [Nat.add_zero] at c0
  have f0 := hA.frozen pre.length
  have f1 := hA.frozen (pre.length + 1)
  have hpt : PT F w tg tj t := h.pt
  have htxt : TxOk t := h.tx
  have hko := fun n => kindOf F t tg tj (w.drewN n) (hpt.frame (fun _ _ => rfl)) htxt
  rw [hk] at hko
  have hP := hpt
  obtain ⟨hFg, kv, hTT, p0, p1, p2, p3⟩ := hP
  have hfs1 := h.first rfl 0
  go_enter Try.func19, Try.ntmps19
  go_wp2_with fail
  go_cut [] from 6 to 17 (fun wx => FS1 F rb m w tv ps0 d t pre post T 0 wx)
  case first =>
    go_region_with (first
      | (go_at_call 30; refine (hko _).mono ?_; rintro e w1 ⟨n1, rfl, rfl⟩))
    all_goals (go_wp2_with fail; go_meet; exact hfs1 _)
  case rest =>
    clear hko hfs1 c0 c1 f0 f1 hA p0 p1 p2 p3 hTT
    have hrb := hcut.rd.lt
    have hP1 := h.pt.frame hcut.fr
    have hP1' := hP1
    obtain ⟨_, kv1, hTT, p0, p1, p2, p3⟩ := hP1'
    have hev := hcut.ev
    have hDw := hcut.rd
    have hAx := hcut.cells
    have cK := hAx.cell (j := 0) (v := .int .i64 0) rfl
    rw [Nat.add_zero] at cK
    have hsh : shapeP m t = .error (12, t.place) := by rw [shapeP, if_pos hk]
    have hrf := refuse wc rb m tv none 12 t.place hcut.rd sw_none
    have key : ∀ e w', RQ6 m tv rb (orE none (.error (12, t.place) : PR Unit)) (.tuple #[]) wc e w' → FormQ F rb m ps0 ⟨tg, tj, t, false, d, pre.length⟩ pre post T w (.returned (.tuple #[])) w' := by
      rintro e w' ⟨_, hD, hK⟩
      have hl := h.len
      refine ⟨rfl, tv, .inr ⟨_, stepErr_mk h rfl hsh hD (hK.own hcut.own (fun g e h => ?_)) (by omega) ?_ ⟨rfl, rfl⟩ (hcut.cells.kept hK (fun e => by omega))⟩⟩
      · have := (own_pb hcut.own g e).1
        omega
      · exact hcut.ev.trans (hK.mono (fun _ _ e => .inl e) : Ev rb d wc w') (.inl rfl)
    clear hTT p0 p2 p3 hev hDw hAx hcut
    go_wp2_with fail
    refine hrf.mono ?_
    intro e w2 hq
    have hq' := key e w2 hq
    obtain ⟨rfl, _, _⟩ := hq
    clear key hrf cK p1
    go_wp2
    go_end0
    exact hq'
/-- Trees from the low-th on, as a part of the row. -/
theorem TL.cut {F : Nat → Prop} {w : World} {kv : Value} {t : Tr} (h : TL F w kv t.kids) (hp : 0 < t.kids.length) : ∃ g kc, kv = .slice (some ⟨g, 0, none⟩) t.kids.length kc ∧ F g ∧ t.kids.length ≤ kc ∧
    ∀ low, low ≤ t.kids.length → ∀ o, (kc = low ∧ o = 0 ∨ ¬ kc = low ∧ o = low * 4) → ∀ c', SL F w (.slice (some ⟨g, o, none⟩) (t.kids.length - low) c') (t.kids.drop low) := by
  obtain ⟨a, c, e, hd⟩ := h.drop 0 (Nat.zero_le _)
  obtain ⟨g, rfl, hg, _⟩ := hd hp
  have hc : t.kids.length ≤ c := by
    rw [e] at h
    exact h.cap
  refine ⟨g, c, e, hg, hc, fun low hl o ho c' => ?_⟩
  rcases ho with ⟨rfl, rfl⟩ | ⟨_, rfl⟩
  · have : t.kids.length - c = 0 := by omega
    rw [this]
    exact .inl ⟨_, _, rfl, List.drop_of_length_le hc⟩
  · obtain ⟨a', c2, e2, hd2⟩ := h.drop low hl
    obtain ⟨g2, rfl, _, hS⟩ := hd2 hp
    rw [e] at e2
    simp only [Value.slice.injEq, Option.some.injEq, Addr.mk.injEq, and_true, true_and] at e2
    obtain ⟨rfl, _⟩ := e2
    exact hS c'
theorem TL.sl {F : Nat → Prop} {w : World} {kv : Value} {t : Tr} (h : TL F w kv t.kids) : SL F w kv t.kids := by
  rcases Nat.eq_zero_or_pos t.kids.length with h0 | hp
  · obtain ⟨a, c, rfl⟩ := h.shape
    rw [h0]
    exact .inl ⟨a, c, rfl, List.eq_nil_of_length_eq_zero h0⟩
  · obtain ⟨g, kc, e, hg, hc, hS⟩ := h.cut hp
    have := hS 0 (Nat.zero_le _) 0 (by omega) kc
    rw [e]
    simpa using this
/-- The reader, what is left, and the place that is filled, on the way through a step. -/
structure CS (F : Nat → Prop) (rb : Nat) (m : List UInt8) (tv : Value) (st : Option (Nat × Nat)) (ps0 : List Pt) (d : Nat) (pre X post : List Value) (T : Nat) (w W : World) : Prop where
  rd : DIs W rb m tv st
  own : W.ownsRow (rb + 1) 72 3 tv ps0.length (pcells ps0)
  cells : At W d pre X post T
  ev : Ev rb d w W
  fr : ∀ b, F b → W.heap[b]? = w.heap[b]?
  hT : T ≠ 72
  hrd : rb < d
  hF : ∀ b, F b → b < rb
section
variable {F : Nat → Prop} {rb : Nat} {m : List UInt8} {tv : Value} {st : Option (Nat × Nat)} {ps0 : List Pt} {d : Nat} {pre X post : List Value} {T : Nat} {w W W' : World}
theorem CS.call (h : CS F rb m tv st ps0 d pre X post T w W) {st' : Option (Nat × Nat)} (hD : DIs W' rb m tv st') (hK : Kept (fun b => b = rb) W W') : CS F rb m tv st' ps0 d pre X post T w W' := by
  have hrd := h.hrd
  have hE : Ev rb d W W' := hK.mono (fun _ _ e => .inl e)
  refine ⟨hD, hK.own h.own (fun g e hg => ?_), h.cells.kept hK (fun e => by omega), h.ev.trans hE (.inl rfl), fun b hb => ?_, h.hT, h.hrd, h.hF⟩
  · have := (own_pb h.own g e).1
    omega
  · have := h.hF b hb
    have := h.rd.lt
    rw [hK.block b (by omega) (by omega), h.fr b hb]
theorem CS.below (h : CS F rb m tv st ps0 d pre X post T w W) (hb : Below W.heap.size W W') : CS F rb m tv st ps0 d pre X post T w W' := h.call (h.rd.below hb h.rd.lt) ⟨hb.os, hb.tape, hb.output, hb.size, fun k hk _ => hb.block k hk⟩
theorem CS.drewN (h : CS F rb m tv st ps0 d pre X post T w W) (n : Nat) : CS F rb m tv st ps0 d pre X post T w (W.drewN n) := h.below (below_drewN (Below.refl _ _) n)
theorem CS.set (h : CS F rb m tv st ps0 d pre X post T w W) (j : Nat) (hj : j < X.length) (v : Value) : CS F rb m tv st ps0 d pre (X.set j v) post T w (W.setCell ⟨d, pre.length + j, none⟩ v) := by
  have hrd := h.hrd
  have K : Kept (fun b => b = d) W (W.setCell ⟨d, pre.length + j, none⟩ v) := (Kept.refl (fun b => b = d) W).setCell (p := ⟨d, pre.length + j, none⟩) (fun _ => rfl) _
  refine ⟨h.rd.kept K (fun e => by omega), K.own h.own (fun g e hg => ?_), h.cells.set j hj v, h.ev.trans (K.mono (fun _ _ e => .inr (.inr e)) : Ev rb d W _) (.inl rfl), fun b hb => ?_, h.hT, h.hrd, h.hF⟩
  · have := (own_pb h.own g e).2
    rw [hg] at this
    exact h.cells.np h.hT this
  · have := h.hF b hb
    have := h.rd.lt
    rw [K.block b (by omega) (by omega), h.fr b hb]
theorem CS.cell (h : CS F rb m tv st ps0 d pre X post T w W) (j : Nat) {v : Value} (hj : X[j]? = some v) : W.cell? ⟨d, pre.length + j, none⟩ = some v ∧ W.frozen? ⟨d, pre.length + j, none⟩ = false := ⟨h.cells.cell hj, h.cells.frozen _⟩
theorem CS.tcell (h : CS F rb m tv st ps0 d pre X post T w W) {g j : Nat} {v : Value} (hg : F g) (hc : w.cell? ⟨g, j, none⟩ = some v) : W.cell? ⟨g, j, none⟩ = some v := by
  rw [World.cell?_of_block (w := w) (h.fr g hg)]
  exact hc
theorem FS1.cs {t : Tr} {k : Nat} (h : FS1 F rb m w tv ps0 d t pre post T k W) (hT : T ≠ 72) (hrd : rb < d) (hF : ∀ b, F b → b < rb) : CS F rb m tv none ps0 d pre ((exz.set 0 (.int .i64 (k : Int))).set 1 (.int .i64 (t.place : Int))) post T w W := ⟨h.rd, h.own, h.cells, h.ev, h.fr, hT, hrd, hF⟩
end
/-- Nothing is left. -/
theorem form_leaf {F : Nat → Prop} {rb : Nat} {m : List UInt8} {w : World} {tv : Value} {ps0 : List Pt} {p : Pt} {pre post : List Value} {T : Nat} (h : FS F rb m w tv ps0 p pre post T) (harm : p.arm = false) {e0 : Ex} (hsh : shapeP m p.tree = .ok (e0, [], [])) (he : e0.params = [])
    {W : World} {X : List Value} (hc : CS F rb m tv none ps0 p.dg pre X post T w W) (hX : X = exc e0 (.slice none 0 0) (.slice none 0 0) (.slice none 0 0)) : FormQ F rb m ps0 p pre post T w (.returned (.tuple #[])) W := by
  subst hX
  refine ⟨rfl, tv, .inl ⟨_, stepE_mk (kg := rb) (ag := rb) (kps := []) (aps := []) h harm hsh hc.rd (by simpa [pcells] using hc.own) hc.ev hc.cells (by rw [he]; exact TxR2.nil _ _) kd_nil kd_nil (fun _ => rfl) (by simp) (by simp)⟩⟩
/-- Refused. -/
theorem form_err {F : Nat → Prop} {rb : Nat} {m : List UInt8} {w : World} {tv : Value} {ps0 : List Pt} {p : Pt} {pre post : List Value} {T : Nat} (h : FS F rb m w tv ps0 p pre post T) (harm : p.arm = false) {er : Nat × Nat} (hsh : shapeP m p.tree = .error er)
    {W : World} {X : List Value} (hXl : NineC X) (hc : CS F rb m tv (some er) ps0 p.dg pre X post T w W) : FormQ F rb m ps0 p pre post T w (.returned (.tuple #[])) W := by
  have := h.len
  exact ⟨rfl, tv, .inr ⟨er, stepErr_mk h harm hsh hc.rd hc.own (by omega) hc.ev hXl hc.cells⟩⟩
theorem nameP_ok {t : Tr} {y : List UInt8} (h : nameP t = .ok y) : y = t.text := by
  unfold nameP at h
  split at h
  · cases h; rfl
  · cases h
theorem parc_txr {W : World} {g lo : Nat} {ps : List (List UInt8 × List UInt8)} {T c : Nat} (h : At W g [] (parc ps) [] T) (hlo : lo ≤ g) (hT : T ≠ 72) : TxR2 (fun k => FN lo W k) W (.slice (some ⟨g, 0, none⟩) ps.length c) ps := by
  refine .inr ⟨g, 0, c, rfl, ⟨hlo, h.lt, h.np hT⟩, fun j x hj => ?_⟩
  obtain ⟨e1, e2⟩ := parc_get ps j x hj
  have h1 := h.cell e1
  have h2 := h.cell e2
  simp only [List.length_nil, Nat.zero_add] at h1 h2
  exact ⟨by rw [Nat.zero_add]; exact h1, by rw [Nat.zero_add]; exact h2⟩
end Go.Proofs.Ytchfhkfepghfjaa

namespace Go.Proofs.Ytchfhkfepghfjaa
open Go.RowKit

set_option maxHeartbeats 4000000 in
set_option maxRecDepth 1000000 in
theorem readForm_1 (F : Nat → Prop) (rb : Nat) (m : List UInt8) (w : World) (tv : Value) (ps0 : List Pt) (tg tj d : Nat) (t : Tr) (pre post : List Value) (T : Nat) (h : FS F rb m w tv ps0 ⟨tg, tj, t, false, d, pre.length⟩ pre post T) (hk : kindX t = 1) :
    Calls Try.prog 19 #[.pointer (some ⟨rb, 0, none⟩), .pointer (some ⟨tg, tj, none⟩), .pointer (some ⟨d, pre.length, none⟩)] w (FormQ F rb m ps0 ⟨tg, tj, t, false, d, pre.length⟩ pre post T w) := by
  obtain ⟨hA, _, hT, hrd⟩ := h.dst
  simp only [Bool.false_eq_true, if_false] at hA hrd
  have c0 := hA.cell (j := 0) (v := .int .i64 0) rfl
  have c1 := hA.cell (j := 1) (v := .int .i64 0) rfl
  rw [Nat.add_zero] at c0
  have f0 := hA.frozen pre.length
  have f1 := hA.frozen (pre.length + 1)
  have hpt : PT F w tg tj t := h.pt
  have htxt : TxOk t := h.tx
  have hko := fun n => kindOf F t tg tj (w.drewN n) (hpt.frame (fun _ _ => rfl)) htxt
  rw [hk] at hko
  have hP := hpt
  obtain ⟨hFg, kv, hTw, p0, p1, p2, p3⟩ := hP
  have hfs1 := h.first rfl 1
  go_enter Try.func19, Try.ntmps19
  go_wp2_with fail
  go_cut [] from 6 to 17 (fun wx => FS1 F rb m w tv ps0 d t pre post T 1 wx)
  case first =>
    go_region_with (first
      | (go_at_call 30; refine (hko _).mono ?_; rintro e w1 ⟨n1, rfl, rfl⟩))
    all_goals (go_wp2_with fail; go_meet; exact hfs1 _)
  case rest =>
    have hcs := hcut.cs hT hrd h.hF
    clear hko hfs1 c0 c1 f0 f1 hA hcut
    have hP1 := hpt.frame hcs.fr
    have b0 := hcs.tcell hFg p0
    have b1 := hcs.tcell hFg p1
    have b2 := hcs.tcell hFg p2
    obtain ⟨cK, fK⟩ := hcs.cell 0 (v := .int .i64 1) rfl
    rw [Nat.add_zero] at cK
    have htx := ((TxOk_iff _).1 htxt).1
    have hln := h.len
    simp only at hln
    have hkn := kids_nodes t
    have hcb : crowdX t 1 = false := rfl
    have hsh : shapeP m t = .ok (⟨1, t.place, [], ((numP t.text).getD (0, 0)).1, ((numP t.text).getD (0, 0)).2, [], [], [], [], [], []⟩, [], []) := by
      rw [shapeP, hk, if_neg (by decide), if_neg (by rw [hcb]; exact Bool.false_ne_true)]
      rfl
    have hcr := crowded_1 (.pointer (some ⟨tg, tj, none⟩)) wc
    have hn := fun u => numP_parse t.text u htx
    obtain ⟨c3, f3⟩ := hcs.cell 3 (v := .complex .f64 (floatOfInt .f64 0) (floatOfInt .f64 0)) rfl
    have hfin : ∀ n, FormQ F rb m ps0 ⟨tg, tj, t, false, d, pre.length⟩ pre post T w (.returned (.tuple #[])) ((wc.drewN n).setCell ⟨d, pre.length + 3, none⟩ (.complex .f64 (floatOfInt .f64 ((numP t.text).getD (0, 0)).1) (floatOfInt .f64 ((numP t.text).getD (0, 0)).2))) := fun n => form_leaf h rfl hsh rfl ((hcs.drewN n).set 3 (by simp [exz, exc]) _) rfl
    clear hsh hcs hP1 hpt hTw hk p0 p1 p2 p3 hFg b0 b1
    generalize floatOfInt .f64 ((numP t.text).getD (0, 0)).1 = x at *
    generalize floatOfInt .f64 ((numP t.text).getD (0, 0)).2 = y at *
    generalize floatOfInt .f64 0 = z at *
    generalize (numP t.text).isSome = bb at *
    have hst : ∀ n, (store ⟨d, pre.length + 3, none⟩ (.complex .f64 x y)).run Try.prog (wc.drewN n) = .ok () ((wc.drewN n).setCell ⟨d, pre.length + 3, none⟩ (.complex .f64 x y)) := by
      intro n
      rw [run_store _ _ _ _ _ rfl]
      simp [c3, f3]
    go_wp2_with (first
      | (go_at_call 31; refine hcr.mono ?_; rintro e w1 ⟨rfl, hw1⟩; obtain rfl := hw1.symm)
      | (go_at_call 32; refine (hn _).mono ?_; rintro e w1 ⟨rfl, n1, rfl⟩))
    go_end0
    exact hfin _
set_option maxHeartbeats 4000000 in
set_option maxRecDepth 1000000 in
theorem readForm_2 (F : Nat → Prop) (rb : Nat) (m : List UInt8) (w : World) (tv : Value) (ps0 : List Pt) (tg tj d : Nat) (t : Tr) (pre post : List Value) (T : Nat) (h : FS F rb m w tv ps0 ⟨tg, tj, t, false, d, pre.length⟩ pre post T) (hk : kindX t = 2) :
    Calls Try.prog 19 #[.pointer (some ⟨rb, 0, none⟩), .pointer (some ⟨tg, tj, none⟩), .pointer (some ⟨d, pre.length, none⟩)] w (FormQ F rb m ps0 ⟨tg, tj, t, false, d, pre.length⟩ pre post T w) := by
  obtain ⟨hA, _, hT, hrd⟩ := h.dst
  simp only [Bool.false_eq_true, if_false] at hA hrd
  have c0 := hA.cell (j := 0) (v := .int .i64 0) rfl
  have c1 := hA.cell (j := 1) (v := .int .i64 0) rfl
  rw [Nat.add_zero] at c0
  have f0 := hA.frozen pre.length
  have f1 := hA.frozen (pre.length + 1)
  have hpt : PT F w tg tj t := h.pt
  have htxt : TxOk t := h.tx
  have hko := fun n => kindOf F t tg tj (w.drewN n) (hpt.frame (fun _ _ => rfl)) htxt
  rw [hk] at hko
  have hP := hpt
  obtain ⟨hFg, kv, hTw, p0, p1, p2, p3⟩ := hP
  have hfs1 := h.first rfl 2
  go_enter Try.func19, Try.ntmps19
  go_wp2_with fail
  go_cut [] from 6 to 17 (fun wx => FS1 F rb m w tv ps0 d t pre post T 2 wx)
  case first =>
    go_region_with (first
      | (go_at_call 30; refine (hko _).mono ?_; rintro e w1 ⟨n1, rfl, rfl⟩))
    all_goals (go_wp2_with fail; go_meet; exact hfs1 _)
  case rest =>
    have hcs := hcut.cs hT hrd h.hF
    clear hko hfs1 c0 c1 f0 f1 hA hcut
    have hP1 := hpt.frame hcs.fr
    have b0 := hcs.tcell hFg p0
    have b1 := hcs.tcell hFg p1
    have b2 := hcs.tcell hFg p2
    obtain ⟨cK, fK⟩ := hcs.cell 0 (v := .int .i64 2) rfl
    rw [Nat.add_zero] at cK
    have htx := ((TxOk_iff _).1 htxt).1
    have hln := h.len
    simp only at hln
    have hkn := kids_nodes t
    have hcb : crowdX t 2 = false := rfl
    have hsh : shapeP m t = .ok (⟨2, t.place, [], 0, 0, t.text, [], [], [], [], []⟩, [], []) := by
      rw [shapeP, hk, if_neg (by decide), if_neg (by rw [hcb]; exact Bool.false_ne_true)]
      rfl
    have hcr := crowded_2 (.pointer (some ⟨tg, tj, none⟩)) wc
    have hcl := fun u => sClone (str t.text) u (by rw [str_size]; exact htx)
    clear hP1 hpt hTw p0 p1 p2 p3 b0 b1
    go_wp2_with (go_at_call 31; refine hcr.mono ?_; rintro e w1 ⟨rfl, hw1⟩; obtain rfl := hw1.symm)
    refine (hcl _).mono ?_
    rintro e w2 ⟨rfl, hb2⟩
    have hcs2 := hcs.below hb2
    obtain ⟨c4, f4⟩ := hcs2.cell 4 (v := .string (str [])) rfl
    have hQ := form_leaf h rfl hsh rfl (hcs2.set 4 (by simp [exz, exc]) (.string (str t.text))) rfl
    clear hcs hcs2 hb2 hcl cK fK hsh b2 hcr
    go_wp2
    go_end0
    exact hQ
set_option maxHeartbeats 4000000 in
set_option maxRecDepth 1000000 in
theorem readForm_3 (F : Nat → Prop) (rb : Nat) (m : List UInt8) (w : World) (tv : Value) (ps0 : List Pt) (tg tj d : Nat) (t : Tr) (pre post : List Value) (T : Nat) (h : FS F rb m w tv ps0 ⟨tg, tj, t, false, d, pre.length⟩ pre post T) (hk : kindX t = 3) :
    Calls Try.prog 19 #[.pointer (some ⟨rb, 0, none⟩), .pointer (some ⟨tg, tj, none⟩), .pointer (some ⟨d, pre.length, none⟩)] w (FormQ F rb m ps0 ⟨tg, tj, t, false, d, pre.length⟩ pre post T w) := by
  obtain ⟨hA, _, hT, hrd⟩ := h.dst
  simp only [Bool.false_eq_true, if_false] at hA hrd
  have c0 := hA.cell (j := 0) (v := .int .i64 0) rfl
  have c1 := hA.cell (j := 1) (v := .int .i64 0) rfl
  rw [Nat.add_zero] at c0
  have f0 := hA.frozen pre.length
  have f1 := hA.frozen (pre.length + 1)
  have hpt : PT F w tg tj t := h.pt
  have htxt : TxOk t := h.tx
  have hko := fun n => kindOf F t tg tj (w.drewN n) (hpt.frame (fun _ _ => rfl)) htxt
  rw [hk] at hko
  have hP := hpt
  obtain ⟨hFg, kv, hTw, p0, p1, p2, p3⟩ := hP
  have hfs1 := h.first rfl 3
  go_enter Try.func19, Try.ntmps19
  go_wp2_with fail
  go_cut [] from 6 to 17 (fun wx => FS1 F rb m w tv ps0 d t pre post T 3 wx)
  case first =>
    go_region_with (first
      | (go_at_call 30; refine (hko _).mono ?_; rintro e w1 ⟨n1, rfl, rfl⟩))
    all_goals (go_wp2_with fail; go_meet; exact hfs1 _)
  case rest =>
    have hcs := hcut.cs hT hrd h.hF
    clear hko hfs1 c0 c1 f0 f1 hA hcut
    have hP1 := hpt.frame hcs.fr
    have b0 := hcs.tcell hFg p0
    have b1 := hcs.tcell hFg p1
    have b2 := hcs.tcell hFg p2
    obtain ⟨cK, fK⟩ := hcs.cell 0 (v := .int .i64 3) rfl
    rw [Nat.add_zero] at cK
    have htx := ((TxOk_iff _).1 htxt).1
    have hln := h.len
    simp only at hln
    have hkn := kids_nodes t
    have hcb : crowdX t 3 = false := rfl
    have hsh : shapeP m t = .ok (exK 3 t t.text [], [], []) := by
      rw [shapeP, hk, if_neg (by decide), if_neg (by rw [hcb]; exact Bool.false_ne_true)]
      rfl
    have hcr := crowded_3 (.pointer (some ⟨tg, tj, none⟩)) wc
    have hcl := fun u => sClone (str t.text) u (by rw [str_size]; exact htx)
    clear hP1 hpt hTw p0 p1 p2 p3 b0 b1
    go_wp2_with (go_at_call 31; refine hcr.mono ?_; rintro e w1 ⟨rfl, hw1⟩; obtain rfl := hw1.symm)
    refine (hcl _).mono ?_
    rintro e w2 ⟨rfl, hb2⟩
    have hcs2 := hcs.below hb2
    obtain ⟨c4, f4⟩ := hcs2.cell 2 (v := .string (str [])) rfl
    have hQ := form_leaf h rfl hsh rfl (hcs2.set 2 (by simp [exz, exc]) (.string (str t.text))) rfl
    clear hcs hcs2 hb2 hcl cK fK hsh b2 hcr
    go_wp2
    go_end0
    exact hQ
end Go.Proofs.Ytchfhkfepghfjaa

namespace Go.Proofs.Ytchfhkfepghfjaa
open Go.RowKit

set_option maxHeartbeats 4000000 in
set_option maxRecDepth 1000000 in
theorem readForm_5 (F : Nat → Prop) (rb : Nat) (m : List UInt8) (w : World) (tv : Value) (ps0 : List Pt) (tg tj d : Nat) (t : Tr) (pre post : List Value) (T : Nat) (h : FS F rb m w tv ps0 ⟨tg, tj, t, false, d, pre.length⟩ pre post T) (hk : kindX t = 5) :
    Calls Try.prog 19 #[.pointer (some ⟨rb, 0, none⟩), .pointer (some ⟨tg, tj, none⟩), .pointer (some ⟨d, pre.length, none⟩)] w (FormQ F rb m ps0 ⟨tg, tj, t, false, d, pre.length⟩ pre post T w) := by
  obtain ⟨hA, _, hT, hrd⟩ := h.dst
  simp only [Bool.false_eq_true, if_false] at hA hrd
  have c0 := hA.cell (j := 0) (v := .int .i64 0) rfl
  have c1 := hA.cell (j := 1) (v := .int .i64 0) rfl
  rw [Nat.add_zero] at c0
  have f0 := hA.frozen pre.length
  have f1 := hA.frozen (pre.length + 1)
  have hpt : PT F w tg tj t := h.pt
  have htxt : TxOk t := h.tx
  have hko := fun n => kindOf F t tg tj (w.drewN n) (hpt.frame (fun _ _ => rfl)) htxt
  rw [hk] at hko
  have hP := hpt
  obtain ⟨hFg, kv, hTw, p0, p1, p2, p3⟩ := hP
  have hfs1 := h.first rfl 5
  go_enter Try.func19, Try.ntmps19
  go_wp2_with fail
  go_cut [] from 6 to 17 (fun wx => FS1 F rb m w tv ps0 d t pre post T 5 wx)
  case first =>
    go_region_with (first
      | (go_at_call 30; refine (hko _).mono ?_; rintro e w1 ⟨n1, rfl, rfl⟩))
    all_goals (go_wp2_with fail; go_meet; exact hfs1 _)
  case rest =>
    have hcs := hcut.cs hT hrd h.hF
    clear hko hfs1 c0 c1 f0 f1 hA hcut
    have hP1 := hpt.frame hcs.fr
    have b0 := hcs.tcell hFg p0
    have b1 := hcs.tcell hFg p1
    have b2 := hcs.tcell hFg p2
    obtain ⟨cK, fK⟩ := hcs.cell 0 (v := .int .i64 5) rfl
    rw [Nat.add_zero] at cK
    have htx := ((TxOk_iff _).1 htxt).1
    have hln := h.len
    simp only at hln
    have hkn := kids_nodes t
    have hlen : 4 ≤ t.kids.length := by have := (kindX_len hk (by decide)).2.2.1 rfl; omega
    have hcb : crowdX t 5 = false := rfl
    have hsh : shapeP m t = (Except.ok () : PR Unit).bind (fun _ => .ok (exK 5 t [] [], t.kids.drop 1, [])) := by
      rw [shapeP, hk, if_neg (by decide), if_neg (by rw [hcb]; exact Bool.false_ne_true)]
      rfl
    have hcr := crowded_5 (.pointer (some ⟨tg, tj, none⟩)) wc
    obtain ⟨g1, kc, hkv, hFg1, hkc, hcut⟩ := hTw.cut (by omega)
    rw [hkv] at p3
    have hlow : (1 : Int) ≤ (t.kids.length : Int) := by omega
    have hkl : ¬ kc = 1 := by omega
    have b3 := hcs.tcell hFg p3
    have hlk := fun c => leaveKids (t.kids.drop 1) g1 4 c wc rb m tv (orE none (.ok () : PR Unit)) ps0.length (pcells ps0) d pre _ post T hcs.rd hcs.own (by rw [List.length_drop]; omega) (by omega) hcs.cells rfl ⟨_, rfl⟩ hT hrd
    rw [List.length_drop] at hlk
    have hSw := fun c => hcut 1 (by omega) 4 (.inr ⟨hkl, rfl⟩) c
    have key : ∀ c e w', LeaveQ rb m (orE none (.ok () : PR Unit)) d pre ((exz.set 0 (.int .i64 ((5 : Nat) : Int))).set 1 (.int .i64 (t.place : Int))) post T 6 exz 36 ps0.length (pcells ps0) (t.kids.drop 1) (mkP g1 4 wc.heap.size 9 false 0 (t.kids.drop 1)) wc e w' → FormQ F rb m ps0 ⟨tg, tj, t, false, d, pre.length⟩ pre post T w e w' := fun c e w' hL => form_kids h rfl (.ok ()) (fun _ => exK 5 t [] []) (t.kids.drop 1) (by rw [List.length_drop]; exact Nat.sub_le _ _) hsh hcs.ev.size hcs.ev (pv := .slice none 0 0) (by rw [List.length_drop]; exact hSw c) hL ⟨rfl, rfl⟩ (fun _ _ _ => rfl) (fun _ _ => TxR2.nil _ _)
    clear hcut hSw hTw hP1 hpt hcs 
    go_wp2_with (go_at_call 31; refine hcr.mono ?_; rintro e w1 ⟨rfl, hw1⟩; obtain rfl := hw1.symm)
    refine (hlk _).mono ?_
    intro e w9 hq
    have hq' := key kc e w9 hq
    obtain ⟨rfl, _⟩ := hq
    clear key hlk b3
    go_wp2
    go_end0
    exact hq'
set_option maxHeartbeats 4000000 in
set_option maxRecDepth 1000000 in
theorem readForm_11 (F : Nat → Prop) (rb : Nat) (m : List UInt8) (w : World) (tv : Value) (ps0 : List Pt) (tg tj d : Nat) (t : Tr) (pre post : List Value) (T : Nat) (h : FS F rb m w tv ps0 ⟨tg, tj, t, false, d, pre.length⟩ pre post T) (hk : kindX t = 11) :
    Calls Try.prog 19 #[.pointer (some ⟨rb, 0, none⟩), .pointer (some ⟨tg, tj, none⟩), .pointer (some ⟨d, pre.length, none⟩)] w (FormQ F rb m ps0 ⟨tg, tj, t, false, d, pre.length⟩ pre post T w) := by
  obtain ⟨hA, _, hT, hrd⟩ := h.dst
  simp only [Bool.false_eq_true, if_false] at hA hrd
  have c0 := hA.cell (j := 0) (v := .int .i64 0) rfl
  have c1 := hA.cell (j := 1) (v := .int .i64 0) rfl
  rw [Nat.add_zero] at c0
  have f0 := hA.frozen pre.length
  have f1 := hA.frozen (pre.length + 1)
  have hpt : PT F w tg tj t := h.pt
  have htxt : TxOk t := h.tx
  have hko := fun n => kindOf F t tg tj (w.drewN n) (hpt.frame (fun _ _ => rfl)) htxt
  rw [hk] at hko
  have hP := hpt
  obtain ⟨hFg, kv, hTw, p0, p1, p2, p3⟩ := hP
  have hfs1 := h.first rfl 11
  go_enter Try.func19, Try.ntmps19
  go_wp2_with fail
  go_cut [] from 6 to 17 (fun wx => FS1 F rb m w tv ps0 d t pre post T 11 wx)
  case first =>
    go_region_with (first
      | (go_at_call 30; refine (hko _).mono ?_; rintro e w1 ⟨n1, rfl, rfl⟩))
    all_goals (go_wp2_with fail; go_meet; exact hfs1 _)
  case rest =>
    have hcs := hcut.cs hT hrd h.hF
    clear hko hfs1 c0 c1 f0 f1 hA hcut
    have hP1 := hpt.frame hcs.fr
    have b0 := hcs.tcell hFg p0
    have b1 := hcs.tcell hFg p1
    have b2 := hcs.tcell hFg p2
    obtain ⟨cK, fK⟩ := hcs.cell 0 (v := .int .i64 11) rfl
    rw [Nat.add_zero] at cK
    have htx := ((TxOk_iff _).1 htxt).1
    have hln := h.len
    simp only at hln
    have hkn := kids_nodes t
    have hlen := (kindX_len hk (by decide)).2.2.2.2.2.2 rfl
    cases hcb : crowdX t 11
    · have hsh : shapeP m t = (Except.ok () : PR Unit).bind (fun _ => .ok (exK 11 t [] [], t.kids.drop 1, [])) := by
        rw [shapeP, hk, if_neg (by decide), if_neg (by rw [hcb]; exact Bool.false_ne_true)]
        rfl
      have hcr := crowded_11 F t tg tj wc hP1 (by omega)
      rw [hcb] at hcr
      obtain ⟨g1, kc, hkv, hFg1, hkc, hcut⟩ := hTw.cut (by omega)
      rw [hkv] at p3
      have hlow : (1 : Int) ≤ (t.kids.length : Int) := by omega
      have hkl : ¬ kc = 1 := by omega
      have b3 := hcs.tcell hFg p3
      have hlk := fun c => leaveKids (t.kids.drop 1) g1 4 c wc rb m tv (orE none (.ok () : PR Unit)) ps0.length (pcells ps0) d pre _ post T hcs.rd hcs.own (by rw [List.length_drop]; omega) (by omega) hcs.cells rfl ⟨_, rfl⟩ hT hrd
      rw [List.length_drop] at hlk
      have hSw := fun c => hcut 1 (by omega) 4 (.inr ⟨hkl, rfl⟩) c
      have key : ∀ c e w', LeaveQ rb m (orE none (.ok () : PR Unit)) d pre ((exz.set 0 (.int .i64 ((11 : Nat) : Int))).set 1 (.int .i64 (t.place : Int))) post T 6 exz 36 ps0.length (pcells ps0) (t.kids.drop 1) (mkP g1 4 wc.heap.size 9 false 0 (t.kids.drop 1)) wc e w' → FormQ F rb m ps0 ⟨tg, tj, t, false, d, pre.length⟩ pre post T w e w' := fun c e w' hL => form_kids h rfl (.ok ()) (fun _ => exK 11 t [] []) (t.kids.drop 1) (by rw [List.length_drop]; exact Nat.sub_le _ _) hsh hcs.ev.size hcs.ev (pv := .slice none 0 0) (by rw [List.length_drop]; exact hSw c) hL ⟨rfl, rfl⟩ (fun _ _ _ => rfl) (fun _ _ => TxR2.nil _ _)
      clear hcut hSw hTw hP1 hpt hcs 
      go_wp2_with (go_at_call 31; refine hcr.mono ?_; rintro e w1 ⟨rfl, hw1⟩; obtain rfl := hw1.symm)
      refine (hlk _).mono ?_
      intro e w9 hq
      have hq' := key kc e w9 hq
      obtain ⟨rfl, _⟩ := hq
      clear key hlk b3
      go_wp2
      go_end0
      exact hq'
    · have hsh : shapeP m t = .error (19, t.place) := by rw [shapeP, hk, if_neg (by decide), if_pos hcb]
      have hcr := crowded_11 F t tg tj wc hP1 (by omega)
      rw [hcb] at hcr
      have hrf := refuse wc rb m tv none 19 t.place hcs.rd sw_none
      have key : ∀ e w', RQ6 m tv rb (orE none (.error (19, t.place) : PR Unit)) (.tuple #[]) wc e w' → FormQ F rb m ps0 ⟨tg, tj, t, false, d, pre.length⟩ pre post T w (.returned (.tuple #[])) w' := by
        rintro e w' ⟨_, hD, hK⟩
        exact form_err h rfl hsh ⟨rfl, rfl⟩ (hcs.call hD hK)
      clear hTw hP1 hpt b0 b2 hcs p0 p1 p2 p3
      go_wp2_with (go_at_call 31; refine hcr.mono ?_; rintro e w1 ⟨rfl, hw1⟩; obtain rfl := hw1.symm)
      refine hrf.mono ?_
      intro e w2 hq
      have hq' := key e w2 hq
      obtain ⟨rfl, _, _⟩ := hq
      clear key hrf cK b1 fK
      go_wp2
      go_end0
      exact hq'
end Go.Proofs.Ytchfhkfepghfjaa

namespace Go.Proofs.Ytchfhkfepghfjaa
open Go.RowKit

set_option maxHeartbeats 4000000 in
set_option maxRecDepth 1000000 in
theorem readForm_4 (F : Nat → Prop) (rb : Nat) (m : List UInt8) (w : World) (tv : Value) (ps0 : List Pt) (tg tj d : Nat) (t : Tr) (pre post : List Value) (T : Nat) (h : FS F rb m w tv ps0 ⟨tg, tj, t, false, d, pre.length⟩ pre post T) (hk : kindX t = 4) :
    Calls Try.prog 19 #[.pointer (some ⟨rb, 0, none⟩), .pointer (some ⟨tg, tj, none⟩), .pointer (some ⟨d, pre.length, none⟩)] w (FormQ F rb m ps0 ⟨tg, tj, t, false, d, pre.length⟩ pre post T w) := by
  obtain ⟨hA, _, hT, hrd⟩ := h.dst
  simp only [Bool.false_eq_true, if_false] at hA hrd
  have c0 := hA.cell (j := 0) (v := .int .i64 0) rfl
  have c1 := hA.cell (j := 1) (v := .int .i64 0) rfl
  rw [Nat.add_zero] at c0
  have f0 := hA.frozen pre.length
  have f1 := hA.frozen (pre.length + 1)
  have hpt : PT F w tg tj t := h.pt
  have htxt : TxOk t := h.tx
  have hko := fun n => kindOf F t tg tj (w.drewN n) (hpt.frame (fun _ _ => rfl)) htxt
  rw [hk] at hko
  have hP := hpt
  obtain ⟨hFg, kv, hTw, p0, p1, p2, p3⟩ := hP
  have hfs1 := h.first rfl 4
  go_enter Try.func19, Try.ntmps19
  go_wp2_with fail
  go_cut [] from 6 to 17 (fun wx => FS1 F rb m w tv ps0 d t pre post T 4 wx)
  case first =>
    go_region_with (first
      | (go_at_call 30; refine (hko _).mono ?_; rintro e w1 ⟨n1, rfl, rfl⟩))
    all_goals (go_wp2_with fail; go_meet; exact hfs1 _)
  case rest =>
    have hcs := hcut.cs hT hrd h.hF
    clear hko hfs1 c0 c1 f0 f1 hA hcut
    have hP1 := hpt.frame hcs.fr
    have b0 := hcs.tcell hFg p0
    have b1 := hcs.tcell hFg p1
    have b2 := hcs.tcell hFg p2
    obtain ⟨cK, fK⟩ := hcs.cell 0 (v := .int .i64 4) rfl
    rw [Nat.add_zero] at cK
    have htx := ((TxOk_iff _).1 htxt).1
    have hln := h.len
    simp only at hln
    have hkn := kids_nodes t
    have hlen : 4 ≤ t.kids.length := by have := ((kindX_len hk (by decide)).2.1 rfl).1; omega
    have hcb : crowdX t 4 = false := rfl
    have hsh : shapeP m t = (nameP (kid t 1)).bind (fun x => .ok (exK 4 t x [], t.kids.drop 2, [])) := by
      rw [shapeP, hk, if_neg (by decide), if_neg (by rw [hcb]; exact Bool.false_ne_true)]
      rfl
    have hcr := crowded_4 (.pointer (some ⟨tg, tj, none⟩)) wc
    obtain ⟨g1, kc, hkv, hFg1, hkc, hcut⟩ := hTw.cut (by omega)
    rw [hkv] at p3
    have hlow : (2 : Int) ≤ (t.kids.length : Int) := by omega
    obtain ⟨g2, c2, hk2, hPk⟩ := hTw.kid 1 (by omega)
    rw [hkv] at hk2
    simp only [Value.slice.injEq, Option.some.injEq, Addr.mk.injEq, and_true, true_and] at hk2
    obtain ⟨rfl, _⟩ := hk2
    rw [Nat.one_mul] at hPk
    have htk := ((TxOk_iff _).1 htxt).2 (kid t 1) (kid_mem (by omega))
    have hrn := readName_Bind F (kid t 1) g1 4 wc rb m tv none hcs.rd sw_none (hPk.frame hcs.fr) h.hF ((TxOk_iff _).1 htk).1
    rw [suchP_bind] at hrn
    have hl1 : (1 : Int) < (t.kids.length : Int) := by omega
    have b3 := hcs.tcell hFg p3
    go_wp2_with (go_at_call 31; refine hcr.mono ?_; rintro e w1 ⟨rfl, hw1⟩; obtain rfl := hw1.symm)
    refine hrn.mono ?_
    rintro e w2 ⟨rfl, hD2, hK2⟩
    have hcs2 := hcs.call hD2 hK2
    obtain ⟨c2, f2⟩ := hcs2.cell 2 (v := .string (str [])) rfl
    have hcs3 := hcs2.set 2 (by simp [exz, exc]) (.string (str (kid t 1).text))
    clear hrn hD2 hK2 hcs2 cK fK b0 b1 b2 b3 hPk hcr
    have hkl : ¬ kc = 2 := by omega
    have b3 := hcs3.tcell hFg p3
    have hlk := fun c => leaveKids (t.kids.drop 2) g1 8 c (w2.setCell ⟨d, pre.length + 2, none⟩ (.string (str (kid t 1).text))) rb m tv (orE none (nameP (kid t 1))) ps0.length (pcells ps0) d pre _ post T hcs3.rd hcs3.own (by rw [List.length_drop]; omega) (by omega) hcs3.cells rfl ⟨_, rfl⟩ hT hrd
    rw [List.length_drop] at hlk
    have hSw := fun c => hcut 2 (by omega) 8 (.inr ⟨hkl, rfl⟩) c
    have key : ∀ c e w', LeaveQ rb m (orE none (nameP (kid t 1))) d pre (((exz.set 0 (.int .i64 ((4 : Nat) : Int))).set 1 (.int .i64 (t.place : Int))).set 2 (.string (str (kid t 1).text))) post T 6 exz 36 ps0.length (pcells ps0) (t.kids.drop 2) (mkP g1 8 (w2.setCell ⟨d, pre.length + 2, none⟩ (.string (str (kid t 1).text))).heap.size 9 false 0 (t.kids.drop 2)) (w2.setCell ⟨d, pre.length + 2, none⟩ (.string (str (kid t 1).text))) e w' → FormQ F rb m ps0 ⟨tg, tj, t, false, d, pre.length⟩ pre post T w e w' := fun c e w' hL => form_kids h rfl (nameP (kid t 1)) (fun x => exK 4 t x []) (t.kids.drop 2) (by rw [List.length_drop]; exact Nat.sub_le _ _) hsh hcs3.ev.size hcs3.ev (pv := .slice none 0 0) (by rw [List.length_drop]; exact hSw c) hL ⟨rfl, rfl⟩ (fun y hy kv => by rw [nameP_ok hy]; rfl) (fun _ _ => TxR2.nil _ _)
    clear hcut hSw hTw hP1 hpt hcs hcs3 
    go_wp2_with fail
    refine (hlk _).mono ?_
    intro e w9 hq
    have hq' := key kc e w9 hq
    obtain ⟨rfl, _⟩ := hq
    clear key hlk b3
    go_wp2
    go_end0
    exact hq'
end Go.Proofs.Ytchfhkfepghfjaa
