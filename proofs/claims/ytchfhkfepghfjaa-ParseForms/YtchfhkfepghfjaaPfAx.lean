/-
  The package's readForm: Match.
  And: The package's readArm. The package's readArm: an arm that has its form.
-/
import Derived.Deep.CutRange
import Derived.Deep.RegionWith
import Derived.Test.YtchfhkfepghfjaaPfAv
namespace Go.Proofs.Ytchfhkfepghfjaa
open Go.RowKit

set_option maxHeartbeats 4000000 in
set_option maxRecDepth 1000000 in
theorem readForm_9 (F : Nat → Prop) (rb : Nat) (m : List UInt8) (w : World) (tv : Value) (ps0 : List Pt) (tg tj d : Nat) (t : Tr) (pre post : List Value) (T : Nat) (h : FS F rb m w tv ps0 ⟨tg, tj, t, false, d, pre.length⟩ pre post T) (hk : kindX t = 9) :
    Calls Try.prog 19 #[.pointer (some ⟨rb, 0, none⟩), .pointer (some ⟨tg, tj, none⟩), .pointer (some ⟨d, pre.length, none⟩)] w (FormQ F rb m ps0 ⟨tg, tj, t, false, d, pre.length⟩ pre post T w) := by
  obtain ⟨hA, _, hT, hrd⟩ := h.dst
  simp only [Bool.false_eq_true, if_false] at hA hrd
  have c0 := hA.cell (j := 0) (v := .int .i64 0) rfl
  have c1 := hA.cell (j := 1) (v := .int .i64 0) rfl
  rw [Nat.add_zero] at c0
  have f0 := hA.frozen pre.length
  have f1 := hA.frozen (pre.length + 1)
  have hpt : PT F w tg tj t := h.pt
  have htxt : TxOk t := h.tx
  have hko := fun n => kindOf F t tg tj (w.drewN n) (hpt.frame (fun _ _ => rfl)) htxt
  rw [hk] at hko
  have hP := hpt
  obtain ⟨hFg, kv, hTw, p0, p1, p2, p3⟩ := hP
  have hfs1 := h.first rfl 9
  go_enter Try.func19, Try.ntmps19
  go_wp2_with fail
  go_cut [] from 6 to 17 (fun wx => FS1 F rb m w tv ps0 d t pre post T 9 wx)
  case first =>
    go_region_with (first
      | (go_at_call 30; refine (hko _).mono ?_; rintro e w1 ⟨n1, rfl, rfl⟩))
    all_goals (go_wp2_with fail; go_meet; exact hfs1 _)
  case rest =>
    have hcs := hcut.cs hT hrd h.hF
    clear hko hfs1 c0 c1 f0 f1 hA hcut
    have hP1 := hpt.frame hcs.fr
    have b0 := hcs.tcell hFg p0
    have b1 := hcs.tcell hFg p1
    have b2 := hcs.tcell hFg p2
    obtain ⟨cK, fK⟩ := hcs.cell 0 (v := .int .i64 9) rfl
    rw [Nat.add_zero] at cK
    have htx := ((TxOk_iff _).1 htxt).1
    have hln := h.len
    simp only at hln
    have hkn := kids_nodes t
    have hlen := kindX_nine hk
    cases hcb : crowdX t 9
    · have hsh : shapeP m t = .ok (exK 9 t [] [], [kid t 1], t.kids.drop 2) := by
        rw [shapeP, hk, if_neg (by decide), if_neg (by rw [hcb]; exact Bool.false_ne_true)]
        rfl
      have hcr := crowded_9 F t tg tj wc hP1 (by omega)
      rw [hcb] at hcr
      obtain ⟨g1, kc, hkv, hFg1, hkc, hcut⟩ := hTw.cut (by omega)
      rw [hkv] at p3
      have hlow : (2 : Int) ≤ (t.kids.length : Int) := by omega
      have hkl : ¬ kc = 2 := by omega
      have hkl1 : ¬ kc = 1 := by omega
      have hla := fun c => leaveArms (t.kids.drop 2) g1 8 c wc rb m tv none ps0.length (pcells ps0) d pre _ post T hcs.rd hcs.own (by rw [List.length_drop]; omega) (by omega) hcs.cells rfl ⟨_, rfl⟩ hT hrd
      rw [List.length_drop] at hla
      have b3 := hcs.tcell hFg p3
      go_wp2_with (go_at_call 31; refine hcr.mono ?_; rintro e w1 ⟨rfl, hw1⟩; obtain rfl := hw1.symm)
      refine (hla _).mono ?_
      rintro e w2 ⟨rfl, tv2, hD2, ho2, hA2, hG2, hE2⟩
      have hfr2 := hE2.tree h.hF hcs.rd.lt (by omega)
      have b3' : w2.cell? ⟨tg, tj + 3, none⟩ = some (.slice (some ⟨g1, 0, none⟩) t.kids.length kc) := by
        rw [World.cell?_of_block (w := wc) (hfr2 tg hFg)]
        exact b3
      have hlk := fun c => leaveKids [kid t 1] g1 4 c w2 rb m tv2 none _ _ d pre _ post T hD2 ho2 (by simp) (by rw [List.length_drop]; omega) hA2 rfl ⟨_, rfl⟩ hT hrd
      simp only [List.length_singleton] at hlk
      have hS2 := hcut 2 (by omega) 8 (.inr ⟨hkl, rfl⟩) kc
      have hS1 : SL F w (.slice (some ⟨g1, 4, none⟩) [kid t 1].length kc) [kid t 1] := by
        obtain ⟨g2, c2, hk2, hPk⟩ := hTw.kid 1 (by omega)
        rw [hkv] at hk2
        simp only [Value.slice.injEq, Option.some.injEq, Addr.mk.injEq, and_true, true_and] at hk2
        obtain ⟨rfl, _⟩ := hk2
        refine .inr ⟨g1, 4, kc, rfl, hFg1, fun i hi => ?_⟩
        have : i = 0 := by simpa using hi
        subst this
        simpa using hPk
      have h12 : (1 : Int) ≤ 2 := by decide
      have h2k : (2 : Int) ≤ (kc : Int) := by omega
      have hwl := hcs.ev.size
      have hw2 := hE2.size
      have hGl := hG2.lt
      have hrl := h.rd.lt
      have key : ∀ e w', LeaveQ rb m none d pre (((exz.set 0 (.int .i64 ((9 : Nat) : Int))).set 1 (.int .i64 (t.place : Int))).set 8 (.slice (some ⟨wc.heap.size, 0, none⟩) (t.kids.drop 2).length (t.kids.drop 2).length)) post T 6 exz 36 (ps0.length + (t.kids.drop 2).length) (pcells ps0 ++ pcells (mkP g1 8 wc.heap.size 11 true 0 (t.kids.drop 2)).reverse) [kid t 1] (mkP g1 4 w2.heap.size 9 false 0 [kid t 1]) w2 e w' → FormQ F rb m ps0 ⟨tg, tj, t, false, d, pre.length⟩ pre post T w e w' := by
        rintro e w' ⟨he, tv', hD3, ho3, hA3, hG3, hE3⟩
        have hE : Ev rb d w w' := (hcs.ev.trans hE2 (.inl rfl)).trans hE3 (.inl rfl)
        have hdl := h.dst.1.lt
        simp only at hdl
        refine ⟨he, tv', .inl ⟨_, stepE_mk (kg := w2.heap.size) (ag := wc.heap.size) (kps := mkP g1 4 w2.heap.size 9 false 0 [kid t 1]) (aps := mkP g1 8 wc.heap.size 11 true 0 (t.kids.drop 2)) h rfl hsh hD3 ho3 hE hA3 (TxR2.nil _ _) (kd_mk hG3 (by omega)) ?_ (fun e => by omega) (mkP_pt hS1) (mkP_pt (c := kc) (by rw [List.length_drop]; exact hS2))⟩⟩
        exact kd_mk (z := arz) (hG2.ev hE3 (by decide) (by omega) (by omega)) hwl
      clear hla hD2 ho2 hA2 hG2 hE2 hfr2 hcs hcut hS1 hS2 hTw hP1 hpt cK fK b0 b1 b2 b3 hcr
      go_wp2_with fail
      refine (hlk _).mono ?_
      intro e w9 hq
      have hq' := key e w9 hq
      obtain ⟨rfl, _⟩ := hq
      clear key hlk b3'
      go_wp2
      go_end0
      exact hq'
    · have hsh : shapeP m t = .error (19, t.place) := by rw [shapeP, hk, if_neg (by decide), if_pos hcb]
      have hcr := crowded_9 F t tg tj wc hP1 (by omega)
      rw [hcb] at hcr
      have hrf := refuse wc rb m tv none 19 t.place hcs.rd sw_none
      have key : ∀ e w', RQ6 m tv rb (orE none (.error (19, t.place) : PR Unit)) (.tuple #[]) wc e w' → FormQ F rb m ps0 ⟨tg, tj, t, false, d, pre.length⟩ pre post T w (.returned (.tuple #[])) w' := by
        rintro e w' ⟨_, hD, hK⟩
        exact form_err h rfl hsh ⟨rfl, rfl⟩ (hcs.call hD hK)
      clear hTw hP1 hpt b0 b2 hcs p0 p1 p2 p3
      go_wp2_with (go_at_call 31; refine hcr.mono ?_; rintro e w1 ⟨rfl, hw1⟩; obtain rfl := hw1.symm)
      refine hrf.mono ?_
      intro e w2 hq
      have hq' := key e w2 hq
      obtain ⟨rfl, _, _⟩ := hq
      clear key hrf cK b1 fK
      go_wp2
      go_end0
      exact hq'
end Go.Proofs.Ytchfhkfepghfjaa

namespace Go.Proofs.Ytchfhkfepghfjaa
open Go.RowKit

theorem formA_err {F : Nat → Prop} {rb : Nat} {m : List UInt8} {w : World} {ps0 : List Pt} {p : Pt} {pre post : List Value} {T : Nat} (harm : p.arm = true) {er : Nat × Nat} (hsh : armHead p.tree = .error er)
    {W : World} {tv' : Value} {n : Nat} {xs : List Value} (hD : DIs W rb m tv' (some er)) (hown : W.ownsRow (rb + 1) 72 3 tv' n xs) (hn : n ≤ 20000) (hE : Ev rb p.dg w W) : FormQ F rb m ps0 p pre post T w (.returned (.tuple #[])) W :=
  ⟨rfl, tv', .inr ⟨er, by unfold specErr; rw [harm, if_pos rfl]; exact hsh, hD, ⟨n, xs, hown, hn⟩, hE, fun e => by rw [harm] at e; cases e⟩⟩
theorem FS.csA {F : Nat → Prop} {rb : Nat} {m : List UInt8} {w : World} {tv : Value} {ps0 : List Pt} {tg tj d : Nat} {t : Tr} {pre post : List Value} {T : Nat} (h : FS F rb m w tv ps0 ⟨tg, tj, t, true, d, pre.length⟩ pre post T) : CS F rb m tv none ps0 d pre arz post T w w := by
  obtain ⟨hA, _, hT, hrd⟩ := h.dst
  simp only [if_true] at hA hrd
  exact ⟨h.rd, h.own, hA, Ev.refl _ _ _, fun _ _ => rfl, hT, hrd, h.hF⟩
/-- What the head of an arm says, read as the package does. -/
theorem armHead_ok {a : Tr} (h1 : a.kind = 1) (h2 : a.kids.length = 2) (h3 : (kid a 0).kind = 1) (h4 : (kid a 0).kids.length ≤ 5) (h5 : 0 < (kid a 0).kids.length) (h6 : atomsX (kid a 0).kids = true) :
    armHead a = (suchP pathB (kid (kid a 0) 0)).bind (fun c => (seqP (((kid a 0).kids.drop 1).map nameP)).bind (fun vs => .ok (c, vs))) := by
  unfold armHead
  rw [if_neg (by omega), if_neg (by omega), if_neg (by rw [show (kid a 0).kids.all (fun k => decide (k.kind = 3)) = true from h6]; simp; intro e; rw [e] at h5; simp at h5)]
  unfold suchP pathB
  by_cases hb : bigR (kid (kid a 0) 0).text = false ∧ dotR true (kid (kid a 0) 0).text = false
  · rw [if_pos hb, hb.1, hb.2]
    rfl
  · rw [if_neg hb, if_pos (by
      cases h : bigR (kid (kid a 0) 0).text
      · cases h' : dotR true (kid (kid a 0) 0).text
        · exact absurd ⟨h, h'⟩ hb
        · rfl
      · rfl)]
    rfl
set_option maxHeartbeats 4000000 in
set_option maxRecDepth 1000000 in
theorem readArm_a (F : Nat → Prop) (rb : Nat) (m : List UInt8) (w : World) (tv : Value) (ps0 : List Pt) (tg tj d : Nat) (t : Tr) (pre post : List Value) (T : Nat) (h : FS F rb m w tv ps0 ⟨tg, tj, t, true, d, pre.length⟩ pre post T) (h1 : t.kind ≠ 1) :
    Calls Try.prog 18 #[.pointer (some ⟨rb, 0, none⟩), .pointer (some ⟨tg, tj, none⟩), .pointer (some ⟨d, pre.length, none⟩)] w (FormQ F rb m ps0 ⟨tg, tj, t, true, d, pre.length⟩ pre post T w) := by
  have hcs := h.csA
  have hln := h.len
  simp only at hln
  have hpt : PT F w tg tj t := h.pt
  have htxt : TxOk t := h.tx
  obtain ⟨hFg, kv, hTw, p0, p1, p2, p3⟩ := hpt
  have e1 : ((t.kind : Int) != 1) = true := by simp; omega
  have hsh : armHead t = .error (12, t.place) := by
    unfold armHead
    rw [if_pos (.inl h1)]
  have hrf := refuse w rb m tv none 12 (t.place) hcs.rd sw_none
  have key : ∀ e w', RQ6 m tv rb (orE none (.error (12, t.place) : PR Unit)) (.tuple #[]) w e w' → FormQ F rb m ps0 ⟨tg, tj, t, true, d, pre.length⟩ pre post T w (.returned (.tuple #[])) w' := by
    rintro e w' ⟨_, hD, hK⟩
    have hc := hcs.call hD hK
    exact formA_err rfl hsh hc.rd hc.own (by omega) hc.ev
  clear hcs hTw h1
  go_enter Try.func18, Try.ntmps18
  go_wp2_with fail
  refine hrf.mono ?_
  intro e w2 hq
  have hq' := key e w2 hq
  obtain ⟨rfl, _, _⟩ := hq
  clear key hrf
  go_wp2
  go_end0
  exact hq'
set_option maxHeartbeats 4000000 in
set_option maxRecDepth 1000000 in
theorem readArm_b (F : Nat → Prop) (rb : Nat) (m : List UInt8) (w : World) (tv : Value) (ps0 : List Pt) (tg tj d : Nat) (t : Tr) (pre post : List Value) (T : Nat) (h : FS F rb m w tv ps0 ⟨tg, tj, t, true, d, pre.length⟩ pre post T) (h1 : t.kind = 1) (h2 : t.kids.length ≠ 2) :
    Calls Try.prog 18 #[.pointer (some ⟨rb, 0, none⟩), .pointer (some ⟨tg, tj, none⟩), .pointer (some ⟨d, pre.length, none⟩)] w (FormQ F rb m ps0 ⟨tg, tj, t, true, d, pre.length⟩ pre post T w) := by
  have hcs := h.csA
  have hln := h.len
  simp only at hln
  have hpt : PT F w tg tj t := h.pt
  have htxt : TxOk t := h.tx
  obtain ⟨hFg, kv, hTw, p0, p1, p2, p3⟩ := hpt
  have e1 : ((t.kind : Int) != 1) = false := by simp; omega
  have e2 : ((t.kids.length : Int) != 2) = true := by simp; omega
  obtain ⟨ka, kc, hks⟩ := hTw.shape
  rw [hks] at p3
  have hsh : armHead t = .error (12, t.place) := by
    unfold armHead
    rw [if_pos (.inr (.inl h2))]
  have hrf := refuse w rb m tv none 12 (t.place) hcs.rd sw_none
  have key : ∀ e w', RQ6 m tv rb (orE none (.error (12, t.place) : PR Unit)) (.tuple #[]) w e w' → FormQ F rb m ps0 ⟨tg, tj, t, true, d, pre.length⟩ pre post T w (.returned (.tuple #[])) w' := by
    rintro e w' ⟨_, hD, hK⟩
    have hc := hcs.call hD hK
    exact formA_err rfl hsh hc.rd hc.own (by omega) hc.ev
  clear hcs hTw h1 h2 hks
  go_enter Try.func18, Try.ntmps18
  go_wp2_with fail
  refine hrf.mono ?_
  intro e w2 hq
  have hq' := key e w2 hq
  obtain ⟨rfl, _, _⟩ := hq
  clear key hrf
  go_wp2
  go_end0
  exact hq'
set_option maxHeartbeats 4000000 in
set_option maxRecDepth 1000000 in
theorem readArm_c (F : Nat → Prop) (rb : Nat) (m : List UInt8) (w : World) (tv : Value) (ps0 : List Pt) (tg tj d : Nat) (t : Tr) (pre post : List Value) (T : Nat) (h : FS F rb m w tv ps0 ⟨tg, tj, t, true, d, pre.length⟩ pre post T) (h1 : t.kind = 1) (h2 : t.kids.length = 2) (h3 : (kid t 0).kind ≠ 1) :
    Calls Try.prog 18 #[.pointer (some ⟨rb, 0, none⟩), .pointer (some ⟨tg, tj, none⟩), .pointer (some ⟨d, pre.length, none⟩)] w (FormQ F rb m ps0 ⟨tg, tj, t, true, d, pre.length⟩ pre post T w) := by
  have hcs := h.csA
  have hln := h.len
  simp only at hln
  have hpt : PT F w tg tj t := h.pt
  have htxt : TxOk t := h.tx
  obtain ⟨hFg, kv, hTw, p0, p1, p2, p3⟩ := hpt
  have e1 : ((t.kind : Int) != 1) = false := by simp; omega
  have e3 : (((kid t 0).kind : Int) != 1) = true := by simp; omega
  obtain ⟨g1, kc, hkv, hFg1, hkc, hcut⟩ := hTw.cut (by omega)
  obtain ⟨g2, c2, hk2, hPk⟩ := hTw.kid 0 (by omega)
  rw [hkv] at hk2
  simp only [Value.slice.injEq, Option.some.injEq, Addr.mk.injEq, and_true, true_and] at hk2
  obtain ⟨rfl, rfl⟩ := hk2
  rw [Nat.zero_mul] at hPk
  have hPk' := hPk
  obtain ⟨_, kvh, hTh, a0, a1, a2, a3⟩ := hPk'
  rw [hkv, h2] at p3
  rw [Nat.zero_add] at a1 a2 a3
  have hsh : armHead t = .error (12, t.place) := by
    unfold armHead
    rw [if_pos (.inr (.inr h3))]
  have hrf := refuse w rb m tv none 12 (t.place) hcs.rd sw_none
  have key : ∀ e w', RQ6 m tv rb (orE none (.error (12, t.place) : PR Unit)) (.tuple #[]) w e w' → FormQ F rb m ps0 ⟨tg, tj, t, true, d, pre.length⟩ pre post T w (.returned (.tuple #[])) w' := by
    rintro e w' ⟨_, hD, hK⟩
    have hc := hcs.call hD hK
    exact formA_err rfl hsh hc.rd hc.own (by omega) hc.ev
  clear hcs hTw h1 h3 hcut hPk hTh
  go_enter Try.func18, Try.ntmps18
  go_wp2_with fail
  refine hrf.mono ?_
  intro e w2 hq
  have hq' := key e w2 hq
  obtain ⟨rfl, _, _⟩ := hq
  clear key hrf
  go_wp2
  go_end0
  exact hq'
set_option maxHeartbeats 4000000 in
set_option maxRecDepth 1000000 in
theorem readArm_d (F : Nat → Prop) (rb : Nat) (m : List UInt8) (w : World) (tv : Value) (ps0 : List Pt) (tg tj d : Nat) (t : Tr) (pre post : List Value) (T : Nat) (h : FS F rb m w tv ps0 ⟨tg, tj, t, true, d, pre.length⟩ pre post T) (h1 : t.kind = 1) (h2 : t.kids.length = 2) (h3 : (kid t 0).kind = 1) (h4 : 5 < (kid t 0).kids.length) :
    Calls Try.prog 18 #[.pointer (some ⟨rb, 0, none⟩), .pointer (some ⟨tg, tj, none⟩), .pointer (some ⟨d, pre.length, none⟩)] w (FormQ F rb m ps0 ⟨tg, tj, t, true, d, pre.length⟩ pre post T w) := by
  have hcs := h.csA
  have hln := h.len
  simp only at hln
  have hpt : PT F w tg tj t := h.pt
  have htxt : TxOk t := h.tx
  obtain ⟨hFg, kv, hTw, p0, p1, p2, p3⟩ := hpt
  have e1 : ((t.kind : Int) != 1) = false := by simp; omega
  have e3 : (((kid t 0).kind : Int) != 1) = false := by simp; omega
  obtain ⟨g1, kc, hkv, hFg1, hkc, hcut⟩ := hTw.cut (by omega)
  obtain ⟨g2, c2, hk2, hPk⟩ := hTw.kid 0 (by omega)
  rw [hkv] at hk2
  simp only [Value.slice.injEq, Option.some.injEq, Addr.mk.injEq, and_true, true_and] at hk2
  obtain ⟨rfl, rfl⟩ := hk2
  rw [Nat.zero_mul] at hPk
  have hPk' := hPk
  obtain ⟨_, kvh, hTh, a0, a1, a2, a3⟩ := hPk'
  rw [hkv, h2] at p3
  rw [Nat.zero_add] at a1 a2 a3
  have hnk : (kid t 0).kids.length ≤ 20000 := by
    have := mem_nodes (kid_mem (t := t) (i := 0) (by omega))
    have := nodes_eq t
    have := kids_nodes (kid t 0)
    omega
  obtain ⟨kb, kd, hkb⟩ := hTh.shape
  rw [hkb] at a3
  have e4 : (4 : Int) < ((kid t 0).kids.length : Int) - 1 := by omega
  have hsh : armHead t = .error (19, t.place) := by
    unfold armHead
    rw [if_neg (by omega), if_pos (by omega)]
  have hrf := refuse w rb m tv none 19 (t.place) hcs.rd sw_none
  have key : ∀ e w', RQ6 m tv rb (orE none (.error (19, t.place) : PR Unit)) (.tuple #[]) w e w' → FormQ F rb m ps0 ⟨tg, tj, t, true, d, pre.length⟩ pre post T w (.returned (.tuple #[])) w' := by
    rintro e w' ⟨_, hD, hK⟩
    have hc := hcs.call hD hK
    exact formA_err rfl hsh hc.rd hc.own (by omega) hc.ev
  clear hcs hTw h1 h3 hcut hPk hTh hkb
  go_enter Try.func18, Try.ntmps18
  go_wp2_with fail
  refine hrf.mono ?_
  intro e w2 hq
  have hq' := key e w2 hq
  obtain ⟨rfl, _, _⟩ := hq
  clear key hrf
  go_wp2
  go_end0
  exact hq'
set_option maxHeartbeats 4000000 in
set_option maxRecDepth 1000000 in
theorem readArm_e (F : Nat → Prop) (rb : Nat) (m : List UInt8) (w : World) (tv : Value) (ps0 : List Pt) (tg tj d : Nat) (t : Tr) (pre post : List Value) (T : Nat) (h : FS F rb m w tv ps0 ⟨tg, tj, t, true, d, pre.length⟩ pre post T) (h1 : t.kind = 1) (h2 : t.kids.length = 2) (h3 : (kid t 0).kind = 1) (h4 : (kid t 0).kids.length = 0) :
    Calls Try.prog 18 #[.pointer (some ⟨rb, 0, none⟩), .pointer (some ⟨tg, tj, none⟩), .pointer (some ⟨d, pre.length, none⟩)] w (FormQ F rb m ps0 ⟨tg, tj, t, true, d, pre.length⟩ pre post T w) := by
  have hcs := h.csA
  have hln := h.len
  simp only at hln
  have hpt : PT F w tg tj t := h.pt
  have htxt : TxOk t := h.tx
  obtain ⟨hFg, kv, hTw, p0, p1, p2, p3⟩ := hpt
  have e1 : ((t.kind : Int) != 1) = false := by simp; omega
  have e3 : (((kid t 0).kind : Int) != 1) = false := by simp; omega
  obtain ⟨g1, kc, hkv, hFg1, hkc, hcut⟩ := hTw.cut (by omega)
  obtain ⟨g2, c2, hk2, hPk⟩ := hTw.kid 0 (by omega)
  rw [hkv] at hk2
  simp only [Value.slice.injEq, Option.some.injEq, Addr.mk.injEq, and_true, true_and] at hk2
  obtain ⟨rfl, rfl⟩ := hk2
  rw [Nat.zero_mul] at hPk
  have hPk' := hPk
  obtain ⟨_, kvh, hTh, a0, a1, a2, a3⟩ := hPk'
  rw [hkv, h2] at p3
  rw [Nat.zero_add] at a1 a2 a3
  obtain ⟨kb, kd, hkb⟩ := hTh.shape
  rw [hkb, h4] at a3
  have hsh : armHead t = .error (12, (kid t 0).place) := by
    unfold armHead
    rw [if_neg (by omega), if_neg (by omega), if_pos (.inl h4)]
  have hrf := refuse w rb m tv none 12 ((kid t 0).place) hcs.rd sw_none
  have key : ∀ e w', RQ6 m tv rb (orE none (.error (12, (kid t 0).place) : PR Unit)) (.tuple #[]) w e w' → FormQ F rb m ps0 ⟨tg, tj, t, true, d, pre.length⟩ pre post T w (.returned (.tuple #[])) w' := by
    rintro e w' ⟨_, hD, hK⟩
    have hc := hcs.call hD hK
    exact formA_err rfl hsh hc.rd hc.own (by omega) hc.ev
  clear hcs hTw h1 h3 hcut hPk hTh hkb h4
  go_enter Try.func18, Try.ntmps18
  go_wp2_with fail
  refine hrf.mono ?_
  intro e w2 hq
  have hq' := key e w2 hq
  obtain ⟨rfl, _, _⟩ := hq
  clear key hrf
  go_wp2
  go_end0
  exact hq'
set_option maxHeartbeats 4000000 in
set_option maxRecDepth 1000000 in
theorem readArm_f (F : Nat → Prop) (rb : Nat) (m : List UInt8) (w : World) (tv : Value) (ps0 : List Pt) (tg tj d : Nat) (t : Tr) (pre post : List Value) (T : Nat) (h : FS F rb m w tv ps0 ⟨tg, tj, t, true, d, pre.length⟩ pre post T) (h1 : t.kind = 1) (h2 : t.kids.length = 2) (h3 : (kid t 0).kind = 1) (h4 : (kid t 0).kids.length ≤ 5) (h5 : 0 < (kid t 0).kids.length) (h6 : atomsX (kid t 0).kids = false) :
    Calls Try.prog 18 #[.pointer (some ⟨rb, 0, none⟩), .pointer (some ⟨tg, tj, none⟩), .pointer (some ⟨d, pre.length, none⟩)] w (FormQ F rb m ps0 ⟨tg, tj, t, true, d, pre.length⟩ pre post T w) := by
  have hcs := h.csA
  have hln := h.len
  simp only at hln
  have hpt : PT F w tg tj t := h.pt
  have htxt : TxOk t := h.tx
  obtain ⟨hFg, kv, hTw, p0, p1, p2, p3⟩ := hpt
  have e1 : ((t.kind : Int) != 1) = false := by simp; omega
  have e3 : (((kid t 0).kind : Int) != 1) = false := by simp; omega
  obtain ⟨g1, kc, hkv, hFg1, hkc, hcut⟩ := hTw.cut (by omega)
  obtain ⟨g2, c2, hk2, hPk⟩ := hTw.kid 0 (by omega)
  rw [hkv] at hk2
  simp only [Value.slice.injEq, Option.some.injEq, Addr.mk.injEq, and_true, true_and] at hk2
  obtain ⟨rfl, rfl⟩ := hk2
  rw [Nat.zero_mul] at hPk
  have hPk' := hPk
  obtain ⟨_, kvh, hTh, a0, a1, a2, a3⟩ := hPk'
  rw [hkv, h2] at p3
  rw [Nat.zero_add] at a1 a2 a3
  have hat := allAtoms_ F kvh (kid t 0).kids w hTh.sl (by omega)
  rw [h6] at hat
  obtain ⟨kb, kd, hkb⟩ := hTh.shape
  subst hkb
  have e4 : ¬ (4 : Int) < ((kid t 0).kids.length : Int) - 1 := by omega
  have e5 : (((kid t 0).kids.length : Int) == 0) = false := by rw [beq_eq_false_iff_ne]; omega
  have hsh : armHead t = .error (12, (kid t 0).place) := by
    unfold armHead
    rw [if_neg (by omega), if_neg (by omega), if_pos (.inr h6)]
  have hrf := refuse w rb m tv none 12 ((kid t 0).place) hcs.rd sw_none
  have key : ∀ e w', RQ6 m tv rb (orE none (.error (12, (kid t 0).place) : PR Unit)) (.tuple #[]) w e w' → FormQ F rb m ps0 ⟨tg, tj, t, true, d, pre.length⟩ pre post T w (.returned (.tuple #[])) w' := by
    rintro e w' ⟨_, hD, hK⟩
    have hc := hcs.call hD hK
    exact formA_err rfl hsh hc.rd hc.own (by omega) hc.ev
  clear hcs hTw h1 h3 hcut hPk hTh h4 h5 h6
  go_enter Try.func18, Try.ntmps18
  go_wp2_with (go_at_call 25; refine hat.mono ?_; rintro e w1 ⟨rfl, hw1⟩; obtain rfl := hw1.symm)
  refine hrf.mono ?_
  intro e w2 hq
  have hq' := key e w2 hq
  obtain ⟨rfl, _, _⟩ := hq
  clear key hrf
  go_wp2
  go_end0
  exact hq'
theorem pair_ok' {α β : Type} {r : PR α} {s : PR β} {y : α × β} (h : r.bind (fun a => s.bind (fun b => .ok (a, b))) = .ok y) : r = .ok y.1 ∧ s = .ok y.2 := by
  cases r with
  | error e => cases h
  | ok a => cases s with
    | error e => cases h
    | ok b => cases h; exact ⟨rfl, rfl⟩
theorem arm_fin {F : Nat → Prop} {rb : Nat} {m : List UInt8} {w : World} {tv : Value} {ps0 : List Pt} {tg tj d g1 gv : Nat} {t : Tr} {pre post : List Value} {T : Nat} (h : FS F rb m w tv ps0 ⟨tg, tj, t, true, d, pre.length⟩ pre post T) (h2 : t.kids.length = 2)
    (hsh : armHead t = (suchP pathB (kid (kid t 0) 0)).bind (fun c => (seqP (((kid t 0).kids.drop 1).map nameP)).bind (fun vs => .ok (c, vs))))
    {w5 w6 : World} {tv' : Value} {ln : Nat} (hcs : CS F rb m tv (orE none (armHead t)) ps0 d pre ((arz.set 0 (.string (str (kid (kid t 0) 0).text))).set 1 (.slice (some ⟨gv, 0, none⟩) ln ln)) post T w w5) (hA : At w5 gv [] (txts ((kid t 0).kids.drop 1)) [] 9) (hPb : PT F w g1 4 (kid t 1)) (hgv : w.heap.size ≤ gv) (hln : ((kid t 0).kids.drop 1).length = ln)
    (hD : DIs w6 rb m tv' (orE none (armHead t))) (hown : w6.ownsRow (rb + 1) 72 3 tv' (ps0.length + 1) (pcells ps0 ++ [.pointer (some ⟨g1, 4, none⟩), .pointer (some ⟨d, pre.length + 2, none⟩), .pointer none])) (hE : Ev rb rb w5 w6) : FormQ F rb m ps0 ⟨tg, tj, t, true, d, pre.length⟩ pre post T w (.returned (.tuple #[])) w6 := by
  have hlen := h.len
  simp only at hlen
  have hkn := kids_nodes t
  have hE2 : Ev rb d w w6 := hcs.ev.trans hE (.inr (.inl rfl))
  cases hr : armHead t with
  | error er =>
    rw [hr] at hD
    exact formA_err rfl hr hD hown (by omega) hE2
  | ok cv =>
    rw [hr] at hD
    obtain ⟨c, vs⟩ := cv
    rw [hr] at hsh
    obtain ⟨e1, e2⟩ := pair_ok' hsh.symm
    have hc : c = (kid (kid t 0) 0).text := by
      unfold suchP at e1
      split at e1
      · cases e1; rfl
      · cases e1
    have hvs : vs = ((kid t 0).kids.drop 1).map (·.text) := suchs_ok (f := bindR) (by rw [suchP_bind]; exact e2)
    have hrl := h.rd.lt
    have hrd := hcs.hrd
    refine ⟨rfl, tv', .inl ⟨[⟨g1, 4, kid t 1, false, d, pre.length + 2⟩], ?_⟩⟩
    unfold StepX
    rw [if_pos rfl]
    have hfr := hE2.tree h.hF hrl (by omega)
    refine ⟨c, vs, .slice (some ⟨gv, 0, none⟩) ln ln, g1, 4, hr, ⟨hD, ?_, fun q hq => ?_, ?_⟩, hE2, ?_, ?_, rfl⟩
    · rw [pcells_append, pcells_one, List.length_append]
      exact hown
    · rcases List.mem_append.1 hq with hq | hq
      · exact ⟨(h.tr q hq).1.frame hfr, (h.tr q hq).2⟩
      · simp only [List.mem_singleton] at hq
        subst hq
        exact ⟨hPb.frame hfr, ((TxOk_iff t).1 h.tx).2 _ (kid_mem (by omega))⟩
    · have hs := h.sum
      simp only at hs
      have h1 := mem_nodes (kid_mem (t := t) (i := 1) (by omega))
      have h3 := nodes_eq t
      simp only [List.map_append, List.map_cons, List.map_nil, List.sum_append, List.sum_cons, List.sum_nil]
      omega
    · have := hcs.cells.ev hE hcs.hT (by omega) (by omega)
      rw [← hc] at this
      exact this
    · have hA6 := hA.ev hE (by decide) (by omega) (by omega)
      rw [← hln, hvs]
      have hl : (((kid t 0).kids.drop 1).map (·.text)).length = ((kid t 0).kids.drop 1).length := by simp
      refine .inr ⟨gv, 0, _, by rw [hl], ⟨hgv, hA6.lt, hA6.np (by decide)⟩, fun j x hj => ?_⟩
      have hj' : (txts ((kid t 0).kids.drop 1))[j]? = some (.string (str x)) := by
        unfold txts
        rw [List.getElem?_map] at hj ⊢
        cases hq : ((kid t 0).kids.drop 1)[j]? with
        | none => rw [hq] at hj; cases hj
        | some q => rw [hq] at hj; simp at hj; subst hj; rfl
      have := hA6.cell hj'
      simpa using this
end Go.Proofs.Ytchfhkfepghfjaa

namespace Go.Proofs.Ytchfhkfepghfjaa
open Go.RowKit

set_option maxHeartbeats 1200000 in
set_option maxRecDepth 1000000 in
theorem readArm_ok (F : Nat → Prop) (rb : Nat) (m : List UInt8) (w : World) (tv : Value) (ps0 : List Pt) (tg tj d : Nat) (t : Tr) (pre post : List Value) (T : Nat) (h : FS F rb m w tv ps0 ⟨tg, tj, t, true, d, pre.length⟩ pre post T) (h1 : t.kind = 1) (h2 : t.kids.length = 2) (h3 : (kid t 0).kind = 1) (h4 : (kid t 0).kids.length ≤ 5) (h5 : 0 < (kid t 0).kids.length) (h6 : atomsX (kid t 0).kids = true) :
    Calls Try.prog 18 #[.pointer (some ⟨rb, 0, none⟩), .pointer (some ⟨tg, tj, none⟩), .pointer (some ⟨d, pre.length, none⟩)] w (FormQ F rb m ps0 ⟨tg, tj, t, true, d, pre.length⟩ pre post T w) := by
  have hcs := h.csA
  have hln := h.len
  simp only at hln
  have hpt : PT F w tg tj t := h.pt
  have htxt : TxOk t := h.tx
  obtain ⟨hFg, kv, hTw, p0, p1, p2, p3⟩ := hpt
  have e1 : ((t.kind : Int) != 1) = false := by simp; omega
  have e3 : (((kid t 0).kind : Int) != 1) = false := by simp; omega
  obtain ⟨g1, kc, hkv, hFg1, hkc, hcut⟩ := hTw.cut (by omega)
  obtain ⟨g2, c2, hk2, hPk⟩ := hTw.kid 0 (by omega)
  rw [hkv] at hk2
  simp only [Value.slice.injEq, Option.some.injEq, Addr.mk.injEq, and_true, true_and] at hk2
  obtain ⟨rfl, rfl⟩ := hk2
  rw [Nat.zero_mul] at hPk
  have hPk' := hPk
  obtain ⟨_, kvh, hTh, a0, a1, a2, a3⟩ := hPk'
  rw [hkv, h2] at p3
  rw [Nat.zero_add] at a1 a2 a3
  have hsh := armHead_ok h1 h2 h3 h4 h5 h6
  have hat := allAtoms_ F kvh (kid t 0).kids w hTh.sl (by omega)
  rw [h6] at hat
  have htk := ((TxOk_iff _).1 htxt).2 (kid t 0) (kid_mem (by omega))
  obtain ⟨gh, kh, hkh, hFgh, hkch, hcuth⟩ := hTh.cut h5
  obtain ⟨g3, c3, hk3, hPh0⟩ := hTh.kid 0 h5
  rw [hkh] at hk3
  simp only [Value.slice.injEq, Option.some.injEq, Addr.mk.injEq, and_true, true_and] at hk3
  obtain ⟨rfl, rfl⟩ := hk3
  rw [Nat.zero_mul] at hPh0
  have htk0 := ((TxOk_iff _).1 htk).2 (kid (kid t 0) 0) (kid_mem h5)
  have hrn := readName_Path F (kid (kid t 0) 0) gh 0 w rb m tv none hcs.rd sw_none hPh0 h.hF ((TxOk_iff _).1 htk0).1
  have hsw1 : Sw (orE none (suchP pathB (kid (kid t 0) 0))) := sw_orE sw_none (fun e he => suchP_err he)
  obtain ⟨g4, c4, hk4, hPb⟩ := hTw.kid 1 (by omega)
  rw [hkv] at hk4
  simp only [Value.slice.injEq, Option.some.injEq, Addr.mk.injEq, and_true, true_and] at hk4
  obtain ⟨rfl, rfl⟩ := hk4
  rw [Nat.one_mul] at hPb
  subst hkh
  have e4 : ¬ (4 : Int) < ((kid t 0).kids.length : Int) - 1 := by omega
  have e5 : (((kid t 0).kids.length : Int) == 0) = false := by rw [beq_eq_false_iff_ne]; omega
  have e6 : (0 : Int) < ((kid t 0).kids.length : Int) := by omega
  have e7 : (1 : Int) ≤ ((kid t 0).kids.length : Int) := by omega
  have HS : Hid (armHead t = (suchP pathB (kid (kid t 0) 0)).bind (fun c => (seqP (((kid t 0).kids.drop 1).map nameP)).bind (fun vs => .ok (c, vs)))) := hsh
  have H2 : Hid (t.kids.length = 2) := h2
  have h51 : 1 ≤ (kid t 0).kids.length := h5
  clear hPk hTh hcut hPh0 hsh h1 h3 h6 h2 hkv hkc
  by_cases hk1 : kh = 1
  · subst hk1
    have hrns := fun (W : World) (stq : Option (Nat × Nat)) (hd : DIs W rb m tv stq) (hsq : Sw stq) (hfr : ∀ b, F b → W.heap[b]? = w.heap[b]?) (c : Nat) => readNames_Bind F (.slice (some ⟨gh, 0, none⟩) ((kid t 0).kids.length - 1) c) ((kid t 0).kids.drop 1) W rb m tv stq hd hsq ((hcuth 1 (by omega) 0 (.inl ⟨rfl, rfl⟩) c).frame hfr) h.hF (by rw [List.length_drop]; omega) (fun x hx => ((TxOk_iff _).1 (((TxOk_iff _).1 htk).2 x (List.mem_of_mem_drop hx))).1)
    rw [suchP_bind] at hrns
    go_enter Try.func18, Try.ntmps18
    go_wp2_with (go_at_call 25; refine hat.mono ?_; rintro e w1 ⟨rfl, hw1⟩; obtain rfl := hw1.symm)
    refine hrn.mono ?_
    rintro e w2 ⟨rfl, hD2, hK2⟩
    have hcs2 := hcs.call hD2 hK2
    obtain ⟨c0, f0⟩ := hcs2.cell 0 (v := .string (str [])) rfl
    rw [Nat.add_zero] at c0 f0
    have hcs3 := hcs2.set 0 (by decide) (.string (str (kid (kid t 0) 0).text))
    rw [Nat.add_zero] at hcs3
    have a3' := hcs3.tcell hFg1 a3
    have hrn3 := hrns _ _ hcs3.rd hsw1 hcs3.fr
    rw [show (kid t 0).kids.length - 1 = 0 from by omega] at hrn3
    clear hrn hrns hD2 hK2 hcs2 hat a0 a1 a2 p0 p1 p2
    go_wp2_with fail
    refine (hrn3 _).mono ?_
    rintro e w4 ⟨rfl, hA4, hD4, hK4⟩
    have hcs4 := hcs3.call hD4 hK4
    obtain ⟨c1, f1⟩ := hcs4.cell 1 (v := .slice none 0 0) rfl
    have hcs5 := hcs4.set 1 (by simp [arz]) (.slice (some ⟨(w2.setCell ⟨d, pre.length, none⟩ (.string (str (kid (kid t 0) 0).text))).heap.size, 0, none⟩) ((kid t 0).kids.drop 1).length ((kid t 0).kids.drop 1).length)
    have hdl := hcs3.cells.lt
    have hwl3 := hcs3.ev.size
    have hA5 := hA4.kept ((Kept.refl (fun b => b = d) w4).setCell (p := ⟨d, pre.length + 1, none⟩) (fun _ => rfl) (.slice (some ⟨(w2.setCell ⟨d, pre.length, none⟩ (.string (str (kid (kid t 0) 0).text))).heap.size, 0, none⟩) ((kid t 0).kids.drop 1).length ((kid t 0).kids.drop 1).length)) (fun e => by omega)
    rw [← orE_pair none (suchP pathB (kid (kid t 0) 0)) (seqP (((kid t 0).kids.drop 1).map nameP)) (fun c vs => (c, vs)), ← HS.out] at hcs5
    have b3 := hcs5.tcell hFg p3
    clear hrn3 hD4 hK4 hcs4 hA4 a3 a3' c0 f0 hcs3
    generalize hgv : (w2.setCell ⟨d, pre.length, none⟩ (.string (str (kid (kid t 0) 0).text))).heap.size = gv at *
    generalize hwd : ((kid t 0).kids.drop 1).length = ln at *
    go_wp2_with fail
    generalize w4.setCell ⟨d, pre.length + 1, none⟩ (.slice (some ⟨gv, 0, none⟩) ln ln) = w5 at *
    obtain ⟨q0, q1, q2, q3, fz⟩ := hcs5.rd.cells
    have hoA : (w5.alloc (.cells #[.pointer (some ⟨g1, 4, none⟩), .pointer (some ⟨d, pre.length + 2, none⟩), .pointer none] 72)).drew.ownsRow (rb + 1) 72 3 tv ps0.length (pcells ps0) := owns_below hcs5.own (below_drew ((Below.refl _ _).alloc (Nat.le_refl _) (.cells #[.pointer (some ⟨g1, 4, none⟩), .pointer (some ⟨d, pre.length + 2, none⟩), .pointer none] 72)))
    have hN : ∀ j u, ([.pointer (some ⟨g1, 4, none⟩), .pointer (some ⟨d, pre.length + 2, none⟩), .pointer none] : List Value)[j]? = some u → (w5.alloc (.cells #[.pointer (some ⟨g1, 4, none⟩), .pointer (some ⟨d, pre.length + 2, none⟩), .pointer none] 72)).drew.cell? ((⟨w5.heap.size, 0, none⟩ : Addr).add j) = some u := cells_new w5 [.pointer (some ⟨g1, 4, none⟩), .pointer (some ⟨d, pre.length + 2, none⟩), .pointer none] 72
    have hrl := hcs5.rd.lt
    have hrl' : rb + 1 ≤ (w5.alloc (.cells #[.pointer (some ⟨g1, 4, none⟩), .pointer (some ⟨d, pre.length + 2, none⟩), .pointer none] 72)).drew.heap.size := by simp; omega
    have hlen : ps0.length ≤ 100000 := by omega
    obtain ⟨ta, tn, tc, htv⟩ : ∃ ta tn tc, tv = .slice ta tn tc := by
      rcases hcs5.own.2 with ⟨rfl, _⟩ | ⟨k', cap, cur, rfl, _⟩
      · exact ⟨none, 0, 0, rfl⟩
      · exact ⟨_, _, _, rfl⟩
    have hl1 : (1 : Int) < 2 := by decide
    subst htv
    go_region_law (first
      | (refine step_part (by rfl) (.tmp 98) (.tmp 108) (by rfl) (rb + 1) _ _ _ (by rfl) hoA ⟨w5.heap.size, 0, none⟩ 1 [.pointer (some ⟨g1, 4, none⟩), .pointer (some ⟨d, pre.length + 2, none⟩), .pointer none] (by rfl) (by rfl) hN (ptr3_one _ _ _) hlen hrl' ?_; intro gq cap w6 ho6 hg6; obtain ⟨r1, r2, hD6, ho7, hE7⟩ := ev_push (d := rb) hcs5.rd hcs5.own ho6 (grown_drew hg6)))
    all_goals (
      have hQ := arm_fin h H2.out HS.out hcs5 hA5 hPb (by omega) hwd hD6 ho7 hE7
      clear hoA hN hg6 q0 q1 q2 q3 fz hE7 ho6 hcs5 hA5 b3
      go_wp2
      go_end0
      exact hQ)
  · have hrns := fun (W : World) (stq : Option (Nat × Nat)) (hd : DIs W rb m tv stq) (hsq : Sw stq) (hfr : ∀ b, F b → W.heap[b]? = w.heap[b]?) (c : Nat) => readNames_Bind F (.slice (some ⟨gh, 4, none⟩) ((kid t 0).kids.length - 1) c) ((kid t 0).kids.drop 1) W rb m tv stq hd hsq ((hcuth 1 (by omega) 4 (.inr ⟨hk1, rfl⟩) c).frame hfr) h.hF (by rw [List.length_drop]; omega) (fun x hx => ((TxOk_iff _).1 (((TxOk_iff _).1 htk).2 x (List.mem_of_mem_drop hx))).1)
    rw [suchP_bind] at hrns
    go_enter Try.func18, Try.ntmps18
    go_wp2_with (go_at_call 25; refine hat.mono ?_; rintro e w1 ⟨rfl, hw1⟩; obtain rfl := hw1.symm)
    refine hrn.mono ?_
    rintro e w2 ⟨rfl, hD2, hK2⟩
    have hcs2 := hcs.call hD2 hK2
    obtain ⟨c0, f0⟩ := hcs2.cell 0 (v := .string (str [])) rfl
    rw [Nat.add_zero] at c0 f0
    have hcs3 := hcs2.set 0 (by decide) (.string (str (kid (kid t 0) 0).text))
    rw [Nat.add_zero] at hcs3
    have a3' := hcs3.tcell hFg1 a3
    have hrn3 := hrns _ _ hcs3.rd hsw1 hcs3.fr
    clear hrn hrns hD2 hK2 hcs2 hat a0 a1 a2 p0 p1 p2
    go_wp2_with fail
    refine (hrn3 _).mono ?_
    rintro e w4 ⟨rfl, hA4, hD4, hK4⟩
    have hcs4 := hcs3.call hD4 hK4
    obtain ⟨c1, f1⟩ := hcs4.cell 1 (v := .slice none 0 0) rfl
    have hcs5 := hcs4.set 1 (by simp [arz]) (.slice (some ⟨(w2.setCell ⟨d, pre.length, none⟩ (.string (str (kid (kid t 0) 0).text))).heap.size, 0, none⟩) ((kid t 0).kids.drop 1).length ((kid t 0).kids.drop 1).length)
    have hdl := hcs3.cells.lt
    have hwl3 := hcs3.ev.size
    have hA5 := hA4.kept ((Kept.refl (fun b => b = d) w4).setCell (p := ⟨d, pre.length + 1, none⟩) (fun _ => rfl) (.slice (some ⟨(w2.setCell ⟨d, pre.length, none⟩ (.string (str (kid (kid t 0) 0).text))).heap.size, 0, none⟩) ((kid t 0).kids.drop 1).length ((kid t 0).kids.drop 1).length)) (fun e => by omega)
    rw [← orE_pair none (suchP pathB (kid (kid t 0) 0)) (seqP (((kid t 0).kids.drop 1).map nameP)) (fun c vs => (c, vs)), ← HS.out] at hcs5
    have b3 := hcs5.tcell hFg p3
    clear hrn3 hD4 hK4 hcs4 hA4 a3 a3' c0 f0 hcs3
    generalize hgv : (w2.setCell ⟨d, pre.length, none⟩ (.string (str (kid (kid t 0) 0).text))).heap.size = gv at *
    generalize hwd : ((kid t 0).kids.drop 1).length = ln at *
    go_wp2_with fail
    generalize w4.setCell ⟨d, pre.length + 1, none⟩ (.slice (some ⟨gv, 0, none⟩) ln ln) = w5 at *
    obtain ⟨q0, q1, q2, q3, fz⟩ := hcs5.rd.cells
    have hoA : (w5.alloc (.cells #[.pointer (some ⟨g1, 4, none⟩), .pointer (some ⟨d, pre.length + 2, none⟩), .pointer none] 72)).drew.ownsRow (rb + 1) 72 3 tv ps0.length (pcells ps0) := owns_below hcs5.own (below_drew ((Below.refl _ _).alloc (Nat.le_refl _) (.cells #[.pointer (some ⟨g1, 4, none⟩), .pointer (some ⟨d, pre.length + 2, none⟩), .pointer none] 72)))
    have hN : ∀ j u, ([.pointer (some ⟨g1, 4, none⟩), .pointer (some ⟨d, pre.length + 2, none⟩), .pointer none] : List Value)[j]? = some u → (w5.alloc (.cells #[.pointer (some ⟨g1, 4, none⟩), .pointer (some ⟨d, pre.length + 2, none⟩), .pointer none] 72)).drew.cell? ((⟨w5.heap.size, 0, none⟩ : Addr).add j) = some u := cells_new w5 [.pointer (some ⟨g1, 4, none⟩), .pointer (some ⟨d, pre.length + 2, none⟩), .pointer none] 72
    have hrl := hcs5.rd.lt
    have hrl' : rb + 1 ≤ (w5.alloc (.cells #[.pointer (some ⟨g1, 4, none⟩), .pointer (some ⟨d, pre.length + 2, none⟩), .pointer none] 72)).drew.heap.size := by simp; omega
    have hlen : ps0.length ≤ 100000 := by omega
    obtain ⟨ta, tn, tc, htv⟩ : ∃ ta tn tc, tv = .slice ta tn tc := by
      rcases hcs5.own.2 with ⟨rfl, _⟩ | ⟨k', cap, cur, rfl, _⟩
      · exact ⟨none, 0, 0, rfl⟩
      · exact ⟨_, _, _, rfl⟩
    have hl1 : (1 : Int) < 2 := by decide
    subst htv
    go_region_law (first
      | (refine step_part (by rfl) (.tmp 98) (.tmp 108) (by rfl) (rb + 1) _ _ _ (by rfl) hoA ⟨w5.heap.size, 0, none⟩ 1 [.pointer (some ⟨g1, 4, none⟩), .pointer (some ⟨d, pre.length + 2, none⟩), .pointer none] (by rfl) (by rfl) hN (ptr3_one _ _ _) hlen hrl' ?_; intro gq cap w6 ho6 hg6; obtain ⟨r1, r2, hD6, ho7, hE7⟩ := ev_push (d := rb) hcs5.rd hcs5.own ho6 (grown_drew hg6)))
    all_goals (
      have hQ := arm_fin h H2.out HS.out hcs5 hA5 hPb (by omega) hwd hD6 ho7 hE7
      clear hoA hN hg6 q0 q1 q2 q3 fz hE7 ho6 hcs5 hA5 b3
      go_wp2
      go_end0
      exact hQ)
end Go.Proofs.Ytchfhkfepghfjaa
