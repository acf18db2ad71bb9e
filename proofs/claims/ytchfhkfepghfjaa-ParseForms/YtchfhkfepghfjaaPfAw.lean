/-
  The package's readForm: List.
  And: The package's readForm: Op, Make, Call. The package's readForm: Lambda.
-/
import Derived.Deep.CutRange
import Derived.Deep.RegionWith
import Derived.Test.YtchfhkfepghfjaaPfAv
namespace Go.Proofs.Ytchfhkfepghfjaa
open Go.RowKit

set_option maxHeartbeats 4000000 in
set_option maxRecDepth 1000000 in
theorem readForm_7 (F : Nat → Prop) (rb : Nat) (m : List UInt8) (w : World) (tv : Value) (ps0 : List Pt) (tg tj d : Nat) (t : Tr) (pre post : List Value) (T : Nat) (h : FS F rb m w tv ps0 ⟨tg, tj, t, false, d, pre.length⟩ pre post T) (hk : kindX t = 7) :
    Calls Try.prog 19 #[.pointer (some ⟨rb, 0, none⟩), .pointer (some ⟨tg, tj, none⟩), .pointer (some ⟨d, pre.length, none⟩)] w (FormQ F rb m ps0 ⟨tg, tj, t, false, d, pre.length⟩ pre post T w) := by
  obtain ⟨hA, _, hT, hrd⟩ := h.dst
  simp only [Bool.false_eq_true, if_false] at hA hrd
  have c0 := hA.cell (j := 0) (v := .int .i64 0) rfl
  have c1 := hA.cell (j := 1) (v := .int .i64 0) rfl
  rw [Nat.add_zero] at c0
  have f0 := hA.frozen pre.length
  have f1 := hA.frozen (pre.length + 1)
  have hpt : PT F w tg tj t := h.pt
  have htxt : TxOk t := h.tx
  have hko := fun n => kindOf F t tg tj (w.drewN n) (hpt.frame (fun _ _ => rfl)) htxt
  rw [hk] at hko
  have hP := hpt
  obtain ⟨hFg, kv, hTw, p0, p1, p2, p3⟩ := hP
  have hfs1 := h.first rfl 7
  go_enter Try.func19, Try.ntmps19
  go_wp2_with fail
  go_cut [] from 6 to 17 (fun wx => FS1 F rb m w tv ps0 d t pre post T 7 wx)
  case first =>
    go_region_with (first
      | (go_at_call 30; refine (hko _).mono ?_; rintro e w1 ⟨n1, rfl, rfl⟩))
    all_goals (go_wp2_with fail; go_meet; exact hfs1 _)
  case rest =>
    have hcs := hcut.cs hT hrd h.hF
    clear hko hfs1 c0 c1 f0 f1 hA hcut
    have hP1 := hpt.frame hcs.fr
    have b0 := hcs.tcell hFg p0
    have b1 := hcs.tcell hFg p1
    have b2 := hcs.tcell hFg p2
    obtain ⟨cK, fK⟩ := hcs.cell 0 (v := .int .i64 7) rfl
    rw [Nat.add_zero] at cK
    have htx := ((TxOk_iff _).1 htxt).1
    have hln := h.len
    simp only at hln
    have hkn := kids_nodes t
    have hlen := (kindX_len hk (by decide)).2.2.2.1 rfl
    cases hcb : crowdX t 7
    · have hsh : shapeP m t = (readR m (kid t 1)).bind (fun y => .ok (⟨7, t.place, [], 0, 0, [], y, [], [], [], []⟩, t.kids.drop 2, [])) := by
        rw [shapeP, hk, if_neg (by decide), if_neg (by rw [hcb]; exact Bool.false_ne_true)]
        rfl
      have hcr := crowded_7 F t tg tj wc hP1 (by omega)
      rw [hcb] at hcr
      obtain ⟨g1, kc, hkv, hFg1, hkc, hcut⟩ := hTw.cut (by omega)
      rw [hkv] at p3
      have hlow : (2 : Int) ≤ (t.kids.length : Int) := by omega
      obtain ⟨g2, c2, hk2, hPk⟩ := hTw.kid 1 (by omega)
      rw [hkv] at hk2
      simp only [Value.slice.injEq, Option.some.injEq, Addr.mk.injEq, and_true, true_and] at hk2
      obtain ⟨rfl, _⟩ := hk2
      rw [Nat.one_mul] at hPk
      have htk := ((TxOk_iff _).1 htxt).2 (kid t 1) (kid_mem (by omega))
      have hnk : nodes (kid t 1) ≤ 20000 := by
        have := mem_nodes (kid_mem (t := t) (i := 1) (by omega))
        have := nodes_eq t
        omega
      have hrn := readType F (kid t 1) g1 4 wc rb m tv none hcs.rd sw_none (hPk.frame hcs.fr) h.hF htk hnk h.hm
      have hl1 : (1 : Int) < (t.kids.length : Int) := by omega
      have b3 := hcs.tcell hFg p3
      go_wp2_with (go_at_call 31; refine hcr.mono ?_; rintro e w1 ⟨rfl, hw1⟩; obtain rfl := hw1.symm)
      refine hrn.mono ?_
      rintro e w2 ⟨x, rfl, hx, hD2, hK2⟩
      have hcs2 := hcs.call hD2 hK2
      obtain ⟨c2, f2⟩ := hcs2.cell 5 (v := .string (str [])) rfl
      have hcs3 := hcs2.set 5 (by simp [exz, exc]) (.string (str x))
      have HX : Hid (∀ y, readR m (kid t 1) = .ok y → x = y) := hx
      clear hrn hD2 hK2 hcs2 cK fK b0 b1 b2 b3 hPk hcr hx
      by_cases hkl : kc = 2
      · have b3 := hcs3.tcell hFg p3
        have hlk := fun c => leaveKids (t.kids.drop 2) g1 0 c (w2.setCell ⟨d, pre.length + 5, none⟩ (.string (str x))) rb m tv (orE none (readR m (kid t 1))) ps0.length (pcells ps0) d pre _ post T hcs3.rd hcs3.own (by rw [List.length_drop]; omega) (by omega) hcs3.cells rfl ⟨_, rfl⟩ hT hrd
        rw [List.length_drop] at hlk
        have hSw := fun c => hcut 2 (by omega) 0 (.inl ⟨hkl, rfl⟩) c
        have key : ∀ c e w', LeaveQ rb m (orE none (readR m (kid t 1))) d pre (((exz.set 0 (.int .i64 ((7 : Nat) : Int))).set 1 (.int .i64 (t.place : Int))).set 5 (.string (str x))) post T 6 exz 36 ps0.length (pcells ps0) (t.kids.drop 2) (mkP g1 0 (w2.setCell ⟨d, pre.length + 5, none⟩ (.string (str x))).heap.size 9 false 0 (t.kids.drop 2)) (w2.setCell ⟨d, pre.length + 5, none⟩ (.string (str x))) e w' → FormQ F rb m ps0 ⟨tg, tj, t, false, d, pre.length⟩ pre post T w e w' := fun c e w' hL => form_kids h rfl (readR m (kid t 1)) (fun y => ⟨7, t.place, [], 0, 0, [], y, [], [], [], []⟩) (t.kids.drop 2) (by rw [List.length_drop]; exact Nat.sub_le _ _) hsh hcs3.ev.size hcs3.ev (pv := .slice none 0 0) (by rw [List.length_drop]; exact hSw c) hL ⟨rfl, rfl⟩ (fun y hy kv => by rw [HX.out y hy]; rfl) (fun _ _ => TxR2.nil _ _)
        clear hcut hSw hTw hP1 hpt hcs hcs3 
        go_wp2_with fail
        refine (hlk _).mono ?_
        intro e w9 hq
        have hq' := key kc e w9 hq
        obtain ⟨rfl, _⟩ := hq
        clear key hlk b3
        go_wp2
        go_end0
        exact hq'
      · have b3 := hcs3.tcell hFg p3
        have hlk := fun c => leaveKids (t.kids.drop 2) g1 8 c (w2.setCell ⟨d, pre.length + 5, none⟩ (.string (str x))) rb m tv (orE none (readR m (kid t 1))) ps0.length (pcells ps0) d pre _ post T hcs3.rd hcs3.own (by rw [List.length_drop]; omega) (by omega) hcs3.cells rfl ⟨_, rfl⟩ hT hrd
        rw [List.length_drop] at hlk
        have hSw := fun c => hcut 2 (by omega) 8 (.inr ⟨hkl, rfl⟩) c
        have key : ∀ c e w', LeaveQ rb m (orE none (readR m (kid t 1))) d pre (((exz.set 0 (.int .i64 ((7 : Nat) : Int))).set 1 (.int .i64 (t.place : Int))).set 5 (.string (str x))) post T 6 exz 36 ps0.length (pcells ps0) (t.kids.drop 2) (mkP g1 8 (w2.setCell ⟨d, pre.length + 5, none⟩ (.string (str x))).heap.size 9 false 0 (t.kids.drop 2)) (w2.setCell ⟨d, pre.length + 5, none⟩ (.string (str x))) e w' → FormQ F rb m ps0 ⟨tg, tj, t, false, d, pre.length⟩ pre post T w e w' := fun c e w' hL => form_kids h rfl (readR m (kid t 1)) (fun y => ⟨7, t.place, [], 0, 0, [], y, [], [], [], []⟩) (t.kids.drop 2) (by rw [List.length_drop]; exact Nat.sub_le _ _) hsh hcs3.ev.size hcs3.ev (pv := .slice none 0 0) (by rw [List.length_drop]; exact hSw c) hL ⟨rfl, rfl⟩ (fun y hy kv => by rw [HX.out y hy]; rfl) (fun _ _ => TxR2.nil _ _)
        clear hcut hSw hTw hP1 hpt hcs hcs3 
        go_wp2_with fail
        refine (hlk _).mono ?_
        intro e w9 hq
        have hq' := key kc e w9 hq
        obtain ⟨rfl, _⟩ := hq
        clear key hlk b3
        go_wp2
        go_end0
        exact hq'
    · have hsh : shapeP m t = .error (19, t.place) := by rw [shapeP, hk, if_neg (by decide), if_pos hcb]
      have hcr := crowded_7 F t tg tj wc hP1 (by omega)
      rw [hcb] at hcr
      have hrf := refuse wc rb m tv none 19 t.place hcs.rd sw_none
      have key : ∀ e w', RQ6 m tv rb (orE none (.error (19, t.place) : PR Unit)) (.tuple #[]) wc e w' → FormQ F rb m ps0 ⟨tg, tj, t, false, d, pre.length⟩ pre post T w (.returned (.tuple #[])) w' := by
        rintro e w' ⟨_, hD, hK⟩
        exact form_err h rfl hsh ⟨rfl, rfl⟩ (hcs.call hD hK)
      clear hTw hP1 hpt b0 b2 hcs p0 p1 p2 p3
      go_wp2_with (go_at_call 31; refine hcr.mono ?_; rintro e w1 ⟨rfl, hw1⟩; obtain rfl := hw1.symm)
      refine hrf.mono ?_
      intro e w2 hq
      have hq' := key e w2 hq
      obtain ⟨rfl, _, _⟩ := hq
      clear key hrf cK b1 fK
      go_wp2
      go_end0
      exact hq'
end Go.Proofs.Ytchfhkfepghfjaa

namespace Go.Proofs.Ytchfhkfepghfjaa
open Go.RowKit

set_option maxHeartbeats 4000000 in
set_option maxRecDepth 1000000 in
theorem readForm_6 (F : Nat → Prop) (rb : Nat) (m : List UInt8) (w : World) (tv : Value) (ps0 : List Pt) (tg tj d : Nat) (t : Tr) (pre post : List Value) (T : Nat) (h : FS F rb m w tv ps0 ⟨tg, tj, t, false, d, pre.length⟩ pre post T) (hk : kindX t = 6) :
    Calls Try.prog 19 #[.pointer (some ⟨rb, 0, none⟩), .pointer (some ⟨tg, tj, none⟩), .pointer (some ⟨d, pre.length, none⟩)] w (FormQ F rb m ps0 ⟨tg, tj, t, false, d, pre.length⟩ pre post T w) := by
  obtain ⟨hA, _, hT, hrd⟩ := h.dst
  simp only [Bool.false_eq_true, if_false] at hA hrd
  have c0 := hA.cell (j := 0) (v := .int .i64 0) rfl
  have c1 := hA.cell (j := 1) (v := .int .i64 0) rfl
  rw [Nat.add_zero] at c0
  have f0 := hA.frozen pre.length
  have f1 := hA.frozen (pre.length + 1)
  have hpt : PT F w tg tj t := h.pt
  have htxt : TxOk t := h.tx
  have hko := fun n => kindOf F t tg tj (w.drewN n) (hpt.frame (fun _ _ => rfl)) htxt
  rw [hk] at hko
  have hP := hpt
  obtain ⟨hFg, kv, hTw, p0, p1, p2, p3⟩ := hP
  have hfs1 := h.first rfl 6
  go_enter Try.func19, Try.ntmps19
  go_wp2_with fail
  go_cut [] from 6 to 17 (fun wx => FS1 F rb m w tv ps0 d t pre post T 6 wx)
  case first =>
    go_region_with (first
      | (go_at_call 30; refine (hko _).mono ?_; rintro e w1 ⟨n1, rfl, rfl⟩))
    all_goals (go_wp2_with fail; go_meet; exact hfs1 _)
  case rest =>
    have hcs := hcut.cs hT hrd h.hF
    clear hko hfs1 c0 c1 f0 f1 hA hcut
    have hP1 := hpt.frame hcs.fr
    have b0 := hcs.tcell hFg p0
    have b1 := hcs.tcell hFg p1
    have b2 := hcs.tcell hFg p2
    obtain ⟨cK, fK⟩ := hcs.cell 0 (v := .int .i64 6) rfl
    rw [Nat.add_zero] at cK
    have htx := ((TxOk_iff _).1 htxt).1
    have hln := h.len
    simp only at hln
    have hkn := kids_nodes t
    have hlen := (kindX_len hk (by decide)).1
    have hcb : crowdX t 6 = false := rfl
    have hsh : shapeP m t = (Except.ok () : PR Unit).bind (fun _ => .ok (exK 6 t (kid t 0).text [], t.kids.drop 1, [])) := by
      rw [shapeP, hk, if_neg (by decide), if_neg (by rw [hcb]; exact Bool.false_ne_true)]
      rfl
    have hcr := crowded_6 (.pointer (some ⟨tg, tj, none⟩)) wc
    obtain ⟨g1, kc, hkv, hFg1, hkc, hcut⟩ := hTw.cut (by omega)
    rw [hkv] at p3
    have hlow : (1 : Int) ≤ (t.kids.length : Int) := by omega
    obtain ⟨g2, c2, hk2, hPk⟩ := hTw.kid 0 (by omega)
    rw [hkv] at hk2
    simp only [Value.slice.injEq, Option.some.injEq, Addr.mk.injEq, and_true, true_and] at hk2
    obtain ⟨rfl, _⟩ := hk2
    rw [Nat.zero_mul] at hPk
    obtain ⟨_, _, _, _, _, k2, _⟩ := hPk
    rw [Nat.zero_add] at k2
    have k2' := hcs.tcell hFg1 k2
    have htk := ((TxOk_iff _).1 htxt).2 (kid t 0) (kid_mem (by omega))
    have hcl := fun u => sClone (str (kid t 0).text) u (by rw [str_size]; exact ((TxOk_iff _).1 htk).1)
    have hl1 : (0 : Int) < (t.kids.length : Int) := by omega
    have b3 := hcs.tcell hFg p3
    go_wp2_with (go_at_call 31; refine hcr.mono ?_; rintro e w1 ⟨rfl, hw1⟩; obtain rfl := hw1.symm)
    refine (hcl _).mono ?_
    rintro e w2 ⟨rfl, hb2⟩
    have hcs2 := hcs.below hb2
    obtain ⟨c2, f2⟩ := hcs2.cell 2 (v := .string (str [])) rfl
    have hcs3 := hcs2.set 2 (by simp [exz, exc]) (.string (str (kid t 0).text))
    clear hcl hb2 hcs2 cK fK b0 b1 b2 b3 k2 k2' hcr
    by_cases hkl : kc = 1
    · have b3 := hcs3.tcell hFg p3
      have hlk := fun c => leaveKids (t.kids.drop 1) g1 0 c (w2.setCell ⟨d, pre.length + 2, none⟩ (.string (str (kid t 0).text))) rb m tv (orE none (.ok () : PR Unit)) ps0.length (pcells ps0) d pre _ post T hcs3.rd hcs3.own (by rw [List.length_drop]; omega) (by omega) hcs3.cells rfl ⟨_, rfl⟩ hT hrd
      rw [List.length_drop] at hlk
      have hSw := fun c => hcut 1 (by omega) 0 (.inl ⟨hkl, rfl⟩) c
      have key : ∀ c e w', LeaveQ rb m (orE none (.ok () : PR Unit)) d pre (((exz.set 0 (.int .i64 ((6 : Nat) : Int))).set 1 (.int .i64 (t.place : Int))).set 2 (.string (str (kid t 0).text))) post T 6 exz 36 ps0.length (pcells ps0) (t.kids.drop 1) (mkP g1 0 (w2.setCell ⟨d, pre.length + 2, none⟩ (.string (str (kid t 0).text))).heap.size 9 false 0 (t.kids.drop 1)) (w2.setCell ⟨d, pre.length + 2, none⟩ (.string (str (kid t 0).text))) e w' → FormQ F rb m ps0 ⟨tg, tj, t, false, d, pre.length⟩ pre post T w e w' := fun c e w' hL => form_kids h rfl (.ok ()) (fun _ => exK 6 t (kid t 0).text []) (t.kids.drop 1) (by rw [List.length_drop]; exact Nat.sub_le _ _) hsh hcs3.ev.size hcs3.ev (pv := .slice none 0 0) (by rw [List.length_drop]; exact hSw c) hL ⟨rfl, rfl⟩ (fun _ _ _ => rfl) (fun _ _ => TxR2.nil _ _)
      clear hcut hSw hTw hP1 hpt hcs hcs3 
      go_wp2_with fail
      refine (hlk _).mono ?_
      intro e w9 hq
      have hq' := key kc e w9 hq
      obtain ⟨rfl, _⟩ := hq
      clear key hlk b3
      go_wp2
      go_end0
      exact hq'
    · have b3 := hcs3.tcell hFg p3
      have hlk := fun c => leaveKids (t.kids.drop 1) g1 4 c (w2.setCell ⟨d, pre.length + 2, none⟩ (.string (str (kid t 0).text))) rb m tv (orE none (.ok () : PR Unit)) ps0.length (pcells ps0) d pre _ post T hcs3.rd hcs3.own (by rw [List.length_drop]; omega) (by omega) hcs3.cells rfl ⟨_, rfl⟩ hT hrd
      rw [List.length_drop] at hlk
      have hSw := fun c => hcut 1 (by omega) 4 (.inr ⟨hkl, rfl⟩) c
      have key : ∀ c e w', LeaveQ rb m (orE none (.ok () : PR Unit)) d pre (((exz.set 0 (.int .i64 ((6 : Nat) : Int))).set 1 (.int .i64 (t.place : Int))).set 2 (.string (str (kid t 0).text))) post T 6 exz 36 ps0.length (pcells ps0) (t.kids.drop 1) (mkP g1 4 (w2.setCell ⟨d, pre.length + 2, none⟩ (.string (str (kid t 0).text))).heap.size 9 false 0 (t.kids.drop 1)) (w2.setCell ⟨d, pre.length + 2, none⟩ (.string (str (kid t 0).text))) e w' → FormQ F rb m ps0 ⟨tg, tj, t, false, d, pre.length⟩ pre post T w e w' := fun c e w' hL => form_kids h rfl (.ok ()) (fun _ => exK 6 t (kid t 0).text []) (t.kids.drop 1) (by rw [List.length_drop]; exact Nat.sub_le _ _) hsh hcs3.ev.size hcs3.ev (pv := .slice none 0 0) (by rw [List.length_drop]; exact hSw c) hL ⟨rfl, rfl⟩ (fun _ _ _ => rfl) (fun _ _ => TxR2.nil _ _)
      clear hcut hSw hTw hP1 hpt hcs hcs3 
      go_wp2_with fail
      refine (hlk _).mono ?_
      intro e w9 hq
      have hq' := key kc e w9 hq
      obtain ⟨rfl, _⟩ := hq
      clear key hlk b3
      go_wp2
      go_end0
      exact hq'
set_option maxHeartbeats 4000000 in
set_option maxRecDepth 1000000 in
theorem readForm_8 (F : Nat → Prop) (rb : Nat) (m : List UInt8) (w : World) (tv : Value) (ps0 : List Pt) (tg tj d : Nat) (t : Tr) (pre post : List Value) (T : Nat) (h : FS F rb m w tv ps0 ⟨tg, tj, t, false, d, pre.length⟩ pre post T) (hk : kindX t = 8) :
    Calls Try.prog 19 #[.pointer (some ⟨rb, 0, none⟩), .pointer (some ⟨tg, tj, none⟩), .pointer (some ⟨d, pre.length, none⟩)] w (FormQ F rb m ps0 ⟨tg, tj, t, false, d, pre.length⟩ pre post T w) := by
  obtain ⟨hA, _, hT, hrd⟩ := h.dst
  simp only [Bool.false_eq_true, if_false] at hA hrd
  have c0 := hA.cell (j := 0) (v := .int .i64 0) rfl
  have c1 := hA.cell (j := 1) (v := .int .i64 0) rfl
  rw [Nat.add_zero] at c0
  have f0 := hA.frozen pre.length
  have f1 := hA.frozen (pre.length + 1)
  have hpt : PT F w tg tj t := h.pt
  have htxt : TxOk t := h.tx
  have hko := fun n => kindOf F t tg tj (w.drewN n) (hpt.frame (fun _ _ => rfl)) htxt
  rw [hk] at hko
  have hP := hpt
  obtain ⟨hFg, kv, hTw, p0, p1, p2, p3⟩ := hP
  have hfs1 := h.first rfl 8
  go_enter Try.func19, Try.ntmps19
  go_wp2_with fail
  go_cut [] from 6 to 17 (fun wx => FS1 F rb m w tv ps0 d t pre post T 8 wx)
  case first =>
    go_region_with (first
      | (go_at_call 30; refine (hko _).mono ?_; rintro e w1 ⟨n1, rfl, rfl⟩))
    all_goals (go_wp2_with fail; go_meet; exact hfs1 _)
  case rest =>
    have hcs := hcut.cs hT hrd h.hF
    clear hko hfs1 c0 c1 f0 f1 hA hcut
    have hP1 := hpt.frame hcs.fr
    have b0 := hcs.tcell hFg p0
    have b1 := hcs.tcell hFg p1
    have b2 := hcs.tcell hFg p2
    obtain ⟨cK, fK⟩ := hcs.cell 0 (v := .int .i64 8) rfl
    rw [Nat.add_zero] at cK
    have htx := ((TxOk_iff _).1 htxt).1
    have hln := h.len
    simp only at hln
    have hkn := kids_nodes t
    have hlen := (kindX_len hk (by decide)).1
    cases hcb : crowdX t 8
    · have hsh : shapeP m t = (Except.ok () : PR Unit).bind (fun _ => .ok (exK 8 t (kid t 0).text [], t.kids.drop 1, [])) := by
        rw [shapeP, hk, if_neg (by decide), if_neg (by rw [hcb]; exact Bool.false_ne_true)]
        rfl
      have hcr := crowded_8 F t tg tj wc hP1 (by omega)
      rw [hcb] at hcr
      obtain ⟨g1, kc, hkv, hFg1, hkc, hcut⟩ := hTw.cut (by omega)
      rw [hkv] at p3
      have hlow : (1 : Int) ≤ (t.kids.length : Int) := by omega
      obtain ⟨g2, c2, hk2, hPk⟩ := hTw.kid 0 (by omega)
      rw [hkv] at hk2
      simp only [Value.slice.injEq, Option.some.injEq, Addr.mk.injEq, and_true, true_and] at hk2
      obtain ⟨rfl, _⟩ := hk2
      rw [Nat.zero_mul] at hPk
      obtain ⟨_, _, _, _, _, k2, _⟩ := hPk
      rw [Nat.zero_add] at k2
      have k2' := hcs.tcell hFg1 k2
      have htk := ((TxOk_iff _).1 htxt).2 (kid t 0) (kid_mem (by omega))
      have hcl := fun u => sClone (str (kid t 0).text) u (by rw [str_size]; exact ((TxOk_iff _).1 htk).1)
      have hl1 : (0 : Int) < (t.kids.length : Int) := by omega
      have b3 := hcs.tcell hFg p3
      go_wp2_with (go_at_call 31; refine hcr.mono ?_; rintro e w1 ⟨rfl, hw1⟩; obtain rfl := hw1.symm)
      refine (hcl _).mono ?_
      rintro e w2 ⟨rfl, hb2⟩
      have hcs2 := hcs.below hb2
      obtain ⟨c2, f2⟩ := hcs2.cell 2 (v := .string (str [])) rfl
      have hcs3 := hcs2.set 2 (by simp [exz, exc]) (.string (str (kid t 0).text))
      clear hcl hb2 hcs2 cK fK b0 b1 b2 b3 k2 k2' hcr
      by_cases hkl : kc = 1
      · have b3 := hcs3.tcell hFg p3
        have hlk := fun c => leaveKids (t.kids.drop 1) g1 0 c (w2.setCell ⟨d, pre.length + 2, none⟩ (.string (str (kid t 0).text))) rb m tv (orE none (.ok () : PR Unit)) ps0.length (pcells ps0) d pre _ post T hcs3.rd hcs3.own (by rw [List.length_drop]; omega) (by omega) hcs3.cells rfl ⟨_, rfl⟩ hT hrd
        rw [List.length_drop] at hlk
        have hSw := fun c => hcut 1 (by omega) 0 (.inl ⟨hkl, rfl⟩) c
        have key : ∀ c e w', LeaveQ rb m (orE none (.ok () : PR Unit)) d pre (((exz.set 0 (.int .i64 ((8 : Nat) : Int))).set 1 (.int .i64 (t.place : Int))).set 2 (.string (str (kid t 0).text))) post T 6 exz 36 ps0.length (pcells ps0) (t.kids.drop 1) (mkP g1 0 (w2.setCell ⟨d, pre.length + 2, none⟩ (.string (str (kid t 0).text))).heap.size 9 false 0 (t.kids.drop 1)) (w2.setCell ⟨d, pre.length + 2, none⟩ (.string (str (kid t 0).text))) e w' → FormQ F rb m ps0 ⟨tg, tj, t, false, d, pre.length⟩ pre post T w e w' := fun c e w' hL => form_kids h rfl (.ok ()) (fun _ => exK 8 t (kid t 0).text []) (t.kids.drop 1) (by rw [List.length_drop]; exact Nat.sub_le _ _) hsh hcs3.ev.size hcs3.ev (pv := .slice none 0 0) (by rw [List.length_drop]; exact hSw c) hL ⟨rfl, rfl⟩ (fun _ _ _ => rfl) (fun _ _ => TxR2.nil _ _)
        clear hcut hSw hTw hP1 hpt hcs hcs3 
        go_wp2_with fail
        refine (hlk _).mono ?_
        intro e w9 hq
        have hq' := key kc e w9 hq
        obtain ⟨rfl, _⟩ := hq
        clear key hlk b3
        go_wp2
        go_end0
        exact hq'
      · have b3 := hcs3.tcell hFg p3
        have hlk := fun c => leaveKids (t.kids.drop 1) g1 4 c (w2.setCell ⟨d, pre.length + 2, none⟩ (.string (str (kid t 0).text))) rb m tv (orE none (.ok () : PR Unit)) ps0.length (pcells ps0) d pre _ post T hcs3.rd hcs3.own (by rw [List.length_drop]; omega) (by omega) hcs3.cells rfl ⟨_, rfl⟩ hT hrd
        rw [List.length_drop] at hlk
        have hSw := fun c => hcut 1 (by omega) 4 (.inr ⟨hkl, rfl⟩) c
        have key : ∀ c e w', LeaveQ rb m (orE none (.ok () : PR Unit)) d pre (((exz.set 0 (.int .i64 ((8 : Nat) : Int))).set 1 (.int .i64 (t.place : Int))).set 2 (.string (str (kid t 0).text))) post T 6 exz 36 ps0.length (pcells ps0) (t.kids.drop 1) (mkP g1 4 (w2.setCell ⟨d, pre.length + 2, none⟩ (.string (str (kid t 0).text))).heap.size 9 false 0 (t.kids.drop 1)) (w2.setCell ⟨d, pre.length + 2, none⟩ (.string (str (kid t 0).text))) e w' → FormQ F rb m ps0 ⟨tg, tj, t, false, d, pre.length⟩ pre post T w e w' := fun c e w' hL => form_kids h rfl (.ok ()) (fun _ => exK 8 t (kid t 0).text []) (t.kids.drop 1) (by rw [List.length_drop]; exact Nat.sub_le _ _) hsh hcs3.ev.size hcs3.ev (pv := .slice none 0 0) (by rw [List.length_drop]; exact hSw c) hL ⟨rfl, rfl⟩ (fun _ _ _ => rfl) (fun _ _ => TxR2.nil _ _)
        clear hcut hSw hTw hP1 hpt hcs hcs3 
        go_wp2_with fail
        refine (hlk _).mono ?_
        intro e w9 hq
        have hq' := key kc e w9 hq
        obtain ⟨rfl, _⟩ := hq
        clear key hlk b3
        go_wp2
        go_end0
        exact hq'
    · have hsh : shapeP m t = .error (19, t.place) := by rw [shapeP, hk, if_neg (by decide), if_pos hcb]
      have hcr := crowded_8 F t tg tj wc hP1 (by omega)
      rw [hcb] at hcr
      have hrf := refuse wc rb m tv none 19 t.place hcs.rd sw_none
      have key : ∀ e w', RQ6 m tv rb (orE none (.error (19, t.place) : PR Unit)) (.tuple #[]) wc e w' → FormQ F rb m ps0 ⟨tg, tj, t, false, d, pre.length⟩ pre post T w (.returned (.tuple #[])) w' := by
        rintro e w' ⟨_, hD, hK⟩
        exact form_err h rfl hsh ⟨rfl, rfl⟩ (hcs.call hD hK)
      clear hTw hP1 hpt b0 b2 hcs p0 p1 p2 p3
      go_wp2_with (go_at_call 31; refine hcr.mono ?_; rintro e w1 ⟨rfl, hw1⟩; obtain rfl := hw1.symm)
      refine hrf.mono ?_
      intro e w2 hq
      have hq' := key e w2 hq
      obtain ⟨rfl, _, _⟩ := hq
      clear key hrf cK b1 fK
      go_wp2
      go_end0
      exact hq'
set_option maxHeartbeats 4000000 in
set_option maxRecDepth 1000000 in
theorem readForm_12 (F : Nat → Prop) (rb : Nat) (m : List UInt8) (w : World) (tv : Value) (ps0 : List Pt) (tg tj d : Nat) (t : Tr) (pre post : List Value) (T : Nat) (h : FS F rb m w tv ps0 ⟨tg, tj, t, false, d, pre.length⟩ pre post T) (hk : kindX t = 12) :
    Calls Try.prog 19 #[.pointer (some ⟨rb, 0, none⟩), .pointer (some ⟨tg, tj, none⟩), .pointer (some ⟨d, pre.length, none⟩)] w (FormQ F rb m ps0 ⟨tg, tj, t, false, d, pre.length⟩ pre post T w) := by
  obtain ⟨hA, _, hT, hrd⟩ := h.dst
  simp only [Bool.false_eq_true, if_false] at hA hrd
  have c0 := hA.cell (j := 0) (v := .int .i64 0) rfl
  have c1 := hA.cell (j := 1) (v := .int .i64 0) rfl
  rw [Nat.add_zero] at c0
  have f0 := hA.frozen pre.length
  have f1 := hA.frozen (pre.length + 1)
  have hpt : PT F w tg tj t := h.pt
  have htxt : TxOk t := h.tx
  have hko := fun n => kindOf F t tg tj (w.drewN n) (hpt.frame (fun _ _ => rfl)) htxt
  rw [hk] at hko
  have hP := hpt
  obtain ⟨hFg, kv, hTw, p0, p1, p2, p3⟩ := hP
  have hfs1 := h.first rfl 12
  go_enter Try.func19, Try.ntmps19
  go_wp2_with fail
  go_cut [] from 6 to 17 (fun wx => FS1 F rb m w tv ps0 d t pre post T 12 wx)
  case first =>
    go_region_with (first
      | (go_at_call 30; refine (hko _).mono ?_; rintro e w1 ⟨n1, rfl, rfl⟩))
    all_goals (go_wp2_with fail; go_meet; exact hfs1 _)
  case rest =>
    have hcs := hcut.cs hT hrd h.hF
    clear hko hfs1 c0 c1 f0 f1 hA hcut
    have hP1 := hpt.frame hcs.fr
    have b0 := hcs.tcell hFg p0
    have b1 := hcs.tcell hFg p1
    have b2 := hcs.tcell hFg p2
    obtain ⟨cK, fK⟩ := hcs.cell 0 (v := .int .i64 12) rfl
    rw [Nat.add_zero] at cK
    have htx := ((TxOk_iff _).1 htxt).1
    have hln := h.len
    simp only at hln
    have hkn := kids_nodes t
    have hlen := (kindX_len hk (by decide)).1
    cases hcb : crowdX t 12
    · have hsh : shapeP m t = (Except.ok () : PR Unit).bind (fun _ => .ok (exK 12 t (kid t 0).text [], t.kids.drop 1, [])) := by
        rw [shapeP, hk, if_neg (by decide), if_neg (by rw [hcb]; exact Bool.false_ne_true)]
        rfl
      have hcr := crowded_12 F t tg tj wc hP1 (by omega)
      rw [hcb] at hcr
      obtain ⟨g1, kc, hkv, hFg1, hkc, hcut⟩ := hTw.cut (by omega)
      rw [hkv] at p3
      have hlow : (1 : Int) ≤ (t.kids.length : Int) := by omega
      obtain ⟨g2, c2, hk2, hPk⟩ := hTw.kid 0 (by omega)
      rw [hkv] at hk2
      simp only [Value.slice.injEq, Option.some.injEq, Addr.mk.injEq, and_true, true_and] at hk2
      obtain ⟨rfl, _⟩ := hk2
      rw [Nat.zero_mul] at hPk
      obtain ⟨_, _, _, _, _, k2, _⟩ := hPk
      rw [Nat.zero_add] at k2
      have k2' := hcs.tcell hFg1 k2
      have htk := ((TxOk_iff _).1 htxt).2 (kid t 0) (kid_mem (by omega))
      have hcl := fun u => sClone (str (kid t 0).text) u (by rw [str_size]; exact ((TxOk_iff _).1 htk).1)
      have hl1 : (0 : Int) < (t.kids.length : Int) := by omega
      have b3 := hcs.tcell hFg p3
      go_wp2_with (go_at_call 31; refine hcr.mono ?_; rintro e w1 ⟨rfl, hw1⟩; obtain rfl := hw1.symm)
      refine (hcl _).mono ?_
      rintro e w2 ⟨rfl, hb2⟩
      have hcs2 := hcs.below hb2
      obtain ⟨c2, f2⟩ := hcs2.cell 2 (v := .string (str [])) rfl
      have hcs3 := hcs2.set 2 (by simp [exz, exc]) (.string (str (kid t 0).text))
      clear hcl hb2 hcs2 cK fK b0 b1 b2 b3 k2 k2' hcr
      by_cases hkl : kc = 1
      · have b3 := hcs3.tcell hFg p3
        have hlk := fun c => leaveKids (t.kids.drop 1) g1 0 c (w2.setCell ⟨d, pre.length + 2, none⟩ (.string (str (kid t 0).text))) rb m tv (orE none (.ok () : PR Unit)) ps0.length (pcells ps0) d pre _ post T hcs3.rd hcs3.own (by rw [List.length_drop]; omega) (by omega) hcs3.cells rfl ⟨_, rfl⟩ hT hrd
        rw [List.length_drop] at hlk
        have hSw := fun c => hcut 1 (by omega) 0 (.inl ⟨hkl, rfl⟩) c
        have key : ∀ c e w', LeaveQ rb m (orE none (.ok () : PR Unit)) d pre (((exz.set 0 (.int .i64 ((12 : Nat) : Int))).set 1 (.int .i64 (t.place : Int))).set 2 (.string (str (kid t 0).text))) post T 6 exz 36 ps0.length (pcells ps0) (t.kids.drop 1) (mkP g1 0 (w2.setCell ⟨d, pre.length + 2, none⟩ (.string (str (kid t 0).text))).heap.size 9 false 0 (t.kids.drop 1)) (w2.setCell ⟨d, pre.length + 2, none⟩ (.string (str (kid t 0).text))) e w' → FormQ F rb m ps0 ⟨tg, tj, t, false, d, pre.length⟩ pre post T w e w' := fun c e w' hL => form_kids h rfl (.ok ()) (fun _ => exK 12 t (kid t 0).text []) (t.kids.drop 1) (by rw [List.length_drop]; exact Nat.sub_le _ _) hsh hcs3.ev.size hcs3.ev (pv := .slice none 0 0) (by rw [List.length_drop]; exact hSw c) hL ⟨rfl, rfl⟩ (fun _ _ _ => rfl) (fun _ _ => TxR2.nil _ _)
        clear hcut hSw hTw hP1 hpt hcs hcs3 
        go_wp2_with fail
        refine (hlk _).mono ?_
        intro e w9 hq
        have hq' := key kc e w9 hq
        obtain ⟨rfl, _⟩ := hq
        clear key hlk b3
        go_wp2
        go_end0
        exact hq'
      · have b3 := hcs3.tcell hFg p3
        have hlk := fun c => leaveKids (t.kids.drop 1) g1 4 c (w2.setCell ⟨d, pre.length + 2, none⟩ (.string (str (kid t 0).text))) rb m tv (orE none (.ok () : PR Unit)) ps0.length (pcells ps0) d pre _ post T hcs3.rd hcs3.own (by rw [List.length_drop]; omega) (by omega) hcs3.cells rfl ⟨_, rfl⟩ hT hrd
        rw [List.length_drop] at hlk
        have hSw := fun c => hcut 1 (by omega) 4 (.inr ⟨hkl, rfl⟩) c
        have key : ∀ c e w', LeaveQ rb m (orE none (.ok () : PR Unit)) d pre (((exz.set 0 (.int .i64 ((12 : Nat) : Int))).set 1 (.int .i64 (t.place : Int))).set 2 (.string (str (kid t 0).text))) post T 6 exz 36 ps0.length (pcells ps0) (t.kids.drop 1) (mkP g1 4 (w2.setCell ⟨d, pre.length + 2, none⟩ (.string (str (kid t 0).text))).heap.size 9 false 0 (t.kids.drop 1)) (w2.setCell ⟨d, pre.length + 2, none⟩ (.string (str (kid t 0).text))) e w' → FormQ F rb m ps0 ⟨tg, tj, t, false, d, pre.length⟩ pre post T w e w' := fun c e w' hL => form_kids h rfl (.ok ()) (fun _ => exK 12 t (kid t 0).text []) (t.kids.drop 1) (by rw [List.length_drop]; exact Nat.sub_le _ _) hsh hcs3.ev.size hcs3.ev (pv := .slice none 0 0) (by rw [List.length_drop]; exact hSw c) hL ⟨rfl, rfl⟩ (fun _ _ _ => rfl) (fun _ _ => TxR2.nil _ _)
        clear hcut hSw hTw hP1 hpt hcs hcs3 
        go_wp2_with fail
        refine (hlk _).mono ?_
        intro e w9 hq
        have hq' := key kc e w9 hq
        obtain ⟨rfl, _⟩ := hq
        clear key hlk b3
        go_wp2
        go_end0
        exact hq'
    · have hsh : shapeP m t = .error (19, t.place) := by rw [shapeP, hk, if_neg (by decide), if_pos hcb]
      have hcr := crowded_12 F t tg tj wc hP1 (by omega)
      rw [hcb] at hcr
      have hrf := refuse wc rb m tv none 19 t.place hcs.rd sw_none
      have key : ∀ e w', RQ6 m tv rb (orE none (.error (19, t.place) : PR Unit)) (.tuple #[]) wc e w' → FormQ F rb m ps0 ⟨tg, tj, t, false, d, pre.length⟩ pre post T w (.returned (.tuple #[])) w' := by
        rintro e w' ⟨_, hD, hK⟩
        exact form_err h rfl hsh ⟨rfl, rfl⟩ (hcs.call hD hK)
      clear hTw hP1 hpt b0 b2 hcs p0 p1 p2 p3
      go_wp2_with (go_at_call 31; refine hcr.mono ?_; rintro e w1 ⟨rfl, hw1⟩; obtain rfl := hw1.symm)
      refine hrf.mono ?_
      intro e w2 hq
      have hq' := key e w2 hq
      obtain ⟨rfl, _, _⟩ := hq
      clear key hrf cK b1 fK
      go_wp2
      go_end0
      exact hq'
end Go.Proofs.Ytchfhkfepghfjaa

namespace Go.Proofs.Ytchfhkfepghfjaa
open Go.RowKit

theorem pair_ok {α β : Type} {r : PR α} {s : PR β} {y : α × β} (h : r.bind (fun a => s.bind (fun b => .ok (a, b))) = .ok y) : r = .ok y.1 ∧ s = .ok y.2 := by
  cases r with
  | error e => cases h
  | ok a => cases s with
    | error e => cases h
    | ok b => cases h; exact ⟨rfl, rfl⟩
set_option maxHeartbeats 4000000 in
set_option maxRecDepth 1000000 in
theorem readForm_10 (F : Nat → Prop) (rb : Nat) (m : List UInt8) (w : World) (tv : Value) (ps0 : List Pt) (tg tj d : Nat) (t : Tr) (pre post : List Value) (T : Nat) (h : FS F rb m w tv ps0 ⟨tg, tj, t, false, d, pre.length⟩ pre post T) (hk : kindX t = 10) :
    Calls Try.prog 19 #[.pointer (some ⟨rb, 0, none⟩), .pointer (some ⟨tg, tj, none⟩), .pointer (some ⟨d, pre.length, none⟩)] w (FormQ F rb m ps0 ⟨tg, tj, t, false, d, pre.length⟩ pre post T w) := by
  obtain ⟨hA, _, hT, hrd⟩ := h.dst
  simp only [Bool.false_eq_true, if_false] at hA hrd
  have c0 := hA.cell (j := 0) (v := .int .i64 0) rfl
  have c1 := hA.cell (j := 1) (v := .int .i64 0) rfl
  rw [Nat.add_zero] at c0
  have f0 := hA.frozen pre.length
  have f1 := hA.frozen (pre.length + 1)
  have hpt : PT F w tg tj t := h.pt
  have htxt : TxOk t := h.tx
  have hko := fun n => kindOf F t tg tj (w.drewN n) (hpt.frame (fun _ _ => rfl)) htxt
  rw [hk] at hko
  have hP := hpt
  obtain ⟨hFg, kv, hTw, p0, p1, p2, p3⟩ := hP
  have hfs1 := h.first rfl 10
  go_enter Try.func19, Try.ntmps19
  go_wp2_with fail
  go_cut [] from 6 to 17 (fun wx => FS1 F rb m w tv ps0 d t pre post T 10 wx)
  case first =>
    go_region_with (first
      | (go_at_call 30; refine (hko _).mono ?_; rintro e w1 ⟨n1, rfl, rfl⟩))
    all_goals (go_wp2_with fail; go_meet; exact hfs1 _)
  case rest =>
    have hcs := hcut.cs hT hrd h.hF
    clear hko hfs1 c0 c1 f0 f1 hA hcut
    have hP1 := hpt.frame hcs.fr
    have b0 := hcs.tcell hFg p0
    have b1 := hcs.tcell hFg p1
    have b2 := hcs.tcell hFg p2
    obtain ⟨cK, fK⟩ := hcs.cell 0 (v := .int .i64 10) rfl
    rw [Nat.add_zero] at cK
    have htx := ((TxOk_iff _).1 htxt).1
    have hln := h.len
    simp only at hln
    have hkn := kids_nodes t
    have hlen : 4 ≤ t.kids.length := by have := ((kindX_len hk (by decide)).2.2.2.2.2.1 rfl).1; omega
    cases hcb : crowdX t 10
    · have hsh : shapeP m t = ((seqP ((kid t 1).kids.map (paramP m))).bind (fun ps => (readR m (kid t 2)).bind (fun y => .ok (ps, y)))).bind (fun py => .ok (⟨10, t.place, [], 0, 0, [], py.2, [], py.1, [], []⟩, t.kids.drop 3, [])) := by
        rw [shapeP, hk, if_neg (by decide), if_neg (by rw [hcb]; exact Bool.false_ne_true), bind_bind]
        show (seqP ((kid t 1).kids.map (paramP m))).bind _ = _
        congr 1
        funext ps
        rw [bind_bind]
        rfl
      have hcr := crowded_10 F t tg tj wc hP1 (by omega)
      rw [hcb] at hcr
      obtain ⟨g1, kc, hkv, hFg1, hkc, hcut⟩ := hTw.cut (by omega)
      rw [hkv] at p3
      have hlow : (3 : Int) ≤ (t.kids.length : Int) := by omega
      obtain ⟨g2, c2, hk2, hPk⟩ := hTw.kid 1 (by omega)
      rw [hkv] at hk2
      simp only [Value.slice.injEq, Option.some.injEq, Addr.mk.injEq, and_true, true_and] at hk2
      obtain ⟨rfl, _⟩ := hk2
      rw [Nat.one_mul] at hPk
      obtain ⟨g2, c2, hk2, hPl⟩ := hTw.kid 2 (by omega)
      rw [hkv] at hk2
      simp only [Value.slice.injEq, Option.some.injEq, Addr.mk.injEq, and_true, true_and] at hk2
      obtain ⟨rfl, _⟩ := hk2
      have htk := ((TxOk_iff _).1 htxt).2 (kid t 1) (kid_mem (by omega))
      have htl := ((TxOk_iff _).1 htxt).2 (kid t 2) (kid_mem (by omega))
      have hnk : nodes (kid t 1) ≤ 20000 := by
        have := mem_nodes (kid_mem (t := t) (i := 1) (by omega))
        have := nodes_eq t
        omega
      have hnl : nodes (kid t 2) ≤ 20000 := by
        have := mem_nodes (kid_mem (t := t) (i := 2) (by omega))
        have := nodes_eq t
        omega
      have hPl' : PT F w g1 8 (kid t 2) := hPl
      obtain ⟨_, kv1, hT1, _, _, _, k3⟩ := hPk
      have k3' := hcs.tcell hFg1 k3
      have hkl1 := kids_nodes (kid t 1)
      have hrp := readParams F kv1 (kid t 1).kids wc rb m tv none hcs.rd sw_none (hT1.sl.frame hcs.fr) h.hF (by omega) (fun x hx => ⟨((TxOk_iff _).1 htk).2 x hx, by have := mem_nodes hx; have := nodes_eq (kid t 1); omega⟩) h.hm
      obtain ⟨va1, vc1, hv1⟩ := hT1.shape
      subst hv1
      have hl1 : (1 : Int) < (t.kids.length : Int) := by omega
      have hl2 : (2 : Int) < (t.kids.length : Int) := by omega
      have b3 := hcs.tcell hFg p3
      have hwl := hcs.ev.size
      go_wp2_with (go_at_call 31; refine hcr.mono ?_; rintro e w1 ⟨rfl, hw1⟩; obtain rfl := hw1.symm)
      refine hrp.mono ?_
      rintro e w2 ⟨v, rfl, ⟨va, vn, vc, rfl⟩, hps, hD2, hK2⟩
      have hcs2 := hcs.call hD2 hK2
      obtain ⟨c7, f7⟩ := hcs2.cell 7 (v := .slice none 0 0) rfl
      have hcs3 := hcs2.set 7 (by simp [exz, exc]) (.slice va vn vc)
      have hsw : Sw (orE none (seqP ((kid t 1).kids.map (paramP m)))) := sw_seq sw_none (fun x e he => paramP_err he)
      have hrt := readType F (kid t 2) g1 8 _ rb m tv _ hcs3.rd hsw (hPl'.frame hcs3.fr) h.hF htl hnl h.hm
      have HP : Hid (∀ ps, seqP ((kid t 1).kids.map (paramP m)) = .ok ps → Value.slice va vn vc = .slice (some ⟨wc.heap.size, 0, none⟩) (kid t 1).kids.length (kid t 1).kids.length ∧ At (w2.setCell ⟨d, pre.length + 7, none⟩ (.slice va vn vc)) wc.heap.size [] (parc ps) [] 107) := by
        rw [hid_iff]
        intro ps e
        obtain ⟨e1, e2⟩ := hps ps e
        have hdl := hcs.cells.lt
        exact ⟨e1, e2.kept ((Kept.refl (fun b => b = d) w2).setCell (p := ⟨d, pre.length + 7, none⟩) (fun _ => rfl) _) (fun e => by omega)⟩
      have b3' := hcs3.tcell hFg p3
      clear hrp hps hD2 hK2 hcs2 cK fK b0 b1 b2 b3 k3 k3' hcr hT1 hPl hPl'
      go_wp2_with fail
      refine hrt.mono ?_
      rintro e w4 ⟨x, rfl, hx, hD4, hK4⟩
      have HX : Hid (∀ y, readR m (kid t 2) = .ok y → x = y) := hx
      have hcs4 := hcs3.call hD4 hK4
      obtain ⟨c5, f5⟩ := hcs4.cell 5 (v := .string (str [])) rfl
      have hcs5 := hcs4.set 5 (by simp [exz, exc]) (.string (str x))
      have HP5 : Hid (∀ ps, seqP ((kid t 1).kids.map (paramP m)) = .ok ps → TxR2 (fun k => FN w.heap.size (w4.setCell ⟨d, pre.length + 5, none⟩ (.string (str x))) k) (w4.setCell ⟨d, pre.length + 5, none⟩ (.string (str x))) (.slice va vn vc) ps) := by
        rw [hid_iff]
        intro ps e
        obtain ⟨e1, e2⟩ := HP.out ps e
        have hdl := hcs.cells.lt
        have hrl := hcs.rd.lt
        have hl := seqP_len e
        rw [List.length_map] at hl
        rw [e1, ← hl]
        exact parc_txr ((e2.kept hK4 (fun e => by omega)).kept ((Kept.refl (fun b => b = d) w4).setCell (p := ⟨d, pre.length + 5, none⟩) (fun _ => rfl) _) (fun e => by omega)) hwl (by decide)
      clear hrt hx hD4 hK4 hcs4 c7 f7 b3' HP hcs3
      rw [← orE_pair none (seqP ((kid t 1).kids.map (paramP m))) (readR m (kid t 2)) (fun ps y => (ps, y))] at hcs5
      have hkl : ¬ kc = 3 := by omega
      have b3 := hcs5.tcell hFg p3
      have hlk := fun c => leaveKids (t.kids.drop 3) g1 12 c (w4.setCell ⟨d, pre.length + 5, none⟩ (.string (str x))) rb m tv (orE none ((seqP ((kid t 1).kids.map (paramP m))).bind (fun ps => (readR m (kid t 2)).bind (fun y => .ok (ps, y))))) ps0.length (pcells ps0) d pre _ post T hcs5.rd hcs5.own (by rw [List.length_drop]; omega) (by omega) hcs5.cells rfl ⟨_, rfl⟩ hT hrd
      rw [List.length_drop] at hlk
      have hSw := fun c => hcut 3 (by omega) 12 (.inr ⟨hkl, rfl⟩) c
      have key : ∀ c e w', LeaveQ rb m (orE none ((seqP ((kid t 1).kids.map (paramP m))).bind (fun ps => (readR m (kid t 2)).bind (fun y => .ok (ps, y))))) d pre ((((exz.set 0 (.int .i64 ((10 : Nat) : Int))).set 1 (.int .i64 (t.place : Int))).set 7 (.slice va vn vc)).set 5 (.string (str x))) post T 6 exz 36 ps0.length (pcells ps0) (t.kids.drop 3) (mkP g1 12 (w4.setCell ⟨d, pre.length + 5, none⟩ (.string (str x))).heap.size 9 false 0 (t.kids.drop 3)) (w4.setCell ⟨d, pre.length + 5, none⟩ (.string (str x))) e w' → FormQ F rb m ps0 ⟨tg, tj, t, false, d, pre.length⟩ pre post T w e w' := fun c e w' hL => form_kids h rfl ((seqP ((kid t 1).kids.map (paramP m))).bind (fun ps => (readR m (kid t 2)).bind (fun y => .ok (ps, y)))) (fun py => ⟨10, t.place, [], 0, 0, [], py.2, [], py.1, [], []⟩) (t.kids.drop 3) (by rw [List.length_drop]; exact Nat.sub_le _ _) hsh hcs5.ev.size hcs5.ev (pv := .slice va vn vc) (by rw [List.length_drop]; exact hSw c) hL ⟨rfl, rfl⟩ (fun y hy kv => by rw [HX.out y.2 (pair_ok hy).2]; rfl) (fun y hy => HP5.out y.1 (pair_ok hy).1)
      clear hcut hSw hTw hP1 hpt hcs hcs5 
      go_wp2_with fail
      refine (hlk _).mono ?_
      intro e w9 hq
      have hq' := key kc e w9 hq
      obtain ⟨rfl, _⟩ := hq
      clear key hlk b3
      go_wp2
      go_end0
      exact hq'
    · have hsh : shapeP m t = .error (19, t.place) := by rw [shapeP, hk, if_neg (by decide), if_pos hcb]
      have hcr := crowded_10 F t tg tj wc hP1 (by omega)
      rw [hcb] at hcr
      have hrf := refuse wc rb m tv none 19 t.place hcs.rd sw_none
      have key : ∀ e w', RQ6 m tv rb (orE none (.error (19, t.place) : PR Unit)) (.tuple #[]) wc e w' → FormQ F rb m ps0 ⟨tg, tj, t, false, d, pre.length⟩ pre post T w (.returned (.tuple #[])) w' := by
        rintro e w' ⟨_, hD, hK⟩
        exact form_err h rfl hsh ⟨rfl, rfl⟩ (hcs.call hD hK)
      clear hTw hP1 hpt b0 b2 hcs p0 p1 p2 p3
      go_wp2_with (go_at_call 31; refine hcr.mono ?_; rintro e w1 ⟨rfl, hw1⟩; obtain rfl := hw1.symm)
      refine hrf.mono ?_
      intro e w2 hq
      have hq' := key e w2 hq
      obtain ⟨rfl, _, _⟩ := hq
      clear key hrf cK b1 fK
      go_wp2
      go_end0
      exact hq'
end Go.Proofs.Ytchfhkfepghfjaa
