/-
  Takes, Refs, and whether two rows of whole numbers are the same.
-/
import Derived.Test.YtbhcmhbicbhgmaaCodeEncW
import Derived.Test.YtbhcmhbicbhgmaaCodeDec
import Derived.Test.YtbhcmhbicbhgmaaWireRoom
namespace Go.Proofs.Ytbhcmhbicbhgmaa.Wire
open Go.RowKit

/-- What both Takes answer. -/
def TkE (op : Int) (w : World) (e : Ending) (w' : World) : Prop := e = .returned (.tuple #[.int .i64 (((takesR op).getD 0 : Nat) : Int), .bool (takesR op).isSome]) ∧ w' = w
set_option maxHeartbeats 1000000 in
set_option maxRecDepth 1000000 in
theorem ctakes (op : Int) (w : World) : Calls Try.prog 5 #[.int .i64 op] w (TkE op w) := by
  have key : ∀ (s : List Nat) (okv : Bool) (n : Int) (r : Nat) (ok : Bool), layS op = s → isOp op = okv → Lib.indexByte (toStr s).data.toList (Int.toNat 114).toUInt8 = n → takesR op = (if ok then some r else none) → (ok = false ∧ n = -1 ∨ ok = true ∧ 0 ≤ n ∧ n < 100 ∧ (r : Int) = 1 + n) → Calls Try.prog 5 #[.int .i64 op] w (TkE op w) := by
    intro s okv n r ok hs ho hn ht hr
    have hly := clayout op w
    have hi := Try.strings_IndexByte (toStr s) 114 w
    rw [hs, ho] at hly
    rw [hn] at hi
    unfold TkE
    have HT := hidden ht
    clear hn hs ho ht
    generalize toStr s = S at *
    rcases hr with ⟨rfl, rfl⟩ | ⟨rfl, h0, h1, h2⟩
    · go_enter Try.func5, Try.ntmps5
      go_wp2_with fail
      refine hly.mono ?_
      rintro e w1 ⟨rfl, rfl⟩
      go_wp2_with fail
      refine hi.mono ?_
      rintro e w1 ⟨rfl, rfl⟩
      go_wp2
      go_ret2
      rw [HT.out]
      exact ⟨rfl, rfl⟩
    · have H2 := hidden h2
      clear h2
      go_enter Try.func5, Try.ntmps5
      go_wp2_with fail
      refine hly.mono ?_
      rintro e w1 ⟨rfl, rfl⟩
      go_wp2_with fail
      refine hi.mono ?_
      rintro e w1 ⟨rfl, rfl⟩
      go_wp2
      go_ret2
      rw [HT.out]
      refine ⟨?_, rfl⟩
      show Ending.returned (.tuple #[.int .i64 (1 + n), .bool true]) = Ending.returned (.tuple #[.int .i64 (r : Int), .bool true])
      rw [H2.out]
  rcases op_cases op with rfl | rfl | rfl | rfl | rfl | rfl | rfl | rfl | rfl | rfl | rfl | rfl | rfl | rfl | rfl | h
  · exact key [110] true (-1) 0 false rfl rfl (by decide) rfl (.inl ⟨rfl, rfl⟩)
  · exact key [116] true (-1) 0 false rfl rfl (by decide) rfl (.inl ⟨rfl, rfl⟩)
  · exact key [97] true (-1) 0 false rfl rfl (by decide) rfl (.inl ⟨rfl, rfl⟩)
  · exact key [97] true (-1) 0 false rfl rfl (by decide) rfl (.inl ⟨rfl, rfl⟩)
  · exact key [103] true (-1) 0 false rfl rfl (by decide) rfl (.inl ⟨rfl, rfl⟩)
  · exact key [103] true (-1) 0 false rfl rfl (by decide) rfl (.inl ⟨rfl, rfl⟩)
  · exact key [97] true (-1) 0 false rfl rfl (by decide) rfl (.inl ⟨rfl, rfl⟩)
  · exact key [97, 98] true (-1) 0 false rfl rfl (by decide) rfl (.inl ⟨rfl, rfl⟩)
  · exact key [97, 114] true 1 2 true rfl rfl (by decide) rfl (.inr ⟨rfl, by decide, by decide, rfl⟩)
  · exact key [97, 114, 103] true 1 2 true rfl rfl (by decide) rfl (.inr ⟨rfl, by decide, by decide, rfl⟩)
  · exact key [114] true 0 1 true rfl rfl (by decide) rfl (.inr ⟨rfl, by decide, by decide, rfl⟩)
  · exact key [114] true 0 1 true rfl rfl (by decide) rfl (.inr ⟨rfl, by decide, by decide, rfl⟩)
  · exact key [97, 114] true 1 2 true rfl rfl (by decide) rfl (.inr ⟨rfl, by decide, by decide, rfl⟩)
  · exact key [97] true (-1) 0 false rfl rfl (by decide) rfl (.inl ⟨rfl, rfl⟩)
  · exact key [] true (-1) 0 false rfl rfl (by decide) rfl (.inl ⟨rfl, rfl⟩)
  · have h0 : ¬ (1 ≤ op ∧ op ≤ 15) := of_decide_eq_false h
    refine key [] false (-1) 0 false (lay_none h) h (by decide) ?_ (.inl ⟨rfl, rfl⟩)
    unfold takesR
    rw [if_neg (by omega), if_neg (by omega)]
    rfl
set_option maxHeartbeats 1000000 in
set_option maxRecDepth 1000000 in
theorem rtakes (op : Int) (w : World) : Calls Try.prog 6 #[.int .i64 op] w (TkE op w) := by
  by_cases h : op = 9 ∨ op = 10 ∨ op = 11 ∨ op = 12 ∨ op = 13
  · rcases h with rfl | rfl | rfl | rfl | rfl
    all_goals (go_enter Try.func6, Try.ntmps6; go_wp2; go_ret2; exact ⟨rfl, rfl⟩)
  · have HT : Hid (takesR op = none) := by
      unfold takesR Hid
      rw [if_neg (by omega), if_neg (by omega)]
    unfold TkE
    have h9 : op ≠ 9 := by omega
    have h10 : op ≠ 10 := by omega
    have h11 : op ≠ 11 := by omega
    have h12 : op ≠ 12 := by omega
    have h13 : op ≠ 13 := by omega
    clear h
    go_enter Try.func6, Try.ntmps6
    go_wp2
    go_ret2
    rw [HT.out]
    exact ⟨rfl, rfl⟩

set_option maxHeartbeats 1600000 in
set_option maxRecDepth 1000000 in
theorem sameI (F G : Nat → Prop) (v1 v2 : Value) (l : List Int) (w : World) (_hl : l.length ≤ 140737488355328) (h1 : IwR F w v1 l) (h2 : IwR G w v2 l) : Calls Try.prog 9 #[v1, v2] w (SameE w) := by
  obtain ⟨x1, y1, e1⟩ := h1.shape
  obtain ⟨x2, y2, e2⟩ := h2.shape
  subst e1
  subst e2
  go_enter Try.func9, Try.ntmps9
  go_wp2
  go_loopg [5] l.length (fun g i wr => ∃ k nq : Nat, g + k = l.length ∧ i = .int .i64 k ∧ wr = w.drewN nq)
  case atStart => exact ⟨0, 0, rfl, rfl, rfl⟩
  case round =>
    obtain ⟨k, nq, hgk, rfl, rfl⟩ := hrel
    by_cases hlt : k < l.length
    · obtain ⟨g1, o1, cap1, hv1, hc1, _, d1⟩ := h1.at k hlt
      obtain ⟨g2, o2, cap2, hv2, hc2, _, d2⟩ := h2.at k hlt
      simp only [Value.slice.injEq, true_and] at hv1 hv2
      obtain ⟨rfl, rfl⟩ := hv1
      obtain ⟨rfl, rfl⟩ := hv2
      generalize l[k] = x at d1 d2
      clear h1 h2
      have hk0 : (0 : Int) ≤ k := by omega
      have hkl : (k : Int) < l.length := by omega
      go_wp2
      go_quiet (fail)
      go_wp2
      go_roundg (l.length - (k + 1))
      case measure => omega
      case rel => exact ⟨k + 1, _, by omega, by go_num, rfl⟩
    · clear h1 h2
      go_wp2
      go_ret
      exact ⟨rfl, kept_drewN _ _⟩
/-- A whole number's cell. -/
def cInt : Cel Int := fun _ _ x c => c = [.int .i64 x]
theorem cInt_ok : CelOk 1 cInt where
  frame := fun _ h => h
  len := fun h => by rw [h]; rfl
  one := fun h u hu => by
    rw [h] at hu
    simp only [List.mem_singleton] at hu
    rw [hu]
    rfl
theorem infoInt1 : (Try.prog.info? 3).map (fun i => (i.zero.map (fun z => z.cells.size), i.size, i.bytes)) = some (some 1, 1, 8) := by kernel_rfl
theorem RowG.iwR {B : Nat} {w : World} {v : Value} {l : List Int} (h : RowG cInt 3 1 B w v l) : IwR (fun g => B ≤ g ∧ g < w.heap.size) w v l := by
  by_cases h0 : l.length = 0
  · obtain ⟨a, c, rfl⟩ := h.shape
    refine .inl ⟨a, c, by rw [h0], List.eq_nil_of_length_eq_zero h0⟩
  · obtain ⟨g, cap, _, hv, hc, hg, _⟩ := h.at cInt_ok 0 (by omega)
    refine .inr ⟨g, 0, cap, hv, hc, hg, fun j x hj => ?_⟩
    obtain ⟨hjl, rfl⟩ := List.getElem?_eq_some_iff.1 hj
    obtain ⟨g2, cap2, c, hv2, _, _, hc1, hcell⟩ := h.at cInt_ok j hjl
    rw [hv] at hv2
    simp only [Value.slice.injEq, Option.some.injEq, Addr.mk.injEq, and_true, true_and] at hv2
    obtain ⟨rfl, rfl⟩ := hv2
    have := hcell 0 (.int .i64 l[j]) (by rw [hc1]; rfl)
    rw [Nat.zero_add]
    simpa using this
/-- What Refs leaves. -/
def RefsE (l : List Ins) (w : World) (e : Ending) (w' : World) : Prop := ∃ v, e = .returned v ∧ IwR (fun g => w.heap.size ≤ g ∧ g < w'.heap.size) w' v (refsR l) ∧ Kept (fun _ => False) w w'
theorem refs_take (l : List Ins) (k : Nat) (hk : k < l.length) : refsR (l.take (k + 1)) = refsR (l.take k) ++ (match takesR l[k].op with | none => [] | some n => [l[k].pl + (n : Int)]) := by
  rw [List.take_succ_eq_append_getElem hk]
  unfold refsR
  rw [List.filterMap_append]
  congr 1
  cases h : takesR l[k].op with
  | none => simp [h]
  | some n => simp [h]
theorem refs_len (l : List Ins) : (refsR l).length ≤ l.length := List.length_filterMap_le _ _
set_option maxHeartbeats 4000000 in
set_option maxRecDepth 1000000 in
theorem crefs (F : Nat → Prop) (v : Value) (l : List Ins) (w : World) (hR : InsR F w v l) (hF : ∀ g, F g → g < w.heap.size) (hl : l.length ≤ 1000000) (hpl : ∀ i ∈ l, -1000000000000 ≤ i.pl ∧ i.pl ≤ 1000000000000) : Calls Try.prog 10 #[v] w (RefsE l w) := by
  obtain ⟨va, vc, rfl⟩ := hR.shape
  go_enter Try.func10, Try.ntmps10
  go_wp2
  go_loopg [3, 10] l.length (fun gk ov i wr => ∃ k : Nat, gk + k = l.length ∧ i = .int .i64 k ∧ RowG cInt 3 1 w.heap.size wr ov (refsR (l.take k)) ∧ Kept (fun _ => False) w wr)
  case atStart => exact ⟨0, rfl, rfl, RowG.nil _ _ _ _ _, Kept.refl _ _⟩
  case round =>
    obtain ⟨k, hgk, rfl, hO, hK⟩ := hrel
    have hzr := hK.size
    by_cases hk : k < l.length
    · have hRr := hR.kept hK (fun g hg => ⟨hF g hg, fun h => h⟩)
      obtain ⟨ga, o, cap, tv, hv, hcap, hT, q0, q1, q2, q3, q4, q5, q6⟩ := hRr.at k hk
      simp only [Value.slice.injEq, true_and] at hv
      obtain ⟨rfl, rfl⟩ := hv
      have hP := hpl l[k] (List.getElem_mem hk)
      have HT := hidden (refs_take l k hk)
      have hrl := refs_len (l.take k)
      rw [List.length_take] at hrl
      generalize l[k] = X at *
      obtain ⟨hbx, K4⟩ := box_new wr X tv
      have h1c := insC_one hT
      have hzz := zIns_heap wr
      have hO4 := hO.kept cInt_ok K4 (fun _ _ h => h)
      have hK4 := hK.trans K4 (fun _ _ h => h) (fun _ _ h => h)
      have hz4 := K4.size
      obtain ⟨c0, c1, c2, c3, c4, c5, c6⟩ := hbx.cells
      have htk := ctakes X.op ((wr.alloc (.cells #[.int .i64 0, .int .i64 0, .int .i64 0, .int .i64 0, .complex .f64 0 0, .string ⟨#[]⟩, .slice none 0 0] 34)).setRow wr.heap.size (insC X tv))
      unfold TkE at htk
      have HGK := hidden hgk
      clear hgk hRr
      go_wp2_with (refine wpList_store_row rfl 34 (.tmp 5) (.tmp 13) rfl wr.heap.size (insC X tv) rfl rfl 34 #[.int .i64 0, .int .i64 0, .int .i64 0, .int .i64 0, .complex .f64 0 0, .string ⟨#[]⟩, .slice none 0 0] hzz sizeIns rfl h1c ?_)
      clear hzz q0 q1 q2 q3 q4 q5 q6 hT hK
      generalize (wr.alloc (.cells #[.int .i64 0, .int .i64 0, .int .i64 0, .int .i64 0, .complex .f64 0 0, .string ⟨#[]⟩, .slice none 0 0] 34)).setRow wr.heap.size (insC X tv) = W4 at *
      refine htk.mono ?_
      rintro e0 w5 ⟨rfl, rfl⟩
      clear htk
      obtain ⟨oa, oc, rfl⟩ := hO.shape
      cases htt : takesR X.op with
      | none =>
        rw [htt] at HT
        simp only [Option.getD_none, Option.isSome_none]
        go_wp2
        go_roundg (l.length - (k + 1))
        case measure => have := HGK.out; omega
        case rel => exact ⟨k + 1, by omega, by go_num, by rw [HT.out]; simpa using hO4, hK4⟩
      | some n =>
        rw [htt] at HT
        have hn2 : n ≤ 2 := by
          unfold takesR at htt
          split at htt
          · simp at htt; omega
          · split at htt
            · simp at htt; omega
            · cases htt
        simp only [Option.getD_some, Option.isSome_some]
        have K6 : Kept (fun _ => False) w5 (w5.alloc (.cells #[.int .i64 (X.pl + (n : Int))] 3)) := (Kept.refl _ w5).alloc _
        have hO6 := hO4.kept cInt_ok K6 (fun _ _ h => h)
        have hHO := hidden (fun z (hz : (Value.slice oa (refsR (l.take k)).length oc).ownBlock = some z) => (hO.block hz).1)
        go_wp2_with (at_builtin; refine append_rowG cInt_ok rfl (.tmp 21) (.tmp 26) 32 rfl Try.underlying32 infoInt1 (by decide) _ (refsR (l.take k)) rfl hO6 (X.pl + (n : Int)) [.int .i64 (X.pl + (n : Int))] ⟨w5.heap.size, 0, none⟩ 1 rfl (cells_new w5 [.int .i64 (X.pl + (n : Int))] 3) rfl ?len ?byt ?hB ?next)
        case len => unfold maxLen; omega
        case byt => omega
        case hB =>
          have := K6.size
          omega
        case next =>
          intro g2 cap2 w6 hrow7 hg7
          have K7 : Kept (fun z => (Value.slice oa (refsR (l.take k)).length oc).ownBlock = some z) w5 w6 := (K6.mono (fun _ _ h => h.elim)).grown hg7 (fun k e _ => e)
          have hk7 := hK4.trans K7 (fun _ _ h => h) (fun x hx h => by have := hHO.out x h; omega)
          clear hO6 hg7 K7 K6 hO hO4 c0 c1 c2 c3 c4 c5 c6 hbx
          go_wp2
          go_roundg (l.length - (k + 1))
          case measure => have := HGK.out; omega
          case rel => exact ⟨k + 1, by omega, by go_num, by rw [HT.out]; exact hrow7, hk7⟩
    · have hk2 : l.length ≤ k := by omega
      obtain ⟨oa, oc, rfl⟩ := hO.shape
      rw [List.take_of_length_le hk2] at hO
      have HL : Hid (l.take k = l) := List.take_of_length_le hk2
      go_wp2
      go_ret
      rw [HL.out]
      exact ⟨_, rfl, hO.iwR, hK⟩
end Go.Proofs.Ytbhcmhbicbhgmaa.Wire
