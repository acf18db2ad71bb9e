/-
  CoverTells: the walk.
-/
import Derived.Deep.RegionHeld3
import Derived.Deep.RegionWith
import Derived.Deep.CutRange
import Derived.Deep.DeepCutAuto
import Derived.Deep.AppendLies
import Derived.Test.YtmomapnafhppcaaCovOpen
import Derived.Test.YtmomapnafhppcaaCovKnown
import Derived.Test.YtmomapnafhppcaaCovTwice
namespace Go.Proofs.Ytmomapnafhppcaa
open Go.RowKit

def endS (s : ByteArray) : ByteArray := str (endR s.data.toList)
theorem covLastS (s : ByteArray) (w : World) (hs : s.size ≤ 140737488355328) : Calls Try.prog 14 #[.string s] w fun e w' => e = .returned (.string (endS s)) ∧ w' = w := by
  have := covLast s.data.toList w (by unfold Tk; rw [size_len]; exact hs)
  rw [str_toList] at this
  exact this
theorem endS_eq (x y : List UInt8) : ((endS (str x)).toList == (endS (str y)).toList) = decide (endR x = endR y) := strEq _ _
theorem numF_neg (y : List UInt8) : ∀ (cs : List (List UInt8)) (k : Nat), (numF k cs y < 0 ↔ y ∉ cs)
  | [], _ => by simp [numF]
  | c :: r, k => by
    rw [numF]
    by_cases h : c = y
    · subst h
      simp
    · have h' : ¬ y = c := fun e => h e.symm
      rw [if_neg h, numF_neg y r (k + 1)]
      simp [h']
theorem append_textL {w : World} {ops : Array Oper} {rest : List Oper} {o : Oper} {a : Act} {Q : Exit → Act → World → Prop} (hgd : o.guard = none) (s x : Operand)
    (ho : o.op = .call { callee := .builtin .append, args := #[s, x], argTypes := #[24, 24] })
    (B : Nat) (v : Value) (acc : List (List UInt8)) (hs : a.eval s = v) (hown : w.ownsRow B 9 1 v acc.length (sc acc))
    (ad : Addr) (c : Nat) (n : List UInt8) (hx : a.eval x = .slice (some ad) 1 c) (hnews : ∀ j u, (sc [n])[j]? = some u → w.cell? (ad.add j) = some u)
    (hlen : acc.length + 1 ≤ 1000000) (hB : B ≤ w.heap.size)
    (h : ∀ g c' w', w'.ownsRow B 9 1 (.slice (some ⟨g, 0, none⟩) (acc.length + 1) c') (acc ++ [n]).length (sc (acc ++ [n])) → w.grownBy w' v.ownBlock → (v.ownBlock = some g ∨ g = w.heap.size) → wpList Try.prog ops Q rest (a.put o.dst (.slice (some ⟨g, 0, none⟩) (acc.length + 1) c')) w') :
    wpList Try.prog ops Q (o :: rest) a w := by
  obtain ⟨i, z, hi, hz, h1, h2, h3⟩ := info_z infoS
  refine wpList_append_lies w hgd s x 24 ho B 9 i z 1 16 Try.underlying24 hi hz h1 h2 h3 (by decide) v acc.length (sc acc) hs hown ad 1 c (sc [n]) hx rfl hnews (sc_one _) (by decide) (by unfold maxLen; omega) (by omega) hB w.heap.size rfl ?_
  intro g cap w' k1 k2 k3 _
  rw [← sc_append] at k1
  exact h g cap w' (by simpa using k1) k2 k3
/-- Two rows of the call's own that lie apart. -/
def Ap2 (v v' : Value) : Prop := v.ownBlock = none ∨ v.ownBlock ≠ v'.ownBlock
theorem ap2_more {w : World} {B n' : Nat} {v v' : Value} {xs' : List Value} {g m c : Nat} (hv' : w.ownsRow B 9 1 v' n' xs') (h : Ap2 v v') (hg : v.ownBlock = some g ∨ w.heap.size ≤ g) : Ap2 (.slice (some ⟨g, 0, none⟩) m c) v' ∧ Ap2 v' (.slice (some ⟨g, 0, none⟩) m c) := by
  have key : some g ≠ v'.ownBlock := by
    intro e
    have h2 := hv'.lt g e.symm
    rcases hg with hg | hg
    · rcases h with h | h
      · rw [h] at hg; cases hg
      · exact h (hg.trans e)
    · omega
  exact ⟨.inr key, by rcases hb : v'.ownBlock with _ | b; · exact .inl hb
                      · exact .inr (fun e => key e.symm)⟩
theorem ap2_kept {w w' : World} {B n : Nat} {v v' : Value} {xs : List Value} (hv : w.ownsRow B 9 1 v n xs) (h : Ap2 v v') (hg : w.grownBy w' v'.ownBlock) : w'.ownsRow B 9 1 v n xs := hv.kept hg h
theorem mem_take_step (ys : List (List UInt8)) (c : List UInt8) (k : Nat) (h : k < ys.length) : (decide (c ∈ (ys.take k).map endR) || decide (endR ys[k] = c)) = decide (c ∈ (ys.take (k + 1)).map endR) := by
  rw [List.take_succ_eq_append_getElem h, List.map_append]
  rw [Bool.eq_iff_iff]
  simp only [Bool.or_eq_true, decide_eq_true_eq, List.map_cons, List.map_nil, List.mem_append, List.mem_cons, List.not_mem_nil, or_false]
  exact or_congr Iff.rfl ⟨fun e => e.symm, fun e => e.symm⟩
theorem take_get {xs : List (List UInt8)} {n j : Nat} {x : List UInt8} (hj : (xs.take n)[j]? = some x) : xs[j]? = some x := by
  rw [List.getElem?_take] at hj
  split at hj
  · exact hj
  · cases hj
theorem filt_stepT (p : List UInt8 → Bool) (ys acc : List (List UInt8)) (k : Nat) (h : k < ys.length) (hq : acc ++ (ys.drop k).filter p = ys.filter p) : (if p ys[k] then acc ++ [ys[k]] else acc) ++ (ys.drop (k + 1)).filter p = ys.filter p := by
  rw [List.drop_eq_getElem_cons h, List.filter_cons] at hq
  rw [← hq]
  split <;> simp
theorem drewK (w : World) (a b : Nat) : (w.drewN a).drewN b = w.drewN (a + b) := by simp [World.drewN, Nat.add_assoc]
set_option maxHeartbeats 8000000 in
set_option maxRecDepth 1000000 in
theorem tells_walk (lv nv : Value) (ls xs : List (List UInt8)) (w : World) (hl : StrRow w lv ls) (hx : SrcR w nv xs) (htl : ∀ x ∈ ls, Tk x) (htx : ∀ x ∈ xs, Tk x) (hxl : xs.length ≤ 8796093022208) :
    Calls Try.prog 4 #[lv, nv] w (BoolW true w) := by
  have hca := covCases ls lv w hl htl
  have htc := casesR_tk htl
  have hcl := casesR_len ls
  have hce : ∀ c ∈ casesR ls, endR c = c := by
    intro c hc
    obtain ⟨y, _, rfl⟩ := List.mem_map.1 hc
    exact endR_end y
  generalize casesR ls = cs at *
  have hty : ∀ x ∈ xs.take 12, Tk x := fun x h => htx x (List.mem_of_mem_take h)
  have hyl : (xs.take 12).length ≤ 12 := by rw [List.length_take]; omega
  have hrow := hx.row
  have hX := hidden hx
  obtain ⟨na, nc, rfl⟩ := hrow.shape
  clear hl hx
  go_enter Try.func4, Try.ntmps4
  go_upto_if 19 with fail
  go_cut [1] (fun v wx => ∃ na nc, v = .slice na (xs.take 12).length nc ∧ Hid (StrRow w v (xs.take 12)) ∧ wx = w)
  case first =>
    by_cases h12 : 12 < xs.length
    · have h12i : (12 : Int) < (xs.length : Int) := by omega
      rcases hX.out with ⟨rfl, hv⟩ | ⟨rfl, ad, c, hv⟩ | ⟨bk, o, c, hv, hp, hb, hc, hx⟩
      · simp at h12
      · simp at h12
      · simp only [Value.slice.injEq, true_and] at hv
        obtain ⟨rfl, rfl⟩ := hv
        have hcI : (12 : Int) ≤ (nc : Int) := by omega
        have H12 := hidden (show (xs.take 12).length = 12 by rw [List.length_take]; omega)
        have HR : Hid (StrRow w (.slice (some ⟨bk, o, none⟩) 12 nc) (xs.take 12)) := .inr ⟨bk, o, nc, by rw [H12.out], hb, by rw [H12.out]; omega, fun j x hj => hx j x (take_get hj)⟩
        clear hX hx hrow
        go_wp2
        go_meet
        exact ⟨_, _, by rw [H12.out], HR, rfl⟩
    · have h12i : ¬ (12 : Int) < (xs.length : Int) := by omega
      have H12 := hidden (show xs.take 12 = xs by rw [List.take_of_length_le (by omega)])
      have HR := hidden hrow
      clear hX hrow
      go_wp2
      go_meet
      exact ⟨_, _, by rw [H12.out], by rw [H12.out]; exact HR, rfl⟩
  case rest =>
    obtain ⟨na, nc, rfl, HN0, hwx⟩ := hcut
    subst hwx
    clear hX hrow htx hxl
    generalize xs.take 12 = ys at *
    rename World => w
    go_wp2_with fail
    refine hca.mono ?_
    rintro e w1 ⟨cv, rfl, HC0, B1⟩
    have hsz1 := B1.size
    obtain ⟨ca, cc, rfl⟩ := HC0.shape
    have HC1 := hidden HC0
    have HN1 := hidden (HN0.out.below B1)
    clear hca HC0 HN0
    go_wp2_with fail
    go_loopg [6, 9] cs.length (fun g v i wr => ∃ (k : Nat) (acc : List (List UInt8)), g + k = cs.length ∧ i = .int .i64 (k : Int) ∧ wr.ownsRow w1.heap.size 9 1 v acc.length (sc acc) ∧ acc.length ≤ k ∧ Below w1.heap.size w1 wr ∧ Hid (acc ++ (cs.drop k).filter (fun c => decide (c ∉ ys.map endR)) = missR cs ys))
    case atStart => exact ⟨0, [], by simp, rfl, World.ownsRow_nil _ _ _ _, Nat.le_refl _, Below.refl _ _, rfl⟩
    case round =>
      obtain ⟨k, acc, hg, rfl, hown, hak, hbr, hq⟩ := hrel
      obtain ⟨w2, h2⟩ : ∃ w2, w2 = wr := ⟨_, rfl⟩
      subst h2
      have hsz2 := hbr.size
      by_cases hk : k < cs.length
      · obtain ⟨bk, o, c, e1, hbk, q0, q1⟩ := (HC1.out.below hbr).at k hk
        simp only [Value.slice.injEq, true_and] at e1
        obtain ⟨rfl, rfl⟩ := e1
        have hki : (k : Int) < (cs.length : Int) := by omega
        have hy := htc _ (List.getElem_mem hk)
        have hye := hce _ (List.getElem_mem hk)
        have HQ := hidden (filt_stepT _ cs acc k hk hq.out)
        have HN2 := hidden (HN1.out.below hbr)
        clear hq
        generalize cs[k] = y at *
        have hys : (str y).size ≤ 140737488355328 := hy
        have HYE := hidden hye
        clear hye
        go_wp2_with fail
        go_loopg [10, 11] ys.length (fun g f i wr => ∃ (j n : Nat), g + j = ys.length ∧ i = .int .i64 (j : Int) ∧ f = .bool (decide (y ∈ (ys.take j).map endR)) ∧ wr = w2.drewN n)
        case atStart => exact ⟨0, 0, by simp, rfl, by simp, rfl⟩
        case round =>
          obtain ⟨j, n, hgj, rfl, rfl, hwn⟩ := hrel
          subst hwn
          by_cases hj : j < ys.length
          · obtain ⟨bn, on, cn, e2, qn⟩ := HN2.out.at j hj
            simp only [Value.slice.injEq, true_and] at e2
            obtain ⟨rfl, rfl⟩ := e2
            have hji : (j : Int) < (ys.length : Int) := by omega
            have hx := hty _ (List.getElem_mem hj)
            have HS := hidden (mem_take_step ys y j hj)
            generalize ys[j] = x at *
            have hxs : (str x).size ≤ 140737488355328 := hx
            have hEq := endS_eq x y
            rw [HYE.out] at hEq
            have qn' : (w2.drewN n).cell? ⟨bn, on + j, none⟩ = some (.string (str x)) := qn
            have q0' : (w2.drewN n).cell? ⟨bk, o + k * 2, none⟩ = some (.string (str y)) := q0
            clear HN2 HQ
            have HFin : Hid (∀ r : Bool, r = decide (y ∈ (ys.take (j + 1)).map endR) → True) := fun _ _ => trivial
            cases hf : decide (y ∈ (ys.take j).map endR)
            · have HS2 := HS.out
              rw [hf, Bool.false_or] at HS2
              replace HS2 := hidden HS2
              clear HS hf
              generalize decide (endR x = y) = r at *
              go_wp2_with fail
              go_quiet ((go_at_call 14; first | exact quiet_pure (covLastS _ _ (by assumption)) | exact quiet_pure0 (covLastS _ _ (by assumption))))
              go_wp2
              go_roundg (ys.length - (j + 1))
              case measure => omega
              case rel => exact ⟨j + 1, _, by omega, by go_num, by rw [← HS2.out], by first | rfl | exact drewK _ _ _⟩
            · have HS2 := HS.out
              rw [hf, Bool.true_or] at HS2
              replace HS2 := hidden HS2
              clear HS hf
              go_wp2_with fail
              go_quiet (fail)
              go_wp2
              go_roundg (ys.length - (j + 1))
              case measure => omega
              case rel => exact ⟨j + 1, _, by omega, by go_num, by rw [← HS2.out], by first | rfl | exact drewK _ _ _⟩
          · have hji : ¬ (j : Int) < (ys.length : Int) := by omega
            have HF : Hid (decide (y ∈ (ys.take j).map endR) = decide (y ∈ ys.map endR)) := by rw [hid_iff, List.take_of_length_le (by omega)]
            have hb : (decide (y ∈ ys.map endR)) = false ∨ (decide (y ∈ ys.map endR)) = true := by cases decide (y ∈ ys.map endR) <;> simp
            rw [HF.out]
            have hown3 : (w2.drewN n).ownsRow w1.heap.size 9 1 u6 acc.length (sc acc) := hown
            have hbr3 : Below w1.heap.size w1 (w2.drewN n) := cov_drewN hbr n
            have hsz3 : w1.heap.size ≤ (w2.drewN n).heap.size := hsz2
            have q0' : (w2.drewN n).cell? ⟨bk, o + k * 2, none⟩ = some (.string (str y)) := q0
            have q1' : (w2.drewN n).cell? ⟨bk, o + k * 2 + 1, none⟩ = some (.slice none 0 0) := q1
            clear HN2 HF hown hbr hsz2 q0 q1
            generalize w2.drewN n = w3 at *
            rcases hb with hb | hb
            · have HX := HQ.out
              have hp : decide (y ∉ ys.map endR) = true := by simpa using hb
              rw [hp, if_pos rfl] at HX
              replace HX := hidden HX
              rw [hb]
              clear HQ hp hb
              go_wp2_with (at_builtin; refine append_textN rfl (.tmp 53) (.tmp 59) rfl w1.heap.size _ acc rfl (hown3.alloc _) _ _ y rfl ?src ?len ?hB ?next)
              case src => first | exact cells_new _ _ _ | exact fun j u h => h
              case len => first | omega | (simp; omega)
              case hB => first | omega | (simp; omega)
              case next =>
                intro ad c' w' k1 k2
                have k3 := below_grown (hown3.alloc _) (by simp; omega) (hbr3.alloc hsz3 _) k2
                clear k2 hown3 hbr3
                go_wp2
                go_roundg (cs.length - (k + 1))
                case measure => omega
                case rel => exact ⟨k + 1, acc ++ [y], by omega, by go_num, by simpa using k1, by simp; omega, k3, HX⟩
            · have HX := HQ.out
              have hp : decide (y ∉ ys.map endR) = false := by simpa using hb
              rw [hp, if_neg (by simp)] at HX
              replace HX := hidden HX
              rw [hb]
              clear HQ hp hb
              go_wp2
              go_roundg (cs.length - (k + 1))
              case measure => omega
              case rel => exact ⟨k + 1, acc, by omega, by go_num, hown3, by omega, hbr3, HX⟩
      · have hki : ¬ (k : Int) < (cs.length : Int) := by omega
        have HX : Hid (acc = missR cs ys) := by
          have := hq.out
          rw [List.drop_of_length_le (by omega), List.filter_nil, List.append_nil] at this
          exact this
        have hmr := strRow_own hown
        rw [HX.out] at hmr
        obtain ⟨ma, mc, hmv⟩ := hmr.shape
        subst hmv
        have HM2 := hidden hmr
        have HC2 := hidden (HC1.out.below hbr)
        have HN2 := hidden (HN1.out.below hbr)
        have B2 := B1.trans (hbr.mono hsz1)
        have hml : (missR cs ys).length ≤ 8796093022208 := Nat.le_trans (List.length_filter_le _ _) (by omega)
        clear hq HX hown hmr hbr HC1 HN1 B1 hsz1 hsz2 hak
        go_wp2_with fail
        go_loopg [7, 8, 12] ys.length (fun g v7 v8 i wr => ∃ (k : Nat) (ex tw : List (List UInt8)) (ea ta : Option Addr) (ec tc : Nat), g + k = ys.length ∧ i = .int .i64 (k : Int) ∧ v7 = .slice ea ex.length ec ∧ v8 = .slice ta tw.length tc ∧ wr.ownsRow w2.heap.size 9 1 v7 ex.length (sc ex) ∧ wr.ownsRow w2.heap.size 9 1 v8 tw.length (sc tw) ∧ Ap2 v7 v8 ∧ Ap2 v8 v7 ∧ ex.length ≤ k ∧ tw.length ≤ k ∧ Below w2.heap.size w2 wr ∧ Hid (ex ++ (ys.drop k).filter (fun x => decide (endR x ∉ cs)) = extraR cs ys) ∧ Hid (tw ++ twF ((ys.take k).map endR) (ys.drop k) = twiceR ys))
        case atStart => exact ⟨0, [], [], none, none, 0, 0, by simp, rfl, rfl, rfl, World.ownsRow_nil _ _ _ _, World.ownsRow_nil _ _ _ _, .inl rfl, .inl rfl, Nat.le_refl _, Nat.le_refl _, Below.refl _ _, rfl, rfl⟩
        case round =>
          obtain ⟨k, ex, tw, ea, ta, ec, tc, hg, rfl, rfl, rfl, ho7, ho8, ha7, ha8, hl7, hl8, hbr, hqe, hqt⟩ := hrel
          obtain ⟨w3, h3⟩ : ∃ w3, w3 = wr := ⟨_, rfl⟩
          subst h3
          have hsz3 := hbr.size
          by_cases hk : k < ys.length
          · obtain ⟨bn, on, cn, e2, qn⟩ := (HN2.out.below hbr).at k hk
            simp only [Value.slice.injEq, true_and] at e2
            obtain ⟨rfl, rfl⟩ := e2
            have hki : (k : Int) < (ys.length : Int) := by omega
            have hx := hty _ (List.getElem_mem hk)
            have HE := hidden (filt_stepT _ ys ex k hk hqe.out)
            have HT := hidden (twF_step ys tw k hk hqt.out)
            have HC3 := hidden (HC2.out.below hbr)
            have HN3 := hidden (HN2.out.below hbr)
            clear hqe hqt
            obtain ⟨x, hx0⟩ : ∃ x, ys[k] = x := ⟨_, rfl⟩
            have HX0 := hidden hx0
            rw [hx0] at qn hx HE HT
            clear hx0
            have hxs : (str x).size ≤ 140737488355328 := hx
            go_wp2_with fail
            go_loopg [13, 14] cs.length (fun g n i wr => ∃ (j m : Nat), g = j ∧ j ≤ cs.length ∧ i = .int .i64 ((j : Int) - 1) ∧ n = .int .i64 (numF j (cs.drop j) (endR x)) ∧ wr = w3.drewN m)
            case atStart => exact ⟨cs.length, 0, rfl, Nat.le_refl _, by first | rfl | simp, by rw [List.drop_length]; rfl, rfl⟩
            case round =>
              obtain ⟨j, m, hgj, hjl, rfl, rfl, hwm⟩ := hrel
              subst hwm
              rcases j with _ | j
              · have h0 : ¬ (0 : Int) ≤ ((0 : Nat) : Int) - 1 := by omega
                have qn' : (w3.drewN m).cell? ⟨bn, on + k, none⟩ = some (.string (str x)) := qn
                have hnum : Calls Try.prog 11 #[.slice ca cs.length cc, .string (str x)] (w3.drewN m) fun e w' => e = .returned (.int .i64 (numF 0 cs (endR x))) ∧ Below w3.heap.size w3 w' := (covNumber cs x _ (w3.drewN m) HC3.out (by omega) hx).mono fun e w' h => ⟨h.1, (cov_drewN (Below.refl _ w3) m).trans h.2⟩
                have hng := hidden (numF_neg (endR x) cs 0)
                rw [List.drop_zero]
                generalize numF 0 cs (endR x) = nn at *
                clear HC3
                go_wp2_with fail
                refine hnum.mono ?_
                rintro e w4 ⟨rfl, b4⟩
                have ho74 := owns_below ho7 b4
                have ho84 := owns_below ho8 b4
                have B4 : Below w2.heap.size w2 w4 := hbr.trans (b4.mono hsz3)
                have hsz4 := B4.size
                have qn4 : w4.cell? ⟨bn, on + k, none⟩ = some (.string (str x)) := (b4.cell (p := ⟨bn, on + k, none⟩) (World.block_lt_of_cell? w3 _ qn)).trans qn
                have hnn : (nn != nn) = false := by simp
                clear hnum ho7 ho8 b4 hbr qn qn' HN3 hsz3
                go_upto_if 96 with fail
                go_cut [7] from 61 to 130 (fun v wx => ∃ (ex' : List (List UInt8)) (ea' : Option Addr) (ec' : Nat), v = .slice ea' ex'.length ec' ∧ wx.ownsRow w2.heap.size 9 1 v ex'.length (sc ex') ∧ wx.ownsRow w2.heap.size 9 1 (.slice ta tw.length tc) tw.length (sc tw) ∧ Ap2 v (.slice ta tw.length tc) ∧ Ap2 (.slice ta tw.length tc) v ∧ ex'.length ≤ k + 1 ∧ Below w2.heap.size w2 wx ∧ Hid (ex' ++ (ys.drop (k + 1)).filter (fun x => decide (endR x ∉ cs)) = extraR cs ys))
                case first =>
                  by_cases hneg : nn < 0
                  · have HX := HE.out
                    rw [decide_eq_true (hng.out.1 hneg), if_pos rfl] at HX
                    replace HX := hidden HX
                    clear HE HT hng hnn
                    go_wp2_with (at_builtin; refine append_textL rfl (.tmp 97) (.tmp 102) rfl w2.heap.size _ ex rfl (ho74.alloc _) _ _ x rfl ?src ?len ?hB ?next)
                    case src => first | exact cells_new _ _ _ | exact fun j u h => h
                    case len => first | omega | (simp; omega)
                    case hB => first | omega | (simp; omega)
                    case next =>
                      intro g c' w' k1 k2 k3
                      have k4 := below_grown (ho74.alloc _) (by simp; omega) (B4.alloc hsz4 _) k2
                      obtain ⟨a1, a2⟩ := ap2_more (m := ex.length + 1) (c := c') (ho84.alloc (.cells #[.string (str x)] 9)) ha7 (k3.imp_right (fun e => by rw [e]; simp))
                      have k5 := ap2_kept (ho84.alloc _) ha8 k2
                      clear k2 k3 ho74 ho84 ha7 ha8 B4
                      try go_wp2
                      go_meet
                      exact ⟨ex ++ [x], some ⟨g, 0, none⟩, c', by simp, by simpa using k1, k5, by simpa using a1, by simpa using a2, by simp; omega, k4, HX⟩
                  · have HX := HE.out
                    have hnm : endR x ∈ cs := Classical.not_not.1 (fun h => hneg (hng.out.2 h))
                    rw [decide_eq_false (fun h => h hnm), if_neg (by simp)] at HX
                    replace HX := hidden HX
                    clear HE HT hng hnn hnm
                    go_wp2
                    go_meet
                    exact ⟨ex, ea, ec, rfl, ho74, ho84, ha7, ha8, by omega, B4, HX⟩
                case rest =>
                  obtain ⟨ex', ea', ec', rfl, o7, o8, a7, a8, l7, B5, HE5⟩ := hcut
                  rename World => w5
                  have hsz5 := B5.size
                  have HN5 := hidden (HN2.out.below B5)
                  obtain ⟨bn', on', cn', e5, q5⟩ := HN5.out.at k hk
                  simp only [Value.slice.injEq, Option.some.injEq, Addr.mk.injEq, and_true, true_and] at e5
                  obtain ⟨⟨rfl, rfl⟩, rfl⟩ := e5
                  rw [HX0.out] at q5
                  clear HE hng hnn ho74 ho84 ha7 ha8 B4 hsz4 qn4
                  go_wp2_with fail
                  go_loopg [15, 16] k (fun g f i wr => ∃ (j m : Nat), g + j = k ∧ i = .int .i64 (j : Int) ∧ f = .bool (decide (endR x ∈ (ys.take j).map endR)) ∧ wr = w5.drewN m)
                  case atStart => exact ⟨0, 0, by simp, rfl, by simp, rfl⟩
                  case round =>
                    obtain ⟨j, m, hgj, rfl, rfl, hwm⟩ := hrel
                    subst hwm
                    by_cases hj : j < k
                    · have hjy : j < ys.length := by omega
                      obtain ⟨bz, oz, cz, e6, qj⟩ := HN5.out.at j hjy
                      simp only [Value.slice.injEq, Option.some.injEq, Addr.mk.injEq, and_true, true_and] at e6
                      obtain ⟨⟨rfl, rfl⟩, rfl⟩ := e6
                      have hji : (j : Int) < (k : Int) := by omega
                      have hjyi : (j : Int) < (ys.length : Int) := by omega
                      have hz := hty _ (List.getElem_mem hjy)
                      have HS := hidden (mem_take_step ys (endR x) j hjy)
                      generalize ys[j] = z at *
                      have hzs : (str z).size ≤ 140737488355328 := hz
                      have hEq := endS_eq z x
                      have qj' : (w5.drewN m).cell? ⟨bn, on + j, none⟩ = some (.string (str z)) := qj
                      have q5' : (w5.drewN m).cell? ⟨bn, on + k, none⟩ = some (.string (str x)) := q5
                      clear HN5 HT HE5
                      cases hf : decide (endR x ∈ (ys.take j).map endR)
                      · have HS2 := HS.out
                        rw [hf, Bool.false_or] at HS2
                        replace HS2 := hidden HS2
                        clear HS hf
                        generalize decide (endR z = endR x) = r at *
                        go_wp2_with fail
                        go_quiet ((go_at_call 14; first | exact quiet_pure (covLastS _ _ (by assumption)) | exact quiet_pure0 (covLastS _ _ (by assumption))))
                        go_wp2
                        go_roundg (k - (j + 1))
                        case measure => omega
                        case rel => exact ⟨j + 1, _, by omega, by go_num, by rw [← HS2.out], by first | rfl | exact drewK _ _ _⟩
                      · have HS2 := HS.out
                        rw [hf, Bool.true_or] at HS2
                        replace HS2 := hidden HS2
                        clear HS hf
                        go_wp2_with fail
                        go_quiet (fail)
                        go_wp2
                        go_roundg (k - (j + 1))
                        case measure => omega
                        case rel => exact ⟨j + 1, _, by omega, by go_num, by rw [← HS2.out], by first | rfl | exact drewK _ _ _⟩
                    · have hji : ¬ (j : Int) < (k : Int) := by omega
                      have hjk : j = k := by omega
                      have HF : Hid (decide (endR x ∈ (ys.take j).map endR) = decide (endR x ∈ (ys.take k).map endR)) := by rw [hid_iff, hjk]
                      rw [HF.out]
                      clear HF hjk
                      have o75 : (w5.drewN m).ownsRow w2.heap.size 9 1 (.slice ea' ex'.length ec') ex'.length (sc ex') := o7
                      have o85 : (w5.drewN m).ownsRow w2.heap.size 9 1 (.slice ta tw.length tc) tw.length (sc tw) := o8
                      have q6 : (w5.drewN m).cell? ⟨bn, on + k, none⟩ = some (.string (str x)) := q5
                      have B6 : Below w2.heap.size w2 (w5.drewN m) := cov_drewN B5 m
                      have hsz6 : w2.heap.size ≤ (w5.drewN m).heap.size := hsz5
                      clear o7 o8 q5 B5 hsz5 HN5
                      generalize w5.drewN m = w6 at *
                      by_cases hm : endR x ∈ (ys.take k).map endR
                      · have HX := HT.out
                        rw [if_pos hm] at HX
                        replace HX := hidden HX
                        rw [decide_eq_true hm]
                        clear HT hm
                        go_wp2_with (at_builtin; refine append_textL rfl (.tmp 124) (.tmp 129) rfl w2.heap.size _ tw rfl (o85.alloc _) _ _ x rfl ?src ?len ?hB ?next)
                        case src => first | exact cells_new _ _ _ | exact fun j u h => h
                        case len => first | omega | (simp; omega)
                        case hB => first | omega | (simp; omega)
                        case next =>
                          intro g c' w' k1 k2 k3
                          have k4 := below_grown (o85.alloc _) (by simp; omega) (B6.alloc hsz6 _) k2
                          obtain ⟨b1, b2⟩ := ap2_more (m := tw.length + 1) (c := c') (o75.alloc (.cells #[.string (str x)] 9)) a8 (k3.imp_right (fun e => by rw [e]; simp))
                          have k5 := ap2_kept (o75.alloc _) a7 k2
                          clear k2 k3 o75 o85 a7 a8 B6
                          go_wp2
                          go_roundg (ys.length - (k + 1))
                          case measure => omega
                          case rel => exact ⟨k + 1, ex', tw ++ [x], ea', some ⟨g, 0, none⟩, ec', c', by omega, by go_num, rfl, by simp, k5, by simpa using k1, by simpa using b2, by simpa using b1, l7, by simp; omega, k4, HE5, HX⟩
                      · have HX := HT.out
                        rw [if_neg hm] at HX
                        replace HX := hidden HX
                        rw [decide_eq_false hm]
                        clear HT hm
                        go_wp2
                        go_roundg (ys.length - (k + 1))
                        case measure => omega
                        case rel => exact ⟨k + 1, ex', tw, ea', ta, ec', tc, by omega, by go_num, rfl, rfl, o75, o85, a7, a8, l7, by omega, B6, HE5, HX⟩
              · have hj : j < cs.length := by omega
                have e1 : ((j + 1 : Nat) : Int) - 1 = (j : Int) := by omega
                rw [e1]
                obtain ⟨bk, o, c, e3, hbk, q0, q1⟩ := HC3.out.at j hj
                simp only [Value.slice.injEq, true_and] at e3
                obtain ⟨rfl, rfl⟩ := e3
                have hji : (j : Int) < (cs.length : Int) := by omega
                have hy := htc _ (List.getElem_mem hj)
                have hye := hidden (hce _ (List.getElem_mem hj))
                have HS := hidden (numF_step (endR x) cs j hj)
                generalize cs[j] = y at *
                have hys : (str y).size ≤ 140737488355328 := hy
                have hEq := endS_eq y x
                rw [hye.out] at hEq
                have qn' : (w3.drewN m).cell? ⟨bn, on + k, none⟩ = some (.string (str x)) := qn
                have q0' : (w3.drewN m).cell? ⟨bk, o + j * 2, none⟩ = some (.string (str y)) := q0
                clear HC3 HN3 HE HT
                by_cases hd : y = endR x
                · rw [decide_eq_true hd] at hEq
                  have HS2 := HS.out
                  rw [if_pos hd] at HS2
                  replace HS2 := hidden HS2
                  clear HS hd hye
                  generalize numF (j + 1) (cs.drop (j + 1)) (endR x) = n1 at *
                  go_wp2_with fail
                  go_quiet ((go_at_call 14; first | exact quiet_pure (covLastS _ _ (by assumption)) | exact quiet_pure0 (covLastS _ _ (by assumption))))
                  go_wp2
                  go_roundg j
                  case measure => omega
                  case rel => exact ⟨j, _, rfl, by omega, by first | rfl | go_num, by rw [HS2.out], by first | rfl | exact drewK _ _ _⟩
                · rw [decide_eq_false hd] at hEq
                  have HS2 := HS.out
                  rw [if_neg hd] at HS2
                  replace HS2 := hidden HS2
                  clear HS hd hye
                  generalize numF (j + 1) (cs.drop (j + 1)) (endR x) = n1 at *
                  go_wp2_with fail
                  go_quiet ((go_at_call 14; first | exact quiet_pure (covLastS _ _ (by assumption)) | exact quiet_pure0 (covLastS _ _ (by assumption))))
                  go_wp2
                  go_roundg j
                  case measure => omega
                  case rel => exact ⟨j, _, rfl, by omega, by first | rfl | go_num, by rw [HS2.out], by first | rfl | exact drewK _ _ _⟩
          · have hki : ¬ (k : Int) < (ys.length : Int) := by omega
            have HXe : Hid (ex = extraR cs ys) := by
              have := hqe.out
              rw [List.drop_of_length_le (by omega), List.filter_nil, List.append_nil] at this
              exact this
            have HXt : Hid (tw = twiceR ys) := by
              have := hqt.out
              rw [List.drop_of_length_le (by omega), twF, List.append_nil] at this
              exact this
            have HR7 := hidden (strRow_own ho7)
            have HR8 := hidden (strRow_own ho8)
            have HC3 := HC2.out.below hbr
            have HN3 := HN2.out.below hbr
            have HM3 := hidden (HM2.out.below hbr)
            have B3 := B2.trans (hbr.mono B2.size)
            clear hqe hqt ho7 ho8 ha7 ha8 HC2 HN2 HM2 hbr
            go_wp2_with fail
            refine (covMissing cs ys _ _ _ HC3 HN3 (by omega) (by omega) hty htc).mono ?_
            rintro e w4 ⟨r4, rfl, R4, b4⟩
            have B4 := B3.trans (b4.mono B3.size)
            have HC4 := HC3.below b4
            have HN4 := HN3.below b4
            have HM4 := HM3.out.below b4
            have HR74 := hidden (HR7.out.below b4)
            have HR84 := hidden (HR8.out.below b4)
            clear HC3 HN3 HM3 b4 B3 HR7 HR8
            go_wp2_with fail
            refine (sameYes _ _ _ _ _ R4 HM4 hml rfl).mono ?_
            rintro e w5 ⟨rfl, b5⟩
            have B5 := B4.trans (b5.mono B4.size)
            have HC5 := HC4.below b5
            have HN5 := HN4.below b5
            have HR75 := hidden (HR74.out.below b5)
            have HR85 := hidden (HR84.out.below b5)
            clear HC4 HN4 HM4 R4 b5 B4 HR74 HR84
            go_wp2_with fail
            refine (covExtra cs ys _ _ _ HC5 HN5 (by omega) (by omega) hty htc).mono ?_
            rintro e w6 ⟨r6, rfl, R6, b6⟩
            have B6 := B5.trans (b6.mono B5.size)
            have HN6 := HN5.below b6
            have HR76 := HR75.out.below b6
            have HR86 := hidden (HR85.out.below b6)
            have hel : (extraR cs ys).length ≤ 8796093022208 := Nat.le_trans (List.length_filter_le _ _) (by omega)
            clear HC5 HN5 b6 B5 HR75 HR85
            go_wp2_with fail
            refine (sameYes _ _ _ _ _ R6 HR76 hel HXe.out.symm).mono ?_
            rintro e w7 ⟨rfl, b7⟩
            have B7 := B6.trans (b7.mono B6.size)
            have HN7 := HN6.below b7
            have HR87 := hidden (HR86.out.below b7)
            clear HN6 R6 b7 B6 HR76 HR86 hel HXe
            go_wp2_with fail
            refine (covTwice ys _ _ HN7 (by omega) hty).mono ?_
            rintro e w8 ⟨r8, rfl, R8, b8⟩
            have B8 := B7.trans (b8.mono B7.size)
            have HR88 := HR87.out.below b8
            have hwl : (twiceR ys).length ≤ 8796093022208 := by rw [← HXt.out]; omega
            clear HN7 b8 B7 HR87
            go_wp2_with fail
            refine (sameYes _ _ _ _ _ R8 HR88 hwl HXt.out.symm).mono ?_
            rintro e w9 ⟨rfl, b9⟩
            have B9 := B8.trans (b9.mono B8.size)
            clear R8 HR88 b9 B8 hwl HXt
            go_wp2_with fail
            refine (known10 _).mono ?_
            rintro e wA ⟨rfl, bA⟩
            have BA := B9.trans (bA.mono B9.size)
            clear bA B9
            go_wp2
            go_ret
            exact ⟨rfl, BA⟩
end Go.Proofs.Ytmomapnafhppcaa
