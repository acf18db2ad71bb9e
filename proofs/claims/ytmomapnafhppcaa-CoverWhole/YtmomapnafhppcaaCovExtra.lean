/-
  Extra.
-/
import Derived.Deep.LoopGhost
import Derived.Test.YtmomapnafhppcaaCovMap
namespace Go.Proofs.Ytmomapnafhppcaa
open Go.RowKit Go.Maps

set_option maxHeartbeats 4000000 in
set_option maxRecDepth 1000000 in
theorem covExtra (cs xs : List (List UInt8)) (v u : Value) (w : World) (hv : CaR w v cs) (hu : StrRow w u xs) (hl1 : cs.length ≤ 8796093022208) (hl2 : xs.length ≤ 8796093022208) (ht : ∀ x ∈ xs, Tk x) (hc : ∀ x ∈ cs, Tk x) :
    Calls Try.prog 9 #[v, u] w fun e w' => ∃ v', e = .returned v' ∧ StrRow w' v' (extraR cs xs) ∧ Below w.heap.size w w' := by
  obtain ⟨va, vc, rfl⟩ := hv.shape
  obtain ⟨ua, uc, rfl⟩ := hu.shape
  have HV := hidden hv
  have HU := hidden hu
  have hM := hidden (MapC.new w)
  have hB0 : Below w.heap.size w (w.alloc (.map #[] 0)) := (Below.refl _ _).alloc (Nat.le_refl _) _
  have hmm := @run_makeMap Try.prog
  clear hv hu
  go_enter Try.func9, Try.ntmps9
  go_wp2
  go_loopg [14] cs.length (fun g i wr => ∃ k : Nat, g + k = cs.length ∧ i = .int .i64 (k : Int) ∧ Hid (MapC wr w.heap.size (cs.take k)) ∧ Below w.heap.size w wr)
  case atStart => exact ⟨0, by omega, rfl, by simpa using hM, hB0⟩
  case round =>
    obtain ⟨k, hg, rfl, hm, hW⟩ := hrel
    have hsz := hW.size
    by_cases hk : k < cs.length
    · obtain ⟨bk, o, c, e1, hbk, q0, q1⟩ := (HV.out.below hW).at k hk
      simp only [Value.slice.injEq, true_and] at e1
      obtain ⟨rfl, rfl⟩ := e1
      have hki : (k : Int) < (cs.length : Int) := by omega
      have hy := hc _ (List.getElem_mem hk)
      have hcn : (cs.take k).count cs[k] ≤ 8796093022208 := Nat.le_trans List.count_le_length (by rw [List.length_take]; omega)
      have hln : (cs.take k).length ≤ 8796093022208 := by rw [List.length_take]; omega
      have HT := hidden (List.take_succ_eq_append_getElem hk)
      have hM1 := hm.out.below (B := wr.heap.size) ((Below.refl _ wr).alloc (Nat.le_refl _) (.cells #[.string (str cs[k]), .slice none 0 0] 32)) hm.out.lt
      have hW1 := hW.alloc hsz (.cells #[.string (str cs[k]), .slice none 0 0] 32)
      have hsz1 := hW1.size
      clear HU HV hM hm hW
      generalize hks : cs.take k = ks at *
      generalize cs[k] = y at *
      clear hks
      go_wp2_with (first | (at_lookup; refine lookC rfl (.tmp 18) (.tmp 20) rfl w.heap.size ks rfl hM1 y rfl hy ?_) | (at_mapUpdate; refine moreC rfl (.tmp 18) (.tmp 20) (.tmp 22) rfl w.heap.size ks rfl hM1 hln y rfl rfl hy ?_; intro w3 hM3 hgr))
      have HM3 := hM3
      rw [← HT.out] at HM3
      replace HM3 := hidden HM3
      have hW3 := hW1.grown hgr hsz1 (fun j e => by cases e; exact Nat.le_refl _)
      clear hM3 hgr hM1 HT
      go_roundg (cs.length - (k + 1))
      case measure => omega
      case rel => exact ⟨k + 1, by omega, by go_num, HM3, hW3⟩
    · have hki : ¬ (k : Int) < (cs.length : Int) := by omega
      have hM1 := hm.out
      rw [List.take_of_length_le (by omega)] at hM1
      have HM := hidden hM1
      obtain ⟨w5, h5⟩ : ∃ w5, w5 = wr := ⟨_, rfl⟩
      subst h5
      have HU5 := hidden (HU.out.below hW)
      clear hm hM HU HV hM1
      go_wp2
      go_loopg [8, 26] xs.length (fun g v i wq => ∃ (j : Nat) (acc : List (List UInt8)), g + j = xs.length ∧ i = .int .i64 (j : Int) ∧ wq.ownsRow w5.heap.size 9 1 v acc.length (sc acc) ∧ acc.length ≤ j ∧ Below w5.heap.size w5 wq ∧ Hid (acc ++ (xs.drop j).filter (fun x => decide (endR x ∉ cs)) = extraR cs xs))
      case atStart => exact ⟨0, [], by simp, rfl, World.ownsRow_nil _ _ _ _, Nat.le_refl _, Below.refl _ _, rfl⟩
      case round =>
        obtain ⟨j, acc, hgj, rfl, hown, haj, hbr, hq⟩ := hrel
        have hBr : w5.heap.size ≤ wr.heap.size := hbr.size
        by_cases hj : j < xs.length
        · obtain ⟨bk, o, c, e1, qx⟩ := (HU5.out.below hbr).at j hj
          simp only [Value.slice.injEq, true_and] at e1
          obtain ⟨rfl, rfl⟩ := e1
          have hji : (j : Int) < (xs.length : Int) := by omega
          have hx := ht _ (List.getElem_mem hj)
          have HQ := hidden (filt_step _ xs acc j hj hq.out)
          have hM5 := HM.out.below hbr HM.out.lt
          have ho7 := hown
          have hb70 := hbr
          have hB7 := hb70.size
          have he := covEnding xs[j] wr hx
          have hxe : Tk (endR xs[j]) := Nat.le_trans (endR_len _) hx
          have hcz := cnt_zero cs (endR xs[j])
          clear hq HU5 HM hown hbr
          generalize endR xs[j] = y at *
          generalize xs[j] = x at *
          by_cases hz : ((cs.count y : Nat) : Int) = 0
          · rw [beq_iff_eq.2 hz] at hcz
            have HX := HQ.out
            rw [← hcz, if_pos rfl] at HX
            replace HX := hidden HX
            clear HQ hcz
            go_wp2_with fail
            refine he.mono ?_
            rintro e w2 ⟨rfl, rfl⟩
            clear he
            go_wp2_with (at_lookup; refine lookC rfl (.tmp 30) (.tmp 32) rfl w.heap.size cs rfl hM5 y rfl hxe ?_)
            clear hM5
            go_wp2_with fail
            refine (sCloneT x _ hx).mono ?_
            rintro e w9 ⟨rfl, hb9⟩
            have ho9 := owns_below ho7 hb9
            have hb90 : Below w5.heap.size w5 w9 := hb70.trans (hb9.mono hB7)
            have hB9 : w5.heap.size ≤ w9.heap.size := hb90.size
            skip
            clear ho7 hb70 hb9 hB7
            go_wp2_with (at_builtin; refine append_textN rfl (.tmp 35) (.tmp 38) rfl w5.heap.size _ acc rfl (ho9.alloc _) _ _ x rfl ?src ?len ?hB ?next)
            case src => first | exact cells_new _ _ _ | exact fun j u h => h
            case len => first | omega | (simp; omega)
            case hB => first | omega | (simp; omega)
            case next =>
              intro ad c' w' k1 k2
              have k3 := below_grown (ho9.alloc _) (by simp; omega) (hb90.alloc hB9 _) k2
              clear k2 ho9 hb90
              go_wp2
              go_roundg (xs.length - (j + 1))
              case measure => omega
              case rel => exact ⟨j + 1, acc ++ [x], by omega, by go_num, by simpa using k1, by simp; omega, k3, HX⟩
          · rw [beq_eq_false_iff_ne.2 hz] at hcz
            have HX := HQ.out
            rw [← hcz, if_neg (by simp)] at HX
            replace HX := hidden HX
            clear HQ hcz
            go_wp2_with fail
            refine he.mono ?_
            rintro e w2 ⟨rfl, rfl⟩
            clear he
            go_wp2_with (at_lookup; refine lookC rfl (.tmp 30) (.tmp 32) rfl w.heap.size cs rfl hM5 y rfl hxe ?_)
            clear hM5
            try go_wp2
            go_roundg (xs.length - (j + 1))
            case measure => omega
            case rel => exact ⟨j + 1, acc, by omega, by go_num, ho7, by omega, hb70, HX⟩
        · have hji : ¬ (j : Int) < (xs.length : Int) := by omega
          have HX : Hid (acc = extraR cs xs) := by
            have := hq.out
            rw [List.drop_of_length_le (by omega), List.filter_nil, List.append_nil] at this
            exact this
          have hbw := hW.trans (hbr.mono hsz)
          clear hq HU5 HM
          go_wp2
          go_ret
          exact ⟨_, rfl, by rw [← HX.out]; exact strRow_own hown, hbw⟩
end Go.Proofs.Ytmomapnafhppcaa
