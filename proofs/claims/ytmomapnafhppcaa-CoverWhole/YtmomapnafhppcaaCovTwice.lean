/-
  Twice.
-/
import Derived.Deep.LoopGhost
import Derived.Test.YtmomapnafhppcaaCovMap
namespace Go.Proofs.Ytmomapnafhppcaa
open Go.RowKit Go.Maps

theorem twF_step (xs : List (List UInt8)) (acc : List (List UInt8)) (k : Nat) (h : k < xs.length) (hq : acc ++ twF ((xs.take k).map endR) (xs.drop k) = twiceR xs) :
    (if endR xs[k] ∈ (xs.take k).map endR then acc ++ [xs[k]] else acc) ++ twF ((xs.take (k + 1)).map endR) (xs.drop (k + 1)) = twiceR xs := by
  rw [List.drop_eq_getElem_cons h, twF, take_map endR xs k h] at hq
  rw [← hq]
  split <;> simp
set_option maxHeartbeats 4000000 in
set_option maxRecDepth 1000000 in
theorem covTwice (xs : List (List UInt8)) (u : Value) (w : World) (hu : StrRow w u xs) (hl2 : xs.length ≤ 8796093022208) (ht : ∀ x ∈ xs, Tk x) :
    Calls Try.prog 12 #[u] w fun e w' => ∃ v', e = .returned v' ∧ StrRow w' v' (twiceR xs) ∧ Below w.heap.size w w' := by
  obtain ⟨ua, uc, rfl⟩ := hu.shape
  have HU := hidden hu
  have hM := hidden (MapC.new w)
  have hB0 : Below w.heap.size w (w.alloc (.map #[] 0)) := (Below.refl _ _).alloc (Nat.le_refl _) _
  have hmm := @run_makeMap Try.prog
  clear hu
  go_enter Try.func12, Try.ntmps12
  go_wp2
  go_loopg [4, 11] xs.length (fun g v i wr => ∃ (k : Nat) (acc : List (List UInt8)), g + k = xs.length ∧ i = .int .i64 (k : Int) ∧ Hid (MapC wr w.heap.size ((xs.take k).map endR)) ∧ Below w.heap.size w wr ∧ wr.ownsRow (w.heap.size + 1) 9 1 v acc.length (sc acc) ∧ acc.length ≤ k ∧ Hid (acc ++ twF ((xs.take k).map endR) (xs.drop k) = twiceR xs))
  case atStart => exact ⟨0, [], by omega, rfl, by simpa using hM, hB0, World.ownsRow_nil _ _ _ _, Nat.le_refl _, rfl⟩
  case round =>
    obtain ⟨k, acc, hg, rfl, hm, hW, hown, hak, hq⟩ := hrel
    have hsz := hW.size
    have hlt := hm.out.lt
    by_cases hk : k < xs.length
    · obtain ⟨bk, o, c, e1, qx⟩ := (HU.out.below hW).at k hk
      simp only [Value.slice.injEq, true_and] at e1
      obtain ⟨rfl, rfl⟩ := e1
      have hki : (k : Int) < (xs.length : Int) := by omega
      have hx := ht _ (List.getElem_mem hk)
      have he := covEnding xs[k] wr hx
      have hxe : Tk (endR xs[k]) := Nat.le_trans (endR_len _) hx
      have hcn : ((xs.take k).map endR).count (endR xs[k]) ≤ 8796093022208 := Nat.le_trans List.count_le_length (by rw [List.length_map, List.length_take]; omega)
      have hln : ((xs.take k).map endR).length ≤ 8796093022208 := by rw [List.length_map, List.length_take]; omega
      have HT := hidden (take_map endR xs k hk)
      have HQ := hidden (twF_step xs acc k hk hq.out)
      have hM1 := hm.out
      clear HU hM hm hq
      have hcm := @List.count_pos_iff _ _ _ (endR xs[k]) ((xs.take k).map endR)
      by_cases hz : endR xs[k] ∈ (xs.take k).map endR
      · have HX := HQ.out
        rw [if_pos hz] at HX
        replace HX := hidden HX
        have hpos : (0 : Int) < ((((xs.take k).map endR).count (endR xs[k]) : Nat) : Int) := by have := hcm.2 hz; omega
        clear HQ hcm
        generalize hks : (xs.take k).map endR = ks at *
        generalize hyx : endR xs[k] = y at *
        generalize xs[k] = x at *
        clear hks
        go_wp2_with fail
        refine he.mono ?_
        rintro e w2 ⟨rfl, rfl⟩
        clear he hyx
        go_wp2_with (at_lookup; refine lookC rfl (.tmp 17) (.tmp 18) rfl w.heap.size ks rfl hM1 y rfl hxe ?_)
        refine (sCloneT x _ hx).mono ?_
        rintro e w9 ⟨rfl, hb9⟩
        have ho9 := owns_below hown hb9
        have hb90 : Below w.heap.size w w9 := hW.trans (hb9.mono hsz)
        have hM9 := hM1.below hb9 hlt
        have hB9 : w.heap.size + 1 ≤ w9.heap.size := by have := hb9.size; omega
        clear hown hM1 hb9 hW
        go_wp2_with (at_builtin; refine append_textN rfl (.tmp 21) (.tmp 24) rfl (w.heap.size + 1) _ acc rfl (ho9.alloc _) _ _ x rfl ?src ?len ?hB ?next)
        case src => first | exact cells_new _ _ _ | exact fun j u h => h
        case len => first | omega | (simp; omega)
        case hB => first | omega | (simp; omega)
        case next =>
          intro ad c' w' k1 k2
          have k3 := below_grown (w0 := w9) (ho9.alloc _) (by simp; omega) ((Below.refl _ w9).alloc hB9 _) k2
          have hM10 := hM9.below k3 (by omega)
          have hb10 : Below w.heap.size w w' := hb90.trans (k3.mono (by omega))
          have hs10 := hb10.size
          have k1' := k1
          clear k2 ho9 hM9 k3 hb90 k1
          go_wp2_with (first | (at_lookup; refine lookC rfl (.tmp 26) (.tmp 27) rfl w.heap.size ks rfl hM10 y rfl hxe ?_) | (at_mapUpdate; refine moreC rfl (.tmp 26) (.tmp 27) (.tmp 29) rfl w.heap.size ks rfl hM10 hln y rfl rfl hxe ?_; intro w3 hM3 hgr))
          have HM3 := hM3
          rw [HT.out] at HM3
          replace HM3 := hidden HM3
          have hW3 := hb10.grown hgr hs10 (fun j e => by cases e; exact Nat.le_refl _)
          have ho3 := k1'.kept hgr (.inr (by intro e; have := (k1'.lt _ e).1; omega))
          clear hM3 hgr hM10 HT k1'
          go_roundg (xs.length - (k + 1))
          case measure => omega
          case rel => exact ⟨k + 1, acc ++ [x], by omega, by go_num, HM3, hW3, by simpa using ho3, by simp; omega, HX⟩
      · have HX := HQ.out
        rw [if_neg hz] at HX
        replace HX := hidden HX
        have hpos : ¬ (0 : Int) < ((((xs.take k).map endR).count (endR xs[k]) : Nat) : Int) := by
          intro h
          exact hz (hcm.1 (by omega))
        clear HQ hcm
        generalize hks : (xs.take k).map endR = ks at *
        generalize hyx : endR xs[k] = y at *
        generalize xs[k] = x at *
        clear hks
        go_wp2_with fail
        refine he.mono ?_
        rintro e w2 ⟨rfl, rfl⟩
        clear he hyx
        go_wp2_with (first | (at_lookup; refine lookC rfl (.tmp 17) (.tmp 18) rfl w.heap.size ks rfl hM1 y rfl hxe ?_) | (at_lookup; refine lookC rfl (.tmp 26) (.tmp 27) rfl w.heap.size ks rfl hM1 y rfl hxe ?_) | (at_mapUpdate; refine moreC rfl (.tmp 26) (.tmp 27) (.tmp 29) rfl w.heap.size ks rfl hM1 hln y rfl rfl hxe ?_; intro w3 hM3 hgr))
        have HM3 := hM3
        rw [HT.out] at HM3
        replace HM3 := hidden HM3
        have hW3 := hW.grown hgr hsz (fun j e => by cases e; exact Nat.le_refl _)
        have ho3 := hown.kept hgr (.inr (by intro e; have := (hown.lt _ e).1; omega))
        clear hM3 hgr hM1 HT
        go_roundg (xs.length - (k + 1))
        case measure => omega
        case rel => exact ⟨k + 1, acc, by omega, by go_num, HM3, hW3, ho3, by omega, HX⟩
    · have hki : ¬ (k : Int) < (xs.length : Int) := by omega
      have HX : Hid (acc = twiceR xs) := by
        have := hq.out
        rw [List.drop_of_length_le (by omega), twF, List.append_nil] at this
        exact this
      clear hq hm hM HU
      go_wp2
      go_ret
      exact ⟨_, rfl, by rw [← HX.out]; exact strRow_own hown, hW⟩
end Go.Proofs.Ytmomapnafhppcaa
