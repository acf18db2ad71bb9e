/-
  The statements' Same at texts.
-/
import Derived.Deep.LoopGhost
import Derived.Test.YtibgmflamnonoaaGreatLexLabels
import Derived.Test.YtibgmflamnonoaaGreatTypesCmp
import Derived.Test.YtibgmflamnonoaaGreatTypesParts
namespace Go.Proofs.YtibgmflamnonoaaGreat
open Go.RowKit

theorem take_next {xs ys : List (List UInt8)} {k : Nat} (hx : k < xs.length) (hy : k < ys.length) (h : xs.take k = ys.take k) (he : xs[k] = ys[k]) : xs.take (k + 1) = ys.take (k + 1) := by
  rw [List.take_succ_eq_append_getElem hx, List.take_succ_eq_append_getElem hy, h, he]
theorem StrRow.at {w : World} {v : Value} {xs : List (List UInt8)} (h : StrRow w v xs) (i : Nat) (hi : i < xs.length) : ∃ bk o c, v = .slice (some ⟨bk, o, none⟩) xs.length c ∧ w.cell? ⟨bk, o + i, none⟩ = some (.string (str xs[i])) := by
  rcases h with ⟨rfl, _⟩ | ⟨bk, o, c, rfl, _, _, h3⟩
  · simp at hi
  · exact ⟨bk, o, c, rfl, h3 i _ (List.getElem?_eq_getElem hi)⟩

set_option maxHeartbeats 2000000 in
set_option maxRecDepth 1000000 in
theorem sameS (v v' : Value) (xs ys : List (List UInt8)) (w : World) (h : StrRow w v xs) (h' : StrRow w v' ys) (_hl : xs.length ≤ 1000000) (_hl' : ys.length ≤ 1000000) : Calls Tryz.prog 11 #[v, v'] w (BoolE (decide (xs = ys)) w) := by
  obtain ⟨va, vc, hv⟩ := h.shape
  obtain ⟨ua, uc, hu⟩ := h'.shape
  by_cases hn : xs.length = ys.length
  · have hn' : ((xs.length : Int) != (ys.length : Int)) = false := by simp; omega
    have h1 := hidden h
    have h2 := hidden h'
    have H1 : Hid (∃ va vc, v = .slice va xs.length vc) := ⟨va, vc, hv⟩
    clear h h'
    subst hv hu
    go_enter Tryz.func11, Tryz.ntmps11
    go_wp2
    go_loopg [5] xs.length (fun g i wr => ∃ (k n : Nat), g + k = xs.length ∧ i = .int .i64 (k : Int) ∧ Hid (xs.take k = ys.take k) ∧ wr = w.drewN n)
    case atStart => exact ⟨0, 0, rfl, rfl, rfl, rfl⟩
    case round =>
      obtain ⟨k, n, hg, rfl, ht, rfl⟩ := hrel
      by_cases hk : k < xs.length
      · have hky : k < ys.length := by omega
        obtain ⟨b1, o1, c1, e1, q1⟩ := h1.out.at k hk
        obtain ⟨b2, o2, c2, e2, q2⟩ := h2.out.at k hky
        simp only [Value.slice.injEq, true_and] at e1 e2
        obtain ⟨rfl, rfl⟩ := e1
        obtain ⟨rfl, rfl⟩ := e2
        have hki : (k : Int) < (xs.length : Int) := by omega
        have hkj : (k : Int) < (ys.length : Int) := by omega
        by_cases he : xs[k] = ys[k]
        · have HT : Hid (xs.take (k + 1) = ys.take (k + 1)) := take_next hk hky ht.out he
          rw [← he] at q2
          generalize xs[k] = x at *
          clear he ht hn
          go_wp2
          go_region
          go_wp2
          go_roundg (xs.length - (k + 1))
          case measure => omega
          case rel => exact ⟨k + 1, n + 1, by omega, by go_num, HT, rfl⟩
        · have HE : Hid (decide (xs = ys) = false) := decide_eq_false (fun e => he (by subst e; rfl))
          have hne : ((str xs[k]).toList == (str ys[k]).toList) = false := by
            rw [beq_eq_false_iff_ne, Lib.toList_data, Lib.toList_data, str_data, str_data]
            exact he
          have hne' : ((str xs[k]).toList != (str ys[k]).toList) = true := by simp only [bne, hne]; rfl
          clear he ht hn
          generalize xs[k] = x at *
          generalize ys[k] = y at *
          go_wp2
          go_region
          go_wp2
          go_ret
          exact ⟨by rw [HE.out]; rfl, n + 1, rfl⟩
      · have HE : Hid (decide (xs = ys) = true) := by
          refine decide_eq_true ?_
          have := ht.out
          rwa [List.take_of_length_le (by omega), List.take_of_length_le (by omega)] at this
        have hki : ¬ (k : Int) < (xs.length : Int) := by omega
        clear ht hn
        go_wp2
        go_ret
        exact ⟨by rw [HE.out]; rfl, n, rfl⟩
  · have hn' : ((xs.length : Int) != (ys.length : Int)) = true := by simp; omega
    have HE : Hid (decide (xs = ys) = false) := decide_eq_false (fun e => hn (by rw [e]))
    clear hn h h'
    subst hv hu
    go_enter Tryz.func11, Tryz.ntmps11
    go_wp2
    go_ret
    exact ⟨by rw [HE.out]; rfl, 0, rfl⟩
end Go.Proofs.YtibgmflamnonoaaGreat
