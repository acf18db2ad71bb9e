/-
  CoverWhole: the walk.
-/
import Derived.Deep.RegionHeld3
import Derived.Deep.RegionWith
import Derived.Deep.CutRange
import Derived.Deep.DeepCutAuto
import Derived.Deep.AppendLies
import Derived.Test.YtmomapnafhppcaaCovWholeM
import Derived.Test.YtmomapnafhppcaaLawCoverTurned
namespace Go.Proofs.Ytmomapnafhppcaa
open Go.RowKit

theorem missN (cs xs : List (List UInt8)) (n : Nat) (hn : (missR cs xs).length = n) (v x : Value) (u : World) (hv : CaR u v cs) (hx : StrRow u x xs) (hl : cs.length ≤ 100) (hl' : xs.length ≤ 100) (h : ∀ x ∈ xs, Tk x) (h' : ∀ x ∈ cs, Tk x) : Calls Try.prog 8 #[v, x] u (LenE n u) := by
  subst hn
  refine (covMissing cs xs _ _ _ hv hx (by omega) (by omega) h h').mono ?_
  rintro e w' ⟨v', rfl, h1, h2⟩
  obtain ⟨va, vc, rfl⟩ := h1.shape
  exact ⟨va, vc, rfl, h2⟩
theorem tk4 {xs : List (List UInt8)} (h : ∀ x ∈ xs, x.length ≤ 4) : ∀ x ∈ xs, Tk x := tkAll (fun x hx => by have := h x hx; omega)
theorem src_own {w : World} {B e n cap g : Nat} {xs : List (List UInt8)} (hn : n = xs.length) (h0 : 0 < n) (h : w.ownsRow B e 1 (.slice (some ⟨g, 0, none⟩) n cap) xs.length (sc xs)) : SrcR w (.slice (some ⟨g, 0, none⟩) n cap) xs := by
  subst hn
  rcases strRow_own h with ⟨rfl, _⟩ | ⟨bk, o, c, e, h1, h2, h3⟩
  · simp at h0
  · exact .inr (.inr ⟨bk, o, c, e, h0, h1, h2, h3⟩)
set_option maxHeartbeats 8000000 in
set_option maxRecDepth 1000000 in
theorem whole_walk (n turn drop : Int) (dot : Bool) (w : World) (hn0 : -9223372036854775808 ≤ n) (hn1 : n ≤ 9223372036854775807) (ht0 : -9223372036854775808 ≤ turn) (ht1 : turn ≤ 9223372036854775807) (hd0 : -9223372036854775808 ≤ drop) (hd1 : drop ≤ 9223372036854775807) :
    Calls Try.prog 5 #[.int .i64 n, .int .i64 turn, .int .i64 drop, .bool dot] w (BoolW true w) := by
  obtain ⟨m, hm⟩ : ∃ m : Nat, n % 6 = (m : Int) := ⟨(n % 6).toNat, by omega⟩
  obtain ⟨t, ht⟩ : ∃ t : Nat, turn % 21 = (t : Int) := ⟨(turn % 21).toNat, by omega⟩
  have hm5 : m ≤ 5 := by omega
  have ht20 : t ≤ 20 := by omega
  have hw1 : ∀ u, Calls Try.prog 15 #[.int .i64 n, .int .i64 0, .int .i64 5] u (Pu (.int .i64 (m : Int)) u) := fun u => by
    have := withinQ n 5 hn0 hn1 (by omega) u
    rw [show ((5 : Nat) : Int) + 1 = 6 from rfl, hm] at this
    exact this
  have hw2 : ∀ u, Calls Try.prog 15 #[.int .i64 turn, .int .i64 0, .int .i64 20] u (Pu (.int .i64 (t : Int)) u) := fun u => by
    have := withinQ turn 20 ht0 ht1 (by omega) u
    rw [show ((20 : Nat) : Int) + 1 = 21 from rfl, ht] at this
    exact this
  obtain ⟨k, hk⟩ : ∃ k : Nat, drop % ((m : Int) + 1) = (k : Int) := ⟨(drop % ((m : Int) + 1)).toNat, (Int.toNat_of_nonneg (Int.emod_nonneg _ (by omega))).symm⟩
  have hkm : k ≤ m := by have := Int.emod_lt_of_pos drop (show 0 < (m : Int) + 1 by omega); omega
  have hw3 : ∀ u, Calls Try.prog 15 #[.int .i64 drop, .int .i64 0, .int .i64 (m : Int)] u (Pu (.int .i64 (k : Int)) u) := fun u => by
    have := withinQ drop m hd0 hd1 (by omega) u
    rw [hk] at this
    exact this
  have hm1 : 1 + (m : Int) - 1 = (m : Int) := by omega
  clear hm ht hk
  go_enter Try.func5, Try.ntmps5
  go_wp2_with fail
  refine (hw1 _).mono ?_
  rintro e w2 ⟨rfl, hu⟩
  obtain rfl := hu.symm
  clear hu hw1
  go_wp2_with fail
  refine (hw2 _).mono ?_
  rintro e w2 ⟨rfl, hu⟩
  obtain rfl := hu.symm
  clear hu hw2
  go_wp2_with fail
  go_loopg [9, 11] (m + 1) (fun g v i wr => ∃ (j : Nat), g + j = m + 1 ∧ i = .int .i64 (j : Int) ∧ wr.ownsRow w.heap.size 9 1 v (lN j).length (sc (lN j)) ∧ Below w.heap.size w wr)
  case atStart => exact ⟨0, by omega, rfl, World.ownsRow_nil _ _ _ _, Below.refl _ _⟩
  case round =>
    obtain ⟨j, hg, rfl, hown, hbr⟩ := hrel
    have hsz := hbr.size
    by_cases hj : j < m + 1
    · have hji : (j : Int) < 1 + (m : Int) := by omega
      have hcv := conv97 j (by omega)
      have hr1 : (str [UInt8.ofNat (97 + j)]).size ≤ 1 := Nat.le_refl 1
      have HE : Hid (sc [cN j] = [Value.string ((⟨#[67]⟩ : ByteArray) ++ str [UInt8.ofNat (97 + j)])]) := by rw [hid_iff, show (⟨#[67]⟩ : ByteArray) = str [67] from rfl, str_append]; rfl
      generalize str [UInt8.ofNat (97 + j)] = r at *
      have h1 : (⟨#[67]⟩ : ByteArray).size + r.size ≤ 9223372036854775807 := by (have : (⟨#[67]⟩ : ByteArray).size = 1 := rfl); omega
      have HL := hidden (lN_succ j)
      have hll := hidden (lN_len j)
      have hll2 : (lN j).length ≤ 6 := by rw [lN_len]; omega
      generalize hls : lN j = ls at *
      have HLS := hidden hls
      clear hls
      go_wp2_with (at_builtin; refine append_textN rfl (.tmp 28) (.tmp 34) rfl w.heap.size _ ls rfl (hown.alloc _) _ _ (cN j) rfl ?src ?len ?hB ?next)
      case src => rw [HE.out]; exact cells_new _ _ _
      case len => first | omega | (simp; omega)
      case hB => first | omega | (simp; omega)
      case next =>
        intro ad c' w' k1 k2
        have k3 := below_grown (hown.alloc _) (by simp; omega) (hbr.alloc hsz _) k2
        clear k2 hown hbr hcv h1 HE
        go_wp2
        go_roundg (m + 1 - (j + 1))
        case measure => omega
        case rel => exact ⟨j + 1, by omega, by go_num, by rw [HL.out]; simpa using k1, k3⟩
    · have hji : ¬ (j : Int) < 1 + (m : Int) := by omega
      obtain rfl : j = m + 1 := by omega
      obtain ⟨va, vc, hvs⟩ : ∃ g c, u9 = .slice (some ⟨g, 0, none⟩) (lN (m + 1)).length c := by
        rcases hown.2 with ⟨_, h⟩ | ⟨g, cap, cur, h, _⟩
        · rw [lN_len] at h; omega
        · exact ⟨g, cap, h⟩
      subst hvs
      have HL1 := hidden (strRow_own hown)
      have hlen := lN_len (m + 1)
      rw [hlen]
      rw [hlen] at HL1
      obtain ⟨w1, h1⟩ : ∃ w1, w1 = wr := ⟨_, rfl⟩
      subst h1
      clear hown
      have hm0 : ¬ (1 + (m : Int)) = 0 := by omega
      have hmp : (0 : Int) < 1 + (m : Int) := by omega
      go_wp2_with fail
      go_loopg [10, 12] (m + 1) (fun g v i wr => ∃ (j : Nat), g + j = m + 1 ∧ i = .int .i64 (j : Int) ∧ wr.ownsRow w1.heap.size 9 1 v (nN (m + 1) t dot j).length (sc (nN (m + 1) t dot j)) ∧ Below w1.heap.size w1 wr)
      case atStart => exact ⟨0, by omega, rfl, World.ownsRow_nil _ _ _ _, Below.refl _ _⟩
      case round =>
        obtain ⟨j, hgj, rfl, hown, hbj⟩ := hrel
        have hszj := hbj.size
        by_cases hj : j < m + 1
        · have hji2 : (j : Int) < 1 + (m : Int) := by omega
          obtain ⟨q, hq⟩ : ∃ q : Nat, q = (j + t) % (m + 1) := ⟨_, rfl⟩
          have hqm : q < m + 1 := by rw [hq]; exact Nat.mod_lt _ (by omega)
          have hmod : ((j : Int) + (t : Int)).tmod (1 + (m : Int)) = (q : Int) := by
            rw [Int.tmod_eq_emod_of_nonneg (by omega), hq, show (1 + (m : Int)) = ((m + 1 : Nat) : Int) by omega]
            norm_cast
          have hNS := nN_succ (m + 1) t dot j
          rw [← hq] at hNS
          have HNS := hidden hNS
          have hlq := lN_at (m + 1) q hqm
          have hcell : w1.cell? ⟨va, q, none⟩ = some (.string (str (cN q))) := by
            rcases HL1.out with ⟨h, _⟩ | ⟨bk, o, c, e, _, _, h3⟩
            · rw [h] at hlen; simp at hlen
            · simp only [Value.slice.injEq, Option.some.injEq, Addr.mk.injEq, and_true] at e
              obtain ⟨⟨rfl, rfl⟩, _⟩ := e
              have := h3 q _ hlq
              rwa [Nat.zero_add] at this
          have hva : va < w1.heap.size := World.block_lt_of_cell? w1 _ hcell
          have hcell2 : wr.cell? ⟨va, q, none⟩ = some (.string (str (cN q))) := (hbj.cell (p := ⟨va, q, none⟩) hva).trans hcell
          have hqi : (q : Int) < 1 + (m : Int) := by omega
          have hqi2 : (q : Int) < ((m + 1 : Nat) : Int) := by omega
          have hs2 : (str (cN q)).size ≤ 2 := Nat.le_refl 2
          have hnl : (nN (m + 1) t dot j).length ≤ 6 := by rw [nN_len]; omega
          clear hq hNS hlq hcell
          cases dot
          · have HS : Hid (sc [sN false (cN q)] = [Value.string (str (cN q))]) := rfl
            generalize hys : nN (m + 1) t false j = ys at *
            have HYS := hidden hys
            clear hys
            generalize str (cN q) = r at *
            go_wp2_with (at_builtin; refine append_textN rfl (.tmp 52) (.tmp 54) rfl w1.heap.size _ ys rfl (hown.alloc _) _ _ (sN false (cN q)) rfl ?src ?len ?hB ?next)
            case src => rw [HS.out]; exact cells_new _ _ _
            case len => first | omega | (simp; omega)
            case hB => first | omega | (simp; omega)
            case next =>
              intro ad c' w' k1 k2
              have k3 := below_grown (hown.alloc _) (by simp; omega) (hbj.alloc hszj _) k2
              clear k2 hown hbj
              go_wp2
              go_roundg (m + 1 - (j + 1))
              case measure => omega
              case rel => exact ⟨j + 1, by omega, by go_num, by rw [HNS.out]; simpa using k1, k3⟩
          · have HS : Hid (sc [sN true (cN q)] = [Value.string ((⟨#[109, 46]⟩ : ByteArray) ++ str (cN q))]) := by rw [hid_iff, show (⟨#[109, 46]⟩ : ByteArray) = str [109, 46] from rfl, str_append]; rfl
            generalize hys : nN (m + 1) t true j = ys at *
            have HYS := hidden hys
            clear hys
            generalize str (cN q) = r at *
            have h1 : (⟨#[109, 46]⟩ : ByteArray).size + r.size ≤ 9223372036854775807 := by (have : (⟨#[109, 46]⟩ : ByteArray).size = 2 := rfl); omega
            go_wp2_with (at_builtin; refine append_textN rfl (.tmp 52) (.tmp 54) rfl w1.heap.size _ ys rfl (hown.alloc _) _ _ (sN true (cN q)) rfl ?src ?len ?hB ?next)
            case src => rw [HS.out]; exact cells_new _ _ _
            case len => first | omega | (simp; omega)
            case hB => first | omega | (simp; omega)
            case next =>
              intro ad c' w' k1 k2
              have k3 := below_grown (hown.alloc _) (by simp; omega) (hbj.alloc hszj _) k2
              clear k2 hown hbj
              go_wp2
              go_roundg (m + 1 - (j + 1))
              case measure => omega
              case rel => exact ⟨j + 1, by omega, by go_num, by rw [HNS.out]; simpa using k1, k3⟩
        · have hji2 : ¬ (j : Int) < 1 + (m : Int) := by omega
          obtain rfl : j = m + 1 := by omega
          obtain ⟨ng, nc, hvs⟩ : ∃ g c, u10 = .slice (some ⟨g, 0, none⟩) (nN (m + 1) t dot (m + 1)).length c := by
            rcases hown.2 with ⟨_, h⟩ | ⟨g, cap, cur, h, _⟩
            · rw [nN_len] at h; omega
            · exact ⟨g, cap, h⟩
          subst hvs
          have hcap : m + 1 ≤ nc := by
            rcases hown.2 with ⟨h, _⟩ | ⟨g, cap, cur, h, _, _, h2, _⟩
            · cases h
            · simp only [Value.slice.injEq] at h
              rw [nN_len] at h2
              omega
          obtain ⟨f1, f2, f3, f4⟩ := wholeN_is (m + 1) t dot (by omega) (by omega) ht20
          obtain ⟨f5, f6⟩ := goneN_is (m + 1) t dot k (by omega) (by omega) ht20 (by omega)
          have hlk := nN_at (m + 1) t dot (m + 1) k (by omega)
          have hnlen := nN_len (m + 1) t dot (m + 1)
          have hny := tk4 (nN_small (m + 1) t dot (m + 1))
          have hnl := tk4 (lN_small (m + 1))
          unfold lessN at f5 f6
          rw [hnlen]
          have hsrc := src_own hnlen.symm (by omega) (by rw [hnlen] at hown ⊢; exact hown)
          obtain ⟨w2, h2⟩ : ∃ w2, w2 = wr := ⟨_, rfl⟩
          subst h2
          clear hown
          generalize nN (m + 1) t dot (m + 1) = ys at *
          have hca := covCases (lN (m + 1)) _ w2 (HL1.out.below hbj) hnl
          rw [f4] at hca
          have hll6 : (lN (m + 1)).length ≤ 6 := by rw [hlen]; omega
          have HL6 := hidden hlen
          generalize lN (m + 1) = ls at *
          have hyl : ys.length ≤ 6 := by omega
          have hgx : Tk (endR (sN dot (cN ((k + t) % (m + 1))))) := by
            refine Nat.le_trans (endR_len _) ?_
            cases dot <;> simp [sN, cN]
          have hgs : Tk (sN dot (cN ((k + t) % (m + 1)))) := by
            unfold Tk
            cases dot <;> simp [sN, cN]
          generalize sN dot (cN ((k + t) % (m + 1))) = gn at *
          have hq : w2.cell? ⟨ng, k, none⟩ = some (.string (str gn)) := by
            rcases hsrc with ⟨h, _⟩ | ⟨h, _⟩ | ⟨bk, o, c, e, _, _, _, h3⟩
            · rw [h] at hnlen; simp at hnlen
            · rw [h] at hnlen; simp at hnlen
            · simp only [Value.slice.injEq, Option.some.injEq, Addr.mk.injEq, and_true] at e
              obtain ⟨⟨rfl, rfl⟩, _⟩ := e
              have := h3 k _ hlk
              rwa [Nat.zero_add] at this
          have F1 : Hid ((missR ls ys).length = 0) := by rw [hid_iff, f1]; rfl
          have F2 : Hid ((extraR ls ys).length = 0) := by rw [hid_iff, f2]; rfl
          have F3 : Hid ((twiceR ys).length = 0) := by rw [hid_iff, f3]; rfl
          have F5 := hidden f5
          have F6 : Hid ((extraR ls (ys.take k ++ ys.drop (k + 1))).length = 0) := by rw [hid_iff, f6]; rfl
          have hkd : (ys.drop (k + 1)).length = m - k := by rw [List.length_drop]; omega
          have hkt : (ys.take k).length = k := by rw [List.length_take]; omega
          have hml : (ys.take k ++ ys.drop (k + 1)).length ≤ 6 := by rw [List.length_append, hkd, hkt]; omega
          have hmt : ∀ x ∈ ys.take k ++ ys.drop (k + 1), Tk x := fun x hx => by
            rcases List.mem_append.1 hx with h | h
            · exact hny x (List.mem_of_mem_take h)
            · exact hny x (List.mem_of_mem_drop h)
          have hs1 : ∀ u, Below w2.heap.size w2 u → SrcR u (.slice (some ⟨ng, 0, none⟩) k nc) (ys.take k) := fun u hu => by
            by_cases hz : k = 0
            · subst hz
              simpa using SrcR.none u ⟨ng, 0, none⟩ nc
            · exact (hsrc.below hu).cut (k := 0) (by omega) k (by omega) (by omega)
          have hs2 : ∀ u, Below w2.heap.size w2 u → k < m → SrcR u (.slice (some ⟨ng, k + 1, none⟩) (m - k) (nc - (k + 1))) (ys.drop (k + 1)) := fun u hu hlt => by
            have := (hsrc.below hu).cut (by omega) (k + 1) (m - k) (by omega) (by omega)
            rwa [List.take_of_length_le (by rw [List.length_drop]; omega), Nat.zero_add] at this
          have hd0' : ¬ k < m → ys.drop (k + 1) = [] := fun h => List.drop_eq_nil_of_le (by omega)
          have HNr := hidden hsrc.row
          have B2 := hbr.trans (hbj.mono hsz)
          clear HL1 hbj hbr f1 f2 f3 f4 f5 f6 hlk hsrc
          go_wp2_with fail
          refine hca.mono ?_
          rintro e w3 ⟨cv, rfl, HC, b3⟩
          have B3 := B2.trans (b3.mono B2.size)
          have HN3 := HNr.out.below b3
          clear hca
          go_wp2_with fail
          refine (missN ls ys 0 F1.out _ _ _ HC HN3 (by omega) (by omega) hny hnl).mono ?_
          rintro e w4 ⟨va4, vc4, rfl, b4⟩
          have b24 := b3.trans (b4.mono b3.size)
          have HC4 := HC.below b4
          have HN4 := HN3.below b4
          clear HC HN3 b3 b4 B3
          go_wp2_with fail
          refine (extraN ls ys 0 F2.out _ _ _ HC4 HN4 (by omega) (by omega) hny hnl).mono ?_
          rintro e w5 ⟨va5, vc5, rfl, b5⟩
          have b25 := b24.trans (b5.mono b24.size)
          have HC5 := HC4.below b5
          have HN5 := HN4.below b5
          clear HC4 HN4 b24 b5
          go_wp2_with fail
          refine (twiceN ys 0 F3.out _ _ HN5 (by omega) hny).mono ?_
          rintro e w6 ⟨va6, vc6, rfl, b6⟩
          have b26 := b25.trans (b6.mono b25.size)
          have HC6 := HC5.below b6
          clear HC5 HN5 b25 b6 F1 F2 F3
          have hq6 : w6.cell? ⟨ng, k, none⟩ = some (.string (str gn)) := (b26.cell (p := ⟨ng, k, none⟩) (World.block_lt_of_cell? w2 _ hq)).trans hq
          have hki : (k : Int) < ((m + 1 : Nat) : Int) := by omega
          have hki2 : (k : Int) ≤ (nc : Int) := by omega
          have hki3 : (k : Int) + 1 ≤ ((m + 1 : Nat) : Int) := by omega
          go_wp2_with fail
          refine (hw3 _).mono ?_
          rintro e w7 ⟨rfl, hu⟩
          obtain rfl := hu.symm
          clear hu hw3
          go_wp2_with fail
          refine (covLast gn _ hgs).mono ?_
          rintro e w7 ⟨rfl, hu⟩
          obtain rfl := hu.symm
          clear hu
          go_wp2_with fail
          have hsz6 := b26.size
          have ho0 : (w6.alloc (.cells #[] 9)).drew.ownsRow w6.heap.size 9 1 (.slice (some ⟨w6.heap.size, 0, none⟩) 0 0) 0 [] := World.ownsRow_made w6 #[] 0 (Nat.le_refl _) (by decide) rfl
          have hb0 : Below w2.heap.size w2 (w6.alloc (.cells #[] 9)).drew := (b26.alloc hsz6 _).drew
          have hb1 : Below w6.heap.size w6 (w6.alloc (.cells #[] 9)).drew := (newB _ _).drew
          have hwr : IntKind.i64.wrap ((k : Int) + 1) = (k : Int) + 1 := by rw [IntKind.wrap_i64]; omega
          have hp0 : (0 : Int) ≤ (k : Int) + 1 := by omega
          have hp1 : (k : Int) + 1 ≤ (m : Int) + 1 := by omega
          have hp2 : (k : Int) ≤ (m : Int) := by omega
          have hp3 : ((k : Int) + 1).toNat = k + 1 := by omega
          have hp4 : (k : Int) ≤ (k : Int) + 1 := by omega
          by_cases hlt : k < m
          · have hcm : ¬ nc = k + 1 := by omega
            go_region_law (first
              | (refine step_texts (by rfl) (.tmp 81) (.tmp 84) (by rfl) w6.heap.size _ [] (by rfl) ho0 (ys.take k) _ (by rfl) (hs1 _ hb0) (by rw [hkt]; simp; omega) (by simp) ?_; intro v4 w4 o4 g4; have b4 := below_grown ho0 (by simp) hb1 g4)
              | (refine step_texts (by rfl) (.tmp 85) (.tmp 89) (by rfl) w6.heap.size _ (ys.take k) (by rfl) o4 (ys.drop (k + 1)) _ (by rfl) (hs2 _ (b26.trans (b4.mono hsz6)) hlt) (by rw [hkd, hkt]; omega) b4.size ?_; intro v5 w5 o5 g5; have b5 := below_grown o4 b4.size b4 g5))
            all_goals (
              have HM : StrRow w5 v5 (ys.take k ++ ys.drop (k + 1)) := strRow_own o5
              have HC7 := HC6.below b5
              have B7 := (B2.trans (b26.mono B2.size)).trans (b5.mono (Nat.le_trans B2.size hsz6))
              clear HC6 b26 b5 b4 g4 g5 o4 o5 hb0 hb1 ho0 hs1 hs2 hq hq6 HNr
              generalize ys.take k ++ ys.drop (k + 1) = ms at *
              go_wp2_with fail
              refine (covMissing ls ms _ _ _ HC7 HM (by omega) (by omega) hmt hnl).mono ?_
              rintro e w8 ⟨r8, rfl, R8, b8⟩
              have B8 := B7.trans (b8.mono B7.size)
              have HC8 := HC7.below b8
              have HM8 := HM.below b8
              clear HC7 HM B7 b8
              go_wp2_with fail
              refine (sameYes _ _ _ [endR gn] _ (R8.below (newB _ _)) (rowNew w8 [endR gn] _ 1 rfl) (by rw [F5.out]; simp) F5.out).mono ?_
              rintro e w9 ⟨rfl, b9⟩
              have b90 := onB b9
              have B9 := B8.trans (b90.mono B8.size)
              have HC9 := HC8.below b90
              have HM9 := HM8.below b90
              clear HC8 HM8 R8 B8 b9 b90
              go_wp2_with fail
              refine (extraN ls ms 0 F6.out _ _ _ HC9 HM9 (by omega) (by omega) hmt hnl).mono ?_
              rintro e wA ⟨vaA, vcA, rfl, bA⟩
              have BA := B9.trans (bA.mono B9.size)
              clear HC9 HM9 B9 bA
              go_wp2_with fail
              refine (known10 _).mono ?_
              rintro e wB ⟨rfl, bB⟩
              have BB := BA.trans (bB.mono BA.size)
              clear BA bB
              go_wp2
              go_ret
              exact ⟨rfl, BB⟩)
          · obtain rfl : k = m := by omega
            have HD := hidden (hd0' hlt)
            clear hd0' hlt
            by_cases hcm : nc = k + 1
            · subst hcm
              go_region_law (first
                | (refine step_texts (by rfl) (.tmp 81) (.tmp 84) (by rfl) w6.heap.size _ [] (by rfl) ho0 (ys.take k) _ (by rfl) (hs1 _ hb0) (by rw [hkt]; simp; omega) (by simp) ?_; intro v4 w4 o4 g4; have b4 := below_grown ho0 (by simp) hb1 g4)
                | (refine step_texts (by rfl) (.tmp 85) (.tmp 89) (by rfl) w6.heap.size _ (ys.take k) (by rfl) o4 (ys.drop (k + 1)) _ (by rfl) (by rw [HD.out]; exact .inr (.inl ⟨rfl, _, _, rfl⟩)) (by rw [hkd, hkt]; omega) b4.size ?_; intro v5 w5 o5 g5; have b5 := below_grown o4 b4.size b4 g5))
              all_goals (
                have HM : StrRow w5 v5 (ys.take k ++ ys.drop (k + 1)) := strRow_own o5
                have HC7 := HC6.below b5
                have B7 := (B2.trans (b26.mono B2.size)).trans (b5.mono (Nat.le_trans B2.size hsz6))
                clear HC6 b26 b5 b4 g4 g5 o4 o5 hb0 hb1 ho0 hs1 hs2 hq hq6 HNr
                generalize ys.take k ++ ys.drop (k + 1) = ms at *
                go_wp2_with fail
                refine (covMissing ls ms _ _ _ HC7 HM (by omega) (by omega) hmt hnl).mono ?_
                rintro e w8 ⟨r8, rfl, R8, b8⟩
                have B8 := B7.trans (b8.mono B7.size)
                have HC8 := HC7.below b8
                have HM8 := HM.below b8
                clear HC7 HM B7 b8
                go_wp2_with fail
                refine (sameYes _ _ _ [endR gn] _ (R8.below (newB _ _)) (rowNew w8 [endR gn] _ 1 rfl) (by rw [F5.out]; simp) F5.out).mono ?_
                rintro e w9 ⟨rfl, b9⟩
                have b90 := onB b9
                have B9 := B8.trans (b90.mono B8.size)
                have HC9 := HC8.below b90
                have HM9 := HM8.below b90
                clear HC8 HM8 R8 B8 b9 b90
                go_wp2_with fail
                refine (extraN ls ms 0 F6.out _ _ _ HC9 HM9 (by omega) (by omega) hmt hnl).mono ?_
                rintro e wA ⟨vaA, vcA, rfl, bA⟩
                have BA := B9.trans (bA.mono B9.size)
                clear HC9 HM9 B9 bA
                go_wp2_with fail
                refine (known10 _).mono ?_
                rintro e wB ⟨rfl, bB⟩
                have BB := BA.trans (bB.mono BA.size)
                clear BA bB
                go_wp2
                go_ret
                exact ⟨rfl, BB⟩)
            · skip
              go_region_law (first
                | (refine step_texts (by rfl) (.tmp 81) (.tmp 84) (by rfl) w6.heap.size _ [] (by rfl) ho0 (ys.take k) _ (by rfl) (hs1 _ hb0) (by rw [hkt]; simp; omega) (by simp) ?_; intro v4 w4 o4 g4; have b4 := below_grown ho0 (by simp) hb1 g4)
                | (refine step_texts (by rfl) (.tmp 85) (.tmp 89) (by rfl) w6.heap.size _ (ys.take k) (by rfl) o4 (ys.drop (k + 1)) _ (by rfl) (by rw [HD.out]; exact .inr (.inl ⟨rfl, _, _, rfl⟩)) (by rw [hkd, hkt]; omega) b4.size ?_; intro v5 w5 o5 g5; have b5 := below_grown o4 b4.size b4 g5))
              all_goals (
                have HM : StrRow w5 v5 (ys.take k ++ ys.drop (k + 1)) := strRow_own o5
                have HC7 := HC6.below b5
                have B7 := (B2.trans (b26.mono B2.size)).trans (b5.mono (Nat.le_trans B2.size hsz6))
                clear HC6 b26 b5 b4 g4 g5 o4 o5 hb0 hb1 ho0 hs1 hs2 hq hq6 HNr
                generalize ys.take k ++ ys.drop (k + 1) = ms at *
                go_wp2_with fail
                refine (covMissing ls ms _ _ _ HC7 HM (by omega) (by omega) hmt hnl).mono ?_
                rintro e w8 ⟨r8, rfl, R8, b8⟩
                have B8 := B7.trans (b8.mono B7.size)
                have HC8 := HC7.below b8
                have HM8 := HM.below b8
                clear HC7 HM B7 b8
                go_wp2_with fail
                refine (sameYes _ _ _ [endR gn] _ (R8.below (newB _ _)) (rowNew w8 [endR gn] _ 1 rfl) (by rw [F5.out]; simp) F5.out).mono ?_
                rintro e w9 ⟨rfl, b9⟩
                have b90 := onB b9
                have B9 := B8.trans (b90.mono B8.size)
                have HC9 := HC8.below b90
                have HM9 := HM8.below b90
                clear HC8 HM8 R8 B8 b9 b90
                go_wp2_with fail
                refine (extraN ls ms 0 F6.out _ _ _ HC9 HM9 (by omega) (by omega) hmt hnl).mono ?_
                rintro e wA ⟨vaA, vcA, rfl, bA⟩
                have BA := B9.trans (bA.mono B9.size)
                clear HC9 HM9 B9 bA
                go_wp2_with fail
                refine (known10 _).mono ?_
                rintro e wB ⟨rfl, bB⟩
                have BB := BA.trans (bB.mono BA.size)
                clear BA bB
                go_wp2
                go_ret
                exact ⟨rfl, BB⟩)
end Go.Proofs.Ytmomapnafhppcaa
