/-
  CoverTurned: the walk.
-/
import Derived.Deep.RegionHeld3
import Derived.Deep.RegionWith
import Derived.Deep.CutRange
import Derived.Deep.DeepCutAuto
import Derived.Test.YtmomapnafhppcaaCovTurnM
import Derived.Test.YtmomapnafhppcaaCovOpen
import Derived.Test.YtmomapnafhppcaaCovKnown
import Derived.Test.YtmomapnafhppcaaWithinQ
namespace Go.Proofs.Ytmomapnafhppcaa
open Go.RowKit

def LenE (n : Nat) (u : World) (e : Ending) (w' : World) : Prop := ∃ va vc, e = .returned (.slice va n vc) ∧ Below u.heap.size u w'
theorem extraN (cs xs : List (List UInt8)) (n : Nat) (hn : (extraR cs xs).length = n) (v x : Value) (u : World) (hv : CaR u v cs) (hx : StrRow u x xs) (hl : cs.length ≤ 100) (hl' : xs.length ≤ 100) (h : ∀ x ∈ xs, Tk x) (h' : ∀ x ∈ cs, Tk x) : Calls Try.prog 9 #[v, x] u (LenE n u) := by
  subst hn
  refine (covExtra cs xs _ _ _ hv hx (by omega) (by omega) h h').mono ?_
  rintro e w' ⟨v', rfl, h1, h2⟩
  obtain ⟨va, vc, rfl⟩ := h1.shape
  exact ⟨va, vc, rfl, h2⟩
theorem twiceN (xs : List (List UInt8)) (n : Nat) (hn : (twiceR xs).length = n) (x : Value) (u : World) (hx : StrRow u x xs) (hl' : xs.length ≤ 100) (h : ∀ x ∈ xs, Tk x) : Calls Try.prog 12 #[x] u (LenE n u) := by
  subst hn
  refine (covTwice xs _ _ hx (by omega) h).mono ?_
  rintro e w' ⟨v', rfl, h1, h2⟩
  obtain ⟨va, vc, rfl⟩ := h1.shape
  exact ⟨va, vc, rfl, h2⟩
theorem SrcR.below {w w' : World} {v : Value} {xs : List (List UInt8)} (h : SrcR w v xs) (hb : Below w.heap.size w w') : SrcR w' v xs := by
  rcases h with h | h | ⟨bk, o, c, rfl, h0, h1, h2, h3⟩
  · exact .inl h
  · exact .inr (.inl h)
  · exact .inr (.inr ⟨bk, o, c, rfl, h0, Nat.lt_of_lt_of_le h1 hb.size, h2, fun j x hj => (hb.cell (p := ⟨bk, o + j, none⟩) h1).trans (h3 j x hj)⟩)
theorem SrcR.cut {w : World} {bk o n c : Nat} {xs : List (List UInt8)} (h : SrcR w (.slice (some ⟨bk, o, none⟩) n c) xs) (hn : 0 < n) (k m : Nat) (hk : k + m ≤ n) (hm : 0 < m) : SrcR w (.slice (some ⟨bk, o + k, none⟩) m (c - k)) ((xs.drop k).take m) := by
  rcases h with ⟨_, h⟩ | ⟨_, a, c', h⟩ | ⟨bk', o', c', h, h0, h1, h2, h3⟩
  · cases h
  · simp only [Value.slice.injEq] at h
    omega
  · simp only [Value.slice.injEq, Option.some.injEq, Addr.mk.injEq, and_true] at h
    obtain ⟨⟨rfl, rfl⟩, rfl, rfl⟩ := h
    have hl : ((xs.drop k).take m).length = m := by rw [List.length_take, List.length_drop]; omega
    refine .inr (.inr ⟨bk, o + k, c - k, by rw [hl], by omega, h1, by omega, fun j x hj => ?_⟩)
    have := h3 (k + j) x (by rw [List.getElem?_take] at hj; split at hj; · rw [List.getElem?_drop] at hj; exact hj
                             · cases hj)
    rw [Nat.add_assoc]
    exact this
theorem SrcR.none (w : World) (a : Addr) (c : Nat) : SrcR w (.slice (some a) 0 c) [] := .inr (.inl ⟨rfl, a, c, rfl⟩)
set_option maxHeartbeats 8000000 in
set_option maxRecDepth 1000000 in
theorem turned_few (lv : Value) (ls ys : List (List UInt8)) (bk o c : Nat) (turn : Int) (w : World) (hl : StrRow w lv ls) (htl : ∀ x ∈ ls, Tk x) (hn0 : 0 < ys.length) (hyl : ys.length ≤ 12) (hyc : ys.length ≤ c) (hy : SrcR w (.slice (some ⟨bk, o, none⟩) ys.length c) ys) (hty : ∀ x ∈ ys, Tk x) (h0 : -9223372036854775808 ≤ turn) (h1 : turn ≤ 9223372036854775807) :
    Calls Try.prog 6 #[lv, .slice (some ⟨bk, o, none⟩) ys.length c, .int .i64 turn] w (BoolW true w) := by
  have hca := covCases ls lv w hl htl
  have htc := casesR_tk htl
  have hcl := casesR_len ls
  generalize casesR ls = cs at *
  have hny : (ys.length : Int) ≤ 12 := by omega
  have hni : ¬ (12 : Int) < (ys.length : Int) := by omega
  have hni0 : (0 : Int) < (ys.length : Int) := by omega
  obtain ⟨k, hk⟩ : ∃ k : Nat, turn % (ys.length : Int) = (k : Int) := ⟨(turn % (ys.length : Int)).toNat, (Int.toNat_of_nonneg (Int.emod_nonneg _ (by omega))).symm⟩
  have hkl : k < ys.length := by have := Int.emod_lt_of_pos turn (show 0 < (ys.length : Int) by omega); omega
  have hwi : ∀ u, Calls Try.prog 15 #[.int .i64 turn, .int .i64 0, .int .i64 ((ys.length : Int) - 1)] u (Pu (.int .i64 (k : Int)) u) := fun u => by
    have := withinQ turn (ys.length - 1) h0 h1 (by omega) u
    rw [show ((ys.length - 1 : Nat) : Int) = (ys.length : Int) - 1 by omega, show (ys.length : Int) - 1 + 1 = (ys.length : Int) by omega] at this
    rw [← hk]
    exact this
  clear hk
  have hp := turn_perm ys k
  have hme := hidden (miss_perm cs hp).symm
  have hx1 := hidden (extra_perm cs hp).symm
  have ht1 := hidden (twice_perm hp).symm
  have hml : (missR cs ys).length ≤ 8796093022208 := Nat.le_trans (List.length_filter_le _ _) (by omega)
  have hel : (extraR cs (ys.drop k ++ ys.take k)).length ≤ 12 := Nat.le_trans (List.length_filter_le _ _) (by rw [hp.length_eq]; omega)
  have htl2 : (twiceR (ys.drop k ++ ys.take k)).length ≤ 12 := Nat.le_trans (twF_lenle _ _) (by rw [hp.length_eq]; omega)
  have hmlen : (ys.drop k ++ ys.take k).length ≤ 12 := by rw [hp.length_eq]; omega
  have htm : ∀ x ∈ ys.drop k ++ ys.take k, Tk x := fun x hx => hty x (hp.mem_iff.1 hx)
  have hs1 : ∀ u, Below w.heap.size w u → SrcR u (.slice (some ⟨bk, o + k, none⟩) (ys.length - k) (c - k)) (ys.drop k) := fun u hu => by
    have := (hy.below hu).cut (by omega) k (ys.length - k) (by omega) (by omega)
    rwa [List.take_of_length_le (by rw [List.length_drop]; omega)] at this
  have hs2 : ∀ u, Below w.heap.size w u → SrcR u (.slice (some ⟨bk, o, none⟩) k c) (ys.take k) := fun u hu => by
    by_cases hz : k = 0
    · subst hz
      simpa using SrcR.none u ⟨bk, o, none⟩ c
    · exact (hy.below hu).cut (k := 0) (by omega) k (by omega) (by omega)
  have hkd : (ys.drop k).length = ys.length - k := List.length_drop
  have hkt : (ys.take k).length = k := by rw [List.length_take]; omega
  generalize hne : (extraR cs (ys.drop k ++ ys.take k)).length = ne at *
  generalize hnt : (twiceR (ys.drop k ++ ys.take k)).length = nt at *
  have hx2 := hidden hne
  have ht2 := hidden hnt
  clear hne hnt
  have hki : (k : Int) ≤ (ys.length : Int) := by omega
  have hkc : ¬ c = k := by omega
  have hkc' : (k : Int) ≤ (c : Int) := by omega
  have hNr := hidden hy.row
  clear hp hy hl
  go_enter Try.func6, Try.ntmps6
  go_wp2_with fail
  refine hca.mono ?_
  rintro e w1 ⟨cv, rfl, HC, B1⟩
  clear hca
  go_wp2_with fail
  refine (hwi _).mono ?_
  rintro e w2 ⟨rfl, hu⟩
  obtain rfl := hu.symm
  clear hu
  clear hwi
  go_wp2_with fail
  have hsz1 := B1.size
  have ho0 : (w1.alloc (.cells #[] 9)).drew.ownsRow w1.heap.size 9 1 (.slice (some ⟨w1.heap.size, 0, none⟩) 0 0) 0 [] := World.ownsRow_made w1 #[] 0 (Nat.le_refl _) (by decide) rfl
  have hb0 : Below w.heap.size w (w1.alloc (.cells #[] 9)).drew := (B1.alloc hsz1 _).drew
  have hb1 : Below w1.heap.size w1 (w1.alloc (.cells #[] 9)).drew := (newB _ _).drew
  go_region_law (first
    | (refine step_texts (by rfl) (.tmp 25) (.tmp 28) (by rfl) w1.heap.size _ [] (by rfl) ho0 (ys.drop k) _ (by rfl) (hs1 _ hb0) (by rw [hkd]; simp; omega) (by simp) ?_; intro v4 w4 o4 g4; have b4 := below_grown ho0 (by simp) hb1 g4)
    | (refine step_texts (by rfl) (.tmp 29) (.tmp 32) (by rfl) w1.heap.size _ (ys.drop k) (by rfl) o4 (ys.take k) _ (by rfl) (hs2 _ (B1.trans (b4.mono hsz1))) (by rw [hkd, hkt]; omega) b4.size ?_; intro v5 w5 o5 g5; have b5 := below_grown o4 b4.size b4 g5))
  all_goals (
    have HM := strRow_own o5
    have HC5 := HC.below b5
    have B5 := B1.trans (b5.mono hsz1)
    have HN := hNr.out.below (w' := w5) B5
    clear HC b5 B1 hNr o5 g5 b4 o4 g4 hb1 hb0 ho0 hs1 hs2 hkd hkt
    have HC := HC5
    clear HC5
    generalize ys.drop k ++ ys.take k = ms at *
    go_wp2_with fail
    refine (covMissing cs ys _ _ _ HC HN (by omega) (by omega) hty htc).mono ?_
    rintro e w1 ⟨r1, rfl, R1, b1⟩
    have B1 := B5.trans (b1.mono B5.size)
    have HC1 := HC.below b1
    have HN1 := HN.below b1
    have HM1 := HM.below b1
    clear HC HN HM b1 B5
    go_wp2_with fail
    refine (covMissing cs ms _ _ _ HC1 HM1 (by omega) (by omega) htm htc).mono ?_
    rintro e w2 ⟨r2, rfl, R2, b2⟩
    have B2 := B1.trans (b2.mono B1.size)
    have HC2 := HC1.below b2
    have HN2 := HN1.below b2
    have HM2 := HM1.below b2
    have R1' := R1.below b2
    clear HC1 HN1 HM1 b2 B1 R1
    go_wp2_with fail
    refine (sameYes _ _ _ _ _ R1' R2 hml hme.out).mono ?_
    rintro e w3 ⟨rfl, b3⟩
    have B3 := B2.trans (b3.mono B2.size)
    have HC3 := HC2.below b3
    have HN3 := HN2.below b3
    have HM3 := HM2.below b3
    clear HC2 HN2 HM2 b3 B2 R1' R2 hml
    go_wp2_with fail
    refine (extraN cs ys ne hx1.out _ _ _ HC3 HN3 (by omega) (by omega) hty htc).mono ?_
    rintro e w4 ⟨va4, vc4, rfl, b4⟩
    have B4 := B3.trans (b4.mono B3.size)
    have HC4 := HC3.below b4
    have HN4 := HN3.below b4
    have HM4 := HM3.below b4
    clear HC3 HN3 HM3 b4 B3
    go_wp2_with fail
    refine (extraN cs ms ne hx2.out _ _ _ HC4 HM4 (by omega) (by omega) htm htc).mono ?_
    rintro e w6 ⟨va6, vc6, rfl, b6⟩
    have B6 := B4.trans (b6.mono B4.size)
    have HN6 := HN4.below b6
    have HM6 := HM4.below b6
    clear HC4 HN4 HM4 b6 B4
    go_wp2_with fail
    refine (twiceN ys nt ht1.out _ _ HN6 (by omega) hty).mono ?_
    rintro e w7 ⟨va7, vc7, rfl, b7⟩
    have B7 := B6.trans (b7.mono B6.size)
    have HM7 := HM6.below b7
    clear HN6 HM6 b7 B6
    go_wp2_with fail
    refine (twiceN ms nt ht2.out _ _ HM7 (by omega) htm).mono ?_
    rintro e w8 ⟨va8, vc8, rfl, b8⟩
    have B8 := B7.trans (b8.mono B7.size)
    clear HM7 b8 B7
    go_wp2_with fail
    refine (known10 _).mono ?_
    rintro e w9 ⟨rfl, b9⟩
    have B9 := B8.trans (b9.mono B8.size)
    clear b9 B8
    go_wp2
    go_ret
    exact ⟨rfl, B9⟩)
set_option maxHeartbeats 8000000 in
set_option maxRecDepth 1000000 in
theorem turned_many (lv : Value) (ls ys : List (List UInt8)) (bk o c n : Nat) (turn : Int) (w : World) (hl : StrRow w lv ls) (htl : ∀ x ∈ ls, Tk x) (hn0 : 12 < n) (hyl : ys.length = 12) (hnc : n ≤ c) (hnl : n ≤ 8796093022208) (hy : SrcR w (.slice (some ⟨bk, o, none⟩) 12 c) ys) (hty : ∀ x ∈ ys, Tk x) (h0 : -9223372036854775808 ≤ turn) (h1 : turn ≤ 9223372036854775807) :
    Calls Try.prog 6 #[lv, .slice (some ⟨bk, o, none⟩) n c, .int .i64 turn] w (BoolW true w) := by
  have hca := covCases ls lv w hl htl
  have htc := casesR_tk htl
  have hcl := casesR_len ls
  generalize casesR ls = cs at *
  have hny : (ys.length : Int) ≤ 12 := by omega
  have hni : (12 : Int) < (n : Int) := by omega
  have hnci : (12 : Int) ≤ (c : Int) := by omega
  obtain ⟨k, hk⟩ : ∃ k : Nat, turn % (12 : Int) = (k : Int) := ⟨(turn % (12 : Int)).toNat, (Int.toNat_of_nonneg (Int.emod_nonneg _ (by omega))).symm⟩
  have hkl : k < 12 := by have := Int.emod_lt_of_pos turn (show 0 < (12 : Int) by omega); omega
  have hwi : ∀ u, Calls Try.prog 15 #[.int .i64 turn, .int .i64 0, .int .i64 11] u (Pu (.int .i64 (k : Int)) u) := fun u => by
    have := withinQ turn (12 - 1) h0 h1 (by omega) u
    rw [show ((12 - 1 : Nat) : Int) = 11 from rfl, show (11 : Int) + 1 = ((12 : Nat) : Int) from rfl] at this
    rw [← hk]
    exact this
  clear hk
  have hp := turn_perm ys k
  have hme := hidden (miss_perm cs hp).symm
  have hx1 := hidden (extra_perm cs hp).symm
  have ht1 := hidden (twice_perm hp).symm
  have hml : (missR cs ys).length ≤ 8796093022208 := Nat.le_trans (List.length_filter_le _ _) (by omega)
  have hel : (extraR cs (ys.drop k ++ ys.take k)).length ≤ 12 := Nat.le_trans (List.length_filter_le _ _) (by rw [hp.length_eq]; omega)
  have htl2 : (twiceR (ys.drop k ++ ys.take k)).length ≤ 12 := Nat.le_trans (twF_lenle _ _) (by rw [hp.length_eq]; omega)
  have hmlen : (ys.drop k ++ ys.take k).length ≤ 12 := by rw [hp.length_eq]; omega
  have htm : ∀ x ∈ ys.drop k ++ ys.take k, Tk x := fun x hx => hty x (hp.mem_iff.1 hx)
  have hs1 : ∀ u, Below w.heap.size w u → SrcR u (.slice (some ⟨bk, o + k, none⟩) (12 - k) (c - k)) (ys.drop k) := fun u hu => by
    have := (hy.below hu).cut (by omega) k (12 - k) (by omega) (by omega)
    rwa [List.take_of_length_le (by rw [List.length_drop]; omega)] at this
  have hs2 : ∀ u, Below w.heap.size w u → SrcR u (.slice (some ⟨bk, o, none⟩) k c) (ys.take k) := fun u hu => by
    by_cases hz : k = 0
    · subst hz
      simpa using SrcR.none u ⟨bk, o, none⟩ c
    · exact (hy.below hu).cut (k := 0) (by omega) k (by omega) (by omega)
  have hkd : (ys.drop k).length = ys.length - k := List.length_drop
  have hkt : (ys.take k).length = k := by rw [List.length_take]; omega
  generalize hne : (extraR cs (ys.drop k ++ ys.take k)).length = ne at *
  generalize hnt : (twiceR (ys.drop k ++ ys.take k)).length = nt at *
  have hx2 := hidden hne
  have ht2 := hidden hnt
  clear hne hnt
  have hki : (k : Int) ≤ (12 : Int) := by omega
  have hkc : ¬ c = k := by omega
  have hkc' : (k : Int) ≤ (c : Int) := by omega
  have hNr := hidden hy.row
  clear hp hy hl
  go_enter Try.func6, Try.ntmps6
  go_wp2_with fail
  refine hca.mono ?_
  rintro e w1 ⟨cv, rfl, HC, B1⟩
  clear hca
  go_wp2_with fail
  refine (hwi _).mono ?_
  rintro e w2 ⟨rfl, hu⟩
  obtain rfl := hu.symm
  clear hu
  clear hwi
  go_wp2_with fail
  have hsz1 := B1.size
  have ho0 : (w1.alloc (.cells #[] 9)).drew.ownsRow w1.heap.size 9 1 (.slice (some ⟨w1.heap.size, 0, none⟩) 0 0) 0 [] := World.ownsRow_made w1 #[] 0 (Nat.le_refl _) (by decide) rfl
  have hb0 : Below w.heap.size w (w1.alloc (.cells #[] 9)).drew := (B1.alloc hsz1 _).drew
  have hb1 : Below w1.heap.size w1 (w1.alloc (.cells #[] 9)).drew := (newB _ _).drew
  go_region_law (first
    | (refine step_texts (by rfl) (.tmp 25) (.tmp 28) (by rfl) w1.heap.size _ [] (by rfl) ho0 (ys.drop k) _ (by rfl) (hs1 _ hb0) (by rw [hkd]; simp; omega) (by simp) ?_; intro v4 w4 o4 g4; have b4 := below_grown ho0 (by simp) hb1 g4)
    | (refine step_texts (by rfl) (.tmp 29) (.tmp 32) (by rfl) w1.heap.size _ (ys.drop k) (by rfl) o4 (ys.take k) _ (by rfl) (hs2 _ (B1.trans (b4.mono hsz1))) (by rw [hkd, hkt]; omega) b4.size ?_; intro v5 w5 o5 g5; have b5 := below_grown o4 b4.size b4 g5))
  all_goals (
    have HM := strRow_own o5
    have HC5 := HC.below b5
    have B5 := B1.trans (b5.mono hsz1)
    have HN := hNr.out.below (w' := w5) B5
    clear HC b5 B1 hNr o5 g5 b4 o4 g4 hb1 hb0 ho0 hs1 hs2 hkd hkt
    have HC := HC5
    clear HC5
    generalize ys.drop k ++ ys.take k = ms at *
    go_wp2_with fail
    refine (covMissing cs ys _ _ _ HC HN (by omega) (by omega) hty htc).mono ?_
    rintro e w1 ⟨r1, rfl, R1, b1⟩
    have B1 := B5.trans (b1.mono B5.size)
    have HC1 := HC.below b1
    have HN1 := HN.below b1
    have HM1 := HM.below b1
    clear HC HN HM b1 B5
    go_wp2_with fail
    refine (covMissing cs ms _ _ _ HC1 HM1 (by omega) (by omega) htm htc).mono ?_
    rintro e w2 ⟨r2, rfl, R2, b2⟩
    have B2 := B1.trans (b2.mono B1.size)
    have HC2 := HC1.below b2
    have HN2 := HN1.below b2
    have HM2 := HM1.below b2
    have R1' := R1.below b2
    clear HC1 HN1 HM1 b2 B1 R1
    go_wp2_with fail
    refine (sameYes _ _ _ _ _ R1' R2 hml hme.out).mono ?_
    rintro e w3 ⟨rfl, b3⟩
    have B3 := B2.trans (b3.mono B2.size)
    have HC3 := HC2.below b3
    have HN3 := HN2.below b3
    have HM3 := HM2.below b3
    clear HC2 HN2 HM2 b3 B2 R1' R2 hml
    go_wp2_with fail
    refine (extraN cs ys ne hx1.out _ _ _ HC3 HN3 (by omega) (by omega) hty htc).mono ?_
    rintro e w4 ⟨va4, vc4, rfl, b4⟩
    have B4 := B3.trans (b4.mono B3.size)
    have HC4 := HC3.below b4
    have HN4 := HN3.below b4
    have HM4 := HM3.below b4
    clear HC3 HN3 HM3 b4 B3
    go_wp2_with fail
    refine (extraN cs ms ne hx2.out _ _ _ HC4 HM4 (by omega) (by omega) htm htc).mono ?_
    rintro e w6 ⟨va6, vc6, rfl, b6⟩
    have B6 := B4.trans (b6.mono B4.size)
    have HN6 := HN4.below b6
    have HM6 := HM4.below b6
    clear HC4 HN4 HM4 b6 B4
    go_wp2_with fail
    refine (twiceN ys nt ht1.out _ _ HN6 (by omega) hty).mono ?_
    rintro e w7 ⟨va7, vc7, rfl, b7⟩
    have B7 := B6.trans (b7.mono B6.size)
    have HM7 := HM6.below b7
    clear HN6 HM6 b7 B6
    go_wp2_with fail
    refine (twiceN ms nt ht2.out _ _ HM7 (by omega) htm).mono ?_
    rintro e w8 ⟨va8, vc8, rfl, b8⟩
    have B8 := B7.trans (b8.mono B7.size)
    clear HM7 b8 B7
    go_wp2_with fail
    refine (known10 _).mono ?_
    rintro e w9 ⟨rfl, b9⟩
    have B9 := B8.trans (b9.mono B8.size)
    clear b9 B8
    go_wp2
    go_ret
    exact ⟨rfl, B9⟩)
set_option maxHeartbeats 8000000 in
set_option maxRecDepth 1000000 in
theorem turned_nil (lv : Value) (ls : List (List UInt8)) (_u : Unit) (turn : Int) (w : World) (hl : StrRow w lv ls) (htl : ∀ x ∈ ls, Tk x) :
    Calls Try.prog 6 #[lv, .slice none 0 0, .int .i64 turn] w (BoolW true w) := by
  have hca := covCases ls lv w hl htl
  have htc := casesR_tk htl
  have hcl := casesR_len ls
  generalize casesR ls = cs at *
  have hml : (missR cs []).length ≤ 8796093022208 := Nat.le_trans (List.length_filter_le _ _) (by omega)
  have hty : ∀ x ∈ ([] : List (List UInt8)), Tk x := by simp
  have hx0 : Hid ((extraR cs []).length = 0) := rfl
  have ht0 : Hid ((twiceR []).length = 0) := rfl
  have hs : SrcR w (.slice none 0 0) [] := .inl ⟨rfl, rfl⟩
  have HN0 := hidden hs.row
  clear hl
  go_enter Try.func6, Try.ntmps6
  go_wp2_with fail
  refine hca.mono ?_
  rintro e w1 ⟨cv, rfl, HC0, B1⟩
  clear hca
  go_wp2_with fail
  have hsz1 := B1.size
  have ho0 : (w1.alloc (.cells #[] 9)).drew.ownsRow w1.heap.size 9 1 (.slice (some ⟨w1.heap.size, 0, none⟩) 0 0) 0 [] := World.ownsRow_made w1 #[] 0 (Nat.le_refl _) (by decide) rfl
  have hb1 : Below w1.heap.size w1 (w1.alloc (.cells #[] 9)).drew := (newB _ _).drew
  go_region_law (first
    | (refine step_texts (by rfl) (.tmp 25) (.tmp 28) (by rfl) w1.heap.size _ [] (by rfl) ho0 [] _ (by rfl) (by first | exact .inl ⟨rfl, rfl⟩ | exact .inr (.inl ⟨rfl, _, _, rfl⟩)) (by simp) (by simp) ?_; intro v4 w4 o4 g4; have b4 := below_grown ho0 (by simp) hb1 g4)
    | (refine step_texts (by rfl) (.tmp 29) (.tmp 32) (by rfl) w1.heap.size _ [] (by rfl) o4 [] _ (by rfl) (by first | exact .inl ⟨rfl, rfl⟩ | exact .inr (.inl ⟨rfl, _, _, rfl⟩)) (by simp) b4.size ?_; intro v5 w5 o5 g5; have b5 := below_grown o4 b4.size b4 g5))
  all_goals (
    have HM : StrRow w5 v5 [] := strRow_own o5
    have HC := HC0.below b5
    have B5 := B1.trans (b5.mono hsz1)
    have HN : StrRow w5 (.slice none 0 0) [] := HN0.out.below B5
    clear HC0 b5 B1 o5 g5 b4 o4 g4 hb1 ho0 hs HN0
    go_wp2_with fail
    refine (covMissing cs [] _ _ _ HC HN (by omega) (by simp) hty htc).mono ?_
    rintro e w1 ⟨r1, rfl, R1, b1⟩
    have B1 := B5.trans (b1.mono B5.size)
    have HC1 := HC.below b1
    have HN1 := HN.below b1
    have HM1 := HM.below b1
    clear HC HN HM b1 B5
    go_wp2_with fail
    refine (covMissing cs [] _ _ _ HC1 HM1 (by omega) (by simp) hty htc).mono ?_
    rintro e w2 ⟨r2, rfl, R2, b2⟩
    have B2 := B1.trans (b2.mono B1.size)
    have HC2 := HC1.below b2
    have HN2 := HN1.below b2
    have HM2 := HM1.below b2
    have R1' := R1.below b2
    clear HC1 HN1 HM1 b2 B1 R1
    go_wp2_with fail
    refine (sameYes _ _ _ _ _ R1' R2 hml rfl).mono ?_
    rintro e w3 ⟨rfl, b3⟩
    have B3 := B2.trans (b3.mono B2.size)
    have HC3 := HC2.below b3
    have HN3 := HN2.below b3
    have HM3 := HM2.below b3
    clear HC2 HN2 HM2 b3 B2 R1' R2 hml
    go_wp2_with fail
    refine (extraN cs [] 0 hx0.out _ _ _ HC3 HN3 (by omega) (by simp) hty htc).mono ?_
    rintro e w4 ⟨va4, vc4, rfl, b4⟩
    have B4 := B3.trans (b4.mono B3.size)
    have HC4 := HC3.below b4
    have HN4 := HN3.below b4
    have HM4 := HM3.below b4
    clear HC3 HN3 HM3 b4 B3
    go_wp2_with fail
    refine (extraN cs [] 0 hx0.out _ _ _ HC4 HM4 (by omega) (by simp) hty htc).mono ?_
    rintro e w6 ⟨va6, vc6, rfl, b6⟩
    have B6 := B4.trans (b6.mono B4.size)
    have HN6 := HN4.below b6
    have HM6 := HM4.below b6
    clear HC4 HN4 HM4 b6 B4
    go_wp2_with fail
    refine (twiceN [] 0 ht0.out _ _ HN6 (by simp) hty).mono ?_
    rintro e w7 ⟨va7, vc7, rfl, b7⟩
    have B7 := B6.trans (b7.mono B6.size)
    have HM7 := HM6.below b7
    clear HN6 HM6 b7 B6
    go_wp2_with fail
    refine (twiceN [] 0 ht0.out _ _ HM7 (by simp) hty).mono ?_
    rintro e w8 ⟨va8, vc8, rfl, b8⟩
    have B8 := B7.trans (b8.mono B7.size)
    clear HM7 b8 B7
    go_wp2_with fail
    refine (known10 _).mono ?_
    rintro e w9 ⟨rfl, b9⟩
    have B9 := B8.trans (b9.mono B8.size)
    clear b9 B8
    go_wp2
    go_ret
    exact ⟨rfl, B9⟩)
set_option maxHeartbeats 8000000 in
set_option maxRecDepth 1000000 in
theorem turned_none (lv : Value) (ls : List (List UInt8)) (ad : Addr) (c : Nat) (turn : Int) (w : World) (hl : StrRow w lv ls) (htl : ∀ x ∈ ls, Tk x) :
    Calls Try.prog 6 #[lv, .slice (some ad) 0 c, .int .i64 turn] w (BoolW true w) := by
  have hca := covCases ls lv w hl htl
  have htc := casesR_tk htl
  have hcl := casesR_len ls
  generalize casesR ls = cs at *
  have hml : (missR cs []).length ≤ 8796093022208 := Nat.le_trans (List.length_filter_le _ _) (by omega)
  have hty : ∀ x ∈ ([] : List (List UInt8)), Tk x := by simp
  have hx0 : Hid ((extraR cs []).length = 0) := rfl
  have ht0 : Hid ((twiceR []).length = 0) := rfl
  have hs : SrcR w (.slice (some ad) 0 c) [] := SrcR.none w ad c
  have HN0 := hidden hs.row
  clear hl
  go_enter Try.func6, Try.ntmps6
  go_wp2_with fail
  refine hca.mono ?_
  rintro e w1 ⟨cv, rfl, HC0, B1⟩
  clear hca
  go_wp2_with fail
  have hsz1 := B1.size
  have ho0 : (w1.alloc (.cells #[] 9)).drew.ownsRow w1.heap.size 9 1 (.slice (some ⟨w1.heap.size, 0, none⟩) 0 0) 0 [] := World.ownsRow_made w1 #[] 0 (Nat.le_refl _) (by decide) rfl
  have hb1 : Below w1.heap.size w1 (w1.alloc (.cells #[] 9)).drew := (newB _ _).drew
  go_region_law (first
    | (refine step_texts (by rfl) (.tmp 25) (.tmp 28) (by rfl) w1.heap.size _ [] (by rfl) ho0 [] _ (by rfl) (by first | exact .inl ⟨rfl, rfl⟩ | exact .inr (.inl ⟨rfl, _, _, rfl⟩)) (by simp) (by simp) ?_; intro v4 w4 o4 g4; have b4 := below_grown ho0 (by simp) hb1 g4)
    | (refine step_texts (by rfl) (.tmp 29) (.tmp 32) (by rfl) w1.heap.size _ [] (by rfl) o4 [] _ (by rfl) (by first | exact .inl ⟨rfl, rfl⟩ | exact .inr (.inl ⟨rfl, _, _, rfl⟩)) (by simp) b4.size ?_; intro v5 w5 o5 g5; have b5 := below_grown o4 b4.size b4 g5))
  all_goals (
    have HM : StrRow w5 v5 [] := strRow_own o5
    have HC := HC0.below b5
    have B5 := B1.trans (b5.mono hsz1)
    have HN : StrRow w5 (.slice (some ad) 0 c) [] := HN0.out.below B5
    clear HC0 b5 B1 o5 g5 b4 o4 g4 hb1 ho0 hs HN0
    go_wp2_with fail
    refine (covMissing cs [] _ _ _ HC HN (by omega) (by simp) hty htc).mono ?_
    rintro e w1 ⟨r1, rfl, R1, b1⟩
    have B1 := B5.trans (b1.mono B5.size)
    have HC1 := HC.below b1
    have HN1 := HN.below b1
    have HM1 := HM.below b1
    clear HC HN HM b1 B5
    go_wp2_with fail
    refine (covMissing cs [] _ _ _ HC1 HM1 (by omega) (by simp) hty htc).mono ?_
    rintro e w2 ⟨r2, rfl, R2, b2⟩
    have B2 := B1.trans (b2.mono B1.size)
    have HC2 := HC1.below b2
    have HN2 := HN1.below b2
    have HM2 := HM1.below b2
    have R1' := R1.below b2
    clear HC1 HN1 HM1 b2 B1 R1
    go_wp2_with fail
    refine (sameYes _ _ _ _ _ R1' R2 hml rfl).mono ?_
    rintro e w3 ⟨rfl, b3⟩
    have B3 := B2.trans (b3.mono B2.size)
    have HC3 := HC2.below b3
    have HN3 := HN2.below b3
    have HM3 := HM2.below b3
    clear HC2 HN2 HM2 b3 B2 R1' R2 hml
    go_wp2_with fail
    refine (extraN cs [] 0 hx0.out _ _ _ HC3 HN3 (by omega) (by simp) hty htc).mono ?_
    rintro e w4 ⟨va4, vc4, rfl, b4⟩
    have B4 := B3.trans (b4.mono B3.size)
    have HC4 := HC3.below b4
    have HN4 := HN3.below b4
    have HM4 := HM3.below b4
    clear HC3 HN3 HM3 b4 B3
    go_wp2_with fail
    refine (extraN cs [] 0 hx0.out _ _ _ HC4 HM4 (by omega) (by simp) hty htc).mono ?_
    rintro e w6 ⟨va6, vc6, rfl, b6⟩
    have B6 := B4.trans (b6.mono B4.size)
    have HN6 := HN4.below b6
    have HM6 := HM4.below b6
    clear HC4 HN4 HM4 b6 B4
    go_wp2_with fail
    refine (twiceN [] 0 ht0.out _ _ HN6 (by simp) hty).mono ?_
    rintro e w7 ⟨va7, vc7, rfl, b7⟩
    have B7 := B6.trans (b7.mono B6.size)
    have HM7 := HM6.below b7
    clear HN6 HM6 b7 B6
    go_wp2_with fail
    refine (twiceN [] 0 ht0.out _ _ HM7 (by simp) hty).mono ?_
    rintro e w8 ⟨va8, vc8, rfl, b8⟩
    have B8 := B7.trans (b8.mono B7.size)
    clear HM7 b8 B7
    go_wp2_with fail
    refine (known10 _).mono ?_
    rintro e w9 ⟨rfl, b9⟩
    have B9 := B8.trans (b9.mono B8.size)
    clear b9 B8
    go_wp2
    go_ret
    exact ⟨rfl, B9⟩)
end Go.Proofs.Ytmomapnafhppcaa
