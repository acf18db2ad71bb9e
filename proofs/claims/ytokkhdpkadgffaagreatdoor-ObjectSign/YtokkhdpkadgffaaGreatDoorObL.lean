/-
  The statements' Same at texts.
  And: hawserbook.Within from 0 on. Proved: for every slice of integers and every integer the law ObjectSign answers true: a function's sign has the parameters behind what it takes along, and its result. The package-level tables of the library that the program lists start as the program's text lays them (the card ties them); no other condition.
-/
import Derived.Deep.LoopGhost
import Derived.Test.YtokkhdpkadgffaaGreatDoorLexLabels
import Derived.Test.YtokkhdpkadgffaaGreatDoorTypesCmp
import Derived.Test.YtokkhdpkadgffaaGreatDoorTypesParts
import Derived.Test.YtokkhdpkadgffaaGreatDoorLexSmall
import Derived.Test.YtokkhdpkadgffaaGreatDoorLexMem
import Derived.Test.YtokkhdpkadgffaaGreatDoorObB
import Derived.Test.YtokkhdpkadgffaaGreatDoorObC
import Derived.Test.YtokkhdpkadgffaaGreatDoorIfaceBreaks
import Derived.Test.YtokkhdpkadgffaaGreatDoorIfaceCopy
namespace Go.Proofs.YtokkhdpkadgffaaGreatDoor
open Go.RowKit

theorem take_next {xs ys : List (List UInt8)} {k : Nat} (hx : k < xs.length) (hy : k < ys.length) (h : xs.take k = ys.take k) (he : xs[k] = ys[k]) : xs.take (k + 1) = ys.take (k + 1) := by
  rw [List.take_succ_eq_append_getElem hx, List.take_succ_eq_append_getElem hy, h, he]
theorem StrRow.at {w : World} {v : Value} {xs : List (List UInt8)} (h : StrRow w v xs) (i : Nat) (hi : i < xs.length) : ∃ bk o c, v = .slice (some ⟨bk, o, none⟩) xs.length c ∧ w.cell? ⟨bk, o + i, none⟩ = some (.string (str xs[i])) := by
  rcases h with ⟨rfl, _⟩ | ⟨bk, o, c, rfl, _, _, h3⟩
  · simp at hi
  · exact ⟨bk, o, c, rfl, h3 i _ (List.getElem?_eq_getElem hi)⟩

set_option maxHeartbeats 2000000 in
set_option maxRecDepth 1000000 in
theorem sameS (v v' : Value) (xs ys : List (List UInt8)) (w : World) (h : StrRow w v xs) (h' : StrRow w v' ys) (_hl : xs.length ≤ 8796093022208) (_hl' : ys.length ≤ 8796093022208) : Calls Tryz.prog 13 #[v, v'] w (BoolE (decide (xs = ys)) w) := by
  obtain ⟨va, vc, hv⟩ := h.shape
  obtain ⟨ua, uc, hu⟩ := h'.shape
  by_cases hn : xs.length = ys.length
  · have hn' : ((xs.length : Int) != (ys.length : Int)) = false := by simp; omega
    have h1 := hidden h
    have h2 := hidden h'
    have H1 : Hid (∃ va vc, v = .slice va xs.length vc) := ⟨va, vc, hv⟩
    clear h h'
    subst hv hu
    go_enter Tryz.func13, Tryz.ntmps13
    go_wp2
    go_loopg [5] xs.length (fun g i wr => ∃ (k n : Nat), g + k = xs.length ∧ i = .int .i64 (k : Int) ∧ Hid (xs.take k = ys.take k) ∧ wr = w.drewN n)
    case atStart => exact ⟨0, 0, rfl, rfl, rfl, rfl⟩
    case round =>
      obtain ⟨k, n, hg, rfl, ht, rfl⟩ := hrel
      by_cases hk : k < xs.length
      · have hky : k < ys.length := by omega
        obtain ⟨b1, o1, c1, e1, q1⟩ := h1.out.at k hk
        obtain ⟨b2, o2, c2, e2, q2⟩ := h2.out.at k hky
        simp only [Value.slice.injEq, true_and] at e1 e2
        obtain ⟨rfl, rfl⟩ := e1
        obtain ⟨rfl, rfl⟩ := e2
        have hki : (k : Int) < (xs.length : Int) := by omega
        have hkj : (k : Int) < (ys.length : Int) := by omega
        by_cases he : xs[k] = ys[k]
        · have HT : Hid (xs.take (k + 1) = ys.take (k + 1)) := take_next hk hky ht.out he
          rw [← he] at q2
          generalize xs[k] = x at *
          clear he ht hn
          go_wp2
          go_region
          go_wp2
          go_roundg (xs.length - (k + 1))
          case measure => omega
          case rel => exact ⟨k + 1, n + 1, by omega, by go_num, HT, rfl⟩
        · have HE : Hid (decide (xs = ys) = false) := decide_eq_false (fun e => he (by subst e; rfl))
          have hne : ((str xs[k]).toList == (str ys[k]).toList) = false := by
            rw [beq_eq_false_iff_ne, Lib.toList_data, Lib.toList_data, str_data, str_data]
            exact he
          have hne' : ((str xs[k]).toList != (str ys[k]).toList) = true := by simp only [bne, hne]; rfl
          clear he ht hn
          generalize xs[k] = x at *
          generalize ys[k] = y at *
          go_wp2
          go_region
          go_wp2
          go_ret
          exact ⟨by rw [HE.out]; rfl, n + 1, rfl⟩
      · have HE : Hid (decide (xs = ys) = true) := by
          refine decide_eq_true ?_
          have := ht.out
          rwa [List.take_of_length_le (by omega), List.take_of_length_le (by omega)] at this
        have hki : ¬ (k : Int) < (xs.length : Int) := by omega
        clear ht hn
        go_wp2
        go_ret
        exact ⟨by rw [HE.out]; rfl, n, rfl⟩
  · have hn' : ((xs.length : Int) != (ys.length : Int)) = true := by simp; omega
    have HE : Hid (decide (xs = ys) = false) := decide_eq_false (fun e => hn (by rw [e]))
    clear hn h h'
    subst hv hu
    go_enter Tryz.func13, Tryz.ntmps13
    go_wp2
    go_ret
    exact ⟨by rw [HE.out]; rfl, 0, rfl⟩
end Go.Proofs.YtokkhdpkadgffaaGreatDoor

namespace Go.Proofs.YtokkhdpkadgffaaGreatDoor
open Go.RowKit

theorem tmodQ (n m : Int) (hm : 0 < m) : (0 ≤ n.tmod m ∧ n.tmod m = n % m) ∨ (n.tmod m < 0 ∧ n.tmod m + m = n % m) := by
  have h := Int.tmod_eq_emod (a := n) (b := m)
  have h1 := Int.emod_nonneg n (show m ≠ 0 by omega)
  have h2 := Int.emod_lt_of_pos n hm
  by_cases hc : 0 ≤ n ∨ m ∣ n
  · rw [if_pos hc] at h
    left
    omega
  · rw [if_neg hc] at h
    right
    omega
set_option maxRecDepth 1000000 in
theorem withinQ (n : Int) (hi : Nat) (_h0 : -9223372036854775808 ≤ n) (_h1 : n ≤ 9223372036854775807) (hh : hi ≤ 1000000000) (w : World) : Calls Tryz.prog 24 #[.int .i64 n, .int .i64 0, .int .i64 hi] w (Pu (.int .i64 (n % ((hi : Int) + 1))) w) := by
  have hb := Int.emod_lt_of_pos n (show 0 < (hi : Int) + 1 by omega)
  have hb0 := Int.emod_nonneg n (show (hi : Int) + 1 ≠ 0 by omega)
  have hne : ¬ ((hi : Int) + 1 = 0) := by omega
  have hpos : (0 : Int) < (hi : Int) + 1 := by omega
  rcases tmodQ n (hi + 1) (by omega) with ⟨h2, h3⟩ | ⟨h2, h3⟩
  · rw [← h3] at hb hb0 ⊢
    generalize hz : n.tmod ((hi : Int) + 1) = z at *
    clear h3
    go_enter Tryz.func24, Tryz.ntmps24
    go_wp2
    go_ret
    exact ⟨rfl, rfl⟩
  · rw [← h3] at hb hb0 ⊢
    generalize hz : n.tmod ((hi : Int) + 1) = z at *
    clear h3
    rw [← Int.add_assoc]
    go_enter Tryz.func24, Tryz.ntmps24
    go_wp2
    go_ret
    exact ⟨rfl, rfl⟩

end Go.Proofs.YtokkhdpkadgffaaGreatDoor

namespace Go.Proofs.YtokkhdpkadgffaaGreatDoor
open Go.RowKit

def pick4 (k : Nat) : List UInt8 :=
  match k with
  | 0 => [110, 117, 109]
  | 1 => [98, 121, 116, 101, 115]
  | 2 => [91, 110, 117, 109, 93]
  | _ => [109, 46, 84]
def btT : List UInt8 := [98, 121, 116, 101, 115]
def psS (zs : List Int) : List (List UInt8) := (zs.take 8).map fun z => pick4 (z % 4).toNat
theorem pick4_right (k : Nat) : rightR (pick4 k) = true := by
  rcases k with _ | _ | _ | k
  · decide
  · decide
  · decide
  · show rightR [109, 46, 84] = true
    decide
theorem pick4_len (k : Nat) : (pick4 k).length ≤ 5 := by
  rcases k with _ | _ | _ | k <;> simp [pick4]
theorem psS_right (zs : List Int) : ∀ p ∈ psS zs, rightR p = true ∧ p.length ≤ 5 := by
  intro p hp
  obtain ⟨z, _, rfl⟩ := List.mem_map.1 hp
  exact ⟨pick4_right _, pick4_len _⟩
theorem psS_len (zs : List Int) : (psS zs).length = min 8 zs.length := by simp [psS]
theorem bt_right : rightR btT = true := by decide
theorem sign_right (ps : List (List UInt8)) (k : Nat) (h : ∀ p ∈ ps, rightR p = true ∧ p.length ≤ 5) (h6 : ps.length - k ≤ 6) : rightR (funcR (ps.drop k) btT) = true := by
  have h1 : one (funcR (ps.drop k) btT) = some [] := one_funcR (fun x hx => rightR_one (h x (List.mem_of_mem_drop hx)).1) (rightR_one bt_right) (by rw [List.length_drop]; exact h6)
  have h2 := join_len 5 (ps.drop k) (fun p hp => (h p (List.mem_of_mem_drop hp)).2)
  have h3 : (ps.drop k).length ≤ 6 := by rw [List.length_drop]; exact h6
  have h4 := Nat.mul_le_mul_left 6 h3
  have h5 : btT.length = 5 := rfl
  unfold rightR
  rw [Bool.and_eq_true]
  refine ⟨decide_eq_true ?_, decide_eq_true h1⟩
  rw [funcR, List.length_cons, List.length_append, List.length_cons]
  omega
theorem sign_parts (ps : List (List UInt8)) (k : Nat) (h : ∀ p ∈ ps, rightR p = true ∧ p.length ≤ 5) : partsR (funcR (ps.drop k) btT) = (ps.drop k, btT) := partsR_funcR _ (fun x hx => rightR_one (h x (List.mem_of_mem_drop hx)).1)
def fnS (ps : List (List UInt8)) (k : Nat) (lc : Int) : Fn := ⟨[], ps, (k : Int), btT, lc, []⟩
theorem fnS_sign (ps : List (List UInt8)) (k : Nat) (lc : Int) (hk : k ≤ ps.length) : signO (fnS ps k lc) = funcR (ps.drop k) btT := by
  have : cutO (fnS ps k lc) = k := by
    simp only [cutO, fnS]
    omega
  rw [signO, this]
  rfl
def obS (ps : List (List UInt8)) (k : Nat) : Ob := ⟨[109], [], [], [], [fnS ps k ps.length, fnS ps k ((ps.length : Int) - 1)], [], [], []⟩
theorem right_sign (ps : List (List UInt8)) (k : Nat) (h : ∀ p ∈ ps, rightR p = true ∧ p.length ≤ 5) (h8 : ps.length ≤ 8) (hk : k ≤ ps.length) (h6 : ps.length - k ≤ 6) : rightO (obS ps k) = (19, 1) := by
  have a1 : countsO (fnS ps k ps.length) = true := by
    simp only [countsO, Bool.and_eq_true, Bool.or_eq_true, decide_eq_true_eq]
    exact ⟨by show (0 : Int) ≤ (k : Int); omega, by show (k : Int) ≤ (ps.length : Int); omega, by show (ps.length : Int) - (k : Int) ≤ 6; omega, by show (ps.length : Int) ≤ (ps.length : Int); omega, by show (ps.length : Int) ≤ 24; omega, .inl rfl⟩
  have a2 : countsO (fnS ps k ((ps.length : Int) - 1)) = false := by
    rw [Bool.eq_false_iff]
    intro hh
    simp only [countsO, Bool.and_eq_true, decide_eq_true_eq] at hh
    have := hh.2.2.2.1
    have : (ps.length : Int) ≤ (ps.length : Int) - 1 := this
    omega
  have a3 : (fnS ps k ps.length).params.all rightR = true := List.all_eq_true.2 fun p hp => (h p hp).1
  have f1 : funO [] [] (fnS ps k ps.length) = 0 := by
    unfold funO
    rw [if_neg (fun hh => hh.1 rfl), if_neg (fun hh => hh.1 rfl), if_neg (by rw [a1]; simp), if_neg (by
      rw [a3, fnS_sign _ _ _ hk, sign_right ps k h h6]
      have : rightR (fnS ps k ps.length).res = true := bt_right
      rw [this]
      simp), if_neg (by simp [fnS])]
  have f2 : funO [] [fnS ps k ps.length] (fnS ps k ((ps.length : Int) - 1)) = 19 := by
    unfold funO
    rw [if_neg (fun hh => hh.1 rfl), if_neg (fun hh => hh.1 rfl), if_pos a2]
  have v : valueR (obS ps k).mod = true := by show valueR [109] = true; decide
  have mn : manyO (obS ps k) = false := by simp [manyO, obS]
  unfold rightO
  rw [if_neg (by rw [v]; simp), if_neg (by rw [mn]; simp)]
  have s3 : scanO (elemO (obS ps k) 3) 0 (lenO (obS ps k) 3) = (19, 1) := by
    have e0 : elemO (obS ps k) 3 0 = 0 := f1
    have e1 : elemO (obS ps k) 3 1 = 19 := f2
    show scanO (elemO (obS ps k) 3) 0 2 = (19, 1)
    rw [scanO, if_pos e0, scanO, if_neg (by rw [e1]; simp), e1]
  have s : ∀ j, j < 3 → scanO (elemO (obS ps k) j) 0 (lenO (obS ps k) j) = (0, 0) := by
    intro j hj
    have : lenO (obS ps k) j = 0 := by
      rcases j with _ | _ | _ | j
      · rfl
      · rfl
      · rfl
      · omega
    rw [this]
    rfl
  rw [listsO, s 0 (by omega), if_pos rfl, listsO, s 1 (by omega), if_pos rfl, listsO, s 2 (by omega), if_pos rfl, listsO, s3, if_neg (by simp)]
/-- Whole numbers in a row. -/
def IzR (w : World) (v : Value) (zs : List Int) : Prop := (∃ a c, v = .slice a 0 c ∧ zs = []) ∨ ∃ g o cap, v = .slice (some ⟨g, o, none⟩) zs.length cap ∧ g < w.heap.size ∧ ∀ (j : Nat) z, zs[j]? = some z → w.cell? ⟨g, o + j, none⟩ = some (.int .i64 z)
theorem IzR.shape {w : World} {v : Value} {zs : List Int} (h : IzR w v zs) : ∃ a c, v = .slice a zs.length c := by
  rcases h with ⟨a, c, rfl, rfl⟩ | ⟨g, o, cap, rfl, _⟩
  · exact ⟨a, c, rfl⟩
  · exact ⟨_, _, rfl⟩
theorem IzR.below {w w' : World} {v : Value} {zs : List Int} (h : IzR w v zs) (hb : Below w.heap.size w w') : IzR w' v zs := by
  rcases h with h | ⟨g, o, cap, h1, h2, h3⟩
  · exact .inl h
  · exact .inr ⟨g, o, cap, h1, Nat.lt_of_lt_of_le h2 hb.size, fun j z hj => (World.cell?_of_block (a := ⟨g, o + j, none⟩) (hb.block g h2)).trans (h3 j z hj)⟩
theorem IzR.at {w : World} {v : Value} {zs : List Int} (h : IzR w v zs) (k : Nat) (hk : k < zs.length) : ∃ g o cap, v = .slice (some ⟨g, o, none⟩) zs.length cap ∧ w.cell? ⟨g, o + k, none⟩ = some (.int .i64 zs[k]) := by
  rcases h with ⟨a, c, rfl, rfl⟩ | ⟨g, o, cap, rfl, _, h⟩
  · simp at hk
  · exact ⟨g, o, cap, rfl, h k _ (List.getElem?_eq_getElem hk)⟩
theorem txC_own {w : World} {B e : Nat} {v : Value} {xs : List (List UInt8)} (h : w.ownsRow B e 1 v xs.length (sc xs)) : TxC (fun g => B ≤ g ∧ g < w.heap.size) w v xs := by
  refine ⟨tx_own h, ?_⟩
  rcases h.2 with ⟨rfl, hn⟩ | ⟨g, cap, cur, rfl, hb, hg, h1, _⟩
  · intro a n c hh
    simp only [Value.slice.injEq] at hh
    omega
  · intro a n c hh
    simp only [Value.slice.injEq] at hh
    omega
/-- Texts from the k-th on. -/
theorem cut_row {F : Nat → Prop} {w : World} {va : Option Addr} {vc : Nat} {ps : List (List UInt8)} (hp : TxC F w (.slice va ps.length vc) ps) (hF : ∀ g, F g → g < w.heap.size) (k : Nat) (hkl : k ≤ ps.length) :
    ∀ a' n' c', n' = ps.length - k → (ps.length - k = 0 ∨ a' = va.map (·.add k) ∧ c' = vc - k) → StrRow w (.slice a' n' c') (ps.drop k) := by
  rintro a' n' c' rfl ha
  have hvc : ps.length ≤ vc := hp.2 _ _ _ rfl
  by_cases h0 : ps.length - k = 0
  · exact .inl ⟨List.drop_of_length_le (by omega), a', c', by rw [h0]⟩
  · rcases ha with h1 | ⟨rfl, rfl⟩
    · exact absurd h1 h0
    · rcases hp.1 with ⟨a, c0, e, rfl⟩ | ⟨g, o, cap, e, hg, hcell⟩
      · exact absurd (by simp) h0
      · simp only [Value.slice.injEq, true_and] at e
        obtain ⟨rfl, rfl⟩ := e
        refine .inr ⟨g, o + k, vc - k, by simp [addk], hF g hg, by simp; omega, fun j x hx => ?_⟩
        rw [List.getElem?_drop] at hx
        rw [Nat.add_assoc]
        exact hcell _ x hx
theorem fnS_ok (ps : List (List UInt8)) (k : Nat) (lc : Int) (h : ∀ p ∈ ps, rightR p = true ∧ p.length ≤ 5) (h8 : ps.length ≤ 8) (hk : k ≤ ps.length) (hl : i64 lc) : FnOk (fnS ps k lc) := by
  refine ⟨by simp [fnS, Tk], ?_, fun p hp => ?_, ⟨?_, ?_⟩, by simp [fnS, Tk, btT], hl, by simp [fnS]⟩
  · show ps.length ≤ 8796093022208
    omega
  · have := (h p hp).2
    unfold Tk
    omega
  · show -9223372036854775808 ≤ (k : Int)
    omega
  · show (k : Int) ≤ 9223372036854775807
    omega
theorem sign_call (F : Nat → Prop) (ps : List (List UInt8)) (k : Nat) (pv : Value) (b : Nat) (W : World) (hT : TxC F W pv ps) (hF : ∀ g, F g → g < W.heap.size) (hb : b < W.heap.size)
    (hN : W.heap[b]? = some (.cells #[.string ⟨#[]⟩, pv, .int .i64 (k : Int), .string ⟨#[98, 121, 116, 101, 115]⟩, .int .i64 (ps.length : Int), .slice none 0 0, .string ⟨#[]⟩, pv, .int .i64 (k : Int), .string ⟨#[98, 121, 116, 101, 115]⟩, .int .i64 ((ps.length : Int) - 1), .slice none 0 0] 25 (0, 0)))
    (h : ∀ p ∈ ps, rightR p = true ∧ p.length ≤ 5) (h8 : ps.length ≤ 8) (hk : k ≤ ps.length) (h6 : ps.length - k ≤ 6) :
    Calls Tryz.prog 9 #[.agg #[.string ⟨#[109]⟩, .slice none 0 0, .slice none 0 0, .slice none 0 0, .slice (some ⟨b, 0, none⟩) 2 2, .slice none 0 0, .slice none 0 0, .slice none 0 0]] W (TwoB (19, 1) W) := by
  have hObR : ∀ V, Below W.heap.size W V → ObR (fun g => F g ∨ g = b) V ⟨.slice none 0 0, .slice none 0 0, .slice none 0 0, .slice (some ⟨b, 0, none⟩) 2 2, .slice none 0 0, .slice none 0 0, .slice none 0 0⟩ (obS ps k) := by
    intro V hV
    have hN' := (hV.block b hb).trans hN
    have hT' : TxC (fun g => F g ∨ g = b) V pv ps := hT.frame fun g hg => ⟨.inl hg, hV.block g (hF g hg)⟩
    have nl : TxC (fun g => F g ∨ g = b) V (.slice none 0 0) [] := ⟨TxR.nil _ _, by rintro a n c hh; simp only [Value.slice.injEq] at hh; omega⟩
    refine ⟨ItR.nil _ _, nl, RwR.nil _ _ _ _, .inr ⟨b, 0, 2, rfl, Nat.le_refl _, .inr rfl, ?_⟩, nl, RwR.nil _ _ _ _, RwR.nil _ _ _ _⟩
    intro j x hj
    rcases j with _ | _ | j
    · have hx : x = fnS ps k ps.length := by simpa [obS] using hj.symm
      subst hx
      refine ⟨_, ⟨pv, .slice none 0 0, rfl, hT', .inl ⟨_, _, rfl, rfl⟩⟩, fun i y hy => ?_⟩
      rcases i with _ | _ | _ | _ | _ | _ | i
      · cases hy; rw [cell_of_row V _ _ _ _ _ hN']; rfl
      · cases hy; rw [cell_of_row V _ _ _ _ _ hN']; rfl
      · cases hy; rw [cell_of_row V _ _ _ _ _ hN']; rfl
      · cases hy; rw [cell_of_row V _ _ _ _ _ hN']; rfl
      · cases hy; rw [cell_of_row V _ _ _ _ _ hN']; rfl
      · cases hy; rw [cell_of_row V _ _ _ _ _ hN']; rfl
      · simp at hy
    · have hx : x = fnS ps k ((ps.length : Int) - 1) := by simpa [obS] using hj.symm
      subst hx
      refine ⟨_, ⟨pv, .slice none 0 0, rfl, hT', .inl ⟨_, _, rfl, rfl⟩⟩, fun i y hy => ?_⟩
      rcases i with _ | _ | _ | _ | _ | _ | i
      · cases hy; rw [cell_of_row V _ _ _ _ _ hN']; rfl
      · cases hy; rw [cell_of_row V _ _ _ _ _ hN']; rfl
      · cases hy; rw [cell_of_row V _ _ _ _ _ hN']; rfl
      · cases hy; rw [cell_of_row V _ _ _ _ _ hN']; rfl
      · cases hy; rw [cell_of_row V _ _ _ _ _ hN']; rfl
      · cases hy; rw [cell_of_row V _ _ _ _ _ hN']; rfl
      · simp at hy
    · simp [obS] at hj
  have hFb : ∀ V, Below W.heap.size W V → ∀ g, (F g ∨ g = b) → g < V.heap.size := by
    rintro V hV g (hg | rfl)
    · exact Nat.lt_of_lt_of_le (hF g hg) hV.size
    · exact Nat.lt_of_lt_of_le hb hV.size
  have hOk : ObOk (obS ps k) := by
    refine ⟨by simp [obS, Tk], by simp [obS], by simp [obS], by simp [obS], by simp [obS], by simp [obS], by simp [obS], by simp [obS], ?_, by simp [obS], by simp [obS], by simp [obS], by simp [obS], by simp [obS], by simp [obS]⟩
    intro x hx
    have hx' : x = fnS ps k ps.length ∨ x = fnS ps k ((ps.length : Int) - 1) := by simpa [obS] using hx
    rcases hx' with rfl | rfl
    · exact fnS_ok ps k _ h h8 hk ⟨by omega, by omega⟩
    · exact fnS_ok ps k _ h h8 hk ⟨by omega, by omega⟩
  have hR := rightOb (fun g => F g ∨ g = b) _ (obS ps k) W (hObR W (Below.refl _ _)) (hFb W (Below.refl _ _)) (by simp [obS, Tk]) (fun _ _ j i hj hi V hV => by
    rcases j with _ | _ | _ | _ | _ | _ | _ | j
    · simp [lenO, obS] at hi
    · simp [lenO, obS] at hi
    · simp [lenO, obS] at hi
    · exact funAt _ _ _ V (hObR V hV) (hFb V hV) hOk i hi
    · simp [lenO, obS] at hi
    · simp [lenO, obS] at hi
    · simp [lenO, obS] at hi
    · omega)
  rw [right_sign ps k h h8 hk h6] at hR
  exact hR
set_option maxRecDepth 1000000 in
set_option maxHeartbeats 8000000 in
theorem sign_walk (v0 : Value) (zs : List Int) (a : Int) (w : World) (h : IzR w v0 zs) (hzb : ∀ z ∈ zs, i64 z) (ha : i64 a) (hl : zs.length ≤ 9223372036854775807) : Calls Tryz.prog 8 #[v0, .int .i64 a] w (BoolB true w) := by
  obtain ⟨va, vc, rfl⟩ := h.shape
  have H := hidden h
  have HZ := hidden hzb
  have hpl := psS_len zs
  have HPr := hidden (psS_right zs)
  have hps8 : (psS zs).length ≤ 8 := by omega
  have hpsl : (psS zs).length ≤ zs.length := by omega
  have hpsm : zs.length ≤ (psS zs).length ∨ (psS zs).length = 8 := by omega
  have HAt : Hid (∀ k, k < (psS zs).length → ∀ hk : k < zs.length, (psS zs).take (k + 1) = (psS zs).take k ++ [pick4 (zs[k] % 4).toNat]) := by
    rw [hid_iff]
    intro k hk hk2
    rw [List.take_succ_eq_append_getElem hk]
    simp [psS]
  clear h hzb hpl
  generalize psS zs = ps at *
  go_enter Tryz.func8, Tryz.ntmps8
  go_wp2_with fail
  go_loopg [5, 6] ps.length (fun g x i wr => ∃ (k : Nat), g + k = ps.length ∧ i = .int .i64 (k : Int) ∧ wr.ownsRow w.heap.size 9 1 x (ps.take k).length (sc (ps.take k)) ∧ Below w.heap.size w wr)
  case atStart => exact ⟨0, by simp, rfl, by simpa [sc] using World.ownsRow_nil _ _ _ _, Below.refl _ _⟩
  case round =>
    obtain ⟨k, hg, rfl, hown, hbr⟩ := hrel
    by_cases hk : k < ps.length
    · have hkz : k < zs.length := by omega
      obtain ⟨bk, o, c, e1, qx⟩ := (H.out.below hbr).at k hkz
      simp only [Value.slice.injEq, true_and] at e1
      obtain ⟨rfl, rfl⟩ := e1
      have hki : (k : Int) < (zs.length : Int) := by omega
      have hk8 : (k : Int) < 8 := by omega
      have HX := hidden (HAt.out k hk hkz)
      have hzz := HZ.out _ (List.getElem_mem hkz)
      obtain ⟨q, hq⟩ : ∃ q : Nat, zs[k] % 4 = (q : Int) := ⟨(zs[k] % 4).toNat, by omega⟩
      have hq4 : q < 4 := by omega
      rw [hq] at HX
      have hwi := withinQ zs[k] 3 hzz.1 hzz.2 (by omega)
      have hq3 : zs[k] % (((3 : Nat) : Int) + 1) = (q : Int) := hq
      rw [hq3] at hwi
      generalize zs[k] = z at *
      have hal : (ps.take k).length ≤ k := by simp; omega
      have hB6 : w.heap.size ≤ wr.heap.size := hbr.size
      clear H HZ HAt HPr hq hq3
      generalize hTK : ps.take k = acc at *
      clear hTK
      generalize hWs : wr.alloc (.cells #[.string ⟨#[110, 117, 109]⟩, .string ⟨#[98, 121, 116, 101, 115]⟩, .string ⟨#[91, 110, 117, 109, 93]⟩, .string ⟨#[109, 46, 84]⟩] 9) = ws at *
      have hbs : Below wr.heap.size wr ws := by rw [← hWs]; exact (Below.refl _ _).alloc (Nat.le_refl _) _
      have hos := owns_below hown hbs
      have hNs := heap_alloc_new wr (.cells #[.string ⟨#[110, 117, 109]⟩, .string ⟨#[98, 121, 116, 101, 115]⟩, .string ⟨#[91, 110, 117, 109, 93]⟩, .string ⟨#[109, 46, 84]⟩] 9)
      rw [hWs] at hNs
      have qx' : ws.cell? ⟨bk, o + k, none⟩ = some (.int .i64 z) := (hbs.cell (p := ⟨bk, o + k, none⟩) (World.block_lt_of_cell? wr _ qx)).trans qx
      have qs : ws.cell? ⟨wr.heap.size, q, none⟩ = some (.string (str (pick4 q))) := by
        rcases q with _ | _ | _ | _ | q
        · rw [cell_of_row ws _ 0 _ _ _ hNs]; rfl
        · rw [cell_of_row ws _ 1 _ _ _ hNs]; rfl
        · rw [cell_of_row ws _ 2 _ _ _ hNs]; rfl
        · rw [cell_of_row ws _ 3 _ _ _ hNs]; rfl
        · omega
      have hbws : Below w.heap.size w ws := below_trans hbr hbs
      have hqi : (q : Int) < 4 := by omega
      have hBs : w.heap.size ≤ ws.heap.size := hbws.size
      clear hown hbr hNs
      go_wp2_with (first
        | (go_at_call 24; refine (hwi _).mono ?_; rintro e w9 ⟨rfl, hw9⟩; obtain rfl := hw9.symm)
        | (at_builtin; refine append_textN rfl (.tmp 24) (.tmp 33) rfl w.heap.size _ acc rfl (hos.alloc _) _ _ (pick4 q) rfl ?src ?len ?hB ?next))
      case src => first | exact cells_new _ _ _ | exact fun j u h => h
      case len => first | omega | (simp; omega)
      case hB => first | omega | (simp; omega)
      case next =>
        intro ad c' w' k1 k2
        have k3 := below_grown (hos.alloc _) (by simp; omega) (hbws.alloc hBs _) k2
        clear k2 hos hbws
        go_wp2
        go_roundg (ps.length - (k + 1))
        case measure => omega
        case rel => exact ⟨k + 1, by omega, by go_num, by rw [HX.out, List.length_append, List.length_singleton]; exact k1, k3⟩
    · have hkz : (¬ (k : Int) < (zs.length : Int)) ∨ (k : Int) < (zs.length : Int) ∧ ¬ (k : Int) < 8 := by omega
      obtain rfl : k = ps.length := by omega
      rw [List.take_of_length_le (Nat.le_refl _)] at hown
      have hTx := txC_own hown
      obtain ⟨pa, pc, hpv⟩ := hTx.1.shape
      subst hpv
      obtain ⟨c0, hc0⟩ : ∃ c0 : Nat, a % ((ps.length : Int) + 1) = (c0 : Int) := ⟨(a % ((ps.length : Int) + 1)).toNat, by have := Int.emod_nonneg a (show (ps.length : Int) + 1 ≠ 0 by omega); omega⟩
      have hc1 : c0 ≤ ps.length := by have := Int.emod_lt_of_pos a (show (0 : Int) < (ps.length : Int) + 1 by omega); omega
      have hwi := withinQ a ps.length ha.1 ha.2 (by omega)
      rw [hc0] at hwi
      have hFw : ∀ g, (w.heap.size ≤ g ∧ g < wr.heap.size) → g < wr.heap.size := fun g hg => hg.2
      have HTx := hidden hTx
      have HPs := HPr.out
      have HPr2 := hidden HPs
      clear hown hTx H HZ HAt HPs HPr hc0
      rcases hkz with hkz | ⟨hkz, hk8⟩
      all_goals (
        by_cases h6 : ps.length - c0 ≤ 6
        · have h6i : ¬ (6 : Int) < (ps.length : Int) - (c0 : Int) := by omega
          have hk1 := hc1
          have hk6 := h6
          go_wp2_with (go_at_call 24; refine (hwi _).mono ?_; rintro e w9 ⟨rfl, hw9⟩; obtain rfl := hw9.symm)
          have hTl := HTx.out
          have hSg := osign (fun g => w.heap.size ≤ g ∧ g < wr.heap.size) (fnS ps c0 0) (.slice pa ps.length pc) (.slice none 0 0) wr hTl hFw (fnS_ok ps c0 0 HPr2.out hps8 hk1 ⟨by omega, by omega⟩) (show ps.length ≤ 1000000 by omega) (by
            have h2 := join_len 5 (ps.drop (cutO (fnS ps c0 0))) (fun p hp => (HPr2.out p (List.mem_of_mem_drop hp)).2)
            have h3 : (ps.drop (cutO (fnS ps c0 0))).length ≤ 8 := by rw [List.length_drop]; omega
            have h4 := Nat.mul_le_mul_left 6 h3
            show (joinR (ps.drop (cutO (fnS ps c0 0)))).length ≤ 1000000000
            omega) (show btT.length ≤ 1000000000 by decide)
          rw [fnS_sign ps c0 0 hk1] at hSg
          have hSr := sign_right ps c0 HPr2.out hk6
          have hSp := sign_parts ps c0 HPr2.out
          have hSh : isFn (funcR (ps.drop c0) btT) = true := by
            rw [isFn, hSr]
            rfl
          have hPo := fun u => partsOf (str (funcR (ps.drop c0) btT)) u
          simp only [str_data] at hPo
          unfold PartsE at hPo
          simp only [hSh, hSp] at hPo
          rw [show str btT = ⟨#[98, 121, 116, 101, 115]⟩ from rfl] at hPo
          unfold fnv fnS at hSg
          simp only at hSg
          generalize funcR (ps.drop c0) btT = sg at *
          clear hTl hSr hSp hSh
          refine hSg.mono ?_
          rintro e w2 ⟨rfl, hb2⟩
          have hbw2 := below_trans hbr hb2
          clear hSg
          go_wp2_with fail
          refine (hPo _).mono ?_
          rintro e w3 ⟨⟨_, v9, rfl, hv9⟩ | ⟨hf, _⟩, hb3⟩
          case inr => cases hf
          obtain ⟨qa, qc, rfl⟩ := hv9.shape
          have hb23 := below_trans hb2 hb3
          have hbw3 := below_trans hbw2 hb3
          generalize hW4 : w3.alloc (.cells #[.string ⟨#[]⟩, .slice pa ps.length pc, .int .i64 (c0 : Int), .string ⟨#[98, 121, 116, 101, 115]⟩, .int .i64 (ps.length : Int), .slice none 0 0, .string ⟨#[]⟩, .slice pa ps.length pc, .int .i64 (c0 : Int), .string ⟨#[98, 121, 116, 101, 115]⟩, .int .i64 ((ps.length : Int) - 1), .slice none 0 0] 25) = W4 at *
          have hb4 : Below w3.heap.size w3 W4 := by rw [← hW4]; exact (Below.refl _ _).alloc (Nat.le_refl _) _
          have hs4 : W4.heap.size = w3.heap.size + 1 := by rw [← hW4]; simp
          have hN4 := heap_alloc_new w3 (.cells #[.string ⟨#[]⟩, .slice pa ps.length pc, .int .i64 (c0 : Int), .string ⟨#[98, 121, 116, 101, 115]⟩, .int .i64 (ps.length : Int), .slice none 0 0, .string ⟨#[]⟩, .slice pa ps.length pc, .int .i64 (c0 : Int), .string ⟨#[98, 121, 116, 101, 115]⟩, .int .i64 ((ps.length : Int) - 1), .slice none 0 0] 25)
          rw [hW4] at hN4
          have hbr4 : Below wr.heap.size wr W4 := below_trans hb23 hb4
          have hRc := sign_call (fun g => w.heap.size ≤ g ∧ g < wr.heap.size) ps c0 (.slice pa ps.length pc) w3.heap.size W4 (HTx.out.frame fun g hg => ⟨hg, hbr4.block g hg.2⟩) (fun g hg => Nat.lt_of_lt_of_le hg.2 hbr4.size) (by omega) hN4 HPr2.out hps8 hk1 hk6
          unfold TwoB at hRc
          have HV9 : Hid (StrRow w3 (.slice qa (ps.drop c0).length qc) (ps.drop c0)) := hv9
          clear hPo hv9 hN4
          go_wp2_with fail
          refine hRc.mono ?_
          rintro e w5 ⟨rfl, hb5⟩
          clear hRc
          have hbw5 := below_trans hbw3 (below_trans hb4 hb5)
          have hb35 : Below w3.heap.size w3 w5 := below_trans hb4 hb5
          have hbr5 : Below wr.heap.size wr w5 := below_trans hbr4 hb5
          have hT5 : TxC (fun g => w.heap.size ≤ g ∧ g < wr.heap.size) w5 (.slice pa ps.length pc) ps := HTx.out.frame fun g hg => ⟨hg, hbr5.block g hg.2⟩
          have hCr := cut_row hT5 (fun g hg => Nat.lt_of_lt_of_le hg.2 hbr5.size) c0 hk1
          have hva : pa = none ∧ ps.length = 0 ∨ ∃ b o sp, pa = some ⟨b, o, sp⟩ := by
            rcases pa with _ | ⟨b, o, sp⟩
            · left
              rcases hT5.1 with ⟨a, c0, e, hh⟩ | ⟨g, o, cap, e, hg, hcell⟩
              · exact ⟨rfl, by rw [hh]; rfl⟩
              · simp at e
            · exact .inr ⟨b, o, sp, rfl⟩
          have hpc : ps.length ≤ pc := hT5.2 _ _ _ rfl
          have hSm : ∀ a' n' c' m', m' = ps.length - c0 → n' = ps.length - c0 → (ps.length - c0 = 0 ∨ a' = pa.map (·.add c0) ∧ c' = pc - c0) → Calls Tryz.prog 13 #[.slice qa m' qc, .slice a' n' c'] w5 (BoolE true w5) := by
            rintro a' n' c' m' rfl h1 h2
            have := sameS (.slice qa (ps.drop c0).length qc) (.slice a' n' c') (ps.drop c0) (ps.drop c0) w5 (HV9.out.below hb35) (hCr a' n' c' h1 h2) (by rw [List.length_drop]; omega) (by rw [List.length_drop]; omega)
            rw [decide_eq_true rfl, List.length_drop] at this
            exact this
          have hKn : ∀ n, Calls Tryz.prog 14 #[] (w5.drewN n) (BoolB true (w5.drewN n)) := fun n => known14 _
          have HSm := hidden hSm
          clear hT5 hCr hSm HV9 HPr2 HTx hwi hps8
          generalize ps.length = n at *
          rcases hva with ⟨rfl, h0⟩ | ⟨b, o, sp, rfl⟩
          · first
            | (exfalso; omega)
            | (subst h0
               by_cases hv : pc = c0
               · subst hv
                 have n0 : (0 : Int) ≤ (pc : Int) := by omega
                 have n1 : (pc : Int) ≤ ((0 : Nat) : Int) := by omega
                 have n2 : (pc : Int) ≤ (pc : Int) := by omega
                 have n3 : ((0 : Nat) : Int) ≤ (pc : Int) := by omega
                 go_wp2_with (first
                   | (go_at_call 13; refine (HSm.out _ _ _ _ (by omega) (by omega) (by first | exact .inl (by omega) | exact .inr ⟨rfl, rfl⟩)).mono ?_; rintro e w6 ⟨rfl, nn, rfl⟩)
                   | (go_at_call 14; refine (hKn _).mono ?_; rintro e w7 ⟨rfl, hb7⟩))
                 go_ret
                 exact ⟨rfl, below_trans (below_drewN hbw5 _) hb7⟩
               · have hvi : ¬ (pc : Int) = (c0 : Int) := by omega
                 have n0 : (0 : Int) ≤ (c0 : Int) := by omega
                 have n1 : (c0 : Int) ≤ ((0 : Nat) : Int) := by omega
                 have n2 : (c0 : Int) ≤ (pc : Int) := by omega
                 have n3 : ((0 : Nat) : Int) ≤ (pc : Int) := by omega
                 go_wp2_with (first
                   | (go_at_call 13; refine (HSm.out _ _ _ _ (by omega) (by omega) (by first | exact .inl (by omega) | exact .inr ⟨rfl, rfl⟩)).mono ?_; rintro e w6 ⟨rfl, nn, rfl⟩)
                   | (go_at_call 14; refine (hKn _).mono ?_; rintro e w7 ⟨rfl, hb7⟩))
                 go_ret
                 exact ⟨rfl, below_trans (below_drewN hbw5 _) hb7⟩)
          · by_cases hv : pc = c0
            · subst hv
              have n0 : (0 : Int) ≤ (pc : Int) := by omega
              have n1 : (pc : Int) ≤ (n : Int) := by omega
              have n2 : (pc : Int) ≤ (pc : Int) := by omega
              have n3 : (n : Int) ≤ (pc : Int) := by omega
              go_wp2_with (first
                | (go_at_call 13; refine (HSm.out _ _ _ _ (by omega) (by omega) (by first | exact .inl (by omega) | exact .inr ⟨rfl, rfl⟩)).mono ?_; rintro e w6 ⟨rfl, nn, rfl⟩)
                | (go_at_call 14; refine (hKn _).mono ?_; rintro e w7 ⟨rfl, hb7⟩))
              go_ret
              exact ⟨rfl, below_trans (below_drewN hbw5 _) hb7⟩
            · have hvi : ¬ (pc : Int) = (c0 : Int) := by omega
              have n0 : (0 : Int) ≤ (c0 : Int) := by omega
              have n1 : (c0 : Int) ≤ (n : Int) := by omega
              have n2 : (c0 : Int) ≤ (pc : Int) := by omega
              have n3 : (n : Int) ≤ (pc : Int) := by omega
              go_wp2_with (first
                | (go_at_call 13; refine (HSm.out _ _ _ _ (by omega) (by omega) (by first | exact .inl (by omega) | exact .inr ⟨rfl, rfl⟩)).mono ?_; rintro e w6 ⟨rfl, nn, rfl⟩)
                | (go_at_call 14; refine (hKn _).mono ?_; rintro e w7 ⟨rfl, hb7⟩))
              go_ret
              exact ⟨rfl, below_trans (below_drewN hbw5 _) hb7⟩
        · have h6i : (6 : Int) < (ps.length : Int) - (c0 : Int) := by omega
          obtain ⟨kc, hkc⟩ : ∃ kc : Nat, (ps.length : Int) - 6 = (kc : Int) := ⟨ps.length - 6, by omega⟩
          have hk1 : kc ≤ ps.length := by omega
          have hk6 : ps.length - kc ≤ 6 := by omega
          go_wp2_with (go_at_call 24; refine (hwi _).mono ?_; rintro e w9 ⟨rfl, hw9⟩; obtain rfl := hw9.symm)
          have hTl := HTx.out
          have hSg := osign (fun g => w.heap.size ≤ g ∧ g < wr.heap.size) (fnS ps kc 0) (.slice pa ps.length pc) (.slice none 0 0) wr hTl hFw (fnS_ok ps kc 0 HPr2.out hps8 hk1 ⟨by omega, by omega⟩) (show ps.length ≤ 1000000 by omega) (by
            have h2 := join_len 5 (ps.drop (cutO (fnS ps kc 0))) (fun p hp => (HPr2.out p (List.mem_of_mem_drop hp)).2)
            have h3 : (ps.drop (cutO (fnS ps kc 0))).length ≤ 8 := by rw [List.length_drop]; omega
            have h4 := Nat.mul_le_mul_left 6 h3
            show (joinR (ps.drop (cutO (fnS ps kc 0)))).length ≤ 1000000000
            omega) (show btT.length ≤ 1000000000 by decide)
          rw [fnS_sign ps kc 0 hk1] at hSg
          have hSr := sign_right ps kc HPr2.out hk6
          have hSp := sign_parts ps kc HPr2.out
          have hSh : isFn (funcR (ps.drop kc) btT) = true := by
            rw [isFn, hSr]
            rfl
          have hPo := fun u => partsOf (str (funcR (ps.drop kc) btT)) u
          simp only [str_data] at hPo
          unfold PartsE at hPo
          simp only [hSh, hSp] at hPo
          rw [show str btT = ⟨#[98, 121, 116, 101, 115]⟩ from rfl] at hPo
          unfold fnv fnS at hSg
          simp only at hSg
          generalize funcR (ps.drop kc) btT = sg at *
          clear hTl hSr hSp hSh
          refine hSg.mono ?_
          rintro e w2 ⟨rfl, hb2⟩
          have hbw2 := below_trans hbr hb2
          clear hSg
          go_wp2_with fail
          refine (hPo _).mono ?_
          rintro e w3 ⟨⟨_, v9, rfl, hv9⟩ | ⟨hf, _⟩, hb3⟩
          case inr => cases hf
          obtain ⟨qa, qc, rfl⟩ := hv9.shape
          have hb23 := below_trans hb2 hb3
          have hbw3 := below_trans hbw2 hb3
          generalize hW4 : w3.alloc (.cells #[.string ⟨#[]⟩, .slice pa ps.length pc, .int .i64 (kc : Int), .string ⟨#[98, 121, 116, 101, 115]⟩, .int .i64 (ps.length : Int), .slice none 0 0, .string ⟨#[]⟩, .slice pa ps.length pc, .int .i64 (kc : Int), .string ⟨#[98, 121, 116, 101, 115]⟩, .int .i64 ((ps.length : Int) - 1), .slice none 0 0] 25) = W4 at *
          have hb4 : Below w3.heap.size w3 W4 := by rw [← hW4]; exact (Below.refl _ _).alloc (Nat.le_refl _) _
          have hs4 : W4.heap.size = w3.heap.size + 1 := by rw [← hW4]; simp
          have hN4 := heap_alloc_new w3 (.cells #[.string ⟨#[]⟩, .slice pa ps.length pc, .int .i64 (kc : Int), .string ⟨#[98, 121, 116, 101, 115]⟩, .int .i64 (ps.length : Int), .slice none 0 0, .string ⟨#[]⟩, .slice pa ps.length pc, .int .i64 (kc : Int), .string ⟨#[98, 121, 116, 101, 115]⟩, .int .i64 ((ps.length : Int) - 1), .slice none 0 0] 25)
          rw [hW4] at hN4
          have hbr4 : Below wr.heap.size wr W4 := below_trans hb23 hb4
          have hRc := sign_call (fun g => w.heap.size ≤ g ∧ g < wr.heap.size) ps kc (.slice pa ps.length pc) w3.heap.size W4 (HTx.out.frame fun g hg => ⟨hg, hbr4.block g hg.2⟩) (fun g hg => Nat.lt_of_lt_of_le hg.2 hbr4.size) (by omega) hN4 HPr2.out hps8 hk1 hk6
          unfold TwoB at hRc
          have HV9 : Hid (StrRow w3 (.slice qa (ps.drop kc).length qc) (ps.drop kc)) := hv9
          clear hPo hv9 hN4
          go_wp2_with fail
          refine hRc.mono ?_
          rintro e w5 ⟨rfl, hb5⟩
          clear hRc
          have hbw5 := below_trans hbw3 (below_trans hb4 hb5)
          have hb35 : Below w3.heap.size w3 w5 := below_trans hb4 hb5
          have hbr5 : Below wr.heap.size wr w5 := below_trans hbr4 hb5
          have hT5 : TxC (fun g => w.heap.size ≤ g ∧ g < wr.heap.size) w5 (.slice pa ps.length pc) ps := HTx.out.frame fun g hg => ⟨hg, hbr5.block g hg.2⟩
          have hCr := cut_row hT5 (fun g hg => Nat.lt_of_lt_of_le hg.2 hbr5.size) kc hk1
          have hva : pa = none ∧ ps.length = 0 ∨ ∃ b o sp, pa = some ⟨b, o, sp⟩ := by
            rcases pa with _ | ⟨b, o, sp⟩
            · left
              rcases hT5.1 with ⟨a, kc, e, hh⟩ | ⟨g, o, cap, e, hg, hcell⟩
              · exact ⟨rfl, by rw [hh]; rfl⟩
              · simp at e
            · exact .inr ⟨b, o, sp, rfl⟩
          have hpc : ps.length ≤ pc := hT5.2 _ _ _ rfl
          have hSm : ∀ a' n' c' m', m' = ps.length - kc → n' = ps.length - kc → (ps.length - kc = 0 ∨ a' = pa.map (·.add kc) ∧ c' = pc - kc) → Calls Tryz.prog 13 #[.slice qa m' qc, .slice a' n' c'] w5 (BoolE true w5) := by
            rintro a' n' c' m' rfl h1 h2
            have := sameS (.slice qa (ps.drop kc).length qc) (.slice a' n' c') (ps.drop kc) (ps.drop kc) w5 (HV9.out.below hb35) (hCr a' n' c' h1 h2) (by rw [List.length_drop]; omega) (by rw [List.length_drop]; omega)
            rw [decide_eq_true rfl, List.length_drop] at this
            exact this
          have hKn : ∀ n, Calls Tryz.prog 14 #[] (w5.drewN n) (BoolB true (w5.drewN n)) := fun n => known14 _
          have HSm := hidden hSm
          clear hT5 hCr hSm HV9 HPr2 HTx hwi hps8
          generalize ps.length = n at *
          rcases hva with ⟨rfl, h0⟩ | ⟨b, o, sp, rfl⟩
          · first
            | (exfalso; omega)
            | (subst h0
               by_cases hv : pc = kc
               · subst hv
                 have n0 : (0 : Int) ≤ (pc : Int) := by omega
                 have n1 : (pc : Int) ≤ ((0 : Nat) : Int) := by omega
                 have n2 : (pc : Int) ≤ (pc : Int) := by omega
                 have n3 : ((0 : Nat) : Int) ≤ (pc : Int) := by omega
                 go_wp2_with (first
                   | (go_at_call 13; refine (HSm.out _ _ _ _ (by omega) (by omega) (by first | exact .inl (by omega) | exact .inr ⟨rfl, rfl⟩)).mono ?_; rintro e w6 ⟨rfl, nn, rfl⟩)
                   | (go_at_call 14; refine (hKn _).mono ?_; rintro e w7 ⟨rfl, hb7⟩))
                 go_ret
                 exact ⟨rfl, below_trans (below_drewN hbw5 _) hb7⟩
               · have hvi : ¬ (pc : Int) = (kc : Int) := by omega
                 have n0 : (0 : Int) ≤ (kc : Int) := by omega
                 have n1 : (kc : Int) ≤ ((0 : Nat) : Int) := by omega
                 have n2 : (kc : Int) ≤ (pc : Int) := by omega
                 have n3 : ((0 : Nat) : Int) ≤ (pc : Int) := by omega
                 go_wp2_with (first
                   | (go_at_call 13; refine (HSm.out _ _ _ _ (by omega) (by omega) (by first | exact .inl (by omega) | exact .inr ⟨rfl, rfl⟩)).mono ?_; rintro e w6 ⟨rfl, nn, rfl⟩)
                   | (go_at_call 14; refine (hKn _).mono ?_; rintro e w7 ⟨rfl, hb7⟩))
                 go_ret
                 exact ⟨rfl, below_trans (below_drewN hbw5 _) hb7⟩)
          · by_cases hv : pc = kc
            · subst hv
              have n0 : (0 : Int) ≤ (pc : Int) := by omega
              have n1 : (pc : Int) ≤ (n : Int) := by omega
              have n2 : (pc : Int) ≤ (pc : Int) := by omega
              have n3 : (n : Int) ≤ (pc : Int) := by omega
              go_wp2_with (first
                | (go_at_call 13; refine (HSm.out _ _ _ _ (by omega) (by omega) (by first | exact .inl (by omega) | exact .inr ⟨rfl, rfl⟩)).mono ?_; rintro e w6 ⟨rfl, nn, rfl⟩)
                | (go_at_call 14; refine (hKn _).mono ?_; rintro e w7 ⟨rfl, hb7⟩))
              go_ret
              exact ⟨rfl, below_trans (below_drewN hbw5 _) hb7⟩
            · have hvi : ¬ (pc : Int) = (kc : Int) := by omega
              have n0 : (0 : Int) ≤ (kc : Int) := by omega
              have n1 : (kc : Int) ≤ (n : Int) := by omega
              have n2 : (kc : Int) ≤ (pc : Int) := by omega
              have n3 : (n : Int) ≤ (pc : Int) := by omega
              go_wp2_with (first
                | (go_at_call 13; refine (HSm.out _ _ _ _ (by omega) (by omega) (by first | exact .inl (by omega) | exact .inr ⟨rfl, rfl⟩)).mono ?_; rintro e w6 ⟨rfl, nn, rfl⟩)
                | (go_at_call 14; refine (hKn _).mono ?_; rintro e w7 ⟨rfl, hb7⟩))
              go_ret
              exact ⟨rfl, below_trans (below_drewN hbw5 _) hb7⟩)
end Go.Proofs.YtokkhdpkadgffaaGreatDoor
