/-
  The statements' Same at texts, and their 'known': some of chapter 5's runs.
-/
import Derived.Test.YtcjlifhehiolkaaGreatTreeParse2
import Derived.Test.YtcjlifhehiolkaaGreatTypesReadWalk
namespace Go.Proofs.YtcjlifhehiolkaaGreat
open Go.RowKit

theorem take_next {xs ys : List (List UInt8)} {k : Nat} (hx : k < xs.length) (hy : k < ys.length) (h : xs.take k = ys.take k) (he : xs[k] = ys[k]) : xs.take (k + 1) = ys.take (k + 1) := by
  rw [List.take_succ_eq_append_getElem hx, List.take_succ_eq_append_getElem hy, h, he]
theorem StrRow.at {w : World} {v : Value} {xs : List (List UInt8)} (h : StrRow w v xs) (i : Nat) (hi : i < xs.length) : ∃ bk o c, v = .slice (some ⟨bk, o, none⟩) xs.length c ∧ w.cell? ⟨bk, o + i, none⟩ = some (.string (str xs[i])) := by
  rcases h with ⟨rfl, _⟩ | ⟨bk, o, c, rfl, _, _, h3⟩
  · simp at hi
  · exact ⟨bk, o, c, rfl, h3 i _ (List.getElem?_eq_getElem hi)⟩

set_option maxHeartbeats 2000000 in
set_option maxRecDepth 1000000 in
theorem sameS (v v' : Value) (xs ys : List (List UInt8)) (w : World) (h : StrRow w v xs) (h' : StrRow w v' ys) (_hl : xs.length ≤ 1000000) (_hl' : ys.length ≤ 1000000) : Calls Tryz.prog 12 #[v, v'] w (BoolE (decide (xs = ys)) w) := by
  obtain ⟨va, vc, hv⟩ := h.shape
  obtain ⟨ua, uc, hu⟩ := h'.shape
  by_cases hn : xs.length = ys.length
  · have hn' : ((xs.length : Int) != (ys.length : Int)) = false := by simp; omega
    have h1 := hidden h
    have h2 := hidden h'
    have H1 : Hid (∃ va vc, v = .slice va xs.length vc) := ⟨va, vc, hv⟩
    clear h h'
    subst hv hu
    go_enter Tryz.func12, Tryz.ntmps12
    go_wp2
    go_loopg [5] xs.length (fun g i wr => ∃ (k n : Nat), g + k = xs.length ∧ i = .int .i64 (k : Int) ∧ Hid (xs.take k = ys.take k) ∧ wr = w.drewN n)
    case atStart => exact ⟨0, 0, rfl, rfl, rfl, rfl⟩
    case round =>
      obtain ⟨k, n, hg, rfl, ht, rfl⟩ := hrel
      by_cases hk : k < xs.length
      · have hky : k < ys.length := by omega
        obtain ⟨b1, o1, c1, e1, q1⟩ := h1.out.at k hk
        obtain ⟨b2, o2, c2, e2, q2⟩ := h2.out.at k hky
        simp only [Value.slice.injEq, true_and] at e1 e2
        obtain ⟨rfl, rfl⟩ := e1
        obtain ⟨rfl, rfl⟩ := e2
        have hki : (k : Int) < (xs.length : Int) := by omega
        have hkj : (k : Int) < (ys.length : Int) := by omega
        by_cases he : xs[k] = ys[k]
        · have HT : Hid (xs.take (k + 1) = ys.take (k + 1)) := take_next hk hky ht.out he
          rw [← he] at q2
          generalize xs[k] = x at *
          clear he ht hn
          go_wp2
          go_region
          go_wp2
          go_roundg (xs.length - (k + 1))
          case measure => omega
          case rel => exact ⟨k + 1, n + 1, by omega, by go_num, HT, rfl⟩
        · have HE : Hid (decide (xs = ys) = false) := decide_eq_false (fun e => he (by subst e; rfl))
          have hne : ((str xs[k]).toList == (str ys[k]).toList) = false := by
            rw [beq_eq_false_iff_ne, Lib.toList_data, Lib.toList_data, str_data, str_data]
            exact he
          have hne' : ((str xs[k]).toList != (str ys[k]).toList) = true := by simp only [bne, hne]; rfl
          clear he ht hn
          generalize xs[k] = x at *
          generalize ys[k] = y at *
          go_wp2
          go_region
          go_wp2
          go_ret
          exact ⟨by rw [HE.out]; rfl, n + 1, rfl⟩
      · have HE : Hid (decide (xs = ys) = true) := by
          refine decide_eq_true ?_
          have := ht.out
          rwa [List.take_of_length_le (by omega), List.take_of_length_le (by omega)] at this
        have hki : ¬ (k : Int) < (xs.length : Int) := by omega
        clear ht hn
        go_wp2
        go_ret
        exact ⟨by rw [HE.out]; rfl, n, rfl⟩
  · have hn' : ((xs.length : Int) != (ys.length : Int)) = true := by simp; omega
    have HE : Hid (decide (xs = ys) = false) := decide_eq_false (fun e => hn (by rw [e]))
    clear hn h h'
    subst hv hu
    go_enter Tryz.func12, Tryz.ntmps12
    go_wp2
    go_ret
    exact ⟨by rw [HE.out]; rfl, 0, rfl⟩

def KnownE (w : World) (e : Ending) (w' : World) : Prop := e = .returned (.bool true) ∧ Below w.heap.size w w'
def leafT (p : Nat) (x : List UInt8) : Tr := ⟨3, p, x, [], ⟨3, p, x⟩⟩
/-- The tree of (fn (num T) (array o.U)). -/
def knownT : Tr := ⟨1, 0, [], [leafT 1 [102, 110], ⟨1, 4, [], [leafT 5 [110, 117, 109], leafT 9 [84]], ⟨2, 10, []⟩⟩, ⟨1, 12, [], [leafT 13 [97, 114, 114, 97, 121], leafT 19 [111, 46, 85]], ⟨2, 22, []⟩⟩], ⟨2, 23, []⟩⟩
theorem known_ok : parseR [40, 102, 110, 32, 40, 110, 117, 109, 32, 84, 41, 32, 40, 97, 114, 114, 97, 121, 32, 111, 46, 85, 41, 41] = .ok knownT := by kernel_rfl
def knownA : Tr := ⟨1, 12, [], [leafT 13 [97, 114, 114, 97, 121], leafT 19 [111, 46, 85]], ⟨2, 22, []⟩⟩
theorem read_leaf (m : List UInt8) (p : Nat) (x : List UInt8) : readR m (leafT p x) = fin m (leafT p x) [] := by
  rw [readR_eq, show partsT (leafT p x) = [] from rfl]
  rfl
theorem known_a : readR [109] knownA = .ok [91, 111, 46, 85, 93] := by
  rw [readR_eq, show partsT knownA = [leafT 19 [111, 46, 85]] from rfl, List.map_cons, List.map_nil, read_leaf, show fin [109] (leafT 19 [111, 46, 85]) [] = .ok [111, 46, 85] from by kernel_rfl]
  kernel_rfl
theorem known_read : readR [109] knownT = .ok [40, 110, 117, 109, 44, 109, 46, 84, 41, 91, 111, 46, 85, 93] := by
  rw [readR_eq, show partsT knownT = [leafT 5 [110, 117, 109], leafT 9 [84], knownA] from rfl, List.map_cons, List.map_cons, List.map_cons, List.map_nil, read_leaf, read_leaf, known_a, show fin [109] (leafT 5 [110, 117, 109]) [] = .ok [110, 117, 109] from by kernel_rfl, show fin [109] (leafT 9 [84]) [] = .ok [109, 46, 84] from by kernel_rfl]
  kernel_rfl
theorem known_parts : partsR [40, 110, 117, 109, 41, 40, 110, 117, 109, 41, 110, 117, 109] = ([[110, 117, 109]], [40, 110, 117, 109, 41, 110, 117, 109]) := by kernel_rfl
theorem known_fn : isFn [40, 110, 117, 109, 41, 40, 110, 117, 109, 41, 110, 117, 109] = true := by kernel_rfl
theorem known_right : rightR [91, 110, 117, 109] = false := by kernel_rfl
theorem known_nodes : nodes knownT ≤ 20000 := by
  simp [knownT, leafT, nodes]
theorem known_tx : TxOk knownT := by
  simp [knownT, leafT, TxOk]

set_option maxHeartbeats 2000000 in
set_option maxRecDepth 1000000 in
theorem known (w : World) : Calls Tryz.prog 17 #[] w (KnownE w) := by
  have h1 : ∀ w, Calls Tryz.prog 6 #[.string ⟨#[40, 110, 117, 109, 41, 40, 110, 117, 109, 41, 110, 117, 109]⟩] w fun e w' => ∃ v, e = .returned (.tuple #[v, .string ⟨#[40, 110, 117, 109, 41, 110, 117, 109]⟩, .bool true]) ∧ StrRow w' v [[110, 117, 109]] ∧ Below w.heap.size w w' := by
    intro w
    refine (partsOf ⟨#[40, 110, 117, 109, 41, 40, 110, 117, 109, 41, 110, 117, 109]⟩ w).mono ?_
    rintro e w' ⟨⟨_, v, h2, h3⟩ | ⟨h2, _⟩, h4⟩
    · rw [known_parts] at h2 h3
      exact ⟨v, h2, h3, h4⟩
    · rw [known_fn] at h2
      cases h2
  have h2 : ∀ w, Calls Tryz.prog 15 #[.string ⟨#[40, 102, 110, 32, 40, 110, 117, 109, 32, 84, 41, 32, 40, 97, 114, 114, 97, 121, 32, 111, 46, 85, 41, 41]⟩] w (PE (.ok knownT) w) := by
    intro w
    have := parse ⟨#[40, 102, 110, 32, 40, 110, 117, 109, 32, 84, 41, 32, 40, 97, 114, 114, 97, 121, 32, 111, 46, 85, 41, 41]⟩ w
    rwa [known_ok] at this
  have h3 : ∀ w, Calls Tryz.prog 10 #[.string ⟨#[91, 110, 117, 109]⟩] w (BoolB false w) := by
    intro w
    have := right ⟨#[91, 110, 117, 109]⟩ w
    rwa [known_right] at this
  go_enter Tryz.func17, Tryz.ntmps17
  go_wp2_with fail
  refine (h1 _).mono ?_
  rintro e w1 ⟨v, rfl, hv, hb1⟩
  clear h1
  go_wp2_with fail
  refine (h2 _).mono ?_
  rintro e w2 ⟨⟨kv, rfl, ht⟩, hb2⟩
  obtain ⟨ka, kc, rfl⟩ := ht.shape
  have hv2 := hv.below hb2
  have hb3 := below_trans hb1 hb2
  clear h2 hv hb1
  have hF2 : ∀ g, (w1.heap.size ≤ g ∧ g < w2.heap.size) → g < w2.heap.size := fun g hg => hg.2
  have hb4 : Below w2.heap.size w2 (w2.alloc (.cells #[.int .i64 (knownT.kind : Int), .int .i64 (knownT.place : Int), .string (str knownT.text), .slice ka knownT.kids.length kc] 34)) := (Below.refl _ _).alloc (Nat.le_refl _) _
  have ht4 := ht.below hb4 hF2
  have hv4 := hv2.below hb4
  have hb5 := below_trans hb3 hb4
  have hrd := read (fun g => w1.heap.size ≤ g ∧ g < w2.heap.size) knownT (.slice ka knownT.kids.length kc) [109] _ (fun g hg => by simp; omega) ht4 known_tx known_nodes (by decide)
  rw [known_read] at hrd
  unfold trv at hrd ⊢
  clear ht hv2 hb3 hb4 ht4 hb2
  go_wp2_with fail
  refine hrd.mono ?_
  rintro e w3 ⟨he, hb6⟩
  simp only at he
  subst he
  have hv6 := hv4.below hb6
  have hb7 := below_trans hb5 hb6
  clear hv4 hb5 hb6 hrd
  have hlit : StrRow (w3.alloc (.cells #[.string ⟨#[110, 117, 109]⟩] 9)) (.slice (some ⟨w3.heap.size, 0, none⟩) 1 1) [[110, 117, 109]] := by
    refine .inr ⟨w3.heap.size, 0, 1, rfl, by simp, by simp, fun j x hj => ?_⟩
    match j, hj with
    | 0, hj => simp at hj; subst hj; simp; rfl
    | j + 1, hj => simp at hj
  have hb8 : Below w3.heap.size w3 (w3.alloc (.cells #[.string ⟨#[110, 117, 109]⟩] 9)) := (Below.refl _ _).alloc (Nat.le_refl _) _
  have hsm := sameS _ _ _ _ _ (hv6.below hb8) hlit (by simp) (by simp)
  rw [decide_eq_true rfl] at hsm
  have hb9 := below_trans hb7 hb8
  have hst : str [40, 110, 117, 109, 44, 109, 46, 84, 41, 91, 111, 46, 85, 93] = ⟨#[40, 110, 117, 109, 44, 109, 46, 84, 41, 91, 111, 46, 85, 93]⟩ := rfl
  rw [hst]
  clear hv6 hb7 hb8 hlit hst
  go_wp2_with fail
  refine hsm.mono ?_
  rintro e w4 ⟨rfl, n, rfl⟩
  have hb10 := below_drewN hb9 n
  clear hb9 hsm
  generalize World.drewN _ n = w5 at *
  go_wp2_with fail
  refine (h3 _).mono ?_
  rintro e w6 ⟨rfl, hb11⟩
  have hb12 := below_trans hb10 hb11
  go_wp2
  go_ret
  exact ⟨rfl, hb12⟩
end Go.Proofs.YtcjlifhehiolkaaGreat
