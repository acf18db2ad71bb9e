/-
  The law on the order of what is exported: its walk.
  And: The statement on the order of what is exported: for every list of names and every turn, what a module exports is told in order, each with its type. No condition.
-/
import Derived.Deep.LoopGhost
import Derived.Deep.CutBlock
import Derived.Deep.CutRange
import Derived.Deep.DeepCutAuto
import Derived.Deep.RegionHeld3
import Derived.Deep.RegionLaw
import Derived.Deep.DrawnRows
import Derived.Deep.QuietTactic
import Derived.BigQuiet
import Derived.Test.YtfddnaeldpafmaaOrdA
import Derived.Test.YtfddnaeldpafmaaIfaceKnown
import Derived.ProofKit
import Derived.OpenShut
import Derived.SizedLaws
import Derived.ChangeShapes
import Derived.WideShapes
import Derived.Test.YtfddnaeldpafmaaRows
import Derived.Test.YtfddnaeldpafmaaIfaceRows
namespace Go.Proofs.Ytfddnaeldpafmaa
open Go.RowKit
attribute [local go_sem ↓] Go.wp_at_zero Go.wp_at_succ

def qj (s : ByteArray) (j : Nat) : List UInt8 := 113 :: (s.data.toList.take j).filter isSmall
theorem qj_yes (s : ByteArray) (j : Nat) (h : j < s.size) (hs : isSmall s[j] = true) : qj s (j + 1) = qj s j ++ [s[j]] := by
  have hk : j < s.data.toList.length := by rw [size_len]; exact h
  unfold qj
  rw [List.take_succ_eq_append_getElem hk, List.filter_append]
  have e : s.data.toList[j] = s[j] := rfl
  simp [e, hs]
theorem qj_no (s : ByteArray) (j : Nat) (h : j < s.size) (hs : isSmall s[j] = false) : qj s (j + 1) = qj s j := by
  have hk : j < s.data.toList.length := by rw [size_len]; exact h
  unfold qj
  rw [List.take_succ_eq_append_getElem hk, List.filter_append]
  have e : s.data.toList[j] = s[j] := rfl
  simp [e, hs]
theorem qj_end (s : ByteArray) (j : Nat) (h : j = 6 ∨ (j ≤ 6 ∧ s.size ≤ j)) : qj s j = qn s.data.toList := by
  unfold qj qn
  rcases h with rfl | ⟨h1, h2⟩
  · rfl
  · rw [List.take_of_length_le (by rw [size_len]; exact h2), List.take_of_length_le (by rw [size_len]; omega)]
theorem cat_one (s : ByteArray) (j : Nat) (h : j < s.size) (l : List UInt8) : str l ++ s.extract j (j + 1) = str (l ++ [s[j]]) := by
  rw [extract_str, str_append, drop_at s j h]
  simp
theorem qj_len (s : ByteArray) (j : Nat) : (qj s j).length ≤ j + 1 := by
  unfold qj
  have h1 := List.length_filter_le isSmall (s.data.toList.take j)
  have h2 : (s.data.toList.take j).length ≤ j := List.length_take_le _ _
  simp only [List.length_cons]
  omega
theorem cat_size (s : ByteArray) (j : Nat) (hj : j ≤ 6) : (str (qj s j)).size + (s.extract j (j + 1)).size ≤ 9223372036854775807 := by
  have h1 := qj_len s j
  have h2 := ByteArray.size_extract (a := s) (b := j) (e := j + 1)
  rw [str_size, h2]
  omega
theorem small_is (c : UInt8) : isSmall c = (decide (97 ≤ (c.toNat : Int)) && decide ((c.toNat : Int) ≤ 122)) := by
  unfold isSmall
  congr 1 <;> (rw [Bool.eq_iff_iff]; simp; omega)
theorem cells_new2 (w : World) (H : Nat) (xs : List Value) (t : TypeId) (hz : w.heap.size = H) : ∀ j u, xs[j]? = some u → (w.alloc (.cells xs.toArray t)).cell? ((⟨H, 0, none⟩ : Addr).add j) = some u := by
  subst hz
  exact cells_new w xs t
theorem cells_new3 (w : World) (H : Nat) (xs : List Value) (t : TypeId) (hz : w.heap.size = H) : ∀ j u, xs[j]? = some u → ((w.alloc (.cells xs.toArray t)).drew).cell? ((⟨H, 0, none⟩ : Addr).add j) = some u := cells_new2 w H xs t hz
theorem below3 (w : World) (A B : Obj) : Below w.heap.size w (((w.alloc A).alloc B).drew) := (((Below.refl _ w).alloc (Nat.le_refl _) A).alloc (by simp) B).drew
theorem below1 (w : World) (A : Obj) : Below w.heap.size w ((w.alloc A).drew) := ((Below.refl _ w).alloc (Nat.le_refl _) A).drew
theorem below_drewQ (w : World) {H : Nat} (n : Nat) : Below H w (w.drewN n) := ⟨rfl, rfl, rfl, Nat.le_refl _, fun _ _ => rfl⟩
theorem drewQ2 (w : World) (a b : Nat) : (w.drewN a).drewN b = w.drewN (a + b) := by simp [World.drewN, Nat.add_assoc]
theorem below2 (w : World) (A B : Obj) : Below w.heap.size w ((w.alloc A).alloc B) := ((Below.refl _ w).alloc (Nat.le_refl _) A).alloc (by simp) B
set_option maxHeartbeats 16000000 in
set_option maxRecDepth 1000000 in
theorem order_walk (F : Nat → Prop) (va : Option Addr) (vc : Nat) (xs : List (List UInt8)) (turn : Int) (w : World) (h : TxR F w (.slice va xs.length vc) xs) (hF : ∀ g, F g → g < w.heap.size) (hxt : ∀ x ∈ xs, Tk x) (hl : xs.length ≤ 8796093022208) (ht0 : -9223372036854775808 ≤ turn) (ht1 : turn ≤ 9223372036854775807) :
    Calls Try.prog 3 #[.slice va xs.length vc, .int .i64 turn] w fun e w' => e = .returned (.bool true) ∧ Below w.heap.size w w' := by
  obtain ⟨n, hn12, hnx, hnE⟩ : ∃ n, n ≤ 12 ∧ n ≤ xs.length ∧ (n < 12 → n = xs.length) := ⟨min xs.length 12, by omega, by omega, by omega⟩
  have hM0 : (w.alloc (.cells #[.string ⟨#[109]⟩, .slice none 0 0, .slice none 0 0, .slice none 0 0, .slice none 0 0, .slice none 0 0] 28)).heap[w.heap.size]? = some (.cells #[.string ⟨#[109]⟩, .slice none 0 0, .slice none 0 0, .slice none 0 0, .slice none 0 0, .slice none 0 0] 28 (0, 0)) := World.alloc_heap_new w _
  have hb0 : Below w.heap.size w (w.alloc (.cells #[.string ⟨#[109]⟩, .slice none 0 0, .slice none 0 0, .slice none 0 0, .slice none 0 0, .slice none 0 0] 28)) := (Below.refl _ _).alloc (Nat.le_refl _) _
  have hh := hidden h
  clear h
  go_enter Try.func3, Try.ntmps3
  go_upto_block 0 with fail
  generalize w.alloc (.cells #[.string ⟨#[109]⟩, .slice none 0 0, .slice none 0 0, .slice none 0 0, .slice none 0 0, .slice none 0 0] 28) = W0 at *
  go_cut [6] (fun wv wx => ∃ (ks : List Kp) (want : List (List UInt8)) (cv : Value), ks.length ≤ 12 ∧ want.length ≤ 12 ∧ Ks ks ∧ Asc want ∧ (∀ x, x ∈ want ↔ x ∈ ks.map Prod.fst) ∧ wx.heap[w.heap.size]? = some (.cells #[.string ⟨#[109]⟩, .slice none 0 0, .slice none 0 0, .slice none 0 0, cv, .slice none 0 0] 28 (0, 0)) ∧ KOwn (w.heap.size + 1) wx cv ks ∧ wx.ownsRow (w.heap.size + 1) 9 1 wv want.length (sc want) ∧ Below w.heap.size w wx)
  case first =>
    go_wp2
    go_loopg [6, 7] n (fun g wv i wr => ∃ (k : Nat) (ks : List Kp) (want : List (List UInt8)) (cv : Value), g + k = n ∧ i = .int .i64 (k : Int) ∧ Hid (ks.length ≤ k) ∧ Hid (want.length ≤ k) ∧ Ks ks ∧ Asc want ∧ (∀ x, x ∈ want ↔ x ∈ ks.map Prod.fst) ∧ wr.heap[w.heap.size]? = some (.cells #[.string ⟨#[109]⟩, .slice none 0 0, .slice none 0 0, .slice none 0 0, cv, .slice none 0 0] 28 (0, 0)) ∧ KOwn (w.heap.size + 1) wr cv ks ∧ wr.ownsRow (w.heap.size + 1) 9 1 wv want.length (sc want) ∧ Below w.heap.size w wr)
    case atStart => exact ⟨0, [], [], _, by omega, rfl, Nat.zero_le _, Nat.zero_le _, Ks.nil, List.Pairwise.nil, by simp, hM0, World.ownsRow_nil _ _ _ _, World.ownsRow_nil _ _ _ _, hb0⟩
    case round =>
      obtain ⟨k, ks, want, cv, hg, rfl, hkl, hwl, hks, hwa, hwm, hMr, hco, hwo, hbr⟩ := hrel
      clear hM0 hb0
      by_cases hk : k < n
      · obtain ⟨bk, o, c, e1, hgF, qx⟩ := (hh.out.below hbr hF).at k (by omega)
        simp only [Value.slice.injEq, true_and] at e1
        obtain ⟨rfl, rfl⟩ := e1
        have hki : (k : Int) < (xs.length : Int) := by omega
        have hk12 : (k : Int) < 12 := by omega
        have hxk := hxt _ (List.getElem_mem (show k < xs.length by omega))
        clear hh hxt
        generalize xs[k] = x at *
        obtain ⟨s, rfl⟩ : ∃ s : ByteArray, x = s.data.toList := ⟨str x, rfl⟩
        rw [str_toList] at qx
        have hsz : s.size ≤ 140737488355328 := by unfold Tk at hxk; rw [size_len] at hxk; exact hxk
        clear hxk
        obtain ⟨m, hm6, hms, hmE⟩ : ∃ m, m ≤ 6 ∧ m ≤ s.size ∧ (m < 6 → m = s.size) := ⟨min s.size 6, by omega, by omega, by omega⟩
        go_upto_block 2 with fail
        go_cut [8] from 19 to 103 (fun c wx => c = .string (str (qn s.data.toList)) ∧ wx = wr)
        case first =>
          go_wp2
          go_loopg [8, 9] m (fun g t i wq => ∃ (j : Nat), g + j = m ∧ i = .int .i64 (j : Int) ∧ t = .string (str (qj s j)) ∧ wq = wr)
          case atStart => exact ⟨0, by omega, rfl, rfl, rfl⟩
          case round =>
            obtain ⟨j, hgj, rfl, rfl, rfl⟩ := hrel
            by_cases hj : j < m
            · have hjs : j < s.size := by omega
              have hj6 : (j : Int) < 6 := by omega
              have hj1 : (j : Int) + 1 ≤ (s.size : Int) := by omega
              have hcs := cat_size s j (by omega)
              have hcat := hidden (cat_one s j hjs (qj s j))
              have hsm := small_is s[j]
              by_cases h1 : 97 ≤ (s[j].toNat : Int)
              · by_cases h2 : (s[j].toNat : Int) ≤ 122
                · rw [decide_eq_true h1, decide_eq_true h2] at hsm
                  have HQ := hidden (qj_yes s j hjs hsm)
                  clear hsm
                  go_wp2
                  go_roundg (m - (j + 1))
                  case measure => omega
                  case rel => exact ⟨j + 1, by omega, by go_num, by rw [HQ.out, ← hcat.out], rfl⟩
                · rw [decide_eq_true h1, decide_eq_false h2] at hsm
                  have HQ := hidden (qj_no s j hjs hsm)
                  clear hsm
                  go_wp2
                  go_roundg (m - (j + 1))
                  case measure => omega
                  case rel => exact ⟨j + 1, by omega, by go_num, by rw [HQ.out], rfl⟩
              · rw [decide_eq_false h1] at hsm
                have HQ := hidden (qj_no s j hjs hsm)
                clear hsm
                go_wp2
                go_roundg (m - (j + 1))
                case measure => omega
                case rel => exact ⟨j + 1, by omega, by go_num, by rw [HQ.out], rfl⟩
            · have hqe := hidden (qj_end s j (by omega))
              have hji : (j < s.size ∧ ¬ (j : Int) < 6) ∨ ¬ j < s.size := by omega
              rcases hji with ⟨hjs, hji⟩ | hji
              all_goals (
                go_wp2
                go_meet
                exact ⟨by rw [hqe.out], rfl⟩)
        case rest =>
          obtain ⟨rfl, rfl⟩ := hcut
          generalize hxl : s.data.toList = xl at *
          have hsnoc : ks.any (fun x => decide (x.1 = qn xl)) = false → Ks (ks ++ [(qn xl, tyOf k)]) := fun hn => hks.snoc xl k hn
          clear hxl
          generalize qn xl = q at *
          obtain ⟨ca, cc, rfl⟩ := hco.shape
          have m4 : wc.cell? ⟨w.heap.size, 4, none⟩ = some (.slice ca ks.length cc) := by rw [cell_of_row _ _ 4 _ _ _ hMr]; rfl
          have hkl12 : ks.length ≤ 12 := by have := hkl.out; omega
          have hMlt : w.heap.size < wc.heap.size := (Array.getElem?_eq_some_iff.1 hMr).1
          rename World => wr
          go_wp2
          go_loopg [10, 11] ks.length (fun g f i wq => ∃ (b : Nat), g + b = ks.length ∧ i = .int .i64 (b : Int) ∧ f = .bool ((ks.take b).any (fun x => decide (x.1 = q))) ∧ wq = wr)
          case atStart => exact ⟨0, by omega, rfl, rfl, rfl⟩
          case round =>
            obtain ⟨b, hgb, rfl, hf, rfl⟩ := hrel
            by_cases hb : b < ks.length
            · obtain ⟨gc, capc, ec, _, _, _, qc⟩ := hco.at b hb
              simp only [Value.slice.injEq, true_and] at ec
              obtain ⟨rfl, rfl⟩ := ec
              have q0 : wr.cell? ⟨gc, b * 11, none⟩ = some (.string (str ks[b].1)) := qc 0 _ rfl
              have hbi : (b : Int) < (ks.length : Int) := by omega
              have HT : Hid ((ks.take (b + 1)).any (fun x => decide (x.1 = q)) = ((ks.take b).any (fun x => decide (x.1 = q)) || decide (ks[b].1 = q))) := by
                rw [hid_iff, List.take_succ_eq_append_getElem hb, List.any_append]
                simp only [List.any_cons, List.any_nil, Bool.or_false]
              have he := eq_is ks[b].1 q
              clear qc
              generalize (ks.take b).any (fun x => decide (x.1 = q)) = fb at *
              generalize decide (ks[b].1 = q) = dz at *
              generalize ks[b].1 = z at *
              subst hf
              cases fb
              · go_wp2
                go_roundg (ks.length - (b + 1))
                case measure => omega
                case rel => exact ⟨b + 1, by omega, by go_num, by rw [HT.out]; rfl, rfl⟩
              · go_wp2
                go_roundg (ks.length - (b + 1))
                case measure => omega
                case rel => exact ⟨b + 1, by omega, by go_num, by rw [HT.out]; rfl, rfl⟩
            · have hbi : ¬ (b : Int) < (ks.length : Int) := by omega
              rw [List.take_of_length_le (by omega)] at hf
              have hany : ks.any (fun x => decide (x.1 = q)) = true ∨ ks.any (fun x => decide (x.1 = q)) = false := by cases ks.any (fun x => decide (x.1 = q)) <;> simp
              rcases hany with hany | hany
              · rw [hany] at hf
                subst hf
                clear hany
                go_wp2
                go_roundg (n - (k + 1))
                case measure => omega
                case rel => exact ⟨k + 1, ks, want, _, by omega, by go_num, by have := hkl.out; rw [hid_iff]; omega, by have := hwl.out; rw [hid_iff]; omega, hks, hwa, hwm, hMr, hco, hwo, hbr⟩
              · rw [hany] at hf
                subst hf
                have hKs := hsnoc hany
                clear hsnoc hany
                have hne : ∀ b, (Value.slice ca ks.length cc).ownBlock = some b → w.heap.size + 1 ≤ b := fun b hb => (owns_block hco hb).1
                have hcoU : ∀ u, Below wr.heap.size wr u → KOwn (w.heap.size + 1) u (.slice ca ks.length cc) ks := fun u hu => owns_below hco hu
                have hfin : ∀ u w7 : World, Below wr.heap.size wr u → u.grownBy w7 (Value.slice ca ks.length cc).ownBlock → w7.heap[w.heap.size]? = some (.cells #[.string ⟨#[109]⟩, .slice none 0 0, .slice none 0 0, .slice none 0 0, .slice ca ks.length cc, .slice none 0 0] 28 (0, 0)) ∧ w7.ownsRow (w.heap.size + 1) 9 1 u6 want.length (sc want) ∧ Below w.heap.size w w7 := fun u w7 hu hg7 => by
                  have hs := hu.size
                  refine ⟨(hg7.block w.heap.size (by omega) (fun e => by have := hne _ e.symm; omega)).trans ((hu.block _ hMlt).trans hMr), ?_, ?_⟩
                  · exact owns_kept (owns_below hwo hu) (kept_grown hg7) (fun b hb e => apart_rows (owns_below hwo hu) (hcoU u hu) (by decide) hb e)
                  · exact (hbr.trans (hu.mono (by omega))).grown hg7 (by omega) (fun b hb => by have := hne _ hb; omega)
                have hpar : k % 2 = 0 ∨ k % 2 = 1 := by omega
                have hlen1 : ks.length + 1 ≤ 100 := by omega
                clear hco hwo hMr hbr hks
                go_upto_region 18 with fail
                go_cut [] from 19 to 103 (fun wx => ∃ v8, wx.heap[w.heap.size]? = some (.cells #[.string ⟨#[109]⟩, .slice none 0 0, .slice none 0 0, .slice none 0 0, v8, .slice none 0 0] 28 (0, 0)) ∧ KOwn (w.heap.size + 1) wx v8 (ks ++ [(q, tyOf k)]) ∧ wx.ownsRow (w.heap.size + 1) 9 1 u6 want.length (sc want) ∧ Below w.heap.size w wx)
                case first =>
                  rcases hpar with hpar | hpar
                  · have hty : tyOf k = numT := by unfold tyOf; rw [if_pos hpar]
                    have HTY := hidden hty
                    have hp1 : (k : Int).tmod 2 = 0 := by rw [tmod2, hpar]; rfl
                    clear hty hpar
                    go_region_law (refine step_const (by rfl) (.tmp 89) (.tmp 98) (by rfl) (w.heap.size + 1) _ ks (by rfl) (hcoU _ (below3 _ _ _)) (q, numT) _ 1 (by rfl) (cells_new3 _ _ _ _ (by simp)) hlen1 (by simp; omega) ?_; intro g7 cap7 w7 ho7 hg7; obtain ⟨hM7, hw7, hb7⟩ := hfin _ w7 (below3 _ _ _) hg7; have c7 : w7.cell? ⟨w.heap.size, 4, none⟩ = some (.slice ca ks.length cc) := (by rw [cell_of_row _ _ 4 _ _ _ hM7]; rfl); have f7 := frozen_of_row w7 w.heap.size 4 _ _ hM7)
                    all_goals (
                      go_wp2_with fail
                      go_meet
                      exact ⟨_, by simpa using heap_setCell_same w7 w.heap.size 4 _ _ (.slice (some ⟨g7, 0, none⟩) (ks.length + 1) cap7) hM7, by rw [HTY.out]; exact owns_set ho7 (Nat.lt_succ_self w.heap.size) 4 _, owns_set hw7 (Nat.lt_succ_self w.heap.size) 4 _, hb7.setCell (p := ⟨w.heap.size, 4, none⟩) (Nat.le_refl _) _⟩)
                  · have hty : tyOf k = bytesT := by unfold tyOf; rw [if_neg (by omega)]
                    have HTY := hidden hty
                    have hp1 : (k : Int).tmod 2 = 1 := by rw [tmod2, hpar]; rfl
                    clear hty hpar
                    go_region_law (refine step_const (by rfl) (.tmp 89) (.tmp 98) (by rfl) (w.heap.size + 1) _ ks (by rfl) (hcoU _ (below3 _ _ _)) (q, bytesT) _ 1 (by rfl) (cells_new3 _ _ _ _ (by simp)) hlen1 (by simp; omega) ?_; intro g7 cap7 w7 ho7 hg7; obtain ⟨hM7, hw7, hb7⟩ := hfin _ w7 (below3 _ _ _) hg7; have c7 : w7.cell? ⟨w.heap.size, 4, none⟩ = some (.slice ca ks.length cc) := (by rw [cell_of_row _ _ 4 _ _ _ hM7]; rfl); have f7 := frozen_of_row w7 w.heap.size 4 _ _ hM7)
                    all_goals (
                      go_wp2_with fail
                      go_meet
                      exact ⟨_, by simpa using heap_setCell_same w7 w.heap.size 4 _ _ (.slice (some ⟨g7, 0, none⟩) (ks.length + 1) cap7) hM7, by rw [HTY.out]; exact owns_set ho7 (Nat.lt_succ_self w.heap.size) 4 _, owns_set hw7 (Nat.lt_succ_self w.heap.size) 4 _, hb7.setCell (p := ⟨w.heap.size, 4, none⟩) (Nat.le_refl _) _⟩)
                case rest =>
                  obtain ⟨v8, hM8, ho8, hw8, hb8⟩ := hcut
                  rename World => w8
                  clear hfin hcoU hne qx m4
                  have hput := putO _ want q w8 (strRow_own hw8) (by have := hwl.out; omega)
                  have hlt8 : w.heap.size < w8.heap.size := (Array.getElem?_eq_some_iff.1 hM8).1
                  obtain ⟨wa, wcap, hwv⟩ := (strRow_own hw8).shape
                  subst hwv
                  go_wp2_with fail
                  refine hput.mono ?_
                  rintro e w9 ⟨v9, rfl, ho9, hb9⟩
                  go_wp2
                  go_roundg (n - (k + 1))
                  case measure => omega
                  case rel =>
                    refine ⟨k + 1, ks ++ [(q, tyOf k)], putR want q, v8, by omega, by go_num, by have := hkl.out; rw [hid_iff]; simp; omega, by have := hwl.out; have := putR_length q want; rw [hid_iff]; omega, hKs, putR_asc q want hwa, fun x => ?_, (hb9.block _ hlt8).trans hM8, owns_below ho8 hb9, owns_base ho9 (by omega), hb8.trans (hb9.mono (by omega))⟩
                    rw [putR_mem, hwm]
                    simp
      · have hji : (k < xs.length ∧ ¬ (k : Int) < 12) ∨ ¬ (k : Int) < (xs.length : Int) := by omega
        have hkl12 : ks.length ≤ 12 := by have := hkl.out; omega
        have hwl12 : want.length ≤ 12 := by have := hwl.out; omega
        rcases hji with ⟨hjs, hji⟩ | hji
        · have hjs2 : (k : Int) < (xs.length : Int) := by omega
          go_wp2
          go_meet
          exact ⟨ks, want, cv, hkl12, hwl12, hks, hwa, hwm, hMr, hco, hwo, hbr⟩
        · go_wp2
          go_meet
          exact ⟨ks, want, cv, hkl12, hwl12, hks, hwa, hwm, hMr, hco, hwo, hbr⟩
  case rest =>
    obtain ⟨ks, want, cv, hkl12, hwl12, hks, hwa, hwm, hMr, hco, hwo, hbr⟩ := hcut
    rename World => w4
    clear hM0 hb0 hh hxt hl hn12 hnx hnE hF
    obtain ⟨ca, cc, rfl⟩ := hco.shape
    obtain ⟨wa, wcp, hwv⟩ := (strRow_own hwo).shape
    subst hwv
    have m4 : w4.cell? ⟨w.heap.size, 4, none⟩ = some (.slice ca ks.length cc) := by rw [cell_of_row _ _ 4 _ _ _ hMr]; rfl
    have hMlt : w.heap.size < w4.heap.size := (Array.getElem?_eq_some_iff.1 hMr).1
    go_upto_if 107 with fail
    go_cut [12] (fun c wx => ∃ (kk : Nat), c = .int .i64 (kk : Int) ∧ ((ks.length = 0 ∧ kk = 0) ∨ kk < ks.length) ∧ wx = w4)
    case first =>
      by_cases hk0 : 0 < ks.length
      · have hki : (0 : Int) < (ks.length : Int) := by omega
        obtain ⟨hi, hhi⟩ : ∃ hi : Nat, ks.length = hi + 1 := ⟨ks.length - 1, by omega⟩
        have hw := withinQ turn hi ht0 ht1 (by omega) w4
        have hb1 := Int.emod_lt_of_pos turn (show 0 < (hi : Int) + 1 by omega)
        have hb2 := Int.emod_nonneg turn (show (hi : Int) + 1 ≠ 0 by omega)
        have hhi2 : (ks.length : Int) - 1 = (hi : Int) := by omega
        have HI := hidden hhi
        clear hhi
        generalize turn % ((hi : Int) + 1) = tk at *
        obtain ⟨kk, rfl⟩ : ∃ kk : Nat, tk = (kk : Int) := ⟨tk.toNat, by omega⟩
        go_wp2_with (go_at_call 5; refine hw.mono ?_; rintro e w5 ⟨rfl, rfl⟩)
        go_meet
        exact ⟨kk, rfl, .inr (by have := HI.out; omega), rfl⟩
      · have hki : ¬ (0 : Int) < (ks.length : Int) := by omega
        go_wp2
        go_meet
        exact ⟨0, rfl, .inl ⟨by omega, rfl⟩, rfl⟩
    case rest =>
      obtain ⟨kk, rfl, hkk, rfl⟩ := hcut
      rename World => w4
      obtain ⟨es, hesl, hsn, hdef, hdis, hgood, hetk⟩ : ∃ es : List (List UInt8), es.length = ks.length ∧ (∀ b, (hb : b < ks.length) → es.take (b + 1) = es.take b ++ [(ks[(b + kk) % ks.length]'(Nat.mod_lt _ (Nat.lt_of_le_of_lt (Nat.zero_le _) hb))).1]) ∧ (∀ q ∈ es, (findK ks q).isSome = true) ∧ (∀ i (hi : i < es.length), (es.take i).any (fun y => decide (y = es[i])) = false) ∧ (∀ d : List Kp, d.Perm (es.map (pickK ks)) → (∀ (i j : Nat) (hi : i < d.length) (hj : j < d.length), i < j → d[i].1 ≤ d[j].1) → Asc (d.map Prod.fst) ∧ d.Perm ks ∧ rightI [109] (d.map kIt) = 0) ∧ ∀ x ∈ es, Tk x :=
        ⟨turnK ks kk, turnK_length ks kk, fun b hb => turnK_snoc ks kk b (by omega) hb, turn_def hks kk, turn_dis hks kk, turn_good hks kk hkl12, turn_tk hks kk⟩
      have hktk := ks_tk hks
      have hcb : ∀ b, (Value.slice ca ks.length cc).ownBlock = some b → w.heap.size + 1 ≤ b ∧ b < w4.heap.size := fun b hb => owns_block hco hb
      have hwb : ∀ b, (Value.slice wa want.length wcp).ownBlock = some b → w.heap.size + 1 ≤ b ∧ b < w4.heap.size := fun b hb => owns_block hwo hb
      have hcoU : ∀ u, Kept (fun x => x = w.heap.size) w4 u → KOwn (w.heap.size + 1) u (.slice ca ks.length cc) ks := fun u hu => owns_kept hco hu (fun b hb e => by have := (hcb b hb).1; omega)
      have hwoU : ∀ u, Kept (fun x => x = w.heap.size) w4 u → u.ownsRow (w.heap.size + 1) 9 1 (.slice wa want.length wcp) want.length (sc want) := fun u hu => owns_kept hwo hu (fun b hb e => by have := (hwb b hb).1; omega)
      have hbU : ∀ u, Kept (fun x => x = w.heap.size) w4 u → Below w.heap.size w u := fun u hu => hbr.trans (hu.below (by omega) (fun x hx e => by omega))
      clear hco hwo hbr m4
      go_wp2
      go_loopg [13] ks.length (fun g i wr => ∃ (b : Nat) (ev : Value), g + b = ks.length ∧ i = .int .i64 (b : Int) ∧ wr.heap[w.heap.size]? = some (.cells #[.string ⟨#[109]⟩, .slice none 0 0, ev, .slice none 0 0, .slice ca ks.length cc, .slice none 0 0] 28 (0, 0)) ∧ wr.ownsRow w4.heap.size 9 1 ev (es.take b).length (sc (es.take b)) ∧ Kept (fun x => x = w.heap.size) w4 wr)
      case atStart => exact ⟨0, _, by omega, rfl, hMr, by simpa [sc] using World.ownsRow_nil _ _ _ _, Kept.refl _ _⟩
      case round =>
        obtain ⟨b, ev, hg, rfl, hM5, hev, K5⟩ := hrel
        obtain ⟨ea, ec, rfl, hec⟩ := cap_own hev
        have m0 : wr.cell? ⟨w.heap.size, 0, none⟩ = some (.string ⟨#[109]⟩) := by rw [cell_of_row _ _ 0 _ _ _ hM5]; rfl
        have m1 : wr.cell? ⟨w.heap.size, 1, none⟩ = some (.slice none 0 0) := by rw [cell_of_row _ _ 1 _ _ _ hM5]; rfl
        have m2 : wr.cell? ⟨w.heap.size, 2, none⟩ = some (.slice ea (es.take b).length ec) := by rw [cell_of_row _ _ 2 _ _ _ hM5]; rfl
        have m3 : wr.cell? ⟨w.heap.size, 3, none⟩ = some (.slice none 0 0) := by rw [cell_of_row _ _ 3 _ _ _ hM5]; rfl
        have m4 : wr.cell? ⟨w.heap.size, 4, none⟩ = some (.slice ca ks.length cc) := by rw [cell_of_row _ _ 4 _ _ _ hM5]; rfl
        have m5 : wr.cell? ⟨w.heap.size, 5, none⟩ = some (.slice none 0 0) := by rw [cell_of_row _ _ 5 _ _ _ hM5]; rfl
        have hs5 := K5.size
        by_cases hb : b < ks.length
        · have hbi : (b : Int) < (ks.length : Int) := by omega
          have HSN := hidden (hsn b hb)
          have hidx : (b + kk) % ks.length < ks.length := Nat.mod_lt _ (by omega)
          obtain ⟨gc, capc, e1, _, hgc, _, qc⟩ := (hcoU wr K5).at _ hidx
          simp only [Value.slice.injEq, true_and] at e1
          obtain ⟨rfl, rfl⟩ := e1
          have q0 : wr.cell? ⟨gc, (b + kk) % ks.length * 11, none⟩ = some (.string (str ks[(b + kk) % ks.length].1)) := qc 0 _ rfl
          have htm : ((b : Int) + (kk : Int)).tmod (ks.length : Int) = (((b + kk) % ks.length : Nat) : Int) := by
            have := tmodN (b + kk) ks.length (by omega)
            rw [← this]
            simp
          have hgc4 := (hcb gc rfl)
          have hevb : ∀ x, (Value.slice ea (es.take b).length ec).ownBlock = some x → w4.heap.size ≤ x := fun x hx => (owns_block hev hx).1
          have hevU : ∀ u, Below wr.heap.size wr u → u.ownsRow w4.heap.size 9 1 (.slice ea (es.take b).length ec) (es.take b).length (sc (es.take b)) := fun u hu => owns_below hev hu
          have htl : (es.take b).length ≤ 12 := by simp; omega
          clear qc hsn hdef hdis hgood hetk
          generalize (ks[(b + kk) % ks.length]'hidx).1 = z at *
          generalize (b + kk) % ks.length = idx at *
          generalize es.take b = acc at *
          have hfin : ∀ u w7 : World, Below wr.heap.size wr u → u.grownBy w7 (Value.slice ea acc.length ec).ownBlock → w7.heap[w.heap.size]? = some (.cells #[.string ⟨#[109]⟩, .slice none 0 0, .slice ea acc.length ec, .slice none 0 0, .slice (some ⟨gc, 0, none⟩) ks.length cc, .slice none 0 0] 28 (0, 0)) ∧ (w7.cell? ⟨w.heap.size, 2, none⟩ = some (.slice ea acc.length ec) ∧ w7.cell? ⟨w.heap.size, 4, none⟩ = some (.slice (some ⟨gc, 0, none⟩) ks.length cc) ∧ w7.cell? ⟨gc, idx * 11, none⟩ = some (.string (str z))) ∧ Kept (fun x => x = w.heap.size) w4 w7 := fun u w7 hu hg7 => by
            have hs := hu.size
            have hM7 := (hg7.block w.heap.size (by omega) (fun e => by have := hevb _ e.symm; omega)).trans ((hu.block _ (by omega)).trans hM5)
            have hG7 := (hg7.block gc (by omega) (fun e => by have := hevb _ e.symm; omega)).trans (hu.block gc (by omega))
            refine ⟨hM7, ⟨by rw [cell_of_row _ _ 2 _ _ _ hM7]; rfl, by rw [cell_of_row _ _ 4 _ _ _ hM7]; rfl, (World.cell?_of_block (a := ⟨gc, idx * 11, none⟩) hG7).trans q0⟩, ?_⟩
            exact (K5.trans (kept_below hu) (fun _ _ h => h) (fun _ _ h => h.elim)).trans (kept_grown hg7) (fun _ _ h => h) (fun x hx h => absurd (hevb x h) (by omega))
          have hz1 : ¬ ((ks.length : Int) = 0) := by omega
          have hz2 : ¬ (ks = []) := fun e => by subst e; simp at hb
          have hz3 : (0 : Int) < (ks.length : Int) := by omega
          have hMlr : w.heap.size < wr.heap.size := by omega
          have hidxi : ((idx : Nat) : Int) < (ks.length : Int) := by omega
          have hwr : IntKind.i64.wrap ((b : Int) + (kk : Int)) = (b : Int) + (kk : Int) := by rw [IntKind.wrap_i64]; omega
          clear K5 hev hcoU hwoU hbU hcb hwb
          have hfin2 : ∀ w7 g7 cap7, w7.heap[w.heap.size]? = some (.cells #[.string ⟨#[109]⟩, .slice none 0 0, .slice ea acc.length ec, .slice none 0 0, .slice (some ⟨gc, 0, none⟩) ks.length cc, .slice none 0 0] 28 (0, 0)) → w7.ownsRow w4.heap.size 9 1 (.slice (some ⟨g7, 0, none⟩) (acc.length + 1) cap7) (acc ++ [z]).length (sc (acc ++ [z])) → Kept (fun x => x = w.heap.size) w4 w7 → (w7.setCell ⟨w.heap.size, 2, none⟩ (.slice (some ⟨g7, 0, none⟩) (acc.length + 1) cap7)).heap[w.heap.size]? = some (.cells #[.string ⟨#[109]⟩, .slice none 0 0, .slice (some ⟨g7, 0, none⟩) (acc.length + 1) cap7, .slice none 0 0, .slice (some ⟨gc, 0, none⟩) ks.length cc, .slice none 0 0] 28 (0, 0)) ∧ (w7.setCell ⟨w.heap.size, 2, none⟩ (.slice (some ⟨g7, 0, none⟩) (acc.length + 1) cap7)).ownsRow w4.heap.size 9 1 (.slice (some ⟨g7, 0, none⟩) (acc.length + 1) cap7) (acc ++ [z]).length (sc (acc ++ [z])) ∧ Kept (fun x => x = w.heap.size) w4 (w7.setCell ⟨w.heap.size, 2, none⟩ (.slice (some ⟨g7, 0, none⟩) (acc.length + 1) cap7)) := fun w7 g7 cap7 h1 h2 h3 => by
            refine ⟨?_, owns_set h2 hMlt 2 _, h3.setCell (p := ⟨w.heap.size, 2, none⟩) (fun _ => rfl) _⟩
            simpa using heap_setCell_same w7 w.heap.size 2 _ _ (.slice (some ⟨g7, 0, none⟩) (acc.length + 1) cap7) h1
          go_upto_block 7 with fail
          go_cut [] from 114 to 137 (fun wx => ∃ v8, wx.heap[w.heap.size]? = some (.cells #[.string ⟨#[109]⟩, .slice none 0 0, v8, .slice none 0 0, .slice (some ⟨gc, 0, none⟩) ks.length cc, .slice none 0 0] 28 (0, 0)) ∧ wx.ownsRow w4.heap.size 9 1 v8 (acc ++ [z]).length (sc (acc ++ [z])) ∧ Kept (fun x => x = w.heap.size) w4 wx)
          case first =>
            go_wp2_with fail
            go_region_law (refine step_text (by rfl) (.tmp 122) (.tmp 135) (by rfl) w4.heap.size _ acc (by rfl) (hevU _ (below1 _ _)) z _ 1 (by rfl) (cells_new3 _ _ _ _ (by simp)) (by omega) (by simp; omega) ?_; intro g7 cap7 w7 ho7 hg7; obtain ⟨hM7, S7, K7⟩ := hfin _ w7 (below1 _ _) hg7; have f7 := frozen_of_row w7 w.heap.size 2 _ _ hM7)
            all_goals (
              have hR := hfin2 w7 g7 cap7 hM7 ho7 K7
              clear hfin hfin2
              go_wp2_with fail
              go_meet
              exact ⟨_, hR.1, hR.2.1, hR.2.2⟩)
          case rest =>
            obtain ⟨v8, hM8, ho8, K8⟩ := hcut
            rename World => w8
            clear hfin hfin2
            go_wp2
            go_roundg (ks.length - (b + 1))
            case measure => omega
            case rel => exact ⟨b + 1, v8, by omega, by go_num, hM8, by rw [HSN.out]; exact ho8, K8⟩
        · have hbi : ¬ (b : Int) < (ks.length : Int) := by omega
          rw [List.take_of_length_le (by omega)] at m2 hev hec
          rename World => w5
          have hKd := (hcoU w5 K5).row
          have hTe := tx_own hev
          have hF5 : ∀ g, (w.heap.size + 1 ≤ g ∧ g < w5.heap.size) → g < w5.heap.size := fun g hg => hg.2
          have hof : Calls Try.prog 6 #[.agg #[.string ⟨#[109]⟩, .slice none 0 0, .slice ea es.length ec, .slice none 0 0, .slice ca ks.length cc, .slice none 0 0]] w5 (OfGood [109] (es.map (pickK ks)) w5) := of_good (fun g => w.heap.size + 1 ≤ g ∧ g < w5.heap.size) [109] ea ec es ca cc ks (.int .i64 1) (.int .i64 0) (.string ⟨#[]⟩) (.complex .f64 0 0) (.string ⟨#[]⟩) (.string ⟨#[]⟩) (.slice none 0 0) (.slice none 0 0) (.slice none 0 0) (fun _ _ => by kernel_rfl) w5 (hKd.imp (fun g hg => by have := hcb g hg; omega)) (hTe.frame (fun g hg => ⟨⟨by omega, hg.2⟩, rfl⟩)) hF5 hktk (by unfold Tk; decide) hetk (by omega) (by omega) hec hdef hdis (fun d h1 h2 => (hgood d h1 h2).2.2)
          have HES := hidden hesl
          clear hdef hdis hsn hKd hTe hF5 hev hetk hesl hkk
          go_wp2_with fail
          refine hof.mono ?_
          rintro e w6 ⟨v, d, he, hp, hsd, hit, hb6⟩
          obtain ⟨hda, hdp, _⟩ := hgood d hp hsd
          have hnames := hidden (order_names hdp hda hwa hwm)
          have hdl : d.length = want.length := by rw [← hnames.out, List.length_map]
          obtain ⟨fa, fc, rfl⟩ := hit.shape
          rw [List.length_map] at he hit
          have he' : e = .returned (.tuple #[.agg #[.string ⟨#[109]⟩, .slice fa d.length fc], .int .i64 0]) := he
          subst he'
          have hs6 := hb6.size
          have HDL := hidden hdl
          have hne0 : ((d.length : Int) != (want.length : Int)) = false := by rw [hdl]; simp
          have hsame : ∀ a, (ha : a < d.length) → ∀ c, (hc : c < ks.length) → ks[c].1 = d[a].1 → ks[c].2 = d[a].2 := fun a ha c hc e => by
            rw [hks.same (List.getElem_mem hc) (hdp.mem_iff.1 (List.getElem_mem ha)) e]
          have hnm : ∀ a, (ha : a < d.length) → (hw : a < want.length) → d[a].1 = want[a] := fun a ha hw => by
            have h1 := congrArg (fun l => l[a]?) hnames.out
            simpa [ha, hw] using h1
          have hbA : Below w6.heap.size w6 (w6.alloc (.cells #[.string ⟨#[109]⟩, .slice fa d.length fc] 41)) := (Below.refl _ _).alloc (Nat.le_refl _) _
          have hb7 : Below w5.heap.size w5 (w6.alloc (.cells #[.string ⟨#[109]⟩, .slice fa d.length fc] 41)) := hb6.trans (hbA.mono hs6)
          have hNf : (w6.alloc (.cells #[.string ⟨#[109]⟩, .slice fa d.length fc] 41)).heap[w6.heap.size]? = some (.cells #[.string ⟨#[109]⟩, .slice fa d.length fc] 41 (0, 0)) := World.alloc_heap_new w6 _
          have hM7 := (hb7.block w.heap.size (by omega)).trans hM5
          have n1 : (w6.alloc (.cells #[.string ⟨#[109]⟩, .slice fa d.length fc] 41)).cell? ⟨w6.heap.size, 1, none⟩ = some (.slice fa d.length fc) := by rw [cell_of_row _ _ 1 _ _ _ hNf]; rfl
          have n4 : (w6.alloc (.cells #[.string ⟨#[109]⟩, .slice fa d.length fc] 41)).cell? ⟨w.heap.size, 4, none⟩ = some (.slice ca ks.length cc) := by rw [cell_of_row _ _ 4 _ _ _ hM7]; rfl
          have hco7 : KOwn (w.heap.size + 1) (w6.alloc (.cells #[.string ⟨#[109]⟩, .slice fa d.length fc] 41)) (.slice ca ks.length cc) ks := owns_below (hcoU w5 K5) hb7
          have hwo7 := strRow_own (owns_below (hwoU w5 K5) hb7)
          have hit7 := hit.below hbA (fun g hg => hg.2)
          have hbw7 : Below w.heap.size w (w6.alloc (.cells #[.string ⟨#[109]⟩, .slice fa d.length fc] 41)) := (hbU w5 K5).trans (hb7.mono (by omega))
          clear hgood hof hp hsd m0 m1 m2 m3 m4 m5 hdl he hnames hcoU hwoU hbU hcb hwb hM7 hNf hM5 hMr hit hb6 hbA hb7 K5 hdp hda hwm hwa hks hktk hec
          go_upto_block 8 with fail
          generalize w6.alloc (.cells #[.string ⟨#[109]⟩, .slice fa d.length fc] 41) = W7 at *
          go_wp2
          go_loopg [16] want.length (fun g i wr => ∃ (a nn : Nat), g + a = want.length ∧ i = .int .i64 (a : Int) ∧ wr = W7.drewN nn)
          case atStart => exact ⟨0, 0, by omega, rfl, rfl⟩
          case round =>
            obtain ⟨a, nn, hga, rfl, rfl⟩ := hrel
            by_cases ha : a < want.length
            · have had : a < d.length := by have := HDL.out; omega
              obtain ⟨bw, ow, cw, e1, qw⟩ := hwo7.atJ a ha
              simp only [Value.slice.injEq, true_and] at e1
              obtain ⟨rfl, rfl⟩ := e1
              obtain ⟨gi, oi, ci, cvi, e2, _, _, k0, k1, k2, _⟩ := hit7.at a (by simpa using had)
              simp only [Value.slice.injEq, true_and, List.length_map] at e2
              obtain ⟨rfl, rfl⟩ := e2
              simp only [List.getElem_map, kIt] at k0 k1 k2
              rw [hnm a had ha] at k1
              have hai : (a : Int) < (want.length : Int) := by omega
              have hadi : (a : Int) < (d.length : Int) := by omega
              have hs2 : ∀ c, (hc : c < ks.length) → ks[c].1 = want[a] → ks[c].2 = d[a].2 := fun c hc e => hsame a had c hc (by rw [hnm a had ha]; exact e)
              have hnz : ((str want[a]).toList != (str want[a]).toList) = false := by simp
              clear hsame hnm hit7
              generalize want[a] = z at *
              generalize d[a].2 = ty at *
              go_wp2_with fail
              go_quiet (fail)
              go_wp2_with fail
              go_loopg [17] ks.length (fun g i wr => ∃ (c nn : Nat), g + c = ks.length ∧ i = .int .i64 (c : Int) ∧ wr = W7.drewN nn)
              case atStart => exact ⟨0, _, by omega, rfl, drewQ2 _ _ _⟩
              case round =>
                obtain ⟨c, nm, hgc, rfl, rfl⟩ := hrel
                by_cases hc : c < ks.length
                · obtain ⟨gc, capc, e3, _, hgcl, _, qc⟩ := hco7.at c hc
                  simp only [Value.slice.injEq, true_and] at e3
                  obtain ⟨rfl, rfl⟩ := e3
                  have q0 : W7.cell? ⟨gc, c * 11, none⟩ = some (.string (str ks[c].1)) := qc 0 _ rfl
                  have q1 : W7.cell? ⟨gc, c * 11 + 1, none⟩ = some (.string (str ks[c].2)) := qc 1 _ rfl
                  have hci : (c : Int) < (ks.length : Int) := by omega
                  have hse := hs2 c hc
                  clear qc hs2
                  generalize ks[c] = kc at *
                  obtain ⟨kn, kt⟩ := kc
                  simp only at q0 q1 hse
                  have he := eq_is kn z
                  by_cases heq : kn = z
                  · obtain rfl := hse heq
                    rw [decide_eq_true heq] at he
                    have hnt : ((str kt).toList != (str kt).toList) = false := by simp
                    clear hse heq
                    go_wp2_with fail
                    go_quiet (fail)
                    go_wp2
                    go_roundg (ks.length - (c + 1))
                    case measure => omega
                    case rel => exact ⟨c + 1, _, by omega, by go_num, by first | rfl | exact drewQ2 _ _ _⟩
                  · rw [decide_eq_false heq] at he
                    clear hse heq
                    go_wp2_with fail
                    go_quiet (fail)
                    go_wp2
                    go_roundg (ks.length - (c + 1))
                    case measure => omega
                    case rel => exact ⟨c + 1, _, by omega, by go_num, by first | rfl | exact drewQ2 _ _ _⟩
                · have hci : ¬ (c : Int) < (ks.length : Int) := by omega
                  go_wp2
                  go_roundg (want.length - (a + 1))
                  case measure => omega
                  case rel => exact ⟨a + 1, _, by omega, by go_num, rfl⟩
            · have hai : ¬ (a : Int) < (want.length : Int) := by omega
              have hkn := known7 (W7.drewN nn)
              have hbd : Below w.heap.size w (W7.drewN nn) := hbw7.trans (below_drewQ _ _)
              have hsz7 := hbw7.size
              clear hbw7 hsame hnm hit7 hwo7 hco7
              go_wp2_with fail
              refine hkn.mono ?_
              rintro e w9 ⟨rfl, hb9⟩
              go_wp2
              go_ret
              exact ⟨rfl, hbd.trans (hb9.mono (by simpa using hsz7))⟩
end Go.Proofs.Ytfddnaeldpafmaa

namespace Go.Proofs.Ytfddnaeldpafmaa
open Go.ChangeShapes Go.WideShapes Go.ChangeAt Go.RowKit Go.Deep

theorem ownIfaceOrder : ownKnob Try.prog.godebug = none := by kernel_rfl
theorem laidIfaceOrder : laidOutB Try.prog = true := by kernel_rfl
set_option maxRecDepth 100000 in
theorem ifaceOrder_lifted (os : Os) (started : os.Started) (H : Type) (enc : TypeId × Value → H) :
    ReturnsInHanded {} Try.checked os 3 .any (Rows.ifaceOrderSpec.pre6 enc Try.prog Try.f3 Rows.ifaceOrderRow.domain false) (Rows.ifaceOrderSpec.post enc Try.prog Try.f3 false true false false) := by
  refine returnsInHanded_of_change_sized (C := Try.checked) ownIfaceOrder started (by kernel_rfl) Try.func3
    (ChangeSpec.witness6 (enc := enc) (C := Try.checked) false ⟨#[], #[.slice none 0 0, .int .i64 0], []⟩ 8 (by kernel_rfl) (by kernel_rfl) (by kernel_rfl) (by kernel_rfl)) ?_
  intro W base args ds gs before hval0 hW hcnd hsz0 _
  have hval : ∀ (j : Nat) t v, Try.f3.params[j]? = some t → args[j]? = some v → Value.okWide Try.prog W .any base t v := hval0
  have hsz : (DataW.weightsEach Try.prog (Try.f3.params.toList ++ Rows.ifaceOrderSpec.plain.varTypes Try.prog) (ds ++ gs)).all (· ≤ reachBytes) = true := hsz0
  have hW' := hW
  obtain ⟨p, q, hA0, hV, rfl, hfz, hnd⟩ := hW
  have hA : DataW.TrodAll enc Try.prog W 0 (fun _ => true) true Try.f3.params.toList args.toList ds p := hA0
  rw [Try.params3] at hA hval hsz
  obtain ⟨v0, vs0, d0, ds0, p0, q0, hargs, rfl, rfl, h0, r0⟩ := trodAll_cons hA
  obtain ⟨v1, vs1, d1, ds1, p1, q1, rfl, rfl, rfl, h1, r1⟩ := trodAll_cons r0
  obtain ⟨rfl, rfl, rfl⟩ := trodAll_nil r1
  obtain rfl : args = #[v0, v1] := by cases args; simp_all
  obtain ⟨rfl, rfl⟩ := trodVars_none hV
  have hw0 : WOk 22 d0 := fun n hn => by simpa using List.all_eq_true.1 hsz _ (DataW.weights_mem_each (j := 0) (t := 22) (d := d0) rfl rfl n hn)
  have k0 := h0
  have lt0 : ∀ x ∈ p0, x.block < W.heap.size := by obtain ⟨m, hm⟩ := k0; exact DataW.trod_lt m _ _ _ hm
  obtain ⟨a0, len0, cap0, rfl⟩ := okWide_slice Try.underlying22 (hval 0 22 v0 rfl rfl)
  obtain ⟨f0, hf0⟩ := h0
  obtain ⟨xs, z1, z2, z3, z4⟩ := texts_open (by simpa [Value.cells] using hf0) hw0
  subst z1
  obtain ⟨a1, rfl, rfl, rfl, w1⟩ := open_int Try.underlying3 (hval 1 3 v1 rfl rfl) h1
  have b1 := bounds_i64 w1
  have hwalk := order_walk (fun g => g < W.heap.size) a0 cap0 xs a1 W z2 (fun g hg => hg) z4 z3 b1.1 b1.2
  clear hA0 hval0
  simp only [List.append_nil] at hW'
  refine hwalk.mono fun e W' ⟨he, bel⟩ => ?_
  subst he
  exact ⟨_, rfl, _, _, _, [], _, [], hW', trodAll_mk1 (shut_bool Try.underlying4 _), (trodAll_cons_mk (Below.trod laidIfaceOrder (by kernel_rfl) (of_decide_eq_true (by kernel_rfl)) k0 bel lt0) (trodAll_cons_mk (shut_int Try.underlying3 w1) trodAll_mk0)), rfl, bel.frame _, fun h => by cases h⟩

theorem ifaceOrder_holds : Rows.IfaceOrderSaid :=
  OpenClaim.holds_of_wide 3 Try.f3 rfl rfl rfl rfl rfl rfl rfl ⟨rfl, rfl, rfl, rfl, rfl⟩ rfl rfl rfl rfl rfl (by kernel_rfl) Try.func3 (by kernel_rfl)
    (of_decide_eq_true (by kernel_rfl)) (by unfold Func.isWrapper; first | (rw [if_pos (by decide +kernel)]; kernel_rfl) | (rw [if_neg (by decide +kernel)]; exact ⟨rfl, rfl⟩))
    (fun os started H enc _ => ifaceOrder_lifted os started H enc)
#print axioms ifaceOrder_holds
end Go.Proofs.Ytfddnaeldpafmaa
