/-
  What counts of a name; the package's ending, the statements' last; Number.
-/
import Derived.Deep.LoopGhost
import Derived.Test.YtmomapnafhppcaaCovRow
import Derived.Test.YtmomapnafhppcaaCovSpec
namespace Go.Proofs.Ytmomapnafhppcaa
open Go.RowKit

set_option maxHeartbeats 1000000 in
set_option maxRecDepth 1000000 in
theorem covEnding (x : List UInt8) (w : World) (hx : Tk x) : Calls Try.prog 16 #[.string (str x)] w (Pu (.string (str (endR x))) w) := by
  have hs : (str x).size = x.length := rfl
  unfold Tk at hx
  have hd := dotR_le x
  have HE : Hid ((str x).extract (dotR x) (str x).size = str (endR x)) := by rw [hid_iff, str_drop]; rfl
  have hc := Try.strings_LastIndexByte (str x) 46 (by omega) w
  rw [lastIx_dot] at hc
  go_enter Try.func16, Try.ntmps16
  generalize dotR x = d at *
  go_wp2_with fail
  refine hc.mono ?_
  rintro e w1 ⟨rfl, rfl⟩
  have h1 : (d : Int) - 1 + 1 = (d : Int) := by omega
  have h2 : (d : Int) ≤ ((str x).size : Int) := by omega
  go_wp2
  go_ret
  exact ⟨by rw [← HE.out]; rfl, rfl⟩
set_option maxHeartbeats 1000000 in
set_option maxRecDepth 1000000 in
theorem covLast (x : List UInt8) (w : World) (hx : Tk x) : Calls Try.prog 14 #[.string (str x)] w (Pu (.string (str (endR x))) w) := by
  have hs : (str x).size = x.length := rfl
  unfold Tk at hx
  go_enter Try.func14, Try.ntmps14
  go_wp2
  go_loopg [3] x.length (fun g i wr => ∃ k : Nat, g = k ∧ k ≤ x.length ∧ i = .int .i64 ((k : Int) - 1) ∧ Hid (∀ c ∈ x.drop k, c ≠ 46) ∧ wr = w)
  case atStart => exact ⟨x.length, rfl, Nat.le_refl _, by first | rfl | simp, by rw [hid_iff, List.drop_length]; simp, rfl⟩
  case round =>
    obtain ⟨k, hgk, hk, rfl, hn, rfl⟩ := hrel
    rcases k with _ | k
    · have HE : Hid (str x = str (endR x)) := by rw [hid_iff, endR, dotR_none _ (by simpa using hn.out)]; rfl
      have h0 : ¬ (0 : Int) ≤ ((0 : Nat) : Int) - 1 := by omega
      clear hn
      go_wp2
      go_ret
      exact ⟨by rw [← HE.out]; rfl, rfl⟩
    · have hk' : k < x.length := by omega
      have e1 : ((k + 1 : Nat) : Int) - 1 = (k : Int) := by omega
      have hks : (k : Int) < ((str x).size : Int) := by omega
      have hkn : k < (str x).size := by omega
      have hat : (str x)[k] = x[k] := rfl
      rw [e1]
      by_cases hd : x[k] = 46
      · have HE : Hid ((str x).extract (k + 1) (str x).size = str (endR x)) := by
          rw [hid_iff, str_drop, endR, dotR_at x k hk' hd hn.out]; rfl
        have hb : (((str x)[k]).toNat : Int) = 46 := by rw [hat, hd]; rfl
        have hk1 : (k : Int) + 1 ≤ ((str x).size : Int) := by omega
        clear hn hat hd
        go_wp2
        go_ret
        exact ⟨by rw [← HE.out]; rfl, rfl⟩
      · have HN : Hid (∀ c ∈ x.drop k, c ≠ 46) := by
          rw [hid_iff, List.drop_eq_getElem_cons hk']
          intro c hc
          rcases List.mem_cons.1 hc with rfl | h
          · exact hd
          · exact hn.out c h
        have hb : ¬ (((str x)[k]).toNat : Int) = 46 := by
          rw [hat]
          intro e
          exact hd (UInt8.toNat_inj.1 (by simp only [UInt8.reduceToNat]; omega))
        clear hn hat hd
        go_wp2
        go_roundg k
        case measure => omega
        case rel => exact ⟨k, rfl, by omega, by first | rfl | (go_num) | simp, HN, rfl⟩
/-- Cases in a row that can be read: their names; no fields. -/
def CaR (w : World) (v : Value) (xs : List (List UInt8)) : Prop :=
  (xs = [] ∧ ∃ a c, v = .slice a 0 c) ∨ ∃ bk o c, v = .slice (some ⟨bk, o, none⟩) xs.length c ∧ bk < w.heap.size ∧ xs.length ≤ c ∧ ∀ (j : Nat) x, xs[j]? = some x → w.cell? ⟨bk, o + j * 2, none⟩ = some (.string (str x)) ∧ w.cell? ⟨bk, o + j * 2 + 1, none⟩ = some (.slice none 0 0)
theorem CaR.below {w w' : World} {v : Value} {xs : List (List UInt8)} (h : CaR w v xs) (hb : Below w.heap.size w w') : CaR w' v xs := by
  rcases h with h | ⟨bk, o, c, rfl, h1, h2, h3⟩
  · exact .inl h
  · exact .inr ⟨bk, o, c, rfl, Nat.lt_of_lt_of_le h1 hb.size, h2, fun j x hj => by
      obtain ⟨k1, k2⟩ := h3 j x hj
      exact ⟨(hb.cell (p := ⟨bk, o + j * 2, none⟩) h1).trans k1, (hb.cell (p := ⟨bk, o + j * 2 + 1, none⟩) h1).trans k2⟩⟩
theorem CaR.shape {w : World} {v : Value} {xs : List (List UInt8)} (h : CaR w v xs) : ∃ a c, v = .slice a xs.length c := by
  rcases h with ⟨rfl, a, c, rfl⟩ | ⟨bk, o, c, rfl, _⟩
  · exact ⟨a, c, rfl⟩
  · exact ⟨_, c, rfl⟩
theorem CaR.at {w : World} {v : Value} {xs : List (List UInt8)} (h : CaR w v xs) (i : Nat) (hi : i < xs.length) : ∃ bk o c, v = .slice (some ⟨bk, o, none⟩) xs.length c ∧ bk < w.heap.size ∧ w.cell? ⟨bk, o + i * 2, none⟩ = some (.string (str xs[i])) ∧ w.cell? ⟨bk, o + i * 2 + 1, none⟩ = some (.slice none 0 0) := by
  rcases h with ⟨rfl, _⟩ | ⟨bk, o, c, rfl, h1, _, h3⟩
  · simp at hi
  · exact ⟨bk, o, c, rfl, h1, h3 i _ (List.getElem?_eq_getElem hi)⟩
theorem CaR.nil (w : World) : CaR w (.slice none 0 0) [] := .inl ⟨rfl, none, 0, rfl⟩
theorem cell_more {w : World} {a : Addr} {v : Value} (h : w.cell? a = some v) (o : Obj) : (w.alloc o).cell? a = some v := (World.cell?_of_block (Below.heap_alloc _ _ _ (World.block_lt_of_cell? w a h))).trans h
theorem strEq (l x : List UInt8) : ((str l).toList == (str x).toList) = decide (l = x) := by
  rw [Lib.toList_data, Lib.toList_data, str_data, str_data, Bool.eq_iff_iff, beq_iff_eq, decide_eq_true_iff]
def BoolW (b : Bool) (w : World) (e : Ending) (w' : World) : Prop := e = .returned (.bool b) ∧ Below w.heap.size w w'
set_option maxHeartbeats 1000000 in
set_option maxRecDepth 1000000 in
theorem covNum1 (c y : List UInt8) (bp : Nat) (w : World) (hb : w.cell? ⟨bp, 0, none⟩ = some (.string (str y))) : Calls Try.prog 19 #[.agg #[.string (str c), .slice none 0 0], .pointer (some ⟨bp, 0, none⟩)] w (BoolW (decide (c = y)) w) := by
  have hq := strEq c y
  have hc := cell_more hb (.cells #[.string (str c), .slice none 0 0] 32)
  have hN : Below w.heap.size w (w.alloc (.cells #[.string (str c), .slice none 0 0] 32)) := (Below.refl _ _).alloc (Nat.le_refl _) _
  generalize decide (c = y) = r at *
  go_enter Try.func19, Try.ntmps19
  go_wp2
  go_ret
  exact ⟨by first | rfl | (rw [← hq]; rfl), hN⟩
theorem numF_step (y : List UInt8) (cs : List (List UInt8)) (k : Nat) (h : k < cs.length) : numF k (cs.drop k) y = if cs[k] = y then (k : Int) else numF (k + 1) (cs.drop (k + 1)) y := by
  rw [List.drop_eq_getElem_cons h, numF]
set_option maxHeartbeats 2000000 in
set_option maxRecDepth 1000000 in
theorem covIndex (cs : List (List UInt8)) (y : List UInt8) (v : Value) (bp : Nat) (w : World) (hv : CaR w v cs) (hlen : cs.length ≤ 8796093022208) (hb : w.cell? ⟨bp, 0, none⟩ = some (.string (str y))) :
    Calls Try.prog 18 #[v, .func (.func 19) #[] #[.pointer (some ⟨bp, 0, none⟩)]] w fun e w' => e = .returned (.int .i64 (numF 0 cs y)) ∧ Below w.heap.size w w' := by
  have hbp := World.block_lt_of_cell? w _ hb
  obtain ⟨va, vc, rfl⟩ := hv.shape
  have HV := hidden hv
  clear hv
  go_enter Try.func18, Try.ntmps18
  go_wp2
  go_loopg [8] cs.length (fun g i wr => ∃ k : Nat, g + k = cs.length ∧ i = .int .i64 (k : Int) ∧ Hid (numF 0 cs y = numF k (cs.drop k) y) ∧ Below w.heap.size w wr)
  case atStart => exact ⟨0, rfl, rfl, rfl, Below.refl _ _⟩
  case round =>
    obtain ⟨k, hg, rfl, hq, hW⟩ := hrel
    by_cases hk : k < cs.length
    · obtain ⟨bk, o, c, e1, hbk, q0, q1⟩ := (HV.out.below hW).at k hk
      simp only [Value.slice.injEq, true_and] at e1
      obtain ⟨rfl, rfl⟩ := e1
      have hki : (k : Int) < (cs.length : Int) := by omega
      have hc1 := covNum1 cs[k] y bp wr ((hW.cell (p := ⟨bp, 0, none⟩) hbp).trans hb)
      have HS := hidden (hq.out.trans (numF_step y cs k hk))
      clear hq hb HV
      go_wp2_with fail
      refine hc1.mono ?_
      rintro e w2 ⟨rfl, hb2⟩
      have hW2 := hW.trans (hb2.mono hW.size)
      by_cases he : cs[k] = y
      · have HT := HS.out
        rw [if_pos he] at HT
        replace HT := hidden HT
        have hd : decide (cs[k] = y) = true := decide_eq_true he
        rw [hd]
        clear hc1 HS he hd hb2 hW
        go_wp2
        go_ret
        exact ⟨by rw [HT.out]; rfl, hW2⟩
      · have HT := HS.out
        rw [if_neg he] at HT
        replace HT := hidden HT
        have hd : decide (cs[k] = y) = false := decide_eq_false he
        rw [hd]
        clear hc1 HS he hd hb2 hW
        go_wp2
        go_roundg (cs.length - (k + 1))
        case measure => omega
        case rel => exact ⟨k + 1, by omega, by go_num, HT, hW2⟩
    · have hki : ¬ (k : Int) < (cs.length : Int) := by omega
      have HT : Hid (numF 0 cs y = -1) := by rw [hid_iff, hq.out, List.drop_of_length_le (by omega)]; rfl
      clear hq HV
      go_wp2
      go_ret
      exact ⟨by rw [HT.out]; rfl, hW⟩
set_option maxHeartbeats 2000000 in
set_option maxRecDepth 1000000 in
theorem covNumber (cs : List (List UInt8)) (x : List UInt8) (v : Value) (w : World) (hv : CaR w v cs) (hlen : cs.length ≤ 8796093022208) (hx : Tk x) :
    Calls Try.prog 11 #[v, .string (str x)] w fun e w' => e = .returned (.int .i64 (numR cs x)) ∧ Below w.heap.size w w' := by
  have hN : Below w.heap.size w (w.alloc (.cells #[.string (str (endR x))] 9)) := (Below.refl _ _).alloc (Nat.le_refl _) _
  have hI := covIndex cs (endR x) v w.heap.size (w.alloc (.cells #[.string (str (endR x))] 9)) (hv.below ((Below.refl _ _).alloc (Nat.le_refl _) _)) hlen (by simp)
  have he := covEnding x w hx
  go_enter Try.func11, Try.ntmps11
  go_wp2_with fail
  refine he.mono ?_
  rintro e w1 ⟨rfl, rfl⟩
  go_wp2_with fail
  refine hI.mono ?_
  rintro e w2 ⟨rfl, hb2⟩
  have hb3 := hN.trans (hb2.mono (by simp))
  go_wp2
  go_ret
  exact ⟨rfl, hb3⟩
end Go.Proofs.Ytmomapnafhppcaa
