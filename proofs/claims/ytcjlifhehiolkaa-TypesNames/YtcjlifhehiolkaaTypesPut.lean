/-
  The document's own Put: its walk.
-/
import Derived.Deep.LoopGhost
import Derived.Test.YtcjlifhehiolkaaTypesKnown
namespace Go.Proofs.Ytcjlifhehiolkaa
open Go.RowKit

theorem less_is (a b : List UInt8) : Op.bytesLess (str a).toList (str b).toList = decide (a < b) := by
  rw [Lib.toList_data, Lib.toList_data, str_data, str_data, bytesLess_eq]
theorem geq_is (a b : List UInt8) : (!Op.bytesLess (str a).toList (str b).toList) = decide (b ≤ a) := by
  rw [less_is, ← decide_not, Bool.eq_iff_iff, decide_eq_true_iff, decide_eq_true_iff, List.not_lt]
theorem neq_is (a b : List UInt8) : ((str a).toList != (str b).toList) = decide (a ≠ b) := by
  rw [Lib.toList_data, Lib.toList_data, str_data, str_data, Bool.eq_iff_iff, bne_iff_ne, decide_eq_true_iff]
theorem eq_is (a b : List UInt8) : ((str a).toList == (str b).toList) = decide (a = b) := by
  rw [Lib.toList_data, Lib.toList_data, str_data, str_data, Bool.eq_iff_iff, beq_iff_eq, decide_eq_true_iff]

set_option maxHeartbeats 8000000 in
set_option maxRecDepth 1000000 in
theorem put5 (v : Value) (xs : List (List UInt8)) (s : List UInt8) (w : World) (h : StrRow w v xs) (hl : xs.length ≤ 4000) : Calls Try.prog 19 #[v, .string (str s)] w fun e w' => ∃ v', e = .returned v' ∧ StrRow w' v' (putR xs s) ∧ Below w.heap.size w w' := by
  obtain ⟨va, vc, rfl⟩ := h.shape
  have H := hidden h
  clear h
  go_enter Try.func19, Try.ntmps19
  go_wp2
  go_loopg [5, 6, 7] xs.length (fun g o d i wr => ∃ (k : Nat) (acc : List (List UInt8)) (b : Bool), g + k = xs.length ∧ i = .int .i64 (k : Int) ∧ d = .bool b ∧ acc.length ≤ 2 * k ∧ Hid (acc ++ putF s b (xs.drop k) = putR xs s) ∧ wr.ownsRow w.heap.size 9 1 o acc.length (sc acc) ∧ Below w.heap.size w wr)
  case atStart => exact ⟨0, [], false, by omega, rfl, rfl, by simp, by rw [hid_iff]; rfl, World.ownsRow_nil _ _ _ _, Below.refl _ _⟩
  case round =>
    obtain ⟨k, acc, b, hg, rfl, rfl, hal, hq, hown, hbl⟩ := hrel
    have hB := hbl.size
    by_cases hk : k < xs.length
    · obtain ⟨bk, o, c, e1, q1⟩ := (H.out.below hbl).at k hk
      simp only [Value.slice.injEq, true_and] at e1
      obtain ⟨rfl, rfl⟩ := e1
      have q1b : ∀ u, Below w.heap.size w u → u.cell? ⟨bk, o + k, none⟩ = some (.string (str xs[k])) := by
        intro u hu
        obtain ⟨bk', o', c', e1, q1⟩ := (H.out.below hu).at k hk
        simp only [Value.slice.injEq, Option.some.injEq, Addr.mk.injEq, and_true, true_and] at e1
        obtain ⟨⟨rfl, rfl⟩, _⟩ := e1
        exact q1
      have hki : (k : Int) < (xs.length : Int) := by omega
      have hdr : xs.drop k = xs[k] :: xs.drop (k + 1) := List.drop_eq_getElem_cons hk
      generalize xs[k] = x at *
      have hge := geq_is x s
      have hne := neq_is x s
      have heq := eq_is x s
      by_cases hxs : x = s
      · rw [decide_eq_false (fun h => h hxs)] at hne
        rw [decide_eq_true hxs] at heq
        subst hxs
        cases b with
        | false =>
          have hc : x ≤ x := List.le_refl _
          rw [decide_eq_true hc] at hge
          have HQ : Hid ((acc ++ [x]) ++ putF x true (xs.drop (k + 1)) = putR xs x) := by
            rw [hid_iff, ← hq.out, hdr, putF]
            simp
          clear hq hdr
          go_wp2_with (at_builtin; refine append_text rfl (.tmp 24) (.tmp 26) rfl w.heap.size _ acc rfl (hown.alloc _) _ _ x rfl ?src1 ?len1 ?hB1 ?next1)
          case src1 => first | exact cells_new _ _ _ | exact fun j u h => h
          case len1 => first | omega | (simp; omega)
          case hB1 => first | omega | (simp; omega)
          case next1 =>
            intro ad1 c1 wz1 a1 g1
            have b1 := below_grown (hown.alloc _) (by simp; omega) (hbl.alloc (by omega) _) g1
            have s1 := b1.size
            clear g1 hown hbl
            have q2 := q1b _ b1
            clear q1b q1
            go_wp2
            go_roundg (xs.length - (k + 1))
            case measure => omega
            case rel => exact ⟨k + 1, acc ++ [x], true, by omega, by go_num, rfl, by first | omega | (simp; omega), HQ, by simpa using a1, b1⟩
        | true =>
          have HQ : Hid (acc ++ putF x true (xs.drop (k + 1)) = putR xs x) := by
            rw [hid_iff, ← hq.out, hdr, putF]
            simp
          clear hq hdr q1b
          go_wp2
          go_roundg (xs.length - (k + 1))
          case measure => omega
          case rel => exact ⟨k + 1, acc, true, by omega, by go_num, rfl, by first | omega | (simp; omega), HQ, hown, hbl⟩
      · rw [decide_eq_true hxs] at hne
        rw [decide_eq_false hxs] at heq
        cases b with
        | false =>
          by_cases hc : s ≤ x
          · rw [decide_eq_true hc] at hge
            have HQ : Hid (((acc ++ [s]) ++ [x]) ++ putF s true (xs.drop (k + 1)) = putR xs s) := by
              rw [hid_iff, ← hq.out, hdr, putF]
              simp [hc, hxs]
            clear hq hdr
            go_wp2_with (at_builtin; refine append_text rfl (.tmp 24) (.tmp 26) rfl w.heap.size _ acc rfl (hown.alloc _) _ _ s rfl ?src1 ?len1 ?hB1 ?next1)
            case src1 => first | exact cells_new _ _ _ | exact fun j u h => h
            case len1 => first | omega | (simp; omega)
            case hB1 => first | omega | (simp; omega)
            case next1 =>
              intro ad1 c1 wz1 a1 g1
              have b1 := below_grown (hown.alloc _) (by simp; omega) (hbl.alloc (by omega) _) g1
              have s1 := b1.size
              clear g1 hown hbl
              have q2 := q1b _ b1
              clear q1b q1
              have a1x : wz1.ownsRow w.heap.size 9 1 (.slice (some ad1) (acc.length + 1) c1) (acc ++ [s]).length (sc (acc ++ [s])) := by simpa using a1
              have hlen1 : (acc ++ [s]).length = acc.length + 1 := by simp
              go_wp2_with (at_builtin; refine append_text rfl (.tmp 34) (.tmp 39) rfl w.heap.size _ (acc ++ [s]) rfl (a1x.alloc _) _ _ x rfl ?src2 ?len2 ?hB2 ?next2)
              case src2 => first | exact cells_new _ _ _ | exact fun j u h => h
              case len2 => first | omega | (simp; omega)
              case hB2 => first | omega | (simp; omega)
              case next2 =>
                intro ad2 c2 wz2 a2 g2
                have b2 := below_grown (a1x.alloc _) (by simp; omega) (b1.alloc (by omega) _) g2
                have s2 := b2.size
                clear g2 a1x b1
                go_wp2
                go_roundg (xs.length - (k + 1))
                case measure => omega
                case rel => exact ⟨k + 1, (acc ++ [s]) ++ [x], true, by omega, by go_num, rfl, by first | omega | (simp; omega), HQ, by simpa using a2, b2⟩
          · rw [decide_eq_false hc] at hge
            have HQ : Hid ((acc ++ [x]) ++ putF s false (xs.drop (k + 1)) = putR xs s) := by
              rw [hid_iff, ← hq.out, hdr, putF]
              simp [hc, hxs]
            clear hq hdr q1b
            go_wp2_with (at_builtin; refine append_text rfl (.tmp 34) (.tmp 39) rfl w.heap.size _ acc rfl (hown.alloc _) _ _ x rfl ?src1 ?len1 ?hB1 ?next1)
            case src1 => first | exact cells_new _ _ _ | exact fun j u h => h
            case len1 => first | omega | (simp; omega)
            case hB1 => first | omega | (simp; omega)
            case next1 =>
              intro ad1 c1 wz1 a1 g1
              have b1 := below_grown (hown.alloc _) (by simp; omega) (hbl.alloc (by omega) _) g1
              have s1 := b1.size
              clear g1 hown hbl
              go_wp2
              go_roundg (xs.length - (k + 1))
              case measure => omega
              case rel => exact ⟨k + 1, acc ++ [x], false, by omega, by go_num, rfl, by first | omega | (simp; omega), HQ, by simpa using a1, b1⟩
        | true =>
          have HQ : Hid ((acc ++ [x]) ++ putF s true (xs.drop (k + 1)) = putR xs s) := by
            rw [hid_iff, ← hq.out, hdr, putF]
            simp [hxs]
          clear hq hdr q1b
          go_wp2_with (at_builtin; refine append_text rfl (.tmp 34) (.tmp 39) rfl w.heap.size _ acc rfl (hown.alloc _) _ _ x rfl ?src1 ?len1 ?hB1 ?next1)
          case src1 => first | exact cells_new _ _ _ | exact fun j u h => h
          case len1 => first | omega | (simp; omega)
          case hB1 => first | omega | (simp; omega)
          case next1 =>
            intro ad1 c1 wz1 a1 g1
            have b1 := below_grown (hown.alloc _) (by simp; omega) (hbl.alloc (by omega) _) g1
            have s1 := b1.size
            clear g1 hown hbl
            go_wp2
            go_roundg (xs.length - (k + 1))
            case measure => omega
            case rel => exact ⟨k + 1, acc ++ [x], true, by omega, by go_num, rfl, by first | omega | (simp; omega), HQ, by simpa using a1, b1⟩
    · have hki : ¬ (k : Int) < (xs.length : Int) := by omega
      cases b with
      | false =>
        have HQ : Hid (acc ++ [s] = putR xs s) := by rw [hid_iff, ← hq.out, List.drop_eq_nil_of_le (by omega)]; rfl
        clear hq
        go_wp2_with (at_builtin; refine append_text rfl (.tmp 43) (.tmp 45) rfl w.heap.size _ acc rfl (hown.alloc _) _ _ s rfl ?src1 ?len1 ?hB1 ?next1)
        case src1 => first | exact cells_new _ _ _ | exact fun j u h => h
        case len1 => first | omega | (simp; omega)
        case hB1 => first | omega | (simp; omega)
        case next1 =>
          intro ad1 c1 wz1 a1 g1
          have b1 := below_grown (hown.alloc _) (by simp; omega) (hbl.alloc (by omega) _) g1
          have s1 := b1.size
          clear g1 hown hbl
          go_wp2
          go_ret
          exact ⟨_, rfl, by rw [← HQ.out]; exact strRow_own (by simpa using a1), b1⟩
      | true =>
        have HQ : Hid (acc = putR xs s) := by rw [hid_iff, ← hq.out, List.drop_eq_nil_of_le (by omega)]; simp [putF]
        clear hq
        go_wp2
        go_ret
        exact ⟨_, rfl, by rw [← HQ.out]; exact strRow_own hown, hbl⟩
end Go.Proofs.Ytcjlifhehiolkaa
