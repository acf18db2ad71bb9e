/-
  The package's Quote: its walk.
-/
import Derived.Deep.RegionLaw
import Derived.Deep.Upon
import Derived.Deep.LoopGhost
import Derived.Outline
import Derived.Test.YtmekjbplodnldaaLexMem
namespace Go.Proofs.Ytmekjbplodnldaa
open Go.RowKit

/-- append of bytes onto a row of the call's own, as one step of a region that draws its order. -/
theorem step_bytes {ops : Array Oper} {o : Oper} {a : Act} {w : World} {K : Act → World → Prop} {Q : Exit → Act → World → Prop} {E : Prop}
    (hg : o.guard = none) (s x : Operand) (ho : o.op = Op.call { callee := Callee.builtin Builtin.append, args := #[s, x], argTypes := #[54, 54] })
    (B : Nat) (v : Value) (acc : List UInt8) (hs : a.eval s = v) (hown : w.ownsRow B 5 1 v acc.length (bc acc))
    (ad : Addr) (c : Nat) (news : List UInt8) (hne : news ≠ []) (hx : a.eval x = .slice (some ad) news.length c) (hnews : ∀ j u, (bc news)[j]? = some u → w.cell? (ad.add j) = some u)
    (hlen : acc.length + news.length ≤ 140737488355328) (hB : B ≤ w.heap.size)
    (hK : ∀ ad' c' w', w'.ownsRow B 5 1 (.slice (some ad') (acc ++ news).length c') (acc ++ news).length (bc (acc ++ news)) → w.grownBy w' v.ownBlock → K (a.put o.dst (.slice (some ad') (acc ++ news).length c')) w') :
    if Region.wanted o (yielded ops a.tmps) = true then Oper.wp Try.prog o a w K Q else E := by
  have hw : Region.wanted o (yielded ops a.tmps) = true := by simp [Region.wanted, hg]
  rw [if_pos hw]
  obtain ⟨i, z, hi, hz, h1, h2, h3⟩ := info_z infoB
  refine wp_append_own w s x 54 ho B 5 i z 1 1 Try.underlying54 hi hz h1 h2 h3 (by decide) v acc.length (bc acc) hs hown ad news.length c (bc news) hx (by rw [bc_length, Nat.mul_one]) hnews (bc_one _) (by unfold maxLen; omega) (by omega) hB ?_
  intro v' w' k1 k2 k3
  rcases k1.2 with ⟨rfl, hz⟩ | ⟨g, cap, cur, rfl, _⟩
  · exact absurd (by omega : news.length = 0) (fun e => hne (List.eq_nil_of_length_eq_zero e))
  · rw [← bc_append] at k1
    rw [← List.length_append] at k1
    have := hK ⟨g, 0, none⟩ cap w' k1 k2
    rw [List.length_append] at this
    exact this

/-- What is quoted of the first k bytes. -/
def qUp (l : List UInt8) (k : Nat) : List UInt8 := 34 :: (l.take k).flatMap qByte
theorem qUp_step (s : ByteArray) (k : Nat) (hk : k < s.size) : qUp s.data.toList (k + 1) = qUp s.data.toList k ++ qByte s[k] := by
  have hk' : k < s.data.toList.length := by rw [size_len]; exact hk
  have e : s.data.toList.take (k + 1) = s.data.toList.take k ++ [s[k]] := by
    rw [List.take_succ_eq_append_getElem hk']
    rfl
  unfold qUp
  rw [e, List.flatMap_append]
  simp
theorem qByte_length (c : UInt8) : (qByte c).length ≤ 4 ∧ qByte c ≠ [] := by
  unfold qByte
  split
  · simp
  · split
    · simp
    · split <;> simp
theorem qUp_length (l : List UInt8) (k : Nat) : (qUp l k).length ≤ 1 + 4 * k := by
    have h : ∀ m : List UInt8, (m.flatMap qByte).length ≤ 4 * m.length := by
      intro m
      induction m with
      | nil => simp
      | cons a r ih =>
        have := (qByte_length a).1
        rw [List.flatMap_cons, List.length_append, List.length_cons]
        omega
    have h1 := h (l.take k)
    have h2 : (l.take k).length ≤ k := by simp; omega
    unfold qUp
    simp only [List.length_cons]
    omega
theorem qUp_all (s : ByteArray) : qUp s.data.toList s.size ++ [34] = quoteR s.data.toList := by
  unfold qUp quoteR
  rw [List.take_of_length_le (by rw [size_len]; exact Nat.le_refl _)]
  rfl
theorem own_lit (w : World) (l : List UInt8) (h : l.length ≤ maxLen) : (w.alloc (.cells (bc l).toArray 5)).ownsRow w.heap.size 5 1 (.slice (some ⟨w.heap.size, 0, none⟩) l.length l.length) l.length (bc l) :=
  World.ownsRow_lit (base := w.heap.size) w (bc l).toArray l.length (Nat.le_refl _) h (by simp [bc_length])

theorem dig_at (n m : Nat) (h : n < (⟨#[48, 49, 50, 51, 52, 53, 54, 55, 56, 57, 97, 98, 99, 100, 101, 102]⟩ : ByteArray).size) (e : n = m) : (⟨#[48, 49, 50, 51, 52, 53, 54, 55, 56, 57, 97, 98, 99, 100, 101, 102]⟩ : ByteArray)[n] = hexSet.getD m 0 := by
  subst e
  have hn : n < 16 := h
  have : ∀ a : Fin 16, (⟨#[48, 49, 50, 51, 52, 53, 54, 55, 56, 57, 97, 98, 99, 100, 101, 102]⟩ : ByteArray)[a.val]'a.isLt = hexSet.getD a.val 0 := by decide
  exact this ⟨n, hn⟩
theorem and15 (c : UInt8) : bits .and .u8 (c.toNat : Int) 15 = (c.toNat : Int) % 16 := by
  have h : ∀ a : Fin 256, bits .and .u8 (a.val : Int) 15 = (a.val : Int) % 16 := by decide +kernel
  exact h ⟨c.toNat, c.toNat_lt⟩
def TextE (l : List UInt8) (w : World) (e : Ending) (w' : World) : Prop := e = .returned (.string (str l)) ∧ Below w.heap.size w w'

set_option maxHeartbeats 1600000 in
set_option maxRecDepth 1000000 in
theorem quote (s : ByteArray) (w : World) (hs : s.size ≤ 17592186044416) : Calls Try.prog 20 #[.string s] w (TextE (quoteR s.data.toList) w) := by
  go_enter Try.func20, Try.ntmps20
  go_wp2
  go_loopg [3, 9] s.size (fun g out i wr => ∃ (k : Nat), g + k = s.size ∧ i = .int .i64 k ∧ wr.ownsRow w.heap.size 5 1 out (qUp s.data.toList k).length (bc (qUp s.data.toList k)) ∧ Below w.heap.size w wr)
  case atStart => exact ⟨0, rfl, rfl, own_lit w [34] (by decide), (Below.refl _ w).alloc (Nat.le_refl _) _⟩
  case round =>
    obtain ⟨k, hg, rfl, hown, hbl⟩ := hrel
    have hB : w.heap.size ≤ wr.heap.size := hbl.size
    have hln := qUp_length s.data.toList k
    by_cases hk : k < s.size
    · have hst := qUp_step s k hk
      have hl4 := qByte_length s[k]
      generalize qUp s.data.toList k = acc at *
      have hpl := plain s[k]
      by_cases c1 : s[k].toNat = 34
      · have HQ : Hid (qUp s.data.toList (k + 1) = acc ++ [92, s[k]]) := by
          rw [hst]; simp [Hid, qByte, c1]
        have c1' : ((s[k].toNat : Int) == 34) = true := by rw [beq_iff_eq]; omega
        clear hst hpl c1 hl4
        go_wp2_with (at_builtin; refine append_bytes rfl (.tmp 31) (.tmp 33) rfl w.heap.size _ acc rfl (hown.alloc _) _ _ [92, s[k]] (by simp) rfl ?src ?len ?hB ?next)
        case src => exact cells_new _ _ _
        case len => simp; omega
        case hB => simp; omega
        case next =>
          intro ad c' w' k1 k2
          have k3 := below_grown (hown.alloc _) (by simp; omega) (hbl.alloc hB _) k2
          clear k2 hown hbl
          go_wp2
          go_roundg (s.size - (k + 1))
          case measure => omega
          case rel => exact ⟨k + 1, by omega, by go_num, by rw [HQ.out]; simpa using k1, k3⟩

      have c1' : ((s[k].toNat : Int) == 34) = false := by rw [beq_eq_false_iff_ne]; omega
      by_cases c2 : s[k].toNat = 92
      · have HQ : Hid (qUp s.data.toList (k + 1) = acc ++ [92, s[k]]) := by
          rw [hst]; simp [Hid, qByte, c2]
        have c2' : ((s[k].toNat : Int) == 92) = true := by rw [beq_iff_eq]; omega
        clear hst hpl c1 c2 hl4
        go_wp2_with (at_builtin; refine append_bytes rfl (.tmp 31) (.tmp 33) rfl w.heap.size _ acc rfl (hown.alloc _) _ _ [92, s[k]] (by simp) rfl ?src ?len ?hB ?next)
        case src => exact cells_new _ _ _
        case len => simp; omega
        case hB => simp; omega
        case next =>
          intro ad c' w' k1 k2
          have k3 := below_grown (hown.alloc _) (by simp; omega) (hbl.alloc hB _) k2
          clear k2 hown hbl
          go_wp2
          go_roundg (s.size - (k + 1))
          case measure => omega
          case rel => exact ⟨k + 1, by omega, by go_num, by rw [HQ.out]; simpa using k1, k3⟩

      have c2' : ((s[k].toNat : Int) == 92) = false := by rw [beq_eq_false_iff_ne]; omega
      by_cases c3 : s[k].toNat = 10
      · have HQ : Hid (qUp s.data.toList (k + 1) = acc ++ [92, 110]) := by
          rw [hst]; simp [Hid, qByte, c3]
        have c3' : ((s[k].toNat : Int) == 10) = true := by rw [beq_iff_eq]; omega
        clear hst hpl c1 c2 c3 hl4
        go_wp2_with (at_builtin; refine append_bytes rfl (.tmp 38) (.tmp 39) rfl w.heap.size _ acc rfl (hown.alloc _) _ _ [92, 110] (by simp) rfl ?src ?len ?hB ?next)
        case src => exact cells_new _ _ _
        case len => simp; omega
        case hB => simp; omega
        case next =>
          intro ad c' w' k1 k2
          have k3 := below_grown (hown.alloc _) (by simp; omega) (hbl.alloc hB _) k2
          clear k2 hown hbl
          go_wp2
          go_roundg (s.size - (k + 1))
          case measure => omega
          case rel => exact ⟨k + 1, by omega, by go_num, by rw [HQ.out]; simpa using k1, k3⟩

      have c3' : ((s[k].toNat : Int) == 10) = false := by rw [beq_eq_false_iff_ne]; omega
      rcases (by cases isPlain s[k] <;> simp : isPlain s[k] = true ∨ isPlain s[k] = false) with c4 | c4
      · have HQ : Hid (qUp s.data.toList (k + 1) = acc ++ [s[k]]) := by
          rw [hst]; simp [Hid, qByte, c1, c2, c3, c4]
        rw [c4] at hpl
        clear hst c1 c2 c3 c4 hl4
        go_wp2_with fail
        refine (hpl _).mono ?_
        rintro e w2 ⟨rfl, rfl⟩
        go_wp2_with (at_builtin; refine append_bytes rfl (.tmp 44) (.tmp 46) rfl w.heap.size _ acc rfl (hown.alloc _) _ _ [s[k]] (by simp) rfl ?src ?len ?hB ?next)
        case src => exact cells_new _ _ _
        case len => simp; omega
        case hB => simp; omega
        case next =>
          intro ad c' w' k1 k2
          have k3 := below_grown (hown.alloc _) (by simp; omega) (hbl.alloc hB _) k2
          clear k2 hown hbl
          go_wp2
          go_roundg (s.size - (k + 1))
          case measure => omega
          case rel => exact ⟨k + 1, by omega, by go_num, by rw [HQ.out]; simpa using k1, k3⟩

      · have HQ : Hid (qUp s.data.toList (k + 1) = acc ++ [92, 120, hexSet.getD (s[k].toNat / 16) 0, hexSet.getD (s[k].toNat % 16) 0]) := by
          rw [hst]; simp [Hid, qByte, c1, c2, c3, c4]
        rw [c4] at hpl
        clear hst c1 c2 c3 c4 hl4
        have h256 : s[k].toNat < 256 := s[k].toNat_lt
        go_wp2_with fail
        refine (hpl _).mono ?_
        rintro e w2 ⟨rfl, rfl⟩
        have b15 := and15 s[k]
        have i1 : (0 : Int) ≤ (s[k].toNat : Int) / 16 ∧ (s[k].toNat : Int) / 16 < 16 := by omega
        have i2 : (0 : Int) ≤ (s[k].toNat : Int) % 16 ∧ (s[k].toNat : Int) % 16 < 16 := by omega
        go_wp2
        go_region_law (refine step_bytes rfl (.tmp 15) (.tmp 22) rfl w.heap.size u3 acc (by simp [Act.eval]) ((show World.ownsRow w2.drew w.heap.size 5 1 u3 acc.length (bc acc) from hown).alloc _) ⟨w2.heap.size, 0, none⟩ 4 [92, 120, hexSet.getD (s[k].toNat / 16) 0, hexSet.getD (s[k].toNat % 16) 0] (by simp) (by simp [Act.eval]) (by refine fun j u hj => cells_new _ _ _ j u ?_; rw [← hj]; simp only [bc, List.map_cons, List.map_nil]; rw [dig_at _ (s[k].toNat / 16) _ (by omega), dig_at _ (s[k].toNat % 16) _ (by omega)]; rfl) (by simp; omega) (by simp; omega) ?_; intro ad c' w' k1 k2; have k3 := below_grown ((show World.ownsRow w2.drew w.heap.size 5 1 u3 acc.length (bc acc) from hown).alloc _) (by simp; omega) (Below.alloc (Below.drew hbl) hB _) k2; clear k2)
        all_goals (
          clear hown hbl
          go_wp2
          go_roundg (s.size - (k + 1))
          case measure => omega
          case rel => exact ⟨k + 1, by omega, by go_num, by rw [HQ.out]; simpa using k1, k3⟩)
    · have hk' : k = s.size := by omega
      have hq := qUp_all s
      subst hk'
      generalize qUp s.data.toList s.size = acc at *
      have HQ : Hid (acc ++ [34] = quoteR s.data.toList) := hq
      clear hq
      go_wp2_with (at_builtin; refine append_bytes rfl (.tmp 49) (.tmp 50) rfl w.heap.size _ acc rfl (hown.alloc _) _ _ [34] (by simp) rfl ?src ?len ?hB ?next)
      case src => exact cells_new _ _ _
      case len => simp; omega
      case hB => simp; omega
      case next =>
        intro ad c' w' k1 k2
        have k3 := below_grown (hown.alloc _) (by simp; omega) (hbl.alloc hB _) k2
        clear k2 hown hbl
        have hcv := owns_string (v := .slice (some ad) (acc.length + 1) c') (l := acc ++ [34]) (by simpa using k1)
        rw [HQ.out] at hcv
        go_wp2
        go_ret
        exact ⟨rfl, k3⟩
end Go.Proofs.Ytmekjbplodnldaa
