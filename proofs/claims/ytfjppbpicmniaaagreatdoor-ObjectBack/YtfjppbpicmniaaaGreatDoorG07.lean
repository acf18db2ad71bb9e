/-
  The package's end: its walk, from label to label.
  And: The package's Right, Elem, Named, Array, Func.
-/
import Derived.Test.YtfjppbpicmniaaaGreatDoorG04
import Derived.Test.YtfjppbpicmniaaaGreatDoorG06
import Derived.Test.YtfjppbpicmniaaaGreatDoorG03
namespace Go.Proofs.YtfjppbpicmniaaaGreatDoor
open Go.RowKit

/-- Whole numbers as cells. -/
def ic (l : List Nat) : List Value := l.map fun (n : Nat) => Value.int .i64 (n : Int)
theorem ic_length (l : List Nat) : (ic l).length = l.length := by simp [ic]
theorem ic_append (a b : List Nat) : ic (a ++ b) = ic a ++ ic b := by simp [ic]
theorem infoI : (Tryz.prog.info? 3).map (fun i => (i.zero.map (fun z => z.cells.size), i.size, i.bytes)) = some (some 1, 1, 8) := by kernel_rfl
/-- append of one whole number onto a row of the call's own. -/
theorem append_nat {w : World} {ops : Array Oper} {rest : List Oper} {o : Oper} {a : Act} {Q : Exit → Act → World → Prop} (hgd : o.guard = none) (s x : Operand)
    (ho : o.op = .call { callee := .builtin .append, args := #[s, x], argTypes := #[166, 166] })
    (B : Nat) (v : Value) (acc : List Nat) (hs : a.eval s = v) (hown : w.ownsRow B 3 1 v acc.length (ic acc))
    (ad : Addr) (c : Nat) (n : Nat) (hx : a.eval x = .slice (some ad) 1 c) (hnews : ∀ j u, (ic [n])[j]? = some u → w.cell? (ad.add j) = some u)
    (hlen : acc.length + 1 ≤ 8193) (hB : B ≤ w.heap.size)
    (h : ∀ ad' c' w', w'.ownsRow B 3 1 (.slice (some ad') (acc.length + 1) c') (acc ++ [n]).length (ic (acc ++ [n])) → w.grownBy w' v.ownBlock → wpList Tryz.prog ops Q rest (a.put o.dst (.slice (some ad') (acc.length + 1) c')) w') :
    wpList Tryz.prog ops Q (o :: rest) a w := by
  obtain ⟨i, z, hi, hz, h1, h2, h3⟩ := info_z infoI
  refine wpList_append_own w hgd s x 166 ho B 3 i z 1 8 Tryz.underlying166 hi hz h1 h2 h3 (by decide) v acc.length (ic acc) hs hown ad 1 c (ic [n]) hx rfl hnews (fun u hu => ?_) (by unfold maxLen; omega) (by omega) hB ?_
  · obtain ⟨_, _, rfl⟩ := List.mem_map.1 hu
    rfl
  intro v' w' k1 k2 k3
  rcases k1.2 with ⟨rfl, hz⟩ | ⟨g, cap, cur, rfl, _⟩
  · omega
  · rw [← ic_append] at k1
    exact h ⟨g, 0, none⟩ cap w' (by simpa using k1) k2

theorem frame127 (a : Act) (h : a.tmps.size = 127) (hd : a.defers = []) : ∃ f : Nat → Value, a = { tmps := #[f 0, f 1, f 2, f 3, f 4, f 5, f 6, f 7, f 8, f 9, f 10, f 11, f 12, f 13, f 14, f 15, f 16, f 17, f 18, f 19, f 20, f 21, f 22, f 23, f 24, f 25, f 26, f 27, f 28, f 29, f 30, f 31, f 32, f 33, f 34, f 35, f 36, f 37, f 38, f 39, f 40, f 41, f 42, f 43, f 44, f 45, f 46, f 47, f 48, f 49, f 50, f 51, f 52, f 53, f 54, f 55, f 56, f 57, f 58, f 59, f 60, f 61, f 62, f 63, f 64, f 65, f 66, f 67, f 68, f 69, f 70, f 71, f 72, f 73, f 74, f 75, f 76, f 77, f 78, f 79, f 80, f 81, f 82, f 83, f 84, f 85, f 86, f 87, f 88, f 89, f 90, f 91, f 92, f 93, f 94, f 95, f 96, f 97, f 98, f 99, f 100, f 101, f 102, f 103, f 104, f 105, f 106, f 107, f 108, f 109, f 110, f 111, f 112, f 113, f 114, f 115, f 116, f 117, f 118, f 119, f 120, f 121, f 122, f 123, f 124, f 125, f 126], defers := [] } := by
  refine ⟨fun k => a.tmps.getD k undef, ?_⟩
  obtain ⟨t, d⟩ := a
  simp only at h hd
  subst hd
  have e := arr_map t
  rw [h] at e
  simp only [Act.mk.injEq, and_true]
  exact e

/-- Where a type ends. -/
def EndE (r : Int) (w : World) (e : Ending) (w' : World) : Prop := e = .returned (.int .i64 r) ∧ Below w.heap.size w w'
theorem endE_no {L : List UInt8} {fr : Nat} {w w' : World} {z : Int} (h : one (L.drop fr) = none) (hz : z = -1) (hb : Below w.heap.size w w') : EndE (endI L fr) w (.returned (.int .i64 z)) w' := by
  subst hz
  exact ⟨by rw [endI, h], hb⟩
theorem endE_yes {L : List UInt8} {fr p : Nat} {w w' : World} {z : Int} (h : one (L.drop fr) = some (L.drop p)) (hz : z = (p : Int)) (hp : p ≤ L.length) (hb : Below w.heap.size w w') : EndE (endI L fr) w (.returned (.int .i64 z)) w' := by
  subst hz
  refine ⟨?_, hb⟩
  rw [endI, h]
  simp
  omega
/-- What holds at each label of end. -/
def edJ (s : ByteArray) (R : Option (List UInt8)) (w0 : World) (l : Nat) (a : Act) (w : World) : Prop :=
  ∃ (p : Nat) (st : List Nat) (v : Value), a.tmps.size = 127 ∧ a.defers = [] ∧ a.tmps.getD 0 undef = .string s ∧ a.tmps.getD 5 undef = v ∧ a.tmps.getD 7 undef = .int .i64 (p : Int) ∧
    p ≤ s.size ∧ st.length ≤ p ∧ (∀ k ∈ st, k ≤ 6) ∧ w.ownsRow w0.heap.size 3 1 v st.length (ic st.reverse) ∧ Below w0.heap.size w0 w ∧
    ((l = 0 ∧ Hid (begS st (s.data.toList.drop p) = R)) ∨ (l = 1 ∧ Hid (behS st (s.data.toList.drop p) = R)))
def edM (s : ByteArray) (l : Nat) (a : Act) (_ : World) : Nat :=
  match l with
  | 0 => 2 * (s.size - (intOf (a.tmps.getD 7 undef)).toNat) + 1
  | _ => 2 * (s.size - (intOf (a.tmps.getD 7 undef)).toNat) + 2
theorem pre2_yes (c d : UInt8) (r : List UInt8) (h1 : c.toNat = 40) (h2 : d.toNat = 41) : Lib.hasPrefix (c :: d :: r) [40, 41] = true := by
  have e1 : c = 40 := UInt8.toNat_inj.1 h1
  have e2 : d = 41 := UInt8.toNat_inj.1 h2
  subst e1 e2
  simp [Lib.hasPrefix]
theorem pre2_no (l : List UInt8) (h : ∀ c d r, l = c :: d :: r → c.toNat = 40 → d.toNat ≠ 41) : Lib.hasPrefix l [40, 41] = false := by
  match l with
  | [] => rfl
  | [c] => simp [Lib.hasPrefix, List.isPrefixOf]
  | c :: d :: r =>
    have := h c d r rfl
    rw [Bool.eq_false_iff]
    intro hp
    simp only [Lib.hasPrefix, List.isPrefixOf_cons_cons, Bool.and_eq_true, beq_iff_eq] at hp
    exact this (by rw [← hp.1]; rfl) (by rw [← hp.2.1]; rfl)
theorem ext_data (s : ByteArray) (p : Nat) : (s.extract p s.size).data.toList = s.data.toList.drop p := by rw [str_drop, str_data]
theorem ext_size (s : ByteArray) (p : Nat) : (s.extract p s.size).size ≤ s.size := by rw [str_drop, str_size, List.length_drop, size_len]; omega

set_option maxHeartbeats 4000000 in
set_option maxRecDepth 1000000 in
theorem endAt (s : ByteArray) (fr : Nat) (w : World) (hs : s.size ≤ 200) (hfr : fr ≤ s.size) : Calls Tryz.prog 133 #[.string s, .int .i64 (fr : Int)] w (EndE (endI s.data.toList fr) w) := by
  go_enter Tryz.func133, Tryz.ntmps133
  go_wp2
  refine wp_scope_fall (edJ s (one (s.data.toList.drop fr)) w) (edM s) ?_ ?_
  · intro hp
    replace hp := hidden hp
    refine wp_seq ?_
    go_wp2
    rename_i hK
    refine wp_label (hK _ _ (hp.out 0 _ _ _ rfl ⟨fr, [], _, rfl, rfl, rfl, rfl, rfl, hfr, by simp, by simp, World.ownsRow_nil _ _ _ _, Below.refl _ _, .inl ⟨rfl, by rw [hid_iff, begS, show behS [] = some from funext behS_end]; simp⟩⟩))
  · rintro l a w1 ⟨p, st, v, ha1, ha2, ha3, ha4, ha5, hp1, hst, hk6, hown, hbl, hl⟩ hfall
    replace hfall := hidden hfall
    obtain ⟨f, rfl⟩ := frame127 a ha1 ha2
    replace ha3 : f 0 = .string s := ha3
    replace ha4 : f 5 = v := ha4
    replace ha5 : f 7 = .int .i64 (p : Int) := ha5
    rw [ha3, ha4, ha5] at hfall ⊢
    clear ha1 ha2 ha3 ha4 ha5
    have hown' : w1.ownsRow w.heap.size 3 1 v st.reverse.length (ic st.reverse) := by rw [List.length_reverse]; exact hown
    have hB : w.heap.size ≤ w1.heap.size := hbl.size
    rcases hl with ⟨rfl, hq⟩ | ⟨rfl, hq⟩
    · refine ⟨_, rfl, ?_⟩
      by_cases hp : p < s.size
      · have hps : (p : Int) ≤ (s.size : Int) := by omega
        have hpe : ((p : Int) == (s.size : Int)) = false := by rw [beq_eq_false_iff_ne]; omega
        have hd := drop_at s p hp
        by_cases c1 : s[p].toNat = 91
        · have HQ : Hid (begS (0 :: st) (s.data.toList.drop (p + 1)) = one (s.data.toList.drop fr)) := by
            rw [hid_iff, ← hq.out, hd, begS_arr st _ c1]
          have c1' : ((s[p].toNat : Int) == 91) = true := by rw [beq_iff_eq]; omega
          clear c1 hq hd
          go_wp2_with (at_builtin; refine append_nat rfl (.tmp 19) (.tmp 20) rfl w.heap.size v st.reverse rfl (hown'.alloc _) _ _ 0 rfl ?src ?len ?hB ?next)
          case src => first | exact cells_new _ _ _ | exact fun j u h => h
          case len => first | omega | (simp; omega)
          case hB => first | omega | (simp; omega)
          case next =>
            intro ad c' w' k1 k2
            have k3 := below_grown (hown.alloc _) (by simp; omega) (hbl.alloc hB _) k2
            clear k2 hown hbl
            go_wp2
            refine wp_goto ⟨⟨p + 1, 0 :: st, _, rfl, rfl, rfl, rfl, by go_num, by omega, by simp; omega, ?k6, by simpa using k1, k3, .inl ⟨rfl, HQ⟩⟩, ?_⟩
            case k6 => intro k hk; simp at hk; rcases hk with rfl | hk; exact Nat.zero_le _; exact hk6 k hk
            simp [edM, intOf]
            omega
        · have c1' : ((s[p].toNat : Int) == 91) = false := by rw [beq_eq_false_iff_ne]; omega
          have hpx := fun u => Tryz.strings_HasPrefix (s.extract p s.size) ⟨#[40, 41]⟩ u
          rw [ext_data] at hpx
          by_cases c2 : s[p].toNat = 40 ∧ ∃ h : p + 1 < s.size, s[p + 1].toNat = 41
          · obtain ⟨c2, hp2, c3⟩ := c2
            have hd2 := drop_at s (p + 1) hp2
            have HQ : Hid (begS st (s.data.toList.drop (p + 2)) = one (s.data.toList.drop fr)) := by
              rw [hid_iff, ← hq.out, hd, hd2, begS_fn0 st _ c2 c3]
            have hpt : Lib.hasPrefix (s.data.toList.drop p) [40, 41] = true := by rw [hd, hd2]; exact pre2_yes _ _ _ c2 c3
            rw [hpt] at hpx
            clear c1 c2 c3 hq hd hd2 hpt
            go_wp2_with fail
            refine (hpx _).mono ?_
            rintro e w2 ⟨rfl, rfl⟩
            go_wp2
            refine wp_goto ⟨⟨p + 2, st, _, rfl, rfl, rfl, rfl, by go_num, by omega, by omega, hk6, hown, hbl, .inl ⟨rfl, HQ⟩⟩, ?_⟩
            simp [edM, intOf]
            omega
          · have hpf : Lib.hasPrefix (s.data.toList.drop p) [40, 41] = false := by
              refine pre2_no _ (fun c d r he h1 h2 => c2 ?_)
              rw [hd] at he
              simp only [List.cons.injEq] at he
              refine ⟨by rw [he.1]; exact h1, ?_⟩
              have hlt : p + 1 < s.size := by
                rcases Nat.lt_or_ge (p + 1) s.size with h | h
                · exact h
                · rw [drop_end s (p + 1) h] at he
                  simp at he
              refine ⟨hlt, ?_⟩
              have := drop_at s (p + 1) hlt
              rw [this] at he
              simp only [List.cons.injEq] at he
              rw [he.2.1]
              exact h2
            rw [hpf] at hpx
            by_cases c3 : s[p].toNat = 40
            · have HQ : Hid (begS (1 :: st) (s.data.toList.drop (p + 1)) = one (s.data.toList.drop fr)) := by
                rw [hid_iff, ← hq.out, hd, begS_fn st _ c3 (fun d y he h2 => c2 ⟨c3, ?_⟩)]
                have hlt : p + 1 < s.size := by
                  rcases Nat.lt_or_ge (p + 1) s.size with h | h
                  · exact h
                  · rw [drop_end s (p + 1) h] at he
                    simp at he
                refine ⟨hlt, ?_⟩
                rw [drop_at s (p + 1) hlt] at he
                simp only [List.cons.injEq] at he
                rw [he.1]
                exact h2
              have c3' : ((s[p].toNat : Int) == 40) = true := by rw [beq_iff_eq]; omega
              clear c1 c2 c3 hq hd hpf
              go_wp2_with fail
              refine (hpx _).mono ?_
              rintro e w2 ⟨rfl, rfl⟩
              go_wp2_with (at_builtin; refine append_nat rfl (.tmp 36) (.tmp 37) rfl w.heap.size v st.reverse rfl (hown'.alloc _) _ _ 1 rfl ?src ?len ?hB ?next)
              case src => first | exact cells_new _ _ _ | exact fun j u h => h
              case len => first | omega | (simp; omega)
              case hB => first | omega | (simp; omega)
              case next =>
                intro ad c' w' k1 k2
                have k3 := below_grown (hown.alloc _) (by simp; omega) (hbl.alloc hB _) k2
                clear k2 hown hbl
                go_wp2
                refine wp_goto ⟨⟨p + 1, 1 :: st, _, rfl, rfl, rfl, rfl, by go_num, by omega, by simp; omega, ?k6, by simpa using k1, k3, .inl ⟨rfl, HQ⟩⟩, ?_⟩
                case k6 => intro k hk; simp at hk; rcases hk with rfl | hk; omega; exact hk6 k hk
                simp [edM, intOf]
                omega
            · have c3' : ((s[p].toNat : Int) == 40) = false := by rw [beq_eq_false_iff_ne]; omega
              have hwd := fun u => word (s.extract p s.size) u (by have := ext_size s p; omega)
              rw [ext_data] at hwd
              have hwl := word_le (s.data.toList.drop p)
              rw [List.length_drop, size_len] at hwl
              have hrw := fun u => rightWord (str (wordR (s.data.toList.drop p))) u (by rw [str_size]; omega)
              rw [str_data] at hrw
              cases hok : wordOk (wordR (s.data.toList.drop p))
              · have HR : Hid (one (s.data.toList.drop fr) = none) := by
                  rw [hid_iff, ← hq.out, hd]
                  rw [hd] at hok
                  exact begS_bad st _ c1 c3 hok
                rw [hok] at hrw
                clear c1 c2 c3 hq hd hpf hok
                generalize wordR (s.data.toList.drop p) = x at *
                go_wp2_with fail
                refine (hpx _).mono ?_
                rintro e w2 ⟨rfl, rfl⟩
                go_wp2_with fail
                refine (hwd _).mono ?_
                rintro e w2 ⟨rfl, hb2⟩
                go_wp2_with fail
                refine (hrw _).mono ?_
                rintro e w3 ⟨rfl, n, rfl⟩
                have hb3 := below_drewN (hbl.trans ⟨hb2.os, hb2.tape, hb2.output, hb2.size, fun k hk => hb2.block k (by omega)⟩) n
                clear hb2
                generalize w2.drewN n = w3 at *
                go_wp2
                go_ret
                exact endE_no HR.out rfl hb3
              · have hpos := wordOk_pos hok
                have HQ : Hid (behS st (s.data.toList.drop (p + (wordR (s.data.toList.drop p)).length)) = one (s.data.toList.drop fr)) := by
                  rw [hid_iff, ← hq.out, ← List.drop_drop, hd]
                  rw [hd] at hok
                  exact (begS_word st _ c1 c3 hok).symm
                rw [hok] at hrw
                clear c1 c2 c3 hq hd hpf hok
                generalize wordR (s.data.toList.drop p) = x at *
                have hxs : (str x).size = x.length := rfl
                go_wp2_with fail
                refine (hpx _).mono ?_
                rintro e w2 ⟨rfl, rfl⟩
                go_wp2_with fail
                refine (hwd _).mono ?_
                rintro e w2 ⟨rfl, hb2⟩
                have ho2 := owns_below hown hb2
                have hb3 : Below w.heap.size w w2 := hbl.trans ⟨hb2.os, hb2.tape, hb2.output, hb2.size, fun k hk => hb2.block k (by omega)⟩
                clear hb2 hbl hown
                go_wp2_with fail
                refine (hrw _).mono ?_
                rintro e w3 ⟨rfl, n, rfl⟩
                have ho4 : (w2.drewN n).ownsRow w.heap.size 3 1 v st.length (ic st.reverse) := ho2
                have hb4 := below_drewN hb3 n
                clear ho2 hb3
                generalize w2.drewN n = w4 at *
                go_wp2_with fail
                refine (hwd _).mono ?_
                rintro e w5 ⟨rfl, hb5⟩
                have hB4 : w.heap.size ≤ w4.heap.size := hb4.size
                have ho6 := owns_below ho4 hb5
                have hb6 : Below w.heap.size w w5 := hb4.trans ⟨hb5.os, hb5.tape, hb5.output, hb5.size, fun k hk => hb5.block k (by omega)⟩
                clear ho4 hb4 hb5
                go_wp2
                rename_i hK
                refine wp_label (hK _ _ (hfall.out 1 _ _ _ rfl ⟨p + x.length, st, _, rfl, rfl, rfl, rfl, by go_num, by omega, by omega, hk6, ho6, hb6, .inr ⟨rfl, HQ⟩⟩ ?_))
                simp [edM, intOf]
                omega
      · have hpe : p = s.size := by omega
        have HR : Hid (one (s.data.toList.drop fr) = none) := by
          rw [hid_iff, ← hq.out, drop_end s p (by omega)]
          exact begS_nil st
        subst hpe
        clear hq
        go_wp2
        go_ret
        exact endE_no HR.out rfl hbl
    · refine ⟨_, rfl, ?_⟩
      clear hown'
      cases st with
      | nil =>
        have HR : Hid (one (s.data.toList.drop fr) = some (s.data.toList.drop p)) := by rw [hid_iff, ← hq.out, behS_end]
        obtain ⟨ao, cap, rfl⟩ : ∃ ao cap, v = .slice ao 0 cap := by
          rcases owns_shape hown with ⟨rfl, hn⟩ | ⟨g, cap, rfl, _⟩
          · exact ⟨none, 0, rfl⟩
          · exact ⟨_, _, rfl⟩
        clear hq hown hfall
        go_wp2
        go_ret
        exact endE_yes HR.out rfl (by rw [size_len]; exact hp1) hbl
      | cons k st =>
        have hk7 := hk6 k (by simp)
        have hk8 : ∀ x ∈ st, x ≤ 6 := fun x hx => hk6 x (by simp [hx])
        rw [List.reverse_cons, ic_append] at hown
        simp only [List.length_cons] at hown hst
        obtain ⟨g, cap, rfl, hcap, hg⟩ : ∃ g cap, v = .slice (some ⟨g, 0, none⟩) (st.length + 1) cap ∧ st.length + 1 ≤ cap ∧ w.heap.size ≤ g := by
          rcases hown.2 with ⟨_, h0⟩ | ⟨g, cap, cur, hv, hb, hg, h1, h2, _⟩
          · omega
          · exact ⟨g, cap, hv, h1, hb⟩
        have hcell : w1.cell? ⟨g, st.length, none⟩ = some (.int .i64 (k : Int)) := by
          rw [hown.cellAt _ (by omega), List.getElem?_append_right (by rw [ic_length, List.length_reverse]; omega)]
          simp [ic]
        have hfz := hown.frozenAt st.length
        have hpop := ownsRow_pop (by rw [ic_length, List.length_reverse, Nat.mul_one]) hown
        have hset := hown.stored st.length (.int .i64 ((k + 1 : Nat) : Int))
        rw [List.set_append_right _ _ (by rw [ic_length, List.length_reverse]; omega)] at hset
        simp only [ic_length, List.length_reverse, Nat.sub_self] at hset
        have hset1 : (w1.setCell ⟨g, st.length, none⟩ (.int .i64 ((k + 1 : Nat) : Int))).ownsRow w.heap.size 3 1 (.slice (some ⟨g, 0, none⟩) (st.length + 1) cap) (((k + 1) :: st).length) (ic ((k + 1) :: st).reverse) := by
          rw [List.reverse_cons, ic_append]
          exact hset.1
        have hset2 := below_grown hown hB hbl hset.2
        have hn1 : (0 : Int) ≤ (st.length : Int) := by omega
        have hn2 : (st.length : Int) ≤ (cap : Int) := by omega
        clear hown hset
        by_cases hp : p < s.size
        · have hd := drop_at s p hp
          have hpe : ((p : Int) == (s.size : Int)) = false := by rw [beq_eq_false_iff_ne]; omega
          cases k with
          | zero =>
            by_cases c1 : s[p].toNat = 93
            · have HQ : Hid (behS st (s.data.toList.drop (p + 1)) = one (s.data.toList.drop fr)) := by
                rw [hid_iff, ← hq.out, hd, behS_arr st _ c1]
              have c1' : ((s[p].toNat : Int) == 93) = true := by rw [beq_iff_eq]; omega
              clear c1 hq hd hset1 hset2 hfall
              go_wp2
              refine wp_goto ⟨⟨p + 1, st, _, rfl, rfl, rfl, rfl, by go_num, by omega, by omega, hk8, hpop, hbl, .inr ⟨rfl, HQ⟩⟩, ?_⟩
              simp [edM, intOf]
              omega
            · have HR : Hid (one (s.data.toList.drop fr) = none) := by
                rw [hid_iff, ← hq.out, hd, behS_arr_bad st _ c1]
              have c1' : ((s[p].toNat : Int) == 93) = false := by rw [beq_eq_false_iff_ne]; omega
              clear c1 hq hd hset1 hset2 hfall hpop
              go_wp2
              go_ret
              exact endE_no HR.out rfl hbl
          | succ j =>
            generalize hkj : j + 1 = k at *
            have k0 : ((k : Int) == 0) = false := by rw [beq_eq_false_iff_ne]; omega
            have k1 : (0 : Int) < (k : Int) := by omega
            by_cases c1 : s[p].toNat = 41
            · have HQ : Hid (begS st (s.data.toList.drop (p + 1)) = one (s.data.toList.drop fr)) := by
                rw [hid_iff, ← hq.out, hd, ← hkj, behS_close j st _ c1]
              have c1' : ((s[p].toNat : Int) == 41) = true := by rw [beq_iff_eq]; omega
              clear c1 hq hd hset1 hset2 hfall hkj
              go_wp2
              refine wp_goto ⟨⟨p + 1, st, _, rfl, rfl, rfl, rfl, by go_num, by omega, by omega, hk8, hpop, hbl, .inl ⟨rfl, HQ⟩⟩, ?_⟩
              simp [edM, intOf]
              omega
            · have c1' : ((s[p].toNat : Int) == 41) = false := by rw [beq_eq_false_iff_ne]; omega
              by_cases c2 : k < 6
              · have c2' : (k : Int) < 6 := by omega
                by_cases c3 : s[p].toNat = 44
                · have HQ : Hid (begS ((k + 1) :: st) (s.data.toList.drop (p + 1)) = one (s.data.toList.drop fr)) := by
                    rw [hid_iff, ← hq.out, hd, ← hkj, behS_comma j st _ c3 (by omega)]
                  have c3' : ((s[p].toNat : Int) == 44) = true := by rw [beq_iff_eq]; omega
                  rw [show (((k + 1 : Nat)) : Int) = (k : Int) + 1 from rfl] at hset1 hset2
                  clear c1 c3 hq hd hfall hkj hpop
                  go_wp2
                  refine wp_goto ⟨⟨p + 1, (k + 1) :: st, _, rfl, rfl, rfl, rfl, by go_num, by omega, by simp; omega, ?k6, hset1, hset2, .inl ⟨rfl, HQ⟩⟩, ?_⟩
                  case k6 => intro x hx; simp at hx; rcases hx with rfl | hx; omega; exact hk8 x hx
                  simp [edM, intOf]
                  omega
                · have HR : Hid (one (s.data.toList.drop fr) = none) := by
                    rw [hid_iff, ← hq.out, hd, ← hkj, behS_bad j st _ c1 (fun h => c3 h.1)]
                  have c3' : ((s[p].toNat : Int) == 44) = false := by rw [beq_eq_false_iff_ne]; omega
                  clear c1 c2 c3 hq hd hset1 hset2 hfall hkj hpop
                  go_wp2
                  go_ret
                  exact endE_no HR.out rfl hbl
              · have c2' : ¬ (k : Int) < 6 := by omega
                have HR : Hid (one (s.data.toList.drop fr) = none) := by
                  rw [hid_iff, ← hq.out, hd, ← hkj, behS_bad j st _ c1 (fun h => c2 (by omega))]
                clear c1 c2 hq hd hset1 hset2 hfall hkj hpop
                go_wp2
                go_ret
                exact endE_no HR.out rfl hbl
        · have hpe : p = s.size := by omega
          have HR : Hid (one (s.data.toList.drop fr) = none) := by
            rw [hid_iff, ← hq.out, drop_end s p (by omega)]
            exact behS_nil k st
          subst hpe
          clear hq hset1 hset2 hfall hpop
          go_wp2
          go_ret
          exact endE_no HR.out rfl hbl
end Go.Proofs.YtfjppbpicmniaaaGreatDoor

namespace Go.Proofs.YtfjppbpicmniaaaGreatDoor
open Go.RowKit

/-- A bool; what was there stays. -/
def BoolB (b : Bool) (w : World) (e : Ending) (w' : World) : Prop := e = .returned (.bool b) ∧ Below w.heap.size w w'
theorem end_len (L : List UInt8) : ((endI L 0 == (L.length : Int)) = true) ↔ one L = some [] := by
  rw [beq_iff_eq, endI, List.drop_zero]
  cases h : one L with
  | none => simp
  | some r =>
    simp only [Option.some.injEq]
    constructor
    · intro e
      exact List.eq_nil_of_length_eq_zero (by omega)
    · rintro rfl
      simp

set_option maxHeartbeats 1000000 in
set_option maxRecDepth 1000000 in
theorem right (s : ByteArray) (w : World) : Calls Tryz.prog 75 #[.string s] w (BoolB (rightR s.data.toList) w) := by
  by_cases hs : s.size ≤ 200
  · have he := fun u => endAt s 0 u hs (by omega)
    have HR : Hid (rightR s.data.toList = (endI s.data.toList 0 == (s.size : Int))) := by
      rw [hid_iff, rightR, decide_eq_true (by rw [size_len]; exact hs), Bool.true_and, Bool.eq_iff_iff, decide_eq_true_iff, ← size_len, end_len]
    have hs' : (s.size : Int) ≤ 200 := by omega
    generalize endI s.data.toList 0 = r at *
    go_enter Tryz.func75, Tryz.ntmps75
    go_wp2_with (go_at_call 133; refine (he _).mono ?_; rintro e w1 ⟨rfl, hb⟩)
    go_ret
    exact ⟨by rw [HR.out]; rfl, hb⟩
  · have HR : Hid (rightR s.data.toList = false) := by
      rw [hid_iff, rightR, decide_eq_false (by rw [size_len]; exact hs)]; rfl
    have hs' : ¬ (s.size : Int) ≤ 200 := by omega
    clear hs
    go_enter Tryz.func75, Tryz.ntmps75
    go_wp2_with fail
    go_ret
    exact ⟨by rw [HR.out]; rfl, Below.refl _ _⟩

theorem rightR_len {l : List UInt8} (h : rightR l = true) : l.length ≤ 200 := by
  rw [rightR, Bool.and_eq_true, decide_eq_true_iff] at h
  exact h.1
theorem rightR_one {l : List UInt8} (h : rightR l = true) : one l = some [] := by
  rw [rightR, Bool.and_eq_true, decide_eq_true_iff, decide_eq_true_iff] at h
  exact h.2
theorem rightR_pos {l : List UInt8} (h : rightR l = true) : 0 < l.length := by
  have := one_len (rightR_one h)
  simpa using this
/-- The element of an array. -/
def elemR (l : List UInt8) : List UInt8 := (l.drop 1).take (l.length - 2)
def isArr (l : List UInt8) : Bool := rightR l && isHead 91 l
def isFn (l : List UInt8) : Bool := rightR l && isHead 40 l
def ElemE (l : List UInt8) (w : World) (e : Ending) (w' : World) : Prop :=
  e = .returned (if isArr l = true then .tuple #[.string (str (elemR l)), .bool true] else .tuple #[.string (str []), .bool false]) ∧ Below w.heap.size w w'
theorem elemE_yes {l x : List UInt8} {w w' : World} (h : isArr l = true) (hx : elemR l = x) (hb : Below w.heap.size w w') : ElemE l w (.returned (.tuple #[.string (str x), .bool true])) w' := by
  subst hx
  exact ⟨by rw [if_pos h], hb⟩
theorem elemE_no {l : List UInt8} {x : ByteArray} {w w' : World} (h : isArr l = false) (hx : x = str []) (hb : Below w.heap.size w w') : ElemE l w (.returned (.tuple #[.string x, .bool false])) w' := by
  subst hx
  exact ⟨by rw [if_neg (by rw [h]; decide)], hb⟩
theorem isHead_at (s : ByteArray) (n : Nat) (h : 0 < s.size) : isHead n s.data.toList = decide (s[0].toNat = n) := by
  have := drop_at s 0 h
  rw [List.drop_zero] at this
  rw [this, isHead_cons]
theorem arr_two {c : UInt8} {r : List UInt8} (hc : c.toNat = 91) (h : one (c :: r) = some []) : 2 ≤ (c :: r).length := by
  cases r with
  | nil => rw [one_arr _ hc, one_nil] at h; cases h
  | cons => simp

theorem below_trans {w w1 w2 : World} (h1 : Below w.heap.size w w1) (h2 : Below w1.heap.size w1 w2) : Below w.heap.size w w2 :=
  h1.trans ⟨h2.os, h2.tape, h2.output, h2.size, fun k hk => h2.block k (Nat.lt_of_lt_of_le hk h1.size)⟩
theorem named_short {l : List UInt8} (h : namedR l = true) : (aheadR l).length ≤ 24 ∧ (behindR l).length ≤ 24 := by
  rw [namedR, Bool.and_eq_true, valueR, Bool.and_eq_true, bigR, Bool.and_eq_true] at h
  have h1 := h.1.1
  have h2 := h.2.1
  simp only [nameR, Bool.and_eq_true, decide_eq_true_eq] at h1 h2
  exact ⟨h1.1.1.2, h2.1.1.2⟩
/-- The parts of a named type; nothing, if it is none. -/
def NamedE (l : List UInt8) (w : World) (e : Ending) (w' : World) : Prop :=
  e = .returned (if namedR l = true then .tuple #[.string (str (aheadR l)), .string (str (behindR l)), .bool true] else .tuple #[.string (str []), .string (str []), .bool false]) ∧ Below w.heap.size w w'
/-- A row of texts that can be read. -/
def StrRow (w : World) (v : Value) (xs : List (List UInt8)) : Prop :=
  (xs = [] ∧ ∃ a c, v = .slice a 0 c) ∨ ∃ bk o c, v = .slice (some ⟨bk, o, none⟩) xs.length c ∧ bk < w.heap.size ∧ xs.length ≤ c ∧ ∀ (j : Nat) x, xs[j]? = some x → w.cell? ⟨bk, o + j, none⟩ = some (.string (str x))
theorem StrRow.below {w w' : World} {v : Value} {xs : List (List UInt8)} (h : StrRow w v xs) (hb : Below w.heap.size w w') : StrRow w' v xs := by
  rcases h with h | ⟨bk, o, c, rfl, h1, h2, h3⟩
  · exact .inl h
  · exact .inr ⟨bk, o, c, rfl, Nat.lt_of_lt_of_le h1 hb.size, h2, fun j x hj => by
      have := h3 j x hj
      unfold World.cell? at this ⊢
      rw [hb.block bk h1]
      exact this⟩
theorem StrRow.shape {w : World} {v : Value} {xs : List (List UInt8)} (h : StrRow w v xs) : ∃ a c, v = .slice a xs.length c := by
  rcases h with ⟨rfl, a, c, rfl⟩ | ⟨bk, o, c, rfl, _⟩
  · exact ⟨a, c, rfl⟩
  · exact ⟨_, c, rfl⟩
/-- Texts as cells. -/
def sc (l : List (List UInt8)) : List Value := l.map fun x => Value.string (str x)
theorem sc_length (l : List (List UInt8)) : (sc l).length = l.length := by simp [sc]
theorem sc_append (a b : List (List UInt8)) : sc (a ++ b) = sc a ++ sc b := by simp [sc]
theorem strRow_own {w : World} {B e : Nat} {v : Value} {xs : List (List UInt8)} (h : w.ownsRow B e 1 v xs.length (sc xs)) : StrRow w v xs := by
  rcases h.2 with ⟨rfl, hn⟩ | ⟨g, cap, cur, rfl, hb, hg, h1, _⟩
  · exact .inl ⟨List.eq_nil_of_length_eq_zero hn, none, 0, rfl⟩
  · refine .inr ⟨g, 0, cap, rfl, (Array.getElem?_eq_some_iff.1 hg).1, h1, fun j x hj => ?_⟩
    have hlt := (List.getElem?_eq_some_iff.1 hj).1
    rw [Nat.zero_add, h.cellAt j (by omega)]
    simp [sc, hj]
theorem map_data (xs : List (List UInt8)) : (xs.map str).map (·.data.toList) = xs := by
  rw [List.map_map]
  conv => rhs; rw [← List.map_id xs]
  rfl

set_option maxHeartbeats 1000000 in
set_option maxRecDepth 1000000 in
theorem func (v : Value) (ps : List (List UInt8)) (r : List UInt8) (w : World) (hv : StrRow w v ps) (hn : ps.length ≤ 1000000) (hj : (joinR ps).length ≤ 1000000000) (hr : r.length ≤ 1000000000) :
    Calls Tryz.prog 51 #[v, .string (str r)] w (TextB (funcR ps r) w) := by
  have hjo : Calls Tryz.prog 110 #[v, .string ⟨#[44]⟩] w (TextB (joinR ps) w) := by
    rcases hv with ⟨rfl, a, c, rfl⟩ | ⟨bk, o, c, rfl, h1, h2, h3⟩
    · refine (Tryz.strings_Join_none a c ⟨#[44]⟩ w).mono ?_
      rintro e w1 ⟨rfl, rfl⟩
      exact ⟨rfl, Below.refl _ _⟩
    · have := Tryz.strings_Join bk o c (ps.map str) ⟨#[44]⟩ w (fun j x hx => ?_) h1 (by simp; omega) (by simpa using h2) (by rw [map_data]; exact Nat.le_trans hj (by omega))
      · rw [map_data, List.length_map] at this
        exact this.mono fun e w1 h => h
      · rw [List.getElem?_map] at hx
        obtain ⟨y, hy, rfl⟩ := Option.map_eq_some_iff.1 hx
        exact h3 j y hy
  clear hv
  have hxs : (str (joinR ps)).size = (joinR ps).length := rfl
  have hrs : (str r).size = r.length := rfl
  have HE : Hid ((⟨#[40]⟩ : ByteArray) ++ str (joinR ps) ++ ⟨#[41]⟩ ++ str r = str (funcR ps r)) := by
    rw [hid_iff, show (⟨#[40]⟩ : ByteArray) = str [40] from rfl, show (⟨#[41]⟩ : ByteArray) = str [41] from rfl, str_append, str_append, str_append, funcR]
    simp
  generalize joinR ps = x at *
  go_enter Tryz.func51, Tryz.ntmps51
  go_wp2_with (go_at_call 110; refine hjo.mono ?_; rintro e w1 ⟨rfl, hb⟩)
  go_ret
  exact ⟨by rw [← HE.out]; rfl, hb⟩
end Go.Proofs.YtfjppbpicmniaaaGreatDoor
