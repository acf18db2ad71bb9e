/-
  The package's readQuoted: its walk, from label to label.
-/
import Derived.Test.YtcjlifhehiolkaaGreatLexMem
namespace Go.Proofs.YtcjlifhehiolkaaGreat
open Go.RowKit

/-- What reading a Quoted answers. -/
def QE (r : QR) (w : World) (e : Ending) (w' : World) : Prop :=
  (match r with
  | .ok (t, nx) => e = .returned (.tuple #[.string (str t), .int .i64 0, .int .i64 (nx : Int)])
  | .error (y, b) => e = .returned (.tuple #[.string (str []), .int .i64 (y : Int), .int .i64 (b : Int)])) ∧ Below w.heap.size w w'

/-- What holds at each label of readQuoted. -/
def rqJ (s : ByteArray) (fr : Nat) (w0 : World) (l : Nat) (a : Act) (w : World) : Prop :=
  ∃ (p : Nat) (acc : List UInt8) (v : Value) (u2 u3 u4 u5 u6 u8 u9 u11 u12 u13 u14 u15 u16 u17 u18 u19 u20 u21 u22 u23 u24 u25 u26 u27 u28 u29 u30 u31 u32 u33 u34 u35 u36 u37 u38 u39 u40 u41 u42 u43 u44 u45 u46 u47 u48 u49 u50 u51 u52 u53 u54 u55 u56 u57 u58 u59 u60 u61 u62 u63 u64 u65 u66 u67 u68 : Value), a = { tmps := #[.string s, .int .i64 (fr : Int), u2, u3, u4, u5, u6, v, u8, u9, .int .i64 (p : Int), u11, u12, u13, u14, u15, u16, u17, u18, u19, u20, u21, u22, u23, u24, u25, u26, u27, u28, u29, u30, u31, u32, u33, u34, u35, u36, u37, u38, u39, u40, u41, u42, u43, u44, u45, u46, u47, u48, u49, u50, u51, u52, u53, u54, u55, u56, u57, u58, u59, u60, u61, u62, u63, u64, u65, u66, u67, u68], defers := [] } ∧
    fr < p ∧ p ≤ s.size ∧ acc.length ≤ p ∧ Hid (q (s.data.toList.drop p) p fr acc = q (s.data.toList.drop (fr + 1)) (fr + 1) fr []) ∧ w.ownsRow w0.heap.size 5 1 v acc.length (bc acc) ∧ Below w0.heap.size w0 w ∧
    (l = 2 ∨ (l = 1 ∧ ∃ h : p < s.size, s[p].toNat = 92) ∨ (l = 0 ∧ ∃ h : p < s.size, s[p].toNat = 34))
def rqM (s : ByteArray) (l : Nat) (a : Act) (_ : World) : Nat :=
  match l with
  | 2 => 2 * (s.size - (intOf (a.tmps.getD 10 undef)).toNat) + 1
  | 1 => 2 * (s.size - (intOf (a.tmps.getD 10 undef)).toNat)
  | _ => 0

theorem hidden {p : Prop} (h : p) : Hid p := h
theorem qe_no {r : QR} {w w' : World} {y b : Nat} {z x : Int} {t : ByteArray} (h : r = .error (y, b)) (hz : z = (y : Int)) (hx : x = (b : Int)) (ht : t = str []) (hb : Below w.heap.size w w') : QE r w (.returned (.tuple #[.string t, .int .i64 z, .int .i64 x])) w' := by
  subst h hz hx ht
  exact ⟨rfl, hb⟩
theorem qe_ok {r : QR} {w w' : World} {l : List UInt8} {nx : Nat} {x : Int} {t : ByteArray} (h : r = .ok (l, nx)) (hx : x = (nx : Int)) (ht : t = str l) (hb : Below w.heap.size w w') : QE r w (.returned (.tuple #[.string t, .int .i64 0, .int .i64 x])) w' := by
  subst h hx ht
  exact ⟨rfl, hb⟩

set_option maxHeartbeats 1600000 in
set_option maxRecDepth 1000000 in
theorem readQuoted (s : ByteArray) (fr : Nat) (w : World) (hs : s.size ≤ 8192) (hfr : fr < s.size) :
    Calls Tryz.prog 54 #[.string s, .int .i64 (fr : Int)] w (QE (q (s.data.toList.drop (fr + 1)) (fr + 1) fr []) w) := by
  go_enter Tryz.func54, Tryz.ntmps54
  go_wp2
  refine wp_scope_labels (rqJ s fr w) (rqM s) ?_ ?_
  · intro hp
    replace hp := hidden hp
    refine wp_seq ?_
    go_wp2
    rename_i hK
    refine wp_label (hK _ _ (hp.out 2 _ _ _ rfl ⟨fr + 1, [], _, _, _, _, _, _, _, _, _, _, _, _, _, _, _, _, _, _, _, _, _, _, _, _, _, _, _, _, _, _, _, _, _, _, _, _, _, _, _, _, _, _, _, _, _, _, _, _, _, _, _, _, _, _, _, _, _, _, _, _, _, _, _, _, _, _, by go_num, by omega, by omega, by simp, rfl, World.ownsRow_nil _ _ _ _, Below.refl _ _, .inl rfl⟩))
  · rintro l a w1 ⟨p, acc, v, u2, u3, u4, u5, u6, u8, u9, u11, u12, u13, u14, u15, u16, u17, u18, u19, u20, u21, u22, u23, u24, u25, u26, u27, u28, u29, u30, u31, u32, u33, u34, u35, u36, u37, u38, u39, u40, u41, u42, u43, u44, u45, u46, u47, u48, u49, u50, u51, u52, u53, u54, u55, u56, u57, u58, u59, u60, u61, u62, u63, u64, u65, u66, u67, u68, rfl, hp1, hp2, hacc, hq, hown, hbl, hl⟩
    have hB : w.heap.size ≤ w1.heap.size := hbl.size
    rcases hl with rfl | ⟨rfl, hp, hc⟩ | ⟨rfl, hp, hc⟩
    · refine ⟨_, rfl, ?_⟩
      by_cases hp : p < s.size
      · by_cases c1 : s[p].toNat = 34
        · have c1' : ((s[p].toNat : Int) == 34) = true := by rw [beq_iff_eq]; omega
          have C1 : Hid (s[p].toNat = 34) := c1
          clear c1
          go_wp2
          refine wp_goto ⟨⟨p, acc, v, _, _, _, _, _, _, _, _, _, _, _, _, _, _, _, _, _, _, _, _, _, _, _, _, _, _, _, _, _, _, _, _, _, _, _, _, _, _, _, _, _, _, _, _, _, _, _, _, _, _, _, _, _, _, _, _, _, _, _, _, _, _, _, _, _, rfl, hp1, hp2, hacc, hq, hown, hbl, .inr (.inr ⟨rfl, hp, C1.out⟩)⟩, ?_⟩
          exact Nat.succ_pos _
        · have c1' : ((s[p].toNat : Int) == 34) = false := by rw [beq_eq_false_iff_ne]; omega
          by_cases c2 : s[p].toNat = 92
          · have c2' : ((s[p].toNat : Int) == 92) = true := by rw [beq_iff_eq]; omega
            have C2 : Hid (s[p].toNat = 92) := c2
            clear c1 c2
            go_wp2
            refine wp_goto ⟨⟨p, acc, v, _, _, _, _, _, _, _, _, _, _, _, _, _, _, _, _, _, _, _, _, _, _, _, _, _, _, _, _, _, _, _, _, _, _, _, _, _, _, _, _, _, _, _, _, _, _, _, _, _, _, _, _, _, _, _, _, _, _, _, _, _, _, _, _, _, rfl, hp1, hp2, hacc, hq, hown, hbl, .inr (.inl ⟨rfl, hp, C2.out⟩)⟩, ?_⟩
            exact Nat.lt_succ_self _
          · have c2' : ((s[p].toNat : Int) == 92) = false := by rw [beq_eq_false_iff_ne]; omega
            have hpl := plain s[p]
            rcases (by cases isPlain s[p] <;> simp : isPlain s[p] = false ∨ isPlain s[p] = true) with c3 | c3
            · have HR : Hid (q (s.data.toList.drop (fr + 1)) (fr + 1) fr [] = .error (12, p)) := by
                rw [← hq.out, drop_at s p hp]
                exact q_bad _ _ _ _ c1 c2 c3
              rw [c3] at hpl
              clear c1 c2 c3 hq
              go_wp2_with fail
              refine (hpl _).mono ?_
              rintro e w2 ⟨rfl, rfl⟩
              go_wp2
              go_ret3
              exact qe_no HR.out rfl rfl rfl hbl
            · have HR : Hid (q (s.data.toList.drop (p + 1)) (p + 1) fr (acc ++ [s[p]]) = q (s.data.toList.drop (fr + 1)) (fr + 1) fr []) := by
                rw [← hq.out, drop_at s p hp]
                exact (q_plain _ _ _ _ c1 c2 c3).symm
              rw [c3] at hpl
              clear c1 c2 c3 hq
              go_wp2_with fail
              refine (hpl _).mono ?_
              rintro e w2 ⟨rfl, rfl⟩
              go_wp2_with (at_builtin; refine append_bytes rfl (.tmp 36) (.tmp 40) rfl w.heap.size v acc rfl (hown.alloc _) _ _ [s[p]] (by simp) rfl ?src ?len ?hB ?next)
              case src => exact cells_new _ _ _
              case len => simp; omega
              case hB => simp; omega
              case next =>
                intro ad c' w' k1 k2
                have k3 := below_grown (hown.alloc _) (by simp; omega) (hbl.alloc hB _) k2
                clear k2 hown hbl
                go_wp2
                refine wp_goto ⟨⟨p + 1, acc ++ [s[p]], _, _, _, _, _, _, _, _, _, _, _, _, _, _, _, _, _, _, _, _, _, _, _, _, _, _, _, _, _, _, _, _, _, _, _, _, _, _, _, _, _, _, _, _, _, _, _, _, _, _, _, _, _, _, _, _, _, _, _, _, _, _, _, _, _, _, by go_num, by omega, by omega, by simp; omega, HR, by simpa using k1, k3, .inl rfl⟩, ?_⟩
                simp [rqM, intOf]
                omega
      · have HR : Hid (q (s.data.toList.drop (fr + 1)) (fr + 1) fr [] = .error (10, fr)) := by
          rw [← hq.out, drop_end s p (by omega)]
          exact q_nil _ _ _
        have hp' : p = s.size := by omega
        subst hp'
        clear hq
        go_wp2
        go_ret3
        exact qe_no HR.out rfl rfl rfl hbl
    · refine ⟨_, rfl, ?_⟩
      have hre := readEscape (s.extract p s.size)
      have hd : (s.extract p s.size).data.toList.drop 1 = s.data.toList.drop (p + 1) := by
        rw [Lib.extract_data, List.take_of_length_le (by rw [List.length_drop, size_len]; omega), List.drop_drop]
      rw [hd] at hre
      have hqq := hq.out
      rw [drop_at s p hp, q_esc _ _ _ _ hc] at hqq
      generalize he : esc (s.data.toList.drop (p + 1)) = r at *
      clear hd hq hc
      cases r with
      | none =>
        simp only at hqq
        have HR : Hid (q (s.data.toList.drop (fr + 1)) (fr + 1) fr [] = .error (12, p)) := hqq.symm
        clear hqq he
        have hps : (p : Int) ≤ (s.size : Int) := by omega
        go_wp2_with fail
        refine (hre _).mono ?_
        rintro e w2 ⟨h2, n, rfl⟩
        simp only at h2
        subst h2
        have hbl2 : Below w.heap.size w (w1.drewN n) := ⟨hbl.os, hbl.tape, hbl.output, hbl.size, hbl.block⟩
        clear hown hbl
        generalize w1.drewN n = w2 at *
        go_wp2
        go_ret3
        exact qe_no HR.out rfl rfl rfl hbl2
      | some bk =>
        obtain ⟨b, k⟩ := bk
        have hk := esc_size he
        simp only [List.drop_drop] at hqq
        rw [show p + 1 + (k - 1) = p + k from by omega] at hqq
        have HR : Hid (q (s.data.toList.drop (p + k)) (p + k) fr (acc ++ [b]) = q (s.data.toList.drop (fr + 1)) (fr + 1) fr []) := hqq
        rw [List.length_drop, size_len] at hk
        have hk0 : ((k : Int) == 0) = false := by rw [beq_eq_false_iff_ne]; omega
        have hk1 : 2 ≤ k := hk.1
        have hk2 : p + k ≤ s.size := by omega
        clear hqq he hk
        have hps : (p : Int) ≤ (s.size : Int) := by omega
        go_wp2_with fail
        refine (hre _).mono ?_
        rintro e w2 ⟨h2, n, rfl⟩
        simp only at h2
        subst h2
        have hbl2 : Below w.heap.size w (w1.drewN n) := ⟨hbl.os, hbl.tape, hbl.output, hbl.size, hbl.block⟩
        have hown2 : (w1.drewN n).ownsRow w.heap.size 5 1 v acc.length (bc acc) := hown
        have hB2 : w.heap.size ≤ (w1.drewN n).heap.size := hB
        clear hown hbl hB
        generalize w1.drewN n = w2 at *
        go_wp2_with (at_builtin; refine append_bytes rfl (.tmp 54) (.tmp 56) rfl w.heap.size v acc rfl (hown2.alloc _) _ _ [b] (by simp) rfl ?src ?len ?hB ?next)
        case src => exact cells_new _ _ _
        case len => simp; omega
        case hB => simp; omega
        case next =>
          intro ad c' w' k1 k2
          have k3 := below_grown (hown2.alloc _) (by simp; omega) (hbl2.alloc hB2 _) k2
          clear k2 hown2 hbl2
          go_wp2
          refine wp_goto ⟨⟨p + k, acc ++ [b], _, _, _, _, _, _, _, _, _, _, _, _, _, _, _, _, _, _, _, _, _, _, _, _, _, _, _, _, _, _, _, _, _, _, _, _, _, _, _, _, _, _, _, _, _, _, _, _, _, _, _, _, _, _, _, _, _, _, _, _, _, _, _, _, _, _, by go_num, by omega, by omega, by simp; omega, HR, by simpa using k1, k3, .inl rfl⟩, ?_⟩
          simp [rqM, intOf]
          omega
    · refine ⟨_, rfl, ?_⟩
      have hqq := hq.out
      rw [drop_at s p hp, q_end _ _ _ _ hc] at hqq
      clear hq hc
      have hcv := owns_string hown
      obtain ⟨ao, cap, rfl⟩ : ∃ ao cap, v = .slice ao acc.length cap := by
        rcases owns_shape hown with ⟨rfl, hn⟩ | ⟨g, cap, rfl, _⟩
        · exact ⟨none, 0, by rw [hn]⟩
        · exact ⟨_, _, rfl⟩
      by_cases h200 : 200 < acc.length
      · rw [if_pos h200] at hqq
        have HR : Hid (q (s.data.toList.drop (fr + 1)) (fr + 1) fr [] = .error (3, fr)) := hqq.symm
        have h200' : (200 : Int) < (acc.length : Int) := by omega
        clear hqq hcv h200
        go_wp2
        go_ret3
        exact qe_no HR.out rfl rfl rfl hbl
      · rw [if_neg h200] at hqq
        have HR : Hid (q (s.data.toList.drop (fr + 1)) (fr + 1) fr [] = .ok (acc, p + 1)) := hqq.symm
        have h200' : ¬ (200 : Int) < (acc.length : Int) := by omega
        clear hqq h200
        go_wp2
        go_ret3
        exact qe_ok HR.out (by go_num) rfl hbl

end Go.Proofs.YtcjlifhehiolkaaGreat
