/-
  The document's own hex and quoted: their walks.
-/
import Derived.Deep.Upon
import Derived.Deep.LoopGhost
import Derived.Deep.RegionWith
import Derived.Deep.RegionHeld3
import Derived.Test.YtcjlifhehiolkaaGreatLexMem
namespace Go.Proofs.YtcjlifhehiolkaaGreat
open Go.RowKit

def hexI (c : UInt8) : Int := match hexOf c with | none => -1 | some x => (x : Int)
set_option maxHeartbeats 400000 in
set_option maxRecDepth 1000000 in
theorem hexC (c : UInt8) (w : World) : Calls Tryz.prog 86 #[.int .u8 c.toNat] w (Pu (.int .i64 (hexI c)) w) := by
  have h256 : c.toNat < 256 := c.toNat_lt
  by_cases h1 : 48 ≤ c.toNat
  · have h1' : (48 : Int) ≤ (c.toNat : Int) := by omega
    by_cases h2 : c.toNat ≤ 57
    · have h2' : (c.toNat : Int) ≤ 57 := by omega
      have e : hexI c = (c.toNat : Int) - 48 := by simp [hexI, hexOf, h1, h2]; omega
      rw [e]
      go_enter Tryz.func86, Tryz.ntmps86
      go_wp2
      go_ret
      exact ⟨rfl, rfl⟩
    · have h2' : ¬ (c.toNat : Int) ≤ 57 := by omega
      by_cases h3 : 97 ≤ c.toNat
      · have h3' : (97 : Int) ≤ (c.toNat : Int) := by omega
        by_cases h4 : c.toNat ≤ 102
        · have h4' : (c.toNat : Int) ≤ 102 := by omega
          have e : hexI c = (c.toNat : Int) - 97 + 10 := by simp [hexI, hexOf, h1, h2, h3, h4]; omega
          rw [e]
          go_enter Tryz.func86, Tryz.ntmps86
          go_wp2
          go_ret
          exact ⟨rfl, rfl⟩
        · have h4' : ¬ (c.toNat : Int) ≤ 102 := by omega
          have e : hexI c = -1 := by simp [hexI, hexOf, h1, h2, h3, h4]
          rw [e]
          go_enter Tryz.func86, Tryz.ntmps86
          go_wp2
          go_ret
          exact ⟨rfl, rfl⟩
      · have h3' : ¬ (97 : Int) ≤ (c.toNat : Int) := by omega
        have e : hexI c = -1 := by simp [hexI, hexOf, h1, h2, h3]
        rw [e]
        go_enter Tryz.func86, Tryz.ntmps86
        go_wp2
        go_ret
        exact ⟨rfl, rfl⟩
  · have h1' : ¬ (48 : Int) ≤ (c.toNat : Int) := by omega
    have h3' : ¬ (97 : Int) ≤ (c.toNat : Int) := by omega
    have e : hexI c = -1 := by
      have : ¬ 97 ≤ c.toNat := by omega
      simp [hexI, hexOf, h1, this]
    rw [e]
    go_enter Tryz.func86, Tryz.ntmps86
    go_wp2
    go_ret
    exact ⟨rfl, rfl⟩
theorem hexI_some {c : UInt8} {x : Nat} (h : hexOf c = some x) : hexI c = (x : Int) := by simp [hexI, h]
theorem hexI_none {c : UInt8} (h : hexOf c = none) : hexI c = -1 := by simp [hexI, h]

/-- What the document's quoted answers. -/
def RQE (r : QR) (w : World) (e : Ending) (w' : World) : Prop :=
  (match r with
  | .ok (t, nx) => e = .returned (.tuple #[.string (str t), .int .i64 (nx : Int), .int .i64 0, .int .i64 0])
  | .error (y, b) => e = .returned (.tuple #[.string (str []), .int .i64 0, .int .i64 (y : Int), .int .i64 (b : Int)])) ∧ Below w.heap.size w w'
theorem rq_no {r : QR} {w w' : World} {y b : Nat} {z x : Int} {t : ByteArray} (h : r = .error (y, b)) (hz : z = (y : Int)) (hx : x = (b : Int)) (ht : t = str []) (hb : Below w.heap.size w w') : RQE r w (.returned (.tuple #[.string t, .int .i64 0, .int .i64 z, .int .i64 x])) w' := by
  subst h hz hx ht
  exact ⟨rfl, hb⟩
theorem rq_ok {r : QR} {w w' : World} {l : List UInt8} {nx : Nat} {x : Int} {t : ByteArray} (h : r = .ok (l, nx)) (hx : x = (nx : Int)) (ht : t = str l) (hb : Below w.heap.size w w') : RQE r w (.returned (.tuple #[.string t, .int .i64 x, .int .i64 0, .int .i64 0])) w' := by
  subst h hx ht
  exact ⟨rfl, hb⟩
theorem results_tmp4 {fn : Func} {t u v x : Tmp} (h : fn.results = #[.tmp t, .tmp u, .tmp v, .tmp x]) (tmps : Array Value) (P : Program) (w : World) :
    (results fn tmps).run P w = .ok (.tuple #[tmps.getD t undef, tmps.getD u undef, tmps.getD v undef, tmps.getD x undef]) w := by
  simp [results, h]
theorem escX_short (l : List UInt8) (h : l.length < 2) : escX l = none := by
  match l, h with
  | [], _ => rfl
  | [_], _ => rfl
theorem hex_val (x y : Nat) (hx : x < 16) (hy : y < 16) : ((UInt8.ofNat (16 * x + y)).toNat : Int) = (x : Int) * 16 + (y : Int) := by
  rw [UInt8.toNat_ofNat_of_lt' (by show 16 * x + y < 256; omega)]
  omega
theorem esc_none_end (l : List UInt8) (h : l = []) : esc l = none := by subst h; rfl
theorem one_q (s : ByteArray) (k : Nat) (hk : k < s.size) : s.extract k (k + 1) = str [s[k]] := by
  rw [extract_str, drop_at s k hk, show k + 1 - k = 1 from by omega]
  rfl

set_option maxHeartbeats 4000000 in
set_option maxRecDepth 1000000 in
theorem refQuoted (s : ByteArray) (fr : Nat) (w : World) (hs : s.size ≤ 8192) (hfr : fr < s.size) :
    Calls Tryz.prog 56 #[.string s, .int .i64 (fr : Int)] w (RQE (q (s.data.toList.drop (fr + 1)) (fr + 1) fr []) w) := by
  go_enter Tryz.func56, Tryz.ntmps56
  go_wp2
  go_loopg [8, 9] (s.size - (fr + 1)) (fun g x i wr => ∃ (p : Nat) (acc : List UInt8) (t : ByteArray), g + p = s.size ∧ p ≤ s.size ∧ acc.length ≤ p ∧ i = .int .i64 p ∧ x = .string t ∧ Hid (t = str acc) ∧ Hid (q (s.data.toList.drop p) p fr acc = q (s.data.toList.drop (fr + 1)) (fr + 1) fr []) ∧ Below w.heap.size w wr)
  case atStart => exact ⟨fr + 1, [], _, by omega, by omega, by simp, by go_num, rfl, rfl, rfl, Below.refl _ _⟩
  case round =>
    obtain ⟨p, acc, t, hg, hp1, hacc, rfl, rfl, ht, hq, hb⟩ := hrel
    have hts : t.size ≤ p := by rw [ht.out, str_size]; exact hacc
    generalize hR : q (s.data.toList.drop (fr + 1)) (fr + 1) fr [] = R at *
    by_cases hp : p < s.size
    · have hps : (p : Int) < (s.size : Int) := by omega
      by_cases c1 : s[p].toNat = 34
      · have c1' : ((s[p].toNat : Int) != 34) = false := by rw [bne_eq_false_iff_eq]; omega
        have hqq := hq.out
        rw [drop_at s p hp, q_end _ _ _ _ c1] at hqq
        have hps2 : ¬ (s.size : Int) ≤ (p : Int) := by omega
        by_cases h200 : 200 < acc.length
        · rw [if_pos h200] at hqq
          have HR : Hid (R = .error (3, fr)) := hqq.symm
          have h200' : (200 : Int) < (t.size : Int) := by rw [ht.out, str_size]; omega
          clear hq hqq c1 ht h200
          go_wp2
          ((try simp only [Exit.inBlock, Exit.then]); refine bodyPost_ret (results_tmp4 rfl _ _ _) rfl ?_)
          exact rq_no HR.out rfl rfl rfl hb
        · rw [if_neg h200] at hqq
          have HR : Hid (R = .ok (acc, p + 1)) := hqq.symm
          have h200' : ¬ (200 : Int) < (t.size : Int) := by rw [ht.out, str_size]; omega
          clear hq hqq c1 h200
          go_wp2
          ((try simp only [Exit.inBlock, Exit.then]); refine bodyPost_ret (results_tmp4 rfl _ _ _) rfl ?_)
          exact rq_ok HR.out (by go_num) ht.out hb
      have c1' : ((s[p].toNat : Int) != 34) = true := by rw [bne_iff_ne]; omega
      by_cases c2 : 32 ≤ s[p].toNat ∧ s[p].toNat ≤ 126
      · have d1 : ¬ (s[p].toNat : Int) < 32 := by omega
        have d2 : ¬ (126 : Int) < (s[p].toNat : Int) := by omega
        have hpl : isPlain s[p] = true := by simp [isPlain, c2]
        by_cases c3 : s[p].toNat = 92
        · have c3' : ((s[p].toNat : Int) != 92) = false := by rw [bne_eq_false_iff_eq]; omega
          have hqq := hq.out
          rw [drop_at s p hp, q_esc _ _ _ _ c3] at hqq
          by_cases e1 : p + 1 < s.size
          · have e1' : (p : Int) + 1 < (s.size : Int) := by omega
            rw [drop_at s (p + 1) e1] at hqq
            by_cases f1 : s[p + 1].toNat = 34
            · have f1' : ((s[p + 1].toNat : Int) == 34) = true := by rw [beq_iff_eq]; omega
              have C : Hid (q (s.data.toList.drop (p + 2)) (p + 2) fr (acc ++ [s[p + 1]]) = R) := by
                rw [show esc (s[p + 1] :: s.data.toList.drop (p + 1 + 1)) = some (s[p + 1], 2) from by simp [esc, f1]] at hqq
                simp only at hqq
                exact hqq
              have HT : Hid (t ++ s.extract (p + 1) (p + 2) = str (acc ++ [s[p + 1]])) := by
                rw [one_q s (p + 1) e1, ht.out, str_append]
                rfl
              clear hq hqq c1 c2 c3 ht hpl f1
              go_wp2
              go_roundg (s.size - (p + 2))
              case measure => omega
              case rel => exact ⟨p + 2, acc ++ [s[p + 1]], _, by omega, by omega, by simp; omega, by go_num, rfl, HT, C, hb⟩
            have f1' : ((s[p + 1].toNat : Int) == 34) = false := by rw [beq_eq_false_iff_ne]; omega
            by_cases f2 : s[p + 1].toNat = 92
            · have f2' : ((s[p + 1].toNat : Int) == 92) = true := by rw [beq_iff_eq]; omega
              have C : Hid (q (s.data.toList.drop (p + 2)) (p + 2) fr (acc ++ [s[p + 1]]) = R) := by
                rw [show esc (s[p + 1] :: s.data.toList.drop (p + 1 + 1)) = some (s[p + 1], 2) from by simp [esc, f2]] at hqq
                simp only at hqq
                exact hqq
              have HT : Hid (t ++ s.extract (p + 1) (p + 2) = str (acc ++ [s[p + 1]])) := by
                rw [one_q s (p + 1) e1, ht.out, str_append]
                rfl
              clear hq hqq c1 c2 c3 ht hpl f1 f2
              go_wp2
              go_roundg (s.size - (p + 2))
              case measure => omega
              case rel => exact ⟨p + 2, acc ++ [s[p + 1]], _, by omega, by omega, by simp; omega, by go_num, rfl, HT, C, hb⟩
            have f2' : ((s[p + 1].toNat : Int) == 92) = false := by rw [beq_eq_false_iff_ne]; omega
            by_cases f3 : s[p + 1].toNat = 110
            · have f3' : ((s[p + 1].toNat : Int) == 110) = true := by rw [beq_iff_eq]; omega
              have C : Hid (q (s.data.toList.drop (p + 2)) (p + 2) fr (acc ++ [10]) = R) := by
                rw [show esc (s[p + 1] :: s.data.toList.drop (p + 1 + 1)) = some (10, 2) from by simp [esc, f3]] at hqq
                simp only at hqq
                exact hqq
              have HT : Hid (t ++ ⟨#[10]⟩ = str (acc ++ [10])) := by
                rw [show (⟨#[10]⟩ : ByteArray) = str [10] from rfl, ht.out, str_append]
                rfl
              clear hq hqq c1 c2 c3 ht hpl f1 f2 f3
              go_wp2
              go_roundg (s.size - (p + 2))
              case measure => omega
              case rel => exact ⟨p + 2, acc ++ [10], _, by omega, by omega, by simp; omega, by go_num, rfl, HT, C, hb⟩
            have f3' : ((s[p + 1].toNat : Int) == 110) = false := by rw [beq_eq_false_iff_ne]; omega
            by_cases f4 : s[p + 1].toNat = 120
            · have f4' : ((s[p + 1].toNat : Int) == 120) = true := by rw [beq_iff_eq]; omega
              rw [esc_x _ _ f4] at hqq
              by_cases e3 : p + 3 < s.size
              · have e3' : (p : Int) + 3 < (s.size : Int) := by omega
                have e2 : p + 2 < s.size := by omega
                have e2' : (p : Int) + 2 < (s.size : Int) := by omega
                have hx2 := hexC s[p + 2]
                have hx3 := hexC s[p + 3]
                rw [show p + 1 + 1 = p + 2 from rfl, drop_at s (p + 2) e2, drop_at s (p + 2 + 1) e3] at hqq
                cases hy2 : hexOf s[p + 2] with
                | none =>
                  rw [hexI_none hy2] at hx2
                  have HR : Hid (R = .error (12, p)) := by
                    rw [show escX (s[p + 2] :: s[p + 2 + 1] :: s.data.toList.drop (p + 2 + 1 + 1)) = none from by simp [escX, hy2]] at hqq
                    exact hqq.symm
                  clear hq hqq c1 c2 c3 ht hpl f1 f2 f3 f4 hx3
                  go_wp2_with fail
                  refine (hx2 _).mono ?_
                  rintro e w2 ⟨rfl, rfl⟩
                  go_wp2
                  ((try simp only [Exit.inBlock, Exit.then]); refine bodyPost_ret (results_tmp4 rfl _ _ _) rfl ?_)
                  exact rq_no HR.out rfl rfl rfl hb
                | some a2 =>
                  have ha2 := hexOf_lt hy2
                  rw [hexI_some hy2] at hx2
                  cases hy3 : hexOf s[p + 3] with
                  | none =>
                    rw [hexI_none hy3] at hx3
                    have HR : Hid (R = .error (12, p)) := by
                      rw [show escX (s[p + 2] :: s[p + 2 + 1] :: s.data.toList.drop (p + 2 + 1 + 1)) = none from by simp [escX, hy2, hy3]] at hqq
                      exact hqq.symm
                    clear hq hqq c1 c2 c3 ht hpl f1 f2 f3 f4
                    go_wp2_with fail
                    refine (hx2 _).mono ?_
                    rintro e w2 ⟨rfl, rfl⟩
                    go_wp2_with fail
                    refine (hx3 _).mono ?_
                    rintro e w2 ⟨rfl, rfl⟩
                    go_wp2
                    ((try simp only [Exit.inBlock, Exit.then]); refine bodyPost_ret (results_tmp4 rfl _ _ _) rfl ?_)
                    exact rq_no HR.out rfl rfl rfl hb
                  | some a3 =>
                    have ha3 := hexOf_lt hy3
                    have hv2 := hexI_some hy2
                    have hv3 := hexI_some hy3
                    rw [hexI_some hy3] at hx3
                    have C : Hid (q (s.data.toList.drop (p + 4)) (p + 4) fr (acc ++ [UInt8.ofNat (16 * a2 + a3)]) = R) := by
                      rw [show escX (s[p + 2] :: s[p + 2 + 1] :: s.data.toList.drop (p + 2 + 1 + 1)) = some (UInt8.ofNat (16 * a2 + a3), 4) from by simp [escX, hy2, hy3]] at hqq
                      simp only [List.drop_succ_cons, List.drop_zero] at hqq
                      exact hqq
                    have HT : Hid (t ++ str [UInt8.ofNat (16 * a2 + a3)] = str (acc ++ [UInt8.ofNat (16 * a2 + a3)])) := by
                      rw [ht.out, str_append]
                      rfl
                    clear hq hqq c1 c2 c3 ht hpl f1 f2 f3 f4 hy2 hy3
                    go_wp2_with fail
                    refine (hx2 _).mono ?_
                    rintro e w2 ⟨rfl, rfl⟩
                    go_wp2_with fail
                    refine (hx3 _).mono ?_
                    rintro e w2 ⟨rfl, rfl⟩
                    go_wp2
                    have q2 : IntKind.i64.wrap ((p : Int) + 2) = (p : Int) + 2 := by rw [IntKind.wrap_i64]; omega
                    have q3 : IntKind.i64.wrap ((p : Int) + 3) = (p : Int) + 3 := by rw [IntKind.wrap_i64]; omega
                    have q4 : IntKind.i64.wrap ((a2 : Int) * 16) = (a2 : Int) * 16 := by rw [IntKind.wrap_i64]; omega
                    have q5 : IntKind.i64.wrap ((a2 : Int) * 16 + (a3 : Int)) = (a2 : Int) * 16 + (a3 : Int) := by rw [IntKind.wrap_i64]; omega
                    have q6 : IntKind.u8.wrap ((a2 : Int) * 16 + (a3 : Int)) = (a2 : Int) * 16 + (a3 : Int) := by rw [IntKind.wrap_u8]; omega
                    have q8 : (convert 93 9 (.slice (some ⟨w2.heap.size, 0, none⟩) 1 1)).run Tryz.prog (w2.alloc (.cells #[.int .u8 ((a2 : Int) * 16 + (a3 : Int))] 5)).drew = .ok (.string (str [UInt8.ofNat (16 * a2 + a3)])) (w2.alloc (.cells #[.int .u8 ((a2 : Int) * 16 + (a3 : Int))] 5)).drew := by
                      refine bytes_string (l := [UInt8.ofNat (16 * a2 + a3)]) rfl (fun j x hj => ?_)
                      refine cells_new w2 [Value.int .u8 ((a2 : Int) * 16 + (a3 : Int))] 5 j x ?_
                      rw [← hj, bc, List.map_cons, List.map_nil, hex_val a2 a3 ha2 ha3]
                    have hb2 : Below w.heap.size w (w2.alloc (.cells #[.int .u8 ((a2 : Int) * 16 + (a3 : Int))] 5)).drew := (hb.alloc hb.size _).drew
                    have hv2r : hexI (s[((p : Int) + 2).toNat]'(by omega)) = (a2 : Int) := hv2
                    have hv3r : hexI (s[((p : Int) + 3).toNat]'(by omega)) = (a3 : Int) := hv3
                    clear hx2 hx3 hv2 hv3
                    have hy1 : (str [UInt8.ofNat (16 * a2 + a3)]).size = 1 := rfl
                    generalize str [UInt8.ofNat (16 * a2 + a3)] = y1 at *
                    have r1 : t.size + y1.size ≤ 9223372036854775807 := by omega
                    have r2 : (t.size : Int) + (y1.size : Int) ≤ 9223372036854775807 := by omega
                    go_region_with ((go_at_call 86; refine (hexC _ _).mono ?_; rintro e w3 ⟨rfl, rfl⟩))
                    all_goals (
                      go_wp2
                      go_roundg (s.size - (p + 4))
                      case measure => omega
                      case rel => exact ⟨p + 4, acc ++ [UInt8.ofNat (16 * a2 + a3)], _, by omega, by omega, by simp; omega, by go_num, rfl, HT, C, hb2⟩)
              · have e3' : ¬ (p : Int) + 3 < (s.size : Int) := by omega
                have HR : Hid (R = .error (12, p)) := by
                  rw [show escX (s.data.toList.drop (p + 1 + 1)) = none from escX_short _ (by rw [List.length_drop, size_len]; omega)] at hqq
                  exact hqq.symm
                clear hq hqq c1 c2 c3 ht hpl f1 f2 f3 f4
                go_wp2
                ((try simp only [Exit.inBlock, Exit.then]); refine bodyPost_ret (results_tmp4 rfl _ _ _) rfl ?_)
                exact rq_no HR.out rfl rfl rfl hb
            have f4' : ((s[p + 1].toNat : Int) == 120) = false := by rw [beq_eq_false_iff_ne]; omega
            rw [show esc (s[p + 1] :: s.data.toList.drop (p + 1 + 1)) = none from by simp [esc, f1, f2, f3, f4]] at hqq
            have HR : Hid (R = .error (12, p)) := hqq.symm
            clear hq hqq c1 c2 c3 ht hpl f1 f2 f3 f4
            by_cases e3 : p + 3 < s.size
            · have e3' : (p : Int) + 3 < (s.size : Int) := by omega
              go_wp2
              ((try simp only [Exit.inBlock, Exit.then]); refine bodyPost_ret (results_tmp4 rfl _ _ _) rfl ?_)
              exact rq_no HR.out rfl rfl rfl hb
            · have e3' : ¬ (p : Int) + 3 < (s.size : Int) := by omega
              go_wp2
              ((try simp only [Exit.inBlock, Exit.then]); refine bodyPost_ret (results_tmp4 rfl _ _ _) rfl ?_)
              exact rq_no HR.out rfl rfl rfl hb
          · have e1' : ¬ (p : Int) + 1 < (s.size : Int) := by omega
            have e3' : ¬ (p : Int) + 3 < (s.size : Int) := by omega
            have HR : Hid (R = .error (12, p)) := by
              rw [esc_none_end _ (drop_end s (p + 1) (by omega))] at hqq
              exact hqq.symm
            clear hq hqq c1 c2 c3 ht hpl
            go_wp2
            ((try simp only [Exit.inBlock, Exit.then]); refine bodyPost_ret (results_tmp4 rfl _ _ _) rfl ?_)
            exact rq_no HR.out rfl rfl rfl hb
        · have c3' : ((s[p].toNat : Int) != 92) = true := by rw [bne_iff_ne]; omega
          have C : Hid (q (s.data.toList.drop (p + 1)) (p + 1) fr (acc ++ [s[p]]) = R) := by
            rw [← hq.out, drop_at s p hp]
            exact (q_plain _ _ _ _ c1 c3 hpl).symm
          have HT : Hid (t ++ s.extract p (p + 1) = str (acc ++ [s[p]])) := by
            rw [one_q s p hp, ht.out, str_append]
            rfl
          clear hq c1 c2 c3 ht hpl
          go_wp2
          go_roundg (s.size - (p + 1))
          case measure => omega
          case rel => exact ⟨p + 1, acc ++ [s[p]], _, by omega, by omega, by simp; omega, by go_num, rfl, HT, C, hb⟩
      · have HR : Hid (R = .error (12, p)) := by
          rw [← hq.out, drop_at s p hp]
          refine q_bad _ _ _ _ c1 (by omega) (Bool.eq_false_iff.2 (fun h => c2 ?_))
          simpa [isPlain] using h
        by_cases c3 : s[p].toNat < 32
        · have d1 : (s[p].toNat : Int) < 32 := by omega
          clear hq c1 c2 c3 ht
          go_wp2
          ((try simp only [Exit.inBlock, Exit.then]); refine bodyPost_ret (results_tmp4 rfl _ _ _) rfl ?_)
          exact rq_no HR.out rfl rfl rfl hb
        · have d1 : ¬ (s[p].toNat : Int) < 32 := by omega
          have d2 : (126 : Int) < (s[p].toNat : Int) := by omega
          clear hq c1 c2 c3 ht
          go_wp2
          ((try simp only [Exit.inBlock, Exit.then]); refine bodyPost_ret (results_tmp4 rfl _ _ _) rfl ?_)
          exact rq_no HR.out rfl rfl rfl hb
    · have HR : Hid (R = .error (10, fr)) := by
        rw [← hq.out, drop_end s p (by omega)]
        exact q_nil _ _ _
      have hps : ¬ (p : Int) < (s.size : Int) := by omega
      have hps2 : (s.size : Int) ≤ (p : Int) := by omega
      clear hq ht
      go_wp2
      ((try simp only [Exit.inBlock, Exit.then]); refine bodyPost_ret (results_tmp4 rfl _ _ _) rfl ?_)
      exact rq_no HR.out rfl rfl rfl hb

end Go.Proofs.YtcjlifhehiolkaaGreat
