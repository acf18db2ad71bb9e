/-
  The document's own hex and quoted: their walks.
  And: The document's own Split: its walk. Rows of trees that grow in a loop (OneM); the document's own reading of one tree. The document's own reading of one tree: its walk. The document's own Parse: its walk.
-/
import Derived.Deep.Upon
import Derived.Deep.LoopGhost
import Derived.Deep.RegionWith
import Derived.Deep.RegionHeld3
import Derived.Test.YtcokihblicgbpaaLexAZ
import Derived.Test.YtcokihblicgbpaaTreAZ
namespace Go.Proofs.Ytcokihblicgbpaa
open Go.RowKit

def hexI (c : UInt8) : Int := match hexOf c with | none => -1 | some x => (x : Int)
set_option maxHeartbeats 400000 in
set_option maxRecDepth 1000000 in
theorem hexC (c : UInt8) (w : World) : Calls Try.prog 63 #[.int .u8 c.toNat] w (Pu (.int .i64 (hexI c)) w) := by
  have h256 : c.toNat < 256 := c.toNat_lt
  by_cases h1 : 48 ≤ c.toNat
  · have h1' : (48 : Int) ≤ (c.toNat : Int) := by omega
    by_cases h2 : c.toNat ≤ 57
    · have h2' : (c.toNat : Int) ≤ 57 := by omega
      have e : hexI c = (c.toNat : Int) - 48 := by simp [hexI, hexOf, h1, h2]; omega
      rw [e]
      go_enter Try.func63, Try.ntmps63
      go_wp2
      go_ret
      exact ⟨rfl, rfl⟩
    · have h2' : ¬ (c.toNat : Int) ≤ 57 := by omega
      by_cases h3 : 97 ≤ c.toNat
      · have h3' : (97 : Int) ≤ (c.toNat : Int) := by omega
        by_cases h4 : c.toNat ≤ 102
        · have h4' : (c.toNat : Int) ≤ 102 := by omega
          have e : hexI c = (c.toNat : Int) - 97 + 10 := by simp [hexI, hexOf, h1, h2, h3, h4]; omega
          rw [e]
          go_enter Try.func63, Try.ntmps63
          go_wp2
          go_ret
          exact ⟨rfl, rfl⟩
        · have h4' : ¬ (c.toNat : Int) ≤ 102 := by omega
          have e : hexI c = -1 := by simp [hexI, hexOf, h1, h2, h3, h4]
          rw [e]
          go_enter Try.func63, Try.ntmps63
          go_wp2
          go_ret
          exact ⟨rfl, rfl⟩
      · have h3' : ¬ (97 : Int) ≤ (c.toNat : Int) := by omega
        have e : hexI c = -1 := by simp [hexI, hexOf, h1, h2, h3]
        rw [e]
        go_enter Try.func63, Try.ntmps63
        go_wp2
        go_ret
        exact ⟨rfl, rfl⟩
  · have h1' : ¬ (48 : Int) ≤ (c.toNat : Int) := by omega
    have h3' : ¬ (97 : Int) ≤ (c.toNat : Int) := by omega
    have e : hexI c = -1 := by
      have : ¬ 97 ≤ c.toNat := by omega
      simp [hexI, hexOf, h1, this]
    rw [e]
    go_enter Try.func63, Try.ntmps63
    go_wp2
    go_ret
    exact ⟨rfl, rfl⟩
theorem hexI_some {c : UInt8} {x : Nat} (h : hexOf c = some x) : hexI c = (x : Int) := by simp [hexI, h]
theorem hexI_none {c : UInt8} (h : hexOf c = none) : hexI c = -1 := by simp [hexI, h]

/-- What the document's quoted answers. -/
def RQE (r : QR) (w : World) (e : Ending) (w' : World) : Prop :=
  (match r with
  | .ok (t, nx) => e = .returned (.tuple #[.string (str t), .int .i64 (nx : Int), .int .i64 0, .int .i64 0])
  | .error (y, b) => e = .returned (.tuple #[.string (str []), .int .i64 0, .int .i64 (y : Int), .int .i64 (b : Int)])) ∧ Below w.heap.size w w'
theorem rq_no {r : QR} {w w' : World} {y b : Nat} {z x : Int} {t : ByteArray} (h : r = .error (y, b)) (hz : z = (y : Int)) (hx : x = (b : Int)) (ht : t = str []) (hb : Below w.heap.size w w') : RQE r w (.returned (.tuple #[.string t, .int .i64 0, .int .i64 z, .int .i64 x])) w' := by
  subst h hz hx ht
  exact ⟨rfl, hb⟩
theorem rq_ok {r : QR} {w w' : World} {l : List UInt8} {nx : Nat} {x : Int} {t : ByteArray} (h : r = .ok (l, nx)) (hx : x = (nx : Int)) (ht : t = str l) (hb : Below w.heap.size w w') : RQE r w (.returned (.tuple #[.string t, .int .i64 x, .int .i64 0, .int .i64 0])) w' := by
  subst h hx ht
  exact ⟨rfl, hb⟩
theorem results_tmp4 {fn : Func} {t u v x : Tmp} (h : fn.results = #[.tmp t, .tmp u, .tmp v, .tmp x]) (tmps : Array Value) (P : Program) (w : World) :
    (results fn tmps).run P w = .ok (.tuple #[tmps.getD t undef, tmps.getD u undef, tmps.getD v undef, tmps.getD x undef]) w := by
  simp [results, h]
theorem escX_short (l : List UInt8) (h : l.length < 2) : escX l = none := by
  match l, h with
  | [], _ => rfl
  | [_], _ => rfl
theorem hex_val (x y : Nat) (hx : x < 16) (hy : y < 16) : ((UInt8.ofNat (16 * x + y)).toNat : Int) = (x : Int) * 16 + (y : Int) := by
  rw [UInt8.toNat_ofNat_of_lt' (by show 16 * x + y < 256; omega)]
  omega
theorem esc_none_end (l : List UInt8) (h : l = []) : esc l = none := by subst h; rfl
theorem one_q (s : ByteArray) (k : Nat) (hk : k < s.size) : s.extract k (k + 1) = str [s[k]] := by
  rw [extract_str, drop_at s k hk, show k + 1 - k = 1 from by omega]
  rfl

set_option maxHeartbeats 4000000 in
set_option maxRecDepth 1000000 in
theorem refQuoted (s : ByteArray) (fr : Nat) (w : World) (hs : s.size ≤ 8192) (hfr : fr < s.size) :
    Calls Try.prog 50 #[.string s, .int .i64 (fr : Int)] w (RQE (q (s.data.toList.drop (fr + 1)) (fr + 1) fr []) w) := by
  go_enter Try.func50, Try.ntmps50
  go_wp2
  go_loopg [8, 9] (s.size - (fr + 1)) (fun g x i wr => ∃ (p : Nat) (acc : List UInt8) (t : ByteArray), g + p = s.size ∧ p ≤ s.size ∧ acc.length ≤ p ∧ i = .int .i64 p ∧ x = .string t ∧ Hid (t = str acc) ∧ Hid (q (s.data.toList.drop p) p fr acc = q (s.data.toList.drop (fr + 1)) (fr + 1) fr []) ∧ Below w.heap.size w wr)
  case atStart => exact ⟨fr + 1, [], _, by omega, by omega, by simp, by go_num, rfl, rfl, rfl, Below.refl _ _⟩
  case round =>
    obtain ⟨p, acc, t, hg, hp1, hacc, rfl, rfl, ht, hq, hb⟩ := hrel
    have hts : t.size ≤ p := by rw [ht.out, str_size]; exact hacc
    generalize hR : q (s.data.toList.drop (fr + 1)) (fr + 1) fr [] = R at *
    by_cases hp : p < s.size
    · have hps : (p : Int) < (s.size : Int) := by omega
      by_cases c1 : s[p].toNat = 34
      · have c1' : ((s[p].toNat : Int) != 34) = false := by rw [bne_eq_false_iff_eq]; omega
        have hqq := hq.out
        rw [drop_at s p hp, q_end _ _ _ _ c1] at hqq
        have hps2 : ¬ (s.size : Int) ≤ (p : Int) := by omega
        by_cases h200 : 200 < acc.length
        · rw [if_pos h200] at hqq
          have HR : Hid (R = .error (3, fr)) := hqq.symm
          have h200' : (200 : Int) < (t.size : Int) := by rw [ht.out, str_size]; omega
          clear hq hqq c1 ht h200
          go_wp2
          ((try simp only [Exit.inBlock, Exit.then]); refine bodyPost_ret (results_tmp4 rfl _ _ _) rfl ?_)
          exact rq_no HR.out rfl rfl rfl hb
        · rw [if_neg h200] at hqq
          have HR : Hid (R = .ok (acc, p + 1)) := hqq.symm
          have h200' : ¬ (200 : Int) < (t.size : Int) := by rw [ht.out, str_size]; omega
          clear hq hqq c1 h200
          go_wp2
          ((try simp only [Exit.inBlock, Exit.then]); refine bodyPost_ret (results_tmp4 rfl _ _ _) rfl ?_)
          exact rq_ok HR.out (by go_num) ht.out hb
      have c1' : ((s[p].toNat : Int) != 34) = true := by rw [bne_iff_ne]; omega
      by_cases c2 : 32 ≤ s[p].toNat ∧ s[p].toNat ≤ 126
      · have d1 : ¬ (s[p].toNat : Int) < 32 := by omega
        have d2 : ¬ (126 : Int) < (s[p].toNat : Int) := by omega
        have hpl : isPlain s[p] = true := by simp [isPlain, c2]
        by_cases c3 : s[p].toNat = 92
        · have c3' : ((s[p].toNat : Int) != 92) = false := by rw [bne_eq_false_iff_eq]; omega
          have hqq := hq.out
          rw [drop_at s p hp, q_esc _ _ _ _ c3] at hqq
          by_cases e1 : p + 1 < s.size
          · have e1' : (p : Int) + 1 < (s.size : Int) := by omega
            rw [drop_at s (p + 1) e1] at hqq
            by_cases f1 : s[p + 1].toNat = 34
            · have f1' : ((s[p + 1].toNat : Int) == 34) = true := by rw [beq_iff_eq]; omega
              have C : Hid (q (s.data.toList.drop (p + 2)) (p + 2) fr (acc ++ [s[p + 1]]) = R) := by
                rw [show esc (s[p + 1] :: s.data.toList.drop (p + 1 + 1)) = some (s[p + 1], 2) from by simp [esc, f1]] at hqq
                simp only at hqq
                exact hqq
              have HT : Hid (t ++ s.extract (p + 1) (p + 2) = str (acc ++ [s[p + 1]])) := by
                rw [one_q s (p + 1) e1, ht.out, str_append]
                rfl
              clear hq hqq c1 c2 c3 ht hpl f1
              go_wp2
              go_roundg (s.size - (p + 2))
              case measure => omega
              case rel => exact ⟨p + 2, acc ++ [s[p + 1]], _, by omega, by omega, by simp; omega, by go_num, rfl, HT, C, hb⟩
            have f1' : ((s[p + 1].toNat : Int) == 34) = false := by rw [beq_eq_false_iff_ne]; omega
            by_cases f2 : s[p + 1].toNat = 92
            · have f2' : ((s[p + 1].toNat : Int) == 92) = true := by rw [beq_iff_eq]; omega
              have C : Hid (q (s.data.toList.drop (p + 2)) (p + 2) fr (acc ++ [s[p + 1]]) = R) := by
                rw [show esc (s[p + 1] :: s.data.toList.drop (p + 1 + 1)) = some (s[p + 1], 2) from by simp [esc, f2]] at hqq
                simp only at hqq
                exact hqq
              have HT : Hid (t ++ s.extract (p + 1) (p + 2) = str (acc ++ [s[p + 1]])) := by
                rw [one_q s (p + 1) e1, ht.out, str_append]
                rfl
              clear hq hqq c1 c2 c3 ht hpl f1 f2
              go_wp2
              go_roundg (s.size - (p + 2))
              case measure => omega
              case rel => exact ⟨p + 2, acc ++ [s[p + 1]], _, by omega, by omega, by simp; omega, by go_num, rfl, HT, C, hb⟩
            have f2' : ((s[p + 1].toNat : Int) == 92) = false := by rw [beq_eq_false_iff_ne]; omega
            by_cases f3 : s[p + 1].toNat = 110
            · have f3' : ((s[p + 1].toNat : Int) == 110) = true := by rw [beq_iff_eq]; omega
              have C : Hid (q (s.data.toList.drop (p + 2)) (p + 2) fr (acc ++ [10]) = R) := by
                rw [show esc (s[p + 1] :: s.data.toList.drop (p + 1 + 1)) = some (10, 2) from by simp [esc, f3]] at hqq
                simp only at hqq
                exact hqq
              have HT : Hid (t ++ ⟨#[10]⟩ = str (acc ++ [10])) := by
                rw [show (⟨#[10]⟩ : ByteArray) = str [10] from rfl, ht.out, str_append]
                rfl
              clear hq hqq c1 c2 c3 ht hpl f1 f2 f3
              go_wp2
              go_roundg (s.size - (p + 2))
              case measure => omega
              case rel => exact ⟨p + 2, acc ++ [10], _, by omega, by omega, by simp; omega, by go_num, rfl, HT, C, hb⟩
            have f3' : ((s[p + 1].toNat : Int) == 110) = false := by rw [beq_eq_false_iff_ne]; omega
            by_cases f4 : s[p + 1].toNat = 120
            · have f4' : ((s[p + 1].toNat : Int) == 120) = true := by rw [beq_iff_eq]; omega
              rw [esc_x _ _ f4] at hqq
              by_cases e3 : p + 3 < s.size
              · have e3' : (p : Int) + 3 < (s.size : Int) := by omega
                have e2 : p + 2 < s.size := by omega
                have e2' : (p : Int) + 2 < (s.size : Int) := by omega
                have hx2 := hexC s[p + 2]
                have hx3 := hexC s[p + 3]
                rw [show p + 1 + 1 = p + 2 from rfl, drop_at s (p + 2) e2, drop_at s (p + 2 + 1) e3] at hqq
                cases hy2 : hexOf s[p + 2] with
                | none =>
                  rw [hexI_none hy2] at hx2
                  have HR : Hid (R = .error (12, p)) := by
                    rw [show escX (s[p + 2] :: s[p + 2 + 1] :: s.data.toList.drop (p + 2 + 1 + 1)) = none from by simp [escX, hy2]] at hqq
                    exact hqq.symm
                  clear hq hqq c1 c2 c3 ht hpl f1 f2 f3 f4 hx3
                  go_wp2_with fail
                  refine (hx2 _).mono ?_
                  rintro e w2 ⟨rfl, rfl⟩
                  go_wp2
                  ((try simp only [Exit.inBlock, Exit.then]); refine bodyPost_ret (results_tmp4 rfl _ _ _) rfl ?_)
                  exact rq_no HR.out rfl rfl rfl hb
                | some a2 =>
                  have ha2 := hexOf_lt hy2
                  rw [hexI_some hy2] at hx2
                  cases hy3 : hexOf s[p + 3] with
                  | none =>
                    rw [hexI_none hy3] at hx3
                    have HR : Hid (R = .error (12, p)) := by
                      rw [show escX (s[p + 2] :: s[p + 2 + 1] :: s.data.toList.drop (p + 2 + 1 + 1)) = none from by simp [escX, hy2, hy3]] at hqq
                      exact hqq.symm
                    clear hq hqq c1 c2 c3 ht hpl f1 f2 f3 f4
                    go_wp2_with fail
                    refine (hx2 _).mono ?_
                    rintro e w2 ⟨rfl, rfl⟩
                    go_wp2_with fail
                    refine (hx3 _).mono ?_
                    rintro e w2 ⟨rfl, rfl⟩
                    go_wp2
                    ((try simp only [Exit.inBlock, Exit.then]); refine bodyPost_ret (results_tmp4 rfl _ _ _) rfl ?_)
                    exact rq_no HR.out rfl rfl rfl hb
                  | some a3 =>
                    have ha3 := hexOf_lt hy3
                    have hv2 := hexI_some hy2
                    have hv3 := hexI_some hy3
                    rw [hexI_some hy3] at hx3
                    have C : Hid (q (s.data.toList.drop (p + 4)) (p + 4) fr (acc ++ [UInt8.ofNat (16 * a2 + a3)]) = R) := by
                      rw [show escX (s[p + 2] :: s[p + 2 + 1] :: s.data.toList.drop (p + 2 + 1 + 1)) = some (UInt8.ofNat (16 * a2 + a3), 4) from by simp [escX, hy2, hy3]] at hqq
                      simp only [List.drop_succ_cons, List.drop_zero] at hqq
                      exact hqq
                    have HT : Hid (t ++ str [UInt8.ofNat (16 * a2 + a3)] = str (acc ++ [UInt8.ofNat (16 * a2 + a3)])) := by
                      rw [ht.out, str_append]
                      rfl
                    clear hq hqq c1 c2 c3 ht hpl f1 f2 f3 f4 hy2 hy3
                    go_wp2_with fail
                    refine (hx2 _).mono ?_
                    rintro e w2 ⟨rfl, rfl⟩
                    go_wp2_with fail
                    refine (hx3 _).mono ?_
                    rintro e w2 ⟨rfl, rfl⟩
                    go_wp2
                    have q2 : IntKind.i64.wrap ((p : Int) + 2) = (p : Int) + 2 := by rw [IntKind.wrap_i64]; omega
                    have q3 : IntKind.i64.wrap ((p : Int) + 3) = (p : Int) + 3 := by rw [IntKind.wrap_i64]; omega
                    have q4 : IntKind.i64.wrap ((a2 : Int) * 16) = (a2 : Int) * 16 := by rw [IntKind.wrap_i64]; omega
                    have q5 : IntKind.i64.wrap ((a2 : Int) * 16 + (a3 : Int)) = (a2 : Int) * 16 + (a3 : Int) := by rw [IntKind.wrap_i64]; omega
                    have q6 : IntKind.u8.wrap ((a2 : Int) * 16 + (a3 : Int)) = (a2 : Int) * 16 + (a3 : Int) := by rw [IntKind.wrap_u8]; omega
                    have q8 : (convert 105 9 (.slice (some ⟨w2.heap.size, 0, none⟩) 1 1)).run Try.prog (w2.alloc (.cells #[.int .u8 ((a2 : Int) * 16 + (a3 : Int))] 5)).drew = .ok (.string (str [UInt8.ofNat (16 * a2 + a3)])) (w2.alloc (.cells #[.int .u8 ((a2 : Int) * 16 + (a3 : Int))] 5)).drew := by
                      refine bytes_string (l := [UInt8.ofNat (16 * a2 + a3)]) rfl (fun j x hj => ?_)
                      refine cells_new w2 [Value.int .u8 ((a2 : Int) * 16 + (a3 : Int))] 5 j x ?_
                      rw [← hj, bc, List.map_cons, List.map_nil, hex_val a2 a3 ha2 ha3]
                    have hb2 : Below w.heap.size w (w2.alloc (.cells #[.int .u8 ((a2 : Int) * 16 + (a3 : Int))] 5)).drew := (hb.alloc hb.size _).drew
                    have hv2r : hexI (s[((p : Int) + 2).toNat]'(by omega)) = (a2 : Int) := hv2
                    have hv3r : hexI (s[((p : Int) + 3).toNat]'(by omega)) = (a3 : Int) := hv3
                    clear hx2 hx3 hv2 hv3
                    have hy1 : (str [UInt8.ofNat (16 * a2 + a3)]).size = 1 := rfl
                    generalize str [UInt8.ofNat (16 * a2 + a3)] = y1 at *
                    have r1 : t.size + y1.size ≤ 9223372036854775807 := by omega
                    have r2 : (t.size : Int) + (y1.size : Int) ≤ 9223372036854775807 := by omega
                    go_region_with ((go_at_call 63; refine (hexC _ _).mono ?_; rintro e w3 ⟨rfl, rfl⟩))
                    all_goals (
                      go_wp2
                      go_roundg (s.size - (p + 4))
                      case measure => omega
                      case rel => exact ⟨p + 4, acc ++ [UInt8.ofNat (16 * a2 + a3)], _, by omega, by omega, by simp; omega, by go_num, rfl, HT, C, hb2⟩)
              · have e3' : ¬ (p : Int) + 3 < (s.size : Int) := by omega
                have HR : Hid (R = .error (12, p)) := by
                  rw [show escX (s.data.toList.drop (p + 1 + 1)) = none from escX_short _ (by rw [List.length_drop, size_len]; omega)] at hqq
                  exact hqq.symm
                clear hq hqq c1 c2 c3 ht hpl f1 f2 f3 f4
                go_wp2
                ((try simp only [Exit.inBlock, Exit.then]); refine bodyPost_ret (results_tmp4 rfl _ _ _) rfl ?_)
                exact rq_no HR.out rfl rfl rfl hb
            have f4' : ((s[p + 1].toNat : Int) == 120) = false := by rw [beq_eq_false_iff_ne]; omega
            rw [show esc (s[p + 1] :: s.data.toList.drop (p + 1 + 1)) = none from by simp [esc, f1, f2, f3, f4]] at hqq
            have HR : Hid (R = .error (12, p)) := hqq.symm
            clear hq hqq c1 c2 c3 ht hpl f1 f2 f3 f4
            by_cases e3 : p + 3 < s.size
            · have e3' : (p : Int) + 3 < (s.size : Int) := by omega
              go_wp2
              ((try simp only [Exit.inBlock, Exit.then]); refine bodyPost_ret (results_tmp4 rfl _ _ _) rfl ?_)
              exact rq_no HR.out rfl rfl rfl hb
            · have e3' : ¬ (p : Int) + 3 < (s.size : Int) := by omega
              go_wp2
              ((try simp only [Exit.inBlock, Exit.then]); refine bodyPost_ret (results_tmp4 rfl _ _ _) rfl ?_)
              exact rq_no HR.out rfl rfl rfl hb
          · have e1' : ¬ (p : Int) + 1 < (s.size : Int) := by omega
            have e3' : ¬ (p : Int) + 3 < (s.size : Int) := by omega
            have HR : Hid (R = .error (12, p)) := by
              rw [esc_none_end _ (drop_end s (p + 1) (by omega))] at hqq
              exact hqq.symm
            clear hq hqq c1 c2 c3 ht hpl
            go_wp2
            ((try simp only [Exit.inBlock, Exit.then]); refine bodyPost_ret (results_tmp4 rfl _ _ _) rfl ?_)
            exact rq_no HR.out rfl rfl rfl hb
        · have c3' : ((s[p].toNat : Int) != 92) = true := by rw [bne_iff_ne]; omega
          have C : Hid (q (s.data.toList.drop (p + 1)) (p + 1) fr (acc ++ [s[p]]) = R) := by
            rw [← hq.out, drop_at s p hp]
            exact (q_plain _ _ _ _ c1 c3 hpl).symm
          have HT : Hid (t ++ s.extract p (p + 1) = str (acc ++ [s[p]])) := by
            rw [one_q s p hp, ht.out, str_append]
            rfl
          clear hq c1 c2 c3 ht hpl
          go_wp2
          go_roundg (s.size - (p + 1))
          case measure => omega
          case rel => exact ⟨p + 1, acc ++ [s[p]], _, by omega, by omega, by simp; omega, by go_num, rfl, HT, C, hb⟩
      · have HR : Hid (R = .error (12, p)) := by
          rw [← hq.out, drop_at s p hp]
          refine q_bad _ _ _ _ c1 (by omega) (Bool.eq_false_iff.2 (fun h => c2 ?_))
          simpa [isPlain] using h
        by_cases c3 : s[p].toNat < 32
        · have d1 : (s[p].toNat : Int) < 32 := by omega
          clear hq c1 c2 c3 ht
          go_wp2
          ((try simp only [Exit.inBlock, Exit.then]); refine bodyPost_ret (results_tmp4 rfl _ _ _) rfl ?_)
          exact rq_no HR.out rfl rfl rfl hb
        · have d1 : ¬ (s[p].toNat : Int) < 32 := by omega
          have d2 : (126 : Int) < (s[p].toNat : Int) := by omega
          clear hq c1 c2 c3 ht
          go_wp2
          ((try simp only [Exit.inBlock, Exit.then]); refine bodyPost_ret (results_tmp4 rfl _ _ _) rfl ?_)
          exact rq_no HR.out rfl rfl rfl hb
    · have HR : Hid (R = .error (10, fr)) := by
        rw [← hq.out, drop_end s p (by omega)]
        exact q_nil _ _ _
      have hps : ¬ (p : Int) < (s.size : Int) := by omega
      have hps2 : (s.size : Int) ≤ (p : Int) := by omega
      clear hq ht
      go_wp2
      ((try simp only [Exit.inBlock, Exit.then]); refine bodyPost_ret (results_tmp4 rfl _ _ _) rfl ?_)
      exact rq_no HR.out rfl rfl rfl hb

end Go.Proofs.Ytcokihblicgbpaa

namespace Go.Proofs.Ytcokihblicgbpaa
open Go.RowKit

/-- What the document's Split answers. -/
def RSE (r : SR) (w : World) (e : Ending) (w' : World) : Prop :=
  (match r with
  | .ok l => ∃ v, e = .returned (.tuple #[v, .int .i64 0, .int .i64 0]) ∧ w'.ownsRow w.heap.size 78 3 v l.length (tcs l)
  | .error (y, b) => e = .returned (.tuple #[.slice none 0 0, .int .i64 (y : Int), .int .i64 (b : Int)])) ∧ Below w.heap.size w w'
theorem rse_ok {r : SR} {w w' : World} {l : List Tok} {v : Value} (h : r = .ok l) (ho : w'.ownsRow w.heap.size 78 3 v l.length (tcs l)) (hb : Below w.heap.size w w') : RSE r w (.returned (.tuple #[v, .int .i64 0, .int .i64 0])) w' := by
  subst h
  exact ⟨⟨v, rfl, ho⟩, hb⟩
theorem rse_no {r : SR} {w w' : World} {y b : Nat} {z x : Int} (h : r = .error (y, b)) (hz : z = (y : Int)) (hx : x = (b : Int)) (hb : Below w.heap.size w w') : RSE r w (.returned (.tuple #[.slice none 0 0, .int .i64 z, .int .i64 x])) w' := by
  subst h hz hx
  exact ⟨rfl, hb⟩
theorem atom_range (c : UInt8) : isAtom c = true ↔ (33 ≤ c.toNat ∧ c.toNat ≤ 126 ∧ c.toNat ≠ 59 ∧ c.toNat ≠ 40 ∧ c.toNat ≠ 41 ∧ c.toNat ≠ 34) := by
  simp only [isAtom, isPlain, Bool.and_eq_true, Bool.not_eq_true', decide_eq_true_eq, decide_eq_false_iff_not]
  omega

set_option maxHeartbeats 8000000 in
set_option maxRecDepth 1000000 in
theorem refSplit_short (s : ByteArray) (w : World) (hs : s.size ≤ 8192) : Calls Try.prog 34 #[.string s] w (RSE (sp s.data.toList 0 []) w) := by
  have hs' : ¬ (8192 : Int) < (s.size : Int) := by omega
  generalize hR : sp s.data.toList 0 [] = R
  go_enter Try.func34, Try.ntmps34
  go_wp2
  go_loopg [5, 6] s.size (fun g x i wr => ∃ (p : Nat) (acc : List Tok), g + p = s.size ∧ p ≤ s.size ∧ acc.length ≤ p ∧ i = .int .i64 p ∧ wr.ownsRow w.heap.size 78 3 x acc.length (tcs acc) ∧ Below w.heap.size w wr ∧ Hid (sp (s.data.toList.drop p) p acc = R))
  case atStart => exact ⟨0, [], rfl, Nat.zero_le _, Nat.le_refl _, rfl, World.ownsRow_nil _ _ _ _, Below.refl _ _, hR⟩
  case round =>
    obtain ⟨p, acc, hg, hp1, hacc, rfl, hown, hbl, hq⟩ := hrel
    have hB : w.heap.size ≤ wr.heap.size := hbl.size
    clear hR
    by_cases hp : p < s.size
    · have hps : (p : Int) < (s.size : Int) := by omega
      have hpa := refParts s[p]
      have h256 : s[p].toNat < 256 := s[p].toNat_lt
      rcases (by cases isParts s[p] <;> simp : isParts s[p] = true ∨ isParts s[p] = false) with c0 | c0
      · have C : Hid (sp (s.data.toList.drop (p + 1)) (p + 1) acc = R) := by
          rw [← hq.out, drop_at s p hp]
          exact (sp_parts _ _ _ c0).symm
        rw [c0] at hpa
        clear c0 hq
        go_wp2_with fail
        refine (hpa _).mono ?_
        rintro e w2 ⟨rfl, rfl⟩
        go_wp2
        go_roundg (s.size - (p + 1))
        case measure => omega
        case rel => exact ⟨p + 1, acc, by omega, by omega, by first | omega | (simp; omega), by go_num, hown, hbl, C⟩
      rw [c0] at hpa
      by_cases c1 : s[p].toNat = 59
      · have c1' : ((s[p].toNat : Int) == 59) = true := by rw [beq_iff_eq]; omega
        have C0 : Hid (rS s.data.toList p acc = R) := by
          rw [← hq.out]
          exact (rS_start (drop_at s p hp) c1 acc).symm
        have c1n : Hid (s[p].toNat = 59) := c1
        clear c0 c1 hq
        go_wp2_with fail
        refine (hpa _).mono ?_
        rintro e w2 ⟨rfl, rfl⟩
        go_wp2
        go_loopg [6] (s.size - p) (fun g i wr2 => ∃ k : Nat, g + k = s.size ∧ p ≤ k ∧ k ≤ s.size ∧ i = .int .i64 k ∧ Hid (rS s.data.toList k acc = R) ∧ w2 = wr2)
        case atStart => exact ⟨p, by omega, Nat.le_refl _, hp1, rfl, C0, rfl⟩
        case round =>
          obtain ⟨k, hgk, hpk, hks, rfl, hk2, rfl⟩ := hrel
          clear C0
          by_cases hk : k < s.size
          · have hki : (k : Int) < (s.size : Int) := by omega
            by_cases d : s[k].toNat = 10
            · have d' : ((s[k].toNat : Int) != 10) = false := by rw [bne_eq_false_iff_eq]; omega
              have C : Hid (sp (s.data.toList.drop k) k acc = R) := by
                rw [← hk2.out]
                exact (rS_stop (fun c' r h => by rw [drop_at s k hk] at h; cases h; simp [notNl, d]) acc).symm
              have hne : p < k := by
                rcases Nat.lt_or_ge p k with h | h
                · exact h
                · have e : k = p := by omega
                  subst e
                  have := c1n.out
                  omega
              clear hk2 d c1n
              go_wp2
              go_roundg (s.size - (k))
              case measure => omega
              case rel => exact ⟨k, acc, by omega, by omega, by first | omega | (simp; omega), by go_num, hown, hbl, C⟩
            · have d' : ((s[k].toNat : Int) != 10) = true := by rw [bne_iff_ne]; omega
              have C : Hid (rS s.data.toList (k + 1) acc = R) := by
                rw [← hk2.out]
                exact (rS_step (drop_at s k hk) (by simp [notNl, d]) acc).symm
              clear hk2 d
              go_wp2
              go_roundg (s.size - (k + 1))
              case measure => omega
              case rel => exact ⟨k + 1, by omega, by omega, by omega, by go_num, C, rfl⟩
          · have hki : ¬ (k : Int) < (s.size : Int) := by omega
            have C : Hid (sp (s.data.toList.drop k) k acc = R) := by
              rw [← hk2.out]
              exact (rS_stop (fun c' r h => by rw [drop_end s k (by omega)] at h; cases h) acc).symm
            clear hk2 c1n
            go_wp2
            go_roundg (s.size - (k))
            case measure => omega
            case rel => exact ⟨k, acc, by omega, by omega, by first | omega | (simp; omega), by go_num, hown, hbl, C⟩
      have c1' : ((s[p].toNat : Int) == 59) = false := by rw [beq_eq_false_iff_ne]; omega
      by_cases c2 : s[p].toNat = 40
      · have c2' : ((s[p].toNat : Int) == 40) = true := by rw [beq_iff_eq]; omega
        have C : Hid (sp (s.data.toList.drop (p + 1)) (p + 1) (acc ++ [⟨1, p, []⟩]) = R) := by
          rw [← hq.out, drop_at s p hp]
          exact (sp_open _ _ _ c2).symm
        clear c0 c1 c2 hq
        go_wp2_with fail
        refine (hpa _).mono ?_
        rintro e w2 ⟨rfl, rfl⟩
        go_wp2_with (at_builtin; refine append_ref rfl (.tmp 99) (.tmp 102) rfl w.heap.size u5 acc rfl (hown.alloc _) _ _ ⟨1, p, []⟩ rfl ?src ?len ?hB ?next)
        case src => exact cells_new _ _ _
        case len => omega
        case hB => first | omega | (simp; omega)
        case next =>
          intro ad c' w' k1 k2
          have k3 := below_grown (hown.alloc _) (by first | omega | (simp; omega)) (hbl.alloc hB _) k2
          clear k2 hown hbl
          go_wp2
          go_roundg (s.size - (p + 1))
          case measure => omega
          case rel => exact ⟨p + 1, acc ++ [⟨1, p, []⟩], by omega, by omega, by first | omega | (simp; omega), by go_num, by simpa using k1, k3, C⟩
      have c2' : ((s[p].toNat : Int) == 40) = false := by rw [beq_eq_false_iff_ne]; omega
      by_cases c3 : s[p].toNat = 41
      · have c3' : ((s[p].toNat : Int) == 41) = true := by rw [beq_iff_eq]; omega
        have C : Hid (sp (s.data.toList.drop (p + 1)) (p + 1) (acc ++ [⟨2, p, []⟩]) = R) := by
          rw [← hq.out, drop_at s p hp]
          exact (sp_close _ _ _ c3).symm
        clear c0 c1 c2 c3 hq
        go_wp2_with fail
        refine (hpa _).mono ?_
        rintro e w2 ⟨rfl, rfl⟩
        go_wp2_with (at_builtin; refine append_ref rfl (.tmp 109) (.tmp 112) rfl w.heap.size u5 acc rfl (hown.alloc _) _ _ ⟨2, p, []⟩ rfl ?src ?len ?hB ?next)
        case src => exact cells_new _ _ _
        case len => omega
        case hB => first | omega | (simp; omega)
        case next =>
          intro ad c' w' k1 k2
          have k3 := below_grown (hown.alloc _) (by first | omega | (simp; omega)) (hbl.alloc hB _) k2
          clear k2 hown hbl
          go_wp2
          go_roundg (s.size - (p + 1))
          case measure => omega
          case rel => exact ⟨p + 1, acc ++ [⟨2, p, []⟩], by omega, by omega, by first | omega | (simp; omega), by go_num, by simpa using k1, k3, C⟩
      have c3' : ((s[p].toNat : Int) == 41) = false := by rw [beq_eq_false_iff_ne]; omega
      by_cases c4 : s[p].toNat = 34
      · have c4' : ((s[p].toNat : Int) == 34) = true := by rw [beq_iff_eq]; omega
        have hrq := fun w => refQuoted s p w hs hp
        have hqq := hq.out
        rw [drop_at s p hp, sp_quoted _ _ _ c4] at hqq
        have hnx := q_next (s.data.toList.drop (p + 1)).length (s.data.toList.drop (p + 1)) (p + 1) p []
        have hwy := q_why (s.data.toList.drop (p + 1)).length (s.data.toList.drop (p + 1)) (p + 1) p []
        generalize q (s.data.toList.drop (p + 1)) (p + 1) p [] = r at *
        clear hq c0 c1 c2 c3 c4
        cases r with
        | error yb =>
          obtain ⟨y, b⟩ := yb
          have hy := hwy y b (Nat.le_refl _) rfl
          have hy' : ((y : Int) != 0) = true := by rw [bne_iff_ne]; omega
          simp only at hqq
          have HR : Hid (R = .error (y, b)) := hqq.symm
          clear hqq hy hwy hnx
          go_wp2_with fail
          refine (hpa _).mono ?_
          rintro e w2 ⟨rfl, rfl⟩
          go_wp2_with fail
          refine (hrq _).mono ?_
          rintro e w3 ⟨he, hcl⟩
          simp only at he
          subst he
          have hbl3 := hbl.trans (hcl.mono hB)
          clear hown hbl hcl
          go_wp2
          go_ret3
          exact rse_no HR.out rfl rfl hbl3
        | ok tn =>
          obtain ⟨tx, nx⟩ := tn
          have hn := hnx tx nx (Nat.le_refl _) rfl
          rw [List.length_drop, size_len] at hn
          simp only [List.drop_drop] at hqq
          rw [show p + 1 + (nx - (p + 1)) = nx from by omega] at hqq
          have C : Hid (sp (s.data.toList.drop nx) nx (acc ++ [⟨4, p, tx⟩]) = R) := hqq
          have hn1 : p + 2 ≤ nx := by omega
          have hn2 : nx ≤ s.size := by omega
          clear hqq hn hnx hwy
          go_wp2_with fail
          refine (hpa _).mono ?_
          rintro e w2 ⟨rfl, rfl⟩
          go_wp2_with fail
          refine (hrq _).mono ?_
          rintro e w3 ⟨he, hcl⟩
          simp only at he
          subst he
          have hown3 := owns_below hown hcl
          have hbl3 := hbl.trans (hcl.mono hB)
          have hB3 := hbl3.size
          clear hown hbl hcl
          go_wp2_with (at_builtin; refine append_ref rfl (.tmp 131) (.tmp 135) rfl w.heap.size u5 acc rfl (hown3.alloc _) _ _ ⟨4, p, tx⟩ rfl ?src ?len ?hB ?next)
          case src => exact cells_new _ _ _
          case len => omega
          case hB => first | omega | (simp; omega)
          case next =>
            intro ad c' w' k1 k2
            have k3 := below_grown (hown3.alloc _) (by first | omega | (simp; omega)) (hbl3.alloc hB3 _) k2
            clear k2 hown3 hbl3
            go_wp2
            go_roundg (s.size - (nx))
            case measure => omega
            case rel => exact ⟨nx, acc ++ [⟨4, p, tx⟩], by omega, by omega, by first | omega | (simp; omega), by go_num, by simpa using k1, k3, C⟩
      have c4' : ((s[p].toNat : Int) == 34) = false := by rw [beq_eq_false_iff_ne]; omega
      by_cases c5 : 33 ≤ s[p].toNat ∧ s[p].toNat ≤ 126
      · have d1 : ¬ (s[p].toNat : Int) < 33 := by omega
        have d2 : ¬ (126 : Int) < (s[p].toNat : Int) := by omega
        have ha : isAtom s[p] = true := (atom_range _).2 ⟨c5.1, c5.2, c1, c2, c3, c4⟩
        have C0 : Hid (aS s.data.toList p p acc = R) := by
          rw [← hq.out]
          exact (aS_start (drop_at s p hp) ha acc).symm
        have HA : Hid (isAtom s[p] = true) := ha
        clear c0 c1 c2 c3 c4 c5 hq ha
        go_wp2_with fail
        refine (hpa _).mono ?_
        rintro e w2 ⟨rfl, rfl⟩
        go_wp2
        go_loopg [12] (s.size - p) (fun g i wr2 => ∃ k : Nat, g + k = s.size ∧ p ≤ k ∧ k ≤ s.size ∧ i = .int .i64 k ∧ Hid (aS s.data.toList p k acc = R) ∧ w2 = wr2)
        case atStart => exact ⟨p, by omega, Nat.le_refl _, hp1, rfl, C0, rfl⟩
        case round =>
          obtain ⟨k, hgk, hpk, hks, rfl, hk2, rfl⟩ := hrel
          clear C0
          have hpki : (p : Int) ≤ (k : Int) := by omega
          have hksi : (k : Int) ≤ (s.size : Int) := by omega
          by_cases hk : k < s.size
          · have hki : (k : Int) < (s.size : Int) := by omega
            by_cases ha : isAtom s[k] = true
            · have C : Hid (aS s.data.toList p (k + 1) acc = R) := by
                rw [← hk2.out]
                exact (aS_step (drop_at s k hk) ha acc).symm
              have hr := (atom_range _).1 ha
              have g1 : (33 : Int) ≤ (s[k].toNat : Int) := by omega
              have g2 : (s[k].toNat : Int) ≤ 126 := by omega
              have g3 : ((s[k].toNat : Int) != 59) = true := by rw [bne_iff_ne]; omega
              have g4 : ((s[k].toNat : Int) != 40) = true := by rw [bne_iff_ne]; omega
              have g5 : ((s[k].toNat : Int) != 41) = true := by rw [bne_iff_ne]; omega
              have g6 : ((s[k].toNat : Int) != 34) = true := by rw [bne_iff_ne]; omega
              clear hk2 ha hr
              go_wp2
              go_roundg (s.size - (k + 1))
              case measure => omega
              case rel => exact ⟨k + 1, by omega, by omega, by omega, by go_num, C, rfl⟩
            · have hstop : ∀ c r, s.data.toList.drop k = c :: r → isAtom c = false := fun c r h => by
                rw [drop_at s k hk] at h
                cases h
                exact Bool.eq_false_iff.2 ha
              have hne : p < k := by
                rcases Nat.lt_or_ge p k with h | h
                · exact h
                · have e : k = p := by omega
                  subst e
                  exact absurd HA.out ha
              have hr : ¬ (33 ≤ s[k].toNat ∧ s[k].toNat ≤ 126 ∧ s[k].toNat ≠ 59 ∧ s[k].toNat ≠ 40 ∧ s[k].toNat ≠ 41 ∧ s[k].toNat ≠ 34) := fun h => ha ((atom_range _).2 h)
              clear ha HA
              by_cases x1 : 33 ≤ s[k].toNat
              · have g1 : (33 : Int) ≤ (s[k].toNat : Int) := by omega
                by_cases x2 : s[k].toNat ≤ 126
                · have g2 : (s[k].toNat : Int) ≤ 126 := by omega
                  by_cases x3 : s[k].toNat = 59
                  · have g3 : ((s[k].toNat : Int) != 59) = false := by rw [bne_eq_false_iff_eq]; omega
                    clear x1 x2 x3 hr
                    have C : Hid (sp (s.data.toList.drop k) k (acc ++ [⟨3, p, (s.data.toList.drop p).take (k - p)⟩]) = R) := by
                      rw [← hk2.out]
                      exact (aS_stop hstop acc).symm
                    clear hk2 hstop
                    go_wp2_with (at_builtin; refine append_ref rfl (.tmp 66) (.tmp 73) rfl w.heap.size u5 acc rfl (hown.alloc _) _ _ ⟨3, p, (s.data.toList.drop p).take (k - p)⟩ rfl ?src ?len ?hB ?next)
                    case src =>
                      intro j u hj
                      first | refine cells_new _ [.int .i64 3, .int .i64 (p : Int), .string (s.extract p k)] _ j u ?_ | skip
                      rw [← hj]
                      simp only [tc, extract_str]
                      rfl
                    case len => omega
                    case hB => first | omega | (simp; omega)
                    case next =>
                      intro ad c' w' k1 k2
                      have k3 := below_grown (hown.alloc _) (by first | omega | (simp; omega)) (hbl.alloc hB _) k2
                      clear k2 hown hbl
                      go_wp2
                      go_roundg (s.size - (k))
                      case measure => omega
                      case rel => exact ⟨k, acc ++ [⟨3, p, (s.data.toList.drop p).take (k - p)⟩], by omega, by omega, by first | omega | (simp; omega), by go_num, by simpa using k1, k3, C⟩
                  have g3 : ((s[k].toNat : Int) != 59) = true := by rw [bne_iff_ne]; omega
                  by_cases x4 : s[k].toNat = 40
                  · have g4 : ((s[k].toNat : Int) != 40) = false := by rw [bne_eq_false_iff_eq]; omega
                    clear x1 x2 x3 x4 hr
                    have C : Hid (sp (s.data.toList.drop k) k (acc ++ [⟨3, p, (s.data.toList.drop p).take (k - p)⟩]) = R) := by
                      rw [← hk2.out]
                      exact (aS_stop hstop acc).symm
                    clear hk2 hstop
                    go_wp2_with (at_builtin; refine append_ref rfl (.tmp 66) (.tmp 73) rfl w.heap.size u5 acc rfl (hown.alloc _) _ _ ⟨3, p, (s.data.toList.drop p).take (k - p)⟩ rfl ?src ?len ?hB ?next)
                    case src =>
                      intro j u hj
                      first | refine cells_new _ [.int .i64 3, .int .i64 (p : Int), .string (s.extract p k)] _ j u ?_ | skip
                      rw [← hj]
                      simp only [tc, extract_str]
                      rfl
                    case len => omega
                    case hB => first | omega | (simp; omega)
                    case next =>
                      intro ad c' w' k1 k2
                      have k3 := below_grown (hown.alloc _) (by first | omega | (simp; omega)) (hbl.alloc hB _) k2
                      clear k2 hown hbl
                      go_wp2
                      go_roundg (s.size - (k))
                      case measure => omega
                      case rel => exact ⟨k, acc ++ [⟨3, p, (s.data.toList.drop p).take (k - p)⟩], by omega, by omega, by first | omega | (simp; omega), by go_num, by simpa using k1, k3, C⟩
                  have g4 : ((s[k].toNat : Int) != 40) = true := by rw [bne_iff_ne]; omega
                  by_cases x5 : s[k].toNat = 41
                  · have g5 : ((s[k].toNat : Int) != 41) = false := by rw [bne_eq_false_iff_eq]; omega
                    clear x1 x2 x3 x4 x5 hr
                    have C : Hid (sp (s.data.toList.drop k) k (acc ++ [⟨3, p, (s.data.toList.drop p).take (k - p)⟩]) = R) := by
                      rw [← hk2.out]
                      exact (aS_stop hstop acc).symm
                    clear hk2 hstop
                    go_wp2_with (at_builtin; refine append_ref rfl (.tmp 66) (.tmp 73) rfl w.heap.size u5 acc rfl (hown.alloc _) _ _ ⟨3, p, (s.data.toList.drop p).take (k - p)⟩ rfl ?src ?len ?hB ?next)
                    case src =>
                      intro j u hj
                      first | refine cells_new _ [.int .i64 3, .int .i64 (p : Int), .string (s.extract p k)] _ j u ?_ | skip
                      rw [← hj]
                      simp only [tc, extract_str]
                      rfl
                    case len => omega
                    case hB => first | omega | (simp; omega)
                    case next =>
                      intro ad c' w' k1 k2
                      have k3 := below_grown (hown.alloc _) (by first | omega | (simp; omega)) (hbl.alloc hB _) k2
                      clear k2 hown hbl
                      go_wp2
                      go_roundg (s.size - (k))
                      case measure => omega
                      case rel => exact ⟨k, acc ++ [⟨3, p, (s.data.toList.drop p).take (k - p)⟩], by omega, by omega, by first | omega | (simp; omega), by go_num, by simpa using k1, k3, C⟩
                  have g5 : ((s[k].toNat : Int) != 41) = true := by rw [bne_iff_ne]; omega
                  have g6 : ((s[k].toNat : Int) != 34) = false := by rw [bne_eq_false_iff_eq]; omega
                  clear x1 x2 x3 x4 x5 hr
                  have C : Hid (sp (s.data.toList.drop k) k (acc ++ [⟨3, p, (s.data.toList.drop p).take (k - p)⟩]) = R) := by
                    rw [← hk2.out]
                    exact (aS_stop hstop acc).symm
                  clear hk2 hstop
                  go_wp2_with (at_builtin; refine append_ref rfl (.tmp 66) (.tmp 73) rfl w.heap.size u5 acc rfl (hown.alloc _) _ _ ⟨3, p, (s.data.toList.drop p).take (k - p)⟩ rfl ?src ?len ?hB ?next)
                  case src =>
                    intro j u hj
                    first | refine cells_new _ [.int .i64 3, .int .i64 (p : Int), .string (s.extract p k)] _ j u ?_ | skip
                    rw [← hj]
                    simp only [tc, extract_str]
                    rfl
                  case len => omega
                  case hB => first | omega | (simp; omega)
                  case next =>
                    intro ad c' w' k1 k2
                    have k3 := below_grown (hown.alloc _) (by first | omega | (simp; omega)) (hbl.alloc hB _) k2
                    clear k2 hown hbl
                    go_wp2
                    go_roundg (s.size - (k))
                    case measure => omega
                    case rel => exact ⟨k, acc ++ [⟨3, p, (s.data.toList.drop p).take (k - p)⟩], by omega, by omega, by first | omega | (simp; omega), by go_num, by simpa using k1, k3, C⟩
                · have g2 : ¬ (s[k].toNat : Int) ≤ 126 := by omega
                  clear x1 x2 hr
                  have C : Hid (sp (s.data.toList.drop k) k (acc ++ [⟨3, p, (s.data.toList.drop p).take (k - p)⟩]) = R) := by
                    rw [← hk2.out]
                    exact (aS_stop hstop acc).symm
                  clear hk2 hstop
                  go_wp2_with (at_builtin; refine append_ref rfl (.tmp 66) (.tmp 73) rfl w.heap.size u5 acc rfl (hown.alloc _) _ _ ⟨3, p, (s.data.toList.drop p).take (k - p)⟩ rfl ?src ?len ?hB ?next)
                  case src =>
                    intro j u hj
                    first | refine cells_new _ [.int .i64 3, .int .i64 (p : Int), .string (s.extract p k)] _ j u ?_ | skip
                    rw [← hj]
                    simp only [tc, extract_str]
                    rfl
                  case len => omega
                  case hB => first | omega | (simp; omega)
                  case next =>
                    intro ad c' w' k1 k2
                    have k3 := below_grown (hown.alloc _) (by first | omega | (simp; omega)) (hbl.alloc hB _) k2
                    clear k2 hown hbl
                    go_wp2
                    go_roundg (s.size - (k))
                    case measure => omega
                    case rel => exact ⟨k, acc ++ [⟨3, p, (s.data.toList.drop p).take (k - p)⟩], by omega, by omega, by first | omega | (simp; omega), by go_num, by simpa using k1, k3, C⟩
              · have g1 : ¬ (33 : Int) ≤ (s[k].toNat : Int) := by omega
                clear x1 hr
                have C : Hid (sp (s.data.toList.drop k) k (acc ++ [⟨3, p, (s.data.toList.drop p).take (k - p)⟩]) = R) := by
                  rw [← hk2.out]
                  exact (aS_stop hstop acc).symm
                clear hk2 hstop
                go_wp2_with (at_builtin; refine append_ref rfl (.tmp 66) (.tmp 73) rfl w.heap.size u5 acc rfl (hown.alloc _) _ _ ⟨3, p, (s.data.toList.drop p).take (k - p)⟩ rfl ?src ?len ?hB ?next)
                case src =>
                  intro j u hj
                  first | refine cells_new _ [.int .i64 3, .int .i64 (p : Int), .string (s.extract p k)] _ j u ?_ | skip
                  rw [← hj]
                  simp only [tc, extract_str]
                  rfl
                case len => omega
                case hB => first | omega | (simp; omega)
                case next =>
                  intro ad c' w' k1 k2
                  have k3 := below_grown (hown.alloc _) (by first | omega | (simp; omega)) (hbl.alloc hB _) k2
                  clear k2 hown hbl
                  go_wp2
                  go_roundg (s.size - (k))
                  case measure => omega
                  case rel => exact ⟨k, acc ++ [⟨3, p, (s.data.toList.drop p).take (k - p)⟩], by omega, by omega, by first | omega | (simp; omega), by go_num, by simpa using k1, k3, C⟩
          · have hki : ¬ (k : Int) < (s.size : Int) := by omega
            have hstop : ∀ c r, s.data.toList.drop k = c :: r → isAtom c = false := fun c r h => by
              rw [drop_end s k (by omega)] at h
              cases h
            have hne : p < k := by omega
            have C : Hid (sp (s.data.toList.drop k) k (acc ++ [⟨3, p, (s.data.toList.drop p).take (k - p)⟩]) = R) := by
              rw [← hk2.out]
              exact (aS_stop hstop acc).symm
            clear hk2 hstop
            go_wp2_with (at_builtin; refine append_ref rfl (.tmp 66) (.tmp 73) rfl w.heap.size u5 acc rfl (hown.alloc _) _ _ ⟨3, p, (s.data.toList.drop p).take (k - p)⟩ rfl ?src ?len ?hB ?next)
            case src =>
              intro j u hj
              first | refine cells_new _ [.int .i64 3, .int .i64 (p : Int), .string (s.extract p k)] _ j u ?_ | skip
              rw [← hj]
              simp only [tc, extract_str]
              rfl
            case len => omega
            case hB => first | omega | (simp; omega)
            case next =>
              intro ad c' w' k1 k2
              have k3 := below_grown (hown.alloc _) (by first | omega | (simp; omega)) (hbl.alloc hB _) k2
              clear k2 hown hbl
              go_wp2
              go_roundg (s.size - (k))
              case measure => omega
              case rel => exact ⟨k, acc ++ [⟨3, p, (s.data.toList.drop p).take (k - p)⟩], by omega, by omega, by first | omega | (simp; omega), by go_num, by simpa using k1, k3, C⟩
      · have HR : Hid (R = .error (12, p)) := by
          rw [← hq.out, drop_at s p hp]
          refine sp_bad _ _ _ (Bool.eq_false_iff.2 (fun h => c5 ?_)) c4 c1 c2 c3 c0
          have := (atom_range _).1 h
          exact ⟨this.1, this.2.1⟩
        by_cases x1 : s[p].toNat < 33
        · have d1 : (s[p].toNat : Int) < 33 := by omega
          clear c0 c1 c2 c3 c4 c5 x1 hq
          go_wp2_with fail
          refine (hpa _).mono ?_
          rintro e w2 ⟨rfl, rfl⟩
          go_wp2
          go_ret3
          exact rse_no HR.out rfl rfl hbl
        · have d1 : ¬ (s[p].toNat : Int) < 33 := by omega
          have d2 : (126 : Int) < (s[p].toNat : Int) := by omega
          clear c0 c1 c2 c3 c4 c5 x1 hq
          go_wp2_with fail
          refine (hpa _).mono ?_
          rintro e w2 ⟨rfl, rfl⟩
          go_wp2
          go_ret3
          exact rse_no HR.out rfl rfl hbl
    · have HR : Hid (R = .ok acc) := by
        rw [← hq.out, drop_end s p (by omega)]
        exact sp_nil _ _
      have hps : ¬ (p : Int) < (s.size : Int) := by omega
      clear hq
      go_wp2
      go_ret3
      exact rse_ok HR.out hown hbl

set_option maxRecDepth 1000000 in
theorem refSplit_long (s : ByteArray) (w : World) (hs : 8192 < s.size) : Calls Try.prog 34 #[.string s] w (RSE (.error (3, 0)) w) := by
  have hs' : (8192 : Int) < (s.size : Int) := by omega
  go_enter Try.func34, Try.ntmps34
  go_wp2
  go_ret3
  exact rse_no rfl rfl rfl (Below.refl _ _)
/-- What the document's Split answers. -/
theorem refSplit (s : ByteArray) (w : World) : Calls Try.prog 34 #[.string s] w (RSE (splitR s.data.toList) w) := by
  unfold splitR
  rw [size_len]
  split
  · rename_i h
    exact refSplit_long s w h
  · rename_i h
    exact refSplit_short s w (by omega)

end Go.Proofs.Ytcokihblicgbpaa

namespace Go.Proofs.Ytcokihblicgbpaa
open Go.RowKit

structure OneM (e B : Nat) (F : Nat → Prop) (w : World) (kv : Value) (ks : List Tr) : Prop where
  own : OwnK e B F w kv ks
  lies : ∀ g, F g → B ≤ g ∧ g < w.heap.size
  far : ∀ g, kv.ownBlock = some g → ¬ F g
theorem OneM.nil (e B : Nat) (w : World) : OneM e B (fun _ => False) w (.slice none 0 0) [] := ⟨OwnK.nil _ _ _ _, fun _ h => h.elim, fun _ _ h => h⟩
theorem OneM.grow {e B : Nat} {F G : Nat → Prop} {wr w6 : World} {kv : Value} {ks : List Tr} (h : OneM e B F wr kv ks) (k : Kept (fun _ => False) wr w6) (hB : B ≤ wr.heap.size) (hG : ∀ g, G g → wr.heap.size ≤ g ∧ g < w6.heap.size) : OneM e B (fun g => F g ∨ G g) w6 kv ks := by
  refine ⟨(h.own.kept k (fun g hg => ⟨(h.lies g hg).2, fun h => h⟩) (fun _ _ h => h)).mono (fun _ h => .inl h), fun g hg => ?_, fun g hg hh => ?_⟩
  · have := k.size
    rcases hg with hg | hg
    · have := h.lies g hg; omega
    · have := hG g hg; omega
  · rcases hh with hh | hh
    · exact h.far g hg hh
    · have := (h.own.lt g hg).2
      have := hG g hh
      omega
theorem OneM.app {e B H g cap : Nat} {F : Nat → Prop} {w6 w' : World} {kv u : Value} {ks : List Tr} {x : Tr} {vs : List Value} (h : OneM e B F w6 kv ks) (h1 : vs.length = ks.length) (h3 : ∀ (i : Nat) (t : Tr) (v : Value), ks[i]? = some t → vs[i]? = some v → TL F w6 v t.kids)
    (hown : w'.ownsRow B e 4 (.slice (some ⟨g, 0, none⟩) (ks.length + 1) cap) (ks.length + 1) (rowc ks vs ++ trc x u)) (hgr : w6.grownBy w' kv.ownBlock) (hat : kv.ownBlock = some g ∨ g = H) (hH : w6.heap.size = H) (ht : TL F w6 u x.kids) :
    OneM e B F w' (.slice (some ⟨g, 0, none⟩) (ks.length + 1) cap) (ks ++ [x]) ∧ Kept (fun b => kv.ownBlock = some b) w6 w' := by
  have K : Kept (fun b => kv.ownBlock = some b) w6 w' := (Kept.refl _ w6).grown hgr (fun k e _ => e)
  refine ⟨⟨OwnK.add h1 h3 (fun b hb => ⟨(h.lies b hb).2, fun e => h.far b e hb⟩) hown K ht, fun b hb => ⟨(h.lies b hb).1, Nat.lt_of_lt_of_le (h.lies b hb).2 K.size⟩, fun b hb hf => ?_⟩, K⟩
  simp [Value.ownBlock] at hb
  subst hb
  rcases hat with q | q
  · exact h.far _ q hf
  · have := (h.lies _ hf).2
    omega
theorem OneM.set {e B b j : Nat} {F : Nat → Prop} {w : World} {kv u : Value} {ks : List Tr} (h : OneM e B F w kv ks) (hb : b < B) : OneM e B F (w.setCell ⟨b, j, none⟩ u) kv ks := by
  have K : Kept (fun k => k = b) w (w.setCell ⟨b, j, none⟩ u) := (Kept.refl (fun k => k = b) w).setCell (p := ⟨b, j, none⟩) (fun _ => rfl) u
  exact ⟨h.own.kept K (fun g hg => ⟨(h.lies g hg).2, fun e => by have := (h.lies g hg).1; omega⟩) (fun g hg e => by have := (h.own.lt g hg).1; omega), fun g hg => ⟨(h.lies g hg).1, Nat.lt_of_lt_of_le (h.lies g hg).2 K.size⟩, h.far⟩
theorem OneM.shut {e B lo : Nat} {F : Nat → Prop} {w : World} {kv : Value} {ks : List Tr} (h : OneM e B F w kv ks) (hlo : lo ≤ B) : TL (fun g => lo ≤ g ∧ g < w.heap.size) w kv ks := by
  refine h.own.shut.mono (fun g hg => ?_)
  rcases hg with hg | hg
  · have := h.lies g hg; omega
  · have := h.own.lt g hg; omega

theorem append_tref {w : World} {ops : Array Oper} {rest : List Oper} {o : Oper} {a : Act} {Q : Exit → Act → World → Prop} (hgd : o.guard = none) (s x : Operand)
    (ho : o.op = .call { callee := .builtin .append, args := #[s, x], argTypes := #[41, 41] })
    (B : Nat) (v : Value) (n : Nat) (xs : List Value) (hs : a.eval s = v) (hown : w.ownsRow B 43 4 v n xs)
    (ad : Addr) (c : Nat) (news : List Value) (hx : a.eval x = .slice (some ad) 1 c) (hl : news.length = 4) (hnews : ∀ j u, news[j]? = some u → w.cell? (ad.add j) = some u) (h1 : ∀ u ∈ news, u.oneCell' = true)
    (hlen : n ≤ 100000) (hB : B ≤ w.heap.size) (H : Nat) (hH : w.heap.size = H)
    (h : ∀ g cap w', w'.ownsRow B 43 4 (.slice (some ⟨g, 0, none⟩) (n + 1) cap) (n + 1) (xs ++ news) → w.grownBy w' v.ownBlock → (v.ownBlock = some g ∨ g = H) → g < w'.heap.size → wpList Try.prog ops Q rest (a.put o.dst (.slice (some ⟨g, 0, none⟩) (n + 1) cap)) w') :
    wpList Try.prog ops Q (o :: rest) a w := by
  obtain ⟨i, z, hi, hz, k1, k2, k3⟩ := info_z infoRf
  exact wpList_append_lies w hgd s x 41 ho B 43 i z 4 56 Try.underlying41 hi hz k1 k2 k3 (by decide) v n xs hs hown ad 1 c news hx hl hnews h1 (by decide) (by unfold maxLen; omega) (by omega) hB H hH h
theorem step_tref {w : World} {ops : Array Oper} {o : Oper} {a : Act} {K : Act → World → Prop} {Q : Exit → Act → World → Prop} {E : Prop} (hgd : o.guard = none) (s x : Operand)
    (ho : o.op = .call { callee := .builtin .append, args := #[s, x], argTypes := #[41, 41] })
    (B : Nat) (v : Value) (n : Nat) (xs : List Value) (hs : a.eval s = v) (hown : w.ownsRow B 43 4 v n xs)
    (ad : Addr) (c : Nat) (news : List Value) (hx : a.eval x = .slice (some ad) 1 c) (hl : news.length = 4) (hnews : ∀ j u, news[j]? = some u → w.cell? (ad.add j) = some u) (h1 : ∀ u ∈ news, u.oneCell' = true)
    (hlen : n ≤ 100000) (hB : B ≤ w.heap.size) (H : Nat) (hH : w.heap.size = H)
    (h : ∀ g cap w', w'.ownsRow B 43 4 (.slice (some ⟨g, 0, none⟩) (n + 1) cap) (n + 1) (xs ++ news) → w.grownBy w' v.ownBlock → (v.ownBlock = some g ∨ g = H) → g < w'.heap.size → K (a.put o.dst (.slice (some ⟨g, 0, none⟩) (n + 1) cap)) w') :
    if Region.wanted o (yielded ops a.tmps) = true then Oper.wp Try.prog o a w K Q else E := by
  obtain ⟨i, z, hi, hz, k1, k2, k3⟩ := info_z infoRf
  exact step_append_lies w hgd s x 41 ho B 43 i z 4 56 Try.underlying41 hi hz k1 k2 k3 (by decide) v n xs hs hown ad 1 c news hx hl hnews h1 (by decide) (by unfold maxLen; omega) (by omega) hB H hH h
theorem res_cell2 {P : Program} {fn : Func} {p u : Tmp} {ty : TypeId} (h : fn.results = #[.cell p ty, .tmp u]) (tmps : Array Value) (w : World) (g : Nat) (t : TypeId) (cs : Array Value) (fr : Nat × Nat) (d : TypeDesc)
    (hp : tmps.getD p undef = .pointer (some ⟨g, 0, none⟩)) (hg : w.heap[g]? = some (.cells cs t fr))
    (hu : P.underlying ty = some d) (hd : (match d with | .struct _ | .array _ _ => true | _ => false) = true) (hi : (P.info? ty).map (·.size) = some cs.size) :
    (results fn tmps).run P w = .ok (.tuple #[.agg cs, tmps.getD u undef]) w := by
  have hp' : tmps[p]?.getD undef = .pointer (some ⟨g, 0, none⟩) := by simpa using hp
  simp [results, h, hp', asAddr, run_loadVar_row w g t ty cs fr d hg hu hd hi]
theorem sizeRf : (Try.prog.info? 43).map (·.size) = some 4 := by kernel_rfl

/-- Tokens that can be read from a place on. -/
def RdO (w : World) (g off : Nat) (l : List Tok) : Prop := ∀ j u, (tcs l)[j]? = some u → w.cell? ⟨g, off + j, none⟩ = some u
theorem tcs_length : ∀ (l : List Tok), (tcs l).length = l.length * 3
  | [] => rfl
  | t :: l => by
    have e : tcs (t :: l) = tc t ++ tcs l := by simp [tcs]
    rw [e, List.length_append, tcs_length l, List.length_cons]
    show 3 + _ = _
    omega
theorem RdO.drop {w : World} {g off : Nat} {a b : List Tok} (h : RdO w g off (a ++ b)) : RdO w g (off + a.length * 3) b := by
  intro j u hj
  have := h (a.length * 3 + j) u (by rw [tcs_append, List.getElem?_append_right (by rw [tcs_length]; omega), tcs_length, show a.length * 3 + j - a.length * 3 = j from by omega]; exact hj)
  rw [Nat.add_assoc]
  exact this
theorem RdO.kept {S : Nat → Prop} {w w' : World} {g off : Nat} {l : List Tok} (h : RdO w g off l) (k : Kept S w w') (hg : ¬ S g) : RdO w' g off l := fun j u hj => k.cell (h j u hj) hg
theorem RdO.head {w : World} {g off : Nat} {t : Tok} {l : List Tok} (h : RdO w g off (t :: l)) : w.cell? ⟨g, off, none⟩ = some (.int .i64 (t.kind : Int)) ∧ w.cell? ⟨g, off + 1, none⟩ = some (.int .i64 (t.place : Int)) ∧ w.cell? ⟨g, off + 2, none⟩ = some (.string (str t.text)) := by
  have e : tcs (t :: l) = tc t ++ tcs l := by simp [tcs]
  exact ⟨h 0 _ (by rw [e]; rfl), h 1 _ (by rw [e]; rfl), h 2 _ (by rw [e]; rfl)⟩
theorem toks_head (t : Tr) (h : Right t) : ∃ x l, toks t = x :: l ∧ x.kind = t.kind ∧ x.place = t.place ∧ x.text = t.text ∧ x.kind ≠ 2 := by
  rw [toks_eq]
  rw [Right_eq] at h
  split
  · rename_i k1
    exact ⟨_, _, rfl, k1.symm, rfl, rfl, by simp⟩
  · rename_i k1
    rcases h with h | h
    · exact absurd h.1 k1
    · exact ⟨_, _, rfl, rfl, rfl, rfl, h.2.1⟩
def OneTE (t : Tr) (w : World) (e : Ending) (w' : World) : Prop := ∃ kv, e = .returned (.tuple #[trv t kv, .int .i64 ((toks t).length : Int)]) ∧ TL (fun g => w.heap.size ≤ g ∧ g < w'.heap.size) w' kv t.kids ∧ Below w.heap.size w w'
theorem one_mk {t : Tr} {w w' : World} {kv : Value} {e : Ending} {n : Int} (he : e = .returned (.tuple #[trv t kv, .int .i64 n])) (hn : n = ((toks t).length : Int)) (ht : TL (fun g => w.heap.size ≤ g ∧ g < w'.heap.size) w' kv t.kids) (hb : Below w.heap.size w w') : OneTE t w e w' := by
  subst hn
  exact ⟨kv, he, ht, hb⟩
end Go.Proofs.Ytcokihblicgbpaa

namespace Go.Proofs.Ytcokihblicgbpaa
open Go.RowKit

/-- How many tokens a bracket has up to its k-th Kid. -/
def cnt (t : Tr) (k : Nat) : List Tok := ((t.kids.take k).map toks).flatten
theorem cnt_step (t : Tr) (k : Nat) (hk : k < t.kids.length) : cnt t (k + 1) = cnt t k ++ toks t.kids[k] := by
  rw [cnt, cnt, List.take_succ_eq_append_getElem hk, List.map_append, List.flatten_append]
  simp
theorem cnt_split (t : Tr) (h : t.kind = 1) (k : Nat) (hk : k < t.kids.length) (rest : List Tok) : ∃ more, toks t ++ rest = (⟨1, t.place, t.text⟩ :: cnt t k) ++ (toks t.kids[k] ++ more) := by
  refine ⟨((t.kids.drop (k + 1)).map toks).flatten ++ [t.shut] ++ rest, ?_⟩
  have e : (t.kids.map toks).flatten = cnt t k ++ (toks t.kids[k] ++ ((t.kids.drop (k + 1)).map toks).flatten) := by
    have e1 : t.kids = t.kids.take k ++ (t.kids[k] :: t.kids.drop (k + 1)) := by rw [← List.drop_eq_getElem_cons hk, List.take_append_drop]
    have e2 := congrArg (fun l : List Tr => (l.map toks).flatten) e1
    simp only [List.map_append, List.flatten_append, List.map_cons, List.flatten_cons] at e2
    exact e2
  rw [toks_eq, if_pos h, e]
  simp
theorem cnt_all (t : Tr) (h : t.kind = 1) (rest : List Tok) : toks t ++ rest = (⟨1, t.place, t.text⟩ :: cnt t t.kids.length) ++ (t.shut :: rest) := by
  rw [toks_eq, if_pos h, cnt, List.take_length]
  simp

set_option maxHeartbeats 1600000 in
set_option maxRecDepth 1000000 in
theorem oneT (t : Tr) : ∀ (rest : List Tok) (g off cap N : Nat) (w : World), RdO w g off (toks t ++ rest) → Right t → (toks t ++ rest).length = N → N ≤ 8192 → N ≤ cap → cap ≤ 9223372036854775807 →
    Calls Try.prog 35 #[.slice (some ⟨g, off, none⟩) N cap] w (OneTE t w) := by
  induction t using tr_ind with
  | h t ih =>
    intro rest g off cap N w hrd hR hN hN1 hN2 hN3
    obtain ⟨x, xl, hx, hx1, hx2, hx3, hx4⟩ := toks_head t hR
    have hrd0 := hrd
    rw [hx, List.cons_append] at hrd0
    obtain ⟨a0, a1, a2⟩ := hrd0.head
    rw [hx1] at a0
    rw [hx2] at a1
    rw [hx3] at a2
    have hgw : g < w.heap.size := World.block_lt_of_cell? w _ a0
    have hNp : (0 : Int) < (N : Int) := by rw [← hN, hx]; simp; omega
    have K1 : Kept (fun _ => False) w (w.alloc (.cells #[.int .i64 0, .int .i64 0, .string ⟨#[]⟩, .slice none 0 0] 43)) := (Kept.refl _ w).alloc _
    have K2 : Kept (fun _ => False) w ((w.alloc (.cells #[.int .i64 0, .int .i64 0, .string ⟨#[]⟩, .slice none 0 0] 43)).alloc (.cells #[.int .i64 0, .int .i64 0, .string ⟨#[]⟩, .slice none 0 0] 43)) := K1.alloc _
    have b0 := K1.cell a0 (fun h => h)
    have b1 := K1.cell a1 (fun h => h)
    have b2 := K1.cell a2 (fun h => h)
    have c0 := K2.cell a0 (fun h => h)
    have c1 := K2.cell a1 (fun h => h)
    have c2 := K2.cell a2 (fun h => h)
    clear K1 K2 hrd0
    have hres : ((w.alloc (.cells #[.int .i64 0, .int .i64 0, .string ⟨#[]⟩, .slice none 0 0] 43)).alloc (.cells #[.int .i64 (t.kind : Int), .int .i64 (t.place : Int), .string (str t.text), .slice none 0 0] 43)).drew.heap[w.heap.size]? = some (.cells #[.int .i64 0, .int .i64 0, .string ⟨#[]⟩, .slice none 0 0] 43) := by
      show ((w.alloc (.cells #[.int .i64 0, .int .i64 0, .string ⟨#[]⟩, .slice none 0 0] 43)).alloc (.cells #[.int .i64 (t.kind : Int), .int .i64 (t.place : Int), .string (str t.text), .slice none 0 0] 43)).heap[w.heap.size]? = _
      rw [Below.heap_alloc _ _ _ (by simp)]
      exact heap_alloc_new w _
    have hbox : ((w.alloc (.cells #[.int .i64 0, .int .i64 0, .string ⟨#[]⟩, .slice none 0 0] 43)).alloc (.cells #[.int .i64 (t.kind : Int), .int .i64 (t.place : Int), .string (str t.text), .slice none 0 0] 43)).drew.heap[w.heap.size + 1]? = some (.cells #[.int .i64 (t.kind : Int), .int .i64 (t.place : Int), .string (str t.text), .slice none 0 0] 43) := heap_alloc2_new w _ _
    have hsz : Hid (((w.alloc (.cells #[.int .i64 0, .int .i64 0, .string ⟨#[]⟩, .slice none 0 0] 43)).alloc (.cells #[.int .i64 (t.kind : Int), .int .i64 (t.place : Int), .string (str t.text), .slice none 0 0] 43)).drew.heap.size = w.heap.size + 2) := by simp [Hid]
    have KW : Kept (fun _ => False) w ((w.alloc (.cells #[.int .i64 0, .int .i64 0, .string ⟨#[]⟩, .slice none 0 0] 43)).alloc (.cells #[.int .i64 (t.kind : Int), .int .i64 (t.place : Int), .string (str t.text), .slice none 0 0] 43)).drew := (((Kept.refl _ w).alloc _).alloc _).drew
    have hB0 : Below w.heap.size w ((w.alloc (.cells #[.int .i64 0, .int .i64 0, .string ⟨#[]⟩, .slice none 0 0] 43)).alloc (.cells #[.int .i64 (t.kind : Int), .int .i64 (t.place : Int), .string (str t.text), .slice none 0 0] 43)).drew := KW.below (Nat.le_refl _) (fun _ _ h => h)
    have hrd2 := hrd.kept KW (fun h => h)
    go_enter Try.func35, Try.ntmps35
    go_wp2
    go_cut [4] from 8 to 20 (fun p wx => p = .pointer (some ⟨w.heap.size + 1, 0, none⟩) ∧ wx = ((w.alloc (.cells #[.int .i64 0, .int .i64 0, .string ⟨#[]⟩, .slice none 0 0] 43)).alloc (.cells #[.int .i64 (t.kind : Int), .int .i64 (t.place : Int), .string (str t.text), .slice none 0 0] 43)).drew)
    case first =>
      clear ih hrd hrd2 hR hbox hres KW hB0 hsz
      go_region
      all_goals (go_wp2_with fail; go_meet; exact ⟨rfl, rfl⟩)
    case rest =>
      obtain ⟨rfl, hw⟩ := hcut
      rw [← hw] at hres hbox hsz hB0 hrd2
      clear hw KW a0 a1 a2 b0 b1 b2 c0 c1 c2 hrd
      obtain ⟨r0, r1, r2, r3, rf0, rf1, rf2, rf3⟩ := four_cells hres
      obtain ⟨p0, p1, p2, p3, pf0, pf1, pf2, pf3⟩ := four_cells hbox
      by_cases k1 : t.kind = 1
      · have s1 : ((t.kind : Int) != 1) = false := by rw [bne_eq_false_iff_eq]; omega
        have K1h : Hid (t.kind = 1) := k1
        clear k1
        go_wp2
        go_loopg [5] t.kids.length (fun gh i wr => ∃ (k : Nat) (F : Nat → Prop) (kv : Value), gh + k = t.kids.length ∧ i = .int .i64 ((cnt t k).length + 1 : Nat) ∧ OneM 43 (w.heap.size + 2) F wr kv (t.kids.take k) ∧ wr.heap[w.heap.size + 1]? = some (.cells #[.int .i64 (t.kind : Int), .int .i64 (t.place : Int), .string (str t.text), kv] 43) ∧ Below (w.heap.size + 1) wc wr)
        case atStart => exact ⟨0, _, _, rfl, rfl, OneM.nil _ _ _, hbox, Below.refl _ _⟩
        case round =>
          obtain ⟨k, F, kv, hgh, rfl, hM, hb4, hbl⟩ := hrel
          clear r0 r1 r2 r3 rf0 rf1 rf2 rf3 p0 p1 p2 p3 pf0 pf1 pf2 pf3
          have hsw : w.heap.size + 2 ≤ wr.heap.size := by have := hbl.size; rw [hsz.out] at this; exact this
          have hbw : Below w.heap.size w wr := hB0.trans (hbl.mono (by omega))
          obtain ⟨p0, p1, p2, p3, pf0, pf1, pf2, pf3⟩ := four_cells hb4
          have hrd3 := hrd2.kept (Kept.of_below hbl) (by omega)
          by_cases hk : k < t.kids.length
          · obtain ⟨more, hmore⟩ := cnt_split t K1h.out k hk rest
            have hkm := List.getElem_mem hk
            have hRk : Right t.kids[k] := by
              rw [Right_eq] at hR
              rcases hR with h | h
              · exact h.2.2 _ hkm
              · exact absurd K1h.out h.1
            obtain ⟨y, yl, hy, hy1, hy2, hy3, hy4⟩ := toks_head _ hRk
            have hcs := cnt_step t k hk
            have hNl : (cnt t k).length + 1 + (toks t.kids[k] ++ more).length = N := by rw [← hN, hmore]; simp; omega
            rw [hmore] at hrd3
            have hrd4 := hrd3.drop
            have hrd5 := hrd4
            rw [hy, List.cons_append] at hrd5
            obtain ⟨q0, _, _⟩ := hrd5.head
            have hyl : 1 ≤ (toks t.kids[k]).length := toks_ne _
            have hlt : (cnt t k).length + 1 < N := by simp at hNl; omega
            have htn : (toks t.kids[k]).length + (cnt t k).length ≤ 8192 := by rw [List.length_append] at hNl; omega
            rw [List.length_cons] at hrd4 q0
            have hq : ((y.kind : Int) != 2) = true := by rw [bne_iff_ne]; omega
            have hc := ih t.kids[k] hkm more g (off + ((cnt t k).length + 1) * 3) (cap - ((cnt t k).length + 1)) (N - ((cnt t k).length + 1)) wr hrd4 hRk (by omega) (by omega) (by omega) (by omega)
            have htk : t.kids.take (k + 1) = t.kids.take k ++ [t.kids[k]] := List.take_succ_eq_append_getElem hk
            have htl : (t.kids.take k).length ≤ 8192 := by
              have h1 := kids_toks t.kids
              have h2 : (t.kids.map toks).flatten.length ≤ N := by rw [← hN, toks_eq, if_pos K1h.out]; simp; omega
              simp; omega
            have hcl : (cnt t (k + 1)).length = (cnt t k).length + (toks t.kids[k]).length := by rw [hcs]; simp
            clear ih hrd2 hrd3 hrd4 hrd5 hmore hy hcs p0 p1 p2 p3 pf0 pf1 pf2 pf3
            have hTK : Hid (t.kids.take (k + 1) = t.kids.take k ++ [t.kids[k]]) := htk
            clear htk
            generalize t.kids.take k = ks at *
            obtain ⟨ka, kc, rfl⟩ := hM.own.shape
            obtain ⟨p0, p1, p2, p3, pf0, pf1, pf2, pf3⟩ := four_cells hb4
            generalize t.kids[k] = tk at *
            generalize (cnt t k).length = m at *
            generalize hC1 : (cnt t (k + 1)).length = m1 at *
            have hi1 : (m : Int) + 1 < (N : Int) := by omega
            have hi2 : (m : Int) + 1 ≤ (N : Int) := by omega
            have hi3 : (0 : Int) ≤ (m : Int) + 1 := by omega
            have hci : (cap : Int) ≤ 9223372036854775807 := by omega
            have hi4 : (N : Int) ≤ (cap : Int) := by omega
            go_wp2_with fail
            refine hc.mono ?_
            rintro e w5 ⟨kv5, rfl, ht5, hb5⟩
            obtain ⟨ea, ec, rfl⟩ := ht5.shape
            unfold trv
            have K5 : Kept (fun _ => False) wr w5 := (Kept.of_below hb5).mono (fun k hk h => by omega)
            have K6 : Kept (fun _ => False) wr ((w5.alloc (.cells #[.int .i64 (tk.kind : Int), .int .i64 (tk.place : Int), .string (str tk.text), .slice ea tk.kids.length ec] 43)).alloc (.cells #[.int .i64 (tk.kind : Int), .int .i64 (tk.place : Int), .string (str tk.text), .slice ea tk.kids.length ec] 43)) := (K5.alloc _).alloc _
            have hs5 := hb5.size
            have hM6 := hM.grow (G := fun g => wr.heap.size ≤ g ∧ g < w5.heap.size) K6 hsw (fun g hg => by simp; omega)
            have ht6 : TL (fun g => F g ∨ (wr.heap.size ≤ g ∧ g < w5.heap.size)) ((w5.alloc (.cells #[.int .i64 (tk.kind : Int), .int .i64 (tk.place : Int), .string (str tk.text), .slice ea tk.kids.length ec] 43)).alloc (.cells #[.int .i64 (tk.kind : Int), .int .i64 (tk.place : Int), .string (str tk.text), .slice ea tk.kids.length ec] 43)) (.slice ea tk.kids.length ec) tk.kids := (ht5.kept (((Kept.refl (fun _ => False) w5).alloc _).alloc _) (fun g hg => ⟨hg.2, fun h => h⟩)).mono (fun g hg => .inr hg)
            have hb46 : ((w5.alloc (.cells #[.int .i64 (tk.kind : Int), .int .i64 (tk.place : Int), .string (str tk.text), .slice ea tk.kids.length ec] 43)).alloc (.cells #[.int .i64 (tk.kind : Int), .int .i64 (tk.place : Int), .string (str tk.text), .slice ea tk.kids.length ec] 43)).heap[w.heap.size + 1]? = _ := (K6.block _ (by omega) (fun h => h)).trans hb4
            obtain ⟨z0, z1, z2, z3, _⟩ := four_cells ((K5.block _ (by omega) (fun h => h)).trans hb4)
            have y3 := ((Kept.refl (fun _ => False) w5).alloc (.cells #[.int .i64 (tk.kind : Int), .int .i64 (tk.place : Int), .string (str tk.text), .slice ea tk.kids.length ec] 43)).cell z3 (fun h => h)
            obtain ⟨vs, v1, v2, v3⟩ := hM6.own
            have hfar := hM.own.lt
            clear hc p0 p1 p2 p3 pf0 pf1 pf2 pf3 q0 hM hb4 K5 K6 z0 z1 z2 z3
            go_wp2_with (at_builtin; refine append_tref rfl (.tmp 39) (.tmp 41) rfl (w.heap.size + 2) _ _ _ rfl v2 _ _ (trc tk (.slice ea tk.kids.length ec)) rfl rfl ?src (trc_one _ _ rfl) ?len ?hB (w5.heap.size + 1 + 1) (by simp) ?next)
            case src => exact cells_at _ _ _ (by simp)
            case len => omega
            case hB => simp; omega
            case next =>
              intro g' cap' w' j1 j2 j3 j4
              obtain ⟨hM7, K7⟩ := hM6.app v1 v3 j1 j2 j3 (by simp) ht6
              have hb47 : w'.heap[w.heap.size + 1]? = _ := (K7.block _ (by simp; omega) (fun e => by have := (hfar _ e).1; omega)).trans hb46
              obtain ⟨z0, z1, z2, z3, zf0, zf1, zf2, zf3⟩ := four_cells hb47
              have hM8 := hM7.set (j := 3) (u := .slice (some ⟨g', 0, none⟩) (ks.length + 1) cap') (show w.heap.size + 1 < w.heap.size + 2 from by omega)
              have hb48 := heap_setCell_same w' (w.heap.size + 1) 3 _ 43 (.slice (some ⟨g', 0, none⟩) (ks.length + 1) cap') hb47
              have hbl8 : Below (w.heap.size + 1) wc (w'.setCell ⟨w.heap.size + 1, 3, none⟩ (.slice (some ⟨g', 0, none⟩) (ks.length + 1) cap')) := by
                refine Below.setCell (p := ⟨w.heap.size + 1, 3, none⟩) ?_ (Nat.le_refl _) _
                exact (hbl.trans (((hb5.mono (by omega)).alloc (by omega) _).alloc (by simp; omega) _)).trans (K7.below (by simp; omega) (fun b hb e => by have := (hfar _ e).1; omega))
              rw [← hTK.out] at hM8
              clear hM6 hM7 K7 hb46 hb47 j1 j2 j3 j4 v1 v2 v3 ht5 ht6 hb5 y3 hbl hfar
              go_wp2
              go_roundg (t.kids.length - (k + 1))
              case measure => omega
              case rel => exact ⟨k + 1, _, _, by omega, by rw [hC1, hcl]; go_num, hM8, hb48, hbl8⟩
          · have hk' : k = t.kids.length := by omega
            subst hk'
            have hall := cnt_all t K1h.out rest
            have hs2 : t.shut.kind = 2 := by
              rw [Right_eq] at hR
              rcases hR with h | h
              · exact h.2.1
              · exact absurd K1h.out h.1
            rw [hall] at hrd3
            obtain ⟨q0, _, _⟩ := hrd3.drop.head
            rw [List.length_cons, hs2] at q0
            have hNl : (cnt t t.kids.length).length + 1 + (1 + rest.length) = N := by rw [← hN, hall]; simp; omega
            have hTl : (toks t).length = (cnt t t.kids.length).length + 2 := by
              have := congrArg List.length hall
              simp at this
              omega
            have hres2 : wr.heap[w.heap.size]? = some (.cells #[.int .i64 0, .int .i64 0, .string ⟨#[]⟩, .slice none 0 0] 43) := (hbl.block _ (by omega)).trans hres
            obtain ⟨r0, r1, r2, r3, rf0, rf1, rf2, rf3⟩ := four_cells hres2
            rw [List.take_length] at hM
            obtain ⟨ka, kc, rfl⟩ := hM.own.shape
            clear ih hrd2 hrd3 hall
            generalize (cnt t t.kids.length).length = m at *
            have hi1 : (m : Int) + 1 < (N : Int) := by omega
            go_wp2
            (try simp only [Exit.inBlock, Exit.then])
            refine bodyPost_ret (res_cell2 rfl _ _ w.heap.size 43 _ (0, 0) _ rfl (box_set hres2 _ _ _ _) Try.underlying43 rfl sizeRf) rfl ?_
            refine one_mk (n := (m : Int) + 1 + 1) (kv := .slice ka t.kids.length kc) rfl (by rw [hTl]; omega) ?_ (box_below hbw (Nat.le_refl _) _ _ _ _)
            have KB := box_kept (Kept.refl (fun _ => False) wr) w.heap.size (.int .i64 (t.kind : Int)) (.int .i64 (t.place : Int)) (.string (str t.text)) (.slice ka t.kids.length kc)
            have hsh := hM.shut (lo := w.heap.size + 1) (by omega)
            refine (hsh.kept KB (fun g hg => ⟨hg.2, fun h => ?_⟩)).mono (fun g hg => ?_)
            · rcases h with h | h
              · exact h
              · omega
            · have := KB.size
              omega
      · have s1 : ((t.kind : Int) != 1) = true := by rw [bne_iff_ne]; omega
        have hkk : t.kids = [] := by
          rw [Right_eq] at hR
          rcases hR with h | h
          · exact absurd h.1 k1
          · exact h.2.2.1
        have hTl : (toks t).length = 1 := by rw [toks_eq, if_neg k1]; rfl
        clear ih hrd2
        go_wp2
        (try simp only [Exit.inBlock, Exit.then])
        refine bodyPost_ret (res_cell2 rfl _ _ w.heap.size 43 _ (0, 0) _ rfl (box_set hres _ _ _ _) Try.underlying43 rfl sizeRf) rfl ?_
        refine one_mk (n := 1) (kv := .slice none 0 0) rfl (by rw [hTl]; rfl) ?_ (box_below hB0 (Nat.le_refl _) _ _ _ _)
        rw [hkk]
        exact TL.nil _ _
end Go.Proofs.Ytcokihblicgbpaa

namespace Go.Proofs.Ytcokihblicgbpaa
open Go.RowKit

def zRef : Obj := .cells #[.int .i64 0, .int .i64 0, .string ⟨#[]⟩, .slice none 0 0] 43
theorem took_one {rs : List Tr} (h : Stk rs) (h1 : rs.length = 1) : ∃ b, rs = [b] ∧ ((took rs).length = 0 ↔ b.kids.length = 0) := by
  obtain ⟨b, rfl⟩ := List.length_eq_one_iff.1 h1
  refine ⟨b, rfl, ?_⟩
  have := kids_toks b.kids
  constructor
  · intro h2
    simp only [took] at h2
    omega
  · intro h2
    simp [took, List.eq_nil_of_length_eq_zero h2]
theorem refu_tail {rs : List Tr} {t : Tok} (h : Stk rs) (h1 : rs.length = 1) (h2 : 0 < (took rs).length) (h3 : t.kind ≠ 2) : refu rs t = 11 := by
  obtain ⟨b, rfl, hb⟩ := took_one h h1
  have : b.kids.length ≠ 0 := fun e => by rw [hb.2 e] at h2; omega
  unfold refu
  rw [if_neg (by simp), if_neg (fun h => h3 h.1)]
  simp at this ⊢
  exact this
theorem refu_none {rs : List Tr} {t : Tok} (h : Stk rs) (h1 : ¬ (rs.length = 1 ∧ 0 < (took rs).length ∧ t.kind ≠ 2)) (h2 : ¬ (t.kind = 1 ∧ rs.length = 41)) (h3 : ¬ (t.kind = 2 ∧ rs.length = 1)) : refu rs t = 0 := by
  unfold refu
  rw [if_neg h2, if_neg h3]
  by_cases hl : rs.length = 1
  · obtain ⟨b, rfl, hb⟩ := took_one h hl
    have h4 : t.kind ≠ 2 := fun e => h3 ⟨e, hl⟩
    have h5 : (took [b]).length = 0 := by
      rcases Nat.eq_zero_or_pos (took [b]).length with e | e
      · exact e
      · exact absurd ⟨hl, e, h4⟩ h1
    simp [hb.1 h5]
  · rw [if_neg (fun h => hl h.1)]
theorem refu_nest {rs : List Tr} {t : Tok} (h : t.kind = 1) (h1 : rs.length = 41) : refu rs t = 14 := by simp [refu, h, h1]
theorem refu_form {rs : List Tr} {t : Tok} (h : t.kind = 2) (h1 : rs.length = 1) : refu rs t = 12 := by simp [refu, h, h1]
theorem put_open {rs : List Tr} {t : Tok} (h : t.kind = 1) (h1 : rs ≠ []) : (put rs t).length = rs.length + 1 := by
  cases rs with
  | nil => exact absurd rfl h1
  | cons x r => simp [put, h]
theorem put_close {rs : List Tr} {t : Tok} (h : t.kind = 2) (h1 : 1 < rs.length) : (put rs t).length + 1 = rs.length := by
  match rs, h1 with
  | x :: y :: r, _ => simp [put, h]
theorem put_leaf {rs : List Tr} {t : Tok} (h : t.kind ≠ 1) (h2 : t.kind ≠ 2) (h1 : rs ≠ []) : (put rs t).length = rs.length := by
  cases rs with
  | nil => exact absurd rfl h1
  | cons x r => simp [put, h, h2]

set_option maxHeartbeats 1600000 in
set_option maxRecDepth 1000000 in
theorem refParse (s : ByteArray) (w : World) : Calls Try.prog 20 #[.string s] w (PE (parseR s.data.toList) w) := by
  have hsp := fun w => refSplit s w
  cases hs : splitR s.data.toList with
  | error yb =>
    obtain ⟨y, b⟩ := yb
    have HR : Hid (parseR s.data.toList = .error (y, b)) := by simp [Hid, parseR, hs]
    have hy := split_why _ _ _ hs
    have hy' : ((y : Int) != 0) = true := by rw [bne_iff_ne]; omega
    rw [hs] at hsp
    clear hs hy
    go_enter Try.func20, Try.ntmps20
    go_wp2_with fail
    refine (hsp _).mono ?_
    rintro e w1 ⟨he, hbl⟩
    simp only at he
    subst he
    have hbox : w1.heap[w.heap.size]? = some zRef := by
      rw [hbl.block _ (by simp)]
      exact heap_alloc_new w _
    obtain ⟨d0, d1, d2, d3, f0, f1, f2, f3⟩ := four_cells hbox
    have hB : Below w.heap.size w w1 := ((Below.refl _ w).alloc (Nat.le_refl _) _).trans (hbl.mono (by simp))
    clear hbl hsp
    go_wp2
    (try simp only [Exit.inBlock, Exit.then])
    refine bodyPost_ret (res_cell3 rfl _ _ w.heap.size 43 _ (0, 0) _ rfl (box_set hbox _ _ _ _) Try.underlying43 rfl sizeRf) rfl ?_
    exact pe_no HR.out rfl rfl rfl (box_below hB (Nat.le_refl _) _ _ _ _)
  | ok l =>
    rw [hs] at hsp
    by_cases hl0 : l = []
    · subst hl0
      have HR : Hid (parseR s.data.toList = .error (12, s.size)) := by simp [Hid, parseR, hs]
      clear hs
      go_enter Try.func20, Try.ntmps20
      go_wp2_with fail
      refine (hsp _).mono ?_
      rintro e w1 ⟨⟨v, rfl, hown⟩, hbl⟩
      obtain ⟨va, vc, rfl⟩ := (RdT.own hown).shape
      have hbox : w1.heap[w.heap.size]? = some zRef := by
        rw [hbl.block _ (by simp)]
        exact heap_alloc_new w _
      obtain ⟨d0, d1, d2, d3, f0, f1, f2, f3⟩ := four_cells hbox
      have hB : Below w.heap.size w w1 := ((Below.refl _ w).alloc (Nat.le_refl _) _).trans (hbl.mono (by simp))
      clear hbl hsp hown
      go_wp2
      (try simp only [Exit.inBlock, Exit.then])
      refine bodyPost_ret (res_cell3 rfl _ _ w.heap.size 43 _ (0, 0) _ rfl (box_set hbox _ _ _ _) Try.underlying43 rfl sizeRf) rfl ?_
      exact pe_no HR.out rfl rfl rfl (box_below hB (Nat.le_refl _) _ _ _ _)
    · obtain ⟨hl1, hl2⟩ := split_size hs
      have hgd := split_good hs
      have HP : Hid (parseR s.data.toList = run s.size [root] l) := by simp [Hid, parseR, hs, hl0]
      have hlp : 0 < l.length := List.length_pos_iff.2 hl0
      have hlz : ((l.length : Int) == 0) = false := by rw [beq_eq_false_iff_ne]; omega
      clear hs
      go_enter Try.func20, Try.ntmps20
      go_wp2_with fail
      refine (hsp _).mono ?_
      rintro e w1 ⟨⟨v, rfl, hown⟩, hbl⟩
      obtain ⟨ga, cap, hv, hcap1, hcap2, hga1, hga2⟩ : ∃ ga cap, v = .slice (some ⟨ga, 0, none⟩) l.length cap ∧ l.length ≤ cap ∧ cap ≤ 9223372036854775807 ∧ ga ≠ w.heap.size ∧ w.heap.size ≠ ga := by
        rcases hown.2 with ⟨_, h0⟩ | ⟨g, cap, cur, hv, hb, hg, h1, h2, _⟩
        · omega
        · have hb' : w.heap.size + 1 ≤ g := by simpa using hb
          exact ⟨g, cap, hv, h1, by unfold maxLen at h2; omega, by omega, by omega⟩
      subst hv
      have hrd : RdO w1 ga 0 l := by
        rcases RdT.own hown with ⟨h0, _⟩ | ⟨g, c, h0, hc⟩
        · cases h0
        · cases h0
          intro j u hj
          rw [Nat.zero_add]
          exact hc j u hj
      have hbox : w1.heap[w.heap.size]? = some zRef := by
        rw [hbl.block _ (by simp)]
        exact heap_alloc_new w _
      have hB : Below w.heap.size w w1 := ((Below.refl _ w).alloc (Nat.le_refl _) _).trans (hbl.mono (by simp))
      have hbs : w.heap.size < w1.heap.size := (Array.getElem?_eq_some_iff.1 hbox).1
      clear hbl hsp hown
      go_wp2
      go_loopg [8, 9] l.length (fun g dp i wr => ∃ (k : Nat) (rs : List Tr), g + k = l.length ∧ i = .int .i64 k ∧ dp = .int .i64 ((rs.length - 1 : Nat) : Int) ∧ Stk rs ∧ took rs = l.take k ∧ rs.length ≤ 41 ∧ w1 = wr ∧ Hid (run s.size rs (l.drop k) = run s.size [root] l))
      case atStart => exact ⟨0, [root], rfl, rfl, rfl, stk_root, rfl, by simp, rfl, rfl⟩
      case round =>
        obtain ⟨k, rs, hg, rfl, rfl, hstk, htook, hrl, rfl, hrun⟩ := hrel
        have hne := stk_ne hstk
        have hr0 : 0 < rs.length := List.length_pos_iff.2 hne
        have hbox' := hbox
        have hBw := hB
        have htl : (took rs).length = k := by rw [htook, List.length_take]; omega
        by_cases hk : k < l.length
        · have hki : (k : Int) < (l.length : Int) := by omega
          have hd : l.drop k = l[k] :: l.drop (k + 1) := List.drop_eq_getElem_cons hk
          have htk : l.take (k + 1) = l.take k ++ [l[k]] := List.take_succ_eq_append_getElem hk
          have hrk : RdO w1 ga (0 + (l.take k).length * 3) (l[k] :: l.drop (k + 1)) := RdO.drop (by rw [← hd, List.take_append_drop]; exact hrd)
          rw [List.length_take, Nat.min_eq_left (by omega), Nat.zero_add] at hrk
          obtain ⟨q0, q1, q2⟩ := hrk.head
          have hkin := (hgd l[k] (List.getElem_mem hk)).kind
          have hrun' := hrun.out
          rw [hd, run] at hrun'
          have hrnone := refu_none (t := l[k]) hstk
          have hrtail := refu_tail (t := l[k]) hstk
          generalize l[k] = tok at *
          clear hd hrk
          have HT : Hid (l.take (k + 1) = l.take k ++ [tok]) := htk
          clear htk
          by_cases cA : rs.length = 1 ∧ 0 < k ∧ tok.kind ≠ 2
          · obtain ⟨c1, c2, c3⟩ := cA
            have hrf := hrtail c1 (by omega) c3
            have s1 : ((rs.length - 1 : Nat) : Int) = 0 := by omega
            have s2 : (0 : Int) < (k : Int) := by omega
            have s3 : ((tok.kind : Int) != 2) = true := by rw [bne_iff_ne]; omega
            clear hrtail hrnone c3
            rw [s1]
            have HR : Hid (parseR s.data.toList = .error (11, tok.place)) := by
              rw [Hid, HP.out, ← hrun', hrf]
              rfl
            clear hrun' hrun
            obtain ⟨d0, d1, d2, d3, f0, f1, f2, f3⟩ := four_cells hbox'
            go_wp2
            go_region
            all_goals (
              go_wp2
              (try simp only [Exit.inBlock, Exit.then])
              refine bodyPost_ret (res_cell3 rfl _ _ w.heap.size 43 _ (0, 0) _ rfl (box_set hbox' _ _ _ _) Try.underlying43 rfl sizeRf) rfl ?_
              exact pe_no HR.out rfl rfl rfl ((box_below hBw (Nat.le_refl _) _ _ _ _).drew))
          · obtain ⟨D, hD⟩ : ∃ D, rs.length = D + 1 := ⟨rs.length - 1, by omega⟩
            have eD : rs.length - 1 = D := by omega
            rw [eD]
            have hA : ¬ (rs.length = 1 ∧ 0 < (took rs).length ∧ tok.kind ≠ 2) := by rw [htl]; exact cA
            clear eD hrtail
            by_cases cP : 0 < k
            · have sP : (0 : Int) < (k : Int) := by omega
              by_cases cD : D = 0
              · have cK : tok.kind = 2 := by
                  rcases Nat.lt_or_ge tok.kind 2 with h | h
                  · exact absurd ⟨by omega, cP, by omega⟩ cA
                  · rcases Nat.lt_or_ge 2 tok.kind with h' | h'
                    · exact absurd ⟨by omega, cP, by omega⟩ cA
                    · omega
                subst cD
                have sK : ((tok.kind : Int) != 2) = false := by rw [bne_eq_false_iff_eq]; omega
                have sK2 : ((tok.kind : Int) == 2) = true := by rw [beq_iff_eq]; omega
                have sK1 : ((tok.kind : Int) == 1) = false := by rw [beq_eq_false_iff_ne]; omega
                have hrf := refu_form (rs := rs) cK (by omega)
                clear cK
                have HR : Hid (parseR s.data.toList = .error (12, tok.place)) := by
                  rw [Hid, HP.out, ← hrun', hrf]
                  rfl
                clear hrun' hrun
                obtain ⟨d0, d1, d2, d3, f0, f1, f2, f3⟩ := four_cells hbox'
                go_wp2
                go_region
                all_goals (
                  go_wp2
                  (try simp only [Exit.inBlock, Exit.then])
                  refine bodyPost_ret (res_cell3 rfl _ _ w.heap.size 43 _ (0, 0) _ rfl (box_set hbox' _ _ _ _) Try.underlying43 rfl sizeRf) rfl ?_
                  exact pe_no HR.out rfl rfl rfl ((box_below hBw (Nat.le_refl _) _ _ _ _).drew))
              · have sD : ((D : Int) == 0) = false := by rw [beq_eq_false_iff_ne]; omega
                by_cases cK : tok.kind = 1
                · have sK : ((tok.kind : Int) == 1) = true := by rw [beq_iff_eq]; omega
                  have sK2 : ((tok.kind : Int) != 2) = true := by rw [bne_iff_ne]; omega
                  by_cases c41 : D = 40
                  · have s41 : (40 : Int) < (D : Int) + 1 := by omega
                    have hrf := refu_nest (rs := rs) cK (by omega)
                    clear cK
                    have HR : Hid (parseR s.data.toList = .error (14, tok.place)) := by
                      rw [Hid, HP.out, ← hrun', hrf]
                      rfl
                    clear hrun' hrun
                    obtain ⟨d0, d1, d2, d3, f0, f1, f2, f3⟩ := four_cells hbox'
                    go_wp2
                    go_region
                    all_goals (
                      go_wp2
                      (try simp only [Exit.inBlock, Exit.then])
                      refine bodyPost_ret (res_cell3 rfl _ _ w.heap.size 43 _ (0, 0) _ rfl (box_set hbox' _ _ _ _) Try.underlying43 rfl sizeRf) rfl ?_
                      exact pe_no HR.out rfl rfl rfl ((box_below hBw (Nat.le_refl _) _ _ _ _).drew))
                  · have s41 : ¬ (40 : Int) < (D : Int) + 1 := by omega
                    have hrf := hrnone hA (fun h => by omega) (fun h => by omega)
                    have hpo : (put rs tok).length - 1 = D + 1 := by have := put_open (rs := rs) cK hne; omega
                    clear cK
                    rw [if_pos hrf] at hrun'
                    have HRn : Hid (run s.size (put rs tok) (l.drop (k + 1)) = run s.size [root] l) := hrun'
                    obtain ⟨p1, p2, _, _⟩ := stk_put hstk hrf hkin
                    have p3 := refu_lt hrf hrl
                    skip
                    clear hrun' hrun
                    go_wp2
                    go_roundg (l.length - (k + 1))
                    case measure => omega
                    case rel => exact ⟨k + 1, put rs tok, by omega, by go_num, by go_num, p1, by rw [p2, htook, HT.out], p3, rfl, HRn⟩
                have sK1 : ((tok.kind : Int) == 1) = false := by rw [beq_eq_false_iff_ne]; omega
                by_cases cK2 : tok.kind = 2
                · have sK : ((tok.kind : Int) == 2) = true := by rw [beq_iff_eq]; omega
                  have sK2 : ((tok.kind : Int) != 2) = false := by rw [bne_eq_false_iff_eq]; omega
                  by_cases c0 : D = 0
                  · exact absurd c0 cD
                  · have s0 : ((D : Int) == 0) = false := by rw [beq_eq_false_iff_ne]; omega
                    have hrf := hrnone hA (fun h => by omega) (fun h => by omega)
                    obtain ⟨E, rfl⟩ : ∃ E, D = E + 1 := ⟨D - 1, by omega⟩
                    have hpo : (put rs tok).length - 1 = E := by have := put_close (rs := rs) cK2 (by omega); omega
                    clear cK2
                    rw [if_pos hrf] at hrun'
                    have HRn : Hid (run s.size (put rs tok) (l.drop (k + 1)) = run s.size [root] l) := hrun'
                    obtain ⟨p1, p2, _, _⟩ := stk_put hstk hrf hkin
                    have p3 := refu_lt hrf hrl
                    skip
                    clear hrun' hrun
                    go_wp2
                    go_roundg (l.length - (k + 1))
                    case measure => omega
                    case rel => exact ⟨k + 1, put rs tok, by omega, by go_num, by go_num, p1, by rw [p2, htook, HT.out], p3, rfl, HRn⟩
                have sK : ((tok.kind : Int) == 2) = false := by rw [beq_eq_false_iff_ne]; omega
                have sK2 : ((tok.kind : Int) != 2) = true := by rw [bne_iff_ne]; omega
                have hrf := hrnone hA (fun h => by omega) (fun h => by omega)
                have hpo : (put rs tok).length - 1 = D := by have := put_leaf (rs := rs) cK cK2 hne; omega
                clear cK cK2
                rw [if_pos hrf] at hrun'
                have HRn : Hid (run s.size (put rs tok) (l.drop (k + 1)) = run s.size [root] l) := hrun'
                obtain ⟨p1, p2, _, _⟩ := stk_put hstk hrf hkin
                have p3 := refu_lt hrf hrl
                skip
                clear hrun' hrun
                go_wp2
                go_roundg (l.length - (k + 1))
                case measure => omega
                case rel => exact ⟨k + 1, put rs tok, by omega, by go_num, by go_num, p1, by rw [p2, htook, HT.out], p3, rfl, HRn⟩
            · have sP : ¬ (0 : Int) < (k : Int) := by omega
              by_cases cK : tok.kind = 1
              · have sK : ((tok.kind : Int) == 1) = true := by rw [beq_iff_eq]; omega
                have sK2 : ((tok.kind : Int) != 2) = true := by rw [bne_iff_ne]; omega
                by_cases c41 : D = 40
                · have s41 : (40 : Int) < (D : Int) + 1 := by omega
                  have hrf := refu_nest (rs := rs) cK (by omega)
                  clear cK
                  have HR : Hid (parseR s.data.toList = .error (14, tok.place)) := by
                    rw [Hid, HP.out, ← hrun', hrf]
                    rfl
                  clear hrun' hrun
                  obtain ⟨d0, d1, d2, d3, f0, f1, f2, f3⟩ := four_cells hbox'
                  go_wp2
                  go_region
                  all_goals (
                    go_wp2
                    (try simp only [Exit.inBlock, Exit.then])
                    refine bodyPost_ret (res_cell3 rfl _ _ w.heap.size 43 _ (0, 0) _ rfl (box_set hbox' _ _ _ _) Try.underlying43 rfl sizeRf) rfl ?_
                    exact pe_no HR.out rfl rfl rfl ((box_below hBw (Nat.le_refl _) _ _ _ _).drew))
                · have s41 : ¬ (40 : Int) < (D : Int) + 1 := by omega
                  have hrf := hrnone hA (fun h => by omega) (fun h => by omega)
                  have hpo : (put rs tok).length - 1 = D + 1 := by have := put_open (rs := rs) cK hne; omega
                  clear cK
                  rw [if_pos hrf] at hrun'
                  have HRn : Hid (run s.size (put rs tok) (l.drop (k + 1)) = run s.size [root] l) := hrun'
                  obtain ⟨p1, p2, _, _⟩ := stk_put hstk hrf hkin
                  have p3 := refu_lt hrf hrl
                  skip
                  clear hrun' hrun
                  go_wp2
                  go_roundg (l.length - (k + 1))
                  case measure => omega
                  case rel => exact ⟨k + 1, put rs tok, by omega, by go_num, by go_num, p1, by rw [p2, htook, HT.out], p3, rfl, HRn⟩
              have sK1 : ((tok.kind : Int) == 1) = false := by rw [beq_eq_false_iff_ne]; omega
              by_cases cK2 : tok.kind = 2
              · have sK : ((tok.kind : Int) == 2) = true := by rw [beq_iff_eq]; omega
                have sK2 : ((tok.kind : Int) != 2) = false := by rw [bne_eq_false_iff_eq]; omega
                by_cases c0 : D = 0
                · have hrf := refu_form (rs := rs) cK2 (by omega)
                  subst c0
                  clear cK2
                  have HR : Hid (parseR s.data.toList = .error (12, tok.place)) := by
                    rw [Hid, HP.out, ← hrun', hrf]
                    rfl
                  clear hrun' hrun
                  obtain ⟨d0, d1, d2, d3, f0, f1, f2, f3⟩ := four_cells hbox'
                  go_wp2
                  go_region
                  all_goals (
                    go_wp2
                    (try simp only [Exit.inBlock, Exit.then])
                    refine bodyPost_ret (res_cell3 rfl _ _ w.heap.size 43 _ (0, 0) _ rfl (box_set hbox' _ _ _ _) Try.underlying43 rfl sizeRf) rfl ?_
                    exact pe_no HR.out rfl rfl rfl ((box_below hBw (Nat.le_refl _) _ _ _ _).drew))
                · have s0 : ((D : Int) == 0) = false := by rw [beq_eq_false_iff_ne]; omega
                  have hrf := hrnone hA (fun h => by omega) (fun h => by omega)
                  obtain ⟨E, rfl⟩ : ∃ E, D = E + 1 := ⟨D - 1, by omega⟩
                  have hpo : (put rs tok).length - 1 = E := by have := put_close (rs := rs) cK2 (by omega); omega
                  clear cK2
                  rw [if_pos hrf] at hrun'
                  have HRn : Hid (run s.size (put rs tok) (l.drop (k + 1)) = run s.size [root] l) := hrun'
                  obtain ⟨p1, p2, _, _⟩ := stk_put hstk hrf hkin
                  have p3 := refu_lt hrf hrl
                  skip
                  clear hrun' hrun
                  go_wp2
                  go_roundg (l.length - (k + 1))
                  case measure => omega
                  case rel => exact ⟨k + 1, put rs tok, by omega, by go_num, by go_num, p1, by rw [p2, htook, HT.out], p3, rfl, HRn⟩
              have sK : ((tok.kind : Int) == 2) = false := by rw [beq_eq_false_iff_ne]; omega
              have sK2 : ((tok.kind : Int) != 2) = true := by rw [bne_iff_ne]; omega
              have hrf := hrnone hA (fun h => by omega) (fun h => by omega)
              have hpo : (put rs tok).length - 1 = D := by have := put_leaf (rs := rs) cK cK2 hne; omega
              clear cK cK2
              rw [if_pos hrf] at hrun'
              have HRn : Hid (run s.size (put rs tok) (l.drop (k + 1)) = run s.size [root] l) := hrun'
              obtain ⟨p1, p2, _, _⟩ := stk_put hstk hrf hkin
              have p3 := refu_lt hrf hrl
              skip
              clear hrun' hrun
              go_wp2
              go_roundg (l.length - (k + 1))
              case measure => omega
              case rel => exact ⟨k + 1, put rs tok, by omega, by go_num, by go_num, p1, by rw [p2, htook, HT.out], p3, rfl, HRn⟩
        · have hk' : k = l.length := by omega
          subst hk'
          have hrun' := hrun.out
          rw [List.drop_length] at hrun'
          obtain ⟨d0, d1, d2, d3, f0, f1, f2, f3⟩ := four_cells hbox'
          have hki : ¬ (l.length : Int) < (l.length : Int) := by omega
          by_cases h1 : 1 < rs.length
          · have HR : Hid (parseR s.data.toList = .error (10, s.size)) := by
              rw [Hid, HP.out, ← hrun', run_end h1]
            have h1' : (0 : Int) < ((rs.length - 1 : Nat) : Int) := by omega
            clear hrun' hrun
            go_wp2
            (try simp only [Exit.inBlock, Exit.then])
            refine bodyPost_ret (res_cell3 rfl _ _ w.heap.size 43 _ (0, 0) _ rfl (box_set hbox' _ _ _ _) Try.underlying43 rfl sizeRf) rfl ?_
            exact pe_no HR.out rfl rfl rfl (box_below hBw (Nat.le_refl _) _ _ _ _)
          · obtain ⟨b, hbr, hbk⟩ := took_one hstk (by omega)
            have hb0 : b.kids ≠ [] := fun e => by
              have := hbk.2 (by rw [e]; rfl)
              omega
            obtain ⟨x, xr, hx⟩ := List.exists_cons_of_ne_nil hb0
            have hrw : run s.size [root] l = .ok x := by rw [← hrun', hbr, run_whole hx]
            have HR : Hid (parseR s.data.toList = .ok x) := by rw [Hid, HP.out, hrw]
            obtain ⟨hRx, htx⟩ := run_toks _ l [root] x stk_root (fun k hk => (hgd k hk).kind) hrw
            rw [took_root, List.nil_append] at htx
            have hone := oneT x [] ga 0 cap l.length w1 (by rw [htx, List.append_nil]; exact hrd) hRx (by rw [htx, List.append_nil]) hl1 hcap1 hcap2
            have h1' : ((rs.length - 1 : Nat) : Int) = 0 := by omega
            rw [h1']
            clear hrun' hrun hrw h1'
            go_wp2_with fail
            refine hone.mono ?_
            rintro e w5 ⟨kv, rfl, ht5, hb5⟩
            obtain ⟨xa, xc, rfl⟩ := ht5.shape
            unfold trv
            have hbox5 : (w5.alloc (.cells #[.int .i64 (x.kind : Int), .int .i64 (x.place : Int), .string (str x.text), .slice xa x.kids.length xc] 43)).heap[w.heap.size]? = some zRef := by
              rw [Below.heap_alloc _ _ _ (by have := hb5.size; omega), hb5.block _ hbs]
              exact hbox
            obtain ⟨e0, e1, e2, e3, g0, g1, g2, g3⟩ := four_cells hbox5
            have hs5 := hb5.size
            have hB5 : Below w.heap.size w (w5.alloc (.cells #[.int .i64 (x.kind : Int), .int .i64 (x.place : Int), .string (str x.text), .slice xa x.kids.length xc] 43)) := (hB.trans (hb5.mono (Nat.le_of_lt hbs))).alloc (by omega) _
            have ht6 := ht5.kept ((Kept.refl (fun _ => False) w5).alloc (.cells #[.int .i64 (x.kind : Int), .int .i64 (x.place : Int), .string (str x.text), .slice xa x.kids.length xc] 43)) (fun g hg => ⟨hg.2, fun h => h⟩)
            clear hone
            go_wp2
            (try simp only [Exit.inBlock, Exit.then])
            refine bodyPost_ret (res_cell3 rfl _ _ w.heap.size 43 _ (0, 0) _ rfl (box_set hbox5 _ _ _ _) Try.underlying43 rfl sizeRf) rfl ?_
            refine pe_ok HR.out rfl ?_ (box_below hB5 (Nat.le_refl _) _ _ _ _)
            have KB := box_kept (Kept.refl (fun _ => False) (w5.alloc (.cells #[.int .i64 (x.kind : Int), .int .i64 (x.place : Int), .string (str x.text), .slice xa x.kids.length xc] 43))) w.heap.size (.int .i64 (x.kind : Int)) (.int .i64 (x.place : Int)) (.string (str x.text)) (.slice xa x.kids.length xc)
            refine (ht6.kept KB (fun g hg => ⟨by simp; omega, fun h => ?_⟩)).mono (fun g hg => ?_)
            · rcases h with h | h
              · exact h
              · omega
            · have h7 := KB.size
              have h8 : w5.heap.size ≤ (w5.alloc (.cells #[.int .i64 (x.kind : Int), .int .i64 (x.place : Int), .string (str x.text), .slice xa x.kids.length xc] 43)).heap.size := by simp
              omega
end Go.Proofs.Ytcokihblicgbpaa
