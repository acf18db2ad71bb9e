/-
  TreeDeep: as many brackets as may be open are taken, one more is refused where it stands; side by side there may be more. For all n and m.
-/
import Derived.Test.YtmekjbplodnldaaRows
import Derived.Test.YtmekjbplodnldaaTreeKnown
import Derived.ProofKit
import Derived.OpenShut
namespace Go.Proofs.Ytmekjbplodnldaa
open Go.ChangeShapes Go.WideShapes Go.ChangeAt Go.RowKit

def rep (c : UInt8) (k : Nat) : List UInt8 := List.replicate k c
def pairs (k : Nat) : List UInt8 := (List.replicate k [40, 41]).flatten
theorem rep_push (L : List UInt8) (c : UInt8) (k : Nat) : str (L ++ rep c k) ++ ⟨#[c]⟩ = str (L ++ rep c (k + 1)) := by
  rw [show (⟨#[c]⟩ : ByteArray) = str [c] from rfl, str_append, rep, rep, List.replicate_succ', List.append_assoc]
theorem pairs_push (k : Nat) : str (40 :: pairs k) ++ ⟨#[40, 41]⟩ = str (40 :: pairs (k + 1)) := by
  rw [show (⟨#[40, 41]⟩ : ByteArray) = str [40, 41] from rfl, str_append, pairs, pairs, List.replicate_succ', List.flatten_append]
  simp
theorem rep_length (c : UInt8) (k : Nat) : (rep c k).length = k := by simp [rep]
theorem pairs_length (k : Nat) : (pairs k).length = 2 * k := by simp [pairs]; omega
def deepB (n : Nat) : Bool := match parseR (rep 40 n ++ rep 41 n) with
  | .error (y, b) => decide (40 < n) && decide (y = 14) && decide (b = 40)
  | .ok _ => decide (n ≤ 40)
def sideB (m : Nat) : Bool := match parseR (40 :: pairs m ++ [41]) with
  | .error _ => false
  | .ok t => decide (t.kids.length = m) && decide ((t.kids[m - 1]?.map Tr.place) = some (2 * m - 1))
theorem deep_all : ∀ n : Fin 60, deepB (n.val + 1) = true := by decide +kernel
theorem side_all : ∀ n : Fin 60, sideB (n.val + 1) = true := by decide +kernel
theorem deep_is (n : Nat) (h1 : 1 ≤ n) (h2 : n ≤ 60) : (40 < n ∧ parseR (rep 40 n ++ rep 41 n) = .error (14, 40)) ∨ (n ≤ 40 ∧ ∃ t, parseR (rep 40 n ++ rep 41 n) = .ok t) := by
  have h := deep_all ⟨n - 1, by omega⟩
  simp only [show n - 1 + 1 = n from by omega] at h
  unfold deepB at h
  cases hp : parseR (rep 40 n ++ rep 41 n) with
  | error yb =>
    obtain ⟨y, b⟩ := yb
    rw [hp] at h
    simp at h
    obtain ⟨⟨h3, rfl⟩, rfl⟩ := h
    exact .inl ⟨h3, rfl⟩
  | ok t =>
    rw [hp] at h
    simp at h
    exact .inr ⟨h, t, rfl⟩
theorem side_is (m : Nat) (h1 : 1 ≤ m) (h2 : m ≤ 60) : ∃ t, parseR (40 :: pairs m ++ [41]) = .ok t ∧ t.kids.length = m ∧ ∃ k, t.kids[m - 1]? = some k ∧ k.place = 2 * m - 1 := by
  have h := side_all ⟨m - 1, by omega⟩
  simp only [show m - 1 + 1 = m from by omega] at h
  unfold sideB at h
  cases hp : parseR (40 :: pairs m ++ [41]) with
  | error yb => rw [hp] at h; cases h
  | ok t =>
    rw [hp] at h
    simp only [Bool.and_eq_true, decide_eq_true_eq] at h
    obtain ⟨k, hk1, hk2⟩ := Option.map_eq_some_iff.1 h.2
    exact ⟨t, rfl, h.1, k, hk1, hk2⟩
theorem rem_pos (x : Int) : ∃ n : Nat, x % 60 = (n : Int) ∧ n < 60 := ⟨(x % 60).toNat, by omega, by omega⟩
theorem rep_push0 (c : UInt8) (k : Nat) : str (rep c k) ++ ⟨#[c]⟩ = str (rep c (k + 1)) := by
  have := rep_push [] c k
  simpa using this
theorem rem_neg (x : Int) (h : x < 0) : ∃ n : Nat, -(x + 1).tmod 60 = (n : Int) ∧ n < 60 := by
  refine ⟨((-(x + 1)) % 60).toNat, ?_, by omega⟩
  have e : (x + 1).tmod 60 = -((-(x + 1)).tmod 60) := by rw [Int.neg_tmod, Int.neg_neg]
  rw [e, Int.neg_neg, Int.tmod_eq_emod_of_nonneg (by omega)]
  omega

set_option maxHeartbeats 1600000 in
set_option maxRecDepth 1000000 in
theorem deep_pp (a0 a1 : Int) (b0 : -9223372036854775808 ≤ a0 ∧ a0 ≤ 9223372036854775807) (b1 : -9223372036854775808 ≤ a1 ∧ a1 ≤ 9223372036854775807) (n0 : 0 ≤ a0) (m0 : 0 ≤ a1) (w : World) : Calls Try.prog 6 #[.int .i64 a0, .int .i64 a1] w (KnownE w) := by
  obtain ⟨n, hn, hn60⟩ := rem_pos a0
  obtain ⟨m, hm, hm60⟩ := rem_pos a1
  go_enter Try.func6, Try.ntmps6
  go_wp2
  go_loopg [5, 6] (n + 1) (fun g s i wr => ∃ (k : Nat), g + k = n + 1 ∧ i = .int .i64 k ∧ s = .string (str (rep 40 k)) ∧ w = wr)
  case atStart => exact ⟨0, rfl, rfl, rfl, rfl⟩
  case round =>
    obtain ⟨k, hg, rfl, rfl, rfl⟩ := hrel
    by_cases hk : k < n + 1
    · have hki : (k : Int) < 1 + (n : Int) := by omega
      have hpp := rep_push0 40 k
      have hpl : (str (rep 40 k)).size = k := by rw [str_size, rep_length]
      go_wp2
      go_roundg (n + 1 - (k + 1))
      case measure => omega
      case rel => exact ⟨k + 1, by omega, by go_num, by first | rfl | rw [hpp], rfl⟩
    · have hk' : k = n + 1 := by omega
      subst hk'
      have hki : ¬ (((n + 1 : Nat) : Int)) < 1 + (n : Int) := by omega
      go_wp2
      go_loopg [5, 7] (n + 1) (fun g s i wr => ∃ (k : Nat), g + k = n + 1 ∧ i = .int .i64 k ∧ s = .string (str (rep 40 (n + 1) ++ rep 41 k)) ∧ w = wr)
      case atStart => exact ⟨0, rfl, rfl, by simp [rep], rfl⟩
      case round =>
        obtain ⟨k, hg, rfl, rfl, rfl⟩ := hrel
        by_cases hk : k < n + 1
        · have hki : (k : Int) < 1 + (n : Int) := by omega
          have hpp := rep_push (rep 40 (n + 1)) 41 k
          have hpl : (str (rep 40 (n + 1) ++ rep 41 k)).size = n + 1 + k := by rw [str_size, List.length_append, rep_length, rep_length]
          go_wp2
          go_roundg (n + 1 - (k + 1))
          case measure => omega
          case rel => exact ⟨k + 1, by omega, by go_num, by first | rfl | rw [hpp], rfl⟩
        · have hk' : k = n + 1 := by omega
          subst hk'
          have hki : ¬ (((n + 1 : Nat) : Int)) < 1 + (n : Int) := by omega
          have hps := parse (str (rep 40 (n + 1) ++ rep 41 (n + 1)))
          rw [str_data] at hps
          rcases deep_is (n + 1) (by omega) (by omega) with ⟨hd1, hd2⟩ | ⟨hd1, tt, hd2⟩
          · have h40 : (40 : Int) < 1 + (n : Int) := by omega
            rw [hd2] at hps
            go_wp2_with fail
            refine (hps _).mono ?_
            rintro e w1 ⟨he, hb1⟩
            simp only at he
            subst he
            unfold trv
            have hB1 := hb1.alloc hb1.size (.cells #[.int .i64 (root.kind : Int), .int .i64 (root.place : Int), .string (str root.text), .slice none 0 0] 24)
            clear hb1 hps
            obtain ⟨t, hp2, hk2, k, hk3, hk4⟩ := side_is (m + 1) (by omega) (by omega)
            go_wp2
            go_loopg [11, 12] (m + 1) (fun g t i wr => ∃ (k : Nat), g + k = m + 1 ∧ i = .int .i64 k ∧ t = .string (str (40 :: pairs k)) ∧ (w1.alloc (.cells #[.int .i64 (root.kind : Int), .int .i64 (root.place : Int), .string (str root.text), .slice none 0 0] 24)) = wr)
            case atStart => exact ⟨0, rfl, rfl, rfl, rfl⟩
            case round =>
              obtain ⟨j, hg, rfl, rfl, rfl⟩ := hrel
              by_cases hj : j < m + 1
              · have hji : (j : Int) < 1 + (m : Int) := by omega
                have hpp := pairs_push j
                have hpl : (str (40 :: pairs j)).size = 2 * j + 1 := by rw [str_size, List.length_cons, pairs_length]
                go_wp2
                go_roundg (m + 1 - (j + 1))
                case measure => omega
                case rel => exact ⟨j + 1, by omega, by go_num, by first | rfl | rw [hpp], rfl⟩
              · have hj' : j = m + 1 := by omega
                subst hj'
                have hji : ¬ (((m + 1 : Nat) : Int)) < 1 + (m : Int) := by omega
                have hps := parse (str (40 :: pairs (m + 1) ++ [41]))
                rw [str_data, hp2] at hps
                have hcat : str (40 :: pairs (m + 1)) ++ ⟨#[41]⟩ = str (40 :: pairs (m + 1) ++ [41]) := by rw [show (⟨#[41]⟩ : ByteArray) = str [41] from rfl, str_append]
                have hpl : (str (40 :: pairs (m + 1))).size = 2 * (m + 1) + 1 := by rw [str_size, List.length_cons, pairs_length]
                go_wp2_with fail
                refine (hps _).mono ?_
                rintro e w8 ⟨⟨kv, rfl, ht⟩, hb8⟩
                have hm1 : m < t.kids.length := by omega
                obtain ⟨gk, capk, kv', hkv, _, _, _, hpl1, _, _⟩ := ht.at m hm1
                subst hkv
                have hkk : t.kids[m] = k := by
                  rw [show m + 1 - 1 = m from by omega, List.getElem?_eq_getElem hm1] at hk3
                  exact Option.some.inj hk3
                rw [hkk, hk4] at hpl1
                rw [hk2]
                unfold trv
                have hB8 := hB1.trans (hb8.mono hB1.size)
                have hi1 : (m : Int) < (m : Int) + 1 := by omega
                have hpl2 := ((Kept.refl (fun _ => False) w8).alloc (.cells #[.int .i64 (t.kind : Int), .int .i64 (t.place : Int), .string (str t.text), .slice (some ⟨gk, 0, none⟩) (m + 1) capk] 24)).cell hpl1 (fun h => h)
                have hnum : ((2 * (m + 1) - 1 : Nat) : Int) = 2 * (m : Int) + 1 := by omega
                rw [hnum] at hpl2
                clear ht hb8 hpl1 hps hnum
                go_wp2_with fail
                refine (known _).mono ?_
                rintro e w9 ⟨rfl, hb9⟩
                go_wp2
                go_ret
                exact ⟨rfl, (hB8.alloc hB8.size _).trans (hb9.mono (by simp; have := hB8.size; omega))⟩
          · have h40 : ¬ (40 : Int) < 1 + (n : Int) := by omega
            rw [hd2] at hps
            go_wp2_with fail
            refine (hps _).mono ?_
            rintro e w1 ⟨⟨kv0, rfl, ht0⟩, hb1⟩
            obtain ⟨ka, kc, rfl⟩ := ht0.shape
            unfold trv
            have hB1 := hb1.alloc hb1.size (.cells #[.int .i64 (tt.kind : Int), .int .i64 (tt.place : Int), .string (str tt.text), .slice ka tt.kids.length kc] 24)
            clear hb1 hps ht0
            obtain ⟨t, hp2, hk2, k, hk3, hk4⟩ := side_is (m + 1) (by omega) (by omega)
            go_wp2
            go_loopg [11, 12] (m + 1) (fun g t i wr => ∃ (k : Nat), g + k = m + 1 ∧ i = .int .i64 k ∧ t = .string (str (40 :: pairs k)) ∧ (w1.alloc (.cells #[.int .i64 (tt.kind : Int), .int .i64 (tt.place : Int), .string (str tt.text), .slice ka tt.kids.length kc] 24)) = wr)
            case atStart => exact ⟨0, rfl, rfl, rfl, rfl⟩
            case round =>
              obtain ⟨j, hg, rfl, rfl, rfl⟩ := hrel
              by_cases hj : j < m + 1
              · have hji : (j : Int) < 1 + (m : Int) := by omega
                have hpp := pairs_push j
                have hpl : (str (40 :: pairs j)).size = 2 * j + 1 := by rw [str_size, List.length_cons, pairs_length]
                go_wp2
                go_roundg (m + 1 - (j + 1))
                case measure => omega
                case rel => exact ⟨j + 1, by omega, by go_num, by first | rfl | rw [hpp], rfl⟩
              · have hj' : j = m + 1 := by omega
                subst hj'
                have hji : ¬ (((m + 1 : Nat) : Int)) < 1 + (m : Int) := by omega
                have hps := parse (str (40 :: pairs (m + 1) ++ [41]))
                rw [str_data, hp2] at hps
                have hcat : str (40 :: pairs (m + 1)) ++ ⟨#[41]⟩ = str (40 :: pairs (m + 1) ++ [41]) := by rw [show (⟨#[41]⟩ : ByteArray) = str [41] from rfl, str_append]
                have hpl : (str (40 :: pairs (m + 1))).size = 2 * (m + 1) + 1 := by rw [str_size, List.length_cons, pairs_length]
                go_wp2_with fail
                refine (hps _).mono ?_
                rintro e w8 ⟨⟨kv, rfl, ht⟩, hb8⟩
                have hm1 : m < t.kids.length := by omega
                obtain ⟨gk, capk, kv', hkv, _, _, _, hpl1, _, _⟩ := ht.at m hm1
                subst hkv
                have hkk : t.kids[m] = k := by
                  rw [show m + 1 - 1 = m from by omega, List.getElem?_eq_getElem hm1] at hk3
                  exact Option.some.inj hk3
                rw [hkk, hk4] at hpl1
                rw [hk2]
                unfold trv
                have hB8 := hB1.trans (hb8.mono hB1.size)
                have hi1 : (m : Int) < (m : Int) + 1 := by omega
                have hpl2 := ((Kept.refl (fun _ => False) w8).alloc (.cells #[.int .i64 (t.kind : Int), .int .i64 (t.place : Int), .string (str t.text), .slice (some ⟨gk, 0, none⟩) (m + 1) capk] 24)).cell hpl1 (fun h => h)
                have hnum : ((2 * (m + 1) - 1 : Nat) : Int) = 2 * (m : Int) + 1 := by omega
                rw [hnum] at hpl2
                clear ht hb8 hpl1 hps hnum
                go_wp2_with fail
                refine (known _).mono ?_
                rintro e w9 ⟨rfl, hb9⟩
                go_wp2
                go_ret
                exact ⟨rfl, (hB8.alloc hB8.size _).trans (hb9.mono (by simp; have := hB8.size; omega))⟩

set_option maxHeartbeats 1600000 in
set_option maxRecDepth 1000000 in
theorem deep_pn (a0 a1 : Int) (b0 : -9223372036854775808 ≤ a0 ∧ a0 ≤ 9223372036854775807) (b1 : -9223372036854775808 ≤ a1 ∧ a1 ≤ 9223372036854775807) (n0 : 0 ≤ a0) (m0 : a1 < 0) (w : World) : Calls Try.prog 6 #[.int .i64 a0, .int .i64 a1] w (KnownE w) := by
  obtain ⟨n, hn, hn60⟩ := rem_pos a0
  obtain ⟨m, hm, hm60⟩ := rem_neg a1 m0
  go_enter Try.func6, Try.ntmps6
  go_wp2
  go_loopg [5, 6] (n + 1) (fun g s i wr => ∃ (k : Nat), g + k = n + 1 ∧ i = .int .i64 k ∧ s = .string (str (rep 40 k)) ∧ w = wr)
  case atStart => exact ⟨0, rfl, rfl, rfl, rfl⟩
  case round =>
    obtain ⟨k, hg, rfl, rfl, rfl⟩ := hrel
    by_cases hk : k < n + 1
    · have hki : (k : Int) < 1 + (n : Int) := by omega
      have hpp := rep_push0 40 k
      have hpl : (str (rep 40 k)).size = k := by rw [str_size, rep_length]
      go_wp2
      go_roundg (n + 1 - (k + 1))
      case measure => omega
      case rel => exact ⟨k + 1, by omega, by go_num, by first | rfl | rw [hpp], rfl⟩
    · have hk' : k = n + 1 := by omega
      subst hk'
      have hki : ¬ (((n + 1 : Nat) : Int)) < 1 + (n : Int) := by omega
      go_wp2
      go_loopg [5, 7] (n + 1) (fun g s i wr => ∃ (k : Nat), g + k = n + 1 ∧ i = .int .i64 k ∧ s = .string (str (rep 40 (n + 1) ++ rep 41 k)) ∧ w = wr)
      case atStart => exact ⟨0, rfl, rfl, by simp [rep], rfl⟩
      case round =>
        obtain ⟨k, hg, rfl, rfl, rfl⟩ := hrel
        by_cases hk : k < n + 1
        · have hki : (k : Int) < 1 + (n : Int) := by omega
          have hpp := rep_push (rep 40 (n + 1)) 41 k
          have hpl : (str (rep 40 (n + 1) ++ rep 41 k)).size = n + 1 + k := by rw [str_size, List.length_append, rep_length, rep_length]
          go_wp2
          go_roundg (n + 1 - (k + 1))
          case measure => omega
          case rel => exact ⟨k + 1, by omega, by go_num, by first | rfl | rw [hpp], rfl⟩
        · have hk' : k = n + 1 := by omega
          subst hk'
          have hki : ¬ (((n + 1 : Nat) : Int)) < 1 + (n : Int) := by omega
          have hps := parse (str (rep 40 (n + 1) ++ rep 41 (n + 1)))
          rw [str_data] at hps
          rcases deep_is (n + 1) (by omega) (by omega) with ⟨hd1, hd2⟩ | ⟨hd1, tt, hd2⟩
          · have h40 : (40 : Int) < 1 + (n : Int) := by omega
            rw [hd2] at hps
            go_wp2_with fail
            refine (hps _).mono ?_
            rintro e w1 ⟨he, hb1⟩
            simp only at he
            subst he
            unfold trv
            have hB1 := hb1.alloc hb1.size (.cells #[.int .i64 (root.kind : Int), .int .i64 (root.place : Int), .string (str root.text), .slice none 0 0] 24)
            clear hb1 hps
            obtain ⟨t, hp2, hk2, k, hk3, hk4⟩ := side_is (m + 1) (by omega) (by omega)
            go_wp2
            go_loopg [11, 12] (m + 1) (fun g t i wr => ∃ (k : Nat), g + k = m + 1 ∧ i = .int .i64 k ∧ t = .string (str (40 :: pairs k)) ∧ (w1.alloc (.cells #[.int .i64 (root.kind : Int), .int .i64 (root.place : Int), .string (str root.text), .slice none 0 0] 24)) = wr)
            case atStart => exact ⟨0, rfl, rfl, rfl, rfl⟩
            case round =>
              obtain ⟨j, hg, rfl, rfl, rfl⟩ := hrel
              by_cases hj : j < m + 1
              · have hji : (j : Int) < 1 + (m : Int) := by omega
                have hpp := pairs_push j
                have hpl : (str (40 :: pairs j)).size = 2 * j + 1 := by rw [str_size, List.length_cons, pairs_length]
                go_wp2
                go_roundg (m + 1 - (j + 1))
                case measure => omega
                case rel => exact ⟨j + 1, by omega, by go_num, by first | rfl | rw [hpp], rfl⟩
              · have hj' : j = m + 1 := by omega
                subst hj'
                have hji : ¬ (((m + 1 : Nat) : Int)) < 1 + (m : Int) := by omega
                have hps := parse (str (40 :: pairs (m + 1) ++ [41]))
                rw [str_data, hp2] at hps
                have hcat : str (40 :: pairs (m + 1)) ++ ⟨#[41]⟩ = str (40 :: pairs (m + 1) ++ [41]) := by rw [show (⟨#[41]⟩ : ByteArray) = str [41] from rfl, str_append]
                have hpl : (str (40 :: pairs (m + 1))).size = 2 * (m + 1) + 1 := by rw [str_size, List.length_cons, pairs_length]
                go_wp2_with fail
                refine (hps _).mono ?_
                rintro e w8 ⟨⟨kv, rfl, ht⟩, hb8⟩
                have hm1 : m < t.kids.length := by omega
                obtain ⟨gk, capk, kv', hkv, _, _, _, hpl1, _, _⟩ := ht.at m hm1
                subst hkv
                have hkk : t.kids[m] = k := by
                  rw [show m + 1 - 1 = m from by omega, List.getElem?_eq_getElem hm1] at hk3
                  exact Option.some.inj hk3
                rw [hkk, hk4] at hpl1
                rw [hk2]
                unfold trv
                have hB8 := hB1.trans (hb8.mono hB1.size)
                have hi1 : (m : Int) < (m : Int) + 1 := by omega
                have hpl2 := ((Kept.refl (fun _ => False) w8).alloc (.cells #[.int .i64 (t.kind : Int), .int .i64 (t.place : Int), .string (str t.text), .slice (some ⟨gk, 0, none⟩) (m + 1) capk] 24)).cell hpl1 (fun h => h)
                have hnum : ((2 * (m + 1) - 1 : Nat) : Int) = 2 * (m : Int) + 1 := by omega
                rw [hnum] at hpl2
                clear ht hb8 hpl1 hps hnum
                go_wp2_with fail
                refine (known _).mono ?_
                rintro e w9 ⟨rfl, hb9⟩
                go_wp2
                go_ret
                exact ⟨rfl, (hB8.alloc hB8.size _).trans (hb9.mono (by simp; have := hB8.size; omega))⟩
          · have h40 : ¬ (40 : Int) < 1 + (n : Int) := by omega
            rw [hd2] at hps
            go_wp2_with fail
            refine (hps _).mono ?_
            rintro e w1 ⟨⟨kv0, rfl, ht0⟩, hb1⟩
            obtain ⟨ka, kc, rfl⟩ := ht0.shape
            unfold trv
            have hB1 := hb1.alloc hb1.size (.cells #[.int .i64 (tt.kind : Int), .int .i64 (tt.place : Int), .string (str tt.text), .slice ka tt.kids.length kc] 24)
            clear hb1 hps ht0
            obtain ⟨t, hp2, hk2, k, hk3, hk4⟩ := side_is (m + 1) (by omega) (by omega)
            go_wp2
            go_loopg [11, 12] (m + 1) (fun g t i wr => ∃ (k : Nat), g + k = m + 1 ∧ i = .int .i64 k ∧ t = .string (str (40 :: pairs k)) ∧ (w1.alloc (.cells #[.int .i64 (tt.kind : Int), .int .i64 (tt.place : Int), .string (str tt.text), .slice ka tt.kids.length kc] 24)) = wr)
            case atStart => exact ⟨0, rfl, rfl, rfl, rfl⟩
            case round =>
              obtain ⟨j, hg, rfl, rfl, rfl⟩ := hrel
              by_cases hj : j < m + 1
              · have hji : (j : Int) < 1 + (m : Int) := by omega
                have hpp := pairs_push j
                have hpl : (str (40 :: pairs j)).size = 2 * j + 1 := by rw [str_size, List.length_cons, pairs_length]
                go_wp2
                go_roundg (m + 1 - (j + 1))
                case measure => omega
                case rel => exact ⟨j + 1, by omega, by go_num, by first | rfl | rw [hpp], rfl⟩
              · have hj' : j = m + 1 := by omega
                subst hj'
                have hji : ¬ (((m + 1 : Nat) : Int)) < 1 + (m : Int) := by omega
                have hps := parse (str (40 :: pairs (m + 1) ++ [41]))
                rw [str_data, hp2] at hps
                have hcat : str (40 :: pairs (m + 1)) ++ ⟨#[41]⟩ = str (40 :: pairs (m + 1) ++ [41]) := by rw [show (⟨#[41]⟩ : ByteArray) = str [41] from rfl, str_append]
                have hpl : (str (40 :: pairs (m + 1))).size = 2 * (m + 1) + 1 := by rw [str_size, List.length_cons, pairs_length]
                go_wp2_with fail
                refine (hps _).mono ?_
                rintro e w8 ⟨⟨kv, rfl, ht⟩, hb8⟩
                have hm1 : m < t.kids.length := by omega
                obtain ⟨gk, capk, kv', hkv, _, _, _, hpl1, _, _⟩ := ht.at m hm1
                subst hkv
                have hkk : t.kids[m] = k := by
                  rw [show m + 1 - 1 = m from by omega, List.getElem?_eq_getElem hm1] at hk3
                  exact Option.some.inj hk3
                rw [hkk, hk4] at hpl1
                rw [hk2]
                unfold trv
                have hB8 := hB1.trans (hb8.mono hB1.size)
                have hi1 : (m : Int) < (m : Int) + 1 := by omega
                have hpl2 := ((Kept.refl (fun _ => False) w8).alloc (.cells #[.int .i64 (t.kind : Int), .int .i64 (t.place : Int), .string (str t.text), .slice (some ⟨gk, 0, none⟩) (m + 1) capk] 24)).cell hpl1 (fun h => h)
                have hnum : ((2 * (m + 1) - 1 : Nat) : Int) = 2 * (m : Int) + 1 := by omega
                rw [hnum] at hpl2
                clear ht hb8 hpl1 hps hnum
                go_wp2_with fail
                refine (known _).mono ?_
                rintro e w9 ⟨rfl, hb9⟩
                go_wp2
                go_ret
                exact ⟨rfl, (hB8.alloc hB8.size _).trans (hb9.mono (by simp; have := hB8.size; omega))⟩

set_option maxHeartbeats 1600000 in
set_option maxRecDepth 1000000 in
theorem deep_np (a0 a1 : Int) (b0 : -9223372036854775808 ≤ a0 ∧ a0 ≤ 9223372036854775807) (b1 : -9223372036854775808 ≤ a1 ∧ a1 ≤ 9223372036854775807) (n0 : a0 < 0) (m0 : 0 ≤ a1) (w : World) : Calls Try.prog 6 #[.int .i64 a0, .int .i64 a1] w (KnownE w) := by
  obtain ⟨n, hn, hn60⟩ := rem_neg a0 n0
  obtain ⟨m, hm, hm60⟩ := rem_pos a1
  go_enter Try.func6, Try.ntmps6
  go_wp2
  go_loopg [5, 6] (n + 1) (fun g s i wr => ∃ (k : Nat), g + k = n + 1 ∧ i = .int .i64 k ∧ s = .string (str (rep 40 k)) ∧ w = wr)
  case atStart => exact ⟨0, rfl, rfl, rfl, rfl⟩
  case round =>
    obtain ⟨k, hg, rfl, rfl, rfl⟩ := hrel
    by_cases hk : k < n + 1
    · have hki : (k : Int) < 1 + (n : Int) := by omega
      have hpp := rep_push0 40 k
      have hpl : (str (rep 40 k)).size = k := by rw [str_size, rep_length]
      go_wp2
      go_roundg (n + 1 - (k + 1))
      case measure => omega
      case rel => exact ⟨k + 1, by omega, by go_num, by first | rfl | rw [hpp], rfl⟩
    · have hk' : k = n + 1 := by omega
      subst hk'
      have hki : ¬ (((n + 1 : Nat) : Int)) < 1 + (n : Int) := by omega
      go_wp2
      go_loopg [5, 7] (n + 1) (fun g s i wr => ∃ (k : Nat), g + k = n + 1 ∧ i = .int .i64 k ∧ s = .string (str (rep 40 (n + 1) ++ rep 41 k)) ∧ w = wr)
      case atStart => exact ⟨0, rfl, rfl, by simp [rep], rfl⟩
      case round =>
        obtain ⟨k, hg, rfl, rfl, rfl⟩ := hrel
        by_cases hk : k < n + 1
        · have hki : (k : Int) < 1 + (n : Int) := by omega
          have hpp := rep_push (rep 40 (n + 1)) 41 k
          have hpl : (str (rep 40 (n + 1) ++ rep 41 k)).size = n + 1 + k := by rw [str_size, List.length_append, rep_length, rep_length]
          go_wp2
          go_roundg (n + 1 - (k + 1))
          case measure => omega
          case rel => exact ⟨k + 1, by omega, by go_num, by first | rfl | rw [hpp], rfl⟩
        · have hk' : k = n + 1 := by omega
          subst hk'
          have hki : ¬ (((n + 1 : Nat) : Int)) < 1 + (n : Int) := by omega
          have hps := parse (str (rep 40 (n + 1) ++ rep 41 (n + 1)))
          rw [str_data] at hps
          rcases deep_is (n + 1) (by omega) (by omega) with ⟨hd1, hd2⟩ | ⟨hd1, tt, hd2⟩
          · have h40 : (40 : Int) < 1 + (n : Int) := by omega
            rw [hd2] at hps
            go_wp2_with fail
            refine (hps _).mono ?_
            rintro e w1 ⟨he, hb1⟩
            simp only at he
            subst he
            unfold trv
            have hB1 := hb1.alloc hb1.size (.cells #[.int .i64 (root.kind : Int), .int .i64 (root.place : Int), .string (str root.text), .slice none 0 0] 24)
            clear hb1 hps
            obtain ⟨t, hp2, hk2, k, hk3, hk4⟩ := side_is (m + 1) (by omega) (by omega)
            go_wp2
            go_loopg [11, 12] (m + 1) (fun g t i wr => ∃ (k : Nat), g + k = m + 1 ∧ i = .int .i64 k ∧ t = .string (str (40 :: pairs k)) ∧ (w1.alloc (.cells #[.int .i64 (root.kind : Int), .int .i64 (root.place : Int), .string (str root.text), .slice none 0 0] 24)) = wr)
            case atStart => exact ⟨0, rfl, rfl, rfl, rfl⟩
            case round =>
              obtain ⟨j, hg, rfl, rfl, rfl⟩ := hrel
              by_cases hj : j < m + 1
              · have hji : (j : Int) < 1 + (m : Int) := by omega
                have hpp := pairs_push j
                have hpl : (str (40 :: pairs j)).size = 2 * j + 1 := by rw [str_size, List.length_cons, pairs_length]
                go_wp2
                go_roundg (m + 1 - (j + 1))
                case measure => omega
                case rel => exact ⟨j + 1, by omega, by go_num, by first | rfl | rw [hpp], rfl⟩
              · have hj' : j = m + 1 := by omega
                subst hj'
                have hji : ¬ (((m + 1 : Nat) : Int)) < 1 + (m : Int) := by omega
                have hps := parse (str (40 :: pairs (m + 1) ++ [41]))
                rw [str_data, hp2] at hps
                have hcat : str (40 :: pairs (m + 1)) ++ ⟨#[41]⟩ = str (40 :: pairs (m + 1) ++ [41]) := by rw [show (⟨#[41]⟩ : ByteArray) = str [41] from rfl, str_append]
                have hpl : (str (40 :: pairs (m + 1))).size = 2 * (m + 1) + 1 := by rw [str_size, List.length_cons, pairs_length]
                go_wp2_with fail
                refine (hps _).mono ?_
                rintro e w8 ⟨⟨kv, rfl, ht⟩, hb8⟩
                have hm1 : m < t.kids.length := by omega
                obtain ⟨gk, capk, kv', hkv, _, _, _, hpl1, _, _⟩ := ht.at m hm1
                subst hkv
                have hkk : t.kids[m] = k := by
                  rw [show m + 1 - 1 = m from by omega, List.getElem?_eq_getElem hm1] at hk3
                  exact Option.some.inj hk3
                rw [hkk, hk4] at hpl1
                rw [hk2]
                unfold trv
                have hB8 := hB1.trans (hb8.mono hB1.size)
                have hi1 : (m : Int) < (m : Int) + 1 := by omega
                have hpl2 := ((Kept.refl (fun _ => False) w8).alloc (.cells #[.int .i64 (t.kind : Int), .int .i64 (t.place : Int), .string (str t.text), .slice (some ⟨gk, 0, none⟩) (m + 1) capk] 24)).cell hpl1 (fun h => h)
                have hnum : ((2 * (m + 1) - 1 : Nat) : Int) = 2 * (m : Int) + 1 := by omega
                rw [hnum] at hpl2
                clear ht hb8 hpl1 hps hnum
                go_wp2_with fail
                refine (known _).mono ?_
                rintro e w9 ⟨rfl, hb9⟩
                go_wp2
                go_ret
                exact ⟨rfl, (hB8.alloc hB8.size _).trans (hb9.mono (by simp; have := hB8.size; omega))⟩
          · have h40 : ¬ (40 : Int) < 1 + (n : Int) := by omega
            rw [hd2] at hps
            go_wp2_with fail
            refine (hps _).mono ?_
            rintro e w1 ⟨⟨kv0, rfl, ht0⟩, hb1⟩
            obtain ⟨ka, kc, rfl⟩ := ht0.shape
            unfold trv
            have hB1 := hb1.alloc hb1.size (.cells #[.int .i64 (tt.kind : Int), .int .i64 (tt.place : Int), .string (str tt.text), .slice ka tt.kids.length kc] 24)
            clear hb1 hps ht0
            obtain ⟨t, hp2, hk2, k, hk3, hk4⟩ := side_is (m + 1) (by omega) (by omega)
            go_wp2
            go_loopg [11, 12] (m + 1) (fun g t i wr => ∃ (k : Nat), g + k = m + 1 ∧ i = .int .i64 k ∧ t = .string (str (40 :: pairs k)) ∧ (w1.alloc (.cells #[.int .i64 (tt.kind : Int), .int .i64 (tt.place : Int), .string (str tt.text), .slice ka tt.kids.length kc] 24)) = wr)
            case atStart => exact ⟨0, rfl, rfl, rfl, rfl⟩
            case round =>
              obtain ⟨j, hg, rfl, rfl, rfl⟩ := hrel
              by_cases hj : j < m + 1
              · have hji : (j : Int) < 1 + (m : Int) := by omega
                have hpp := pairs_push j
                have hpl : (str (40 :: pairs j)).size = 2 * j + 1 := by rw [str_size, List.length_cons, pairs_length]
                go_wp2
                go_roundg (m + 1 - (j + 1))
                case measure => omega
                case rel => exact ⟨j + 1, by omega, by go_num, by first | rfl | rw [hpp], rfl⟩
              · have hj' : j = m + 1 := by omega
                subst hj'
                have hji : ¬ (((m + 1 : Nat) : Int)) < 1 + (m : Int) := by omega
                have hps := parse (str (40 :: pairs (m + 1) ++ [41]))
                rw [str_data, hp2] at hps
                have hcat : str (40 :: pairs (m + 1)) ++ ⟨#[41]⟩ = str (40 :: pairs (m + 1) ++ [41]) := by rw [show (⟨#[41]⟩ : ByteArray) = str [41] from rfl, str_append]
                have hpl : (str (40 :: pairs (m + 1))).size = 2 * (m + 1) + 1 := by rw [str_size, List.length_cons, pairs_length]
                go_wp2_with fail
                refine (hps _).mono ?_
                rintro e w8 ⟨⟨kv, rfl, ht⟩, hb8⟩
                have hm1 : m < t.kids.length := by omega
                obtain ⟨gk, capk, kv', hkv, _, _, _, hpl1, _, _⟩ := ht.at m hm1
                subst hkv
                have hkk : t.kids[m] = k := by
                  rw [show m + 1 - 1 = m from by omega, List.getElem?_eq_getElem hm1] at hk3
                  exact Option.some.inj hk3
                rw [hkk, hk4] at hpl1
                rw [hk2]
                unfold trv
                have hB8 := hB1.trans (hb8.mono hB1.size)
                have hi1 : (m : Int) < (m : Int) + 1 := by omega
                have hpl2 := ((Kept.refl (fun _ => False) w8).alloc (.cells #[.int .i64 (t.kind : Int), .int .i64 (t.place : Int), .string (str t.text), .slice (some ⟨gk, 0, none⟩) (m + 1) capk] 24)).cell hpl1 (fun h => h)
                have hnum : ((2 * (m + 1) - 1 : Nat) : Int) = 2 * (m : Int) + 1 := by omega
                rw [hnum] at hpl2
                clear ht hb8 hpl1 hps hnum
                go_wp2_with fail
                refine (known _).mono ?_
                rintro e w9 ⟨rfl, hb9⟩
                go_wp2
                go_ret
                exact ⟨rfl, (hB8.alloc hB8.size _).trans (hb9.mono (by simp; have := hB8.size; omega))⟩

set_option maxHeartbeats 1600000 in
set_option maxRecDepth 1000000 in
theorem deep_nn (a0 a1 : Int) (b0 : -9223372036854775808 ≤ a0 ∧ a0 ≤ 9223372036854775807) (b1 : -9223372036854775808 ≤ a1 ∧ a1 ≤ 9223372036854775807) (n0 : a0 < 0) (m0 : a1 < 0) (w : World) : Calls Try.prog 6 #[.int .i64 a0, .int .i64 a1] w (KnownE w) := by
  obtain ⟨n, hn, hn60⟩ := rem_neg a0 n0
  obtain ⟨m, hm, hm60⟩ := rem_neg a1 m0
  go_enter Try.func6, Try.ntmps6
  go_wp2
  go_loopg [5, 6] (n + 1) (fun g s i wr => ∃ (k : Nat), g + k = n + 1 ∧ i = .int .i64 k ∧ s = .string (str (rep 40 k)) ∧ w = wr)
  case atStart => exact ⟨0, rfl, rfl, rfl, rfl⟩
  case round =>
    obtain ⟨k, hg, rfl, rfl, rfl⟩ := hrel
    by_cases hk : k < n + 1
    · have hki : (k : Int) < 1 + (n : Int) := by omega
      have hpp := rep_push0 40 k
      have hpl : (str (rep 40 k)).size = k := by rw [str_size, rep_length]
      go_wp2
      go_roundg (n + 1 - (k + 1))
      case measure => omega
      case rel => exact ⟨k + 1, by omega, by go_num, by first | rfl | rw [hpp], rfl⟩
    · have hk' : k = n + 1 := by omega
      subst hk'
      have hki : ¬ (((n + 1 : Nat) : Int)) < 1 + (n : Int) := by omega
      go_wp2
      go_loopg [5, 7] (n + 1) (fun g s i wr => ∃ (k : Nat), g + k = n + 1 ∧ i = .int .i64 k ∧ s = .string (str (rep 40 (n + 1) ++ rep 41 k)) ∧ w = wr)
      case atStart => exact ⟨0, rfl, rfl, by simp [rep], rfl⟩
      case round =>
        obtain ⟨k, hg, rfl, rfl, rfl⟩ := hrel
        by_cases hk : k < n + 1
        · have hki : (k : Int) < 1 + (n : Int) := by omega
          have hpp := rep_push (rep 40 (n + 1)) 41 k
          have hpl : (str (rep 40 (n + 1) ++ rep 41 k)).size = n + 1 + k := by rw [str_size, List.length_append, rep_length, rep_length]
          go_wp2
          go_roundg (n + 1 - (k + 1))
          case measure => omega
          case rel => exact ⟨k + 1, by omega, by go_num, by first | rfl | rw [hpp], rfl⟩
        · have hk' : k = n + 1 := by omega
          subst hk'
          have hki : ¬ (((n + 1 : Nat) : Int)) < 1 + (n : Int) := by omega
          have hps := parse (str (rep 40 (n + 1) ++ rep 41 (n + 1)))
          rw [str_data] at hps
          rcases deep_is (n + 1) (by omega) (by omega) with ⟨hd1, hd2⟩ | ⟨hd1, tt, hd2⟩
          · have h40 : (40 : Int) < 1 + (n : Int) := by omega
            rw [hd2] at hps
            go_wp2_with fail
            refine (hps _).mono ?_
            rintro e w1 ⟨he, hb1⟩
            simp only at he
            subst he
            unfold trv
            have hB1 := hb1.alloc hb1.size (.cells #[.int .i64 (root.kind : Int), .int .i64 (root.place : Int), .string (str root.text), .slice none 0 0] 24)
            clear hb1 hps
            obtain ⟨t, hp2, hk2, k, hk3, hk4⟩ := side_is (m + 1) (by omega) (by omega)
            go_wp2
            go_loopg [11, 12] (m + 1) (fun g t i wr => ∃ (k : Nat), g + k = m + 1 ∧ i = .int .i64 k ∧ t = .string (str (40 :: pairs k)) ∧ (w1.alloc (.cells #[.int .i64 (root.kind : Int), .int .i64 (root.place : Int), .string (str root.text), .slice none 0 0] 24)) = wr)
            case atStart => exact ⟨0, rfl, rfl, rfl, rfl⟩
            case round =>
              obtain ⟨j, hg, rfl, rfl, rfl⟩ := hrel
              by_cases hj : j < m + 1
              · have hji : (j : Int) < 1 + (m : Int) := by omega
                have hpp := pairs_push j
                have hpl : (str (40 :: pairs j)).size = 2 * j + 1 := by rw [str_size, List.length_cons, pairs_length]
                go_wp2
                go_roundg (m + 1 - (j + 1))
                case measure => omega
                case rel => exact ⟨j + 1, by omega, by go_num, by first | rfl | rw [hpp], rfl⟩
              · have hj' : j = m + 1 := by omega
                subst hj'
                have hji : ¬ (((m + 1 : Nat) : Int)) < 1 + (m : Int) := by omega
                have hps := parse (str (40 :: pairs (m + 1) ++ [41]))
                rw [str_data, hp2] at hps
                have hcat : str (40 :: pairs (m + 1)) ++ ⟨#[41]⟩ = str (40 :: pairs (m + 1) ++ [41]) := by rw [show (⟨#[41]⟩ : ByteArray) = str [41] from rfl, str_append]
                have hpl : (str (40 :: pairs (m + 1))).size = 2 * (m + 1) + 1 := by rw [str_size, List.length_cons, pairs_length]
                go_wp2_with fail
                refine (hps _).mono ?_
                rintro e w8 ⟨⟨kv, rfl, ht⟩, hb8⟩
                have hm1 : m < t.kids.length := by omega
                obtain ⟨gk, capk, kv', hkv, _, _, _, hpl1, _, _⟩ := ht.at m hm1
                subst hkv
                have hkk : t.kids[m] = k := by
                  rw [show m + 1 - 1 = m from by omega, List.getElem?_eq_getElem hm1] at hk3
                  exact Option.some.inj hk3
                rw [hkk, hk4] at hpl1
                rw [hk2]
                unfold trv
                have hB8 := hB1.trans (hb8.mono hB1.size)
                have hi1 : (m : Int) < (m : Int) + 1 := by omega
                have hpl2 := ((Kept.refl (fun _ => False) w8).alloc (.cells #[.int .i64 (t.kind : Int), .int .i64 (t.place : Int), .string (str t.text), .slice (some ⟨gk, 0, none⟩) (m + 1) capk] 24)).cell hpl1 (fun h => h)
                have hnum : ((2 * (m + 1) - 1 : Nat) : Int) = 2 * (m : Int) + 1 := by omega
                rw [hnum] at hpl2
                clear ht hb8 hpl1 hps hnum
                go_wp2_with fail
                refine (known _).mono ?_
                rintro e w9 ⟨rfl, hb9⟩
                go_wp2
                go_ret
                exact ⟨rfl, (hB8.alloc hB8.size _).trans (hb9.mono (by simp; have := hB8.size; omega))⟩
          · have h40 : ¬ (40 : Int) < 1 + (n : Int) := by omega
            rw [hd2] at hps
            go_wp2_with fail
            refine (hps _).mono ?_
            rintro e w1 ⟨⟨kv0, rfl, ht0⟩, hb1⟩
            obtain ⟨ka, kc, rfl⟩ := ht0.shape
            unfold trv
            have hB1 := hb1.alloc hb1.size (.cells #[.int .i64 (tt.kind : Int), .int .i64 (tt.place : Int), .string (str tt.text), .slice ka tt.kids.length kc] 24)
            clear hb1 hps ht0
            obtain ⟨t, hp2, hk2, k, hk3, hk4⟩ := side_is (m + 1) (by omega) (by omega)
            go_wp2
            go_loopg [11, 12] (m + 1) (fun g t i wr => ∃ (k : Nat), g + k = m + 1 ∧ i = .int .i64 k ∧ t = .string (str (40 :: pairs k)) ∧ (w1.alloc (.cells #[.int .i64 (tt.kind : Int), .int .i64 (tt.place : Int), .string (str tt.text), .slice ka tt.kids.length kc] 24)) = wr)
            case atStart => exact ⟨0, rfl, rfl, rfl, rfl⟩
            case round =>
              obtain ⟨j, hg, rfl, rfl, rfl⟩ := hrel
              by_cases hj : j < m + 1
              · have hji : (j : Int) < 1 + (m : Int) := by omega
                have hpp := pairs_push j
                have hpl : (str (40 :: pairs j)).size = 2 * j + 1 := by rw [str_size, List.length_cons, pairs_length]
                go_wp2
                go_roundg (m + 1 - (j + 1))
                case measure => omega
                case rel => exact ⟨j + 1, by omega, by go_num, by first | rfl | rw [hpp], rfl⟩
              · have hj' : j = m + 1 := by omega
                subst hj'
                have hji : ¬ (((m + 1 : Nat) : Int)) < 1 + (m : Int) := by omega
                have hps := parse (str (40 :: pairs (m + 1) ++ [41]))
                rw [str_data, hp2] at hps
                have hcat : str (40 :: pairs (m + 1)) ++ ⟨#[41]⟩ = str (40 :: pairs (m + 1) ++ [41]) := by rw [show (⟨#[41]⟩ : ByteArray) = str [41] from rfl, str_append]
                have hpl : (str (40 :: pairs (m + 1))).size = 2 * (m + 1) + 1 := by rw [str_size, List.length_cons, pairs_length]
                go_wp2_with fail
                refine (hps _).mono ?_
                rintro e w8 ⟨⟨kv, rfl, ht⟩, hb8⟩
                have hm1 : m < t.kids.length := by omega
                obtain ⟨gk, capk, kv', hkv, _, _, _, hpl1, _, _⟩ := ht.at m hm1
                subst hkv
                have hkk : t.kids[m] = k := by
                  rw [show m + 1 - 1 = m from by omega, List.getElem?_eq_getElem hm1] at hk3
                  exact Option.some.inj hk3
                rw [hkk, hk4] at hpl1
                rw [hk2]
                unfold trv
                have hB8 := hB1.trans (hb8.mono hB1.size)
                have hi1 : (m : Int) < (m : Int) + 1 := by omega
                have hpl2 := ((Kept.refl (fun _ => False) w8).alloc (.cells #[.int .i64 (t.kind : Int), .int .i64 (t.place : Int), .string (str t.text), .slice (some ⟨gk, 0, none⟩) (m + 1) capk] 24)).cell hpl1 (fun h => h)
                have hnum : ((2 * (m + 1) - 1 : Nat) : Int) = 2 * (m : Int) + 1 := by omega
                rw [hnum] at hpl2
                clear ht hb8 hpl1 hps hnum
                go_wp2_with fail
                refine (known _).mono ?_
                rintro e w9 ⟨rfl, hb9⟩
                go_wp2
                go_ret
                exact ⟨rfl, (hB8.alloc hB8.size _).trans (hb9.mono (by simp; have := hB8.size; omega))⟩

theorem deep_walk (a0 a1 : Int) (b0 : -9223372036854775808 ≤ a0 ∧ a0 ≤ 9223372036854775807) (b1 : -9223372036854775808 ≤ a1 ∧ a1 ≤ 9223372036854775807) (w : World) : Calls Try.prog 6 #[.int .i64 a0, .int .i64 a1] w (KnownE w) := by
  rcases Int.lt_or_le a0 0 with h0 | h0 <;> rcases Int.lt_or_le a1 0 with h1 | h1
  · exact deep_nn a0 a1 b0 b1 h0 h1 w
  · exact deep_np a0 a1 b0 b1 h0 h1 w
  · exact deep_pn a0 a1 b0 b1 h0 h1 w
  · exact deep_pp a0 a1 b0 b1 h0 h1 w

theorem ownTreeDeep : ownKnob Try.prog.godebug = none := by kernel_rfl
set_option maxRecDepth 100000 in
theorem treeDeep_lifted (os : Os) (started : os.Started) (H : Type) (enc : TypeId × Value → H) :
    ReturnsInHanded {} Try.checked os 6 .any (Rows.treeDeepSpec.pre6 enc Try.prog Try.f6 Rows.treeDeepRow.domain false) (Rows.treeDeepSpec.post enc Try.prog Try.f6 false true false false) := by
  refine returnsInHanded_of_change (C := Try.checked) ownTreeDeep started (by kernel_rfl) Try.func6
    (ChangeSpec.witness6 (enc := enc) (C := Try.checked) false ⟨#[], #[.int .i64 0, .int .i64 0], []⟩ 8 (by kernel_rfl) (by kernel_rfl) (by kernel_rfl) (by kernel_rfl)) ?_
  intro W base args ds gs before hval0 hW hcnd _
  have hval : ∀ (j : Nat) t v, Try.f6.params[j]? = some t → args[j]? = some v → Value.okWide Try.prog W .any base t v := hval0
  have hW' := hW
  obtain ⟨p, q, hA0, hV, rfl, hfz, hnd⟩ := hW
  have hA : DataW.TrodAll enc Try.prog W 0 (fun _ => true) true Try.f6.params.toList args.toList ds p := hA0
  rw [Try.params6] at hA hval
  obtain ⟨v0, vs0, d0, ds0, p0, q0, hargs, rfl, rfl, h0, r0⟩ := trodAll_cons hA
  obtain ⟨v1, vs1, d1, ds1, p1, q1, rfl, rfl, rfl, h1, r1⟩ := trodAll_cons r0
  obtain ⟨rfl, rfl, rfl⟩ := trodAll_nil r1
  obtain rfl : args = #[v0, v1] := by cases args; simp_all
  obtain ⟨rfl, rfl⟩ := trodVars_none hV
  obtain ⟨a0, rfl, rfl, rfl, w0⟩ := open_int Try.underlying3 (hval 0 3 v0 rfl rfl) h0
  have b0 := bounds_i64 w0
  obtain ⟨a1, rfl, rfl, rfl, w1⟩ := open_int Try.underlying3 (hval 1 3 v1 rfl rfl) h1
  have b1 := bounds_i64 w1
  clear hA0 hval0
  simp only [List.append_nil] at hW'
  refine (deep_walk a0 a1 b0 b1 W).mono fun e W' ⟨he, bel⟩ => ?_
  subst he
  exact ⟨_, rfl, _, _, _, [], _, [], hW', trodAll_mk1 (shut_bool Try.underlying4 _), (trodAll_cons_mk (shut_int Try.underlying3 w0) (trodAll_cons_mk (shut_int Try.underlying3 w1) trodAll_mk0)), rfl, bel.frame _, fun h => by cases h⟩

theorem treeDeep_holds : Rows.TreeDeepSaid :=
  OpenClaim.holds_of_wide 6 Try.f6 rfl rfl rfl rfl rfl rfl rfl ⟨rfl, rfl, rfl, rfl, rfl⟩ rfl rfl rfl rfl rfl (by kernel_rfl) Try.func6 (by kernel_rfl)
    (of_decide_eq_true (by kernel_rfl)) (by unfold Func.isWrapper; first | (rw [if_pos (by decide +kernel)]; kernel_rfl) | (rw [if_neg (by decide +kernel)]; exact ⟨rfl, rfl⟩))
    (fun os started H enc _ => treeDeep_lifted os started H enc)
#print axioms treeDeep_holds
end Go.Proofs.Ytmekjbplodnldaa
