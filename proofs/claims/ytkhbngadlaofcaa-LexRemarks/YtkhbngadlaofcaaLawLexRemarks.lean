/-
  For any two texts and any number: the law LexRemarks answers true: a remark at the end, and blanks ahead, change no token but its place. No condition but those of the row.
-/
import Derived.Test.YtkhbngadlaofcaaRows
import Derived.Test.YtkhbngadlaofcaaLexKnown
import Derived.Test.YtkhbngadlaofcaaLexMath2
import Derived.ProofKit
import Derived.OpenShut
import Derived.ShutString
import Derived.SizedLaws
namespace Go.Proofs.Ytkhbngadlaofcaa
open Go.ChangeShapes Go.WideShapes Go.ChangeAt Go.RowKit
open Go.ChangeMaps (open_string shut_string)

theorem places_lt (L : List UInt8) : ∀ (l : List Tok) (a : Nat), places L l a → ∀ (j : Nat) (hj : j < l.length), l[j].place < L.length
  | [], _, _, j, hj => by simp at hj
  | t :: r, a, h, 0, _ => h.2.1
  | t :: r, a, h, j + 1, hj => by
    obtain ⟨_, _, h3⟩ := h
    rcases h3 with ⟨_, _, h⟩ | ⟨_, _, h⟩ | ⟨_, _, _, _, h⟩ | ⟨_, _, h⟩ <;> exact places_lt L r _ h j (by simpa using hj)
theorem drewN_trans {w w' : World} {n : Nat} (h : Below (w.drewN n).heap.size (w.drewN n) w') : Below w.heap.size w w' := ⟨h.os, h.tape, h.output, h.size, h.block⟩
theorem blank_pos (x : Int) : ∃ n : Nat, x % 40 = (n : Int) ∧ n < 40 := ⟨(x % 40).toNat, by omega, by omega⟩
theorem blank_neg (x : Int) (h : x < 0) : ∃ n : Nat, -(x + 1).tmod 40 = (n : Int) ∧ n < 40 := by
  refine ⟨((-(x + 1)) % 40).toNat, ?_, by omega⟩
  have e : (x + 1).tmod 40 = -((-(x + 1)).tmod 40) := by rw [Int.neg_tmod, Int.neg_neg]
  rw [e, Int.neg_neg, Int.tmod_eq_emod_of_nonneg (by omega)]
  omega
def cleanR (l : List UInt8) : List UInt8 := l.filter notNl
def blankR (n : Nat) : List UInt8 := (List.range n).map fun i => ([32, 9, 10, 13] : List UInt8).getD (i % 4) 0
theorem blankR_length (n : Nat) : (blankR n).length = n := by simp [blankR]
theorem blankR_step (n : Nat) : blankR (n + 1) = blankR n ++ [([32, 9, 10, 13] : List UInt8).getD (n % 4) 0] := by simp [blankR, List.range_succ]
theorem blankR_parts (n : Nat) : ∀ c ∈ blankR n, isParts c = true := by
  intro c hc
  obtain ⟨i, _, rfl⟩ := List.mem_map.1 hc
  have h : ∀ a : Fin 4, isParts (([32, 9, 10, 13] : List UInt8).getD a.val 0) = true := by decide
  exact h ⟨i % 4, Nat.mod_lt _ (by decide)⟩
theorem cleanR_notNl (l : List UInt8) : ∀ c ∈ cleanR l, notNl c = true := by
  intro c hc
  exact (List.mem_filter.1 hc).2
theorem cleanR_length (l : List UInt8) : (cleanR l).length ≤ l.length := List.length_filter_le _ _
theorem one_at (s : ByteArray) (k : Nat) (hk : k < s.size) : s.extract k (k + 1) = str [s[k]] := by
  rw [extract_str, drop_at s k hk, show k + 1 - k = 1 from by omega]
  rfl
theorem take_one (s : ByteArray) (k : Nat) (hk : k < s.size) : s.data.toList.take (k + 1) = s.data.toList.take k ++ [s[k]] := by
  have hk' : k < s.data.toList.length := by rw [size_len]; exact hk
  rw [List.take_succ_eq_append_getElem hk']
  rfl
theorem shift_length (n : Nat) (l : List Tok) : (shift n l).length = l.length := by simp [shift]
theorem shift_get (n : Nat) (l : List Tok) (k : Nat) (hk : k < l.length) (hk2 : k < (shift n l).length) : (shift n l)[k] = ⟨l[k].kind, l[k].place + n, l[k].text⟩ := by simp [shift]

set_option maxHeartbeats 4000000 in
set_option maxRecDepth 1000000 in
theorem lexRemarks_walk (s more : ByteArray) (bk : Int) (w : World) (hs : s.size ≤ 140737488351232) (hm : more.size ≤ 140737488351232) (hb0 : -9223372036854775808 ≤ bk) (hb1 : bk ≤ 9223372036854775807) :
    Calls Try.prog 7 #[.string s, .string more, .int .i64 bk] w fun e w' => e = .returned (.bool true) ∧ Below w.heap.size w w' := by
  have hsp := split s
  have hwy := split_why s.data.toList
  have hrm := split_remarks s.data.toList
  have hpl := split_places s.data.toList
  generalize splitR s.data.toList = r at *
  cases r with
  | error yb =>
    obtain ⟨y, b⟩ := yb
    have hy := hwy y b rfl
    have hy' : ((y : Int) != 0) = true := by rw [bne_iff_ne]; omega
    clear hy hwy hrm hpl
    go_enter Try.func7, Try.ntmps7
    go_wp2_with fail
    refine (hsp _).mono ?_
    rintro e w1 ⟨he, hb1⟩
    simp only at he
    subst he
    go_wp2_with fail
    refine (known _).mono ?_
    rintro e w2 ⟨rfl, hb2⟩
    go_wp2
    go_ret
    exact ⟨rfl, hb1.trans (hb2.mono hb1.size)⟩
  | ok l =>
    have hll := places_length _ _ _ (hpl l rfl).1
    rw [size_len] at hll
    by_cases hbig : 8192 < s.size + more.size + 60
    · have hbig' : (8192 : Int) < (s.size : Int) + (more.size : Int) + 60 := by omega
      clear hwy hrm hpl
      go_enter Try.func7, Try.ntmps7
      go_wp2_with fail
      refine (hsp _).mono ?_
      rintro e w1 ⟨⟨v, rfl, ho⟩, hb1⟩
      go_wp2_with fail
      refine (known _).mono ?_
      rintro e w2 ⟨rfl, hb2⟩
      go_wp2
      go_ret
      exact ⟨rfl, hb1.trans (hb2.mono hb1.size)⟩
    · have hbig' : ¬ (8192 : Int) < (s.size : Int) + (more.size : Int) + 60 := by omega
      have hplt := fun j hj => places_lt _ _ _ (hpl l rfl).1 j hj
      rw [size_len] at hplt
      clear hwy hpl
      go_enter Try.func7, Try.ntmps7
      go_wp2_with fail
      refine (hsp _).mono ?_
      rintro e w1 ⟨⟨v, rfl, ho⟩, hb1⟩
      have hr := RdT.own ho
      obtain ⟨aa, ca, rfl⟩ := hr.shape
      clear ho
      go_wp2
      go_loopg [10, 11] more.size (fun g x i wr => ∃ (k : Nat) (t : ByteArray), g + k = more.size ∧ i = .int .i64 k ∧ x = .string t ∧ Hid (t = str (cleanR (more.data.toList.take k))) ∧ w1 = wr)
      case atStart => exact ⟨0, _, rfl, rfl, rfl, rfl, rfl⟩
      case round =>
        obtain ⟨k, cl, hg, rfl, rfl, ht, rfl⟩ := hrel
        have htl : cl.size ≤ k := by
          rw [ht.out, str_size]
          exact Nat.le_trans (cleanR_length _) (by simp; omega)
        by_cases hk : k < more.size
        · have h1 := one_at more k hk
          have h2 := take_one more k hk
          by_cases c : more[k].toNat = 10
          · have HT : Hid (cl = str (cleanR (more.data.toList.take (k + 1)))) := by
              rw [h2, ht.out]
              simp [Hid, cleanR, notNl, c]
            have c' : ((more[k].toNat : Int) != 10) = false := by rw [bne_eq_false_iff_eq]; omega
            clear ht h1 h2 c
            go_wp2
            go_roundg (more.size - (k + 1))
            case measure => omega
            case rel => exact ⟨k + 1, _, by omega, by go_num, rfl, HT, rfl⟩
          · have HT : Hid (cl ++ more.extract k (k + 1) = str (cleanR (more.data.toList.take (k + 1)))) := by
              rw [h2, h1, ht.out, str_append]
              simp [Hid, cleanR, notNl, c]
            have c' : ((more[k].toNat : Int) != 10) = true := by rw [bne_iff_ne]; omega
            clear ht h1 h2 c
            go_wp2
            go_roundg (more.size - (k + 1))
            case measure => omega
            case rel => exact ⟨k + 1, _, by omega, by go_num, rfl, HT, rfl⟩
        · have hk' : k = more.size := by omega
          subst hk'
          have ht2 : Hid (cl = str (cleanR more.data.toList)) := by
            have := ht.out
            rwa [List.take_of_length_le (by rw [size_len]; exact Nat.le_refl _)] at this
          clear ht
          clear hg hk
          by_cases hneg : bk < 0
          · obtain ⟨n, hn, hn40⟩ := blank_neg bk hneg
            go_wp2
            clear hn
            go_loopg [12, 13] n (fun g x i wr => ∃ (k : Nat) (t : ByteArray), g + k = n ∧ i = .int .i64 k ∧ x = .string t ∧ Hid (t = str (blankR k)) ∧ Below w1.heap.size w1 wr)
            case atStart => exact ⟨0, _, rfl, rfl, rfl, rfl, Below.refl _ _⟩
            case round =>
              obtain ⟨k, t, hg, rfl, rfl, ht, hwr⟩ := hrel
              have hsz : w1.heap.size ≤ wr.heap.size := hwr.size
              have htl : t.size = k := by rw [ht.out, str_size, blankR_length]
              by_cases hk : k < n
              · rcases (by omega : k % 4 = 0 ∨ k % 4 = 1 ∨ k % 4 = 2 ∨ k % 4 = 3) with h4 | h4 | h4 | h4
                · have HT : Hid (t ++ ⟨#[32]⟩ = str (blankR (k + 1))) := by
                    rw [blankR_step, h4, ht.out, show (⟨#[32]⟩ : ByteArray) = str [32] from rfl, str_append]
                    rfl
                  have h4' : (k : Int) % 4 = 0 := by omega
                  clear ht h4
                  go_wp2
                  go_roundg (n - (k + 1))
                  case measure => omega
                  case rel => exact ⟨k + 1, _, by omega, by go_num, rfl, HT, hwr.alloc hsz _⟩
                · have HT : Hid (t ++ ⟨#[9]⟩ = str (blankR (k + 1))) := by
                    rw [blankR_step, h4, ht.out, show (⟨#[9]⟩ : ByteArray) = str [9] from rfl, str_append]
                    rfl
                  have h4' : (k : Int) % 4 = 1 := by omega
                  clear ht h4
                  go_wp2
                  go_roundg (n - (k + 1))
                  case measure => omega
                  case rel => exact ⟨k + 1, _, by omega, by go_num, rfl, HT, hwr.alloc hsz _⟩
                · have HT : Hid (t ++ ⟨#[10]⟩ = str (blankR (k + 1))) := by
                    rw [blankR_step, h4, ht.out, show (⟨#[10]⟩ : ByteArray) = str [10] from rfl, str_append]
                    rfl
                  have h4' : (k : Int) % 4 = 2 := by omega
                  clear ht h4
                  go_wp2
                  go_roundg (n - (k + 1))
                  case measure => omega
                  case rel => exact ⟨k + 1, _, by omega, by go_num, rfl, HT, hwr.alloc hsz _⟩
                · have HT : Hid (t ++ ⟨#[13]⟩ = str (blankR (k + 1))) := by
                    rw [blankR_step, h4, ht.out, show (⟨#[13]⟩ : ByteArray) = str [13] from rfl, str_append]
                    rfl
                  have h4' : (k : Int) % 4 = 3 := by omega
                  clear ht h4
                  go_wp2
                  go_roundg (n - (k + 1))
                  case measure => omega
                  case rel => exact ⟨k + 1, _, by omega, by go_num, rfl, HT, hwr.alloc hsz _⟩
              · have hkn : n = k := by omega
                subst hkn
                have h3 : ∀ w, Calls Try.prog 8 #[.string (t ++ s ++ ⟨#[10, 59]⟩ ++ cl)] w (SE (.ok (shift n l)) w) := by
                  intro w
                  have hc := cleanR_length more.data.toList
                  rw [size_len] at hc
                  have e := hrm (cleanR more.data.toList) (blankR n) l (cleanR_notNl _) (blankR_parts _) (by rw [blankR_length, size_len]; omega) rfl
                  rw [blankR_length] at e
                  have e2 : t ++ s ++ ⟨#[10, 59]⟩ ++ cl = str (blankR n ++ s.data.toList ++ [10, 59] ++ cleanR more.data.toList) := by
                    rw [← str_append, ← str_append, ← str_append, str_toList, ht.out, ht2.out]
                    rfl
                  have := split (str (blankR n ++ s.data.toList ++ [10, 59] ++ cleanR more.data.toList)) w
                  rw [str_data, e] at this
                  rw [e2]
                  exact this
                clear hrm ht ht2
                go_wp2_with fail
                refine (h3 _).mono ?_
                rintro e w2 ⟨⟨v2, rfl, ho2⟩, hb2⟩
                have hm2 := RdT.own ho2
                obtain ⟨ab, cb, hv⟩ := hm2.shape
                rw [shift_length] at hv
                subst hv
                have hr2 := (hr.below hwr).below hb2
                have hB2 := hb1.trans ((hwr.trans (hb2.mono hsz)).mono hb1.size)
                clear ho2 hb2 hr hwr h3
                go_wp2
                go_loopg [17] l.length (fun g i wr => ∃ (j d : Nat), g + j = l.length ∧ i = .int .i64 j ∧ wr = w2.drewN d)
                case atStart => exact ⟨0, 0, rfl, rfl, rfl⟩
                case round =>
                  obtain ⟨j, d, hg, rfl, rfl⟩ := hrel
                  by_cases hj : j < l.length
                  · have hj2 : j < (shift n l).length := by rw [shift_length]; exact hj
                    rcases hr2 with ⟨h, rfl⟩ | ⟨ga, cap, h, hca⟩
                    · simp at hj
                    cases h
                    rcases hm2 with ⟨h, h'⟩ | ⟨gb, cap, h, hcb⟩
                    · rw [h'] at hj2
                      simp at hj2
                    rw [shift_length] at h
                    cases h
                    obtain ⟨t0, t1, t2⟩ := tcs_get l j hj
                    obtain ⟨s0, s1, s2⟩ := tcs_get (shift n l) j hj2
                    rw [shift_get n l j hj hj2] at s0 s1 s2
                    have a0 := hca _ _ t0
                    have a1 := hca _ _ t1
                    have a2 := hca _ _ t2
                    have b0 := hcb _ _ s0
                    have b1 := hcb _ _ s1
                    have b2 := hcb _ _ s2
                    have hpj := hplt j hj
                    simp only [Int.natCast_add] at b1
                    clear hca hcb t0 t1 t2 s0 s1 s2
                    generalize (l[j].kind : Int) = x at *
                    generalize str l[j].text = z at *
                    generalize l[j].place = y at *
                    go_wp2
                    go_quiet (fail)
                    go_wp2
                    go_roundg (l.length - (j + 1))
                    case measure => omega
                    case rel => exact ⟨j + 1, _, by omega, by go_num, rfl⟩
                  · have hj' : j = l.length := by omega
                    subst hj'
                    clear hr2 hm2
                    go_wp2_with fail
                    refine (known _).mono ?_
                    rintro e w3 ⟨rfl, hb3⟩
                    go_wp2
                    go_ret
                    exact ⟨rfl, hB2.trans ((drewN_trans hb3).mono hB2.size)⟩
          · obtain ⟨n, hn, hn40⟩ := blank_pos bk
            go_wp2
            clear hn
            go_loopg [12, 13] n (fun g x i wr => ∃ (k : Nat) (t : ByteArray), g + k = n ∧ i = .int .i64 k ∧ x = .string t ∧ Hid (t = str (blankR k)) ∧ Below w1.heap.size w1 wr)
            case atStart => exact ⟨0, _, rfl, rfl, rfl, rfl, Below.refl _ _⟩
            case round =>
              obtain ⟨k, t, hg, rfl, rfl, ht, hwr⟩ := hrel
              have hsz : w1.heap.size ≤ wr.heap.size := hwr.size
              have htl : t.size = k := by rw [ht.out, str_size, blankR_length]
              by_cases hk : k < n
              · rcases (by omega : k % 4 = 0 ∨ k % 4 = 1 ∨ k % 4 = 2 ∨ k % 4 = 3) with h4 | h4 | h4 | h4
                · have HT : Hid (t ++ ⟨#[32]⟩ = str (blankR (k + 1))) := by
                    rw [blankR_step, h4, ht.out, show (⟨#[32]⟩ : ByteArray) = str [32] from rfl, str_append]
                    rfl
                  have h4' : (k : Int) % 4 = 0 := by omega
                  clear ht h4
                  go_wp2
                  go_roundg (n - (k + 1))
                  case measure => omega
                  case rel => exact ⟨k + 1, _, by omega, by go_num, rfl, HT, hwr.alloc hsz _⟩
                · have HT : Hid (t ++ ⟨#[9]⟩ = str (blankR (k + 1))) := by
                    rw [blankR_step, h4, ht.out, show (⟨#[9]⟩ : ByteArray) = str [9] from rfl, str_append]
                    rfl
                  have h4' : (k : Int) % 4 = 1 := by omega
                  clear ht h4
                  go_wp2
                  go_roundg (n - (k + 1))
                  case measure => omega
                  case rel => exact ⟨k + 1, _, by omega, by go_num, rfl, HT, hwr.alloc hsz _⟩
                · have HT : Hid (t ++ ⟨#[10]⟩ = str (blankR (k + 1))) := by
                    rw [blankR_step, h4, ht.out, show (⟨#[10]⟩ : ByteArray) = str [10] from rfl, str_append]
                    rfl
                  have h4' : (k : Int) % 4 = 2 := by omega
                  clear ht h4
                  go_wp2
                  go_roundg (n - (k + 1))
                  case measure => omega
                  case rel => exact ⟨k + 1, _, by omega, by go_num, rfl, HT, hwr.alloc hsz _⟩
                · have HT : Hid (t ++ ⟨#[13]⟩ = str (blankR (k + 1))) := by
                    rw [blankR_step, h4, ht.out, show (⟨#[13]⟩ : ByteArray) = str [13] from rfl, str_append]
                    rfl
                  have h4' : (k : Int) % 4 = 3 := by omega
                  clear ht h4
                  go_wp2
                  go_roundg (n - (k + 1))
                  case measure => omega
                  case rel => exact ⟨k + 1, _, by omega, by go_num, rfl, HT, hwr.alloc hsz _⟩
              · have hkn : n = k := by omega
                subst hkn
                have h3 : ∀ w, Calls Try.prog 8 #[.string (t ++ s ++ ⟨#[10, 59]⟩ ++ cl)] w (SE (.ok (shift n l)) w) := by
                  intro w
                  have hc := cleanR_length more.data.toList
                  rw [size_len] at hc
                  have e := hrm (cleanR more.data.toList) (blankR n) l (cleanR_notNl _) (blankR_parts _) (by rw [blankR_length, size_len]; omega) rfl
                  rw [blankR_length] at e
                  have e2 : t ++ s ++ ⟨#[10, 59]⟩ ++ cl = str (blankR n ++ s.data.toList ++ [10, 59] ++ cleanR more.data.toList) := by
                    rw [← str_append, ← str_append, ← str_append, str_toList, ht.out, ht2.out]
                    rfl
                  have := split (str (blankR n ++ s.data.toList ++ [10, 59] ++ cleanR more.data.toList)) w
                  rw [str_data, e] at this
                  rw [e2]
                  exact this
                clear hrm ht ht2
                go_wp2_with fail
                refine (h3 _).mono ?_
                rintro e w2 ⟨⟨v2, rfl, ho2⟩, hb2⟩
                have hm2 := RdT.own ho2
                obtain ⟨ab, cb, hv⟩ := hm2.shape
                rw [shift_length] at hv
                subst hv
                have hr2 := (hr.below hwr).below hb2
                have hB2 := hb1.trans ((hwr.trans (hb2.mono hsz)).mono hb1.size)
                clear ho2 hb2 hr hwr h3
                go_wp2
                go_loopg [17] l.length (fun g i wr => ∃ (j d : Nat), g + j = l.length ∧ i = .int .i64 j ∧ wr = w2.drewN d)
                case atStart => exact ⟨0, 0, rfl, rfl, rfl⟩
                case round =>
                  obtain ⟨j, d, hg, rfl, rfl⟩ := hrel
                  by_cases hj : j < l.length
                  · have hj2 : j < (shift n l).length := by rw [shift_length]; exact hj
                    rcases hr2 with ⟨h, rfl⟩ | ⟨ga, cap, h, hca⟩
                    · simp at hj
                    cases h
                    rcases hm2 with ⟨h, h'⟩ | ⟨gb, cap, h, hcb⟩
                    · rw [h'] at hj2
                      simp at hj2
                    rw [shift_length] at h
                    cases h
                    obtain ⟨t0, t1, t2⟩ := tcs_get l j hj
                    obtain ⟨s0, s1, s2⟩ := tcs_get (shift n l) j hj2
                    rw [shift_get n l j hj hj2] at s0 s1 s2
                    have a0 := hca _ _ t0
                    have a1 := hca _ _ t1
                    have a2 := hca _ _ t2
                    have b0 := hcb _ _ s0
                    have b1 := hcb _ _ s1
                    have b2 := hcb _ _ s2
                    have hpj := hplt j hj
                    simp only [Int.natCast_add] at b1
                    clear hca hcb t0 t1 t2 s0 s1 s2
                    generalize (l[j].kind : Int) = x at *
                    generalize str l[j].text = z at *
                    generalize l[j].place = y at *
                    go_wp2
                    go_quiet (fail)
                    go_wp2
                    go_roundg (l.length - (j + 1))
                    case measure => omega
                    case rel => exact ⟨j + 1, _, by omega, by go_num, rfl⟩
                  · have hj' : j = l.length := by omega
                    subst hj'
                    clear hr2 hm2
                    go_wp2_with fail
                    refine (known _).mono ?_
                    rintro e w3 ⟨rfl, hb3⟩
                    go_wp2
                    go_ret
                    exact ⟨rfl, hB2.trans ((drewN_trans hb3).mono hB2.size)⟩


theorem ownLexRemarks : ownKnob Try.prog.godebug = none := by kernel_rfl
set_option maxRecDepth 100000 in
theorem lexRemarks_lifted (os : Os) (started : os.Started) (H : Type) (enc : TypeId × Value → H) :
    ReturnsInHanded {} Try.checked os 7 .any (Rows.lexRemarksSpec.pre6 enc Try.prog Try.f7 Rows.lexRemarksRow.domain false) (Rows.lexRemarksSpec.post enc Try.prog Try.f7 false true false false) := by
  refine returnsInHanded_of_change_sized (C := Try.checked) ownLexRemarks started (by kernel_rfl) Try.func7
    (ChangeSpec.witness6 (enc := enc) (C := Try.checked) false ⟨#[], #[.string ByteArray.empty, .string ByteArray.empty, .int .i64 0], []⟩ 8 (by kernel_rfl) (by kernel_rfl) (by kernel_rfl) (by kernel_rfl)) ?_
  intro W base args ds gs before hval0 hW hcnd hsz0 _
  have hval : ∀ (j : Nat) t v, Try.f7.params[j]? = some t → args[j]? = some v → Value.okWide Try.prog W .any base t v := hval0
  have hsz : (DataW.weightsEach Try.prog (Try.f7.params.toList ++ Rows.lexRemarksSpec.plain.varTypes Try.prog) (ds ++ gs)).all (· ≤ reachBytes) = true := hsz0
  have hW' := hW
  obtain ⟨p, q, hA0, hV, rfl, hfz, hnd⟩ := hW
  have hA : DataW.TrodAll enc Try.prog W 0 (fun _ => true) true Try.f7.params.toList args.toList ds p := hA0
  rw [Try.params7] at hA hval hsz
  obtain ⟨v0, vs0, d0, ds0, p0, q0, hargs, rfl, rfl, h0, r0⟩ := trodAll_cons hA
  obtain ⟨v1, vs1, d1, ds1, p1, q1, rfl, rfl, rfl, h1, r1⟩ := trodAll_cons r0
  obtain ⟨v2, vs2, d2, ds2, p2, q2, rfl, rfl, rfl, h2, r2⟩ := trodAll_cons r1
  obtain ⟨rfl, rfl, rfl⟩ := trodAll_nil r2
  obtain rfl : args = #[v0, v1, v2] := by cases args; simp_all
  obtain ⟨rfl, rfl⟩ := trodVars_none hV
  obtain ⟨a0, rfl, rfl, rfl, w0⟩ := open_string Try.underlying9 (hval 0 9 v0 rfl rfl) h0
  have b0 : a0.size ≤ 140737488351232 := by
    have h1 := sized_string hsz (j := 0) (t := 9) rfl rfl
    have h2 : reachBytes = 140737488351232 := by decide
    have e1 : a0.size = a0.data.size := rfl
    have e2 : a0.data.toList.length = a0.data.size := Array.length_toList
    omega
  obtain ⟨a1, rfl, rfl, rfl, w1⟩ := open_string Try.underlying9 (hval 1 9 v1 rfl rfl) h1
  have b1 : a1.size ≤ 140737488351232 := by
    have h1 := sized_string hsz (j := 1) (t := 9) rfl rfl
    have h2 : reachBytes = 140737488351232 := by decide
    have e1 : a1.size = a1.data.size := rfl
    have e2 : a1.data.toList.length = a1.data.size := Array.length_toList
    omega
  obtain ⟨a2, rfl, rfl, rfl, w2⟩ := open_int Try.underlying3 (hval 2 3 v2 rfl rfl) h2
  have b2 := bounds_i64 w2
  clear hA0 hval0
  simp only [List.append_nil] at hW'
  refine (lexRemarks_walk a0 a1 a2 W b0 b1 (by omega) (by omega)).mono fun e W' ⟨he, bel⟩ => ?_
  subst he
  exact ⟨_, rfl, _, _, _, [], _, [], hW', trodAll_mk1 (shut_bool Try.underlying4 _), (trodAll_cons_mk (shut_string Try.underlying9 w0) (trodAll_cons_mk (shut_string Try.underlying9 w1) (trodAll_cons_mk (shut_int Try.underlying3 w2) trodAll_mk0))), rfl, bel.frame _, fun h => by cases h⟩

theorem lexRemarks_holds : Rows.LexRemarksSaid :=
  OpenClaim.holds_of_wide 7 Try.f7 rfl rfl rfl rfl rfl rfl rfl ⟨rfl, rfl, rfl, rfl, rfl⟩ rfl rfl rfl rfl rfl (by kernel_rfl) Try.func7 (by kernel_rfl)
    (of_decide_eq_true (by kernel_rfl)) (by unfold Func.isWrapper; first | (rw [if_pos (by decide +kernel)]; kernel_rfl) | (rw [if_neg (by decide +kernel)]; exact ⟨rfl, rfl⟩))
    (fun os started H enc _ => lexRemarks_lifted os started H enc)
#print axioms lexRemarks_holds

end Go.Proofs.Ytkhbngadlaofcaa
