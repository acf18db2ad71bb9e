/-
  The package's small functions on texts: isOp, isWord, mayBind, isPath; strings.Cut at a point, and whether there is one.
  And: The package's isPath, isPathToValue, isPathToBig.
-/
import Derived.Test.YtchfhkfepghfjaaPfAj
import Derived.Test.YtchfhkfepghfjaaPfAl
namespace Go.Proofs.Ytchfhkfepghfjaa
open Go.RowKit

def BoolD (b : Bool) (w : World) (e : Ending) (w' : World) : Prop := ∃ n, e = .returned (.bool b) ∧ w' = w.drewN n
theorem str_ne {l x : List UInt8} (h : l ≠ x) : ((str l).toList == x) = false := by
  rw [Lib.toList_data, str_data, beq_eq_false_iff_ne]
  exact h
theorem str_is (l x : List UInt8) : ((str l).toList == x) = decide (l = x) := by
  rw [Lib.toList_data, str_data, Bool.eq_iff_iff, beq_iff_eq, decide_eq_true_iff]
set_option maxHeartbeats 400000 in
set_option maxRecDepth 1000000 in
theorem op_add (w : World) : Calls Try.prog 60 #[.string ⟨#[97, 100, 100]⟩] w (Pu (.bool true) w) := by
  go_enter Try.func60, Try.ntmps60
  go_wp2
  go_ret
  exact ⟨rfl, rfl⟩
set_option maxHeartbeats 400000 in
set_option maxRecDepth 1000000 in
theorem op_sub (w : World) : Calls Try.prog 60 #[.string ⟨#[115, 117, 98]⟩] w (Pu (.bool true) w) := by
  go_enter Try.func60, Try.ntmps60
  go_wp2
  go_ret
  exact ⟨rfl, rfl⟩
set_option maxHeartbeats 400000 in
set_option maxRecDepth 1000000 in
theorem op_mul (w : World) : Calls Try.prog 60 #[.string ⟨#[109, 117, 108]⟩] w (Pu (.bool true) w) := by
  go_enter Try.func60, Try.ntmps60
  go_wp2
  go_ret
  exact ⟨rfl, rfl⟩
set_option maxHeartbeats 400000 in
set_option maxRecDepth 1000000 in
theorem op_neg (w : World) : Calls Try.prog 60 #[.string ⟨#[110, 101, 103]⟩] w (Pu (.bool true) w) := by
  go_enter Try.func60, Try.ntmps60
  go_wp2
  go_ret
  exact ⟨rfl, rfl⟩
set_option maxHeartbeats 400000 in
set_option maxRecDepth 1000000 in
theorem op_conj (w : World) : Calls Try.prog 60 #[.string ⟨#[99, 111, 110, 106]⟩] w (Pu (.bool true) w) := by
  go_enter Try.func60, Try.ntmps60
  go_wp2
  go_ret
  exact ⟨rfl, rfl⟩
set_option maxHeartbeats 400000 in
set_option maxRecDepth 1000000 in
theorem op_re (w : World) : Calls Try.prog 60 #[.string ⟨#[114, 101]⟩] w (Pu (.bool true) w) := by
  go_enter Try.func60, Try.ntmps60
  go_wp2
  go_ret
  exact ⟨rfl, rfl⟩
set_option maxHeartbeats 400000 in
set_option maxRecDepth 1000000 in
theorem op_im (w : World) : Calls Try.prog 60 #[.string ⟨#[105, 109]⟩] w (Pu (.bool true) w) := by
  go_enter Try.func60, Try.ntmps60
  go_wp2
  go_ret
  exact ⟨rfl, rfl⟩
set_option maxHeartbeats 400000 in
set_option maxRecDepth 1000000 in
theorem op_eq (w : World) : Calls Try.prog 60 #[.string ⟨#[101, 113]⟩] w (Pu (.bool true) w) := by
  go_enter Try.func60, Try.ntmps60
  go_wp2
  go_ret
  exact ⟨rfl, rfl⟩
set_option maxHeartbeats 400000 in
set_option maxRecDepth 1000000 in
theorem op_lt (w : World) : Calls Try.prog 60 #[.string ⟨#[108, 116]⟩] w (Pu (.bool true) w) := by
  go_enter Try.func60, Try.ntmps60
  go_wp2
  go_ret
  exact ⟨rfl, rfl⟩
set_option maxHeartbeats 400000 in
set_option maxRecDepth 1000000 in
theorem op_cat (w : World) : Calls Try.prog 60 #[.string ⟨#[99, 97, 116]⟩] w (Pu (.bool true) w) := by
  go_enter Try.func60, Try.ntmps60
  go_wp2
  go_ret
  exact ⟨rfl, rfl⟩
set_option maxHeartbeats 400000 in
set_option maxRecDepth 1000000 in
theorem op_len (w : World) : Calls Try.prog 60 #[.string ⟨#[108, 101, 110]⟩] w (Pu (.bool true) w) := by
  go_enter Try.func60, Try.ntmps60
  go_wp2
  go_ret
  exact ⟨rfl, rfl⟩
set_option maxHeartbeats 400000 in
set_option maxRecDepth 1000000 in
theorem op_at (w : World) : Calls Try.prog 60 #[.string ⟨#[97, 116]⟩] w (Pu (.bool true) w) := by
  go_enter Try.func60, Try.ntmps60
  go_wp2
  go_ret
  exact ⟨rfl, rfl⟩
set_option maxHeartbeats 400000 in
set_option maxRecDepth 1000000 in
theorem op_cut (w : World) : Calls Try.prog 60 #[.string ⟨#[99, 117, 116]⟩] w (Pu (.bool true) w) := by
  go_enter Try.func60, Try.ntmps60
  go_wp2
  go_ret
  exact ⟨rfl, rfl⟩
set_option maxHeartbeats 400000 in
set_option maxRecDepth 1000000 in
theorem op_none (l : List UInt8) (h : isOp l = false) (w : World) : Calls Try.prog 60 #[.string (str l)] w (Pu (.bool false) w) := by
  have hm : l ∉ opsL := by simpa [isOp] using h
  simp only [opsL, List.mem_cons, List.not_mem_nil, or_false, not_or] at hm
  obtain ⟨h1, h2, h3, h4, h5, h6, h7, h8, h9, h10, h11, h12, h13⟩ := hm
  have k1 := str_ne h1
  have k2 := str_ne h2
  have k3 := str_ne h3
  have k4 := str_ne h4
  have k5 := str_ne h5
  have k6 := str_ne h6
  have k7 := str_ne h7
  have k8 := str_ne h8
  have k9 := str_ne h9
  have k10 := str_ne h10
  have k11 := str_ne h11
  have k12 := str_ne h12
  have k13 := str_ne h13
  clear h h1 h2 h3 h4 h5 h6 h7 h8 h9 h10 h11 h12 h13
  go_enter Try.func60, Try.ntmps60
  go_wp2
  go_ret
  exact ⟨rfl, rfl⟩
theorem opIs (l : List UInt8) (w : World) : Calls Try.prog 60 #[.string (str l)] w (Pu (.bool (isOp l)) w) := by
  cases hr : isOp l
  · exact op_none l hr w
  · have h : l ∈ opsL := by simpa [isOp] using hr
    simp only [opsL, List.mem_cons, List.not_mem_nil, or_false] at h
    rcases h with rfl | rfl | rfl | rfl | rfl | rfl | rfl | rfl | rfl | rfl | rfl | rfl | rfl
    · exact op_add w
    · exact op_sub w
    · exact op_mul w
    · exact op_neg w
    · exact op_conj w
    · exact op_re w
    · exact op_im w
    · exact op_eq w
    · exact op_lt w
    · exact op_cat w
    · exact op_len w
    · exact op_at w
    · exact op_cut w
set_option maxHeartbeats 400000 in
set_option maxRecDepth 1000000 in
theorem key_let (w : World) : Calls Try.prog 44 #[.string ⟨#[108, 101, 116]⟩] w (Pu (.bool true) w) := by
  go_enter Try.func44, Try.ntmps44
  go_wp2
  go_ret
  exact ⟨rfl, rfl⟩
set_option maxHeartbeats 400000 in
set_option maxRecDepth 1000000 in
theorem key_if (w : World) : Calls Try.prog 44 #[.string ⟨#[105, 102]⟩] w (Pu (.bool true) w) := by
  go_enter Try.func44, Try.ntmps44
  go_wp2
  go_ret
  exact ⟨rfl, rfl⟩
set_option maxHeartbeats 400000 in
set_option maxRecDepth 1000000 in
theorem key_array (w : World) : Calls Try.prog 44 #[.string ⟨#[97, 114, 114, 97, 121]⟩] w (Pu (.bool true) w) := by
  go_enter Try.func44, Try.ntmps44
  go_wp2
  go_ret
  exact ⟨rfl, rfl⟩
set_option maxHeartbeats 400000 in
set_option maxRecDepth 1000000 in
theorem key_match (w : World) : Calls Try.prog 44 #[.string ⟨#[109, 97, 116, 99, 104]⟩] w (Pu (.bool true) w) := by
  go_enter Try.func44, Try.ntmps44
  go_wp2
  go_ret
  exact ⟨rfl, rfl⟩
set_option maxHeartbeats 400000 in
set_option maxRecDepth 1000000 in
theorem key_fn (w : World) : Calls Try.prog 44 #[.string ⟨#[102, 110]⟩] w (Pu (.bool true) w) := by
  go_enter Try.func44, Try.ntmps44
  go_wp2
  go_ret
  exact ⟨rfl, rfl⟩
set_option maxHeartbeats 400000 in
set_option maxRecDepth 1000000 in
theorem key_call (w : World) : Calls Try.prog 44 #[.string ⟨#[99, 97, 108, 108]⟩] w (Pu (.bool true) w) := by
  go_enter Try.func44, Try.ntmps44
  go_wp2
  go_ret
  exact ⟨rfl, rfl⟩
set_option maxHeartbeats 400000 in
set_option maxRecDepth 1000000 in
theorem key_num (w : World) : Calls Try.prog 44 #[.string ⟨#[110, 117, 109]⟩] w (Pu (.bool true) w) := by
  go_enter Try.func44, Try.ntmps44
  go_wp2
  go_ret
  exact ⟨rfl, rfl⟩
set_option maxHeartbeats 400000 in
set_option maxRecDepth 1000000 in
theorem key_bytes (w : World) : Calls Try.prog 44 #[.string ⟨#[98, 121, 116, 101, 115]⟩] w (Pu (.bool true) w) := by
  go_enter Try.func44, Try.ntmps44
  go_wp2
  go_ret
  exact ⟨rfl, rfl⟩
set_option maxHeartbeats 400000 in
set_option maxRecDepth 1000000 in
theorem key_module (w : World) : Calls Try.prog 44 #[.string ⟨#[109, 111, 100, 117, 108, 101]⟩] w (Pu (.bool true) w) := by
  go_enter Try.func44, Try.ntmps44
  go_wp2
  go_ret
  exact ⟨rfl, rfl⟩
set_option maxHeartbeats 400000 in
set_option maxRecDepth 1000000 in
theorem key_import (w : World) : Calls Try.prog 44 #[.string ⟨#[105, 109, 112, 111, 114, 116]⟩] w (Pu (.bool true) w) := by
  go_enter Try.func44, Try.ntmps44
  go_wp2
  go_ret
  exact ⟨rfl, rfl⟩
set_option maxHeartbeats 400000 in
set_option maxRecDepth 1000000 in
theorem key_export (w : World) : Calls Try.prog 44 #[.string ⟨#[101, 120, 112, 111, 114, 116]⟩] w (Pu (.bool true) w) := by
  go_enter Try.func44, Try.ntmps44
  go_wp2
  go_ret
  exact ⟨rfl, rfl⟩
set_option maxHeartbeats 400000 in
set_option maxRecDepth 1000000 in
theorem key_type (w : World) : Calls Try.prog 44 #[.string ⟨#[116, 121, 112, 101]⟩] w (Pu (.bool true) w) := by
  go_enter Try.func44, Try.ntmps44
  go_wp2
  go_ret
  exact ⟨rfl, rfl⟩
set_option maxHeartbeats 400000 in
set_option maxRecDepth 1000000 in
theorem key_const (w : World) : Calls Try.prog 44 #[.string ⟨#[99, 111, 110, 115, 116]⟩] w (Pu (.bool true) w) := by
  go_enter Try.func44, Try.ntmps44
  go_wp2
  go_ret
  exact ⟨rfl, rfl⟩
set_option maxHeartbeats 400000 in
set_option maxRecDepth 1000000 in
theorem key_fun (w : World) : Calls Try.prog 44 #[.string ⟨#[102, 117, 110]⟩] w (Pu (.bool true) w) := by
  go_enter Try.func44, Try.ntmps44
  go_wp2
  go_ret
  exact ⟨rfl, rfl⟩
def keysL : List (List UInt8) := [[108, 101, 116], [105, 102], [97, 114, 114, 97, 121], [109, 97, 116, 99, 104], [102, 110], [99, 97, 108, 108], [110, 117, 109], [98, 121, 116, 101, 115], [109, 111, 100, 117, 108, 101], [105, 109, 112, 111, 114, 116], [101, 120, 112, 111, 114, 116], [116, 121, 112, 101], [99, 111, 110, 115, 116], [102, 117, 110]]
theorem isKey_eq (l : List UInt8) : isKey l = (isOp l || keysL.contains l) := by
  rw [Bool.eq_iff_iff]
  simp only [isKey, isOp, wordsL, List.contains_iff_mem, List.mem_append, Bool.or_eq_true]
  exact Iff.rfl
set_option maxHeartbeats 400000 in
set_option maxRecDepth 1000000 in
theorem key_none (l : List UInt8) (h : keysL.contains l = false) (w : World) : Calls Try.prog 44 #[.string (str l)] w (Pu (.bool (isOp l)) w) := by
  have hm : l ∉ keysL := by simpa using h
  simp only [keysL, List.mem_cons, List.not_mem_nil, or_false, not_or] at hm
  obtain ⟨h1, h2, h3, h4, h5, h6, h7, h8, h9, h10, h11, h12, h13, h14⟩ := hm
  have k1 := str_ne h1
  have k2 := str_ne h2
  have k3 := str_ne h3
  have k4 := str_ne h4
  have k5 := str_ne h5
  have k6 := str_ne h6
  have k7 := str_ne h7
  have k8 := str_ne h8
  have k9 := str_ne h9
  have k10 := str_ne h10
  have k11 := str_ne h11
  have k12 := str_ne h12
  have k13 := str_ne h13
  have k14 := str_ne h14
  clear h h1 h2 h3 h4 h5 h6 h7 h8 h9 h10 h11 h12 h13 h14
  have ho := opIs l
  generalize isOp l = b at *
  go_enter Try.func44, Try.ntmps44
  go_wp2_with (go_at_call 60; refine (ho _).mono ?_; rintro e w1 ⟨rfl, rfl⟩)
  go_ret
  exact ⟨rfl, rfl⟩
theorem keyIs (l : List UInt8) (w : World) : Calls Try.prog 44 #[.string (str l)] w (Pu (.bool (isKey l)) w) := by
  cases hr : keysL.contains l
  · rw [isKey_eq, hr, Bool.or_false]
    exact key_none l hr w
  · rw [isKey_eq, hr, Bool.or_true]
    have h : l ∈ keysL := by simpa using hr
    simp only [keysL, List.mem_cons, List.not_mem_nil, or_false] at h
    rcases h with rfl | rfl | rfl | rfl | rfl | rfl | rfl | rfl | rfl | rfl | rfl | rfl | rfl | rfl
    · exact key_let w
    · exact key_if w
    · exact key_array w
    · exact key_match w
    · exact key_fn w
    · exact key_call w
    · exact key_num w
    · exact key_bytes w
    · exact key_module w
    · exact key_import w
    · exact key_export w
    · exact key_type w
    · exact key_const w
    · exact key_fun w
/-- A name that may be bound. -/
def bindR (l : List UInt8) : Bool := valueR l && !isKey l
set_option maxHeartbeats 400000 in
set_option maxRecDepth 1000000 in
theorem mayBind (l : List UInt8) (w : World) (hl : l.length ≤ 8192) : Calls Try.prog 29 #[.string (str l)] w (Pu (.bool (bindR l)) w) := by
  have hv := fun w => value (str l) w (by rw [str_size]; omega)
  have hk := keyIs l
  rw [str_data] at hv
  cases h : valueR l
  · have HR : Hid (bindR l = false) := by simp [hid_iff, bindR, h]
    rw [h] at hv
    clear h
    go_enter Try.func29, Try.ntmps29
    go_wp2_with (go_at_call 38; refine (hv _).mono ?_; rintro e w1 ⟨rfl, rfl⟩)
    go_ret
    exact ⟨by rw [HR.out]; rfl, rfl⟩
  · have HR : Hid (bindR l = !isKey l) := by simp [hid_iff, bindR, h]
    rw [h] at hv
    clear h
    generalize isKey l = b at *
    go_enter Try.func29, Try.ntmps29
    go_wp2_with (first
      | (go_at_call 38; refine (hv _).mono ?_; rintro e w1 ⟨rfl, rfl⟩)
      | (go_at_call 44; refine (hk _).mono ?_; rintro e w1 ⟨rfl, rfl⟩))
    go_ret
    exact ⟨by rw [HR.out]; rfl, rfl⟩
/-- strings.Cut at a point. -/
def CutP (l : List UInt8) (w : World) (e : Ending) (w' : World) : Prop := ∃ n, e = .returned (.tuple #[.string (str (aheadR l)), .string (str (behindR l)), .bool (hasDotP l)]) ∧ w' = w.drewN n
theorem p6_twm (f : UInt8 → Bool) : ∀ (l : List UInt8), ∀ c ∈ l.takeWhile f, f c = true
  | [], c, h => by simp at h
  | x :: l, c, h => by
    by_cases hx : f x = true
    · rw [List.takeWhile_cons_of_pos hx] at h
      rcases List.mem_cons.1 h with rfl | h
      · exact hx
      · exact p6_twm f l c h
    · rw [List.takeWhile_cons_of_neg hx] at h
      simp at h
theorem p6_tws (f : UInt8 → Bool) : ∀ (l : List UInt8), l.all f = true → l.takeWhile f = l
  | [], _ => rfl
  | x :: l, h => by
    simp only [List.all_cons, Bool.and_eq_true] at h
    rw [List.takeWhile_cons_of_pos h.1, p6_tws f l h.2]
theorem ahead_all {l : List UInt8} (h : aheadR l = l) : hasDotP l = false := by
  simp only [hasDotP, Bool.not_eq_false']
  rw [List.all_eq_true]
  intro c hc
  rw [← h] at hc
  exact p6_twm notDot l c hc
theorem ahead_less {l : List UInt8} (h : (aheadR l).length < l.length) : hasDotP l = true := by
  simp only [hasDotP, Bool.not_eq_true', Bool.eq_false_iff]
  intro hc
  rw [List.all_eq_true] at hc
  have : aheadR l = l := p6_tws notDot l (List.all_eq_true.2 hc)
  rw [this] at h
  omega
set_option maxHeartbeats 1000000 in
set_option maxRecDepth 1000000 in
theorem cutLiteP (s : ByteArray) (w : World) (hs : s.size ≤ 9223372036854775806) : Calls Try.prog 70 #[.string s, .string ⟨#[46]⟩] w (CutP s.data.toList w) := by
  have hc := fun v => Try.stringslite_Index_one s 46 v
  rcases idx_dot s.data.toList with ⟨e1, e2⟩ | ⟨e1, e2⟩
  · have HR : Hid (str (aheadR s.data.toList) = s) := by rw [hid_iff, e2, str_toList]
    have HB : Hid (behindR s.data.toList = []) := by
      rw [hid_iff, behindR, e2]; simp
    have HD : Hid (hasDotP s.data.toList = false) := ahead_all e2
    rw [e1] at hc
    clear e1 e2
    go_enter Try.func70, Try.ntmps70
    go_wp2_with (go_at_call 78; refine (hc _).mono ?_; rintro e w1 ⟨rfl, rfl⟩)
    go_ret3
    exact ⟨0, by rw [HR.out, HB.out, HD.out]; rfl, rfl⟩
  · have HD : Hid (hasDotP s.data.toList = true) := ahead_less e2
    rw [e1] at hc
    rw [size_len] at e2
    have k1 : ((aheadR s.data.toList).length : Int) ≤ (s.size : Int) := by omega
    have k2 : ((aheadR s.data.toList).length : Int) + 1 ≤ (s.size : Int) := by omega
    have HR : Hid (s.extract 0 (aheadR s.data.toList).length = str (aheadR s.data.toList)) := by
      rw [hid_iff, str_take, ahead_take]
    have HB : Hid (s.extract ((aheadR s.data.toList).length + 1) s.size = str (behindR s.data.toList)) := by
      rw [hid_iff, str_drop, behindR]
    generalize hyg : behindR s.data.toList = y at *
    generalize hxg : aheadR s.data.toList = x at *
    have HX : Hid (aheadR s.data.toList = x) := hxg
    have HY : Hid (behindR s.data.toList = y) := hyg
    clear e1 hxg hyg
    have k3 : IntKind.i64.wrap ((x.length : Int) + 1) = (x.length : Int) + 1 := by rw [IntKind.wrap_i64]; omega
    have k4 : (0 : Int) ≤ (x.length : Int) + 1 := by omega
    have k5 : ((x.length : Int) + 1).toNat = x.length + 1 := by omega
    go_enter Try.func70, Try.ntmps70
    go_wp2_with (go_at_call 78; refine (hc _).mono ?_; rintro e w1 ⟨rfl, rfl⟩)
    go_region
    go_wp2
    go_ret3
    exact ⟨1, by rw [HX.out, HY.out, HD.out, ← HR.out, ← HB.out]; rfl, rfl⟩
set_option maxHeartbeats 1000000 in
set_option maxRecDepth 1000000 in
theorem cutDotP (s : ByteArray) (w : World) (hs : s.size ≤ 9223372036854775806) : Calls Try.prog 59 #[.string s, .string ⟨#[46]⟩] w (CutP s.data.toList w) := by
  go_enter Try.func59, Try.ntmps59
  go_wp2_with (go_at_call 70; refine (cutLiteP s _ hs).mono ?_; rintro e w1 ⟨n, rfl, rfl⟩)
  go_ret3
  exact ⟨n, rfl, rfl⟩
theorem nodot_letter {l : List UInt8} (h : l.all isLetter = true) : hasDotP l = false := by
  simp only [hasDotP, Bool.not_eq_false', List.all_eq_true] at h ⊢
  exact fun c hc => letter_dot (h c hc)
theorem name_nodot {l : List UInt8} (h : nameR l = true) : hasDotP l = false := by
  simp only [nameR, Bool.and_eq_true] at h
  exact nodot_letter h.2
theorem pathV_dot {l : List UInt8} (h : hasDotP l = true) : pathV l = (valueR (aheadR l) && valueR (behindR l)) := by
  have hv : valueR l = false := by
    rw [Bool.eq_false_iff]
    intro e
    simp only [valueR, Bool.and_eq_true] at e
    rw [name_nodot e.1] at h
    cases h
  simp [pathV, dotR, h, hv]
theorem pathV_nodot {l : List UInt8} (h : hasDotP l = false) : pathV l = valueR l := by simp [pathV, dotR, h]
theorem pathB_dot {l : List UInt8} (h : hasDotP l = true) : pathB l = (valueR (aheadR l) && bigR (behindR l)) := by
  have hv : bigR l = false := by
    rw [Bool.eq_false_iff]
    intro e
    simp only [bigR, Bool.and_eq_true] at e
    rw [name_nodot e.1] at h
    cases h
  simp [pathB, dotR, h, hv]
theorem pathB_nodot {l : List UInt8} (h : hasDotP l = false) : pathB l = bigR l := by simp [pathB, dotR, h]
theorem ahead_le (l : List UInt8) : (aheadR l).length ≤ l.length := (List.takeWhile_sublist _).length_le
theorem behind_le (l : List UInt8) : (behindR l).length ≤ l.length := by
  rw [behindR, List.length_drop]
  omega
end Go.Proofs.Ytchfhkfepghfjaa

namespace Go.Proofs.Ytchfhkfepghfjaa
open Go.RowKit

set_option maxHeartbeats 1000000 in
set_option maxRecDepth 1000000 in
theorem isPathV (l : List UInt8) (w : World) (hl : l.length ≤ 8192) : Calls Try.prog 42 #[.string (str l), .func (.func 38) #[] #[]] w (BoolD (pathV l) w) := by
  have hc := fun w => cutDotP (str l) w (by rw [str_size]; omega)
  rw [str_data] at hc
  cases h : hasDotP l
  · have HP : Hid (pathV l = valueR l) := pathV_nodot h
    have hv := fun w => value (str l) w (by rw [str_size]; omega)
    rw [str_data] at hv
    unfold CutP at hc
    simp only [h] at hc
    clear h
    generalize valueR l = b at *
    go_enter Try.func42, Try.ntmps42
    go_wp2_with (first
      | (go_at_call 59; refine (hc _).mono ?_; rintro e w1 ⟨n, rfl, rfl⟩)
      | (go_at_call 38; refine (hv _).mono ?_; rintro e w1 ⟨rfl, rfl⟩))
    go_ret
    exact ⟨n, by rw [HP.out]; rfl, rfl⟩
  · have HP : Hid (pathV l = (valueR (aheadR l) && valueR (behindR l))) := pathV_dot h
    have ha := ahead_le l
    have hb := behind_le l
    have hv := fun w => value (str (aheadR l)) w (by rw [str_size]; omega)
    have hg := fun w => value (str (behindR l)) w (by rw [str_size]; omega)
    rw [str_data] at hv hg
    unfold CutP at hc
    simp only [h] at hc
    clear h ha hb
    generalize aheadR l = x at *
    generalize behindR l = y at *
    cases hx : valueR x
    · rw [hx] at hv
      rw [hx, Bool.false_and] at HP
      clear hx hg
      go_enter Try.func42, Try.ntmps42
      go_wp2_with (first
        | (go_at_call 59; refine (hc _).mono ?_; rintro e w1 ⟨n, rfl, rfl⟩)
        | (go_at_call 38; refine (hv _).mono ?_; rintro e w1 ⟨rfl, rfl⟩))
      go_ret
      exact ⟨n, by rw [HP.out]; rfl, rfl⟩
    · rw [hx] at hv
      rw [hx, Bool.true_and] at HP
      clear hx
      generalize valueR y = b at *
      go_enter Try.func42, Try.ntmps42
      go_wp2_with (first
        | (go_at_call 59; refine (hc _).mono ?_; rintro e w1 ⟨n, rfl, rfl⟩)
        | (go_at_call_of 38 (Value.string (str x)); refine (hv _).mono ?_; rintro e w1 ⟨rfl, rfl⟩)
        | (go_at_call_of 38 (Value.string (str y)); refine (hg _).mono ?_; rintro e w1 ⟨rfl, rfl⟩))
      go_ret
      exact ⟨n, by rw [HP.out]; rfl, rfl⟩
set_option maxHeartbeats 1000000 in
set_option maxRecDepth 1000000 in
theorem isPathB (l : List UInt8) (w : World) (hl : l.length ≤ 8192) : Calls Try.prog 42 #[.string (str l), .func (.func 43) #[] #[]] w (BoolD (pathB l) w) := by
  have hc := fun w => cutDotP (str l) w (by rw [str_size]; omega)
  rw [str_data] at hc
  cases h : hasDotP l
  · have HP : Hid (pathB l = bigR l) := pathB_nodot h
    have hv := fun w => big (str l) w (by rw [str_size]; omega)
    rw [str_data] at hv
    unfold CutP at hc
    simp only [h] at hc
    clear h
    generalize bigR l = b at *
    go_enter Try.func42, Try.ntmps42
    go_wp2_with (first
      | (go_at_call 59; refine (hc _).mono ?_; rintro e w1 ⟨n, rfl, rfl⟩)
      | (go_at_call 43; refine (hv _).mono ?_; rintro e w1 ⟨rfl, rfl⟩))
    go_ret
    exact ⟨n, by rw [HP.out]; rfl, rfl⟩
  · have HP : Hid (pathB l = (valueR (aheadR l) && bigR (behindR l))) := pathB_dot h
    have ha := ahead_le l
    have hb := behind_le l
    have hv := fun w => value (str (aheadR l)) w (by rw [str_size]; omega)
    have hg := fun w => big (str (behindR l)) w (by rw [str_size]; omega)
    rw [str_data] at hv hg
    unfold CutP at hc
    simp only [h] at hc
    clear h ha hb
    generalize aheadR l = x at *
    generalize behindR l = y at *
    cases hx : valueR x
    · rw [hx] at hv
      rw [hx, Bool.false_and] at HP
      clear hx hg
      go_enter Try.func42, Try.ntmps42
      go_wp2_with (first
        | (go_at_call 59; refine (hc _).mono ?_; rintro e w1 ⟨n, rfl, rfl⟩)
        | (go_at_call 38; refine (hv _).mono ?_; rintro e w1 ⟨rfl, rfl⟩))
      go_ret
      exact ⟨n, by rw [HP.out]; rfl, rfl⟩
    · rw [hx] at hv
      rw [hx, Bool.true_and] at HP
      clear hx
      generalize bigR y = b at *
      go_enter Try.func42, Try.ntmps42
      go_wp2_with (first
        | (go_at_call 59; refine (hc _).mono ?_; rintro e w1 ⟨n, rfl, rfl⟩)
        | (go_at_call_of 38 (Value.string (str x)); refine (hv _).mono ?_; rintro e w1 ⟨rfl, rfl⟩)
        | (go_at_call_of 43 (Value.string (str y)); refine (hg _).mono ?_; rintro e w1 ⟨rfl, rfl⟩))
      go_ret
      exact ⟨n, by rw [HP.out]; rfl, rfl⟩
set_option maxHeartbeats 1000000 in
set_option maxRecDepth 1000000 in
theorem toV (l : List UInt8) (w : World) (hl : l.length ≤ 8192) : Calls Try.prog 46 #[.string (str l)] w (BoolD (pathV l) w) := by
  have hp := fun w => isPathV l w hl
  generalize pathV l = b at *
  go_enter Try.func46, Try.ntmps46
  go_wp2_with (go_at_call 42; refine (hp _).mono ?_; rintro e w1 ⟨n, rfl, rfl⟩)
  go_ret
  exact ⟨n, rfl, rfl⟩
set_option maxHeartbeats 1000000 in
set_option maxRecDepth 1000000 in
theorem toB (l : List UInt8) (w : World) (hl : l.length ≤ 8192) : Calls Try.prog 27 #[.string (str l)] w (BoolD (pathB l) w) := by
  have hp := fun w => isPathB l w hl
  generalize pathB l = b at *
  go_enter Try.func27, Try.ntmps27
  go_wp2_with (go_at_call 42; refine (hp _).mono ?_; rintro e w1 ⟨n, rfl, rfl⟩)
  go_ret
  exact ⟨n, rfl, rfl⟩
end Go.Proofs.Ytchfhkfepghfjaa
