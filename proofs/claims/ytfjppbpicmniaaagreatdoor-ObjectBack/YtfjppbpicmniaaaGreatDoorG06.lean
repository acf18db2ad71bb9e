/-
  The words of a type's text: strings.IndexAny at any bytes, strings.Cut at a point; the package's word, cut, rightWord.
-/
import Derived.Lib.OthersKept
import Derived.Test.YtfjppbpicmniaaaGreatDoorG05
namespace Go.Proofs.YtfjppbpicmniaaaGreatDoor
open Go.RowKit Go.Lib

theorem hid_iff (p : Prop) : Hid p = p := rfl
theorem noAny_far {s chars : List UInt8} {i n : Nat} (h : NoAny s chars i) (hw : ∀ j b, i ≤ j → j < n → s[j]? = some b → chars.contains b = false) : NoAny s chars n := by
  intro j b hj hb
  rcases Nat.lt_or_ge j i with h1 | h1
  · exact h j b h1 hb
  · exact hw j b h1 hj hb
theorem sgn_high (b : UInt8) (h : 128 ≤ b.toNat) : ([91, 93, 40, 41, 44] : List UInt8).contains b = false := by
  rw [Bool.eq_false_iff]
  intro hc
  rw [List.contains_iff_mem] at hc
  simp only [List.mem_cons, List.not_mem_nil, or_false] at hc
  rcases hc with rfl | rfl | rfl | rfl | rfl <;> simp at h

set_option maxHeartbeats 4000000 in
set_option maxRecDepth 1000000 in
theorem idxAny_short (s : ByteArray) (w : World) (h8 : s.size ≤ 8) :
    Calls Tryz.prog 201 #[.string s, .string ⟨#[91, 93, 40, 41, 44]⟩] w fun e w' => e = .returned (.int .i64 (indexAny s.data.toList [91, 93, 40, 41, 44])) ∧ Below w.heap.size w w' := by
  have h8z : decide ((8 : Int) < (s.size : Int)) = false := decide_eq_false (by omega)
  go_enter Tryz.func201, Tryz.ntmps201
  go_wp2_with (go_at_call 215; refine (Tryz.strings_shouldUseASCIISet _ _).mono ?_; rintro e w' ⟨rfl, hw⟩; rw [hw, h8z])
  clear hw
  go_loopg [9, 10] s.size (fun g _ _ wx => ∃ i : Nat, i + g = s.size ∧ Hid (NoAny s.data.toList [91, 93, 40, 41, 44] i) ∧ wx.heap[w.heap.size]? = some (.stringIter s i) ∧ Below w.heap.size w wx)
  case atStart => exact ⟨0, by omega, NoAny.zero _ _, World.iter_heap _ _ _, (Below.refl _ _).alloc (Nat.le_refl _) _⟩
  case round =>
    obtain ⟨i, hig, hno, hk, hbl⟩ := hrel
    by_cases hi : i < s.size
    · by_cases hx : (s[i]'hi).toNat < 128
      · have hnx := fun ty => run_next_ascii_at (P := Tryz.prog) wr w.heap.size s i ty hk hi hx
        have hk2 := iterAt_heap wr w.heap.size s i (i + 1) hk
        have hb2 := below_iterAt hbl (Nat.le_refl _) s (i + 1)
        obtain ⟨x, hxe⟩ : ∃ x : UInt8, s[i]'hi = x := ⟨_, rfl⟩
        have Hx : Hid (s.data.toList[i]? = some x) := by
          rw [← hxe]; exact Lib.data_getElem? s i hi
        rw [hxe] at hnx hx
        clear hxe hk
        have hcon := Lib.contains_iff_indexByte [91, 93, 40, 41, 44] x
        have hback : ((x.toNat : Int)).toNat.toUInt8 = x := by simp
        have hir := fun v => Tryz.strings_IndexRune_ascii ⟨#[91, 93, 40, 41, 44]⟩ (x.toNat : Int) v (by omega) (by omega)
        rw [hback] at hir
        generalize wr.iterAt w.heap.size s (i + 1) = wq at *
        cases hin : ([91, 93, 40, 41, 44] : List UInt8).contains x
        · rw [hin] at hcon
          have HN : Hid (NoAny s.data.toList [91, 93, 40, 41, 44] (i + 1)) := hno.out.succ Hx.out hin
          have hlt : ¬ ((0 : Int) ≤ Lib.indexByte [91, 93, 40, 41, 44] x) := of_decide_eq_false hcon.symm
          clear hcon hin hno Hx
          generalize Lib.indexByte [91, 93, 40, 41, 44] x = y at *
          go_wp2_with (go_at_call 214; refine (hir _).mono ?_; rintro e w' ⟨rfl, hw⟩; rw [hw])
          go_roundg (s.size - (i + 1))
          case measure => omega
          case rel => exact ⟨i + 1, by omega, HN, hk2, hb2⟩
        · rw [hin] at hcon
          have hge : (0 : Int) ≤ Lib.indexByte [91, 93, 40, 41, 44] x := of_decide_eq_true hcon.symm
          have HN : Hid (Lib.indexAny s.data.toList [91, 93, 40, 41, 44] = (i : Int)) := Lib.indexAny_hit hno.out Hx.out hin
          clear hcon hin hno Hx
          generalize Lib.indexByte [91, 93, 40, 41, 44] x = y at *
          go_wp2_with (go_at_call 214; refine (hir _).mono ?_; rintro e w' ⟨rfl, hw⟩; rw [hw])
          go_ret
          exact ⟨by rw [HN.out]; rfl, hb2⟩
      · have hh := decode_high s i hi (by omega)
        have hwd := decode_wide s i hi (by omega)
        have hnx := fun ty => run_next_any_at (P := Tryz.prog) wr w.heap.size s i ty hk hi
        generalize Utf8.decode s i = dr at *
        obtain ⟨r, n⟩ := dr
        simp only at hh hwd hnx
        have hk2 := iterAt_heap wr w.heap.size s i (i + n) hk
        have hb2 := below_iterAt hbl (Nat.le_refl _) s (i + n)
        have HN : Hid (NoAny s.data.toList [91, 93, 40, 41, 44] (i + n)) := by
          refine noAny_far hno.out (fun j b h1 h2 hb => sgn_high b ?_)
          obtain ⟨h3, rfl⟩ := List.getElem?_eq_some_iff.1 hb
          exact hwd.2 j (by rw [← size_len]; exact h3) h1 h2
        have hir := fun v => idxRune ⟨#[91, 93, 40, 41, 44]⟩ sgn_low rfl r v hh.1
        have hn1 := hh.2
        have hn2 := hwd.1
        clear hk hno hh hwd
        have hws : w.heap.size < (wr.iterAt w.heap.size s (i + n)).heap.size := (Array.getElem?_eq_some_iff.1 hk2).1
        generalize wr.iterAt w.heap.size s (i + n) = wq at *
        go_wp2_with fail
        refine (hir _).mono ?_
        rintro e w1 ⟨rfl, hb1⟩
        have hk3 : w1.heap[w.heap.size]? = some (.stringIter s (i + n)) := (hb1.block _ hws).trans hk2
        have hb3 : Below w.heap.size w w1 := hb2.trans ⟨hb1.os, hb1.tape, hb1.output, hb1.size, fun k hk => hb1.block k (by omega)⟩
        clear hir hk2 hb2 hb1
        go_wp2
        go_roundg (s.size - (i + n))
        case measure => omega
        case rel => exact ⟨i + n, by omega, HN, hk3, hb3⟩
    · have hnx := fun ty => run_next_end_at (P := Tryz.prog) wr w.heap.size s i ty hk hi
      have HN : Hid (Lib.indexAny s.data.toList [91, 93, 40, 41, 44] = -1) := by
        refine Lib.indexAny_none ?_
        rw [size_len]
        have := hno.out
        rwa [show i = s.size from by omega] at this
      clear hno
      go_wp2
      go_ret
      exact ⟨by rw [HN.out]; rfl, hbl⟩

theorem info256 : (Tryz.prog.info? 260).map (fun i => (i.zero, i.size)) = some (some (.agg (Array.replicate 256 (.bool false))), 256) := by kernel_rfl
set_option maxRecDepth 100000 in
theorem idxAny (s : ByteArray) (w : World) (hs : s.size ≤ 8192) :
    Calls Tryz.prog 201 #[.string s, .string ⟨#[91, 93, 40, 41, 44]⟩] w fun e w' => e = .returned (.int .i64 (indexAny s.data.toList [91, 93, 40, 41, 44])) ∧ Below w.heap.size w w' := by
  by_cases h8 : s.size ≤ 8
  · exact idxAny_short s w h8
  · refine (Tryz.strings_IndexAny_long (zero_of_info info256).1 s ⟨#[91, 93, 40, 41, 44]⟩ w (by decide) (by omega) (by omega) (by decide) (fun j b hb => low_mem sgn sgn_low b (List.mem_of_getElem? hb))).mono ?_
    rintro e w' ⟨h1, rfl⟩
    exact ⟨h1, ((Below.refl _ _).alloc (Nat.le_refl _) _).alloc (by simp) _⟩

/-- Where the first byte stands for which f does not hold. -/
theorem find_tw (f : UInt8 → Bool) (g : List UInt8 → Int) (h0 : g [] = -1) (h1 : ∀ b l, g (b :: l) = if f b then (if g l == -1 then -1 else g l + 1) else 0) : ∀ l : List UInt8, (g l = -1 ∧ l.takeWhile f = l) ∨ (g l = ((l.takeWhile f).length : Int) ∧ (l.takeWhile f).length < l.length)
  | [] => .inl ⟨h0, rfl⟩
  | b :: l => by
    have ih := find_tw f g h0 h1 l
    rw [h1]
    by_cases hb : f b = true
    · rw [List.takeWhile_cons_of_pos hb, if_pos hb]
      rcases ih with ⟨e1, e2⟩ | ⟨e1, e2⟩
      · exact .inl ⟨by rw [e1]; rfl, by rw [e2]⟩
      · right
        rw [e1, if_neg (by rw [beq_iff_eq]; omega)]
        exact ⟨by simp, by simpa using e2⟩
    · rw [List.takeWhile_cons_of_neg hb, if_neg hb]
      exact .inr ⟨rfl, by simp⟩
set_option maxRecDepth 100000 in
theorem sgn_sign (b : UInt8) : ([91, 93, 40, 41, 44] : List UInt8).contains b = isSign b := by
  have key : ∀ n : Fin 256, ([91, 93, 40, 41, 44] : List UInt8).contains (UInt8.ofNat n.val) = isSign (UInt8.ofNat n.val) := by decide
  have := key ⟨b.toNat, b.toNat_lt⟩
  simpa using this
theorem idx_word (l : List UInt8) : (indexAny l [91, 93, 40, 41, 44] = -1 ∧ wordR l = l) ∨ (indexAny l [91, 93, 40, 41, 44] = ((wordR l).length : Int) ∧ (wordR l).length < l.length) := by
  refine find_tw notSign (fun l => indexAny l [91, 93, 40, 41, 44]) rfl (fun b l => ?_) l
  show indexAny (b :: l) _ = _
  rw [indexAny, sgn_sign, notSign]
  cases isSign b <;> simp
theorem idx_dot (l : List UInt8) : (indexByte l 46 = -1 ∧ aheadR l = l) ∨ (indexByte l 46 = ((aheadR l).length : Int) ∧ (aheadR l).length < l.length) := by
  refine find_tw notDot (fun l => indexByte l 46) rfl (fun b l => ?_) l
  show indexByte (b :: l) _ = _
  have hb : (b == 46) = decide (b.toNat = 46) := by
    rw [Bool.eq_iff_iff, beq_iff_eq, decide_eq_true_iff]
    exact ⟨fun h => by rw [h]; rfl, fun h => UInt8.toNat_inj.1 (by rw [h]; rfl)⟩
  rw [indexByte, hb, notDot]
  cases decide (b.toNat = 46) <;> simp
theorem str_take (s : ByteArray) (n : Nat) : s.extract 0 n = str (s.data.toList.take n) := by rw [extract_str]; simp
theorem str_drop (s : ByteArray) (n : Nat) : s.extract n s.size = str (s.data.toList.drop n) := by
  rw [extract_str, List.take_of_length_le (by rw [List.length_drop, size_len]; omega)]
theorem word_take (l : List UInt8) : l.take (wordR l).length = wordR l := take_tw _ _
theorem ahead_take (l : List UInt8) : l.take (aheadR l).length = aheadR l := take_tw _ _
theorem word_le (l : List UInt8) : (wordR l).length ≤ l.length := (List.takeWhile_prefix _).length_le

/-- A text; what was there stays. -/
def TextB (l : List UInt8) (w : World) (e : Ending) (w' : World) : Prop := e = .returned (.string (str l)) ∧ Below w.heap.size w w'

set_option maxHeartbeats 1000000 in
set_option maxRecDepth 1000000 in
theorem word (s : ByteArray) (w : World) (hs : s.size ≤ 8192) : Calls Tryz.prog 176 #[.string s] w (TextB (wordR s.data.toList) w) := by
  have hc := idxAny s
  rcases idx_word s.data.toList with ⟨e1, e2⟩ | ⟨e1, e2⟩
  · have HR : Hid (wordR s.data.toList = s.data.toList) := e2
    rw [e1] at hc
    clear e1 e2
    go_enter Tryz.func176, Tryz.ntmps176
    go_wp2_with (go_at_call 201; refine (hc _ hs).mono ?_; rintro e w1 ⟨rfl, hb⟩)
    go_ret
    exact ⟨by rw [HR.out, str_toList]; rfl, hb⟩
  · rw [e1] at hc
    rw [size_len] at e2
    have k1 : ((wordR s.data.toList).length : Int) ≤ (s.size : Int) := by omega
    have HR : Hid (s.extract 0 (wordR s.data.toList).length = str (wordR s.data.toList)) := by
      rw [hid_iff, str_take, word_take]
    generalize wordR s.data.toList = x at *
    clear e1
    go_enter Tryz.func176, Tryz.ntmps176
    go_wp2_with (go_at_call 201; refine (hc _ hs).mono ?_; rintro e w1 ⟨rfl, hb⟩)
    go_ret
    exact ⟨by rw [← HR.out]; rfl, hb⟩

/-- strings.Cut at a point. -/
def CutS (l : List UInt8) (w : World) (e : Ending) (w' : World) : Prop := ∃ b n, e = .returned (.tuple #[.string (str (aheadR l)), .string (str (behindR l)), .bool b]) ∧ w' = w.drewN n

set_option maxHeartbeats 1000000 in
set_option maxRecDepth 1000000 in
theorem cutLite (s : ByteArray) (w : World) (hs : s.size ≤ 9223372036854775806) : Calls Tryz.prog 220 #[.string s, .string ⟨#[46]⟩] w (CutS s.data.toList w) := by
  have hc := fun v => Tryz.stringslite_Index_one s 46 v
  rcases idx_dot s.data.toList with ⟨e1, e2⟩ | ⟨e1, e2⟩
  · have HR : Hid (str (aheadR s.data.toList) = s) := by rw [hid_iff, e2, str_toList]
    have HB : Hid (behindR s.data.toList = []) := by
      rw [hid_iff, behindR, e2]; simp
    rw [e1] at hc
    clear e1 e2
    go_enter Tryz.func220, Tryz.ntmps220
    go_wp2_with (go_at_call 229; refine (hc _).mono ?_; rintro e w1 ⟨rfl, rfl⟩)
    go_ret3
    exact ⟨false, 0, by rw [HR.out, HB.out]; rfl, rfl⟩
  · rw [e1] at hc
    rw [size_len] at e2
    have k1 : ((aheadR s.data.toList).length : Int) ≤ (s.size : Int) := by omega
    have k2 : ((aheadR s.data.toList).length : Int) + 1 ≤ (s.size : Int) := by omega
    have HR : Hid (s.extract 0 (aheadR s.data.toList).length = str (aheadR s.data.toList)) := by
      rw [hid_iff, str_take, ahead_take]
    have HB : Hid (s.extract ((aheadR s.data.toList).length + 1) s.size = str (behindR s.data.toList)) := by
      rw [hid_iff, str_drop, behindR]
    generalize hyg : behindR s.data.toList = y at *
    generalize hxg : aheadR s.data.toList = x at *
    have HX : Hid (aheadR s.data.toList = x) := hxg
    have HY : Hid (behindR s.data.toList = y) := hyg
    clear e1 hxg hyg
    have k3 : IntKind.i64.wrap ((x.length : Int) + 1) = (x.length : Int) + 1 := by rw [IntKind.wrap_i64]; omega
    have k4 : (0 : Int) ≤ (x.length : Int) + 1 := by omega
    have k5 : ((x.length : Int) + 1).toNat = x.length + 1 := by omega
    go_enter Tryz.func220, Tryz.ntmps220
    go_wp2_with (go_at_call 229; refine (hc _).mono ?_; rintro e w1 ⟨rfl, rfl⟩)
    go_region
    go_wp2
    go_ret3
    exact ⟨true, 1, by rw [HX.out, HY.out, ← HR.out, ← HB.out]; rfl, rfl⟩

set_option maxHeartbeats 1000000 in
set_option maxRecDepth 1000000 in
theorem cutDot (s : ByteArray) (w : World) (hs : s.size ≤ 9223372036854775806) : Calls Tryz.prog 213 #[.string s, .string ⟨#[46]⟩] w (CutS s.data.toList w) := by
  go_enter Tryz.func213, Tryz.ntmps213
  go_wp2_with (go_at_call 220; refine (cutLite s _ hs).mono ?_; rintro e w1 ⟨b, n, rfl, rfl⟩)
  go_ret3
  exact ⟨b, n, rfl, rfl⟩

/-- The parts of a named type; nothing, if it is none. -/
def CutE (l : List UInt8) (w : World) (e : Ending) (w' : World) : Prop :=
  e = .returned (if namedR l = true then .tuple #[.string (str (aheadR l)), .string (str (behindR l)), .bool true] else .tuple #[.string (str []), .string (str []), .bool false]) ∧ ∃ n, w' = w.drewN n
theorem cutE_yes {l : List UInt8} {w : World} {x y : List UInt8} (h : namedR l = true) (hx : aheadR l = x) (hy : behindR l = y) (n : Nat) : CutE l w (.returned (.tuple #[.string (str x), .string (str y), .bool true])) (w.drewN n) := by
  subst hx hy
  exact ⟨by rw [if_pos h], n, rfl⟩
theorem cutE_no {l : List UInt8} {w : World} {x y : ByteArray} (h : namedR l = false) (hx : x = str []) (hy : y = str []) (n : Nat) : CutE l w (.returned (.tuple #[.string x, .string y, .bool false])) (w.drewN n) := by
  subst hx hy
  exact ⟨by rw [if_neg (by rw [h]; decide)], n, rfl⟩

set_option maxHeartbeats 1000000 in
set_option maxRecDepth 1000000 in
theorem cut (s : ByteArray) (w : World) (hs : s.size ≤ 9223372036854775806) : Calls Tryz.prog 200 #[.string s] w (CutE s.data.toList w) := by
  have hc := cutDot s w hs
  unfold CutS at hc
  have hl1 : (aheadR s.data.toList).length ≤ 9223372036854775806 := by
    have := (List.takeWhile_prefix (l := s.data.toList) notDot).length_le
    rw [size_len] at this
    exact Nat.le_trans this hs
  have hl2 : (behindR s.data.toList).length ≤ 9223372036854775806 := by
    have : (behindR s.data.toList).length ≤ s.size := by rw [behindR, List.length_drop, size_len]; omega
    omega
  have HN : Hid (namedR s.data.toList = (valueR (aheadR s.data.toList) && bigR (behindR s.data.toList))) := rfl
  generalize hyg : behindR s.data.toList = y at *
  generalize hxg : aheadR s.data.toList = x at *
  have HX : Hid (aheadR s.data.toList = x) := hxg
  have HY : Hid (behindR s.data.toList = y) := hyg
  clear hxg hyg
  have hv := fun v => value (str x) v hl1
  have hb := fun v => big (str y) v hl2
  rw [str_data] at hv hb
  cases hvx : valueR x
  · rw [hvx] at hv HN
    go_enter Tryz.func200, Tryz.ntmps200
    go_wp2_with (go_at_call 213; refine hc.mono ?_; rintro e w1 ⟨b, n, rfl, rfl⟩)
    refine (hv _).mono ?_
    rintro e w1 ⟨rfl, rfl⟩
    go_wp2
    go_ret3
    exact cutE_no HN.out rfl rfl n
  · cases hby : bigR y
    · rw [hvx] at hv HN
      rw [hby] at hb HN
      go_enter Tryz.func200, Tryz.ntmps200
      go_wp2_with (go_at_call 213; refine hc.mono ?_; rintro e w1 ⟨b, n, rfl, rfl⟩)
      refine (hv _).mono ?_
      rintro e w1 ⟨rfl, rfl⟩
      go_wp2_with fail
      refine (hb _).mono ?_
      rintro e w1 ⟨rfl, rfl⟩
      go_wp2
      go_ret3
      exact cutE_no HN.out rfl rfl n
    · rw [hvx] at hv HN
      rw [hby] at hb HN
      go_enter Tryz.func200, Tryz.ntmps200
      go_wp2_with (go_at_call 213; refine hc.mono ?_; rintro e w1 ⟨b, n, rfl, rfl⟩)
      refine (hv _).mono ?_
      rintro e w1 ⟨rfl, rfl⟩
      go_wp2_with fail
      refine (hb _).mono ?_
      rintro e w1 ⟨rfl, rfl⟩
      go_wp2
      go_ret3
      exact cutE_yes HN.out HX.out HY.out n

/-- A bool; nothing is drawn but the order. -/
def BoolE (b : Bool) (w : World) (e : Ending) (w' : World) : Prop := e = .returned (.bool b) ∧ ∃ n, w' = w.drewN n
theorem wordOk_named {l : List UInt8} (h : namedR l = true) : wordOk l = true := by simp [wordOk, h]
theorem wordOk_other {l : List UInt8} (h : namedR l = false) : wordOk l = (decide (l = numL) || decide (l = bytesL)) := by simp [wordOk, h]
theorem str_eq_iff (s : ByteArray) (l : List UInt8) : s = str l ↔ s.data.toList = l := by
  constructor
  · rintro rfl; rfl
  · intro h; rw [← h, str_toList]

set_option maxHeartbeats 1000000 in
set_option maxRecDepth 1000000 in
theorem rightWord (s : ByteArray) (w : World) (hs : s.size ≤ 9223372036854775806) : Calls Tryz.prog 175 #[.string s] w (BoolE (wordOk s.data.toList) w) := by
  have hc := cut s w hs
  unfold CutE at hc
  cases hn : namedR s.data.toList
  · simp only [hn, Bool.false_eq_true, if_false] at hc
    have HN : Hid (wordOk s.data.toList = (decide (s.data.toList = numL) || decide (s.data.toList = bytesL))) := wordOk_other hn
    clear hn
    by_cases h1 : s = ⟨#[110, 117, 109]⟩
    · have HO : Hid (wordOk s.data.toList = true) := by rw [hid_iff, HN.out, (str_eq_iff s numL).1 h1]; rfl
      clear HN
      subst h1
      go_enter Tryz.func175, Tryz.ntmps175
      go_wp2_with (go_at_call 200; refine hc.mono ?_; rintro e w1 ⟨rfl, n, rfl⟩)
      go_ret
      exact ⟨by rw [HO.out]; rfl, n, rfl⟩
    · by_cases h2 : s = ⟨#[98, 121, 116, 101, 115]⟩
      · have HO : Hid (wordOk s.data.toList = true) := by rw [hid_iff, HN.out, (str_eq_iff s bytesL).1 h2]; rfl
        clear HN h1
        subst h2
        go_enter Tryz.func175, Tryz.ntmps175
        go_wp2_with (go_at_call 200; refine hc.mono ?_; rintro e w1 ⟨rfl, n, rfl⟩)
        go_ret
        exact ⟨by rw [HO.out]; rfl, n, rfl⟩
      · have HO : Hid (wordOk s.data.toList = false) := by
          rw [hid_iff, HN.out, decide_eq_false (fun h => h1 ((str_eq_iff s numL).2 h)), decide_eq_false (fun h => h2 ((str_eq_iff s bytesL).2 h))]; rfl
        have g1 : (s.toList == [110, 117, 109]) = false := by
          rw [beq_eq_false_iff_ne, Lib.toList_data]
          exact fun h => h1 ((str_eq_iff s numL).2 h)
        have g2 : (s.toList == [98, 121, 116, 101, 115]) = false := by
          rw [beq_eq_false_iff_ne, Lib.toList_data]
          exact fun h => h2 ((str_eq_iff s bytesL).2 h)
        clear HN h1 h2
        go_enter Tryz.func175, Tryz.ntmps175
        go_wp2_with (go_at_call 200; refine hc.mono ?_; rintro e w1 ⟨rfl, n, rfl⟩)
        go_ret
        exact ⟨by rw [HO.out]; rfl, n, rfl⟩
  · simp only [hn, if_true] at hc
    generalize aheadR s.data.toList = x at *
    generalize behindR s.data.toList = y at *
    have HO : Hid (wordOk s.data.toList = true) := wordOk_named hn
    clear hn
    go_enter Tryz.func175, Tryz.ntmps175
    go_wp2_with (go_at_call 200; refine hc.mono ?_; rintro e w1 ⟨rfl, n, rfl⟩)
    go_ret
    exact ⟨by rw [HO.out]; rfl, n, rfl⟩
end Go.Proofs.YtfjppbpicmniaaaGreatDoor
