/-
  The words of a type's text: strings.IndexAny at any bytes, strings.Cut at a point; the package's word, cut, rightWord.
  And: The package's end: its walk, from label to label. What follows from the chapter's functions on trees: what is printed is parted into the tree's own tokens; how long a print is. No program in it.
-/
import Derived.Lib.OthersKept
import Derived.Test.YtchfhkfepghfjaaPfAc
import Derived.Test.YtchfhkfepghfjaaPfAe
import Derived.Test.YtchfhkfepghfjaaPfAb
namespace Go.Proofs.Ytchfhkfepghfjaa
open Go.RowKit Go.Lib

theorem hid_iff (p : Prop) : Hid p = p := rfl
theorem noAny_far {s chars : List UInt8} {i n : Nat} (h : NoAny s chars i) (hw : ∀ j b, i ≤ j → j < n → s[j]? = some b → chars.contains b = false) : NoAny s chars n := by
  intro j b hj hb
  rcases Nat.lt_or_ge j i with h1 | h1
  · exact h j b h1 hb
  · exact hw j b h1 hj hb
theorem sgn_high (b : UInt8) (h : 128 ≤ b.toNat) : ([91, 93, 40, 41, 44] : List UInt8).contains b = false := by
  rw [Bool.eq_false_iff]
  intro hc
  rw [List.contains_iff_mem] at hc
  simp only [List.mem_cons, List.not_mem_nil, or_false] at hc
  rcases hc with rfl | rfl | rfl | rfl | rfl <;> simp at h

/-- Where the first byte stands for which f does not hold. -/
theorem find_tw (f : UInt8 → Bool) (g : List UInt8 → Int) (h0 : g [] = -1) (h1 : ∀ b l, g (b :: l) = if f b then (if g l == -1 then -1 else g l + 1) else 0) : ∀ l : List UInt8, (g l = -1 ∧ l.takeWhile f = l) ∨ (g l = ((l.takeWhile f).length : Int) ∧ (l.takeWhile f).length < l.length)
  | [] => .inl ⟨h0, rfl⟩
  | b :: l => by
    have ih := find_tw f g h0 h1 l
    rw [h1]
    by_cases hb : f b = true
    · rw [List.takeWhile_cons_of_pos hb, if_pos hb]
      rcases ih with ⟨e1, e2⟩ | ⟨e1, e2⟩
      · exact .inl ⟨by rw [e1]; rfl, by rw [e2]⟩
      · right
        rw [e1, if_neg (by rw [beq_iff_eq]; omega)]
        exact ⟨by simp, by simpa using e2⟩
    · rw [List.takeWhile_cons_of_neg hb, if_neg hb]
      exact .inr ⟨rfl, by simp⟩
set_option maxRecDepth 100000 in
theorem sgn_sign (b : UInt8) : ([91, 93, 40, 41, 44] : List UInt8).contains b = isSign b := by
  have key : ∀ n : Fin 256, ([91, 93, 40, 41, 44] : List UInt8).contains (UInt8.ofNat n.val) = isSign (UInt8.ofNat n.val) := by decide
  have := key ⟨b.toNat, b.toNat_lt⟩
  simpa using this
theorem idx_word (l : List UInt8) : (indexAny l [91, 93, 40, 41, 44] = -1 ∧ wordR l = l) ∨ (indexAny l [91, 93, 40, 41, 44] = ((wordR l).length : Int) ∧ (wordR l).length < l.length) := by
  refine find_tw notSign (fun l => indexAny l [91, 93, 40, 41, 44]) rfl (fun b l => ?_) l
  show indexAny (b :: l) _ = _
  rw [indexAny, sgn_sign, notSign]
  cases isSign b <;> simp
theorem idx_dot (l : List UInt8) : (indexByte l 46 = -1 ∧ aheadR l = l) ∨ (indexByte l 46 = ((aheadR l).length : Int) ∧ (aheadR l).length < l.length) := by
  refine find_tw notDot (fun l => indexByte l 46) rfl (fun b l => ?_) l
  show indexByte (b :: l) _ = _
  have hb : (b == 46) = decide (b.toNat = 46) := by
    rw [Bool.eq_iff_iff, beq_iff_eq, decide_eq_true_iff]
    exact ⟨fun h => by rw [h]; rfl, fun h => UInt8.toNat_inj.1 (by rw [h]; rfl)⟩
  rw [indexByte, hb, notDot]
  cases decide (b.toNat = 46) <;> simp
theorem str_take (s : ByteArray) (n : Nat) : s.extract 0 n = str (s.data.toList.take n) := by rw [extract_str]; simp
theorem str_drop (s : ByteArray) (n : Nat) : s.extract n s.size = str (s.data.toList.drop n) := by
  rw [extract_str, List.take_of_length_le (by rw [List.length_drop, size_len]; omega)]
theorem word_take (l : List UInt8) : l.take (wordR l).length = wordR l := take_tw _ _
theorem ahead_take (l : List UInt8) : l.take (aheadR l).length = aheadR l := take_tw _ _
theorem word_le (l : List UInt8) : (wordR l).length ≤ l.length := (List.takeWhile_prefix _).length_le

/-- A text; what was there stays. -/
def TextB (l : List UInt8) (w : World) (e : Ending) (w' : World) : Prop := e = .returned (.string (str l)) ∧ Below w.heap.size w w'

/-- strings.Cut at a point. -/
def CutS (l : List UInt8) (w : World) (e : Ending) (w' : World) : Prop := ∃ b n, e = .returned (.tuple #[.string (str (aheadR l)), .string (str (behindR l)), .bool b]) ∧ w' = w.drewN n

set_option maxHeartbeats 1000000 in
set_option maxRecDepth 1000000 in
theorem cutLite (s : ByteArray) (w : World) (hs : s.size ≤ 9223372036854775806) : Calls Try.prog 70 #[.string s, .string ⟨#[46]⟩] w (CutS s.data.toList w) := by
  have hc := fun v => Try.stringslite_Index_one s 46 v
  rcases idx_dot s.data.toList with ⟨e1, e2⟩ | ⟨e1, e2⟩
  · have HR : Hid (str (aheadR s.data.toList) = s) := by rw [hid_iff, e2, str_toList]
    have HB : Hid (behindR s.data.toList = []) := by
      rw [hid_iff, behindR, e2]; simp
    rw [e1] at hc
    clear e1 e2
    go_enter Try.func70, Try.ntmps70
    go_wp2_with (go_at_call 78; refine (hc _).mono ?_; rintro e w1 ⟨rfl, rfl⟩)
    go_ret3
    exact ⟨false, 0, by rw [HR.out, HB.out]; rfl, rfl⟩
  · rw [e1] at hc
    rw [size_len] at e2
    have k1 : ((aheadR s.data.toList).length : Int) ≤ (s.size : Int) := by omega
    have k2 : ((aheadR s.data.toList).length : Int) + 1 ≤ (s.size : Int) := by omega
    have HR : Hid (s.extract 0 (aheadR s.data.toList).length = str (aheadR s.data.toList)) := by
      rw [hid_iff, str_take, ahead_take]
    have HB : Hid (s.extract ((aheadR s.data.toList).length + 1) s.size = str (behindR s.data.toList)) := by
      rw [hid_iff, str_drop, behindR]
    generalize hyg : behindR s.data.toList = y at *
    generalize hxg : aheadR s.data.toList = x at *
    have HX : Hid (aheadR s.data.toList = x) := hxg
    have HY : Hid (behindR s.data.toList = y) := hyg
    clear e1 hxg hyg
    have k3 : IntKind.i64.wrap ((x.length : Int) + 1) = (x.length : Int) + 1 := by rw [IntKind.wrap_i64]; omega
    have k4 : (0 : Int) ≤ (x.length : Int) + 1 := by omega
    have k5 : ((x.length : Int) + 1).toNat = x.length + 1 := by omega
    go_enter Try.func70, Try.ntmps70
    go_wp2_with (go_at_call 78; refine (hc _).mono ?_; rintro e w1 ⟨rfl, rfl⟩)
    go_region
    go_wp2
    go_ret3
    exact ⟨true, 1, by rw [HX.out, HY.out, ← HR.out, ← HB.out]; rfl, rfl⟩

set_option maxHeartbeats 1000000 in
set_option maxRecDepth 1000000 in
theorem cutDot (s : ByteArray) (w : World) (hs : s.size ≤ 9223372036854775806) : Calls Try.prog 59 #[.string s, .string ⟨#[46]⟩] w (CutS s.data.toList w) := by
  go_enter Try.func59, Try.ntmps59
  go_wp2_with (go_at_call 70; refine (cutLite s _ hs).mono ?_; rintro e w1 ⟨b, n, rfl, rfl⟩)
  go_ret3
  exact ⟨b, n, rfl, rfl⟩

/-- The parts of a named type; nothing, if it is none. -/
def CutE (l : List UInt8) (w : World) (e : Ending) (w' : World) : Prop :=
  e = .returned (if namedR l = true then .tuple #[.string (str (aheadR l)), .string (str (behindR l)), .bool true] else .tuple #[.string (str []), .string (str []), .bool false]) ∧ ∃ n, w' = w.drewN n
theorem cutE_yes {l : List UInt8} {w : World} {x y : List UInt8} (h : namedR l = true) (hx : aheadR l = x) (hy : behindR l = y) (n : Nat) : CutE l w (.returned (.tuple #[.string (str x), .string (str y), .bool true])) (w.drewN n) := by
  subst hx hy
  exact ⟨by rw [if_pos h], n, rfl⟩
theorem cutE_no {l : List UInt8} {w : World} {x y : ByteArray} (h : namedR l = false) (hx : x = str []) (hy : y = str []) (n : Nat) : CutE l w (.returned (.tuple #[.string x, .string y, .bool false])) (w.drewN n) := by
  subst hx hy
  exact ⟨by rw [if_neg (by rw [h]; decide)], n, rfl⟩

set_option maxHeartbeats 1000000 in
set_option maxRecDepth 1000000 in
theorem cut (s : ByteArray) (w : World) (hs : s.size ≤ 9223372036854775806) : Calls Try.prog 91 #[.string s] w (CutE s.data.toList w) := by
  have hc := cutDot s w hs
  unfold CutS at hc
  have hl1 : (aheadR s.data.toList).length ≤ 9223372036854775806 := by
    have := (List.takeWhile_prefix (l := s.data.toList) notDot).length_le
    rw [size_len] at this
    exact Nat.le_trans this hs
  have hl2 : (behindR s.data.toList).length ≤ 9223372036854775806 := by
    have : (behindR s.data.toList).length ≤ s.size := by rw [behindR, List.length_drop, size_len]; omega
    omega
  have HN : Hid (namedR s.data.toList = (valueR (aheadR s.data.toList) && bigR (behindR s.data.toList))) := rfl
  generalize hyg : behindR s.data.toList = y at *
  generalize hxg : aheadR s.data.toList = x at *
  have HX : Hid (aheadR s.data.toList = x) := hxg
  have HY : Hid (behindR s.data.toList = y) := hyg
  clear hxg hyg
  have hv := fun v => value (str x) v hl1
  have hb := fun v => big (str y) v hl2
  rw [str_data] at hv hb
  cases hvx : valueR x
  · rw [hvx] at hv HN
    go_enter Try.func91, Try.ntmps91
    go_wp2_with (go_at_call 59; refine hc.mono ?_; rintro e w1 ⟨b, n, rfl, rfl⟩)
    refine (hv _).mono ?_
    rintro e w1 ⟨rfl, rfl⟩
    go_wp2
    go_ret3
    exact cutE_no HN.out rfl rfl n
  · cases hby : bigR y
    · rw [hvx] at hv HN
      rw [hby] at hb HN
      go_enter Try.func91, Try.ntmps91
      go_wp2_with (go_at_call 59; refine hc.mono ?_; rintro e w1 ⟨b, n, rfl, rfl⟩)
      refine (hv _).mono ?_
      rintro e w1 ⟨rfl, rfl⟩
      go_wp2_with fail
      refine (hb _).mono ?_
      rintro e w1 ⟨rfl, rfl⟩
      go_wp2
      go_ret3
      exact cutE_no HN.out rfl rfl n
    · rw [hvx] at hv HN
      rw [hby] at hb HN
      go_enter Try.func91, Try.ntmps91
      go_wp2_with (go_at_call 59; refine hc.mono ?_; rintro e w1 ⟨b, n, rfl, rfl⟩)
      refine (hv _).mono ?_
      rintro e w1 ⟨rfl, rfl⟩
      go_wp2_with fail
      refine (hb _).mono ?_
      rintro e w1 ⟨rfl, rfl⟩
      go_wp2
      go_ret3
      exact cutE_yes HN.out HX.out HY.out n

/-- A bool; nothing is drawn but the order. -/
def BoolE (b : Bool) (w : World) (e : Ending) (w' : World) : Prop := e = .returned (.bool b) ∧ ∃ n, w' = w.drewN n
theorem wordOk_named {l : List UInt8} (h : namedR l = true) : wordOk l = true := by simp [wordOk, h]
theorem wordOk_other {l : List UInt8} (h : namedR l = false) : wordOk l = (decide (l = numL) || decide (l = bytesL)) := by simp [wordOk, h]
theorem str_eq_iff (s : ByteArray) (l : List UInt8) : s = str l ↔ s.data.toList = l := by
  constructor
  · rintro rfl; rfl
  · intro h; rw [← h, str_toList]

set_option maxHeartbeats 1000000 in
set_option maxRecDepth 1000000 in
theorem rightWord (s : ByteArray) (w : World) (hs : s.size ≤ 9223372036854775806) : Calls Try.prog 82 #[.string s] w (BoolE (wordOk s.data.toList) w) := by
  have hc := cut s w hs
  unfold CutE at hc
  cases hn : namedR s.data.toList
  · simp only [hn, Bool.false_eq_true, if_false] at hc
    have HN : Hid (wordOk s.data.toList = (decide (s.data.toList = numL) || decide (s.data.toList = bytesL))) := wordOk_other hn
    clear hn
    by_cases h1 : s = ⟨#[110, 117, 109]⟩
    · have HO : Hid (wordOk s.data.toList = true) := by rw [hid_iff, HN.out, (str_eq_iff s numL).1 h1]; rfl
      clear HN
      subst h1
      go_enter Try.func82, Try.ntmps82
      go_wp2_with (go_at_call 91; refine hc.mono ?_; rintro e w1 ⟨rfl, n, rfl⟩)
      go_ret
      exact ⟨by rw [HO.out]; rfl, n, rfl⟩
    · by_cases h2 : s = ⟨#[98, 121, 116, 101, 115]⟩
      · have HO : Hid (wordOk s.data.toList = true) := by rw [hid_iff, HN.out, (str_eq_iff s bytesL).1 h2]; rfl
        clear HN h1
        subst h2
        go_enter Try.func82, Try.ntmps82
        go_wp2_with (go_at_call 91; refine hc.mono ?_; rintro e w1 ⟨rfl, n, rfl⟩)
        go_ret
        exact ⟨by rw [HO.out]; rfl, n, rfl⟩
      · have HO : Hid (wordOk s.data.toList = false) := by
          rw [hid_iff, HN.out, decide_eq_false (fun h => h1 ((str_eq_iff s numL).2 h)), decide_eq_false (fun h => h2 ((str_eq_iff s bytesL).2 h))]; rfl
        have g1 : (s.toList == [110, 117, 109]) = false := by
          rw [beq_eq_false_iff_ne, Lib.toList_data]
          exact fun h => h1 ((str_eq_iff s numL).2 h)
        have g2 : (s.toList == [98, 121, 116, 101, 115]) = false := by
          rw [beq_eq_false_iff_ne, Lib.toList_data]
          exact fun h => h2 ((str_eq_iff s bytesL).2 h)
        clear HN h1 h2
        go_enter Try.func82, Try.ntmps82
        go_wp2_with (go_at_call 91; refine hc.mono ?_; rintro e w1 ⟨rfl, n, rfl⟩)
        go_ret
        exact ⟨by rw [HO.out]; rfl, n, rfl⟩
  · simp only [hn, if_true] at hc
    generalize aheadR s.data.toList = x at *
    generalize behindR s.data.toList = y at *
    have HO : Hid (wordOk s.data.toList = true) := wordOk_named hn
    clear hn
    go_enter Try.func82, Try.ntmps82
    go_wp2_with (go_at_call 91; refine hc.mono ?_; rintro e w1 ⟨rfl, n, rfl⟩)
    go_ret
    exact ⟨by rw [HO.out]; rfl, n, rfl⟩
end Go.Proofs.Ytchfhkfepghfjaa

namespace Go.Proofs.Ytchfhkfepghfjaa
open Go.RowKit

/-- Whole numbers as cells. -/
def ic (l : List Nat) : List Value := l.map fun (n : Nat) => Value.int .i64 (n : Int)
theorem ic_length (l : List Nat) : (ic l).length = l.length := by simp [ic]
theorem ic_append (a b : List Nat) : ic (a ++ b) = ic a ++ ic b := by simp [ic]
theorem infoI : (Try.prog.info? 3).map (fun i => (i.zero.map (fun z => z.cells.size), i.size, i.bytes)) = some (some 1, 1, 8) := by kernel_rfl
/-- append of one whole number onto a row of the call's own. -/
theorem append_nat {w : World} {ops : Array Oper} {rest : List Oper} {o : Oper} {a : Act} {Q : Exit → Act → World → Prop} (hgd : o.guard = none) (s x : Operand)
    (ho : o.op = .call { callee := .builtin .append, args := #[s, x], argTypes := #[22, 22] })
    (B : Nat) (v : Value) (acc : List Nat) (hs : a.eval s = v) (hown : w.ownsRow B 3 1 v acc.length (ic acc))
    (ad : Addr) (c : Nat) (n : Nat) (hx : a.eval x = .slice (some ad) 1 c) (hnews : ∀ j u, (ic [n])[j]? = some u → w.cell? (ad.add j) = some u)
    (hlen : acc.length + 1 ≤ 8193) (hB : B ≤ w.heap.size)
    (h : ∀ ad' c' w', w'.ownsRow B 3 1 (.slice (some ad') (acc.length + 1) c') (acc ++ [n]).length (ic (acc ++ [n])) → w.grownBy w' v.ownBlock → wpList Try.prog ops Q rest (a.put o.dst (.slice (some ad') (acc.length + 1) c')) w') :
    wpList Try.prog ops Q (o :: rest) a w := by
  obtain ⟨i, z, hi, hz, h1, h2, h3⟩ := info_z infoI
  refine wpList_append_own w hgd s x 22 ho B 3 i z 1 8 Try.underlying22 hi hz h1 h2 h3 (by decide) v acc.length (ic acc) hs hown ad 1 c (ic [n]) hx rfl hnews (fun u hu => ?_) (by unfold maxLen; omega) (by omega) hB ?_
  · obtain ⟨_, _, rfl⟩ := List.mem_map.1 hu
    rfl
  intro v' w' k1 k2 k3
  rcases k1.2 with ⟨rfl, hz⟩ | ⟨g, cap, cur, rfl, _⟩
  · omega
  · rw [← ic_append] at k1
    exact h ⟨g, 0, none⟩ cap w' (by simpa using k1) k2

theorem frame127 (a : Act) (h : a.tmps.size = 127) (hd : a.defers = []) : ∃ f : Nat → Value, a = { tmps := #[f 0, f 1, f 2, f 3, f 4, f 5, f 6, f 7, f 8, f 9, f 10, f 11, f 12, f 13, f 14, f 15, f 16, f 17, f 18, f 19, f 20, f 21, f 22, f 23, f 24, f 25, f 26, f 27, f 28, f 29, f 30, f 31, f 32, f 33, f 34, f 35, f 36, f 37, f 38, f 39, f 40, f 41, f 42, f 43, f 44, f 45, f 46, f 47, f 48, f 49, f 50, f 51, f 52, f 53, f 54, f 55, f 56, f 57, f 58, f 59, f 60, f 61, f 62, f 63, f 64, f 65, f 66, f 67, f 68, f 69, f 70, f 71, f 72, f 73, f 74, f 75, f 76, f 77, f 78, f 79, f 80, f 81, f 82, f 83, f 84, f 85, f 86, f 87, f 88, f 89, f 90, f 91, f 92, f 93, f 94, f 95, f 96, f 97, f 98, f 99, f 100, f 101, f 102, f 103, f 104, f 105, f 106, f 107, f 108, f 109, f 110, f 111, f 112, f 113, f 114, f 115, f 116, f 117, f 118, f 119, f 120, f 121, f 122, f 123, f 124, f 125, f 126], defers := [] } := by
  refine ⟨fun k => a.tmps.getD k undef, ?_⟩
  obtain ⟨t, d⟩ := a
  simp only at h hd
  subst hd
  have e := arr_map t
  rw [h] at e
  simp only [Act.mk.injEq, and_true]
  exact e

/-- Where a type ends. -/
def EndE (r : Int) (w : World) (e : Ending) (w' : World) : Prop := e = .returned (.int .i64 r) ∧ Below w.heap.size w w'
theorem endE_no {L : List UInt8} {fr : Nat} {w w' : World} {z : Int} (h : one (L.drop fr) = none) (hz : z = -1) (hb : Below w.heap.size w w') : EndE (endI L fr) w (.returned (.int .i64 z)) w' := by
  subst hz
  exact ⟨by rw [endI, h], hb⟩
theorem endE_yes {L : List UInt8} {fr p : Nat} {w w' : World} {z : Int} (h : one (L.drop fr) = some (L.drop p)) (hz : z = (p : Int)) (hp : p ≤ L.length) (hb : Below w.heap.size w w') : EndE (endI L fr) w (.returned (.int .i64 z)) w' := by
  subst hz
  refine ⟨?_, hb⟩
  rw [endI, h]
  simp
  omega
/-- What holds at each label of end. -/
def edJ (s : ByteArray) (R : Option (List UInt8)) (w0 : World) (l : Nat) (a : Act) (w : World) : Prop :=
  ∃ (p : Nat) (st : List Nat) (v : Value), a.tmps.size = 127 ∧ a.defers = [] ∧ a.tmps.getD 0 undef = .string s ∧ a.tmps.getD 5 undef = v ∧ a.tmps.getD 7 undef = .int .i64 (p : Int) ∧
    p ≤ s.size ∧ st.length ≤ p ∧ (∀ k ∈ st, k ≤ 6) ∧ w.ownsRow w0.heap.size 3 1 v st.length (ic st.reverse) ∧ Below w0.heap.size w0 w ∧
    ((l = 0 ∧ Hid (begS st (s.data.toList.drop p) = R)) ∨ (l = 1 ∧ Hid (behS st (s.data.toList.drop p) = R)))
def edM (s : ByteArray) (l : Nat) (a : Act) (_ : World) : Nat :=
  match l with
  | 0 => 2 * (s.size - (intOf (a.tmps.getD 7 undef)).toNat) + 1
  | _ => 2 * (s.size - (intOf (a.tmps.getD 7 undef)).toNat) + 2
theorem pre2_yes (c d : UInt8) (r : List UInt8) (h1 : c.toNat = 40) (h2 : d.toNat = 41) : Lib.hasPrefix (c :: d :: r) [40, 41] = true := by
  have e1 : c = 40 := UInt8.toNat_inj.1 h1
  have e2 : d = 41 := UInt8.toNat_inj.1 h2
  subst e1 e2
  simp [Lib.hasPrefix]
theorem pre2_no (l : List UInt8) (h : ∀ c d r, l = c :: d :: r → c.toNat = 40 → d.toNat ≠ 41) : Lib.hasPrefix l [40, 41] = false := by
  match l with
  | [] => rfl
  | [c] => simp [Lib.hasPrefix, List.isPrefixOf]
  | c :: d :: r =>
    have := h c d r rfl
    rw [Bool.eq_false_iff]
    intro hp
    simp only [Lib.hasPrefix, List.isPrefixOf_cons_cons, Bool.and_eq_true, beq_iff_eq] at hp
    exact this (by rw [← hp.1]; rfl) (by rw [← hp.2.1]; rfl)
theorem ext_data (s : ByteArray) (p : Nat) : (s.extract p s.size).data.toList = s.data.toList.drop p := by rw [str_drop, str_data]
theorem ext_size (s : ByteArray) (p : Nat) : (s.extract p s.size).size ≤ s.size := by rw [str_drop, str_size, List.length_drop, size_len]; omega

end Go.Proofs.Ytchfhkfepghfjaa

namespace Go.Proofs.Ytchfhkfepghfjaa

/-- As many brackets as there are may be too many; nothing else is refused of a tree's tokens. -/
theorem run_or (n : Nat) (t : Tr) : ∀ (x : Tr) (ts : List Tr) (rest : List Tok), Right t → ts.length ≤ 40 → (ts = [] → x.kids = []) → (∃ b, run n (x :: ts) (toks t ++ rest) = .error (14, b)) ∨ run n (x :: ts) (toks t ++ rest) = run n (addKid x t :: ts) rest := by
  induction t using tr_ind with
  | h t ih =>
    intro x ts rest hR hd hx
    rw [Right_eq] at hR
    rcases hR with ⟨k1, ks, kk⟩ | ⟨k1, k2, kk, ke⟩
    · by_cases h40 : ts.length = 40
      · left
        rw [toks_eq, if_pos k1, List.cons_append, run]
        have e : refu (x :: ts) ⟨1, t.place, t.text⟩ = 14 := by simp [refu, h40]
        rw [e]
        exact ⟨_, rfl⟩
      have key : ∀ (ks : List Tr) (y : Tr), (∀ k ∈ ks, k ∈ t.kids) → (∃ b, run n (y :: x :: ts) ((ks.map toks).flatten ++ ([t.shut] ++ rest)) = .error (14, b)) ∨ run n (y :: x :: ts) ((ks.map toks).flatten ++ ([t.shut] ++ rest)) = run n (⟨y.kind, y.place, y.text, y.kids ++ ks, y.shut⟩ :: x :: ts) ([t.shut] ++ rest) := by
        intro ks
        induction ks with
        | nil => intro y _; right; rw [List.map_nil, List.flatten_nil, List.nil_append, List.append_nil]; cases y; rfl
        | cons k ks ihk =>
          intro y hks
          rw [List.map_cons, List.flatten_cons, List.append_assoc]
          rcases ih k (hks k (by simp)) y (x :: ts) ((ks.map toks).flatten ++ ([t.shut] ++ rest)) (kk k (hks k (by simp))) (by simp; omega) (by simp) with h | h
          · exact .inl h
          · rw [h]
            rcases ihk (addKid y k) (fun k' hk' => hks k' (by simp [hk'])) with h | h
            · exact .inl h
            · right
              rw [h]
              simp [addKid]
      rw [toks_eq, if_pos k1, List.cons_append, run, if_pos (refu_mid (fun _ => by omega) hx (fun _ => by simp) (by omega)), List.append_assoc]
      have e : put (x :: ts) ⟨1, t.place, t.text⟩ = leaf ⟨1, t.place, t.text⟩ :: x :: ts := rfl
      rw [e]
      rcases key t.kids (leaf ⟨1, t.place, t.text⟩) (fun _ h => h) with h | h
      · exact .inl h
      · right
        rw [h]
        simp only [List.singleton_append]
        rw [run, if_pos (refu_mid (fun h => by rw [ks] at h; cases h) (by simp) (by simp) (by simp; omega))]
        congr 1
        simp only [put, ks]
        obtain ⟨a, b, c, d', e'⟩ := t
        simp at k1
        simp [shutBy, leaf, k1]
    · right
      rw [toks_eq, if_neg k1]
      simp only [List.singleton_append]
      rw [run, if_pos (refu_mid (fun h => absurd h k1) hx (fun _ => k2) (by omega))]
      congr 1
      simp only [put, k1, k2, if_false]
      obtain ⟨a, b, c, d', e'⟩ := t
      simp only at kk ke
      subst kk
      subst ke
      rfl
theorem runs_or (n : Nat) : ∀ (ks : List Tr) (y x : Tr) (ts : List Tr) (rest : List Tok), (∀ k ∈ ks, Right k) → ts.length ≤ 39 → (∃ b, run n (y :: x :: ts) ((ks.map toks).flatten ++ rest) = .error (14, b)) ∨ run n (y :: x :: ts) ((ks.map toks).flatten ++ rest) = run n (⟨y.kind, y.place, y.text, y.kids ++ ks, y.shut⟩ :: x :: ts) rest
  | [], y, x, ts, rest, _, _ => by right; rw [List.map_nil, List.flatten_nil, List.nil_append, List.append_nil]; cases y; rfl
  | k :: ks, y, x, ts, rest, hk, hl => by
    rw [List.map_cons, List.flatten_cons, List.append_assoc]
    rcases run_or n k y (x :: ts) ((ks.map toks).flatten ++ rest) (hk k (by simp)) (by simp; omega) (by simp) with h | h
    · exact .inl h
    · rw [h]
      rcases runs_or n ks (addKid y k) x ts rest (fun k' hk' => hk k' (by simp [hk'])) hl with h | h
      · exact .inl h
      · right
        rw [h]
        simp [addKid]

/-- A token as parting a text gives them. -/
def GTok (k : Tok) : Prop := (k.kind = 1 ∧ k.text = []) ∨ (k.kind = 2 ∧ k.text = []) ∨ (k.kind = 3 ∧ k.text ≠ [] ∧ ∀ c ∈ k.text, isAtom c = true) ∨ (k.kind = 4 ∧ k.text.length ≤ 200)
theorem GTok.kind {k : Tok} (h : GTok k) : k.kind ≠ 0 := by
  rcases h with h | h | h | h <;> omega
theorem tw_mem (f : UInt8 → Bool) : ∀ (r : List UInt8), ∀ c ∈ r.takeWhile f, f c = true
  | [], c, h => by cases h
  | a :: r, c, h => by
    by_cases ha : f a = true
    · rw [List.takeWhile_cons_of_pos ha] at h
      rcases List.mem_cons.1 h with rfl | h
      · exact ha
      · exact tw_mem f r c h
    · rw [List.takeWhile_cons_of_neg ha] at h
      cases h
theorem sp_good : ∀ (n : Nat) (l : List UInt8) (p : Nat) (acc out : List Tok), l.length ≤ n → (∀ k ∈ acc, GTok k) → sp l p acc = .ok out → ∀ k ∈ out, GTok k := by
  have add : ∀ (acc : List Tok) (t : Tok), (∀ k ∈ acc, GTok k) → GTok t → ∀ k ∈ acc ++ [t], GTok k := by
    intro acc t h1 h2 k hk
    rcases List.mem_append.1 hk with h | h
    · exact h1 k h
    · rw [List.mem_singleton.1 h]; exact h2
  intro n
  induction n with
  | zero =>
    intro l p acc out hn ha h
    have : l = [] := List.eq_nil_of_length_eq_zero (by omega)
    subst this
    rw [sp_nil] at h
    cases h
    exact ha
  | succ n ih =>
    intro l p acc out hn ha h
    cases l with
    | nil =>
      rw [sp_nil] at h
      cases h
      exact ha
    | cons c r =>
      simp only [List.length_cons] at hn
      by_cases c0 : isAtom c = true
      · rw [sp_atom r p acc c0] at h
        refine ih _ _ _ _ (by simp; omega) (add _ _ ha (.inr (.inr (.inl ⟨rfl, by simp, ?_⟩)))) h
        intro x hx
        rcases List.mem_cons.1 hx with rfl | hx
        · exact c0
        · exact tw_mem _ _ _ hx
      by_cases c1 : c.toNat = 34
      · rw [sp_quoted r p acc c1] at h
        split at h
        · cases h
        · rename_i t nx hq
          obtain ⟨_, _, _, n4⟩ := q_next _ _ _ _ _ _ _ (Nat.le_refl _) hq
          exact ih _ _ _ _ (by simp; omega) (add _ _ ha (.inr (.inr (.inr ⟨rfl, n4⟩)))) h
      by_cases c2 : c.toNat = 59
      · rw [sp_remark r p acc c2] at h
        exact ih _ _ _ _ (by simp; omega) ha h
      by_cases c3 : c.toNat = 40
      · rw [sp_open r p acc c3] at h
        exact ih _ _ _ _ (by omega) (add _ _ ha (.inl ⟨rfl, rfl⟩)) h
      by_cases c4 : c.toNat = 41
      · rw [sp_close r p acc c4] at h
        exact ih _ _ _ _ (by omega) (add _ _ ha (.inr (.inl ⟨rfl, rfl⟩))) h
      by_cases c5 : isParts c = true
      · rw [sp_parts r p acc c5] at h
        exact ih _ _ _ _ (by omega) ha h
      rw [sp_bad r p acc (Bool.eq_false_iff.2 c0) c1 c2 c3 c4 (Bool.eq_false_iff.2 c5)] at h
      cases h
theorem split_good {L : List UInt8} {l : List Tok} (h : splitR L = .ok l) : ∀ k ∈ l, GTok k := by
  unfold splitR at h
  split at h
  · cases h
  · exact sp_good _ _ _ _ _ (Nat.le_refl _) (by simp) h
theorem places_text (L : List UInt8) : ∀ (l : List Tok) (a : Nat), places L l a → ∀ k ∈ l, k.kind = 3 → k.text.length ≤ L.length
  | [], _, _, k, hk, _ => by cases hk
  | t :: r, a, ⟨h1, h2, h3⟩, k, hk, k3 => by
    rcases List.mem_cons.1 hk with rfl | hk
    · rcases h3 with h | h | h | h
      · omega
      · omega
      · have := h.2.2.2.1; omega
      · omega
    · rcases h3 with h | h | h | h
      · exact places_text L r _ h.2.2 k hk k3
      · exact places_text L r _ h.2.2 k hk k3
      · exact places_text L r _ h.2.2.2.2 k hk k3
      · exact places_text L r _ h.2.2 k hk k3
/-- What parting a text gives: not many tokens, none long. -/
theorem split_size {L : List UInt8} {l : List Tok} (h : splitR L = .ok l) : l.length ≤ 8192 ∧ ∀ k ∈ l, k.text.length ≤ 8192 := by
  obtain ⟨h1, h2⟩ := split_places L l h
  have h3 := places_length L l 0 h1
  refine ⟨by omega, fun k hk => ?_⟩
  rcases split_good h k hk with g | g | g | g
  · rw [g.2]; simp
  · rw [g.2]; simp
  · have := places_text L l 0 h1 k hk g.1
    omega
  · omega

/-- What comes behind ends an Atom. -/
def Ends (Y : List UInt8) : Prop := ∀ c r, Y = c :: r → isAtom c = false
theorem tw_ends {x Y : List UInt8} (hx : ∀ c ∈ x, isAtom c = true) (hY : Ends Y) : (x ++ Y).takeWhile isAtom = x := by
  cases Y with
  | nil => rw [List.append_nil]; exact tw_all _ _ hx
  | cons c r => rw [tw_tail isAtom c r (hY c r rfl)]; exact tw_all _ _ hx
theorem sp_print (t : Tr) : Right t → (∀ k ∈ toks t, GTok k) → ∀ (Y : List UInt8) (p : Nat) (acc : List Tok), Ends Y →
    ∃ t' : Tr, strip t = strip t' ∧ Right t' ∧ sp (pr t ++ Y) p acc = sp Y (p + (pr t).length) (acc ++ toks t') := by
  induction t using tr_ind with
  | h t ih =>
    intro hR hG Y p acc hY
    rw [Right_eq] at hR
    rcases hR with ⟨k1, ks, kk⟩ | ⟨k1, k2, kk, ke⟩
    · rw [toks_eq, if_pos k1] at hG
      have hx : t.text = [] := by
        rcases hG ⟨1, t.place, t.text⟩ (by simp) with g | g | g | g
        · exact g.2
        · exact g.2
        · cases g.1
        · cases g.1
      have key : ∀ (ks : List Tr) (b : Bool) (p : Nat) (acc : List Tok) (Y : List UInt8), Ends Y → (∀ k ∈ ks, k ∈ t.kids) → ∃ ks' : List Tr, ks.map strip = ks'.map strip ∧ (∀ k ∈ ks', Right k) ∧ sp (seps b (ks.map pr) ++ Y) p acc = sp Y (p + (seps b (ks.map pr)).length) (acc ++ (ks'.map toks).flatten) := by
        intro ks
        induction ks with
        | nil => intro b p acc Y _ _; exact ⟨[], rfl, by simp, by simp [seps]⟩
        | cons k ks ihk =>
          intro b p acc Y hY hks
          have hkt := hks k (by simp)
          have hE : Ends (seps true (ks.map pr) ++ Y) := by
            cases ks with
            | nil => exact hY
            | cons k2 ks =>
              intro c r h
              simp [seps] at h
              rw [← h.1]
              decide
          have hGk : ∀ j ∈ toks k, GTok j := fun j hj => hG j (by
            simp only [List.mem_cons, List.mem_append, List.mem_flatten, List.mem_map]
            exact .inr (.inl ⟨toks k, ⟨k, hkt, rfl⟩, hj⟩))
          obtain ⟨k', e1, e2, e3⟩ := ih k hkt (kk k hkt) hGk (seps true (ks.map pr) ++ Y) (p + (if b then [32] else [] : List UInt8).length) acc hE
          obtain ⟨ks', f1, f2, f3⟩ := ihk true (p + (if b then [32] else [] : List UInt8).length + (pr k).length) (acc ++ toks k') Y hY (fun j hj => hks j (by simp [hj]))
          refine ⟨k' :: ks', by simp [e1, f1], ?_, ?_⟩
          · intro j hj
            rcases List.mem_cons.1 hj with rfl | hj
            · exact e2
            · exact f2 j hj
          · have e4 : seps b ((k :: ks).map pr) ++ Y = (if b then [32] else [] : List UInt8) ++ (pr k ++ (seps true (ks.map pr) ++ Y)) := by simp [seps]
            rw [e4, sp_blanks _ _ _ _ (by cases b <;> simp [isParts]), e3, f3]
            congr 1
            · simp [seps]; omega
            · simp
      obtain ⟨ks', f1, f2, f3⟩ := key t.kids false (p + 1) (acc ++ [⟨1, p, []⟩]) (41 :: Y) (by intro c r h; cases h; decide) (fun _ h => h)
      refine ⟨⟨1, p, [], ks', ⟨2, p + 1 + (seps false (t.kids.map pr)).length, []⟩⟩, ?_, ?_, ?_⟩
      · rw [strip_eq t, strip_eq, k1, hx, f1]
      · rw [Right_eq]
        exact .inl ⟨rfl, rfl, f2⟩
      · have e : pr t = 40 :: (seps false (t.kids.map pr) ++ [41]) := by rw [pr_eq, if_neg (by omega), if_neg (by omega), if_pos k1]
        rw [e, List.cons_append, sp_open _ _ _ rfl, List.append_assoc, List.singleton_append, f3, sp_close _ _ _ rfl, toks_eq, if_pos rfl]
        congr 1
        · simp; omega
        · simp
    · rw [toks_eq, if_neg k1] at hG
      have g := hG ⟨t.kind, t.place, t.text⟩ (by simp)
      rcases g with g | g | g | g
      · exact absurd g.1 k1
      · exact absurd g.1 k2
      · obtain ⟨g1, g2, g3⟩ := g
        simp only at g1 g2 g3
        have e : pr t = t.text := by rw [pr_eq, if_pos g1]
        refine ⟨⟨3, p, t.text, [], ⟨3, p, t.text⟩⟩, ?_, ?_, ?_⟩
        · rw [strip_eq t, strip_eq, g1, kk]
        · rw [Right_eq]
          exact .inr ⟨by simp, by simp, rfl, rfl⟩
        · rw [e, toks_eq, if_neg (by simp)]
          cases hx : t.text with
          | nil => exact absurd hx g2
          | cons c r =>
            rw [hx] at g3
            have tw : (r ++ Y).takeWhile isAtom = r := tw_ends (fun c hc => g3 c (by simp [hc])) hY
            rw [List.cons_append, sp_atom _ _ _ (g3 c (by simp)), tw, List.drop_left]
            congr 1
            simp; omega
      · obtain ⟨g1, g2⟩ := g
        simp only at g1 g2
        have e : pr t = quoteR t.text := by rw [pr_eq, if_neg (by omega), if_pos g1]
        refine ⟨⟨4, p, t.text, [], ⟨4, p, t.text⟩⟩, ?_, ?_, ?_⟩
        · rw [strip_eq t, strip_eq, g1, kk]
        · rw [Right_eq]
          exact .inr ⟨by simp, by simp, rfl, rfl⟩
        · rw [e, toks_eq, if_neg (by simp), sp_quote _ _ _ _ g2]
theorem prints_or (ks : List Tr) : ∀ (p : Nat) (acc : List Tok) (Y : List UInt8), Ends Y → (∀ k ∈ ks, Right k ∧ ∀ j ∈ toks k, GTok j) → ∃ ks' : List Tr, ks.map strip = ks'.map strip ∧ (∀ k ∈ ks', Right k) ∧ sp (seps true (ks.map pr) ++ Y) p acc = sp Y (p + (seps true (ks.map pr)).length) (acc ++ (ks'.map toks).flatten) := by
  induction ks with
  | nil => intro p acc Y _ _; exact ⟨[], rfl, by simp, by simp [seps]⟩
  | cons k ks ihk =>
    intro p acc Y hY hks
    have hE : Ends (seps true (ks.map pr) ++ Y) := by
      cases ks with
      | nil => exact hY
      | cons k2 ks =>
        intro c r h
        simp [seps] at h
        rw [← h.1]
        decide
    obtain ⟨k', e1, e2, e3⟩ := sp_print k (hks k (by simp)).1 (hks k (by simp)).2 (seps true (ks.map pr) ++ Y) (p + 1) acc hE
    obtain ⟨ks', f1, f2, f3⟩ := ihk (p + 1 + (pr k).length) (acc ++ toks k') Y hY (fun j hj => hks j (by simp [hj]))
    refine ⟨k' :: ks', by simp [e1, f1], ?_, ?_⟩
    · intro j hj
      rcases List.mem_cons.1 hj with rfl | hj
      · exact e2
      · exact f2 j hj
    · have e4 : seps true ((k :: ks).map pr) ++ Y = 32 :: (pr k ++ (seps true (ks.map pr) ++ Y)) := by simp [seps]
      rw [e4, sp_parts _ _ _ (by decide), e3, f3]
      congr 1
      · simp [seps]; omega
      · simp

/-- How long a print is. -/
def cost (l : List Tok) : Nat := (l.map fun k => 4 * k.text.length + 3).sum
theorem quoteR_length (b : List UInt8) : (quoteR b).length ≤ 4 * b.length + 2 ∧ b.length ≤ (quoteR b).length := by
  have h := quote_length b
  have h2 : b.length ≤ (b.flatMap qByte).length := by
    clear h
    induction b with
    | nil => simp
    | cons c r ih =>
      have : 1 ≤ (qByte c).length := by
        unfold qByte
        split
        · simp
        · split
          · simp
          · split <;> simp
      rw [List.flatMap_cons, List.length_append, List.length_cons]
      omega
  simp only [quoteR, List.length_cons, List.length_append, List.length_nil]
  omega
theorem pr_cost (t : Tr) : (pr t).length + 1 ≤ cost (toks t) := by
  induction t using tr_ind with
  | h t ih =>
    have key : ∀ (ks : List Tr) (b : Bool), (∀ k ∈ ks, (pr k).length + 1 ≤ cost (toks k)) → (seps b (ks.map pr)).length ≤ cost ((ks.map toks).flatten) := by
      intro ks
      induction ks with
      | nil => intro b _; simp [seps]
      | cons k ks ihk =>
        intro b h
        have h1 := h k (by simp)
        have h2 := ihk true (fun j hj => h j (by simp [hj]))
        have e : cost (((k :: ks).map toks).flatten) = cost (toks k) + cost ((ks.map toks).flatten) := by simp [cost]
        rw [e]
        cases b <;> simp [seps] <;> omega
    rw [pr_eq, toks_eq]
    by_cases k1 : t.kind = 1
    · have h := key t.kids false ih
      simp only [k1, if_true]
      rw [if_neg (by decide), if_neg (by decide)]
      simp only [cost, List.map_cons, List.sum_cons, List.map_append, List.sum_append, List.length_cons, List.length_append, List.length_nil, List.map_nil, List.sum_nil] at h ⊢
      omega
    · rw [if_neg k1, if_neg k1]
      have e : cost [⟨t.kind, t.place, t.text⟩] = 4 * t.text.length + 3 := by simp [cost]
      rw [e]
      have := (quoteR_length t.text).1
      split
      · omega
      · split
        · omega
        · simp
theorem cost_le (M : Nat) : ∀ (l : List Tok), (∀ k ∈ l, k.text.length ≤ M) → cost l ≤ l.length * (4 * M + 3)
  | [], _ => by simp [cost]
  | k :: l, h => by
    have h1 := h k (by simp)
    have h2 := cost_le M l (fun j hj => h j (by simp [hj]))
    have e : cost (k :: l) = 4 * k.text.length + 3 + cost l := by simp [cost]
    rw [e, List.length_cons, Nat.add_mul, Nat.one_mul]
    omega
/-- What is read: its tokens, and how long its print is. -/
theorem parse_ok {L : List UInt8} {t : Tr} (h : parseR L = .ok t) : Right t ∧ splitR L = .ok (toks t) ∧ (∀ k ∈ toks t, GTok k) ∧ (pr t).length ≤ 300000000 := by
  unfold parseR at h
  cases hs : splitR L with
  | error e => rw [hs] at h; cases h
  | ok l =>
    rw [hs] at h
    simp only at h
    split at h
    · cases h
    · obtain ⟨h1, h2⟩ := run_toks _ l [root] t stk_root (fun k hk => (split_good hs k hk).kind) h
      rw [took_root, List.nil_append] at h2
      obtain ⟨h3, h4⟩ := split_size hs
      have h5 := pr_cost t
      have h6 := cost_le 8192 l h4
      have h7 : l.length * (4 * 8192 + 3) ≤ 8192 * (4 * 8192 + 3) := Nat.mul_le_mul_right _ h3
      rw [h2] at h5 ⊢
      exact ⟨h1, rfl, split_good hs, by omega⟩
theorem fit_strip : ∀ (d : Nat) (t u : Tr), strip t = strip u → Fit d t → Fit d u
  | 0, t, u, h, f => by
    rw [Fit] at f ⊢
    rw [← (strip_parts h).1]
    exact f
  | d + 1, t, u, h, f => by
    obtain ⟨h1, _, h3⟩ := strip_parts h
    obtain ⟨h4, h5⟩ := map_strip_get h3
    rw [Fit] at f ⊢
    intro k1 k hk
    obtain ⟨i, hi, rfl⟩ := List.getElem_of_mem hk
    exact fit_strip d _ _ (h5 i (by omega) hi) (f (by omega) _ (List.getElem_mem _))
/-- A tree that is printed is read as itself, but for places. -/
theorem parse_print {t : Tr} {d : Nat} (hR : Right t) (hG : ∀ k ∈ toks t, GTok k) (hF : Fit d t) (hd : d ≤ 40) (hl : (pr t).length ≤ 8192) : ∃ t', parseR (pr t) = .ok t' ∧ strip t = strip t' := by
  obtain ⟨t', h1, h2, h3⟩ := sp_print t hR hG [] 0 [] (by intro c r h; cases h)
  rw [List.append_nil, sp_nil] at h3
  refine ⟨t', ?_, h1⟩
  have hne : toks t' ≠ [] := by rw [toks_eq]; split <;> simp
  unfold parseR splitR
  rw [if_neg (by omega), h3]
  simp only [List.nil_append, hne, if_false]
  have := run_fit (pr t).length t' d root [] [] h2 (fit_strip d _ _ h1 hF) (by simp; omega) (fun _ => rfl)
  rw [List.append_nil] at this
  rw [this]
  simp [run, addKid, root]
/-- Trees within brackets are the Kids. -/
theorem parse_kids {ks : List Tr} (hk : ∀ k ∈ ks, Right k ∧ ∀ j ∈ toks k, GTok j) (hl : (seps true (ks.map pr)).length + 2 ≤ 8192) :
    (∃ b, parseR (40 :: (seps true (ks.map pr) ++ [41])) = .error (14, b)) ∨ ∃ t, parseR (40 :: (seps true (ks.map pr) ++ [41])) = .ok t ∧ t.kind = 1 ∧ t.kids.map strip = ks.map strip := by
  obtain ⟨ks', f1, f2, f3⟩ := prints_or ks 1 [⟨1, 0, []⟩] [41] (by intro c r h; cases h; decide) hk
  have e : splitR (40 :: (seps true (ks.map pr) ++ [41])) = .ok ([⟨1, 0, []⟩] ++ ((ks'.map toks).flatten ++ [⟨2, 1 + (seps true (ks.map pr)).length, []⟩])) := by
    unfold splitR
    rw [if_neg (by simp; omega), sp_open _ _ _ rfl]
    simp only [List.nil_append, Nat.zero_add]
    rw [f3, sp_close _ _ _ rfl, sp_nil]
    simp
  unfold parseR
  rw [e]
  simp only [List.cons_append, List.nil_append, reduceCtorEq, if_false]
  generalize (40 :: (seps true (ks.map pr) ++ [41])).length = n
  rw [run, if_pos (by rfl)]
  have e2 : put [root] ⟨1, 0, []⟩ = [leaf ⟨1, 0, []⟩, root] := rfl
  rw [e2]
  rcases runs_or n ks' (leaf ⟨1, 0, []⟩) root [] [⟨2, 1 + (seps true (ks.map pr)).length, []⟩] f2 (by simp) with h | h
  · exact .inl h
  · right
    rw [h]
    refine ⟨⟨1, 0, [], ks', ⟨2, 1 + (seps true (ks.map pr)).length, []⟩⟩, ?_, rfl, f1.symm⟩
    simp [run, refu, put, leaf, shutBy, addKid, root]
end Go.Proofs.Ytchfhkfepghfjaa
