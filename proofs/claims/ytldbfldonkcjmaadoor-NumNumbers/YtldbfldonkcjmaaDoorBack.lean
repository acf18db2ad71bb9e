/-
  What Parse tells of a number's text: the number.
-/
import Derived.Test.YtldbfldonkcjmaaDoorKnown
namespace Go.Proofs.YtldbfldonkcjmaaDoor
open Go.RowKit

theorem dig_of (d : Nat) (h : d < 10) : dig (UInt8.ofNat (48 + d)) = true := by
  have : (UInt8.ofNat (48 + d)).toNat = 48 + d := by
    rw [UInt8.toNat_ofNat']
    omega
  simp only [dig, this, Bool.and_eq_true, decide_eq_true_eq]
  omega
theorem val_of (d : Nat) (h : d < 10) : (UInt8.ofNat (48 + d)).toNat - 48 = d := by
  rw [UInt8.toNat_ofNat']
  omega
theorem dec_dig : ∀ (f u : Nat), u ≤ f → ∀ c ∈ Lib.decDigits u, dig c = true
  | 0, u, h, c, hc => by
    obtain rfl : u = 0 := by omega
    rw [dec_small (by decide)] at hc
    rw [List.mem_singleton.1 hc]
    exact dig_of 0 (by decide)
  | f + 1, u, h, c, hc => by
    by_cases hu : u < 10
    · rw [dec_small hu] at hc
      rw [List.mem_singleton.1 hc]
      exact dig_of u hu
    · rw [dec_big hu] at hc
      rcases List.mem_append.1 hc with hc | hc
      · exact dec_dig f (u / 10) (by omega) c hc
      · rw [List.mem_singleton.1 hc]
        exact dig_of _ (by omega)
theorem dec_ne (u : Nat) : Lib.decDigits u ≠ [] := by
  rw [dec_step]
  simp
theorem dec_val : ∀ (f u : Nat), u ≤ f → u ≤ 1048576 → (Lib.decDigits u).foldl accA 0 = u
  | 0, u, h, _ => by
    obtain rfl : u = 0 := by omega
    rw [dec_small (by decide)]
    rfl
  | f + 1, u, h, hl => by
    by_cases hu : u < 10
    · rw [dec_small hu]
      show accA 0 _ = u
      rw [accA, if_pos (by decide), val_of u hu]
      omega
    · rw [dec_big hu, List.foldl_append, dec_val f (u / 10) (by omega) (by omega)]
      show accA (u / 10) _ = u
      rw [accA, if_pos (by omega), val_of _ (by omega)]
      omega

/-- The text of a list of bytes. -/
def mkS (l : List UInt8) : ByteArray := ⟨l.toArray⟩
theorem mkS_list (l : List UInt8) : (mkS l).data.toList = l := rfl
theorem mkS_append (a b : List UInt8) : mkS a ++ mkS b = mkS (a ++ b) := by
  apply ByteArray.ext
  rw [ByteArray.data_append]
  apply Array.ext'
  simp [mkS]
theorem mkS_extract (l : List UInt8) (k : Nat) : (mkS l).extract k (mkS l).size = mkS (l.drop k) := by
  rw [extract_list]
  rfl
theorem mkS_toList (l : List UInt8) : (mkS l).toList = l := by
  rw [ByteArray.toList_eq]
  rfl
theorem pre_mk (D R : List UInt8) (hD : ∀ c ∈ D, dig c = true) (hR : ∀ c, R.head? = some c → dig c = false) : pre (mkS (D ++ R)) = D := by
  unfold pre
  rw [mkS_list]
  have := tw_take (D ++ R) D.length (by simpa using hD) (by
    intro c hc
    rw [List.getElem?_append_right (Nat.le_refl _), Nat.sub_self] at hc
    exact hR c (by rw [List.head?_eq_getElem?]; exact hc))
  rw [this]
  simp
/-- A text that begins with digits, perhaps behind a minus. -/
theorem parse_mk (neg : Bool) (D R : List UInt8) (hD : ∀ c ∈ D, dig c = true) (h0 : D ≠ []) (hR : ∀ c, R.head? = some c → dig c = false) :
    parseW numA (mkS ((if neg then [45] else []) ++ D ++ R)) = restW numA (sgn neg (D.foldl accA 0)) (mkS R) := by
  have hm : minusAhead (mkS ((if neg then [45] else []) ++ D ++ R)) = neg := by
    unfold minusAhead
    rw [mkS_list]
    cases neg
    · match D, h0, hD with
      | x :: r, _, hD =>
        have hx := hD x (by simp)
        have : x ≠ 45 := by
          rintro rfl
          exact absurd hx (by decide)
        simpa using this
    · rfl
  have hc : cutS (mkS ((if neg then [45] else []) ++ D ++ R)) = mkS (D ++ R) := by
    unfold cutS
    rw [hm]
    cases neg
    · rfl
    · rw [if_pos rfl, mkS_extract]
      rfl
  have hp := pre_mk D R hD hR
  unfold parseW
  rw [hm, hc, hp, if_neg (by intro e; exact h0 (List.eq_nil_of_length_eq_zero e)), mkS_extract]
  have e1 : numA (mkS (D ++ R)) = D.foldl accA 0 := by unfold numA; rw [hp]
  rw [e1]
  simp
theorem right3_in (p q : Int) (h1 : p.natAbs ≤ 1048576) (h2 : q.natAbs ≤ 1048576) : right3 p q = (p, q, true) := if_pos ⟨h1, h2⟩
/-- Behind the first part: nothing, i, or a sign, digits, i. -/
theorem rest_nil (p : Int) : restW numA p (mkS []) = right3 p 0 := by
  unfold restW
  rw [mkS_toList]
  rfl
theorem rest_i (p : Int) : restW numA p (mkS [105]) = right3 0 p := by
  unfold restW
  rw [mkS_toList]
  rfl
theorem tail_mk (p : Int) (m : Bool) (D : List UInt8) (hD : ∀ c ∈ D, dig c = true) (h0 : D ≠ []) : tailW numA p m (mkS (D ++ [105])) = right3 p (sgn m (D.foldl accA 0)) := by
  have hp := pre_mk D [105] hD (by intro c hc; cases hc; decide)
  have e1 : numA (mkS (D ++ [105])) = D.foldl accA 0 := by unfold numA; rw [hp]
  unfold tailW
  rw [hp, if_neg (by intro e; exact h0 (List.eq_nil_of_length_eq_zero e)), mkS_extract, mkS_toList, e1]
  simp
theorem rest_plus (p : Int) (D : List UInt8) (hD : ∀ c ∈ D, dig c = true) (h0 : D ≠ []) : restW numA p (mkS (43 :: (D ++ [105]))) = right3 p (sgn false (D.foldl accA 0)) := by
  unfold restW
  rw [mkS_toList, if_neg (by simp), if_neg (by simp), mkS_list, List.head?_cons, if_pos rfl, mkS_extract]
  exact tail_mk p false D hD h0
theorem rest_minus (p : Int) (D : List UInt8) (hD : ∀ c ∈ D, dig c = true) (h0 : D ≠ []) : restW numA p (mkS (45 :: (D ++ [105]))) = right3 p (sgn true (D.foldl accA 0)) := by
  unfold restW
  rw [mkS_toList, if_neg (by simp), if_neg (by simp), mkS_list, List.head?_cons, if_neg (by decide), if_pos rfl, mkS_extract]
  exact tail_mk p true D hD h0

theorem itoaS_mk (n : Int) : itoaS n = mkS ((if decide (n < 0) then [45] else []) ++ Lib.decDigits n.natAbs) := by
  unfold itoaS Lib.itoa mkS
  by_cases h : n < 0
  · rw [if_pos h, if_pos (by simpa using h)]
    rfl
  · rw [if_neg h, if_neg (by simpa using h), show n.toNat = n.natAbs by omega]
    rfl
theorem sgn_self (n : Int) : sgn (decide (n < 0)) n.natAbs = n := by
  unfold sgn
  by_cases h : n < 0
  · rw [if_pos (by simpa using h)]; omega
  · rw [if_neg (by simpa using h)]; omega
theorem i_lit : (⟨#[105]⟩ : ByteArray) = mkS [105] := rfl
theorem plus_lit : (⟨#[43]⟩ : ByteArray) = mkS [43] := rfl
theorem dd (n : Int) : ∀ c ∈ Lib.decDigits n.natAbs, dig c = true := dec_dig _ _ (Nat.le_refl _)
theorem parse_text (a b : Int) (ha : a.natAbs ≤ 1048576) (hb : b.natAbs ≤ 1048576) : parseW numA (text a b) = (a, b, true) := by
  have va := dec_val _ _ (Nat.le_refl a.natAbs) ha
  have vb := dec_val _ _ (Nat.le_refl b.natAbs) hb
  unfold text
  by_cases hb0 : b = 0
  · rw [if_pos hb0, itoaS_mk]
    have := parse_mk (decide (a < 0)) (Lib.decDigits a.natAbs) [] (dd a) (dec_ne _) (by simp)
    rw [List.append_nil] at this
    rw [this, rest_nil, va, sgn_self, right3_in _ _ ha (by decide), hb0]
  rw [if_neg hb0]
  by_cases ha0 : a = 0
  · rw [if_pos ha0, itoaS_mk, i_lit, mkS_append]
    have := parse_mk (decide (b < 0)) (Lib.decDigits b.natAbs) [105] (dd b) (dec_ne _) (by intro c hc; cases hc; decide)
    rw [this, rest_i, vb, sgn_self, right3_in _ _ (by decide) hb, ha0]
  rw [if_neg ha0]
  by_cases hb1 : 0 < b
  · rw [if_pos hb1, itoaS_mk a, itoaS_mk b, i_lit, plus_lit, mkS_append, mkS_append, mkS_append]
    have e : decide (b < 0) = false := decide_eq_false (by omega)
    rw [e]
    have := parse_mk (decide (a < 0)) (Lib.decDigits a.natAbs) (43 :: (Lib.decDigits b.natAbs ++ [105])) (dd a) (dec_ne _) (by intro c hc; cases hc; decide)
    have el : ((if decide (a < 0) = true then [45] else []) ++ Lib.decDigits a.natAbs ++ [43] ++ ((if false = true then [45] else []) ++ Lib.decDigits b.natAbs ++ [105])) = (if decide (a < 0) = true then [45] else []) ++ Lib.decDigits a.natAbs ++ 43 :: (Lib.decDigits b.natAbs ++ [105]) := by simp
    rw [el, this, rest_plus _ _ (dd b) (dec_ne _), va, vb, sgn_self]
    have eb : sgn false b.natAbs = b := by have := sgn_self b; rw [e] at this; exact this
    rw [eb, right3_in _ _ ha hb]
  · rw [if_neg hb1, itoaS_mk a, itoaS_mk b, i_lit, mkS_append, mkS_append]
    have e : decide (b < 0) = true := decide_eq_true (by omega)
    rw [e]
    have := parse_mk (decide (a < 0)) (Lib.decDigits a.natAbs) (45 :: (Lib.decDigits b.natAbs ++ [105])) (dd a) (dec_ne _) (by intro c hc; cases hc; decide)
    have el : ((if decide (a < 0) = true then [45] else []) ++ Lib.decDigits a.natAbs ++ ((if true = true then [45] else []) ++ Lib.decDigits b.natAbs ++ [105])) = (if decide (a < 0) = true then [45] else []) ++ Lib.decDigits a.natAbs ++ 45 :: (Lib.decDigits b.natAbs ++ [105]) := by simp
    rw [el, this, rest_minus _ _ (dd b) (dec_ne _), va, vb, sgn_self]
    have eb : sgn true b.natAbs = b := by have := sgn_self b; rw [e] at this; exact this
    rw [eb, right3_in _ _ ha hb]
theorem text_size (a b : Int) (ha : a.natAbs ≤ 1048576) (hb : b.natAbs ≤ 1048576) : (text a b).size ≤ 9223372036854775806 := by
  have s1 := itoaS_size a (by omega) (by omega)
  have s2 := itoaS_size b (by omega) (by omega)
  have e1 : (⟨#[105]⟩ : ByteArray).size = 1 := rfl
  have e2 : (⟨#[43]⟩ : ByteArray).size = 1 := rfl
  unfold text
  split
  · omega
  split
  · rw [ByteArray.size_append]; omega
  split
  · rw [ByteArray.size_append, ByteArray.size_append, ByteArray.size_append]; omega
  · rw [ByteArray.size_append, ByteArray.size_append]; omega
theorem parse_empty : parseW numA ⟨#[]⟩ = (0, 0, false) := by decide +kernel
end Go.Proofs.YtldbfldonkcjmaaDoor
