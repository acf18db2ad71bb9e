/-
  The package's Text and the document's: what each call answers.
-/
import Derived.Test.YtldbfldonkcjmabDoorRefOne
import Derived.Test.YtldbfldonkcjmabDoorShelf
import Derived.Lib.SmallJoins
import Derived.Lib.ItoaLen
namespace Go.Proofs.YtldbfldonkcjmabDoor
open Go.RowKit Ieee

def Tab (w : World) : Prop := Lib.TabIs Tryd.prog w "internal/strconv.uint64pow10" .u64 Lib.pow10Tab
theorem tabGlobal : Tryd.prog.globalNamed "internal/strconv.uint64pow10" = some 1 := by kernel_rfl
theorem Tab.below {w w' : World} (h : Tab w) (hb : Below w.heap.size w w') : Tab w' := Joins.tab_stays tabGlobal h hb (Nat.le_refl _)

def itoaS (n : Int) : ByteArray := ⟨(Lib.itoa n).toArray⟩
theorem itoaS_size (n : Int) (h0 : -9223372036854775808 ≤ n) (h1 : n ≤ 9223372036854775807) : (itoaS n).size ≤ 21 := by
  have := Lib.itoa_length_le n h0 h1
  simpa [itoaS, ByteArray.size] using this
/-- A call that answers a text, and lays new memory alone. -/
def TextE (s : ByteArray) (w : World) (e : Ending) (w' : World) : Prop := e = .returned (.string s) ∧ Below w.heap.size w w'

theorem itoa (n : Int) (h0 : -9223372036854775808 ≤ n) (h1 : n ≤ 9223372036854775807) (w : World) (ht : Tab w) : Calls Tryd.prog 13 #[.int .i64 n] w (TextE (itoaS n) w) := by
  refine (Tryd.strconv_Itoa n h0 h1 w ht).mono ?_
  rintro e w' ⟨rfl, k, os, rfl⟩
  refine ⟨rfl, rfl, rfl, rfl, ?_, ?_⟩
  · show w.heap.size ≤ (w.heap ++ os).size
    simp
  · intro i hi
    show (w.heap ++ os)[i]? = _
    rw [Array.getElem?_append_left hi]

def iS : ByteArray := ⟨#[105]⟩
def plusS : ByteArray := ⟨#[43]⟩
def text (a b : Int) : ByteArray :=
  if b = 0 then itoaS a else if a = 0 then itoaS b ++ ⟨#[105]⟩ else if 0 < b then itoaS a ++ ⟨#[43]⟩ ++ (itoaS b ++ ⟨#[105]⟩) else itoaS a ++ (itoaS b ++ ⟨#[105]⟩)

set_option maxHeartbeats 400000 in
set_option maxRecDepth 1000000 in
theorem text_right (p1 p2 : Nat) (a b : Int) (h1 : p1 < 18446744073709551616) (h2 : p2 < 18446744073709551616) (ha : Rt p1 a) (hb : Rt p2 b) (w : World) (ht : Tab w) :
    Calls Tryd.prog 9 #[.complex .f64 p1 p2] w (TextE (text a b) w) := by
  have a20 := ha.2
  have b20 := hb.2
  have e1 : (FloatKind.f64.format.order p2 0 == some .eq) = decide (b = 0) := Fl.eq hb.1 Fl.zero
  have e2 : (FloatKind.f64.format.order p1 0 == some .eq) = decide (a = 0) := Fl.eq ha.1 Fl.zero
  have e3 : (FloatKind.f64.format.order p2 0 == some .gt) = decide (0 < b) := Fl.gt hb.1 Fl.zero
  have hR := right_yes p1 p2 a b h1 h2 ha hb
  have c1 := conv_int p1 a ha
  have c2 := conv_int p2 b hb
  have s1 := itoaS_size a (by omega) (by omega)
  have s2 := itoaS_size b (by omega) (by omega)
  have i1 := itoa a (by omega) (by omega)
  have i2 := itoa b (by omega) (by omega)
  clear ha hb
  unfold text
  generalize itoaS a = sa at *
  generalize itoaS b = sb at *
  by_cases hb0 : b = 0
  · rw [decide_eq_true hb0] at e1
    rw [if_pos hb0]
    clear hb0 e2 e3
    go_enter Tryd.func9, Tryd.ntmps9
    go_wp2_with fail
    refine (hR _).mono ?_
    rintro e w1 ⟨rfl, rfl⟩
    go_wp2_with fail
    refine (i1 _ ht).mono ?_
    rintro e w2 ⟨rfl, k2⟩
    go_wp2_with fail
    refine (i2 _ (ht.below k2)).mono ?_
    rintro e w3 ⟨rfl, k3⟩
    have k4 := k2.trans (k3.mono k2.size)
    go_wp2
    go_ret
    exact ⟨rfl, k4⟩
  rw [decide_eq_false hb0] at e1
  rw [if_neg hb0]
  by_cases ha0 : a = 0
  · rw [decide_eq_true ha0] at e2
    rw [if_pos ha0]
    clear hb0 ha0 e3
    go_enter Tryd.func9, Tryd.ntmps9
    go_wp2_with fail
    refine (hR _).mono ?_
    rintro e w1 ⟨rfl, rfl⟩
    go_wp2_with fail
    refine (i1 _ ht).mono ?_
    rintro e w2 ⟨rfl, k2⟩
    go_wp2_with fail
    refine (i2 _ (ht.below k2)).mono ?_
    rintro e w3 ⟨rfl, k3⟩
    have k4 := k2.trans (k3.mono k2.size)
    go_wp2
    go_ret
    exact ⟨rfl, k4⟩
  rw [decide_eq_false ha0] at e2
  rw [if_neg ha0]
  clear hb0 ha0
  by_cases hb1 : 0 < b
  · rw [decide_eq_true hb1] at e3
    rw [if_pos hb1]
    clear hb1
    go_enter Tryd.func9, Tryd.ntmps9
    go_wp2_with fail
    refine (hR _).mono ?_
    rintro e w1 ⟨rfl, rfl⟩
    go_wp2_with fail
    refine (i1 _ ht).mono ?_
    rintro e w2 ⟨rfl, k2⟩
    go_wp2_with fail
    refine (i2 _ (ht.below k2)).mono ?_
    rintro e w3 ⟨rfl, k3⟩
    have k4 := k2.trans (k3.mono k2.size)
    go_wp2
    go_ret
    exact ⟨rfl, k4⟩
  · rw [decide_eq_false hb1] at e3
    rw [if_neg hb1]
    clear hb1
    go_enter Tryd.func9, Tryd.ntmps9
    go_wp2_with fail
    refine (hR _).mono ?_
    rintro e w1 ⟨rfl, rfl⟩
    go_wp2_with fail
    refine (i1 _ ht).mono ?_
    rintro e w2 ⟨rfl, k2⟩
    go_wp2_with fail
    refine (i2 _ (ht.below k2)).mono ?_
    rintro e w3 ⟨rfl, k3⟩
    have k4 := k2.trans (k3.mono k2.size)
    go_wp2
    go_ret
    exact ⟨rfl, k4⟩
set_option maxRecDepth 1000000 in
theorem text_no (p1 p2 : Nat) (h1 : p1 < 18446744073709551616) (h2 : p2 < 18446744073709551616) (h : NotRt p1 ∨ NotRt p2) (w : World) :
    Calls Tryd.prog 9 #[.complex .f64 p1 p2] w (TextE ⟨#[]⟩ w) := by
  go_enter Tryd.func9, Tryd.ntmps9
  go_wp2_with fail
  refine (right_no p1 p2 h1 h2 h _).mono ?_
  rintro e w1 ⟨rfl, rfl⟩
  go_wp2
  go_ret
  exact ⟨rfl, Below.refl _ _⟩
end Go.Proofs.YtldbfldonkcjmabDoor
