/-
  The package's Right, Elem, Named, Array, Func.
-/
import Derived.Test.YtcjddbponknnoaaGreatDoorTypesEnd
import Derived.Test.YtcjddbponknnoaaGreatDoorTypesMath
namespace Go.Proofs.YtcjddbponknnoaaGreatDoor
open Go.RowKit

/-- A bool; what was there stays. -/
def BoolB (b : Bool) (w : World) (e : Ending) (w' : World) : Prop := e = .returned (.bool b) ∧ Below w.heap.size w w'
theorem end_len (L : List UInt8) : ((endI L 0 == (L.length : Int)) = true) ↔ one L = some [] := by
  rw [beq_iff_eq, endI, List.drop_zero]
  cases h : one L with
  | none => simp
  | some r =>
    simp only [Option.some.injEq]
    constructor
    · intro e
      exact List.eq_nil_of_length_eq_zero (by omega)
    · rintro rfl
      simp

set_option maxHeartbeats 1000000 in
set_option maxRecDepth 1000000 in
theorem right (s : ByteArray) (w : World) : Calls Tryz.prog 76 #[.string s] w (BoolB (rightR s.data.toList) w) := by
  by_cases hs : s.size ≤ 200
  · have he := fun u => endAt s 0 u hs (by omega)
    have HR : Hid (rightR s.data.toList = (endI s.data.toList 0 == (s.size : Int))) := by
      rw [hid_iff, rightR, decide_eq_true (by rw [size_len]; exact hs), Bool.true_and, Bool.eq_iff_iff, decide_eq_true_iff, ← size_len, end_len]
    have hs' : (s.size : Int) ≤ 200 := by omega
    generalize endI s.data.toList 0 = r at *
    go_enter Tryz.func76, Tryz.ntmps76
    go_wp2_with (go_at_call 134; refine (he _).mono ?_; rintro e w1 ⟨rfl, hb⟩)
    go_ret
    exact ⟨by rw [HR.out]; rfl, hb⟩
  · have HR : Hid (rightR s.data.toList = false) := by
      rw [hid_iff, rightR, decide_eq_false (by rw [size_len]; exact hs)]; rfl
    have hs' : ¬ (s.size : Int) ≤ 200 := by omega
    clear hs
    go_enter Tryz.func76, Tryz.ntmps76
    go_wp2_with fail
    go_ret
    exact ⟨by rw [HR.out]; rfl, Below.refl _ _⟩

theorem rightR_len {l : List UInt8} (h : rightR l = true) : l.length ≤ 200 := by
  rw [rightR, Bool.and_eq_true, decide_eq_true_iff] at h
  exact h.1
theorem rightR_one {l : List UInt8} (h : rightR l = true) : one l = some [] := by
  rw [rightR, Bool.and_eq_true, decide_eq_true_iff, decide_eq_true_iff] at h
  exact h.2
theorem rightR_pos {l : List UInt8} (h : rightR l = true) : 0 < l.length := by
  have := one_len (rightR_one h)
  simpa using this
/-- The element of an array. -/
def elemR (l : List UInt8) : List UInt8 := (l.drop 1).take (l.length - 2)
def isArr (l : List UInt8) : Bool := rightR l && isHead 91 l
def isFn (l : List UInt8) : Bool := rightR l && isHead 40 l
def ElemE (l : List UInt8) (w : World) (e : Ending) (w' : World) : Prop :=
  e = .returned (if isArr l = true then .tuple #[.string (str (elemR l)), .bool true] else .tuple #[.string (str []), .bool false]) ∧ Below w.heap.size w w'
theorem elemE_yes {l x : List UInt8} {w w' : World} (h : isArr l = true) (hx : elemR l = x) (hb : Below w.heap.size w w') : ElemE l w (.returned (.tuple #[.string (str x), .bool true])) w' := by
  subst hx
  exact ⟨by rw [if_pos h], hb⟩
theorem elemE_no {l : List UInt8} {x : ByteArray} {w w' : World} (h : isArr l = false) (hx : x = str []) (hb : Below w.heap.size w w') : ElemE l w (.returned (.tuple #[.string x, .bool false])) w' := by
  subst hx
  exact ⟨by rw [if_neg (by rw [h]; decide)], hb⟩
theorem isHead_at (s : ByteArray) (n : Nat) (h : 0 < s.size) : isHead n s.data.toList = decide (s[0].toNat = n) := by
  have := drop_at s 0 h
  rw [List.drop_zero] at this
  rw [this, isHead_cons]
theorem arr_two {c : UInt8} {r : List UInt8} (hc : c.toNat = 91) (h : one (c :: r) = some []) : 2 ≤ (c :: r).length := by
  cases r with
  | nil => rw [one_arr _ hc, one_nil] at h; cases h
  | cons => simp

theorem below_trans {w w1 w2 : World} (h1 : Below w.heap.size w w1) (h2 : Below w1.heap.size w1 w2) : Below w.heap.size w w2 :=
  h1.trans ⟨h2.os, h2.tape, h2.output, h2.size, fun k hk => h2.block k (Nat.lt_of_lt_of_le hk h1.size)⟩
theorem named_short {l : List UInt8} (h : namedR l = true) : (aheadR l).length ≤ 24 ∧ (behindR l).length ≤ 24 := by
  rw [namedR, Bool.and_eq_true, valueR, Bool.and_eq_true, bigR, Bool.and_eq_true] at h
  have h1 := h.1.1
  have h2 := h.2.1
  simp only [nameR, Bool.and_eq_true, decide_eq_true_eq] at h1 h2
  exact ⟨h1.1.1.2, h2.1.1.2⟩
/-- The parts of a named type; nothing, if it is none. -/
def NamedE (l : List UInt8) (w : World) (e : Ending) (w' : World) : Prop :=
  e = .returned (if namedR l = true then .tuple #[.string (str (aheadR l)), .string (str (behindR l)), .bool true] else .tuple #[.string (str []), .string (str []), .bool false]) ∧ Below w.heap.size w w'
/-- A row of texts that can be read. -/
def StrRow (w : World) (v : Value) (xs : List (List UInt8)) : Prop :=
  (xs = [] ∧ ∃ a c, v = .slice a 0 c) ∨ ∃ bk o c, v = .slice (some ⟨bk, o, none⟩) xs.length c ∧ bk < w.heap.size ∧ xs.length ≤ c ∧ ∀ (j : Nat) x, xs[j]? = some x → w.cell? ⟨bk, o + j, none⟩ = some (.string (str x))
theorem StrRow.below {w w' : World} {v : Value} {xs : List (List UInt8)} (h : StrRow w v xs) (hb : Below w.heap.size w w') : StrRow w' v xs := by
  rcases h with h | ⟨bk, o, c, rfl, h1, h2, h3⟩
  · exact .inl h
  · exact .inr ⟨bk, o, c, rfl, Nat.lt_of_lt_of_le h1 hb.size, h2, fun j x hj => by
      have := h3 j x hj
      unfold World.cell? at this ⊢
      rw [hb.block bk h1]
      exact this⟩
theorem StrRow.shape {w : World} {v : Value} {xs : List (List UInt8)} (h : StrRow w v xs) : ∃ a c, v = .slice a xs.length c := by
  rcases h with ⟨rfl, a, c, rfl⟩ | ⟨bk, o, c, rfl, _⟩
  · exact ⟨a, c, rfl⟩
  · exact ⟨_, c, rfl⟩
/-- Texts as cells. -/
def sc (l : List (List UInt8)) : List Value := l.map fun x => Value.string (str x)
theorem sc_length (l : List (List UInt8)) : (sc l).length = l.length := by simp [sc]
theorem sc_append (a b : List (List UInt8)) : sc (a ++ b) = sc a ++ sc b := by simp [sc]
theorem strRow_own {w : World} {B e : Nat} {v : Value} {xs : List (List UInt8)} (h : w.ownsRow B e 1 v xs.length (sc xs)) : StrRow w v xs := by
  rcases h.2 with ⟨rfl, hn⟩ | ⟨g, cap, cur, rfl, hb, hg, h1, _⟩
  · exact .inl ⟨List.eq_nil_of_length_eq_zero hn, none, 0, rfl⟩
  · refine .inr ⟨g, 0, cap, rfl, (Array.getElem?_eq_some_iff.1 hg).1, h1, fun j x hj => ?_⟩
    have hlt := (List.getElem?_eq_some_iff.1 hj).1
    rw [Nat.zero_add, h.cellAt j (by omega)]
    simp [sc, hj]
theorem map_data (xs : List (List UInt8)) : (xs.map str).map (·.data.toList) = xs := by
  rw [List.map_map]
  conv => rhs; rw [← List.map_id xs]
  rfl

set_option maxHeartbeats 1000000 in
set_option maxRecDepth 1000000 in
theorem func (v : Value) (ps : List (List UInt8)) (r : List UInt8) (w : World) (hv : StrRow w v ps) (hn : ps.length ≤ 1000000) (hj : (joinR ps).length ≤ 1000000000) (hr : r.length ≤ 1000000000) :
    Calls Tryz.prog 52 #[v, .string (str r)] w (TextB (funcR ps r) w) := by
  have hjo : Calls Tryz.prog 111 #[v, .string ⟨#[44]⟩] w (TextB (joinR ps) w) := by
    rcases hv with ⟨rfl, a, c, rfl⟩ | ⟨bk, o, c, rfl, h1, h2, h3⟩
    · refine (Tryz.strings_Join_none a c ⟨#[44]⟩ w).mono ?_
      rintro e w1 ⟨rfl, rfl⟩
      exact ⟨rfl, Below.refl _ _⟩
    · have := Tryz.strings_Join bk o c (ps.map str) ⟨#[44]⟩ w (fun j x hx => ?_) h1 (by simp; omega) (by simpa using h2) (by rw [map_data]; exact Nat.le_trans hj (by omega))
      · rw [map_data, List.length_map] at this
        exact this.mono fun e w1 h => h
      · rw [List.getElem?_map] at hx
        obtain ⟨y, hy, rfl⟩ := Option.map_eq_some_iff.1 hx
        exact h3 j y hy
  clear hv
  have hxs : (str (joinR ps)).size = (joinR ps).length := rfl
  have hrs : (str r).size = r.length := rfl
  have HE : Hid ((⟨#[40]⟩ : ByteArray) ++ str (joinR ps) ++ ⟨#[41]⟩ ++ str r = str (funcR ps r)) := by
    rw [hid_iff, show (⟨#[40]⟩ : ByteArray) = str [40] from rfl, show (⟨#[41]⟩ : ByteArray) = str [41] from rfl, str_append, str_append, str_append, funcR]
    simp
  generalize joinR ps = x at *
  go_enter Tryz.func52, Tryz.ntmps52
  go_wp2_with (go_at_call 111; refine hjo.mono ?_; rintro e w1 ⟨rfl, hb⟩)
  go_ret
  exact ⟨by rw [← HE.out]; rfl, hb⟩
end Go.Proofs.YtcjddbponknnoaaGreatDoor
