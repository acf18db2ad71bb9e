/-
  The package's Right, Elem, Named, Array, Func.
  And: The package's Parts: its walk. Texts in order, each once: what sorting and compacting come to, and what putting one text among others does. No program in it. The package's Names: its walk. The package's isWord, formOf, within: what a tree in memory stands for, and what it is made of.
-/
import Derived.Test.YtchfhkfepghfjaaPfAf
import Derived.Test.YtchfhkfepghfjaaPfAg
import Derived.Lib.SlicesCompact
namespace Go.Proofs.Ytchfhkfepghfjaa
open Go.RowKit

/-- A bool; what was there stays. -/
def BoolB (b : Bool) (w : World) (e : Ending) (w' : World) : Prop := e = .returned (.bool b) ∧ Below w.heap.size w w'
theorem end_len (L : List UInt8) : ((endI L 0 == (L.length : Int)) = true) ↔ one L = some [] := by
  rw [beq_iff_eq, endI, List.drop_zero]
  cases h : one L with
  | none => simp
  | some r =>
    simp only [Option.some.injEq]
    constructor
    · intro e
      exact List.eq_nil_of_length_eq_zero (by omega)
    · rintro rfl
      simp

theorem rightR_len {l : List UInt8} (h : rightR l = true) : l.length ≤ 200 := by
  rw [rightR, Bool.and_eq_true, decide_eq_true_iff] at h
  exact h.1
theorem rightR_one {l : List UInt8} (h : rightR l = true) : one l = some [] := by
  rw [rightR, Bool.and_eq_true, decide_eq_true_iff, decide_eq_true_iff] at h
  exact h.2
theorem rightR_pos {l : List UInt8} (h : rightR l = true) : 0 < l.length := by
  have := one_len (rightR_one h)
  simpa using this
/-- The element of an array. -/
def elemR (l : List UInt8) : List UInt8 := (l.drop 1).take (l.length - 2)
def isArr (l : List UInt8) : Bool := rightR l && isHead 91 l
def isFn (l : List UInt8) : Bool := rightR l && isHead 40 l
def ElemE (l : List UInt8) (w : World) (e : Ending) (w' : World) : Prop :=
  e = .returned (if isArr l = true then .tuple #[.string (str (elemR l)), .bool true] else .tuple #[.string (str []), .bool false]) ∧ Below w.heap.size w w'
theorem elemE_yes {l x : List UInt8} {w w' : World} (h : isArr l = true) (hx : elemR l = x) (hb : Below w.heap.size w w') : ElemE l w (.returned (.tuple #[.string (str x), .bool true])) w' := by
  subst hx
  exact ⟨by rw [if_pos h], hb⟩
theorem elemE_no {l : List UInt8} {x : ByteArray} {w w' : World} (h : isArr l = false) (hx : x = str []) (hb : Below w.heap.size w w') : ElemE l w (.returned (.tuple #[.string x, .bool false])) w' := by
  subst hx
  exact ⟨by rw [if_neg (by rw [h]; decide)], hb⟩
theorem isHead_at (s : ByteArray) (n : Nat) (h : 0 < s.size) : isHead n s.data.toList = decide (s[0].toNat = n) := by
  have := drop_at s 0 h
  rw [List.drop_zero] at this
  rw [this, isHead_cons]
theorem arr_two {c : UInt8} {r : List UInt8} (hc : c.toNat = 91) (h : one (c :: r) = some []) : 2 ≤ (c :: r).length := by
  cases r with
  | nil => rw [one_arr _ hc, one_nil] at h; cases h
  | cons => simp

theorem below_trans {w w1 w2 : World} (h1 : Below w.heap.size w w1) (h2 : Below w1.heap.size w1 w2) : Below w.heap.size w w2 :=
  h1.trans ⟨h2.os, h2.tape, h2.output, h2.size, fun k hk => h2.block k (Nat.lt_of_lt_of_le hk h1.size)⟩
theorem named_short {l : List UInt8} (h : namedR l = true) : (aheadR l).length ≤ 24 ∧ (behindR l).length ≤ 24 := by
  rw [namedR, Bool.and_eq_true, valueR, Bool.and_eq_true, bigR, Bool.and_eq_true] at h
  have h1 := h.1.1
  have h2 := h.2.1
  simp only [nameR, Bool.and_eq_true, decide_eq_true_eq] at h1 h2
  exact ⟨h1.1.1.2, h2.1.1.2⟩
/-- The parts of a named type; nothing, if it is none. -/
def NamedE (l : List UInt8) (w : World) (e : Ending) (w' : World) : Prop :=
  e = .returned (if namedR l = true then .tuple #[.string (str (aheadR l)), .string (str (behindR l)), .bool true] else .tuple #[.string (str []), .string (str []), .bool false]) ∧ Below w.heap.size w w'
set_option maxHeartbeats 1000000 in
set_option maxRecDepth 1000000 in
theorem array (x : List UInt8) (w : World) (hx : x.length ≤ 1000000) : Calls Try.prog 75 #[.string (str x)] w (Pu (.string (str (arrR x))) w) := by
  have hxs : (str x).size = x.length := rfl
  have HE : Hid ((⟨#[91]⟩ : ByteArray) ++ str x ++ ⟨#[93]⟩ = str (arrR x)) := by
    rw [hid_iff, show (⟨#[91]⟩ : ByteArray) = str [91] from rfl, show (⟨#[93]⟩ : ByteArray) = str [93] from rfl, str_append, str_append]
    rfl
  go_enter Try.func75, Try.ntmps75
  go_wp2
  go_ret
  exact ⟨by rw [← HE.out]; rfl, rfl⟩

/-- A row of texts that can be read. -/
def StrRow (w : World) (v : Value) (xs : List (List UInt8)) : Prop :=
  (xs = [] ∧ ∃ a c, v = .slice a 0 c) ∨ ∃ bk o c, v = .slice (some ⟨bk, o, none⟩) xs.length c ∧ bk < w.heap.size ∧ xs.length ≤ c ∧ ∀ (j : Nat) x, xs[j]? = some x → w.cell? ⟨bk, o + j, none⟩ = some (.string (str x))
theorem StrRow.below {w w' : World} {v : Value} {xs : List (List UInt8)} (h : StrRow w v xs) (hb : Below w.heap.size w w') : StrRow w' v xs := by
  rcases h with h | ⟨bk, o, c, rfl, h1, h2, h3⟩
  · exact .inl h
  · exact .inr ⟨bk, o, c, rfl, Nat.lt_of_lt_of_le h1 hb.size, h2, fun j x hj => by
      have := h3 j x hj
      unfold World.cell? at this ⊢
      rw [hb.block bk h1]
      exact this⟩
theorem StrRow.shape {w : World} {v : Value} {xs : List (List UInt8)} (h : StrRow w v xs) : ∃ a c, v = .slice a xs.length c := by
  rcases h with ⟨rfl, a, c, rfl⟩ | ⟨bk, o, c, rfl, _⟩
  · exact ⟨a, c, rfl⟩
  · exact ⟨_, c, rfl⟩
/-- Texts as cells. -/
def sc (l : List (List UInt8)) : List Value := l.map fun x => Value.string (str x)
theorem sc_length (l : List (List UInt8)) : (sc l).length = l.length := by simp [sc]
theorem sc_append (a b : List (List UInt8)) : sc (a ++ b) = sc a ++ sc b := by simp [sc]
theorem strRow_own {w : World} {B e : Nat} {v : Value} {xs : List (List UInt8)} (h : w.ownsRow B e 1 v xs.length (sc xs)) : StrRow w v xs := by
  rcases h.2 with ⟨rfl, hn⟩ | ⟨g, cap, cur, rfl, hb, hg, h1, _⟩
  · exact .inl ⟨List.eq_nil_of_length_eq_zero hn, none, 0, rfl⟩
  · refine .inr ⟨g, 0, cap, rfl, (Array.getElem?_eq_some_iff.1 hg).1, h1, fun j x hj => ?_⟩
    have hlt := (List.getElem?_eq_some_iff.1 hj).1
    rw [Nat.zero_add, h.cellAt j (by omega)]
    simp [sc, hj]
theorem map_data (xs : List (List UInt8)) : (xs.map str).map (·.data.toList) = xs := by
  rw [List.map_map]
  conv => rhs; rw [← List.map_id xs]
  rfl

set_option maxHeartbeats 1000000 in
set_option maxRecDepth 1000000 in
theorem func (v : Value) (ps : List (List UInt8)) (r : List UInt8) (w : World) (hv : StrRow w v ps) (hn : ps.length ≤ 1000000) (hj : (joinR ps).length ≤ 1000000000) (hr : r.length ≤ 1000000000) :
    Calls Try.prog 76 #[v, .string (str r)] w (TextB (funcR ps r) w) := by
  have hjo : Calls Try.prog 83 #[v, .string ⟨#[44]⟩] w (TextB (joinR ps) w) := by
    rcases hv with ⟨rfl, a, c, rfl⟩ | ⟨bk, o, c, rfl, h1, h2, h3⟩
    · refine (Try.strings_Join_none a c ⟨#[44]⟩ w).mono ?_
      rintro e w1 ⟨rfl, rfl⟩
      exact ⟨rfl, Below.refl _ _⟩
    · have := Try.strings_Join bk o c (ps.map str) ⟨#[44]⟩ w (fun j x hx => ?_) h1 (by simp; omega) (by simpa using h2) (by rw [map_data]; exact Nat.le_trans hj (by omega))
      · rw [map_data, List.length_map] at this
        exact this.mono fun e w1 h => h
      · rw [List.getElem?_map] at hx
        obtain ⟨y, hy, rfl⟩ := Option.map_eq_some_iff.1 hx
        exact h3 j y hy
  clear hv
  have hxs : (str (joinR ps)).size = (joinR ps).length := rfl
  have hrs : (str r).size = r.length := rfl
  have HE : Hid ((⟨#[40]⟩ : ByteArray) ++ str (joinR ps) ++ ⟨#[41]⟩ ++ str r = str (funcR ps r)) := by
    rw [hid_iff, show (⟨#[40]⟩ : ByteArray) = str [40] from rfl, show (⟨#[41]⟩ : ByteArray) = str [41] from rfl, str_append, str_append, str_append, funcR]
    simp
  generalize joinR ps = x at *
  go_enter Try.func76, Try.ntmps76
  go_wp2_with (go_at_call 83; refine hjo.mono ?_; rintro e w1 ⟨rfl, hb⟩)
  go_ret
  exact ⟨by rw [← HE.out]; rfl, hb⟩
end Go.Proofs.Ytchfhkfepghfjaa

namespace Go.Proofs.Ytchfhkfepghfjaa
open Go.RowKit

theorem infoS : (Try.prog.info? 9).map (fun i => (i.zero.map (fun z => z.cells.size), i.size, i.bytes)) = some (some 1, 1, 16) := by kernel_rfl
/-- append of one text onto a row of the call's own. -/
theorem append_text {w : World} {ops : Array Oper} {rest : List Oper} {o : Oper} {a : Act} {Q : Exit → Act → World → Prop} (hgd : o.guard = none) (s x : Operand)
    (ho : o.op = .call { callee := .builtin .append, args := #[s, x], argTypes := #[24, 24] })
    (B : Nat) (v : Value) (acc : List (List UInt8)) (hs : a.eval s = v) (hown : w.ownsRow B 9 1 v acc.length (sc acc))
    (ad : Addr) (c : Nat) (n : List UInt8) (hx : a.eval x = .slice (some ad) 1 c) (hnews : ∀ j u, (sc [n])[j]? = some u → w.cell? (ad.add j) = some u)
    (hlen : acc.length + 1 ≤ 8193) (hB : B ≤ w.heap.size)
    (h : ∀ ad' c' w', w'.ownsRow B 9 1 (.slice (some ad') (acc.length + 1) c') (acc ++ [n]).length (sc (acc ++ [n])) → w.grownBy w' v.ownBlock → wpList Try.prog ops Q rest (a.put o.dst (.slice (some ad') (acc.length + 1) c')) w') :
    wpList Try.prog ops Q (o :: rest) a w := by
  obtain ⟨i, z, hi, hz, h1, h2, h3⟩ := info_z infoS
  refine wpList_append_own w hgd s x 24 ho B 9 i z 1 16 Try.underlying24 hi hz h1 h2 h3 (by decide) v acc.length (sc acc) hs hown ad 1 c (sc [n]) hx rfl hnews (fun u hu => ?_) (by unfold maxLen; omega) (by omega) hB ?_
  · obtain ⟨_, _, rfl⟩ := List.mem_map.1 hu
    rfl
  intro v' w' k1 k2 k3
  rcases k1.2 with ⟨rfl, hz⟩ | ⟨g, cap, cur, rfl, _⟩
  · omega
  · rw [← sc_append] at k1
    exact h ⟨g, 0, none⟩ cap w' (by simpa using k1) k2
theorem frame44 (a : Act) (h : a.tmps.size = 44) (hd : a.defers = []) : ∃ f : Nat → Value, a = { tmps := #[f 0, f 1, f 2, f 3, f 4, f 5, f 6, f 7, f 8, f 9, f 10, f 11, f 12, f 13, f 14, f 15, f 16, f 17, f 18, f 19, f 20, f 21, f 22, f 23, f 24, f 25, f 26, f 27, f 28, f 29, f 30, f 31, f 32, f 33, f 34, f 35, f 36, f 37, f 38, f 39, f 40, f 41, f 42, f 43], defers := [] } := by
  refine ⟨fun k => a.tmps.getD k undef, ?_⟩
  obtain ⟨t, d⟩ := a
  simp only at h hd
  subst hd
  have e := arr_map t
  rw [h] at e
  simp only [Act.mk.injEq, and_true]
  exact e

/-- The parts of a function; nothing, if it is none. -/
def PartsE (l : List UInt8) (w : World) (e : Ending) (w' : World) : Prop :=
  ((isFn l = true ∧ ∃ v, e = .returned (.tuple #[v, .string (str (partsR l).2), .bool true]) ∧ StrRow w' v (partsR l).1) ∨ (isFn l = false ∧ e = .returned (.tuple #[.slice none 0 0, .string (str []), .bool false]))) ∧ Below w.heap.size w w'
/-- Where a parameter ends. -/
theorem param_at {L : List UInt8} {p : Nat} {c : UInt8} {r : List UInt8} (h : one (L.drop p) = some (c :: r)) : ∃ q, p < q ∧ q < L.length ∧ endI L p = (q : Int) ∧ L.drop q = c :: r ∧ (L.drop p).take ((L.drop p).length - (r.length + 1)) = (L.drop p).take (q - p) ∧ L.drop (q + 1) = r := by
  obtain ⟨x, hx, e⟩ := one_suffix h
  have hl := congrArg List.length e
  simp only [List.length_drop, List.length_append, List.length_cons] at hl
  have hx' : 0 < x.length := List.length_pos_iff.2 hx
  have hq : L.drop (p + x.length) = c :: r := by rw [← List.drop_drop, e]; simp
  refine ⟨p + x.length, by omega, by omega, ?_, hq, ?_, drop_cons hq⟩
  · rw [endI, h]
    simp
    omega
  · rw [List.length_drop]
    congr 1
    omega
def ptJ (s : ByteArray) (w0 : World) (lp lc l : Nat) (a : Act) (w : World) : Prop :=
  ∃ (p : Nat) (acc : List (List UInt8)) (v : Value), a.tmps.size = 44 ∧ a.defers = [] ∧ a.tmps.getD 0 undef = .string s ∧ a.tmps.getD 5 undef = v ∧ a.tmps.getD 7 undef = .int .i64 (p : Int) ∧
    p < s.size ∧ acc.length ≤ 6 ∧ w.ownsRow w0.heap.size 9 1 v acc.length (sc acc) ∧ Below w0.heap.size w0 w ∧
    ((l = lp ∧ acc.length < 6 ∧ Hid (Goes acc.length (s.data.toList.drop p)) ∧ Hid (partsR s.data.toList = (acc ++ (psQ (s.data.toList.drop p)).1, (psQ (s.data.toList.drop p)).2))) ∨
     (l = lc ∧ Hid (partsR s.data.toList = (acc, s.data.toList.drop (p + 1)))))
def ptM (s : ByteArray) (lp l : Nat) (a : Act) (_ : World) : Nat :=
  if l = lp then (s.size - (intOf (a.tmps.getD 7 undef)).toNat) + 1 else 0
end Go.Proofs.Ytchfhkfepghfjaa

namespace Go.Proofs.Ytchfhkfepghfjaa
open Go.Lib

abbrev Str : Type := List UInt8
theorem str_total (a b : Str) : a ≤ b ∨ b ≤ a := List.le_total a b
theorem str_le_trans {a b c : Str} (h : a ≤ b) (k : b ≤ c) : a ≤ c := List.le_trans h k
theorem str_le_anti {a b : Str} (h : a ≤ b) (k : b ≤ a) : a = b := List.le_antisymm h k
theorem str_lt_iff {a b : Str} : a < b ↔ a ≤ b ∧ a ≠ b := by
  constructor
  · intro h
    exact ⟨List.le_of_lt h, fun e => by subst e; exact List.lt_irrefl _ h⟩
  · rintro ⟨h, hn⟩
    exact Classical.byContradiction fun hl => hn (str_le_anti h (List.not_lt.1 hl))
theorem str_lt_trans {a b c : Str} (h : a < b) (k : b < c) : a < c := List.lt_trans h k
theorem str_lt_of_le {a b c : Str} (h : a ≤ b) (k : b < c) : a < c := by
  obtain ⟨k1, k2⟩ := str_lt_iff.1 k
  refine str_lt_iff.2 ⟨str_le_trans h k1, fun e => ?_⟩
  subst e
  exact k2 (str_le_anti k1 h)
/-- Strictly in order. -/
def Asc (l : List Str) : Prop := l.Pairwise (· < ·)
theorem asc_ext : ∀ {l m : List Str}, Asc l → Asc m → (∀ x, x ∈ l ↔ x ∈ m) → l = m
  | [], [], _, _, _ => rfl
  | [], b :: m, _, _, h => by have := (h b).2 (by simp); simp at this
  | a :: l, [], _, _, h => by have := (h a).1 (by simp); simp at this
  | a :: l, b :: m, h1, h2, h => by
    unfold Asc at h1 h2
    rw [List.pairwise_cons] at h1 h2
    have hab : a = b := by
      have ha := (h a).1 (by simp)
      have hb := (h b).2 (by simp)
      simp only [List.mem_cons] at ha hb
      rcases ha with e | ha
      · exact e
      · rcases hb with e | hb
        · exact e.symm
        · exact absurd (str_lt_trans (h1.1 b hb) (h2.1 a ha)) (List.lt_irrefl _)
    subst hab
    rw [asc_ext h1.2 h2.2 (fun x => ?_)]
    have hx := h x
    simp only [List.mem_cons] at hx
    constructor
    · intro hl
      rcases hx.1 (.inr hl) with e | hm
      · subst e
        exact absurd (h1.1 _ hl) (List.lt_irrefl _)
      · exact hm
    · intro hm
      rcases hx.2 (.inr hm) with e | hl
      · subst e
        exact absurd (h2.1 _ hm) (List.lt_irrefl _)
      · exact hl
theorem comp_mem (d : Array Str) : ∀ (n : Nat) (x : Str), x ∈ compactUpTo d n ↔ ∃ j, j < n ∧ d[j]! = x
  | 0, x => by simp [compactUpTo]
  | n + 1, x => by
    rw [compactUpTo_succ, List.mem_append, comp_mem d n x]
    by_cases hk : keeps d n = true
    · rw [if_pos hk]
      simp only [List.mem_singleton]
      constructor
      · rintro (⟨j, h1, h2⟩ | h)
        · exact ⟨j, by omega, h2⟩
        · exact ⟨n, by omega, h.symm⟩
      · rintro ⟨j, h1, h2⟩
        rcases (by omega : j < n ∨ j = n) with h | rfl
        · exact .inl ⟨j, h, h2⟩
        · exact .inr h2.symm
    · rw [if_neg hk]
      simp only [keeps, decide_eq_true_eq, not_or, ne_eq, Classical.not_not] at hk
      constructor
      · rintro (⟨j, h1, h2⟩ | h)
        · exact ⟨j, by omega, h2⟩
        · simp at h
      · rintro ⟨j, h1, h2⟩
        rcases (by omega : j < n ∨ j = n) with h | rfl
        · exact .inl ⟨j, h, h2⟩
        · exact .inl ⟨j - 1, by omega, by rw [← hk.2]; exact h2⟩
theorem comp_asc (d : Array Str) (hd : ∀ i j, i ≤ j → j < d.size → d[i]! ≤ d[j]!) : ∀ n, n ≤ d.size → Asc (compactUpTo d n)
  | 0, _ => by simp [compactUpTo, Asc]
  | n + 1, hn => by
    rw [compactUpTo_succ]
    unfold Asc
    rw [List.pairwise_append]
    refine ⟨comp_asc d hd n (by omega), ?_, fun x hx y hy => ?_⟩
    · split <;> simp
    · by_cases hk : keeps d n = true
      · rw [if_pos hk] at hy
        simp only [List.mem_singleton] at hy
        subst hy
        obtain ⟨j, hj, rfl⟩ := (comp_mem d n x).1 hx
        simp only [keeps, decide_eq_true_eq] at hk
        rcases hk with hk | hk
        · omega
        · exact str_lt_of_le (hd j (n - 1) (by omega) (by omega)) (str_lt_iff.2 ⟨hd (n - 1) n (by omega) (by omega), fun e => hk e.symm⟩)
      · rw [if_neg hk] at hy
        simp at hy
def sortR (l : List Str) : List Str := l.mergeSort fun x y => decide (x ≤ y)
theorem sortR_length (l : List Str) : (sortR l).length = l.length := List.length_mergeSort _
theorem sortR_mem (l : List Str) (x : Str) : x ∈ sortR l ↔ x ∈ l := (List.mergeSort_perm l _).mem_iff
theorem sortR_pair (l : List Str) : (sortR l).Pairwise (fun x y => x ≤ y) := by
  have := List.pairwise_mergeSort (le := fun x y : Str => decide (x ≤ y)) (fun a b c h k => by simp only [decide_eq_true_eq] at h k ⊢; exact str_le_trans h k) (fun a b => by simp only [Bool.or_eq_true, decide_eq_true_eq]; exact str_total a b) l
  exact this.imp (fun h => of_decide_eq_true h)
/-- The texts in order, each once. -/
def onceR (l : List Str) : List Str := compact (sortR l)
theorem getBang (l : List Str) (j : Nat) (h : j < l.length) : l.toArray[j]! = l[j] := by simp [h]
theorem onceR_asc (l : List Str) : Asc (onceR l) := by
  unfold onceR compact
  refine comp_asc _ (fun i j hij hj => ?_) _ (by simp)
  simp only [List.size_toArray] at hj
  rw [getBang _ i (by omega), getBang _ j hj]
  rcases Nat.lt_or_eq_of_le hij with h | rfl
  · exact List.pairwise_iff_getElem.1 (sortR_pair l) i j (by omega) hj h
  · exact List.le_refl _
theorem onceR_mem (l : List Str) (x : Str) : x ∈ onceR l ↔ x ∈ l := by
  unfold onceR compact
  rw [comp_mem, ← sortR_mem]
  constructor
  · rintro ⟨j, hj, h⟩
    rw [getBang _ j hj] at h
    subst h
    exact List.getElem_mem hj
  · intro h
    obtain ⟨j, hj, rfl⟩ := List.getElem_of_mem h
    exact ⟨j, hj, getBang _ j hj⟩
theorem onceR_eq {l m : List Str} (ha : Asc m) (h : ∀ x, x ∈ m ↔ x ∈ l) : onceR l = m := asc_ext (onceR_asc l) ha (fun x => by rw [onceR_mem, h])

/-- A text is put among others. -/
def putF (s : Str) : Bool → List Str → List Str
  | d, [] => if d then [] else [s]
  | d, x :: r => (if d = false ∧ s ≤ x then [s] else []) ++ ((if x ≠ s then [x] else []) ++ putF s (d || decide (s ≤ x)) r)
def putR (l : List Str) (s : Str) : List Str := putF s false l
theorem putF_done (s : Str) : ∀ l : List Str, putF s true l = l.filter (fun x => decide (x ≠ s))
  | [] => by simp [putF]
  | x :: r => by
    rw [putF, Bool.true_or, putF_done s r, List.filter_cons]
    by_cases h : x = s <;> simp [h]
theorem putR_mem (s : Str) : ∀ (l : List Str) (x : Str), x ∈ putR l s ↔ x ∈ l ∨ x = s
  | [], x => by simp [putR, putF]
  | y :: r, x => by
    have ih := putR_mem s r x
    unfold putR at ih ⊢
    rw [putF]
    by_cases h : s ≤ y
    · rw [if_pos ⟨rfl, h⟩, Bool.false_or, decide_eq_true h, putF_done]
      by_cases hy : y = s
      · subst hy
        simp only [ne_eq, not_true_eq_false, if_false, List.nil_append, List.mem_append, List.mem_filter, decide_eq_true_eq, List.mem_cons, List.not_mem_nil, or_false]
        constructor
        · rintro (h | h)
          · exact .inr h
          · exact .inl (.inr h.1)
        · rintro ((h | h) | h)
          · exact .inl h
          · by_cases e : x = y
            · exact .inl e
            · exact .inr ⟨h, e⟩
          · exact .inl h
      · simp only [ne_eq, hy, not_false_eq_true, if_true, List.mem_append, List.mem_filter, decide_eq_true_eq, List.mem_cons, List.not_mem_nil, or_false]
        constructor
        · rintro (h | h | h)
          · exact .inr h
          · exact .inl (.inl h)
          · exact .inl (.inr h.1)
        · rintro ((h | h) | h)
          · exact .inr (.inl h)
          · by_cases e : x = s
            · exact .inl e
            · exact .inr (.inr ⟨h, e⟩)
          · exact .inl h
    · have hy : y ≠ s := fun e => h (by rw [e]; exact List.le_refl _)
      rw [if_neg (fun hh => h hh.2), Bool.false_or, decide_eq_false h]
      simp only [ne_eq, hy, not_false_eq_true, if_true, List.nil_append, List.mem_append, List.mem_cons, List.not_mem_nil, or_false, ih]
      constructor
      · rintro (h | h | h)
        · exact .inl (.inl h)
        · exact .inl (.inr h)
        · exact .inr h
      · rintro ((h | h) | h)
        · exact .inl h
        · exact .inr (.inl h)
        · exact .inr (.inr h)
theorem putR_asc (s : Str) : ∀ (l : List Str), Asc l → Asc (putR l s)
  | [], _ => by simp [putR, putF, Asc]
  | y :: r, ha => by
    have ih := putR_asc s r
    have hmem := putR_mem s r
    unfold putR at ih hmem ⊢
    unfold Asc at ha ih ⊢
    rw [List.pairwise_cons] at ha
    rw [putF]
    by_cases h : s ≤ y
    · rw [if_pos ⟨rfl, h⟩, Bool.false_or, decide_eq_true h, putF_done, List.singleton_append, List.pairwise_cons]
      refine ⟨fun x hx => ?_, ?_⟩
      · simp only [List.mem_append, List.mem_filter, decide_eq_true_eq] at hx
        rcases hx with hx | hx
        · split at hx
          · rename_i hy
            simp only [List.mem_singleton] at hx
            subst hx
            exact str_lt_iff.2 ⟨h, fun e => hy e.symm⟩
          · simp at hx
        · exact str_lt_of_le h (ha.1 x hx.1)
      · rw [List.pairwise_append]
        refine ⟨by split <;> simp, ha.2.sublist List.filter_sublist, fun a h1 b h2 => ?_⟩
        split at h1
        · simp only [List.mem_singleton] at h1
          subst h1
          exact ha.1 b (List.mem_filter.1 h2).1
        · simp at h1
    · have hy : y ≠ s := fun e => h (by rw [e]; exact List.le_refl _)
      rw [if_neg (fun hh => h hh.2), Bool.false_or, decide_eq_false h, if_pos hy, List.nil_append, List.singleton_append, List.pairwise_cons]
      refine ⟨fun x hx => ?_, ih ha.2⟩
      rcases (hmem x).1 hx with hx | rfl
      · exact ha.1 x hx
      · rcases str_total y x with k | k
        · exact str_lt_iff.2 ⟨k, hy⟩
        · exact absurd k h
/-- Several texts are put. -/
def putsR (l : List Str) (m : List Str) : List Str := m.foldl putR l
theorem putsR_mem : ∀ (m l : List Str) (x : Str), x ∈ putsR l m ↔ x ∈ l ∨ x ∈ m
  | [], l, x => by simp [putsR]
  | s :: m, l, x => by
    have := putsR_mem m (putR l s) x
    unfold putsR at this ⊢
    rw [List.foldl_cons, this, putR_mem]
    simp only [List.mem_cons]
    constructor
    · rintro ((h | h) | h)
      · exact .inl h
      · exact .inr (.inl h)
      · exact .inr (.inr h)
    · rintro (h | h | h)
      · exact .inl (.inl h)
      · exact .inl (.inr h)
      · exact .inr h
theorem putsR_asc : ∀ (m l : List Str), Asc l → Asc (putsR l m)
  | [], _, h => h
  | s :: m, l, h => by
    have := putsR_asc m (putR l s) (putR_asc s l h)
    unfold putsR at this ⊢
    rw [List.foldl_cons]
    exact this
end Go.Proofs.Ytchfhkfepghfjaa

namespace Go.Proofs.Ytchfhkfepghfjaa
open Go.RowKit Go.Sort

/-- The named types in a type, each once, in order. -/
def namesR (l : List UInt8) : List (List UInt8) := if rightR l = true then onceR (nw l) else []
def NamesE (l : List UInt8) (w : World) (e : Ending) (w' : World) : Prop := ∃ v, e = .returned v ∧ StrRow w' v (namesR l) ∧ Below w.heap.size w w'
theorem frame41 (a : Act) (h : a.tmps.size = 41) (hd : a.defers = []) : ∃ f : Nat → Value, a = { tmps := #[f 0, f 1, f 2, f 3, f 4, f 5, f 6, f 7, f 8, f 9, f 10, f 11, f 12, f 13, f 14, f 15, f 16, f 17, f 18, f 19, f 20, f 21, f 22, f 23, f 24, f 25, f 26, f 27, f 28, f 29, f 30, f 31, f 32, f 33, f 34, f 35, f 36, f 37, f 38, f 39, f 40], defers := [] } := by
  refine ⟨fun k => a.tmps.getD k undef, ?_⟩
  obtain ⟨t, d⟩ := a
  simp only at h hd
  subst hd
  have e := arr_map t
  rw [h] at e
  simp only [Act.mk.injEq, and_true]
  exact e

def nmJ (s : ByteArray) (w0 : World) (l : Nat) (a : Act) (w : World) : Prop :=
  ∃ (p : Nat) (acc : List (List UInt8)) (v : Value), a.tmps.size = 41 ∧ a.defers = [] ∧ a.tmps.getD 0 undef = .string s ∧ a.tmps.getD 3 undef = v ∧ a.tmps.getD 5 undef = .int .i64 (p : Int) ∧
    p < s.size ∧ acc.length ≤ p ∧ w.ownsRow w0.heap.size 9 1 v acc.length (sc acc) ∧ Below w0.heap.size w0 w ∧ l = 0 ∧ Hid (acc ++ nw (s.data.toList.drop p) = nw s.data.toList)
def nmM (s : ByteArray) (_ : Nat) (a : Act) (_ : World) : Nat := s.size - (intOf (a.tmps.getD 5 undef)).toNat
end Go.Proofs.Ytchfhkfepghfjaa

namespace Go.Proofs.Ytchfhkfepghfjaa
open Go.RowKit

theorem below_cell {H : Nat} {w w1 : World} {g o : Nat} {v : Value} (hb : Below H w w1) (h : w.cell? ⟨g, o, none⟩ = some v) (hg : g < H) : w1.cell? ⟨g, o, none⟩ = some v := by
  rw [World.cell?_of_block (w := w) (hb.block g hg)]
  exact h
theorem TL.below {F : Nat → Prop} {H : Nat} {w w1 : World} {kv : Value} {l : List Tr} (h : TL F w kv l) (hb : Below H w w1) (hF : ∀ g, F g → g < H) : TL F w1 kv l := h.frame fun g hg => ⟨hg, hb.block g (hF g hg)⟩
/-- A tree in memory, at an address. -/
def PT (F : Nat → Prop) (w : World) (g o : Nat) (t : Tr) : Prop :=
  F g ∧ ∃ kv, TL F w kv t.kids ∧ w.cell? ⟨g, o, none⟩ = some (.int .i64 (t.kind : Int)) ∧ w.cell? ⟨g, o + 1, none⟩ = some (.int .i64 (t.place : Int)) ∧ w.cell? ⟨g, o + 2, none⟩ = some (.string (str t.text)) ∧ w.cell? ⟨g, o + 3, none⟩ = some kv
theorem PT.below {F : Nat → Prop} {H : Nat} {w w1 : World} {g o : Nat} {t : Tr} (h : PT F w g o t) (hb : Below H w w1) (hF : ∀ g, F g → g < H) : PT F w1 g o t := by
  obtain ⟨h1, kv, h2, h3, h4, h5, h6⟩ := h
  have hg := hF g h1
  exact ⟨h1, kv, h2.below hb hF, below_cell hb h3 hg, below_cell hb h4 hg, below_cell hb h5 hg, below_cell hb h6 hg⟩

set_option maxHeartbeats 1000000 in
set_option maxRecDepth 1000000 in
theorem isWord (t : Tr) (kv : Value) (x : List UInt8) (w : World) : Calls Try.prog 81 #[trv t kv, .string (str x)] w (BoolB (isWordR t x) w) := by
  have hb : Below w.heap.size w (w.alloc (.cells #[.int .i64 (t.kind : Int), .int .i64 (t.place : Int), .string (str t.text), kv] 27)) := (Below.refl _ _).alloc (Nat.le_refl _) _
  unfold trv
  by_cases h3 : t.kind = 3
  · have h3' : ((t.kind : Int) == 3) = true := by rw [beq_iff_eq]; omega
    have HR : Hid (isWordR t x = ((str t.text).toList == (str x).toList)) := by
      rw [hid_iff, isWordR, decide_eq_true h3, Bool.true_and, Lib.toList_data, Lib.toList_data, str_data, str_data, Bool.eq_iff_iff, decide_eq_true_iff, beq_iff_eq]
    clear h3
    go_enter Try.func81, Try.ntmps81
    go_wp2
    go_ret
    exact ⟨by rw [HR.out]; rfl, hb⟩
  · have h3' : ((t.kind : Int) == 3) = false := by rw [beq_eq_false_iff_ne]; omega
    have HR : Hid (isWordR t x = false) := by rw [hid_iff, isWordR, decide_eq_false h3, Bool.false_and]
    clear h3
    go_enter Try.func81, Try.ntmps81
    go_wp2
    go_ret
    exact ⟨by rw [HR.out]; rfl, hb⟩

theorem formR_one {t : Tr} (h : t.kind = 3) : formR t = 1 := by simp [formR, h]
theorem formR_bad {t : Tr} (h : t.kind ≠ 3) (h1 : t.kind ≠ 1) : formR t = 0 := by simp [formR, h, h1]
theorem formR_arr {t : Tr} (h1 : t.kind = 1) (h2 : t.kids.length = 2) (hw : isWordR (kid t 0) arrayL = true) : formR t = 2 := by simp [formR, h1, h2, hw]
theorem formR_arr_no {t : Tr} (h1 : t.kind = 1) (h2 : t.kids.length = 2) (hw : isWordR (kid t 0) arrayL = false) : formR t = 0 := by simp [formR, h1, h2, hw]
theorem formR_fn {t : Tr} (h1 : t.kind = 1) (h2 : t.kids.length = 3) (hw : isWordR (kid t 0) fnL = true) : formR t = if (kid t 1).kind = 1 then 3 else 0 := by simp [formR, h1, h2, hw]
theorem formR_fn_no {t : Tr} (h1 : t.kind = 1) (h2 : t.kids.length = 3) (hw : isWordR (kid t 0) fnL = false) : formR t = 0 := by simp [formR, h1, h2, hw]
theorem formR_len {t : Tr} (h1 : t.kind = 1) (h2 : t.kids.length ≠ 2) (h3 : t.kids.length ≠ 3) : formR t = 0 := by simp [formR, h1, h2, h3]
theorem kid_get {t : Tr} {i : Nat} (h : i < t.kids.length) : t.kids[i] = kid t i := by simp [kid, h]
/-- A Kid in memory. -/
theorem TL.kid {F : Nat → Prop} {w : World} {kv : Value} {t : Tr} (h : TL F w kv t.kids) (i : Nat) (hi : i < t.kids.length) : ∃ g cap, kv = .slice (some ⟨g, 0, none⟩) t.kids.length cap ∧ PT F w g (i * 4) (kid t i) := by
  obtain ⟨g, cap, kv', h1, h2, h3, h4, h5, h6, h7⟩ := h.at i hi
  rw [kid_get hi] at h3 h4 h5 h6
  exact ⟨g, cap, h1, h2, kv', h3, h4, h5, h6, h7⟩
def NumB (n : Nat) (w : World) (e : Ending) (w' : World) : Prop := e = .returned (.int .i64 (n : Int)) ∧ Below w.heap.size w w'

set_option maxHeartbeats 2000000 in
set_option maxRecDepth 1000000 in
theorem formOf (F : Nat → Prop) (t : Tr) (g o : Nat) (w : World) (hF : ∀ g, F g → g < w.heap.size) (h : PT F w g o t) : Calls Try.prog 73 #[.pointer (some ⟨g, o, none⟩)] w (NumB (formR t) w) := by
  obtain ⟨hFg, kv, hT, q0, q1, q2, q3⟩ := h
  have hg := hF g hFg
  by_cases h3 : t.kind = 3
  · have h3' : ((t.kind : Int) == 3) = true := by rw [beq_iff_eq]; omega
    have HR : Hid (formR t = 1) := formR_one h3
    clear h3
    go_enter Try.func73, Try.ntmps73
    go_wp2
    go_ret
    exact ⟨by rw [HR.out]; rfl, Below.refl _ _⟩
  have h3' : ((t.kind : Int) == 3) = false := by rw [beq_eq_false_iff_ne]; omega
  by_cases h1 : t.kind ≠ 1
  · have h1' : ((t.kind : Int) != 1) = true := by simp; omega
    have HR : Hid (formR t = 0) := formR_bad h3 h1
    clear h3 h1
    go_enter Try.func73, Try.ntmps73
    go_wp2
    go_ret
    exact ⟨by rw [HR.out]; rfl, Below.refl _ _⟩
  replace h1 : t.kind = 1 := by omega
  have h1' : ((t.kind : Int) != 1) = false := by simp; omega
  obtain ⟨ka, kc, hks⟩ := hT.shape
  by_cases h2 : t.kids.length = 2
  · have h2' : ((t.kids.length : Int) == 2) = true := by rw [beq_iff_eq]; omega
    have h4' : ((t.kids.length : Int) == 3) = false := by rw [beq_eq_false_iff_ne]; omega
    have hl0 : (0 : Int) < (t.kids.length : Int) := by omega
    obtain ⟨g0, cap0, hk0, hF0, kv0, _, c0, c1, c2, c3⟩ := hT.kid 0 (by omega)
    simp only [Nat.zero_mul, Nat.zero_add] at c0 c1 c2 c3
    have hiw := isWord (kid t 0) kv0 arrayL
    unfold trv at hiw
    rw [hk0] at q3
    cases hw : isWordR (kid t 0) arrayL
    · have HR : Hid (formR t = 0) := formR_arr_no h1 h2 hw
      rw [hw] at hiw
      clear h3 h1 h2 hw hT hks
      generalize t.kids.length = n at *
      generalize kid t 0 = k at *
      go_enter Try.func73, Try.ntmps73
      go_wp2_with fail
      refine (hiw _).mono ?_
      rintro e w1 ⟨rfl, hb⟩
      have q3' := below_cell hb q3 hg
      clear q0 q1 q2 q3 c0 c1 c2 c3 hiw
      go_wp2
      go_ret
      exact ⟨by rw [HR.out]; rfl, hb⟩
    · have HR : Hid (formR t = 2) := formR_arr h1 h2 hw
      rw [hw] at hiw
      clear h3 h1 h2 hw hT hks
      generalize t.kids.length = n at *
      generalize kid t 0 = k at *
      go_enter Try.func73, Try.ntmps73
      go_wp2_with fail
      refine (hiw _).mono ?_
      rintro e w1 ⟨rfl, hb⟩
      clear q0 q1 q2 q3 c0 c1 c2 c3 hiw
      go_wp2
      go_ret
      exact ⟨by rw [HR.out]; rfl, hb⟩
  · have h2' : ((t.kids.length : Int) == 2) = false := by rw [beq_eq_false_iff_ne]; omega
    by_cases h4 : t.kids.length = 3
    · have h4' : ((t.kids.length : Int) == 3) = true := by rw [beq_iff_eq]; omega
      have hl0 : (0 : Int) < (t.kids.length : Int) := by omega
      have hl1 : (1 : Int) < (t.kids.length : Int) := by omega
      obtain ⟨g0, cap0, hk0, hF0, kv0, _, c0, c1, c2, c3⟩ := hT.kid 0 (by omega)
      obtain ⟨g1, cap1, hk1, hF1, kv1, _, d0, _, _, _⟩ := hT.kid 1 (by omega)
      simp only [Nat.zero_mul, Nat.zero_add] at c0 c1 c2 c3
      simp only [Nat.one_mul] at d0
      rw [hk0] at hk1
      simp only [Value.slice.injEq, Option.some.injEq, Addr.mk.injEq, and_true, true_and] at hk1
      obtain ⟨rfl, _⟩ := hk1
      have hiw := isWord (kid t 0) kv0 fnL
      unfold trv at hiw
      rw [hk0] at q3
      have hg0 := hF g0 hF0
      cases hw : isWordR (kid t 0) fnL
      · have HR : Hid (formR t = 0) := formR_fn_no h1 h4 hw
        rw [hw] at hiw
        clear h3 h1 h2 h4 hw hT hks
        generalize t.kids.length = n at *
        generalize kid t 0 = k at *
        go_enter Try.func73, Try.ntmps73
        go_wp2_with fail
        refine (hiw _).mono ?_
        rintro e w1 ⟨rfl, hb⟩
        clear q0 q1 q2 q3 c0 c1 c2 c3 d0 hiw
        go_wp2
        go_ret
        exact ⟨by rw [HR.out]; rfl, hb⟩
      · have HR : Hid (formR t = if (kid t 1).kind = 1 then 3 else 0) := formR_fn h1 h4 hw
        rw [hw] at hiw
        clear h3 h1 h2 h4 hw hT hks
        generalize t.kids.length = n at *
        generalize kid t 0 = k at *
        generalize (kid t 1).kind = kk at *
        by_cases hkk : kk = 1
        · have hkk' : ((kk : Int) == 1) = true := by rw [beq_iff_eq]; omega
          rw [if_pos hkk] at HR
          clear hkk
          go_enter Try.func73, Try.ntmps73
          go_wp2_with fail
          refine (hiw _).mono ?_
          rintro e w1 ⟨rfl, hb⟩
          have q3' := below_cell hb q3 hg
          have d0' := below_cell hb d0 hg0
          clear q0 q1 q2 q3 c0 c1 c2 c3 d0 hiw
          go_wp2
          go_ret
          exact ⟨by rw [HR.out]; rfl, hb⟩
        · have hkk' : ((kk : Int) == 1) = false := by rw [beq_eq_false_iff_ne]; omega
          rw [if_neg hkk] at HR
          clear hkk
          go_enter Try.func73, Try.ntmps73
          go_wp2_with fail
          refine (hiw _).mono ?_
          rintro e w1 ⟨rfl, hb⟩
          have q3' := below_cell hb q3 hg
          have d0' := below_cell hb d0 hg0
          clear q0 q1 q2 q3 c0 c1 c2 c3 d0 hiw
          go_wp2
          go_ret
          exact ⟨by rw [HR.out]; rfl, hb⟩
    · have h4' : ((t.kids.length : Int) == 3) = false := by rw [beq_eq_false_iff_ne]; omega
      have HR : Hid (formR t = 0) := formR_len h1 h2 h4
      rw [hks] at q3
      clear h3 h1 h2 h4 hT hks
      generalize t.kids.length = n at *
      go_enter Try.func73, Try.ntmps73
      go_wp2
      go_ret
      exact ⟨by rw [HR.out]; rfl, Below.refl _ _⟩
end Go.Proofs.Ytchfhkfepghfjaa
