/-
  Texts in order, each once: what sorting and compacting come to, and what putting one text among others does. No program in it.
  And: Chapter 7 as functions. No program in it. The package's small functions: tests of bytes, escapes. A scope in which the run jumps to several labels; tokens and bytes in memory. A scope with several labels, where the run may also come to a label from the rows ahead of it. Appends of bytes and of tokens to a row of the call's own; a row of bytes as a string. The package's readQuoted: its walk, from label to label.
-/
import Derived.Lib.SlicesCompact
import Derived.Test.YtfjppbpicmniaaaGreatDoorG03
import Derived.WalkKit
import Derived.WalkSpells
import Derived.WalkLawsBesides
import Derived.WalkMore
import Derived.BigQuiet
import Derived.Test.YtfjppbpicmniaaaGreatDoorChecked
import Derived.Test.YtfjppbpicmniaaaGreatDoorShelf
import Derived.Test.YtfjppbpicmniaaaGreatDoorG01
import Derived.ScopeJumps
import Derived.Laws.AppendOwn
import Derived.OwnWalk
import Derived.Laws.OwnMore
import Derived.Laws.BytesString
import Derived.WalkSmall
namespace Go.Proofs.YtfjppbpicmniaaaGreatDoor
open Go.Lib

abbrev Str : Type := List UInt8
theorem str_total (a b : Str) : a ≤ b ∨ b ≤ a := List.le_total a b
theorem str_le_trans {a b c : Str} (h : a ≤ b) (k : b ≤ c) : a ≤ c := List.le_trans h k
theorem str_le_anti {a b : Str} (h : a ≤ b) (k : b ≤ a) : a = b := List.le_antisymm h k
theorem str_lt_iff {a b : Str} : a < b ↔ a ≤ b ∧ a ≠ b := by
  constructor
  · intro h
    exact ⟨List.le_of_lt h, fun e => by subst e; exact List.lt_irrefl _ h⟩
  · rintro ⟨h, hn⟩
    exact Classical.byContradiction fun hl => hn (str_le_anti h (List.not_lt.1 hl))
theorem str_lt_trans {a b c : Str} (h : a < b) (k : b < c) : a < c := List.lt_trans h k
theorem str_lt_of_le {a b c : Str} (h : a ≤ b) (k : b < c) : a < c := by
  obtain ⟨k1, k2⟩ := str_lt_iff.1 k
  refine str_lt_iff.2 ⟨str_le_trans h k1, fun e => ?_⟩
  subst e
  exact k2 (str_le_anti k1 h)
/-- Strictly in order. -/
def Asc (l : List Str) : Prop := l.Pairwise (· < ·)
theorem asc_ext : ∀ {l m : List Str}, Asc l → Asc m → (∀ x, x ∈ l ↔ x ∈ m) → l = m
  | [], [], _, _, _ => rfl
  | [], b :: m, _, _, h => by have := (h b).2 (by simp); simp at this
  | a :: l, [], _, _, h => by have := (h a).1 (by simp); simp at this
  | a :: l, b :: m, h1, h2, h => by
    unfold Asc at h1 h2
    rw [List.pairwise_cons] at h1 h2
    have hab : a = b := by
      have ha := (h a).1 (by simp)
      have hb := (h b).2 (by simp)
      simp only [List.mem_cons] at ha hb
      rcases ha with e | ha
      · exact e
      · rcases hb with e | hb
        · exact e.symm
        · exact absurd (str_lt_trans (h1.1 b hb) (h2.1 a ha)) (List.lt_irrefl _)
    subst hab
    rw [asc_ext h1.2 h2.2 (fun x => ?_)]
    have hx := h x
    simp only [List.mem_cons] at hx
    constructor
    · intro hl
      rcases hx.1 (.inr hl) with e | hm
      · subst e
        exact absurd (h1.1 _ hl) (List.lt_irrefl _)
      · exact hm
    · intro hm
      rcases hx.2 (.inr hm) with e | hl
      · subst e
        exact absurd (h2.1 _ hm) (List.lt_irrefl _)
      · exact hl
theorem comp_mem (d : Array Str) : ∀ (n : Nat) (x : Str), x ∈ compactUpTo d n ↔ ∃ j, j < n ∧ d[j]! = x
  | 0, x => by simp [compactUpTo]
  | n + 1, x => by
    rw [compactUpTo_succ, List.mem_append, comp_mem d n x]
    by_cases hk : keeps d n = true
    · rw [if_pos hk]
      simp only [List.mem_singleton]
      constructor
      · rintro (⟨j, h1, h2⟩ | h)
        · exact ⟨j, by omega, h2⟩
        · exact ⟨n, by omega, h.symm⟩
      · rintro ⟨j, h1, h2⟩
        rcases (by omega : j < n ∨ j = n) with h | rfl
        · exact .inl ⟨j, h, h2⟩
        · exact .inr h2.symm
    · rw [if_neg hk]
      simp only [keeps, decide_eq_true_eq, not_or, ne_eq, Classical.not_not] at hk
      constructor
      · rintro (⟨j, h1, h2⟩ | h)
        · exact ⟨j, by omega, h2⟩
        · simp at h
      · rintro ⟨j, h1, h2⟩
        rcases (by omega : j < n ∨ j = n) with h | rfl
        · exact .inl ⟨j, h, h2⟩
        · exact .inl ⟨j - 1, by omega, by rw [← hk.2]; exact h2⟩
theorem comp_asc (d : Array Str) (hd : ∀ i j, i ≤ j → j < d.size → d[i]! ≤ d[j]!) : ∀ n, n ≤ d.size → Asc (compactUpTo d n)
  | 0, _ => by simp [compactUpTo, Asc]
  | n + 1, hn => by
    rw [compactUpTo_succ]
    unfold Asc
    rw [List.pairwise_append]
    refine ⟨comp_asc d hd n (by omega), ?_, fun x hx y hy => ?_⟩
    · split <;> simp
    · by_cases hk : keeps d n = true
      · rw [if_pos hk] at hy
        simp only [List.mem_singleton] at hy
        subst hy
        obtain ⟨j, hj, rfl⟩ := (comp_mem d n x).1 hx
        simp only [keeps, decide_eq_true_eq] at hk
        rcases hk with hk | hk
        · omega
        · exact str_lt_of_le (hd j (n - 1) (by omega) (by omega)) (str_lt_iff.2 ⟨hd (n - 1) n (by omega) (by omega), fun e => hk e.symm⟩)
      · rw [if_neg hk] at hy
        simp at hy
def sortR (l : List Str) : List Str := l.mergeSort fun x y => decide (x ≤ y)
theorem sortR_length (l : List Str) : (sortR l).length = l.length := List.length_mergeSort _
theorem sortR_mem (l : List Str) (x : Str) : x ∈ sortR l ↔ x ∈ l := (List.mergeSort_perm l _).mem_iff
theorem sortR_pair (l : List Str) : (sortR l).Pairwise (fun x y => x ≤ y) := by
  have := List.pairwise_mergeSort (le := fun x y : Str => decide (x ≤ y)) (fun a b c h k => by simp only [decide_eq_true_eq] at h k ⊢; exact str_le_trans h k) (fun a b => by simp only [Bool.or_eq_true, decide_eq_true_eq]; exact str_total a b) l
  exact this.imp (fun h => of_decide_eq_true h)
/-- The texts in order, each once. -/
def onceR (l : List Str) : List Str := compact (sortR l)
theorem getBang (l : List Str) (j : Nat) (h : j < l.length) : l.toArray[j]! = l[j] := by simp [h]
theorem onceR_asc (l : List Str) : Asc (onceR l) := by
  unfold onceR compact
  refine comp_asc _ (fun i j hij hj => ?_) _ (by simp)
  simp only [List.size_toArray] at hj
  rw [getBang _ i (by omega), getBang _ j hj]
  rcases Nat.lt_or_eq_of_le hij with h | rfl
  · exact List.pairwise_iff_getElem.1 (sortR_pair l) i j (by omega) hj h
  · exact List.le_refl _
theorem onceR_mem (l : List Str) (x : Str) : x ∈ onceR l ↔ x ∈ l := by
  unfold onceR compact
  rw [comp_mem, ← sortR_mem]
  constructor
  · rintro ⟨j, hj, h⟩
    rw [getBang _ j hj] at h
    subst h
    exact List.getElem_mem hj
  · intro h
    obtain ⟨j, hj, rfl⟩ := List.getElem_of_mem h
    exact ⟨j, hj, getBang _ j hj⟩
theorem onceR_eq {l m : List Str} (ha : Asc m) (h : ∀ x, x ∈ m ↔ x ∈ l) : onceR l = m := asc_ext (onceR_asc l) ha (fun x => by rw [onceR_mem, h])

/-- A text is put among others. -/
def putF (s : Str) : Bool → List Str → List Str
  | d, [] => if d then [] else [s]
  | d, x :: r => (if d = false ∧ s ≤ x then [s] else []) ++ ((if x ≠ s then [x] else []) ++ putF s (d || decide (s ≤ x)) r)
def putR (l : List Str) (s : Str) : List Str := putF s false l
theorem putF_done (s : Str) : ∀ l : List Str, putF s true l = l.filter (fun x => decide (x ≠ s))
  | [] => by simp [putF]
  | x :: r => by
    rw [putF, Bool.true_or, putF_done s r, List.filter_cons]
    by_cases h : x = s <;> simp [h]
theorem putR_mem (s : Str) : ∀ (l : List Str) (x : Str), x ∈ putR l s ↔ x ∈ l ∨ x = s
  | [], x => by simp [putR, putF]
  | y :: r, x => by
    have ih := putR_mem s r x
    unfold putR at ih ⊢
    rw [putF]
    by_cases h : s ≤ y
    · rw [if_pos ⟨rfl, h⟩, Bool.false_or, decide_eq_true h, putF_done]
      by_cases hy : y = s
      · subst hy
        simp only [ne_eq, not_true_eq_false, if_false, List.nil_append, List.mem_append, List.mem_filter, decide_eq_true_eq, List.mem_cons, List.not_mem_nil, or_false]
        constructor
        · rintro (h | h)
          · exact .inr h
          · exact .inl (.inr h.1)
        · rintro ((h | h) | h)
          · exact .inl h
          · by_cases e : x = y
            · exact .inl e
            · exact .inr ⟨h, e⟩
          · exact .inl h
      · simp only [ne_eq, hy, not_false_eq_true, if_true, List.mem_append, List.mem_filter, decide_eq_true_eq, List.mem_cons, List.not_mem_nil, or_false]
        constructor
        · rintro (h | h | h)
          · exact .inr h
          · exact .inl (.inl h)
          · exact .inl (.inr h.1)
        · rintro ((h | h) | h)
          · exact .inr (.inl h)
          · by_cases e : x = s
            · exact .inl e
            · exact .inr (.inr ⟨h, e⟩)
          · exact .inl h
    · have hy : y ≠ s := fun e => h (by rw [e]; exact List.le_refl _)
      rw [if_neg (fun hh => h hh.2), Bool.false_or, decide_eq_false h]
      simp only [ne_eq, hy, not_false_eq_true, if_true, List.nil_append, List.mem_append, List.mem_cons, List.not_mem_nil, or_false, ih]
      constructor
      · rintro (h | h | h)
        · exact .inl (.inl h)
        · exact .inl (.inr h)
        · exact .inr h
      · rintro ((h | h) | h)
        · exact .inl h
        · exact .inr (.inl h)
        · exact .inr (.inr h)
theorem putR_asc (s : Str) : ∀ (l : List Str), Asc l → Asc (putR l s)
  | [], _ => by simp [putR, putF, Asc]
  | y :: r, ha => by
    have ih := putR_asc s r
    have hmem := putR_mem s r
    unfold putR at ih hmem ⊢
    unfold Asc at ha ih ⊢
    rw [List.pairwise_cons] at ha
    rw [putF]
    by_cases h : s ≤ y
    · rw [if_pos ⟨rfl, h⟩, Bool.false_or, decide_eq_true h, putF_done, List.singleton_append, List.pairwise_cons]
      refine ⟨fun x hx => ?_, ?_⟩
      · simp only [List.mem_append, List.mem_filter, decide_eq_true_eq] at hx
        rcases hx with hx | hx
        · split at hx
          · rename_i hy
            simp only [List.mem_singleton] at hx
            subst hx
            exact str_lt_iff.2 ⟨h, fun e => hy e.symm⟩
          · simp at hx
        · exact str_lt_of_le h (ha.1 x hx.1)
      · rw [List.pairwise_append]
        refine ⟨by split <;> simp, ha.2.sublist List.filter_sublist, fun a h1 b h2 => ?_⟩
        split at h1
        · simp only [List.mem_singleton] at h1
          subst h1
          exact ha.1 b (List.mem_filter.1 h2).1
        · simp at h1
    · have hy : y ≠ s := fun e => h (by rw [e]; exact List.le_refl _)
      rw [if_neg (fun hh => h hh.2), Bool.false_or, decide_eq_false h, if_pos hy, List.nil_append, List.singleton_append, List.pairwise_cons]
      refine ⟨fun x hx => ?_, ih ha.2⟩
      rcases (hmem x).1 hx with hx | rfl
      · exact ha.1 x hx
      · rcases str_total y x with k | k
        · exact str_lt_iff.2 ⟨k, hy⟩
        · exact absurd k h
/-- Several texts are put. -/
def putsR (l : List Str) (m : List Str) : List Str := m.foldl putR l
theorem putsR_mem : ∀ (m l : List Str) (x : Str), x ∈ putsR l m ↔ x ∈ l ∨ x ∈ m
  | [], l, x => by simp [putsR]
  | s :: m, l, x => by
    have := putsR_mem m (putR l s) x
    unfold putsR at this ⊢
    rw [List.foldl_cons, this, putR_mem]
    simp only [List.mem_cons]
    constructor
    · rintro ((h | h) | h)
      · exact .inl h
      · exact .inr (.inl h)
      · exact .inr (.inr h)
    · rintro (h | h | h)
      · exact .inl (.inl h)
      · exact .inl (.inr h)
      · exact .inr h
theorem putsR_asc : ∀ (m l : List Str), Asc l → Asc (putsR l m)
  | [], _, h => h
  | s :: m, l, h => by
    have := putsR_asc m (putR l s) (putR_asc s l h)
    unfold putsR at this ⊢
    rw [List.foldl_cons]
    exact this
end Go.Proofs.YtfjppbpicmniaaaGreatDoor

namespace Go.Proofs.YtfjppbpicmniaaaGreatDoor

/-- A case: its name, its fields' types. -/
abbrev Cs : Type := List UInt8 × List (List UInt8)
/-- What a module offers. -/
structure It where
  kind : Int
  name : List UInt8
  ty : List UInt8
  cases : List Cs
def sameI (a b : It) : Bool := decide (a.kind = b.kind) && (decide (a.name = b.name) && (decide (a.ty = b.ty) && decide (a.cases = b.cases)))
theorem sameI_iff (a b : It) : sameI a b = true ↔ a = b := by
  obtain ⟨k, n, t, c⟩ := a
  obtain ⟨k', n', t', c'⟩ := b
  simp [sameI]
/-- A case behind some others: which refusal. -/
def caseE (ah : List Cs) (c : Cs) : Nat :=
  if bigR c.1 = false then 13 else if ah.any (fun d => decide (d.1 = c.1)) = true then 13 else if 4 < c.2.length then 19 else if c.2.all rightR = true then 0 else 17
def casesE : List Cs → List Cs → Nat
  | _, [] => 0
  | ah, c :: r => if caseE ah c = 0 then casesE (ah ++ [c]) r else caseE ah c
def isFnT (t : List UInt8) : Bool := rightR t && isHead 40 t
def valueE (x : It) : Nat := if 0 < x.cases.length then 12 else if rightR x.ty = false then 17 else if x.kind = 3 ∧ isFnT x.ty = false then 17 else 0
def namedE (x : It) : Bool := if x.kind = 1 then bigR x.name else valueR x.name
def kindE (k : Int) : Bool := decide (k = 1) || (decide (k = 2) || decide (k = 3))
def typeE (x : It) : Nat := if x.ty ≠ [] then 12 else if x.cases.length = 0 then 12 else if 6 < x.cases.length then 12 else casesE [] x.cases
def itemE (prev : Option (List UInt8)) (x : It) : Nat :=
  if kindE x.kind = false then 12
  else if namedE x = false then 13
  else if prev.any (fun p => decide (x.name ≤ p)) = true then 13
  else if x.kind ≠ 1 then valueE x
  else typeE x
def itemsE : Option (List UInt8) → List It → Nat
  | _, [] => 0
  | p, x :: r => if itemE p x = 0 then itemsE (some x.name) r else itemE p x
/-- Right: which refusal, 0: none. -/
def rightI (m : List UInt8) (l : List It) : Nat := if valueR m = false then 13 else if 32 < l.length then 4 else itemsE none l
/-- Find. -/
def findI (l : List It) (n : List UInt8) : Option It := l.find? (fun x => decide (x.name = n))
/-- Breaks. -/
def brokenI (old next : List It) (n : List UInt8) : Bool :=
  match findI old n with
  | none => false
  | some a => match findI next n with
    | none => true
    | some b => !sameI a b
def breaksI (old next : List It) (used : List (List UInt8)) : List (List UInt8) := (onceR used).filter (brokenI old next)

theorem casesE_at (cs : List Cs) (k : Nat) (h : k < cs.length) : casesE (cs.take k) (cs.drop k) = if caseE (cs.take k) cs[k] = 0 then casesE (cs.take (k + 1)) (cs.drop (k + 1)) else caseE (cs.take k) cs[k] := by
  rw [List.drop_eq_getElem_cons h, casesE, List.take_succ_eq_append_getElem h]
def prevI (l : List It) (k : Nat) : Option (List UInt8) := if k = 0 then none else (l[k - 1]?).map (·.name)
theorem itemsE_at (l : List It) (k : Nat) (h : k < l.length) : itemsE (prevI l k) (l.drop k) = if itemE (prevI l k) l[k] = 0 then itemsE (prevI l (k + 1)) (l.drop (k + 1)) else itemE (prevI l k) l[k] := by
  rw [List.drop_eq_getElem_cons h, itemsE]
  have : prevI l (k + 1) = some l[k].name := by simp [prevI, h]
  rw [this]
end Go.Proofs.YtfjppbpicmniaaaGreatDoor

namespace Go.Proofs.YtfjppbpicmniaaaGreatDoor
open Go.RowKit

/-- What a call answers that leaves the world as it was. -/
def Pu (v : Value) (w : World) (e : Ending) (w' : World) : Prop := e = .returned v ∧ w' = w

set_option maxRecDepth 1000000 in
theorem small (c : UInt8) (w : World) : Calls Tryz.prog 130 #[.int .u8 c.toNat] w (Pu (.bool (isSmall c)) w) := by
  by_cases h1 : 97 ≤ c.toNat
  · have h1' : (97 : Int) ≤ (c.toNat : Int) := by omega
    by_cases h2 : c.toNat ≤ 122
    · have h2' : (c.toNat : Int) ≤ 122 := by omega
      go_enter Tryz.func130, Tryz.ntmps130
      go_wp2
      go_ret
      exact ⟨by simp [isSmall, h1, h2], rfl⟩
    · have h2' : ¬ (c.toNat : Int) ≤ 122 := by omega
      go_enter Tryz.func130, Tryz.ntmps130
      go_wp2
      go_ret
      exact ⟨by simp [isSmall, h1, h2], rfl⟩
  · have h1' : ¬ (97 : Int) ≤ (c.toNat : Int) := by omega
    go_enter Tryz.func130, Tryz.ntmps130
    go_wp2
    go_ret
    exact ⟨by simp [isSmall, h1], rfl⟩

set_option maxRecDepth 1000000 in
theorem large (c : UInt8) (w : World) : Calls Tryz.prog 71 #[.int .u8 c.toNat] w (Pu (.bool (isLarge c)) w) := by
  by_cases h1 : 65 ≤ c.toNat
  · have h1' : (65 : Int) ≤ (c.toNat : Int) := by omega
    by_cases h2 : c.toNat ≤ 90
    · have h2' : (c.toNat : Int) ≤ 90 := by omega
      go_enter Tryz.func71, Tryz.ntmps71
      go_wp2
      go_ret
      exact ⟨by simp [isLarge, h1, h2], rfl⟩
    · have h2' : ¬ (c.toNat : Int) ≤ 90 := by omega
      go_enter Tryz.func71, Tryz.ntmps71
      go_wp2
      go_ret
      exact ⟨by simp [isLarge, h1, h2], rfl⟩
  · have h1' : ¬ (65 : Int) ≤ (c.toNat : Int) := by omega
    go_enter Tryz.func71, Tryz.ntmps71
    go_wp2
    go_ret
    exact ⟨by simp [isLarge, h1], rfl⟩

set_option maxRecDepth 1000000 in
theorem digit (c : UInt8) (w : World) : Calls Tryz.prog 129 #[.int .u8 c.toNat] w (Pu (.bool (isDigit c)) w) := by
  by_cases h1 : 48 ≤ c.toNat
  · have h1' : (48 : Int) ≤ (c.toNat : Int) := by omega
    by_cases h2 : c.toNat ≤ 57
    · have h2' : (c.toNat : Int) ≤ 57 := by omega
      go_enter Tryz.func129, Tryz.ntmps129
      go_wp2
      go_ret
      exact ⟨by simp [isDigit, h1, h2], rfl⟩
    · have h2' : ¬ (c.toNat : Int) ≤ 57 := by omega
      go_enter Tryz.func129, Tryz.ntmps129
      go_wp2
      go_ret
      exact ⟨by simp [isDigit, h1, h2], rfl⟩
  · have h1' : ¬ (48 : Int) ≤ (c.toNat : Int) := by omega
    go_enter Tryz.func129, Tryz.ntmps129
    go_wp2
    go_ret
    exact ⟨by simp [isDigit, h1], rfl⟩

/-- What reading two digits, and an escape, answers. -/
def EscE (r : Option (UInt8 × Nat)) (w : World) (e : Ending) (w' : World) : Prop :=
  (match r with
  | none => e = .returned (.tuple #[.int .u8 0, .int .i64 0])
  | some (b, k) => e = .returned (.tuple #[.int .u8 b.toNat, .int .i64 k])) ∧ ∃ n, w' = w.drewN n

theorem escE_mk {b : UInt8} {k : Nat} {z m : Int} (w : World) (n : Nat) (hz : z = (b.toNat : Int)) (hm : m = (k : Int)) : EscE (some (b, k)) w (.returned (.tuple #[.int .u8 z, .int .i64 m])) (w.drewN n) := by
  subst hz hm
  exact ⟨rfl, n, rfl⟩
theorem hex_byte (x y : Nat) (hx : x < 16) (hy : y < 16) : bits .or .i64 ((x : Int) * 16) (y : Int) % 256 = ((UInt8.ofNat (16 * x + y)).toNat : Int) := by
  have h : ∀ a b : Fin 16, bits .or .i64 ((a.val : Int) * 16) (b.val : Int) % 256 = ((UInt8.ofNat (16 * a.val + b.val)).toNat : Int) := by decide +kernel
  exact h ⟨x, hx⟩ ⟨y, hy⟩
theorem hex_index (c : UInt8) : Lib.indexByte [48, 49, 50, 51, 52, 53, 54, 55, 56, 57, 97, 98, 99, 100, 101, 102] c = match hexOf c with | none => -1 | some x => (x : Int) := by
  have h : ∀ n : Fin 256, Lib.indexByte [48, 49, 50, 51, 52, 53, 54, 55, 56, 57, 97, 98, 99, 100, 101, 102] (UInt8.ofNat n.val) = match hexOf (UInt8.ofNat n.val) with | none => -1 | some x => (x : Int) := by decide +kernel
  have := h ⟨c.toNat, c.toNat_lt⟩
  simpa using this
theorem hexOf_lt {c : UInt8} {x : Nat} (h : hexOf c = some x) : x < 16 := by
  unfold hexOf at h
  split at h
  · cases h; omega
  · split at h
    · cases h; omega
    · cases h

def escX : List UInt8 → Option (UInt8 × Nat)
  | a :: b :: _ =>
    match hexOf a, hexOf b with
    | some x, some y => some (UInt8.ofNat (16 * x + y), 4)
    | _, _ => none
  | _ => none
theorem esc_x (c : UInt8) (r : List UInt8) (h : c.toNat = 120) : esc (c :: r) = escX r := by
  simp only [esc, escX, h]
  rfl
theorem quiet_pure {P : Program} {f : FuncId} {args : Array Value} {w : World} {n x : Nat} {v : Value} (h : Calls P f args (w.drewN (n + x)) fun e w' => e = .returned v ∧ w' = w.drewN (n + x)) :
    Calls P f args (w.drewN (n + x)) fun e w'' => e = .returned v ∧ ∃ m, w'' = w.drewN (n + m) :=
  h.mono fun _ _ ⟨he, hm⟩ => ⟨he, x, hm⟩
theorem quiet_pure0 {P : Program} {f : FuncId} {args : Array Value} {w : World} {x : Nat} {v : Value} (h : Calls P f args (w.drewN x) fun e w' => e = .returned v ∧ w' = w.drewN x) :
    Calls P f args (w.drewN x) fun e w'' => e = .returned v ∧ ∃ m, w'' = w.drewN m :=
  h.mono fun _ _ ⟨he, hm⟩ => ⟨he, x, hm⟩
theorem idx (c : UInt8) (w : World) : Calls Tryz.prog 221 #[.string ⟨#[48, 49, 50, 51, 52, 53, 54, 55, 56, 57, 97, 98, 99, 100, 101, 102]⟩, .int .u8 c.toNat] w fun e w' => e = .returned (.int .i64 (match hexOf c with | none => -1 | some x => (x : Int))) ∧ w' = w := by
  have h := Tryz.strings_IndexByte ⟨#[48, 49, 50, 51, 52, 53, 54, 55, 56, 57, 97, 98, 99, 100, 101, 102]⟩ c.toNat w
  rw [← hex_index c]
  simpa using h

end Go.Proofs.YtfjppbpicmniaaaGreatDoor

namespace Go.Proofs.YtfjppbpicmniaaaGreatDoor
open Go.RowKit

/-- As Q; by a goto: what holds at that label. -/
def jumps (J : Nat → Act → World → Prop) (Q : Exit → Act → World → Prop) : Exit → Act → World → Prop
  | .goto l, a, w => J l a w
  | e, a, w => Q e a w

/-- A scope with several labels: what holds at each, and a number that each way from a label to a label lowers. -/
theorem wp_scope_labels {P : Program} {a : Act} {w : World} {Q : Exit → Act → World → Prop} {c : Code} (J : Nat → Act → World → Prop) (m : Nat → Act → World → Nat)
    (first : (∀ l rest a w, findLabel c l = some (Code.skip.seq rest) → J l a w → rest.wp P (jumps J Q) a w) → c.wp P (jumps J Q) a w)
    (pass : ∀ l a w, J l a w → ∃ rest, findLabel c l = some (Code.skip.seq rest) ∧ rest.wp P (jumps (fun l' a' w' => J l' a' w' ∧ m l' a' w' < m l a w) Q) a w) : (Code.scope c).wp P Q a w := by
  intro b k cs
  have key : ∀ n l a w rest, m l a w = n → J l a w → findLabel c l = some rest → ∃ e a' w', Q e a' w' ∧ Arrives P (lone (b.at a (.code rest :: .inScope c :: k)) cs w) b k cs e a' w' := by
    intro n
    induction n using Nat.strongRecOn with
    | _ n ih =>
      intro l a w rest hn hJ hf
      obtain ⟨r, hr, hp⟩ := pass l a w hJ
      rw [hr] at hf
      cases hf
      obtain ⟨e, a1, w1, hq, harr⟩ := wp_seq (wp_skip hp) b (.inScope c :: k) cs
      cases e with
      | normal => exact ⟨.normal, a1, w1, hq, Steps.trans harr (.one step_inScope)⟩
      | exit id => exact ⟨.exit id, a1, w1, hq, fun k' hk => harr k' (by simp [exitTo, hk])⟩
      | goto l' =>
        obtain ⟨hJ', hlt⟩ := hq
        obtain ⟨r', hr', _⟩ := pass l' a1 w1 hJ'
        have hg : gotoIn l' (.inScope c :: k) = some (.code (Code.skip.seq r') :: .inScope c :: k) := by simp [gotoIn, hr']
        obtain ⟨e2, a2, w2, hq2, harr2⟩ := ih _ (by omega) l' a1 w1 _ rfl hJ' hr'
        exact ⟨e2, a2, w2, hq2, .of_steps (harr _ hg) harr2⟩
      | ret => exact ⟨_, a1, w1, hq, harr⟩
      | panic ch => exact ⟨_, a1, w1, hq, harr⟩
      | outgrown => exact ⟨_, a1, w1, hq, harr⟩
  have hfirst : c.wp P (jumps J Q) a w := by
    refine first (fun l rest a w hf hJ => ?_)
    obtain ⟨r, hr, hp⟩ := pass l a w hJ
    rw [hr] at hf
    cases hf
    refine wp_mono hp ?_
    intro e a' w' hq
    cases e <;> first | exact hq | exact hq.1
  obtain ⟨e, a1, w1, hq, harr⟩ := hfirst b (.inScope c :: k) cs
  cases e with
  | normal => exact ⟨.normal, a1, w1, hq, .head step_scope (Steps.trans harr (.one step_inScope))⟩
  | exit id => exact ⟨.exit id, a1, w1, hq, fun k' hk => .head step_scope (harr k' (by simp [exitTo, hk]))⟩
  | goto l' =>
    obtain ⟨r', hr', _⟩ := pass l' a1 w1 hq
    have hg : gotoIn l' (.inScope c :: k) = some (.code (Code.skip.seq r') :: .inScope c :: k) := by simp [gotoIn, hr']
    obtain ⟨e2, a2, w2, hq2, harr2⟩ := key _ l' a1 w1 _ rfl hq hr'
    exact ⟨e2, a2, w2, hq2, .of_steps (.head step_scope (harr _ hg)) harr2⟩
  | ret => exact ⟨_, a1, w1, hq, .of_steps (.one step_scope) harr⟩
  | panic ch => exact ⟨_, a1, w1, hq, .of_steps (.one step_scope) harr⟩
  | outgrown => exact ⟨_, a1, w1, hq, .of_steps (.one step_scope) harr⟩

/-- Bytes as cells. -/
def bc (l : List UInt8) : List Value := l.map fun c => Value.int .u8 (c.toNat : Int)
theorem bc_length (l : List UInt8) : (bc l).length = l.length := by simp [bc]
theorem bc_append (a b : List UInt8) : bc (a ++ b) = bc a ++ bc b := by simp [bc]
theorem bc_one (l : List UInt8) : ∀ u ∈ bc l, u.oneCell' = true := by
  intro u hu
  obtain ⟨_, _, rfl⟩ := List.mem_map.1 hu
  rfl
/-- A token's cells, and those of several. -/
def tc (t : Tok) : List Value := [.int .i64 (t.kind : Int), .int .i64 (t.place : Int), .string (str t.text)]
def tcs (l : List Tok) : List Value := l.flatMap tc
theorem tcs_append (a b : List Tok) : tcs (a ++ b) = tcs a ++ tcs b := by simp [tcs]
theorem tcs_one (t : Tok) : tcs [t] = tc t := by simp [tcs]

/-- What stands in a row of the call's own, from block B on. -/
theorem owns_below {w w' : World} {B e size n : Nat} {v : Value} {xs : List Value} (h : w.ownsRow B e size v n xs) (k : Below w.heap.size w w') : w'.ownsRow B e size v n xs := by
  refine ⟨h.1, ?_⟩
  rcases h.2 with hn | ⟨g, cap, cur, rfl, hb, hg, rest⟩
  · exact .inl hn
  · exact .inr ⟨g, cap, cur, rfl, hb, (k.block g (Array.getElem?_eq_some_iff.1 hg).1).trans hg, rest⟩
/-- An append of the call's own leaves what was there below B. -/
theorem below_grown {w0 w w' : World} {B e size n : Nat} {v : Value} {xs : List Value} (h : w.ownsRow B e size v n xs) (hB : B ≤ w.heap.size) (hw : Below B w0 w) (hg : w.grownBy w' v.ownBlock) : Below B w0 w' := by
  refine hw.grown hg hB (fun k hk => ?_)
  rcases h.2 with ⟨rfl, _⟩ | ⟨g, cap, cur, rfl, hb, _⟩
  · simp [Value.ownBlock] at hk
  · simp [Value.ownBlock] at hk; omega
end Go.Proofs.YtfjppbpicmniaaaGreatDoor

namespace Go.Proofs.YtfjppbpicmniaaaGreatDoor
open Go.RowKit

/-- The same, where the run may also come to a label from the rows ahead of it. -/
theorem wp_scope_fall {P : Program} {a : Act} {w : World} {Q : Exit → Act → World → Prop} {c : Code} (J : Nat → Act → World → Prop) (m : Nat → Act → World → Nat)
    (first : (∀ l rest a w, findLabel c l = some (Code.skip.seq rest) → J l a w → rest.wp P (jumps J Q) a w) → c.wp P (jumps J Q) a w)
    (pass : ∀ l a w, J l a w → (∀ l' rest' a' w', findLabel c l' = some (Code.skip.seq rest') → J l' a' w' → m l' a' w' < m l a w → rest'.wp P (jumps (fun l'' a'' w'' => J l'' a'' w'' ∧ m l'' a'' w'' < m l a w) Q) a' w') →
      ∃ rest, findLabel c l = some (Code.skip.seq rest) ∧ rest.wp P (jumps (fun l' a' w' => J l' a' w' ∧ m l' a' w' < m l a w) Q) a w) : (Code.scope c).wp P Q a w := by
  refine wp_scope_labels J m first ?_
  have key : ∀ n l a w, m l a w = n → J l a w → ∃ rest, findLabel c l = some (Code.skip.seq rest) ∧ rest.wp P (jumps (fun l' a' w' => J l' a' w' ∧ m l' a' w' < m l a w) Q) a w := by
    intro n
    induction n using Nat.strongRecOn with
    | _ n ih =>
      intro l a w hn hJ
      refine pass l a w hJ (fun l' rest' a' w' hf hJ' hlt => ?_)
      obtain ⟨r, hr, hp⟩ := ih _ (by omega) l' a' w' rfl hJ'
      rw [hr] at hf
      cases hf
      refine wp_mono hp ?_
      intro e a2 w2 hq
      cases e <;> first | exact hq | exact ⟨hq.1, Nat.lt_trans hq.2 hlt⟩
  exact fun l a w hJ => key _ l a w rfl hJ

end Go.Proofs.YtfjppbpicmniaaaGreatDoor

namespace Go.Proofs.YtfjppbpicmniaaaGreatDoor
open Go.RowKit

theorem infoB : (Tryz.prog.info? 5).map (fun i => (i.zero.map (fun z => z.cells.size), i.size, i.bytes)) = some (some 1, 1, 1) := by kernel_rfl
theorem info_z {P : Program} {e : TypeId} {n size bytes : Nat} (h : (P.info? e).map (fun i => (i.zero.map (fun z => z.cells.size), i.size, i.bytes)) = some (some n, size, bytes)) :
    ∃ i z, P.info? e = some i ∧ i.zero = some z ∧ i.size = size ∧ i.bytes = bytes ∧ z.cells.size = n := by
  obtain ⟨i, hi, hzz⟩ := Option.map_eq_some_iff.1 h
  simp only [Prod.mk.injEq] at hzz
  obtain ⟨z, hz, hn⟩ := Option.map_eq_some_iff.1 hzz.1
  exact ⟨i, z, hi, hz, hzz.2.1, hzz.2.2, hn⟩

theorem add_at (g j : Nat) : (⟨g, 0, none⟩ : Addr).add j = ⟨g, j, none⟩ := by
  unfold Addr.add
  split
  · rename_i h
    subst h
    rfl
  · simp
theorem cells_new (w : World) (xs : List Value) (t : TypeId) : ∀ j u, xs[j]? = some u → (w.alloc (.cells xs.toArray t)).cell? ((⟨w.heap.size, 0, none⟩ : Addr).add j) = some u := by
  intro j u hj
  rw [add_at]
  simpa using hj

theorem tc_one (t : Tok) : ∀ u ∈ tc t, u.oneCell' = true := by
  intro u hu
  simp only [tc, List.mem_cons, List.not_mem_nil, or_false] at hu
  rcases hu with rfl | rfl | rfl <;> rfl

/-- append of bytes onto a row of the call's own. -/
theorem append_bytes {w : World} {ops : Array Oper} {rest : List Oper} {o : Oper} {a : Act} {Q : Exit → Act → World → Prop} (hgd : o.guard = none) (s x : Operand)
    (ho : o.op = .call { callee := .builtin .append, args := #[s, x], argTypes := #[42, 42] })
    (B : Nat) (v : Value) (acc : List UInt8) (hs : a.eval s = v) (hown : w.ownsRow B 5 1 v acc.length (bc acc))
    (ad : Addr) (c : Nat) (news : List UInt8) (hne : news ≠ []) (hx : a.eval x = .slice (some ad) news.length c) (hnews : ∀ j u, (bc news)[j]? = some u → w.cell? (ad.add j) = some u)
    (hlen : acc.length + news.length ≤ 140737488355328) (hB : B ≤ w.heap.size)
    (h : ∀ ad' c' w', w'.ownsRow B 5 1 (.slice (some ad') (acc ++ news).length c') (acc ++ news).length (bc (acc ++ news)) → w.grownBy w' v.ownBlock → wpList Tryz.prog ops Q rest (a.put o.dst (.slice (some ad') (acc ++ news).length c')) w') :
    wpList Tryz.prog ops Q (o :: rest) a w := by
  obtain ⟨i, z, hi, hz, h1, h2, h3⟩ := info_z infoB
  refine wpList_append_own w hgd s x 42 ho B 5 i z 1 1 Tryz.underlying42 hi hz h1 h2 h3 (by decide) v acc.length (bc acc) hs hown ad news.length c (bc news) hx (by rw [bc_length, Nat.mul_one]) hnews (bc_one _) (by unfold maxLen; omega) (by omega) hB ?_
  intro v' w' k1 k2 k3
  rcases k1.2 with ⟨rfl, hz⟩ | ⟨g, cap, cur, rfl, _⟩
  · exact absurd (by omega : news.length = 0) (fun e => hne (List.eq_nil_of_length_eq_zero e))
  · rw [← bc_append] at k1
    rw [← List.length_append] at k1
    have := h ⟨g, 0, none⟩ cap w' k1 k2
    rw [List.length_append] at this
    exact this
theorem str_push (l : List UInt8) : ∀ (s : ByteArray), (l.map fun c => (c.toNat : Int)).foldl (fun r n => r.push (UInt8.ofNat n.toNat)) s = ⟨s.data ++ l.toArray⟩ := by
  induction l with
  | nil => intro s; simp
  | cons a r ih =>
    intro s
    rw [List.map_cons, List.foldl_cons, ih]
    congr 1
    apply Array.ext'
    simp [ByteArray.push]
theorem bc_map (l : List UInt8) : bc l = (l.map fun c => (c.toNat : Int)).map (Value.int .u8) := by simp [bc]
/-- A row of bytes as a string. -/
theorem bytes_string {w : World} {a : Addr} {n cap : Nat} {l : List UInt8} (hn : n = l.length) (h : ∀ j u, (bc l)[j]? = some u → w.cell? (a.add j) = some u) : (convert 42 9 (.slice (some a) n cap)).run Tryz.prog w = .ok (.string (str l)) w := by
  subst hn
  rw [run_convert_bytes_string w 42 9 5 _ _ _ Tryz.underlying42 Tryz.underlying5 Tryz.underlying9]
  have e : str l = (l.map fun c => (c.toNat : Int)).foldl (fun r n => r.push (UInt8.ofNat n.toNat)) ByteArray.empty := by
    rw [str_push]; simp [str]
  rw [e]
  refine run_bytesToString w a l.length cap (l.map fun c => (c.toNat : Int)) ?_
  have := run_loadCells_list (P := Tryz.prog) w a (bc l) h
  rw [bc_length] at this
  rw [this, bc_map]
theorem nil_string (w : World) : (convert 42 9 (.slice none 0 0)).run Tryz.prog w = .ok (.string (str [])) w := by
  rw [run_convert_bytes_string w 42 9 5 _ _ _ Tryz.underlying42 Tryz.underlying5 Tryz.underlying9]
  simp [Conv.bytesToString, str]
  rfl
/-- The slice of a row of the call's own. -/
theorem owns_shape {w : World} {B e size n : Nat} {v : Value} {xs : List Value} (h : w.ownsRow B e size v n xs) : (v = .slice none 0 0 ∧ n = 0) ∨ ∃ g cap, v = .slice (some ⟨g, 0, none⟩) n cap ∧ B ≤ g ∧ g < w.heap.size ∧ ∀ j u, xs[j]? = some u → w.cell? ((⟨g, 0, none⟩ : Addr).add j) = some u := by
  rcases h.2 with ⟨rfl, hn⟩ | ⟨g, cap, cur, rfl, hb, hg, _⟩
  · exact .inl ⟨rfl, hn⟩
  · refine .inr ⟨g, cap, rfl, hb, (Array.getElem?_eq_some_iff.1 hg).1, fun j u hj => ?_⟩
    have hlt : j < n * size := by rw [← h.1]; exact (List.getElem?_eq_some_iff.1 hj).1
    have := h.cellAt j hlt
    rw [hj] at this
    rw [add_at]
    exact this
theorem owns_string {w : World} {B : Nat} {v : Value} {l : List UInt8} (h : w.ownsRow B 5 1 v l.length (bc l)) : (convert 42 9 v).run Tryz.prog w = .ok (.string (str l)) w := by
  rcases owns_shape h with ⟨rfl, hn⟩ | ⟨g, cap, rfl, _, _, hc⟩
  · rw [List.eq_nil_of_length_eq_zero hn]
    exact nil_string w
  · exact bytes_string rfl hc
end Go.Proofs.YtfjppbpicmniaaaGreatDoor

namespace Go.Proofs.YtfjppbpicmniaaaGreatDoor
open Go.RowKit

/-- What reading a Quoted answers. -/
def QE (r : QR) (w : World) (e : Ending) (w' : World) : Prop :=
  (match r with
  | .ok (t, nx) => e = .returned (.tuple #[.string (str t), .int .i64 0, .int .i64 (nx : Int)])
  | .error (y, b) => e = .returned (.tuple #[.string (str []), .int .i64 (y : Int), .int .i64 (b : Int)])) ∧ Below w.heap.size w w'

/-- What holds at each label of readQuoted. -/
def rqJ (s : ByteArray) (fr : Nat) (w0 : World) (l : Nat) (a : Act) (w : World) : Prop :=
  ∃ (p : Nat) (acc : List UInt8) (v : Value) (u2 u3 u4 u5 u6 u8 u9 u11 u12 u13 u14 u15 u16 u17 u18 u19 u20 u21 u22 u23 u24 u25 u26 u27 u28 u29 u30 u31 u32 u33 u34 u35 u36 u37 u38 u39 u40 u41 u42 u43 u44 u45 u46 u47 u48 u49 u50 u51 u52 u53 u54 u55 u56 u57 u58 u59 u60 u61 u62 u63 u64 u65 u66 u67 u68 : Value), a = { tmps := #[.string s, .int .i64 (fr : Int), u2, u3, u4, u5, u6, v, u8, u9, .int .i64 (p : Int), u11, u12, u13, u14, u15, u16, u17, u18, u19, u20, u21, u22, u23, u24, u25, u26, u27, u28, u29, u30, u31, u32, u33, u34, u35, u36, u37, u38, u39, u40, u41, u42, u43, u44, u45, u46, u47, u48, u49, u50, u51, u52, u53, u54, u55, u56, u57, u58, u59, u60, u61, u62, u63, u64, u65, u66, u67, u68], defers := [] } ∧
    fr < p ∧ p ≤ s.size ∧ acc.length ≤ p ∧ Hid (q (s.data.toList.drop p) p fr acc = q (s.data.toList.drop (fr + 1)) (fr + 1) fr []) ∧ w.ownsRow w0.heap.size 5 1 v acc.length (bc acc) ∧ Below w0.heap.size w0 w ∧
    (l = 2 ∨ (l = 1 ∧ ∃ h : p < s.size, s[p].toNat = 92) ∨ (l = 0 ∧ ∃ h : p < s.size, s[p].toNat = 34))
def rqM (s : ByteArray) (l : Nat) (a : Act) (_ : World) : Nat :=
  match l with
  | 2 => 2 * (s.size - (intOf (a.tmps.getD 10 undef)).toNat) + 1
  | 1 => 2 * (s.size - (intOf (a.tmps.getD 10 undef)).toNat)
  | _ => 0

theorem hidden {p : Prop} (h : p) : Hid p := h
theorem qe_no {r : QR} {w w' : World} {y b : Nat} {z x : Int} {t : ByteArray} (h : r = .error (y, b)) (hz : z = (y : Int)) (hx : x = (b : Int)) (ht : t = str []) (hb : Below w.heap.size w w') : QE r w (.returned (.tuple #[.string t, .int .i64 z, .int .i64 x])) w' := by
  subst h hz hx ht
  exact ⟨rfl, hb⟩
theorem qe_ok {r : QR} {w w' : World} {l : List UInt8} {nx : Nat} {x : Int} {t : ByteArray} (h : r = .ok (l, nx)) (hx : x = (nx : Int)) (ht : t = str l) (hb : Below w.heap.size w w') : QE r w (.returned (.tuple #[.string t, .int .i64 0, .int .i64 x])) w' := by
  subst h hx ht
  exact ⟨rfl, hb⟩

end Go.Proofs.YtfjppbpicmniaaaGreatDoor
