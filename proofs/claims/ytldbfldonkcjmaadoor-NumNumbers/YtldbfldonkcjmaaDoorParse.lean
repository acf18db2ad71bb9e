/-
  Digits at a text's beginning: the package's readPart and the document's part.
-/
import Derived.Test.YtldbfldonkcjmaaDoorRefText
import Derived.Lib.IndexBytes
namespace Go.Proofs.YtldbfldonkcjmaaDoor
open Go.RowKit Ieee

def dig (c : UInt8) : Bool := decide (48 ≤ c.toNat) && decide (c.toNat ≤ 57)
def accA (n : Nat) (c : UInt8) : Nat := if n ≤ 1048576 then 10 * n + (c.toNat - 48) else n
def accB (n : Nat) (c : UInt8) : Nat := if n < 1099511627776 then 10 * n + (c.toNat - 48) else n
def pre (s : ByteArray) : List UInt8 := s.data.toList.takeWhile dig
def numA (s : ByteArray) : Nat := (pre s).foldl accA 0
def numB (s : ByteArray) : Nat := (pre s).foldl accB 0

theorem tw_take : ∀ (l : List UInt8) (k : Nat), (∀ c ∈ l.take k, dig c = true) → (∀ c, l[k]? = some c → dig c = false) → l.takeWhile dig = l.take k
  | [], k, _, _ => by simp
  | x :: r, 0, _, h2 => by
    have := h2 x rfl
    simp [this]
  | x :: r, k + 1, h1, h2 => by
    have hx := h1 x (by simp)
    rw [List.takeWhile_cons_of_pos hx, List.take_succ_cons, tw_take r k (fun c hc => h1 c (by simp [hc])) (fun c hc => h2 c (by simpa using hc))]
theorem get_k (s : ByteArray) (k : Nat) (hk : k < s.size) : s.data.toList[k]? = some s[k] := by
  have hk' : k < s.data.toList.length := by rw [Array.length_toList]; exact hk
  rw [List.getElem?_eq_getElem hk']
  rfl
/-- The first k bytes are digits; their number is m. -/
def Got (acc : Nat → UInt8 → Nat) (s : ByteArray) (k m : Nat) : Prop := m = (s.data.toList.take k).foldl acc 0 ∧ ∀ c ∈ s.data.toList.take k, dig c = true
theorem Got.zero (acc : Nat → UInt8 → Nat) (s : ByteArray) : Got acc s 0 0 := ⟨rfl, by simp⟩
theorem Got.step {acc : Nat → UInt8 → Nat} {s : ByteArray} {k m : Nat} (h : Got acc s k m) (hk : k < s.size) (hd : dig s[k] = true) : Got acc s (k + 1) (acc m s[k]) := by
  have e : s.data.toList.take (k + 1) = s.data.toList.take k ++ [s[k]] := by
    rw [List.take_add_one, get_k s k hk]
    rfl
  refine ⟨?_, ?_⟩
  · rw [e, List.foldl_append, ← h.1]
    rfl
  · rw [e]
    intro c hc
    rcases List.mem_append.1 hc with hc | hc
    · exact h.2 c hc
    · rw [List.mem_singleton.1 hc]; exact hd
theorem Got.done {acc : Nat → UInt8 → Nat} {s : ByteArray} {k m : Nat} (h : Got acc s k m) (hks : k ≤ s.size) (hd : ∀ hk : k < s.size, dig s[k] = false) : (pre s).foldl acc 0 = m ∧ (pre s).length = k := by
  have e : pre s = s.data.toList.take k := by
    refine tw_take _ _ h.2 (fun c hc => ?_)
    by_cases hk : k < s.size
    · rw [get_k s k hk] at hc
      cases hc
      exact hd hk
    · rw [List.getElem?_eq_none (by rw [Array.length_toList]; exact Nat.le_of_not_lt hk)] at hc
      cases hc
  rw [e]
  refine ⟨h.1.symm, ?_⟩
  rw [List.length_take, Nat.min_eq_left (by rw [Array.length_toList]; exact hks)]

/-- What readPart answers. -/
def PartA (s : ByteArray) (below : Bool) (w : World) (e : Ending) (w' : World) : Prop :=
  e = .returned (.tuple #[.float .f64 (floatOfInt .f64 (if below then -(numA s : Int) else (numA s : Int))), .string (s.extract (pre s).length s.size), .bool (decide (0 < (pre s).length))]) ∧ ∃ n, w' = w.drewN n
theorem partA_mk {s : ByteArray} {below : Bool} {k m n : Nat} {z : Int} {b : Bool} (w : World) (h : numA s = m ∧ (pre s).length = k) (hz : z = if below then -(m : Int) else (m : Int)) (hb : b = decide (0 < k)) :
    PartA s below w (.returned (.tuple #[.float .f64 (floatOfInt .f64 z), .string (s.extract k s.size), .bool b])) (w.drewN n) := by
  unfold PartA
  rw [h.1, h.2, hz, hb]
  exact ⟨rfl, n, rfl⟩

set_option maxHeartbeats 800000 in
set_option maxRecDepth 1000000 in
theorem readPart (s : ByteArray) (below : Bool) (hs : s.size ≤ 9223372036854775806) (w : World) : Calls Tryd.prog 29 #[.string s, .bool below] w (PartA s below w) := by
  go_enter Tryd.func29, Tryd.ntmps29
  go_wp2
  go_loopg [7, 8] s.size (fun g n i wr => ∃ (m k : Nat), g + k = s.size ∧ n = .int .i64 m ∧ i = .int .i64 k ∧ m ≤ 10485769 ∧ wr = w ∧ Hid (Got accA s k m))
  case atStart => exact ⟨0, 0, rfl, rfl, rfl, by decide, rfl, Got.zero _ _⟩
  case round =>
    obtain ⟨m, k, hg, rfl, rfl, hm, hw, hinv⟩ := hrel
    subst hw
    by_cases hk : k < s.size
    · by_cases hd : dig s[k] = true
      · have hst := hinv.out.step hk hd
        simp only [dig, Bool.and_eq_true, decide_eq_true_eq] at hd
        obtain ⟨d1, d2⟩ := hd
        have d1' : (48 : Int) ≤ (s[k].toNat : Int) := by omega
        have d2' : (s[k].toNat : Int) ≤ 57 := by omega
        by_cases hc : m ≤ 1048576
        · have hc' : (m : Int) ≤ 1048576 := by omega
          have HST : Hid (Got accA s (k + 1) (10 * m + (s[k].toNat - 48))) := by
            rw [accA, if_pos hc] at hst
            exact hst
          clear hst hinv
          go_wp2
          go_roundg (s.size - (k + 1))
          case measure => omega
          case rel => exact ⟨10 * m + (s[k].toNat - 48), k + 1, by omega, by go_num, by go_num, by omega, rfl, HST⟩
        · have hc' : ¬ ((m : Int) ≤ 1048576) := by omega
          have HST : Hid (Got accA s (k + 1) m) := by
            rw [accA, if_neg hc] at hst
            exact hst
          clear hst hinv
          go_wp2
          go_roundg (s.size - (k + 1))
          case measure => omega
          case rel => exact ⟨m, k + 1, by omega, by go_num, by go_num, by omega, rfl, HST⟩
      · have hdn : Hid (numA s = m ∧ (pre s).length = k) := hinv.out.done (by omega) (fun _ => Bool.eq_false_iff.2 hd)
        have hd' : s[k].toNat < 48 ∨ (48 ≤ s[k].toNat ∧ 57 < s[k].toNat) := by
          simp only [dig, Bool.and_eq_true, decide_eq_true_eq] at hd
          omega
        have hks : (k : Int) ≤ (s.size : Int) := by omega
        clear hinv hd
        rcases hd' with d1 | ⟨d1, d2⟩
        · have d1' : ¬ ((48 : Int) ≤ (s[k].toNat : Int)) := by omega
          cases below
          · go_wp2
            go_quiet (fail)
            go_wp2
            go_ret3
            exact partA_mk _ hdn.out rfl rfl
          · go_wp2
            go_quiet (fail)
            go_wp2
            go_ret3
            exact partA_mk _ hdn.out rfl rfl
        · have d1' : (48 : Int) ≤ (s[k].toNat : Int) := by omega
          have d2' : ¬ ((s[k].toNat : Int) ≤ 57) := by omega
          cases below
          · go_wp2
            go_quiet (fail)
            go_wp2
            go_ret3
            exact partA_mk _ hdn.out rfl rfl
          · go_wp2
            go_quiet (fail)
            go_wp2
            go_ret3
            exact partA_mk _ hdn.out rfl rfl
    · have hdn : Hid (numA s = m ∧ (pre s).length = k) := hinv.out.done (by omega) (fun h => absurd h hk)
      have hks : (k : Int) ≤ (s.size : Int) := by omega
      clear hinv
      cases below
      · go_wp2
        go_quiet (fail)
        go_wp2
        go_ret3
        exact partA_mk _ hdn.out rfl rfl
      · go_wp2
        go_quiet (fail)
        go_wp2
        go_ret3
        exact partA_mk _ hdn.out rfl rfl

/-- What the document's part answers. -/
def PartB (s : ByteArray) (w : World) (e : Ending) (w' : World) : Prop :=
  e = .returned (.tuple #[.int .i64 (numB s), .string (s.extract (pre s).length s.size), .bool (decide (0 < (pre s).length))]) ∧ ∃ n, w' = w.drewN n
theorem partB_mk {s : ByteArray} {k m n : Nat} {b : Bool} (w : World) (h : numB s = m ∧ (pre s).length = k) (hb : b = decide (0 < k)) :
    PartB s w (.returned (.tuple #[.int .i64 m, .string (s.extract k s.size), .bool b])) (w.drewN n) := by
  unfold PartB
  rw [h.1, h.2, hb]
  exact ⟨rfl, n, rfl⟩
set_option maxHeartbeats 800000 in
set_option maxRecDepth 1000000 in
theorem part (s : ByteArray) (hs : s.size ≤ 9223372036854775806) (w : World) : Calls Tryd.prog 37 #[.string s] w (PartB s w) := by
  go_enter Tryd.func37, Tryd.ntmps37
  go_wp2
  go_loopg [5, 6] s.size (fun g n i wr => ∃ (m k : Nat), g + k = s.size ∧ n = .int .i64 m ∧ i = .int .i64 k ∧ m ≤ 10995116277769 ∧ wr = w ∧ Hid (Got accB s k m))
  case atStart => exact ⟨0, 0, rfl, rfl, rfl, by decide, rfl, Got.zero _ _⟩
  case round =>
    obtain ⟨m, k, hg, rfl, rfl, hm, hw, hinv⟩ := hrel
    subst hw
    by_cases hk : k < s.size
    · by_cases hd : dig s[k] = true
      · have hst := hinv.out.step hk hd
        simp only [dig, Bool.and_eq_true, decide_eq_true_eq] at hd
        obtain ⟨d1, d2⟩ := hd
        have d1' : (48 : Int) ≤ (s[k].toNat : Int) := by omega
        have d2' : (s[k].toNat : Int) ≤ 57 := by omega
        by_cases hc : m < 1099511627776
        · have hc' : (m : Int) < 1099511627776 := by omega
          have HST : Hid (Got accB s (k + 1) (10 * m + (s[k].toNat - 48))) := by
            rw [accB, if_pos hc] at hst
            exact hst
          clear hst hinv
          go_wp2
          go_roundg (s.size - (k + 1))
          case measure => omega
          case rel => exact ⟨10 * m + (s[k].toNat - 48), k + 1, by omega, by go_num, by go_num, by omega, rfl, HST⟩
        · have hc' : ¬ ((m : Int) < 1099511627776) := by omega
          have HST : Hid (Got accB s (k + 1) m) := by
            rw [accB, if_neg hc] at hst
            exact hst
          clear hst hinv
          go_wp2
          go_roundg (s.size - (k + 1))
          case measure => omega
          case rel => exact ⟨m, k + 1, by omega, by go_num, by go_num, by omega, rfl, HST⟩
      · have hdn : Hid (numB s = m ∧ (pre s).length = k) := hinv.out.done (by omega) (fun _ => Bool.eq_false_iff.2 hd)
        have hd' : s[k].toNat < 48 ∨ (48 ≤ s[k].toNat ∧ 57 < s[k].toNat) := by
          simp only [dig, Bool.and_eq_true, decide_eq_true_eq] at hd
          omega
        have hks : (k : Int) ≤ (s.size : Int) := by omega
        clear hinv hd
        rcases hd' with d1 | ⟨d1, d2⟩
        · have d1' : ¬ ((48 : Int) ≤ (s[k].toNat : Int)) := by omega
          go_wp2
          go_quiet (fail)
          go_wp2
          go_ret3
          exact partB_mk _ hdn.out rfl
        · have d1' : (48 : Int) ≤ (s[k].toNat : Int) := by omega
          have d2' : ¬ ((s[k].toNat : Int) ≤ 57) := by omega
          go_wp2
          go_quiet (fail)
          go_wp2
          go_ret3
          exact partB_mk _ hdn.out rfl
    · have hdn : Hid (numB s = m ∧ (pre s).length = k) := hinv.out.done (by omega) (fun h => absurd h hk)
      have hks : (k : Int) ≤ (s.size : Int) := by omega
      clear hinv
      go_wp2
      go_quiet (fail)
      go_wp2
      go_ret3
      exact partB_mk _ hdn.out rfl
end Go.Proofs.YtldbfldonkcjmaaDoor
