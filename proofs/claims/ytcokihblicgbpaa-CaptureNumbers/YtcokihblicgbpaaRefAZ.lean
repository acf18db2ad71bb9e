/-
  The document's own Name, Value, Big: their walks.
  And: How texts compare. No program in it. The document's own reader of modules: its block; what is refused first stays; small functions. The document's own reader of modules: words, names, types. The document's own tests of letters, and what its reader of types answers. The document's own reader of functions' types: its walk. The document's own reader of types: its walk. The document's own Right, kind, Elem, Named, Func, Dotted, short: their walks. The document's own Parts: its walk. append of texts; what follows of names: those of an array, of a function, of a name. The document's own Put: its walk. The document's own Names: its walk.
-/
import Derived.Test.YtcokihblicgbpaaTypAZ
import Derived.Sort.Walk0
import Derived.Deep.LoopGhost
import Derived.Deep.RegionHeld3
import Derived.Deep.QuietTactic
import Derived.BigQuiet
import Derived.Test.YtcokihblicgbpaaParAZ
import Derived.Deep.Cut
import Derived.Deep.CutRange
import Derived.Laws.AppendOwnNone
namespace Go.Proofs.Ytcokihblicgbpaa
open Go.RowKit

/-- The first byte, if there is one, is no digit. -/
def fstOk (l : List UInt8) : Prop := ∀ c r, l = c :: r → isDigit c = false
theorem fstOk_of (s : ByteArray) (h : 0 < s.size) (hd : isDigit s[0] = false) : fstOk s.data.toList := by
  intro c r e
  have := head_s s h
  rw [e] at this
  cases this
  exact hd
theorem digit_of (s : ByteArray) (h : 0 < s.size) (hf : fstOk s.data.toList) : isDigit s[0] = false := by
  have := drop_at s 0 h
  rw [List.drop_zero] at this
  exact hf _ _ this

set_option maxHeartbeats 4000000 in
set_option maxRecDepth 1000000 in
theorem refName (s : ByteArray) (w : World) (hs : s.size ≤ 9223372036854775806) : Calls Try.prog 32 #[.string s] w (Pu (.bool (nameR s.data.toList)) w) := by
  go_enter Try.func32, Try.ntmps32
  go_wp2
  go_loopg [3] s.size (fun g i wr => ∃ (k : Nat), g + k = s.size ∧ i = .int .i64 k ∧ Hid ((s.data.toList.take k).all isLetter = true) ∧ Hid (0 < k → fstOk s.data.toList) ∧ w = wr)
  case atStart => exact ⟨0, rfl, rfl, rfl, fun h => absurd h (by omega), rfl⟩
  case round =>
    obtain ⟨k, hg, rfl, hall, hfst, rfl⟩ := hrel
    by_cases hk : k < s.size
    · have h256 : s[k].toNat < 256 := s[k].toNat_lt
      by_cases a1 : 97 ≤ s[k].toNat
      · have a1' : (97 : Int) ≤ (s[k].toNat : Int) := by omega
        by_cases a2 : s[k].toNat ≤ 122
        · have a2' : (s[k].toNat : Int) ≤ 122 := by omega
          have HA : Hid ((s.data.toList.take (k + 1)).all isLetter = true) := take_all s k hk hall.out (by simp [isLetter, isSmall, a1, a2])
          have HD : Hid (0 < k + 1 → fstOk s.data.toList) := fun _ => (by
            rcases Nat.eq_zero_or_pos k with h0 | h0
            · subst h0
              exact fstOk_of s hk (by simp [isDigit]; omega)
            · exact hfst.out h0)
          clear hall hfst
          clear a1 a2
          go_wp2
          go_roundg (s.size - (k + 1))
          case measure => omega
          case rel => exact ⟨k + 1, by omega, by go_num, HA, HD, rfl⟩
        · have a2' : ¬ (s[k].toNat : Int) ≤ 122 := by omega
          have b1' : (65 : Int) ≤ (s[k].toNat : Int) := by omega
          have b2' : ¬ (s[k].toNat : Int) ≤ 90 := by omega
          have c' : ((s[k].toNat : Int) == 95) = false := by rw [beq_eq_false_iff_ne]; omega
          have d1' : (48 : Int) ≤ (s[k].toNat : Int) := by omega
          have d2' : ¬ (s[k].toNat : Int) ≤ 57 := by omega
          have HN : Hid (nameR s.data.toList = false) := by
            have := not_all s k hk (by simp [isLetter, isSmall, isLarge, isDigit]; omega)
            simp [Hid, nameR, this]
          clear a1 a2 hall hfst
          go_wp2
          go_ret
          exact ⟨by rw [HN.out]; rfl, rfl⟩
      have a1' : ¬ (97 : Int) ≤ (s[k].toNat : Int) := by omega
      by_cases b1 : 65 ≤ s[k].toNat
      · have b1' : (65 : Int) ≤ (s[k].toNat : Int) := by omega
        by_cases b2 : s[k].toNat ≤ 90
        · have b2' : (s[k].toNat : Int) ≤ 90 := by omega
          have HA : Hid ((s.data.toList.take (k + 1)).all isLetter = true) := take_all s k hk hall.out (by simp [isLetter, isLarge, b1, b2])
          have HD : Hid (0 < k + 1 → fstOk s.data.toList) := fun _ => (by
            rcases Nat.eq_zero_or_pos k with h0 | h0
            · subst h0
              exact fstOk_of s hk (by simp [isDigit]; omega)
            · exact hfst.out h0)
          clear hall hfst
          clear a1 b1 b2
          go_wp2
          go_roundg (s.size - (k + 1))
          case measure => omega
          case rel => exact ⟨k + 1, by omega, by go_num, HA, HD, rfl⟩
        · have b2' : ¬ (s[k].toNat : Int) ≤ 90 := by omega
          by_cases c : s[k].toNat = 95
          · have c' : ((s[k].toNat : Int) == 95) = true := by rw [beq_iff_eq]; omega
            have HA : Hid ((s.data.toList.take (k + 1)).all isLetter = true) := take_all s k hk hall.out (by simp [isLetter, c])
            have HD : Hid (0 < k + 1 → fstOk s.data.toList) := fun _ => (by
              rcases Nat.eq_zero_or_pos k with h0 | h0
              · subst h0
                exact fstOk_of s hk (by simp [isDigit]; omega)
              · exact hfst.out h0)
            clear hall hfst
            clear a1 b1 b2 c
            go_wp2
            go_roundg (s.size - (k + 1))
            case measure => omega
            case rel => exact ⟨k + 1, by omega, by go_num, HA, HD, rfl⟩
          · have c' : ((s[k].toNat : Int) == 95) = false := by rw [beq_eq_false_iff_ne]; omega
            have d1' : (48 : Int) ≤ (s[k].toNat : Int) := by omega
            have d2' : ¬ (s[k].toNat : Int) ≤ 57 := by omega
            have HN : Hid (nameR s.data.toList = false) := by
              have := not_all s k hk (by simp [isLetter, isSmall, isLarge, isDigit]; omega)
              simp [Hid, nameR, this]
            clear a1 b1 b2 c hall hfst
            go_wp2
            go_ret
            exact ⟨by rw [HN.out]; rfl, rfl⟩
      have b1' : ¬ (65 : Int) ≤ (s[k].toNat : Int) := by omega
      have c' : ((s[k].toNat : Int) == 95) = false := by rw [beq_eq_false_iff_ne]; omega
      by_cases d1 : 48 ≤ s[k].toNat
      · have d1' : (48 : Int) ≤ (s[k].toNat : Int) := by omega
        by_cases d2 : s[k].toNat ≤ 57
        · have d2' : (s[k].toNat : Int) ≤ 57 := by omega
          by_cases k0 : 0 < k
          · have k0' : (0 : Int) < (k : Int) := by omega
            have HA : Hid ((s.data.toList.take (k + 1)).all isLetter = true) := take_all s k hk hall.out (by simp [isLetter, isDigit, d1, d2])
            have HD : Hid (0 < k + 1 → fstOk s.data.toList) := fun _ => hfst.out k0
            clear hall hfst
            clear a1 b1 d1 d2
            go_wp2
            go_roundg (s.size - (k + 1))
            case measure => omega
            case rel => exact ⟨k + 1, by omega, by go_num, HA, HD, rfl⟩
          · have k0' : ¬ (0 : Int) < (k : Int) := by omega
            have HN : Hid (nameR s.data.toList = false) := by
              have e0 : k = 0 := by omega
              subst e0
              exact nameR_digit s hk (by simp [isDigit]; omega)
            clear a1 b1 d1 d2 hall hfst
            go_wp2
            go_ret
            exact ⟨by rw [HN.out]; rfl, rfl⟩
        · have d2' : ¬ (s[k].toNat : Int) ≤ 57 := by omega
          have HN : Hid (nameR s.data.toList = false) := by
            have := not_all s k hk (by simp [isLetter, isSmall, isLarge, isDigit]; omega)
            simp [Hid, nameR, this]
          clear a1 b1 d1 d2 hall hfst
          go_wp2
          go_ret
          exact ⟨by rw [HN.out]; rfl, rfl⟩
      have d1' : ¬ (48 : Int) ≤ (s[k].toNat : Int) := by omega
      have HN : Hid (nameR s.data.toList = false) := by
        have := not_all s k hk (by simp [isLetter, isSmall, isLarge, isDigit]; omega)
        simp [Hid, nameR, this]
      clear a1 b1 d1 hall hfst
      go_wp2
      go_ret
      exact ⟨by rw [HN.out]; rfl, rfl⟩
    · have hk' : k = s.size := by omega
      subst hk'
      have hal := all_all s hall.out
      by_cases h1 : 1 ≤ s.size
      · have h1' : (1 : Int) ≤ (s.size : Int) := by omega
        have hdg := digit_of s h1 (hfst.out h1)
        by_cases h2 : s.size ≤ 24
        · have h2' : (s.size : Int) ≤ 24 := by omega
          have HN : Hid (nameR s.data.toList = true) := by rw [nameR_some s h1 h2 hdg]; exact hal
          clear hall hfst hal hdg
          go_wp2
          go_ret
          exact ⟨by rw [HN.out]; rfl, rfl⟩
        · have h2' : ¬ (s.size : Int) ≤ 24 := by omega
          have HN : Hid (nameR s.data.toList = false) := nameR_long s (by omega)
          clear hall hfst hal hdg
          go_wp2
          go_ret
          exact ⟨by rw [HN.out]; rfl, rfl⟩
      · have h1' : ¬ (1 : Int) ≤ (s.size : Int) := by omega
        have HN : Hid (nameR s.data.toList = false) := nameR_empty s (by omega)
        clear hall hfst hal
        go_wp2
        go_ret
        exact ⟨by rw [HN.out]; rfl, rfl⟩

set_option maxHeartbeats 800000 in
set_option maxRecDepth 1000000 in
theorem refBig (s : ByteArray) (w : World) (hs : s.size ≤ 9223372036854775806) : Calls Try.prog 33 #[.string s] w (Pu (.bool (bigR s.data.toList)) w) := by
  have hn := fun w => refName s w hs
  rcases (by cases nameR s.data.toList <;> simp : nameR s.data.toList = true ∨ nameR s.data.toList = false) with h | h
  · have hp := nameR_pos s h
    have hp' : (0 : Int) < (s.size : Int) := by omega
    rw [bigR_yes s h hp]
    rw [h] at hn
    clear h
    by_cases a1 : 65 ≤ s[0].toNat
    · have a1' : (65 : Int) ≤ (s[0].toNat : Int) := by omega
      by_cases a2 : s[0].toNat ≤ 90
      · have a2' : (s[0].toNat : Int) ≤ 90 := by omega
        rw [show isLarge s[0] = true from by simp [isLarge, a1, a2]]
        clear a1 a2
        go_enter Try.func33, Try.ntmps33
        go_wp2_with fail
        refine (hn _).mono ?_
        rintro e w1 ⟨rfl, rfl⟩
        go_wp2
        go_ret
        exact ⟨rfl, rfl⟩
      · have a2' : ¬ (s[0].toNat : Int) ≤ 90 := by omega
        rw [show isLarge s[0] = false from by simp [isLarge, a1, a2]]
        clear a1 a2
        go_enter Try.func33, Try.ntmps33
        go_wp2_with fail
        refine (hn _).mono ?_
        rintro e w1 ⟨rfl, rfl⟩
        go_wp2
        go_ret
        refine ⟨?_, rfl⟩
        show Ending.returned (Value.bool (decide ((s[0].toNat : Int) ≤ 90))) = _
        rw [decide_eq_false (by omega)]
    · have a1' : ¬ (65 : Int) ≤ (s[0].toNat : Int) := by omega
      rw [show isLarge s[0] = false from by simp [isLarge, a1]]
      clear a1
      go_enter Try.func33, Try.ntmps33
      go_wp2_with fail
      refine (hn _).mono ?_
      rintro e w1 ⟨rfl, rfl⟩
      go_wp2
      go_ret
      exact ⟨rfl, rfl⟩
  · rw [bigR_no s h]
    rw [h] at hn
    clear h
    go_enter Try.func33, Try.ntmps33
    go_wp2_with fail
    refine (hn _).mono ?_
    rintro e w1 ⟨rfl, rfl⟩
    go_wp2
    go_ret
    exact ⟨rfl, rfl⟩
set_option maxHeartbeats 800000 in
set_option maxRecDepth 1000000 in
theorem refValue (s : ByteArray) (w : World) (hs : s.size ≤ 9223372036854775806) : Calls Try.prog 18 #[.string s] w (Pu (.bool (valueR s.data.toList)) w) := by
  have hn := fun w => refName s w hs
  have hb := fun w => refBig s w hs
  rcases (by cases nameR s.data.toList <;> simp : nameR s.data.toList = true ∨ nameR s.data.toList = false) with h | h
  · have hp := nameR_pos s h
    rw [valueR_yes s h hp]
    rw [bigR_yes s h hp] at hb
    rw [h] at hn
    generalize isLarge s[0] = b at *
    clear h
    go_enter Try.func18, Try.ntmps18
    go_wp2_with fail
    refine (hn _).mono ?_
    rintro e w1 ⟨rfl, rfl⟩
    go_wp2_with fail
    refine (hb _).mono ?_
    rintro e w1 ⟨rfl, rfl⟩
    go_wp2
    go_ret
    exact ⟨rfl, rfl⟩
  · rw [valueR_no s h]
    rw [h] at hn
    clear h
    go_enter Try.func18, Try.ntmps18
    go_wp2_with fail
    refine (hn _).mono ?_
    rintro e w1 ⟨rfl, rfl⟩
    go_wp2
    go_ret
    exact ⟨rfl, rfl⟩

end Go.Proofs.Ytcokihblicgbpaa

namespace Go.Proofs.Ytcokihblicgbpaa
open Go.RowKit

theorem less_is (a b : List UInt8) : Op.bytesLess (str a).toList (str b).toList = decide (a < b) := by
  rw [Lib.toList_data, Lib.toList_data, str_data, str_data, bytesLess_eq]
theorem geq_is (a b : List UInt8) : (!Op.bytesLess (str a).toList (str b).toList) = decide (b ≤ a) := by
  rw [less_is, ← decide_not, Bool.eq_iff_iff, decide_eq_true_iff, decide_eq_true_iff, List.not_lt]
theorem neq_is (a b : List UInt8) : ((str a).toList != (str b).toList) = decide (a ≠ b) := by
  rw [Lib.toList_data, Lib.toList_data, str_data, str_data, Bool.eq_iff_iff, bne_iff_ne, decide_eq_true_iff]
theorem eq_is (a b : List UInt8) : ((str a).toList == (str b).toList) = decide (a = b) := by
  rw [Lib.toList_data, Lib.toList_data, str_data, str_data, Bool.eq_iff_iff, beq_iff_eq, decide_eq_true_iff]

end Go.Proofs.Ytcokihblicgbpaa

namespace Go.Proofs.Ytcokihblicgbpaa
open Go.RowKit

/-- What stays refused: what was, else what is now. -/
def orR {α : Type} (st : Option (Nat × Nat)) (r : PR α) : Option (Nat × Nat) :=
  match st with
  | some e => some e
  | none => match r with
    | .error e => some e
    | .ok _ => none
/-- The reader's block. -/
def RI (w : World) (rb : Nat) (m : List UInt8) (st : Option (Nat × Nat)) : Prop :=
  w.heap[rb]? = some (.cells #[.string (str m), .int .i64 (((st.getD (0, 0)).1 : Nat) : Int), .int .i64 (((st.getD (0, 0)).2 : Nat) : Int)] 83 (0, 0)) ∧ ∀ e, st = some e → e.1 ≠ 0
theorem RI.lt {w : World} {rb : Nat} {m : List UInt8} {st : Option (Nat × Nat)} (h : RI w rb m st) : rb < w.heap.size := (Array.getElem?_eq_some_iff.1 h.1).1
theorem RI.kept {S : Nat → Prop} {w w' : World} {rb : Nat} {m : List UInt8} {st : Option (Nat × Nat)} (h : RI w rb m st) (k : Kept S w w') (hS : ¬ S rb) : RI w' rb m st := ⟨(k.block rb h.lt hS).trans h.1, h.2⟩
theorem RI.below {w w' : World} {rb : Nat} {m : List UInt8} {st : Option (Nat × Nat)} (h : RI w rb m st) (k : Below w.heap.size w w') : RI w' rb m st := ⟨(k.block rb h.lt).trans h.1, h.2⟩
theorem RI.cells {w : World} {rb : Nat} {m : List UInt8} {st : Option (Nat × Nat)} (h : RI w rb m st) : w.cell? ⟨rb, 0, none⟩ = some (.string (str m)) ∧ w.cell? ⟨rb, 1, none⟩ = some (.int .i64 (((st.getD (0, 0)).1 : Nat) : Int)) ∧ w.cell? ⟨rb, 2, none⟩ = some (.int .i64 (((st.getD (0, 0)).2 : Nat) : Int)) ∧ w.frozen? ⟨rb, 1, none⟩ = false ∧ w.frozen? ⟨rb, 2, none⟩ = false :=
  ⟨by rw [cell_of_row _ _ 0 _ _ _ h.1]; rfl, by rw [cell_of_row _ _ 1 _ _ _ h.1]; rfl, by rw [cell_of_row _ _ 2 _ _ _ h.1]; rfl, frozen_of_row w rb 1 _ _ h.1, frozen_of_row w rb 2 _ _ h.1⟩
theorem kb {w w' : World} {S : Nat → Prop} (h : Below w.heap.size w w') : Kept S w w' := ⟨h.os, h.tape, h.output, h.size, fun k hk _ => h.block k hk⟩
/-- What a call leaves: the reader with what is refused; nothing else below is turned. -/
def RQ (rb : Nat) (m : List UInt8) (st : Option (Nat × Nat)) (w w' : World) : Prop := RI w' rb m st ∧ Kept (fun k => k = rb) w w'
theorem RQ.trans {rb : Nat} {m : List UInt8} {s1 s2 : Option (Nat × Nat)} {a b c : World} (h : RQ rb m s1 a b) (k : RQ rb m s2 b c) : RQ rb m s2 a c := ⟨k.1, h.2.trans k.2 (fun _ _ e => e) (fun _ _ e => e)⟩
theorem RQ.more {rb : Nat} {m : List UInt8} {st : Option (Nat × Nat)} {a b c : World} (h : RQ rb m st a b) (k : Below b.heap.size b c) : RQ rb m st a c := ⟨h.1.below k, h.2.trans (kb (S := fun k => k = rb) k) (fun _ _ e => e) (fun _ _ e => e)⟩
theorem RQ.of {rb : Nat} {m : List UInt8} {st : Option (Nat × Nat)} {a b : World} (h : RI a rb m st) (k : Below a.heap.size a b) : RQ rb m st a b := ⟨h.below k, kb k⟩

set_option maxHeartbeats 1000000 in
set_option maxRecDepth 1000000 in
theorem r6refuse (rb : Nat) (m : List UInt8) (st : Option (Nat × Nat)) (why place : Nat) (w : World) (h : RI w rb m st) (hy : why ≠ 0) :
    Calls Try.prog 45 #[.pointer (some ⟨rb, 0, none⟩), .int .i64 (why : Int), .int .i64 (place : Int)] w fun e w' => e = .returned (.tuple #[]) ∧ RQ rb m (orR st (.error (why, place) : PR Unit)) w w' := by
  obtain ⟨c0, c1, c2, f1, f2⟩ := h.cells
  cases st with
  | some e =>
    have hne : (((e.1 : Nat) : Int) == 0) = false := by have := h.2 e rfl; rw [beq_eq_false_iff_ne]; omega
    simp only [Option.getD_some] at c1 c2
    go_enter Try.func45, Try.ntmps45
    go_wp2
    go_end0
    exact ⟨rfl, h, Kept.refl _ _⟩
  | none =>
    simp only [Option.getD_none] at c1 c2
    have hb := h.1
    have k1 : Kept (fun k => k = rb) w ((w.setCell ⟨rb, 1, none⟩ (.int .i64 (why : Int))).setCell ⟨rb, 2, none⟩ (.int .i64 (place : Int))) := Kept.setCell (S := fun k => k = rb) (Kept.setCell (S := fun k => k = rb) (Kept.refl _ w) (p := ⟨rb, 1, none⟩) (fun _ => rfl) _) (p := ⟨rb, 2, none⟩) (fun _ => rfl) _
    have b1 := heap_setCell_same w rb 1 _ _ (.int .i64 (why : Int)) hb
    have b2 := heap_setCell_same _ rb 2 _ _ (.int .i64 (place : Int)) b1
    go_enter Try.func45, Try.ntmps45
    go_wp2
    go_end0
    refine ⟨rfl, ⟨by simpa [orR] using b2, fun e he => ?_⟩, k1⟩
    simp only [orR, Option.some.injEq] at he
    subst he
    exact hy
set_option maxRecDepth 1000000 in
theorem r6atom (t : Tr) (kv : Value) (w : World) : Calls Try.prog 44 #[trv t kv] w (BoolB (decide (t.kind = 3)) w) := by
  have hb : Below w.heap.size w (w.alloc (.cells #[.int .i64 (t.kind : Int), .int .i64 (t.place : Int), .string (str t.text), kv] 43)) := (Below.refl _ w).alloc (Nat.le_refl _) _
  have he : ((t.kind : Int) == 3) = decide (t.kind = 3) := by by_cases h : t.kind = 3 <;> simp [h]; omega
  unfold trv
  go_enter Try.func44, Try.ntmps44
  go_wp2
  go_ret
  exact ⟨by rw [← he]; rfl, hb⟩
set_option maxRecDepth 1000000 in
theorem r6open (t : Tr) (kv : Value) (w : World) : Calls Try.prog 43 #[trv t kv] w (BoolB (decide (t.kind = 1)) w) := by
  have hb : Below w.heap.size w (w.alloc (.cells #[.int .i64 (t.kind : Int), .int .i64 (t.place : Int), .string (str t.text), kv] 43)) := (Below.refl _ w).alloc (Nat.le_refl _) _
  have he : ((t.kind : Int) == 1) = decide (t.kind = 1) := by by_cases h : t.kind = 1 <;> simp [h]; omega
  unfold trv
  go_enter Try.func43, Try.ntmps43
  go_wp2
  go_ret
  exact ⟨by rw [← he]; rfl, hb⟩
end Go.Proofs.Ytcokihblicgbpaa

namespace Go.Proofs.Ytcokihblicgbpaa
open Go.RowKit

theorem append_strs {w : World} {ops : Array Oper} {rest : List Oper} {o : Oper} {a : Act} {Q : Exit → Act → World → Prop} (hgd : o.guard = none) (s x : Operand)
    (ho : o.op = .call { callee := .builtin .append, args := #[s, x], argTypes := #[30, 30] })
    (B : Nat) (v : Value) (acc : List (List UInt8)) (hs : a.eval s = v) (hown : w.ownsRow B 9 1 v acc.length (sc acc))
    (ad : Addr) (c : Nat) (ns : List (List UInt8)) (hx : a.eval x = .slice (some ad) ns.length c) (hnews : ∀ j u, (sc ns)[j]? = some u → w.cell? (ad.add j) = some u)
    (hlen : acc.length + ns.length ≤ 1000000) (hB : B ≤ w.heap.size)
    (h : ∀ v' w', w'.ownsRow B 9 1 v' (acc ++ ns).length (sc (acc ++ ns)) → w.grownBy w' v.ownBlock → wpList Try.prog ops Q rest (a.put o.dst v') w') :
    wpList Try.prog ops Q (o :: rest) a w := by
  obtain ⟨i, z, hi, hz, h1, h2, h3⟩ := info_z infoS
  refine wpList_append_own w hgd s x 30 ho B 9 i z 1 16 Try.underlying30 hi hz h1 h2 h3 (by decide) v acc.length (sc acc) hs hown ad ns.length c (sc ns) hx (by simp [sc]) hnews (fun u hu => ?_) (by unfold maxLen; omega) (by omega) hB ?_
  · simp only [sc, List.mem_map] at hu
    obtain ⟨y, _, rfl⟩ := hu
    rfl
  · intro v' w' q1 q2 _
    refine h v' w' ?_ q2
    have e : sc (acc ++ ns) = sc acc ++ sc ns := by simp [sc]
    rw [e, List.length_append]
    exact q1
theorem StrRow.atR {w : World} {v : Value} {xs : List (List UInt8)} (h : StrRow w v xs) (i : Nat) (hi : i < xs.length) : ∃ bk o c, v = .slice (some ⟨bk, o, none⟩) xs.length c ∧ w.cell? ⟨bk, o + i, none⟩ = some (.string (str xs[i])) := by
  rcases h with ⟨rfl, _⟩ | ⟨bk, o, c, h1, _, _, h3⟩
  · simp at hi
  · exact ⟨bk, o, c, h1, h3 i _ (List.getElem?_eq_getElem hi)⟩
theorem contains_at (l : List (List UInt8)) (s : List UInt8) (k : Nat) (h : k < l.length) : (l.drop k).contains s = (decide (l[k] = s) || (l.drop (k + 1)).contains s) := by
  rw [List.drop_eq_getElem_cons h, List.contains_cons]
  congr 1
  by_cases e : l[k] = s
  · simp [e]
  · simp [e]
    exact fun h => e h.symm
def moreL : List (List UInt8) := wordsL.drop 13
theorem wordsL_is : wordsL = opsL ++ moreL := rfl
set_option maxHeartbeats 1000000 in
set_option maxRecDepth 1000000 in
theorem r6word (s : List UInt8) (w : World) : Calls Try.prog 70 #[.string (str s)] w (BoolB (isKey s) w) := by
  have hO : Calls Try.prog 83 #[] w fun e w' => e = .returned (.slice (some ⟨w.heap.size, 0, none⟩) 13 13) ∧ w' = w.alloc (.cells (sc opsL).toArray 9) := by
    go_enter Try.func83, Try.ntmps83
    go_wp2
    go_ret
    exact ⟨rfl, rfl⟩
  have hown : (w.alloc (.cells (sc opsL).toArray 9)).ownsRow w.heap.size 9 1 (.slice (some ⟨w.heap.size, 0, none⟩) 13 13) opsL.length (sc opsL) := by
    have := World.ownsRow_lit (e := 9) (size := 1) (base := w.heap.size) w (sc opsL).toArray 13 (Nat.le_refl _) (by decide) (by decide)
    exact this
  have hb0 : Below w.heap.size w (w.alloc (.cells (sc opsL).toArray 9)) := (Below.refl _ _).alloc (Nat.le_refl _) _
  have hsrc : ∀ j u, (sc moreL)[j]? = some u → ((w.alloc (.cells (sc opsL).toArray 9)).alloc (.cells (sc moreL).toArray 9)).cell? ((⟨w.heap.size + 1, 0, none⟩ : Addr).add j) = some u := by
    have := cells_new (w.alloc (.cells (sc opsL).toArray 9)) (sc moreL) 9
    simpa using this
  go_enter Try.func70, Try.ntmps70
  go_wp2_with fail
  refine hO.mono ?_
  rintro e w1 ⟨rfl, rfl⟩
  clear hO
  go_wp2_with (at_builtin; refine append_strs rfl (.tmp 5) (.tmp 6) rfl w.heap.size _ opsL rfl (hown.alloc _) _ _ moreL rfl ?src ?len ?hB ?next)
  case src => exact hsrc
  case len => decide
  case hB => simp; omega
  case next =>
    intro v' w2 ho hg
    have hb2 : Below w.heap.size w w2 := below_grown (hown.alloc _) (by simp; omega) (hb0.alloc (by simp) _) hg
    have hr := strRow_own ho
    rw [← wordsL_is] at hr
    obtain ⟨va, vc, rfl⟩ := hr.shape
    have HR := hidden hr
    have hl : wordsL.length ≤ 100 := by decide
    clear ho hg hr hown hb0
    have hkey : Hid (isKey s = wordsL.contains s) := rfl
    generalize wordsL = ws at *
    go_wp2
    go_loopg [4] ws.length (fun g i wr => ∃ (k : Nat), g + k = ws.length ∧ i = .int .i64 (k : Int) ∧ Hid (ws.contains s = (ws.drop k).contains s) ∧ wr = w2)
    case atStart => exact ⟨0, by omega, rfl, by rw [hid_iff]; rfl, rfl⟩
    case round =>
      obtain ⟨k, hg, rfl, hq, rfl⟩ := hrel
      by_cases hk : k < ws.length
      · obtain ⟨bk, o, c, e1, q1⟩ := HR.out.atR k hk
        simp only [Value.slice.injEq, true_and] at e1
        obtain ⟨rfl, rfl⟩ := e1
        have hki : (k : Int) < (ws.length : Int) := by omega
        have hst := contains_at ws s k hk
        have he := eq_is ws[k] s
        generalize ws[k] = x at *
        by_cases hx : x = s
        · rw [decide_eq_true hx] at he hst
          have HE : Hid (ws.contains s = true) := by rw [hid_iff, hq.out, hst]; rfl
          clear hq hst hx
          go_wp2
          go_ret
          exact ⟨by rw [hkey.out, HE.out]; rfl, hb2⟩
        · rw [decide_eq_false hx] at he hst
          have HE : Hid (ws.contains s = (ws.drop (k + 1)).contains s) := by rw [hid_iff, hq.out, hst]; rfl
          clear hq hst hx
          go_wp2
          go_roundg (ws.length - (k + 1))
          case measure => omega
          case rel => exact ⟨k + 1, by omega, by go_num, HE, rfl⟩
      · have hki : ¬ (k : Int) < (ws.length : Int) := by omega
        have HE : Hid (ws.contains s = false) := by rw [hid_iff, hq.out, List.drop_of_length_le (by omega)]; rfl
        clear hq
        go_wp2
        go_ret
        exact ⟨by rw [hkey.out, HE.out]; rfl, hb2⟩
set_option maxHeartbeats 1000000 in
set_option maxRecDepth 1000000 in
theorem r6op (s : List UInt8) (w : World) : Calls Try.prog 69 #[.string (str s)] w fun e w' => (∃ i : Int, e = .returned (.int .i64 i) ∧ decide (0 ≤ i) = isOp s) ∧ Below w.heap.size w w' := by
  have hO : Calls Try.prog 83 #[] w fun e w' => e = .returned (.slice (some ⟨w.heap.size, 0, none⟩) 13 13) ∧ w' = w.alloc (.cells (sc opsL).toArray 9) := by
    go_enter Try.func83, Try.ntmps83
    go_wp2
    go_ret
    exact ⟨rfl, rfl⟩
  have hown : (w.alloc (.cells (sc opsL).toArray 9)).ownsRow w.heap.size 9 1 (.slice (some ⟨w.heap.size, 0, none⟩) 13 13) opsL.length (sc opsL) := by
    have := World.ownsRow_lit (e := 9) (size := 1) (base := w.heap.size) w (sc opsL).toArray 13 (Nat.le_refl _) (by decide) (by decide)
    exact this
  have hb2 : Below w.heap.size w (w.alloc (.cells (sc opsL).toArray 9)) := (Below.refl _ _).alloc (Nat.le_refl _) _
  have hr := strRow_own hown
  rw [show (13 : Nat) = opsL.length from rfl] at hr hO
  have HR := hidden hr
  have hl : opsL.length ≤ 100 := by decide
  go_enter Try.func69, Try.ntmps69
  go_wp2_with fail
  refine hO.mono ?_
  rintro e w1 ⟨rfl, rfl⟩
  clear hO hown hr
  have hkey : Hid (isOp s = opsL.contains s) := rfl
  generalize w.alloc (.cells (sc opsL).toArray 9) = w2 at *
  generalize opsL = ws at *
  go_wp2
  go_loopg [4] ws.length (fun g i wr => ∃ (k : Nat), g + k = ws.length ∧ i = .int .i64 (k : Int) ∧ Hid (ws.contains s = (ws.drop k).contains s) ∧ wr = w2)
  case atStart => exact ⟨0, by omega, rfl, by rw [hid_iff]; rfl, rfl⟩
  case round =>
    obtain ⟨k, hg, rfl, hq, rfl⟩ := hrel
    by_cases hk : k < ws.length
    · obtain ⟨bk, o, c, e1, q1⟩ := HR.out.atR k hk
      simp only [Value.slice.injEq, Option.some.injEq, Addr.mk.injEq, and_true, true_and] at e1
      obtain ⟨⟨rfl, rfl⟩, rfl⟩ := e1
      rw [Nat.zero_add] at q1
      have hki : (k : Int) < (ws.length : Int) := by omega
      have hst := contains_at ws s k hk
      have he := eq_is ws[k] s
      generalize ws[k] = x at *
      by_cases hx : x = s
      · rw [decide_eq_true hx] at he hst
        have HE : Hid (ws.contains s = true) := by rw [hid_iff, hq.out, hst]; rfl
        clear hq hst hx
        go_wp2
        go_ret
        exact ⟨⟨(k : Int), rfl, by rw [hkey.out, HE.out]; exact decide_eq_true (by omega)⟩, hb2⟩
      · rw [decide_eq_false hx] at he hst
        have HE : Hid (ws.contains s = (ws.drop (k + 1)).contains s) := by rw [hid_iff, hq.out, hst]; rfl
        clear hq hst hx
        go_wp2
        go_roundg (ws.length - (k + 1))
        case measure => omega
        case rel => exact ⟨k + 1, by omega, by go_num, HE, rfl⟩
    · have hki : ¬ (k : Int) < (ws.length : Int) := by omega
      have HE : Hid (ws.contains s = false) := by rw [hid_iff, hq.out, List.drop_of_length_le (by omega)]; rfl
      clear hq
      go_wp2
      go_ret
      exact ⟨⟨-1, rfl, by rw [hkey.out, HE.out]; rfl⟩, hb2⟩
end Go.Proofs.Ytcokihblicgbpaa

namespace Go.Proofs.Ytcokihblicgbpaa
open Go.RowKit

def NE (z : Int) (w : World) (e : Ending) (w' : World) : Prop := ∃ k : Nat, e = .returned (.tuple #[.int .i64 z, .int .i64 (k : Int)]) ∧ w' = w
/-- How long, and of which kind, the type is with which a text begins. -/
def OneE (l : List UInt8) (w : World) (e : Ending) (w' : World) : Prop := ∃ k : Nat, e = .returned (.tuple #[.int .i64 (oneN l : Int), .int .i64 (k : Int)]) ∧ (rOne l ≠ none → k = kindR l) ∧ w' = w
end Go.Proofs.Ytcokihblicgbpaa

namespace Go.Proofs.Ytcokihblicgbpaa
open Go.RowKit

end Go.Proofs.Ytcokihblicgbpaa

namespace Go.Proofs.Ytcokihblicgbpaa
open Go.RowKit

theorem oneE_no {l : List UInt8} {z k : Int} {w w' : World} (h : rOne l = none) (hz : z = 0) (hk : k = 0) (hw : w' = w) : OneE l w (.returned (.tuple #[.int .i64 z, .int .i64 k])) w' := by
  subst hz hk
  exact ⟨0, by rw [oneN_none h]; rfl, fun hh => absurd h hh, hw⟩
theorem oneE_yes {l : List UInt8} {z k : Int} {n j : Nat} {w w' : World} (h : rOne l = some (l.drop n)) (hn : n ≤ l.length) (hz : z = (n : Int)) (hj : kindR l = j) (hk : k = (j : Int)) (hw : w' = w) : OneE l w (.returned (.tuple #[.int .i64 z, .int .i64 k])) w' := by
  subst hz hk
  exact ⟨j, by rw [oneN_at h hn], fun _ => hj.symm, hw⟩
def shutA : List UInt8 → Option (List UInt8)
  | [] => none
  | d :: y => if d.toNat = 93 then some y else none
theorem rOne_arr' {c : UInt8} {r x : List UInt8} (h : c.toNat = 91) (hx : rOne r = some x) : rOne (c :: r) = shutA x := by
  rw [rOne_arr r h, hx, Option.bind_some]
  cases x <;> rfl
theorem rOne_arr0 {c : UInt8} {r : List UInt8} (h : c.toNat = 91) (hx : rOne r = none) : rOne (c :: r) = none := by
  rw [rOne_arr r h, hx, Option.bind_none]
theorem ext_take (s : ByteArray) (k : Nat) : (s.extract 0 k).data.toList = s.data.toList.take k := by rw [str_take, str_data]
theorem ext_mid (s : ByteArray) (a b : Nat) : (s.extract a b).data.toList = (s.data.toList.drop a).take (b - a) := by rw [extract_str, str_data]
theorem take_all_next {l : List UInt8} {k : Nat} {c : UInt8} {r : List UInt8} (h : (l.take k).all isLetter = true) (hd : l.drop k = c :: r) (hc : isLetter c = true) : (l.take (k + 1)).all isLetter = true := by
  rw [List.take_add, hd, List.all_append, h]
  simp [hc]

end Go.Proofs.Ytcokihblicgbpaa

namespace Go.Proofs.Ytcokihblicgbpaa
open Go.RowKit

/-- Of which kind a type is; 0: it is none. -/
def kindV (l : List UInt8) : Nat := if rightR l = true then kindR l else 0
theorem kind_arr (l : List UInt8) : kindV l = 2 ↔ isArr l = true := by
  rw [kindV, isArr, Bool.and_eq_true]
  by_cases h : rightR l = true
  · rw [if_pos h, kindR]
    by_cases h2 : isHead 91 l = true
    · rw [if_pos h2]; exact ⟨fun _ => ⟨h, h2⟩, fun _ => rfl⟩
    · rw [if_neg h2]
      refine ⟨fun hh => ?_, fun hh => absurd hh.2 h2⟩
      split at hh
      · omega
      · split at hh <;> omega
  · rw [if_neg h]; exact ⟨fun hh => by omega, fun hh => absurd hh.1 h⟩
theorem kind_fn (l : List UInt8) : kindV l = 3 ↔ isFn l = true := by
  rw [kindV, isFn, Bool.and_eq_true]
  by_cases h : rightR l = true
  · rw [if_pos h, kindR]
    by_cases h2 : isHead 91 l = true
    · rw [if_pos h2]
      refine ⟨fun hh => by omega, fun hh => ?_⟩
      obtain ⟨d, y, rfl, hd⟩ := isHead_pos h2
      rw [isHead_cons] at hh
      have := of_decide_eq_true hh.2
      omega
    · rw [if_neg h2]
      by_cases h3 : isHead 40 l = true
      · rw [if_pos h3]; exact ⟨fun _ => ⟨h, h3⟩, fun _ => rfl⟩
      · rw [if_neg h3]
        refine ⟨fun hh => ?_, fun hh => absurd hh.2 h3⟩
        split at hh <;> omega
  · rw [if_neg h]; exact ⟨fun hh => by omega, fun hh => absurd hh.1 h⟩
theorem kind_nm (l : List UInt8) : kindV l = 4 ↔ namedR l = true := by
  rw [← kind_named, kindV]
  by_cases h : rightR l = true
  · rw [if_pos h]; exact ⟨fun hh => ⟨h, hh⟩, fun hh => hh.2⟩
  · rw [if_neg h]; exact ⟨fun hh => by omega, fun hh => absurd hh.1 h⟩

/-- The document's Elem. -/
def RElemE (l : List UInt8) (w : World) (e : Ending) (w' : World) : Prop :=
  e = .returned (if isArr l = true then .tuple #[.string (str (elemR l)), .bool true] else .tuple #[.string (str []), .bool false]) ∧ w' = w
/-- The document's Named. -/
def RNamedE (l : List UInt8) (w : World) (e : Ending) (w' : World) : Prop :=
  e = .returned (if namedR l = true then .tuple #[.string (str (aheadR l)), .string (str (behindR l)), .bool true] else .tuple #[.string (str []), .string (str []), .bool false]) ∧ ∃ n, w' = w.drewN n
theorem ahead_at {l : List UInt8} {k : Nat} {r : List UInt8} (h : (l.take k).all notDot = true) (hd : l.drop k = 46 :: r) : aheadR l = l.take k := by
  conv => lhs; rw [← List.take_append_drop k l]
  rw [aheadR, List.takeWhile_append_of_pos (List.all_eq_true.1 h), hd]
  simp [notDot]
theorem dots_next {l : List UInt8} {k : Nat} {c : UInt8} {r : List UInt8} (h : (l.take k).all notDot = true) (hd : l.drop k = c :: r) (hc : c.toNat ≠ 46) : (l.take (k + 1)).all notDot = true := by
  rw [List.take_add, hd, List.all_append, h]
  simp [notDot, hc]
/-- Parameters so far. -/
theorem join_next : ∀ (ps : List (List UInt8)) (x : List UInt8), joinR (ps ++ [x]) = (if 0 < ps.length then joinR ps ++ [44] else []) ++ x
  | [], x => by simp [joinR_one]
  | [p], x => by simp [joinR_one, joinR_two]
  | p :: q :: r, x => by
    have := join_next (q :: r) x
    rw [List.cons_append, List.cons_append, joinR_two, ← List.cons_append, this]
    simp [joinR_two]
set_option maxHeartbeats 1000000 in
set_option maxRecDepth 1000000 in
theorem refFunc (v : Value) (ps : List (List UInt8)) (r : List UInt8) (w : World) (hv : StrRow w v ps) (hn : ps.length ≤ 100000) (hl : ∀ y ∈ ps, y.length ≤ 1000) (hr : r.length ≤ 1000) :
    Calls Try.prog 91 #[v, .string (str r)] w (Pu (.string (str (funcR ps r))) w) := by
  obtain ⟨va, vc, rfl⟩ := hv.shape
  have H := hidden hv
  have HL := hidden hl
  clear hv hl
  go_enter Try.func91, Try.ntmps91
  go_wp2
  go_loopg [5, 6] ps.length (fun g t i wr => ∃ (k : Nat) (x : List UInt8), g + k = ps.length ∧ i = .int .i64 (k : Int) ∧ t = .string (str x) ∧ x.length ≤ 1 + 1001 * k ∧ Hid (x = 40 :: joinR (ps.take k)) ∧ wr = w)
  case atStart => exact ⟨0, [40], by omega, rfl, rfl, by simp, by rw [hid_iff]; rfl, rfl⟩
  case round =>
    obtain ⟨k, x, hg, rfl, rfl, hx, HX, rfl⟩ := hrel
    have hxs : (str x).size = x.length := rfl
    by_cases hk : k < ps.length
    · obtain ⟨bk, o, c, e1, q1⟩ := H.out.at k hk
      simp only [Value.slice.injEq, true_and] at e1
      obtain ⟨rfl, rfl⟩ := e1
      have hki : (k : Int) < (ps.length : Int) := by omega
      have hpl := HL.out ps[k] (List.getElem_mem hk)
      have hps : (str ps[k]).size = ps[k].length := rfl
      have htk : ps.take (k + 1) = ps.take k ++ [ps[k]] := List.take_succ_eq_append_getElem hk
      have htl : (ps.take k).length = k := by rw [List.length_take]; omega
      have hjn := join_next (ps.take k) ps[k]
      rw [← htk, htl] at hjn
      by_cases h0 : 0 < k
      · have h0' : (0 : Int) < (k : Int) := by omega
        rw [if_pos h0] at hjn
        have HY : Hid (str x ++ ⟨#[44]⟩ ++ str ps[k] = str (40 :: joinR (ps.take (k + 1)))) := by
          rw [hid_iff, show (⟨#[44]⟩ : ByteArray) = str [44] from rfl, str_append, str_append, HX.out, hjn]
          simp
        have HYL : Hid ((40 :: joinR (ps.take (k + 1))).length ≤ 1 + 1001 * (k + 1)) := by
          rw [hid_iff, hjn]
          rw [HX.out] at hx
          simp at hx ⊢
          omega
        clear hjn htk htl HX HL
        generalize ps[k] = y at *
        go_wp2
        go_roundg (ps.length - (k + 1))
        case measure => omega
        case rel => exact ⟨k + 1, _, by omega, by go_num, by rw [← HY.out], HYL.out, by rw [hid_iff], rfl⟩
      · have h0' : ¬ (0 : Int) < (k : Int) := by omega
        rw [if_neg h0, List.nil_append] at hjn
        have HY : Hid (str x ++ str ps[k] = str (40 :: joinR (ps.take (k + 1)))) := by
          rw [hid_iff, str_append, HX.out, hjn, show ps.take k = [] from List.eq_nil_of_length_eq_zero (by omega), joinR_nil]
          simp
        have HYL : Hid ((40 :: joinR (ps.take (k + 1))).length ≤ 1 + 1001 * (k + 1)) := by
          rw [hid_iff, hjn]
          simp
          omega
        clear hjn htk htl HX HL
        generalize ps[k] = y at *
        go_wp2
        go_roundg (ps.length - (k + 1))
        case measure => omega
        case rel => exact ⟨k + 1, _, by omega, by go_num, by rw [← HY.out], HYL.out, by rw [hid_iff], rfl⟩
    · have hki : ¬ (k : Int) < (ps.length : Int) := by omega
      have hrs : (str r).size = r.length := rfl
      have HE : Hid (str x ++ ⟨#[41]⟩ ++ str r = str (funcR ps r)) := by
        rw [hid_iff, show (⟨#[41]⟩ : ByteArray) = str [41] from rfl, str_append, str_append, HX.out, List.take_of_length_le (by omega), funcR]
        simp
      clear HX HL
      go_wp2
      go_ret
      exact ⟨by rw [← HE.out]; rfl, rfl⟩

/-- A text, if it is not too long. -/
def ShortE (x : List UInt8) (z : Int) (w : World) (e : Ending) (w' : World) : Prop :=
  e = .returned (if x.length ≤ 200 then .tuple #[.string (str x), .int .i64 0, .int .i64 0] else .tuple #[.string (str []), .int .i64 3, .int .i64 z]) ∧ w' = w
set_option maxRecDepth 1000000 in
theorem refShort (x : List UInt8) (z : Int) (w : World) : Calls Try.prog 90 #[.string (str x), .int .i64 z] w (ShortE x z w) := by
  have hxs : (str x).size = x.length := rfl
  by_cases h : x.length ≤ 200
  · have h' : ¬ (200 : Int) < (x.length : Int) := by omega
    have H := hidden h
    clear h
    go_enter Try.func90, Try.ntmps90
    go_wp2
    go_ret3
    exact ⟨by rw [if_pos H.out]; rfl, rfl⟩
  · have h' : (200 : Int) < (x.length : Int) := by omega
    have H := hidden h
    clear h
    go_enter Try.func90, Try.ntmps90
    go_wp2
    go_ret3
    exact ⟨by rw [if_neg H.out]; rfl, rfl⟩
end Go.Proofs.Ytcokihblicgbpaa

namespace Go.Proofs.Ytcokihblicgbpaa
open Go.RowKit

theorem one_first {c : UInt8} {r x : List UInt8} (h : one (c :: r) = some x) : c.toNat ≠ 41 ∧ c.toNat ≠ 44 := by
  have key : isSign c = true → c.toNat ≠ 91 → c.toNat ≠ 40 → False := by
    intro hs h1 h2
    have hw : wordR (c :: r) = [] := by simp [wordR, notSign, hs]
    rw [one_word r h1 h2, hw, wordOk_nil] at h
    simp at h
  exact ⟨fun e => key (sign_of (by omega)) (by omega) (by omega), fun e => key (sign_of (by omega)) (by omega) (by omega)⟩
/-- Where the reading of parameters stands. -/
def PtA (L : List UInt8) (acc : List (List UInt8)) (p : Nat) : Prop := ∃ j, Goes j (L.drop p) ∧ partsR L = (acc ++ (psQ (L.drop p)).1, (psQ (L.drop p)).2)
def PtB (L : List UInt8) (acc : List (List UInt8)) (p : Nat) : Prop := ∃ c r, L.drop p = c :: r ∧ ((c.toNat = 44 ∧ PtA L acc (p + 1)) ∨ (c.toNat = 41 ∧ partsR L = (acc, r)))
theorem pt_start {l : List UInt8} (h : isFn l = true) : PtA l [] 1 ∨ PtB l [] 1 := by
  rw [isFn, Bool.and_eq_true] at h
  have h1 := rightR_one h.1
  obtain ⟨c, y, rfl, hc⟩ := isHead_pos h.2
  by_cases h41 : isHead 41 y = true
  · obtain ⟨d, r, rfl, hd⟩ := isHead_pos h41
    exact .inr ⟨d, r, rfl, .inr ⟨hd, by rw [partsR, List.tail_cons, if_pos h41]; rfl⟩⟩
  · exact .inl ⟨0, goes_first hc h1 (by simpa using h41), by rw [partsR, List.tail_cons, if_neg h41]; rfl⟩
/-- One parameter more is read. -/
theorem pt_param {L : List UInt8} {acc : List (List UInt8)} {p : Nat} (h : PtA L acc p) : ∃ c r m, one (L.drop p) = some (c :: r) ∧ rOne (L.drop p) = some (c :: r) ∧ m = oneN (L.drop p) ∧ 0 < m ∧ p + m < L.length ∧ L.drop (p + m) = c :: r ∧ PtB L (acc ++ [(L.drop p).take m]) (p + m) := by
  obtain ⟨j, hg, hp⟩ := h
  obtain ⟨c, r, h1, h2⟩ := goes_next hg
  have h3 := rOne_of h1
  obtain ⟨m1, m2, m3⟩ := oneN_some h3
  have hlen := congrArg List.length m3
  rw [List.length_drop, List.length_cons] at hlen
  rw [List.drop_drop] at m3
  have hl2 := m2
  rw [List.length_drop] at hl2 hlen
  refine ⟨c, r, _, h1, h3, rfl, m1, by omega, m3.symm, c, r, m3.symm, ?_⟩
  have hq := psQ_some h1
  have htk : (L.drop p).take ((L.drop p).length - (r.length + 1)) = (L.drop p).take (oneN (L.drop p)) := by
    congr 1
    rw [List.length_drop]
    omega
  have hr : L.drop (p + oneN (L.drop p) + 1) = r := by rw [← List.drop_drop, ← m3]; rfl
  rw [htk] at hq
  rcases h2 with ⟨hc, _⟩ | ⟨hc, _, hg2⟩
  · rw [if_neg (by omega)] at hq
    exact .inr ⟨hc, by rw [hp, hq]⟩
  · rw [if_pos hc] at hq
    refine .inl ⟨hc, j + 1, by rw [hr]; exact hg2, ?_⟩
    rw [hp, hq, hr]
    simp

end Go.Proofs.Ytcokihblicgbpaa

namespace Go.Proofs.Ytcokihblicgbpaa
open Go.RowKit

/-- append of texts onto a row of the call's own. -/
theorem append_srow {w : World} {ops : Array Oper} {rest : List Oper} {o : Oper} {a : Act} {Q : Exit → Act → World → Prop} (hgd : o.guard = none) (s x : Operand)
    (ho : o.op = .call { callee := .builtin .append, args := #[s, x], argTypes := #[30, 30] })
    (B : Nat) (v : Value) (acc : List (List UInt8)) (hs : a.eval s = v) (hown : w.ownsRow B 9 1 v acc.length (sc acc))
    (xv : Value) (xs : List (List UInt8)) (hx : a.eval x = xv) (hxs : StrRow w xv xs)
    (hlen : acc.length + xs.length ≤ 8192) (hB : B ≤ w.heap.size)
    (h : ∀ v' w', w'.ownsRow B 9 1 v' (acc ++ xs).length (sc (acc ++ xs)) → w.grownBy w' v.ownBlock → wpList Try.prog ops Q rest (a.put o.dst v') w') :
    wpList Try.prog ops Q (o :: rest) a w := by
  obtain ⟨i, z, hi, hz, h1, h2, h3⟩ := info_z infoS
  have key : ∀ ad c, xv = .slice (some ad) xs.length c → (∀ j u, (sc xs)[j]? = some u → w.cell? (ad.add j) = some u) → wpList Try.prog ops Q (o :: rest) a w := by
    intro ad c he hc
    refine wpList_append_own w hgd s x 30 ho B 9 i z 1 16 Try.underlying30 hi hz h1 h2 h3 (by decide) v acc.length (sc acc) hs hown ad xs.length c (sc xs) (by rw [hx, he]) (by rw [sc_length]; omega) hc (fun u hu => ?_) (by unfold maxLen; omega) (by omega) hB ?_
    · obtain ⟨_, _, rfl⟩ := List.mem_map.1 hu
      rfl
    intro v' w' k1 k2 k3
    rw [← sc_append] at k1
    exact h v' w' (by rw [List.length_append]; exact k1) k2
  rcases hxs with ⟨rfl, ad, c, rfl⟩ | ⟨bk, of, c, rfl, _, _, h4⟩
  · cases ad with
    | none =>
      refine wpList_plain hgd fun K hK => ?_
      have hrun : (Builtin.append_ #[30, 30] o.type #[v, .slice none 0 c]).run Try.prog w = .ok v w := by
        rcases hown.2 with ⟨rfl, h0⟩ | ⟨g, cap, cur, rfl, _, _, hnc, _⟩
        · simp [Builtin.append_, run_underlying Try.underlying30, sizeOf, typeInfo, hi, Builtin.lenOf, Builtin.firstCells]
        · simp [Builtin.append_, run_underlying Try.underlying30, sizeOf, typeInfo, hi, Builtin.lenOf, Builtin.firstCells, hnc, storeCells]
      unfold Oper.wp
      simp [execOp, ho, resolve, invoke, builtin, hs, hx, hrun, Result.andThen]
      exact hK _ _ (h v w (by rw [List.append_nil]; exact hown) ⟨rfl, rfl, rfl, Nat.le_refl _, fun _ _ _ => rfl⟩)
    | some ad => exact key ad c rfl (fun j u hj => by simp [sc] at hj)
  · refine key ⟨bk, of, none⟩ c rfl (fun j u hj => ?_)
    rw [sc, List.getElem?_map] at hj
    obtain ⟨y, hy, rfl⟩ := Option.map_eq_some_iff.1 hj
    have : (⟨bk, of, none⟩ : Addr).add j = ⟨bk, of + j, none⟩ := by unfold Addr.add; split <;> simp_all
    rw [this]
    exact h4 j y hy

/-! What follows of names, with no program. -/
theorem nwF_length : ∀ (f : Nat) (l : List UInt8), (nwF f l).length ≤ l.length
  | 0, l => by simp [nwF]
  | f + 1, [] => by simp [nwF, wordR, namedR_nil]
  | f + 1, c :: l => by
    rw [nwF, List.length_append]
    have h1 : (if namedR (wordR (c :: l)) then [wordR (c :: l)] else []).length ≤ 1 := by split <;> simp
    have h3 : (c :: l).length = l.length + 1 := rfl
    by_cases h2 : (c :: l).length ≤ (wordR (c :: l)).length + 1
    · rw [if_pos h2, List.length_nil]; omega
    · rw [if_neg h2]
      have := nwF_length f ((c :: l).drop ((wordR (c :: l)).length + 1))
      rw [List.length_drop] at this
      omega
theorem nw_cons {c : UInt8} (l : List UInt8) (h : isSign c = true) : nw (c :: l) = nw l := by
  have := nw_append 0 [] l c (by simp) h
  rw [List.nil_append, nw_nil, List.nil_append] at this
  exact this
theorem nw_two {a l : List UInt8} {c : UInt8} (h : isSign c = true) : nw (a ++ c :: l) = nw a ++ nw l := nw_append _ a l c (Nat.le_refl _) h
theorem nw_arr (x : List UInt8) : nw (arrR x) = nw x := by
  rw [arrR, nw_cons _ rfl, nw_two rfl, nw_nil, List.append_nil]
theorem nw_f (a b : List UInt8) : nw (funcR [a, b, a] (arrR b)) = nw a ++ (nw b ++ (nw a ++ nw b)) := by
  rw [funcR, joinR_two, joinR_two, joinR_one, nw_cons _ rfl]
  simp only [List.append_assoc, List.cons_append]
  rw [nw_two rfl, nw_two rfl, nw_two rfl, nw_arr]
theorem names_f {a b : List UInt8} (ha : one a = some []) (hb : one b = some []) (hl : (funcR [a, b, a] (arrR b)).length ≤ 200) : namesR (funcR [a, b, a] (arrR b)) = putsR [] (namesR a ++ namesR b) := by
  have hla : a.length ≤ 200 ∧ b.length ≤ 200 := by
    simp [funcR, joinR_two, joinR_one, arrR] at hl
    omega
  have hra : rightR a = true := by simp [rightR, hla.1, ha]
  have hrb : rightR b = true := by simp [rightR, hla.2, hb]
  have hrf : rightR (funcR [a, b, a] (arrR b)) = true := by
    rw [rightR, decide_eq_true hl, one_funcR (by intro x hx; simp at hx; rcases hx with rfl | rfl | rfl <;> assumption) (one_arrR hb) (by simp)]
    simp
  rw [namesR, if_pos hrf, namesR, if_pos hra, namesR, if_pos hrb, nw_f]
  refine onceR_eq (putsR_asc _ _ (by simp [Asc])) (fun x => ?_)
  rw [putsR_mem]
  simp only [List.mem_append, onceR_mem, List.not_mem_nil, false_or]
  constructor
  · rintro (h | h)
    · exact .inl h
    · exact .inr (.inl h)
  · rintro (h | h | h | h)
    · exact .inl h
    · exact .inr h
    · exact .inl h
    · exact .inr h
theorem names_arr {a : List UInt8} (ha : one a = some []) (hl : a.length ≤ 198) : namesR (arrR a) = namesR a := by
  have hra : rightR a = true := by simp [rightR, ha]; omega
  have hrf : rightR (arrR a) = true := by
    rw [rightR, one_arrR ha]
    simp [arrR]; omega
  rw [namesR, if_pos hrf, namesR, if_pos hra, nw_arr]
theorem putF_length (s : List UInt8) : ∀ (l : List (List UInt8)) (b : Bool), (putF s b l).length ≤ l.length + (if b then 0 else 1)
  | [], b => by cases b <;> simp [putF]
  | x :: r, b => by
    rw [putF, List.length_append, List.length_append, List.length_cons]
    have ih := putF_length s r
    cases b with
    | true =>
      have := ih true
      have h1 : (if x ≠ s then [x] else []).length ≤ 1 := by split <;> simp
      simp at this h1 ⊢
      omega
    | false =>
      have h1 : (if x ≠ s then [x] else []).length ≤ 1 := by split <;> simp
      by_cases h : s ≤ x
      · have := ih true
        simp [h] at this h1 ⊢
        omega
      · have := ih false
        simp [h] at this h1 ⊢
        omega
theorem putR_length (l : List (List UInt8)) (s : List UInt8) : (putR l s).length ≤ l.length + 1 := putF_length s l false
theorem putsR_length : ∀ (m l : List (List UInt8)), (putsR l m).length ≤ l.length + m.length
  | [], l => by simp [putsR]
  | s :: m, l => by
    have h1 := putsR_length m (putR l s)
    have h2 := putR_length l s
    unfold putsR at h1 ⊢
    rw [List.foldl_cons]
    simp
    omega
theorem puts_next {m l : List (List UInt8)} {k : Nat} (h : k < m.length) : putsR l (m.take (k + 1)) = putR (putsR l (m.take k)) m[k] := by
  unfold putsR
  rw [List.take_succ_eq_append_getElem h, List.foldl_append]
  rfl

/-! Names of functions' types. -/
theorem nw_join : ∀ (ps : List (List UInt8)) (r : List UInt8), nw (joinR ps ++ 41 :: r) = ps.flatMap nw ++ nw r
  | [], r => by rw [joinR_nil, List.nil_append, nw_cons _ rfl]; rfl
  | [p], r => by rw [joinR_one, nw_two rfl]; simp
  | p :: q :: ps, r => by
    rw [joinR_two, List.append_assoc, List.cons_append, nw_two rfl, nw_join (q :: ps) r]
    simp
theorem nw_fn (ps : List (List UInt8)) (r : List UInt8) : nw (funcR ps r) = ps.flatMap nw ++ nw r := by
  rw [funcR, nw_cons _ rfl, nw_join]
theorem join_mem_len : ∀ (ps : List (List UInt8)) (x : List UInt8), x ∈ ps → x.length ≤ (joinR ps).length
  | [], x, h => by cases h
  | [p], x, h => by simp at h; subst h; rw [joinR_one]; exact Nat.le_refl _
  | p :: q :: ps, x, h => by
    rw [joinR_two]
    simp only [List.mem_cons] at h
    rcases h with rfl | h
    · simp
    · have := join_mem_len (q :: ps) x (by simpa using h)
      simp at this ⊢
      omega
/-- A function's type in its parts. -/
theorem fn_text {l : List UInt8} (h : isFn l = true) : ∃ ps r, partsR l = (ps, r) ∧ l = funcR ps r ∧ (∀ x ∈ ps, one x = some []) ∧ one r = some [] ∧ ps.length ≤ 6 ∧ l.length ≤ 200 := by
  rw [isFn, Bool.and_eq_true] at h
  have hl := rightR_len h.1
  have h1 := rightR_one h.1
  obtain ⟨c, y, rfl, hc⟩ := isHead_pos h.2
  have hc' : c = 40 := UInt8.toNat_inj.1 hc
  by_cases h41 : isHead 41 y = true
  · obtain ⟨d, r, rfl, hd⟩ := isHead_pos h41
    have hd' : d = 41 := UInt8.toNat_inj.1 hd
    rw [one_fn0 r hc hd] at h1
    exact ⟨[], r, by rw [partsR, List.tail_cons, if_pos h41]; rfl, by rw [funcR, joinR_nil, hc', hd']; rfl, by simp, h1, by simp, hl⟩
  · obtain ⟨p, ps, r, e1, e2, e3, e4, e5⟩ := goes_text y.length 0 y (Nat.le_refl _) (by decide) (goes_first hc h1 (by simpa using h41))
    exact ⟨p :: ps, r, by rw [partsR, List.tail_cons, if_neg h41, e1], by rw [funcR, hc', ← e2], e3, e4, by simp; omega, hl⟩
theorem names_fn {l : List UInt8} {ps : List (List UInt8)} {r : List UInt8} (h : isFn l = true) (hp : partsR l = (ps, r)) : namesR l = putsR [] ((ps ++ [r]).flatMap namesR) ∧ (ps ++ [r]).length ≤ 7 ∧ ∀ x ∈ ps ++ [r], x.length < l.length := by
  obtain ⟨ps', r', e1, e2, e3, e4, e5, e6⟩ := fn_text h
  rw [hp] at e1
  cases e1
  have hlen : ∀ x ∈ ps ++ [r], x.length < l.length := by
    intro x hx
    simp only [List.mem_append, List.mem_singleton] at hx
    rw [e2, funcR]
    rcases hx with hx | rfl
    · have := join_mem_len ps x hx
      simp; omega
    · simp; omega
  refine ⟨?_, by simp; omega, hlen⟩
  have hri : ∀ x ∈ ps ++ [r], namesR x = onceR (nw x) := by
    intro x hx
    have h1 := hlen x hx
    have h2 : one x = some [] := by
      simp only [List.mem_append, List.mem_singleton] at hx
      rcases hx with hx | rfl
      · exact e3 x hx
      · exact e4
    rw [namesR, if_pos (by rw [rightR, h2]; simp; omega)]
  rw [isFn, Bool.and_eq_true] at h
  rw [namesR, if_pos h.1, e2, nw_fn]
  refine onceR_eq (putsR_asc _ _ (by simp [Asc])) (fun x => ?_)
  rw [putsR_mem]
  simp only [List.not_mem_nil, false_or, List.mem_flatMap, List.mem_append]
  constructor
  · rintro ⟨p, hp1, hp2⟩
    rw [hri p (by simpa using hp1), onceR_mem] at hp2
    rcases hp1 with hp1 | hp1
    · exact .inl ⟨p, hp1, hp2⟩
    · simp at hp1; subst hp1; exact .inr hp2
  · rintro (⟨p, hp1, hp2⟩ | hx)
    · exact ⟨p, .inl hp1, by rw [hri p (by simp [hp1]), onceR_mem]; exact hp2⟩
    · exact ⟨r, .inr (by simp), by rw [hri r (by simp), onceR_mem]; exact hx⟩
/-- An array's type. -/
theorem arr_text {l : List UInt8} (h : isArr l = true) : ∃ x, l = arrR x ∧ one x = some [] ∧ elemR l = x ∧ l.length ≤ 200 := by
  rw [isArr, Bool.and_eq_true] at h
  have hl := rightR_len h.1
  have h1 := rightR_one h.1
  obtain ⟨c, y, rfl, hc⟩ := isHead_pos h.2
  have hc' : c = 91 := UInt8.toNat_inj.1 hc
  rw [one_arr y hc] at h1
  obtain ⟨z, h2, h3⟩ := Option.bind_eq_some_iff.1 h1
  split at h3
  · cases h3
  · rename_i d t
    split at h3
    · rename_i hd
      simp only [Option.some.injEq] at h3
      subst h3
      have hd' : d = 93 := UInt8.toNat_inj.1 hd
      obtain ⟨x, _, e⟩ := one_suffix h2
      refine ⟨x, by rw [e, hc', hd', arrR], one_piece (r := [d]) (by rw [← e]; exact h2), ?_, hl⟩
      rw [e, elemR]
      simp
    · cases h3
theorem names_elem {l : List UInt8} (h : isArr l = true) : namesR l = namesR (elemR l) ∧ (elemR l).length < l.length := by
  obtain ⟨x, e, h1, h2, h3⟩ := arr_text h
  rw [h2]
  subst e
  have : (arrR x).length = x.length + 2 := by simp [arrR]
  exact ⟨names_arr h1 (by omega), by omega⟩
theorem wordR_all {l : List UInt8} (h : ∀ c ∈ l, notSign c = true) : wordR l = l := by
  have := word_stop (r := []) h (.inl rfl)
  rwa [List.append_nil] at this
theorem nw_word {l : List UInt8} (h : wordR l = l) : nw l = if namedR l = true then [l] else [] := by
  rw [nw_next, h, List.drop_eq_nil_of_le (by omega), nw_nil, List.append_nil]
theorem names_named {l : List UInt8} (h : namedR l = true) : namesR l = [l] := by
  have hr := ((kind_named l).2 h).1
  rw [namesR, if_pos hr]
  obtain ⟨a, b, e, ha, hb, _, _⟩ := named_split h
  have hw : wordR l = l := by
    refine wordR_all (fun c hc => ?_)
    rw [e] at hc
    simp only [List.mem_append, List.mem_cons] at hc
    rcases hc with hc | rfl | hc
    · exact letter_sign (value_all ha c hc)
    · rfl
    · exact letter_sign (big_all hb c hc)
  rw [nw_word hw, if_pos h]
  exact onceR_eq (by simp [Asc]) (fun x => Iff.rfl)
theorem names_none {l : List UInt8} (h1 : isArr l = false) (h2 : isFn l = false) (h3 : namedR l = false) : namesR l = [] := by
  rw [namesR]
  split
  · rename_i hr
    have ho := rightR_one hr
    cases l with
    | nil => rw [one_nil] at ho; cases ho
    | cons c y =>
      have c1 : c.toNat ≠ 91 := by intro e; rw [isArr, hr, isHead_cons, decide_eq_true e] at h1; cases h1
      have c2 : c.toNat ≠ 40 := by intro e; rw [isFn, hr, isHead_cons, decide_eq_true e] at h2; cases h2
      rw [one_word y c1 c2] at ho
      split at ho
      · simp only [Option.some.injEq] at ho
        have e := word_split (c :: y)
        rw [ho, List.append_nil] at e
        rw [nw_word e.symm, if_neg (by rw [h3]; decide)]
        exact onceR_eq (by simp [Asc]) (fun x => Iff.rfl)
      · cases ho
  · rfl
theorem puts_append (l a b : List (List UInt8)) : putsR l (a ++ b) = putsR (putsR l a) b := by simp [putsR]
end Go.Proofs.Ytcokihblicgbpaa

namespace Go.Proofs.Ytcokihblicgbpaa
open Go.RowKit

end Go.Proofs.Ytcokihblicgbpaa

namespace Go.Proofs.Ytcokihblicgbpaa
open Go.RowKit

theorem strRow_drew {w : World} {v : Value} {xs : List (List UInt8)} (h : StrRow w v xs) (n : Nat) : StrRow (w.drewN n) v xs := h

end Go.Proofs.Ytcokihblicgbpaa
