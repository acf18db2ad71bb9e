/-
  The package's small functions: tests of bytes, escapes.
-/
import Derived.WalkKit
import Derived.WalkSpells
import Derived.WalkLawsBesides
import Derived.WalkMore
import Derived.BigQuiet
import Derived.Test.YtcjlifhehiolkaaGreatChecked
import Derived.Test.YtcjlifhehiolkaaGreatShelf
import Derived.Test.YtcjlifhehiolkaaGreatLexSpec
namespace Go.Proofs.YtcjlifhehiolkaaGreat
open Go.RowKit

/-- What a call answers that leaves the world as it was. -/
def Pu (v : Value) (w : World) (e : Ending) (w' : World) : Prop := e = .returned v ∧ w' = w

set_option maxRecDepth 1000000 in
theorem plain (c : UInt8) (w : World) : Calls Tryz.prog 84 #[.int .u8 c.toNat] w (Pu (.bool (isPlain c)) w) := by
  by_cases h1 : 32 ≤ c.toNat
  · have h1' : (32 : Int) ≤ (c.toNat : Int) := by omega
    by_cases h2 : c.toNat ≤ 126
    · have h2' : (c.toNat : Int) ≤ 126 := by omega
      go_enter Tryz.func84, Tryz.ntmps84
      go_wp2
      go_ret
      exact ⟨by simp [isPlain, h1, h2], rfl⟩
    · have h2' : ¬ (c.toNat : Int) ≤ 126 := by omega
      go_enter Tryz.func84, Tryz.ntmps84
      go_wp2
      go_ret
      exact ⟨by simp [isPlain, h1, h2], rfl⟩
  · have h1' : ¬ (32 : Int) ≤ (c.toNat : Int) := by omega
    go_enter Tryz.func84, Tryz.ntmps84
    go_wp2
    go_ret
    exact ⟨by simp [isPlain, h1], rfl⟩

set_option maxRecDepth 1000000 in
theorem small (c : UInt8) (w : World) : Calls Tryz.prog 91 #[.int .u8 c.toNat] w (Pu (.bool (isSmall c)) w) := by
  by_cases h1 : 97 ≤ c.toNat
  · have h1' : (97 : Int) ≤ (c.toNat : Int) := by omega
    by_cases h2 : c.toNat ≤ 122
    · have h2' : (c.toNat : Int) ≤ 122 := by omega
      go_enter Tryz.func91, Tryz.ntmps91
      go_wp2
      go_ret
      exact ⟨by simp [isSmall, h1, h2], rfl⟩
    · have h2' : ¬ (c.toNat : Int) ≤ 122 := by omega
      go_enter Tryz.func91, Tryz.ntmps91
      go_wp2
      go_ret
      exact ⟨by simp [isSmall, h1, h2], rfl⟩
  · have h1' : ¬ (97 : Int) ≤ (c.toNat : Int) := by omega
    go_enter Tryz.func91, Tryz.ntmps91
    go_wp2
    go_ret
    exact ⟨by simp [isSmall, h1], rfl⟩

set_option maxRecDepth 1000000 in
theorem large (c : UInt8) (w : World) : Calls Tryz.prog 68 #[.int .u8 c.toNat] w (Pu (.bool (isLarge c)) w) := by
  by_cases h1 : 65 ≤ c.toNat
  · have h1' : (65 : Int) ≤ (c.toNat : Int) := by omega
    by_cases h2 : c.toNat ≤ 90
    · have h2' : (c.toNat : Int) ≤ 90 := by omega
      go_enter Tryz.func68, Tryz.ntmps68
      go_wp2
      go_ret
      exact ⟨by simp [isLarge, h1, h2], rfl⟩
    · have h2' : ¬ (c.toNat : Int) ≤ 90 := by omega
      go_enter Tryz.func68, Tryz.ntmps68
      go_wp2
      go_ret
      exact ⟨by simp [isLarge, h1, h2], rfl⟩
  · have h1' : ¬ (65 : Int) ≤ (c.toNat : Int) := by omega
    go_enter Tryz.func68, Tryz.ntmps68
    go_wp2
    go_ret
    exact ⟨by simp [isLarge, h1], rfl⟩

set_option maxRecDepth 1000000 in
theorem digit (c : UInt8) (w : World) : Calls Tryz.prog 90 #[.int .u8 c.toNat] w (Pu (.bool (isDigit c)) w) := by
  by_cases h1 : 48 ≤ c.toNat
  · have h1' : (48 : Int) ≤ (c.toNat : Int) := by omega
    by_cases h2 : c.toNat ≤ 57
    · have h2' : (c.toNat : Int) ≤ 57 := by omega
      go_enter Tryz.func90, Tryz.ntmps90
      go_wp2
      go_ret
      exact ⟨by simp [isDigit, h1, h2], rfl⟩
    · have h2' : ¬ (c.toNat : Int) ≤ 57 := by omega
      go_enter Tryz.func90, Tryz.ntmps90
      go_wp2
      go_ret
      exact ⟨by simp [isDigit, h1, h2], rfl⟩
  · have h1' : ¬ (48 : Int) ≤ (c.toNat : Int) := by omega
    go_enter Tryz.func90, Tryz.ntmps90
    go_wp2
    go_ret
    exact ⟨by simp [isDigit, h1], rfl⟩

set_option maxRecDepth 1000000 in
theorem parts (c : UInt8) (w : World) : Calls Tryz.prog 53 #[.int .u8 c.toNat] w (Pu (.bool (isParts c)) w) := by
  by_cases h0 : c.toNat = 9
  · rw [show isParts c = true from by unfold isParts; simp only [Bool.or_eq_true, decide_eq_true_eq]; omega]
    have h0' : ((c.toNat : Int) == 9) = true := by rw [beq_iff_eq]; omega
    go_enter Tryz.func53, Tryz.ntmps53
    go_wp2
    go_ret
    exact ⟨rfl, rfl⟩
  have h0' : ((c.toNat : Int) == 9) = false := by rw [beq_eq_false_iff_ne]; omega
  by_cases h1 : c.toNat = 10
  · rw [show isParts c = true from by unfold isParts; simp only [Bool.or_eq_true, decide_eq_true_eq]; omega]
    have h1' : ((c.toNat : Int) == 10) = true := by rw [beq_iff_eq]; omega
    go_enter Tryz.func53, Tryz.ntmps53
    go_wp2
    go_ret
    exact ⟨rfl, rfl⟩
  have h1' : ((c.toNat : Int) == 10) = false := by rw [beq_eq_false_iff_ne]; omega
  by_cases h2 : c.toNat = 13
  · rw [show isParts c = true from by unfold isParts; simp only [Bool.or_eq_true, decide_eq_true_eq]; omega]
    have h2' : ((c.toNat : Int) == 13) = true := by rw [beq_iff_eq]; omega
    go_enter Tryz.func53, Tryz.ntmps53
    go_wp2
    go_ret
    exact ⟨rfl, rfl⟩
  have h2' : ((c.toNat : Int) == 13) = false := by rw [beq_eq_false_iff_ne]; omega
  by_cases h3 : c.toNat = 32
  · rw [show isParts c = true from by unfold isParts; simp only [Bool.or_eq_true, decide_eq_true_eq]; omega]
    have h3' : ((c.toNat : Int) == 32) = true := by rw [beq_iff_eq]; omega
    go_enter Tryz.func53, Tryz.ntmps53
    go_wp2
    go_ret
    exact ⟨rfl, rfl⟩
  have h3' : ((c.toNat : Int) == 32) = false := by rw [beq_eq_false_iff_ne]; omega
  rw [show isParts c = false from Bool.eq_false_iff.2 (by unfold isParts; simp only [ne_eq, Bool.or_eq_true, decide_eq_true_eq]; omega)]
  go_enter Tryz.func53, Tryz.ntmps53
  go_wp2
  go_ret
  exact ⟨rfl, rfl⟩

set_option maxRecDepth 1000000 in
theorem refParts (c : UInt8) (w : World) : Calls Tryz.prog 55 #[.int .u8 c.toNat] w (Pu (.bool (isParts c)) w) := by
  by_cases h0 : c.toNat = 9
  · rw [show isParts c = true from by unfold isParts; simp only [Bool.or_eq_true, decide_eq_true_eq]; omega]
    have h0' : ((c.toNat : Int) == 9) = true := by rw [beq_iff_eq]; omega
    go_enter Tryz.func55, Tryz.ntmps55
    go_wp2
    go_ret
    exact ⟨rfl, rfl⟩
  have h0' : ((c.toNat : Int) == 9) = false := by rw [beq_eq_false_iff_ne]; omega
  by_cases h1 : c.toNat = 10
  · rw [show isParts c = true from by unfold isParts; simp only [Bool.or_eq_true, decide_eq_true_eq]; omega]
    have h1' : ((c.toNat : Int) == 10) = true := by rw [beq_iff_eq]; omega
    go_enter Tryz.func55, Tryz.ntmps55
    go_wp2
    go_ret
    exact ⟨rfl, rfl⟩
  have h1' : ((c.toNat : Int) == 10) = false := by rw [beq_eq_false_iff_ne]; omega
  by_cases h2 : c.toNat = 13
  · rw [show isParts c = true from by unfold isParts; simp only [Bool.or_eq_true, decide_eq_true_eq]; omega]
    have h2' : ((c.toNat : Int) == 13) = true := by rw [beq_iff_eq]; omega
    go_enter Tryz.func55, Tryz.ntmps55
    go_wp2
    go_ret
    exact ⟨rfl, rfl⟩
  have h2' : ((c.toNat : Int) == 13) = false := by rw [beq_eq_false_iff_ne]; omega
  by_cases h3 : c.toNat = 32
  · rw [show isParts c = true from by unfold isParts; simp only [Bool.or_eq_true, decide_eq_true_eq]; omega]
    have h3' : ((c.toNat : Int) == 32) = true := by rw [beq_iff_eq]; omega
    go_enter Tryz.func55, Tryz.ntmps55
    go_wp2
    go_ret
    exact ⟨rfl, rfl⟩
  have h3' : ((c.toNat : Int) == 32) = false := by rw [beq_eq_false_iff_ne]; omega
  rw [show isParts c = false from Bool.eq_false_iff.2 (by unfold isParts; simp only [ne_eq, Bool.or_eq_true, decide_eq_true_eq]; omega)]
  go_enter Tryz.func55, Tryz.ntmps55
  go_wp2
  go_ret
  exact ⟨rfl, rfl⟩

set_option maxHeartbeats 800000 in
set_option maxRecDepth 1000000 in
theorem inAtom (c : UInt8) (w : World) : Calls Tryz.prog 52 #[.int .u8 c.toNat] w (Pu (.bool (isAtom c)) w) := by
  have hp := plain c
  rcases (by cases isPlain c <;> simp : isPlain c = false ∨ isPlain c = true) with hb | hb
  · rw [hb] at hp
    rw [show isAtom c = false from by simp [isAtom, hb]]
    clear hb
    generalize (c.toNat : Int) = x at *
    go_enter Tryz.func52, Tryz.ntmps52
    go_wp2_with fail
    refine (hp _).mono ?_
    rintro e w1 ⟨rfl, rfl⟩
    go_wp2
    go_ret
    exact ⟨rfl, rfl⟩
  rw [hb] at hp
  by_cases h0 : c.toNat = 32
  · rw [show isAtom c = false from by simp [isAtom, h0]]
    have h0' : ((c.toNat : Int) != 32) = false := by rw [bne_eq_false_iff_eq]; omega
    clear h0 hb
    generalize (c.toNat : Int) = x at *
    go_enter Tryz.func52, Tryz.ntmps52
    go_wp2_with fail
    refine (hp _).mono ?_
    rintro e w1 ⟨rfl, rfl⟩
    go_wp2
    go_ret
    exact ⟨rfl, rfl⟩
  have h0' : ((c.toNat : Int) != 32) = true := by rw [bne_iff_ne]; omega
  by_cases h1 : c.toNat = 59
  · rw [show isAtom c = false from by simp [isAtom, h1]]
    have h1' : ((c.toNat : Int) != 59) = false := by rw [bne_eq_false_iff_eq]; omega
    clear h0 h1 hb
    generalize (c.toNat : Int) = x at *
    go_enter Tryz.func52, Tryz.ntmps52
    go_wp2_with fail
    refine (hp _).mono ?_
    rintro e w1 ⟨rfl, rfl⟩
    go_wp2
    go_ret
    exact ⟨rfl, rfl⟩
  have h1' : ((c.toNat : Int) != 59) = true := by rw [bne_iff_ne]; omega
  by_cases h2 : c.toNat = 40
  · rw [show isAtom c = false from by simp [isAtom, h2]]
    have h2' : ((c.toNat : Int) != 40) = false := by rw [bne_eq_false_iff_eq]; omega
    clear h0 h1 h2 hb
    generalize (c.toNat : Int) = x at *
    go_enter Tryz.func52, Tryz.ntmps52
    go_wp2_with fail
    refine (hp _).mono ?_
    rintro e w1 ⟨rfl, rfl⟩
    go_wp2
    go_ret
    exact ⟨rfl, rfl⟩
  have h2' : ((c.toNat : Int) != 40) = true := by rw [bne_iff_ne]; omega
  by_cases h3 : c.toNat = 41
  · rw [show isAtom c = false from by simp [isAtom, h3]]
    have h3' : ((c.toNat : Int) != 41) = false := by rw [bne_eq_false_iff_eq]; omega
    clear h0 h1 h2 h3 hb
    generalize (c.toNat : Int) = x at *
    go_enter Tryz.func52, Tryz.ntmps52
    go_wp2_with fail
    refine (hp _).mono ?_
    rintro e w1 ⟨rfl, rfl⟩
    go_wp2
    go_ret
    exact ⟨rfl, rfl⟩
  have h3' : ((c.toNat : Int) != 41) = true := by rw [bne_iff_ne]; omega
  by_cases h4 : c.toNat = 34
  · rw [show isAtom c = false from by simp [isAtom, h4]]
    have h4' : ((c.toNat : Int) != 34) = false := by rw [bne_eq_false_iff_eq]; omega
    clear h0 h1 h2 h3 h4 hb
    generalize (c.toNat : Int) = x at *
    go_enter Tryz.func52, Tryz.ntmps52
    go_wp2_with fail
    refine (hp _).mono ?_
    rintro e w1 ⟨rfl, rfl⟩
    go_wp2
    go_ret
    exact ⟨rfl, rfl⟩
  have h4' : ((c.toNat : Int) != 34) = true := by rw [bne_iff_ne]; omega
  rw [show isAtom c = true from by simp [isAtom, hb, h0, h1, h2, h3, h4]]
  clear h0 h1 h2 h3 h4 hb
  generalize (c.toNat : Int) = x at *
  go_enter Tryz.func52, Tryz.ntmps52
  go_wp2_with fail
  refine (hp _).mono ?_
  rintro e w1 ⟨rfl, rfl⟩
  go_wp2
  go_ret
  exact ⟨rfl, rfl⟩

/-- What reading two digits, and an escape, answers. -/
def EscE (r : Option (UInt8 × Nat)) (w : World) (e : Ending) (w' : World) : Prop :=
  (match r with
  | none => e = .returned (.tuple #[.int .u8 0, .int .i64 0])
  | some (b, k) => e = .returned (.tuple #[.int .u8 b.toNat, .int .i64 k])) ∧ ∃ n, w' = w.drewN n

theorem escE_mk {b : UInt8} {k : Nat} {z m : Int} (w : World) (n : Nat) (hz : z = (b.toNat : Int)) (hm : m = (k : Int)) : EscE (some (b, k)) w (.returned (.tuple #[.int .u8 z, .int .i64 m])) (w.drewN n) := by
  subst hz hm
  exact ⟨rfl, n, rfl⟩
theorem hex_byte (x y : Nat) (hx : x < 16) (hy : y < 16) : bits .or .i64 ((x : Int) * 16) (y : Int) % 256 = ((UInt8.ofNat (16 * x + y)).toNat : Int) := by
  have h : ∀ a b : Fin 16, bits .or .i64 ((a.val : Int) * 16) (b.val : Int) % 256 = ((UInt8.ofNat (16 * a.val + b.val)).toNat : Int) := by decide +kernel
  exact h ⟨x, hx⟩ ⟨y, hy⟩
theorem hex_index (c : UInt8) : Lib.indexByte [48, 49, 50, 51, 52, 53, 54, 55, 56, 57, 97, 98, 99, 100, 101, 102] c = match hexOf c with | none => -1 | some x => (x : Int) := by
  have h : ∀ n : Fin 256, Lib.indexByte [48, 49, 50, 51, 52, 53, 54, 55, 56, 57, 97, 98, 99, 100, 101, 102] (UInt8.ofNat n.val) = match hexOf (UInt8.ofNat n.val) with | none => -1 | some x => (x : Int) := by decide +kernel
  have := h ⟨c.toNat, c.toNat_lt⟩
  simpa using this
theorem hexOf_lt {c : UInt8} {x : Nat} (h : hexOf c = some x) : x < 16 := by
  unfold hexOf at h
  split at h
  · cases h; omega
  · split at h
    · cases h; omega
    · cases h

def escX : List UInt8 → Option (UInt8 × Nat)
  | a :: b :: _ =>
    match hexOf a, hexOf b with
    | some x, some y => some (UInt8.ofNat (16 * x + y), 4)
    | _, _ => none
  | _ => none
theorem esc_x (c : UInt8) (r : List UInt8) (h : c.toNat = 120) : esc (c :: r) = escX r := by
  simp only [esc, escX, h]
  rfl
theorem quiet_pure {P : Program} {f : FuncId} {args : Array Value} {w : World} {n x : Nat} {v : Value} (h : Calls P f args (w.drewN (n + x)) fun e w' => e = .returned v ∧ w' = w.drewN (n + x)) :
    Calls P f args (w.drewN (n + x)) fun e w'' => e = .returned v ∧ ∃ m, w'' = w.drewN (n + m) :=
  h.mono fun _ _ ⟨he, hm⟩ => ⟨he, x, hm⟩
theorem quiet_pure0 {P : Program} {f : FuncId} {args : Array Value} {w : World} {x : Nat} {v : Value} (h : Calls P f args (w.drewN x) fun e w' => e = .returned v ∧ w' = w.drewN x) :
    Calls P f args (w.drewN x) fun e w'' => e = .returned v ∧ ∃ m, w'' = w.drewN m :=
  h.mono fun _ _ ⟨he, hm⟩ => ⟨he, x, hm⟩
theorem idx (c : UInt8) (w : World) : Calls Tryz.prog 92 #[.string ⟨#[48, 49, 50, 51, 52, 53, 54, 55, 56, 57, 97, 98, 99, 100, 101, 102]⟩, .int .u8 c.toNat] w fun e w' => e = .returned (.int .i64 (match hexOf c with | none => -1 | some x => (x : Int))) ∧ w' = w := by
  have h := Tryz.strings_IndexByte ⟨#[48, 49, 50, 51, 52, 53, 54, 55, 56, 57, 97, 98, 99, 100, 101, 102]⟩ c.toNat w
  rw [← hex_index c]
  simpa using h

set_option maxHeartbeats 1600000 in
set_option maxRecDepth 1000000 in
theorem readDigits (s : ByteArray) (w : World) : Calls Tryz.prog 102 #[.string s] w (EscE (escX (s.data.toList.drop 2)) w) := by
  by_cases hl : s.size < 4
  · have hl' : (s.size : Int) < 4 := by omega
    rw [show escX (s.data.toList.drop 2) = none from by
      have h3 : (s.data.toList.drop 2).length < 2 := by rw [List.length_drop, size_len]; omega
      match s.data.toList.drop 2, h3 with
      | [], _ => rfl
      | [_], _ => rfl]
    go_enter Tryz.func102, Tryz.ntmps102
    go_wp2
    go_ret2
    exact ⟨rfl, 0, rfl⟩
  · have hl' : ¬ (s.size : Int) < 4 := by omega
    have h2 : 2 < s.size := by omega
    have h3 : 3 < s.size := by omega
    have h2' : (2 : Int) < (s.size : Int) := by omega
    have h3' : (3 : Int) < (s.size : Int) := by omega
    have i2 := idx s[2]
    have i3 := idx s[3]
    rw [drop_at s 2 h2, drop_at s 3 h3]
    simp only [escX]
    generalize hx : hexOf s[2] = x at i2
    generalize hy : hexOf s[3] = y at i3
    cases x with
    | none =>
      simp only at i2
      clear hy
      generalize (match y with | none => -1 | some x => (x : Int)) = z at i3
      go_enter Tryz.func102, Tryz.ntmps102
      go_wp2
      go_quiet ((first | (go_at_call 92; refine quiet_pure0 (i2 _)) | (go_at_call 92; refine quiet_pure0 (i3 _))))
      go_wp2
      go_ret2
      exact ⟨rfl, _, rfl⟩
    | some x =>
      cases y with
      | none =>
        go_enter Tryz.func102, Tryz.ntmps102
        go_wp2
        go_quiet ((first | (go_at_call 92; refine quiet_pure0 (i2 _)) | (go_at_call 92; refine quiet_pure0 (i3 _))))
        go_wp2
        go_ret2
        exact ⟨rfl, _, rfl⟩
      | some y =>
        have hx' := hexOf_lt hx
        have hy' := hexOf_lt hy
        go_enter Tryz.func102, Tryz.ntmps102
        go_wp2
        go_quiet ((first | (go_at_call 92; refine quiet_pure0 (i2 _)) | (go_at_call 92; refine quiet_pure0 (i3 _))))
        go_wp2
        go_ret2
        exact escE_mk _ _ (hex_byte x y hx' hy') rfl

set_option maxHeartbeats 800000 in
set_option maxRecDepth 1000000 in
theorem readEscape (s : ByteArray) (w : World) : Calls Tryz.prog 85 #[.string s] w (EscE (esc (s.data.toList.drop 1)) w) := by
  by_cases hl : s.size < 2
  · have hl' : (s.size : Int) < 2 := by omega
    rw [show s.data.toList.drop 1 = [] from List.drop_eq_nil_of_le (by rw [size_len]; omega)]
    go_enter Tryz.func85, Tryz.ntmps85
    go_wp2
    go_ret2
    exact ⟨rfl, 0, rfl⟩
  · have hl' : ¬ (s.size : Int) < 2 := by omega
    have h1 : 1 < s.size := by omega
    have h1' : (1 : Int) < (s.size : Int) := by omega
    have hd := readDigits s
    rw [drop_at s 1 h1]
    by_cases c1 : s[1].toNat = 34
    · rw [show esc (s[1] :: s.data.toList.drop (1 + 1)) = some (s[1], 2) from by simp [esc, c1]]
      have c1' : ((s[1].toNat : Int) == 34) = true := by rw [beq_iff_eq]; omega
      clear c1 hd
      go_enter Tryz.func85, Tryz.ntmps85
      go_wp2
      go_ret2
      exact escE_mk _ 0 rfl rfl
    have c1' : ((s[1].toNat : Int) == 34) = false := by rw [beq_eq_false_iff_ne]; omega
    by_cases c2 : s[1].toNat = 92
    · rw [show esc (s[1] :: s.data.toList.drop (1 + 1)) = some (s[1], 2) from by simp [esc, c2]]
      have c2' : ((s[1].toNat : Int) == 92) = true := by rw [beq_iff_eq]; omega
      clear c1 c2 hd
      go_enter Tryz.func85, Tryz.ntmps85
      go_wp2
      go_ret2
      exact escE_mk _ 0 rfl rfl
    have c2' : ((s[1].toNat : Int) == 92) = false := by rw [beq_eq_false_iff_ne]; omega
    by_cases c3 : s[1].toNat = 110
    · rw [show esc (s[1] :: s.data.toList.drop (1 + 1)) = some (10, 2) from by simp [esc, c3]]
      have c3' : ((s[1].toNat : Int) == 110) = true := by rw [beq_iff_eq]; omega
      clear c1 c2 c3 hd
      go_enter Tryz.func85, Tryz.ntmps85
      go_wp2
      go_ret2
      exact escE_mk _ 0 rfl rfl
    have c3' : ((s[1].toNat : Int) == 110) = false := by rw [beq_eq_false_iff_ne]; omega
    by_cases c4 : s[1].toNat = 120
    · rw [esc_x _ _ c4]
      have c4' : ((s[1].toNat : Int) == 120) = true := by rw [beq_iff_eq]; omega
      clear c1 c2 c3 c4
      generalize escX (s.data.toList.drop (1 + 1)) = r at *
      cases r with
      | none =>
        go_enter Tryz.func85, Tryz.ntmps85
        go_wp2_with fail
        refine (hd _).mono ?_
        rintro e w1 ⟨he, n, rfl⟩
        simp only at he
        subst he
        go_wp2
        go_ret2
        exact ⟨rfl, _, rfl⟩
      | some p =>
        obtain ⟨b, k⟩ := p
        go_enter Tryz.func85, Tryz.ntmps85
        go_wp2_with fail
        refine (hd _).mono ?_
        rintro e w1 ⟨he, n, rfl⟩
        simp only at he
        subst he
        go_wp2
        go_ret2
        exact ⟨rfl, _, rfl⟩
    have c4' : ((s[1].toNat : Int) == 120) = false := by rw [beq_eq_false_iff_ne]; omega
    rw [show esc (s[1] :: s.data.toList.drop (1 + 1)) = none from by simp [esc, c1, c2, c3, c4]]
    clear c1 c2 c3 c4 hd
    go_enter Tryz.func85, Tryz.ntmps85
    go_wp2
    go_ret2
    exact ⟨rfl, 0, rfl⟩

end Go.Proofs.YtcjlifhehiolkaaGreat
