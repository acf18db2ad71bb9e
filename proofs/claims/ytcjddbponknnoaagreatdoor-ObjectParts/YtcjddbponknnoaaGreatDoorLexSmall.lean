/-
  The package's small functions: tests of bytes, escapes.
-/
import Derived.WalkKit
import Derived.WalkSpells
import Derived.WalkLawsBesides
import Derived.WalkMore
import Derived.BigQuiet
import Derived.Test.YtcjddbponknnoaaGreatDoorChecked
import Derived.Test.YtcjddbponknnoaaGreatDoorShelf
import Derived.Test.YtcjddbponknnoaaGreatDoorLexSpec
namespace Go.Proofs.YtcjddbponknnoaaGreatDoor
open Go.RowKit

/-- What a call answers that leaves the world as it was. -/
def Pu (v : Value) (w : World) (e : Ending) (w' : World) : Prop := e = .returned v ∧ w' = w

set_option maxRecDepth 1000000 in
theorem small (c : UInt8) (w : World) : Calls Tryz.prog 131 #[.int .u8 c.toNat] w (Pu (.bool (isSmall c)) w) := by
  by_cases h1 : 97 ≤ c.toNat
  · have h1' : (97 : Int) ≤ (c.toNat : Int) := by omega
    by_cases h2 : c.toNat ≤ 122
    · have h2' : (c.toNat : Int) ≤ 122 := by omega
      go_enter Tryz.func131, Tryz.ntmps131
      go_wp2
      go_ret
      exact ⟨by simp [isSmall, h1, h2], rfl⟩
    · have h2' : ¬ (c.toNat : Int) ≤ 122 := by omega
      go_enter Tryz.func131, Tryz.ntmps131
      go_wp2
      go_ret
      exact ⟨by simp [isSmall, h1, h2], rfl⟩
  · have h1' : ¬ (97 : Int) ≤ (c.toNat : Int) := by omega
    go_enter Tryz.func131, Tryz.ntmps131
    go_wp2
    go_ret
    exact ⟨by simp [isSmall, h1], rfl⟩

set_option maxRecDepth 1000000 in
theorem large (c : UInt8) (w : World) : Calls Tryz.prog 72 #[.int .u8 c.toNat] w (Pu (.bool (isLarge c)) w) := by
  by_cases h1 : 65 ≤ c.toNat
  · have h1' : (65 : Int) ≤ (c.toNat : Int) := by omega
    by_cases h2 : c.toNat ≤ 90
    · have h2' : (c.toNat : Int) ≤ 90 := by omega
      go_enter Tryz.func72, Tryz.ntmps72
      go_wp2
      go_ret
      exact ⟨by simp [isLarge, h1, h2], rfl⟩
    · have h2' : ¬ (c.toNat : Int) ≤ 90 := by omega
      go_enter Tryz.func72, Tryz.ntmps72
      go_wp2
      go_ret
      exact ⟨by simp [isLarge, h1, h2], rfl⟩
  · have h1' : ¬ (65 : Int) ≤ (c.toNat : Int) := by omega
    go_enter Tryz.func72, Tryz.ntmps72
    go_wp2
    go_ret
    exact ⟨by simp [isLarge, h1], rfl⟩

set_option maxRecDepth 1000000 in
theorem digit (c : UInt8) (w : World) : Calls Tryz.prog 130 #[.int .u8 c.toNat] w (Pu (.bool (isDigit c)) w) := by
  by_cases h1 : 48 ≤ c.toNat
  · have h1' : (48 : Int) ≤ (c.toNat : Int) := by omega
    by_cases h2 : c.toNat ≤ 57
    · have h2' : (c.toNat : Int) ≤ 57 := by omega
      go_enter Tryz.func130, Tryz.ntmps130
      go_wp2
      go_ret
      exact ⟨by simp [isDigit, h1, h2], rfl⟩
    · have h2' : ¬ (c.toNat : Int) ≤ 57 := by omega
      go_enter Tryz.func130, Tryz.ntmps130
      go_wp2
      go_ret
      exact ⟨by simp [isDigit, h1, h2], rfl⟩
  · have h1' : ¬ (48 : Int) ≤ (c.toNat : Int) := by omega
    go_enter Tryz.func130, Tryz.ntmps130
    go_wp2
    go_ret
    exact ⟨by simp [isDigit, h1], rfl⟩

/-- What reading two digits, and an escape, answers. -/
def EscE (r : Option (UInt8 × Nat)) (w : World) (e : Ending) (w' : World) : Prop :=
  (match r with
  | none => e = .returned (.tuple #[.int .u8 0, .int .i64 0])
  | some (b, k) => e = .returned (.tuple #[.int .u8 b.toNat, .int .i64 k])) ∧ ∃ n, w' = w.drewN n

theorem escE_mk {b : UInt8} {k : Nat} {z m : Int} (w : World) (n : Nat) (hz : z = (b.toNat : Int)) (hm : m = (k : Int)) : EscE (some (b, k)) w (.returned (.tuple #[.int .u8 z, .int .i64 m])) (w.drewN n) := by
  subst hz hm
  exact ⟨rfl, n, rfl⟩
theorem hex_byte (x y : Nat) (hx : x < 16) (hy : y < 16) : bits .or .i64 ((x : Int) * 16) (y : Int) % 256 = ((UInt8.ofNat (16 * x + y)).toNat : Int) := by
  have h : ∀ a b : Fin 16, bits .or .i64 ((a.val : Int) * 16) (b.val : Int) % 256 = ((UInt8.ofNat (16 * a.val + b.val)).toNat : Int) := by decide +kernel
  exact h ⟨x, hx⟩ ⟨y, hy⟩
theorem hex_index (c : UInt8) : Lib.indexByte [48, 49, 50, 51, 52, 53, 54, 55, 56, 57, 97, 98, 99, 100, 101, 102] c = match hexOf c with | none => -1 | some x => (x : Int) := by
  have h : ∀ n : Fin 256, Lib.indexByte [48, 49, 50, 51, 52, 53, 54, 55, 56, 57, 97, 98, 99, 100, 101, 102] (UInt8.ofNat n.val) = match hexOf (UInt8.ofNat n.val) with | none => -1 | some x => (x : Int) := by decide +kernel
  have := h ⟨c.toNat, c.toNat_lt⟩
  simpa using this
theorem hexOf_lt {c : UInt8} {x : Nat} (h : hexOf c = some x) : x < 16 := by
  unfold hexOf at h
  split at h
  · cases h; omega
  · split at h
    · cases h; omega
    · cases h

def escX : List UInt8 → Option (UInt8 × Nat)
  | a :: b :: _ =>
    match hexOf a, hexOf b with
    | some x, some y => some (UInt8.ofNat (16 * x + y), 4)
    | _, _ => none
  | _ => none
theorem esc_x (c : UInt8) (r : List UInt8) (h : c.toNat = 120) : esc (c :: r) = escX r := by
  simp only [esc, escX, h]
  rfl
theorem quiet_pure {P : Program} {f : FuncId} {args : Array Value} {w : World} {n x : Nat} {v : Value} (h : Calls P f args (w.drewN (n + x)) fun e w' => e = .returned v ∧ w' = w.drewN (n + x)) :
    Calls P f args (w.drewN (n + x)) fun e w'' => e = .returned v ∧ ∃ m, w'' = w.drewN (n + m) :=
  h.mono fun _ _ ⟨he, hm⟩ => ⟨he, x, hm⟩
theorem quiet_pure0 {P : Program} {f : FuncId} {args : Array Value} {w : World} {x : Nat} {v : Value} (h : Calls P f args (w.drewN x) fun e w' => e = .returned v ∧ w' = w.drewN x) :
    Calls P f args (w.drewN x) fun e w'' => e = .returned v ∧ ∃ m, w'' = w.drewN m :=
  h.mono fun _ _ ⟨he, hm⟩ => ⟨he, x, hm⟩
theorem idx (c : UInt8) (w : World) : Calls Tryz.prog 222 #[.string ⟨#[48, 49, 50, 51, 52, 53, 54, 55, 56, 57, 97, 98, 99, 100, 101, 102]⟩, .int .u8 c.toNat] w fun e w' => e = .returned (.int .i64 (match hexOf c with | none => -1 | some x => (x : Int))) ∧ w' = w := by
  have h := Tryz.strings_IndexByte ⟨#[48, 49, 50, 51, 52, 53, 54, 55, 56, 57, 97, 98, 99, 100, 101, 102]⟩ c.toNat w
  rw [← hex_index c]
  simpa using h

end Go.Proofs.YtcjddbponknnoaaGreatDoor
