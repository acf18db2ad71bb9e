/-
  The law TreeNumbers, chapter 4's runs, answers true. It has no argument and no condition.
-/
import Derived.Test.YtmekjbplodnldaaRows
import Derived.Test.YtmekjbplodnldaaTreeKnown
import Derived.ProofKit
import Derived.OpenShut
namespace Go.Proofs.Ytmekjbplodnldaa
open Go.ChangeShapes Go.WideShapes Go.ChangeAt Go.RowKit

def ops (k : Nat) : List UInt8 := List.replicate k 40
theorem ops_push (k : Nat) : str (ops k) ++ ⟨#[40]⟩ = str (ops (k + 1)) := by
  rw [show (⟨#[40]⟩ : ByteArray) = str [40] from rfl, str_append, ops, ops, List.replicate_succ']
theorem ops_length (k : Nat) : (ops k).length = k := by simp [ops]
theorem ops_no : parseR (ops 41) = .error (14, 40) := by kernel_rfl
def quT : Tr := ⟨4, 0, [97, 34], [], ⟨4, 0, [97, 34]⟩⟩
theorem qu_pr : pr quT = [34, 97, 92, 34, 34] := by
  rw [pr_eq]
  rfl
theorem root_pr : pr root = [] := by
  rw [pr_eq]
  rfl

set_option maxHeartbeats 1600000 in
set_option maxRecDepth 1000000 in
theorem numbers_walk (w : World) : Calls Try.prog 3 #[] w (KnownE w) := by
  have h1 : ∀ w, Calls Try.prog 8 #[.string ⟨#[41]⟩] w (PE (.error (12, 0)) w) := fun w => by
    have := parse ⟨#[41]⟩ w
    rwa [show parseR [41] = .error (12, 0) from rfl] at this
  have h2 : ∀ w, Calls Try.prog 8 #[.string ⟨#[40, 97]⟩] w (PE (.error (10, 2)) w) := fun w => by
    have := parse ⟨#[40, 97]⟩ w
    rwa [show parseR [40, 97] = .error (10, 2) from rfl] at this
  have h3 : ∀ w, Calls Try.prog 8 #[.string ⟨#[]⟩] w (PE (.error (12, 0)) w) := fun w => by
    have := parse ⟨#[]⟩ w
    rwa [show parseR [] = .error (12, 0) from rfl] at this
  have h4 : ∀ w, Calls Try.prog 8 #[.string ⟨#[97, 32, 41]⟩] w (PE (.error (12, 2)) w) := fun w => by
    have := parse ⟨#[97, 32, 41]⟩ w
    rwa [show parseR [97, 32, 41] = .error (12, 2) from rfl] at this
  have h6 : ∀ w, Calls Try.prog 8 #[.string ⟨#[97, 32, 1]⟩] w (PE (.error (12, 2)) w) := fun w => by
    have := parse ⟨#[97, 32, 1]⟩ w
    rwa [show parseR [97, 32, 1] = .error (12, 2) from rfl] at this
  have h5 : ∀ w, Calls Try.prog 8 #[.string (str (ops 41))] w (PE (.error (14, 40)) w) := fun w => by
    have := parse (str (ops 41)) w
    rwa [str_data, ops_no] at this
  have B0 : Below w.heap.size w w := Below.refl _ w
  go_enter Try.func3, Try.ntmps3
  go_wp2_with fail
  refine (h1 _).mono ?_
  rintro e w1 ⟨he, hbw1⟩
  simp only at he
  subst he
  unfold trv
  have Bw1 := (B0.trans (hbw1.mono B0.size)).alloc (Nat.le_trans B0.size hbw1.size) (.cells #[.int .i64 (root.kind : Int), .int .i64 (root.place : Int), .string (str root.text), .slice none 0 0] 24)
  clear hbw1
  go_wp2_with fail
  refine (h2 _).mono ?_
  rintro e w2 ⟨he, hbw2⟩
  simp only at he
  subst he
  unfold trv
  have Bw2 := (Bw1.trans (hbw2.mono Bw1.size)).alloc (Nat.le_trans Bw1.size hbw2.size) (.cells #[.int .i64 (root.kind : Int), .int .i64 (root.place : Int), .string (str root.text), .slice none 0 0] 24)
  clear hbw2
  go_wp2_with fail
  refine (h3 _).mono ?_
  rintro e w3 ⟨he, hbw3⟩
  simp only at he
  subst he
  unfold trv
  have Bw3 := (Bw2.trans (hbw3.mono Bw2.size)).alloc (Nat.le_trans Bw2.size hbw3.size) (.cells #[.int .i64 (root.kind : Int), .int .i64 (root.place : Int), .string (str root.text), .slice none 0 0] 24)
  clear hbw3
  go_wp2_with fail
  refine (h4 _).mono ?_
  rintro e w4 ⟨he, hbw4⟩
  simp only at he
  subst he
  unfold trv
  have Bw4 := (Bw3.trans (hbw4.mono Bw3.size)).alloc (Nat.le_trans Bw3.size hbw4.size) (.cells #[.int .i64 (root.kind : Int), .int .i64 (root.place : Int), .string (str root.text), .slice none 0 0] 24)
  clear hbw4
  go_wp2
  go_loopg [13, 14] 41 (fun g s i wr => ∃ (k : Nat), g + k = 41 ∧ i = .int .i64 k ∧ s = .string (str (ops k)) ∧ w4.alloc (.cells #[.int .i64 (root.kind : Int), .int .i64 (root.place : Int), .string (str root.text), .slice none 0 0] 24) = wr)
  case atStart => exact ⟨0, rfl, rfl, rfl, rfl⟩
  case round =>
    obtain ⟨k, hg, rfl, rfl, rfl⟩ := hrel
    by_cases hk : k < 41
    · have hki : (k : Int) < 41 := by omega
      have hpp := ops_push k
      have hpl : (str (ops k)).size = k := by rw [str_size, ops_length]
      go_wp2
      go_roundg (41 - (k + 1))
      case measure => omega
      case rel => exact ⟨k + 1, by omega, by go_num, by first | rfl | rw [hpp], rfl⟩
    · have hk' : k = 41 := by omega
      subst hk'
      go_wp2_with fail
      refine (h5 _).mono ?_
      rintro e w5 ⟨he, hbw5⟩
      simp only at he
      subst he
      unfold trv
      have Bw5 := (Bw4.trans (hbw5.mono Bw4.size)).alloc (Nat.le_trans Bw4.size hbw5.size) (.cells #[.int .i64 (root.kind : Int), .int .i64 (root.place : Int), .string (str root.text), .slice none 0 0] 24)
      clear hbw5
      go_wp2_with fail
      refine (h6 _).mono ?_
      rintro e w6 ⟨he, hbw6⟩
      simp only at he
      subst he
      unfold trv
      have Bw6 := (Bw5.trans (hbw6.mono Bw5.size)).alloc (Nat.le_trans Bw5.size hbw6.size) (.cells #[.int .i64 (root.kind : Int), .int .i64 (root.place : Int), .string (str root.text), .slice none 0 0] 24)
      clear hbw6
      clear h1 h2 h3 h4 h5 h6
      go_wp2_with fail
      refine (print root (.slice none 0 0) (fun _ => False) _ (TL.nil _ _) (fun _ h => h.elim) (by rw [root_pr]; decide)).mono ?_
      rintro e w7 ⟨rfl, hb7⟩
      rw [root_pr]
      have hs0 : str [] = ⟨#[]⟩ := rfl
      rw [hs0]
      have B7 := Bw6.trans (hb7.mono Bw6.size)
      go_wp2_with fail
      refine (print quT (.slice none 0 0) (fun _ => False) _ (TL.nil _ _) (fun _ h => h.elim) (by rw [qu_pr]; decide)).mono ?_
      rintro e w8 ⟨rfl, hb8⟩
      rw [qu_pr]
      have hs1 : str [34, 97, 92, 34, 34] = ⟨#[34, 97, 92, 34, 34]⟩ := rfl
      rw [hs1]
      have B8 := B7.trans (hb8.mono B7.size)
      go_wp2_with fail
      refine (known _).mono ?_
      rintro e w9 ⟨rfl, hb9⟩
      go_wp2
      go_ret
      exact ⟨rfl, B8.trans (hb9.mono B8.size)⟩

theorem ownTreeNumbers : ownKnob Try.prog.godebug = none := by kernel_rfl
set_option maxRecDepth 100000 in
theorem treeNumbers_lifted (os : Os) (started : os.Started) (H : Type) (enc : TypeId × Value → H) :
    ReturnsInHanded {} Try.checked os 3 .any (Rows.treeNumbersSpec.pre6 enc Try.prog Try.f3 Rows.treeNumbersRow.domain false) (Rows.treeNumbersSpec.post enc Try.prog Try.f3 false true false false) := by
  refine returnsInHanded_of_change (C := Try.checked) ownTreeNumbers started (by kernel_rfl) Try.func3
    (ChangeSpec.witness6 (enc := enc) (C := Try.checked) false ⟨#[], #[], []⟩ 8 (by kernel_rfl) (by kernel_rfl) (by kernel_rfl) (by kernel_rfl)) ?_
  intro W base args ds gs before hval0 hW hcnd _
  have hval : ∀ (j : Nat) t v, Try.f3.params[j]? = some t → args[j]? = some v → Value.okWide Try.prog W .any base t v := hval0
  have hW' := hW
  obtain ⟨p, q, hA0, hV, rfl, hfz, hnd⟩ := hW
  have hA : DataW.TrodAll enc Try.prog W 0 (fun _ => true) true Try.f3.params.toList args.toList ds p := hA0
  rw [Try.params3] at hA
  obtain ⟨hargs, rfl, rfl⟩ := trodAll_nil hA
  obtain rfl : args = #[] := by cases args; simp_all
  obtain ⟨rfl, rfl⟩ := trodVars_none hV
  clear hA0 hval0
  refine (numbers_walk W).mono fun e W' ⟨he, bel⟩ => ?_
  subst he
  exact ⟨_, rfl, _, _, _, [], _, [], hW', trodAll_mk1 (shut_bool Try.underlying4 _), trodAll_mk0, rfl, bel.frame _, fun h => by cases h⟩

theorem treeNumbers_holds : Rows.TreeNumbersSaid :=
  OpenClaim.holds_of_wide 3 Try.f3 rfl rfl rfl rfl rfl rfl rfl ⟨rfl, rfl, rfl, rfl, rfl⟩ rfl rfl rfl rfl rfl (by kernel_rfl) Try.func3 (by kernel_rfl)
    (of_decide_eq_true (by kernel_rfl)) (by unfold Func.isWrapper; first | (rw [if_pos (by decide +kernel)]; kernel_rfl) | (rw [if_neg (by decide +kernel)]; exact ⟨rfl, rfl⟩))
    (fun os started H enc _ => treeNumbers_lifted os started H enc)
#print axioms treeNumbers_holds
end Go.Proofs.Ytmekjbplodnldaa
