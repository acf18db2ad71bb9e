/-
  TypesNumbers: chapter 5's runs.
-/
import Derived.Deep.LoopGhost
import Derived.Test.YtcjlifhehiolkaaRows
import Derived.Test.YtcjlifhehiolkaaTypesKnown
import Derived.ProofKit
import Derived.OpenShut
namespace Go.Proofs.Ytcjlifhehiolkaa
open Go.ChangeShapes Go.WideShapes Go.ChangeAt Go.RowKit

/-- Texts that are no types. -/
def badL : List (List UInt8) := [[109, 46, 116], [], [110, 117, 109, 115], [110, 117, 109, 32], [40, 110, 117, 109, 44, 41, 110, 117, 109], [40, 41], [91, 93], [40, 110, 117, 109, 32, 110, 117, 109, 41, 110, 117, 109], [77, 46, 84], [46, 84], [97, 46], [40, 110, 117, 109, 44, 110, 117, 109, 44, 110, 117, 109, 44, 110, 117, 109, 44, 110, 117, 109, 44, 110, 117, 109, 44, 110, 117, 109, 41, 110, 117, 109]]
theorem bad_no : ∀ x ∈ badL, rightR x = false := by decide +kernel
theorem bad_len : badL.length = 12 := rfl
def badO : Obj := .cells #[.string ⟨#[109, 46, 116]⟩, .string ⟨#[]⟩, .string ⟨#[110, 117, 109, 115]⟩, .string ⟨#[110, 117, 109, 32]⟩, .string ⟨#[40, 110, 117, 109, 44, 41, 110, 117, 109]⟩, .string ⟨#[40, 41]⟩, .string ⟨#[91, 93]⟩, .string ⟨#[40, 110, 117, 109, 32, 110, 117, 109, 41, 110, 117, 109]⟩, .string ⟨#[77, 46, 84]⟩, .string ⟨#[46, 84]⟩, .string ⟨#[97, 46]⟩, .string ⟨#[40, 110, 117, 109, 44, 110, 117, 109, 44, 110, 117, 109, 44, 110, 117, 109, 44, 110, 117, 109, 44, 110, 117, 109, 44, 110, 117, 109, 41, 110, 117, 109]⟩] 9
theorem bad_row (w : World) : StrRow (w.alloc badO) (.slice (some ⟨w.heap.size, 0, none⟩) 12 12) badL := by
  refine .inr ⟨w.heap.size, 0, 12, rfl, by simp, by decide, fun j x hj => ?_⟩
  have := cells_new w (sc badL) 9 j (.string (str x)) (by simp [sc, hj])
  rw [Nat.zero_add, ← this, add_at]
  rfl
/-- The tree of a Quoted. -/
def quotedT : Tr := ⟨4, 0, numL, [], ⟨4, 0, numL⟩⟩
theorem quoted_ok : parseR [34, 110, 117, 109, 34] = .ok quotedT := by kernel_rfl
theorem quoted_read : readR [109] quotedT = .error (12, 0) := by
  rw [readR_eq, show partsT quotedT = [] from rfl]
  rfl
theorem names_two : namesR [40, 97, 46, 66, 44, 99, 46, 68, 41, 91, 97, 46, 66, 93] = [[97, 46, 66], [99, 46, 68]] := by
  have h1 : rightR [40, 97, 46, 66, 44, 99, 46, 68, 41, 91, 97, 46, 66, 93] = true := by kernel_rfl
  have h2 : nw [40, 97, 46, 66, 44, 99, 46, 68, 41, 91, 97, 46, 66, 93] = [[97, 46, 66], [99, 46, 68], [97, 46, 66]] := by kernel_rfl
  rw [namesR, if_pos h1, h2]
  refine onceR_eq (by unfold Asc; decide) (fun x => ?_)
  simp only [List.mem_cons, List.not_mem_nil, or_false]
  constructor
  · rintro (h | h)
    · exact .inl h
    · exact .inr (.inl h)
  · rintro (h | h | h)
    · exact .inl h
    · exact .inr h
    · exact .inl h
theorem lit_two (w : World) (x y : List UInt8) : StrRow (w.alloc (.cells #[.string (str x), .string (str y)] 9)) (.slice (some ⟨w.heap.size, 0, none⟩) 2 2) [x, y] := by
  refine .inr ⟨w.heap.size, 0, 2, rfl, by simp, by simp, fun j z hj => ?_⟩
  have := cells_new w (sc [x, y]) 9 j (.string (str z)) (by rw [sc, List.getElem?_map, hj]; rfl)
  rw [Nat.zero_add, ← this, add_at]
  rfl

set_option maxHeartbeats 4000000 in
set_option maxRecDepth 1000000 in
theorem numbers_walk (w : World) : Calls Try.prog 3 #[] w fun e w' => e = .returned (.bool true) ∧ Below w.heap.size w w' := by
  have h1 : ∀ w, Calls Try.prog 7 #[.string ⟨#[40, 41, 110, 117, 109]⟩] w fun e w' => ∃ a c, e = .returned (.tuple #[.slice a 0 c, .string ⟨#[110, 117, 109]⟩, .bool true]) ∧ Below w.heap.size w w' := by
    intro w
    refine (partsOf ⟨#[40, 41, 110, 117, 109]⟩ w).mono ?_
    rintro e w' ⟨⟨_, v, h2, h3⟩ | ⟨h2, _⟩, h4⟩
    · rw [show partsR (ByteArray.data ⟨#[40, 41, 110, 117, 109]⟩).toList = ([], numL) from by kernel_rfl] at h2 h3
      obtain ⟨a, c, rfl⟩ := h3.shape
      exact ⟨a, c, h2, h4⟩
    · rw [show isFn (ByteArray.data ⟨#[40, 41, 110, 117, 109]⟩).toList = true from by kernel_rfl] at h2
      cases h2
  have h2 : ∀ w, Calls Try.prog 8 #[.string ⟨#[97, 46, 66]⟩] w fun e w' => e = .returned (.tuple #[.string ⟨#[97]⟩, .string ⟨#[66]⟩, .bool true]) ∧ Below w.heap.size w w' := by
    intro w
    refine (named ⟨#[97, 46, 66]⟩ w (by decide)).mono ?_
    rintro e w' ⟨h2, h4⟩
    rw [if_pos (show namedR (ByteArray.data ⟨#[97, 46, 66]⟩).toList = true from by kernel_rfl)] at h2
    exact ⟨h2, h4⟩
  have h3 : ∀ w, Calls Try.prog 9 #[.string ⟨#[91, 97, 46, 66, 93]⟩] w fun e w' => e = .returned (.tuple #[.string ⟨#[97, 46, 66]⟩, .bool true]) ∧ Below w.heap.size w w' := by
    intro w
    refine (elem ⟨#[91, 97, 46, 66, 93]⟩ w).mono ?_
    rintro e w' ⟨h2, h4⟩
    rw [if_pos (show isArr (ByteArray.data ⟨#[91, 97, 46, 66, 93]⟩).toList = true from by kernel_rfl)] at h2
    exact ⟨h2, h4⟩
  have h5 : ∀ w, Calls Try.prog 11 #[.string ⟨#[34, 110, 117, 109, 34]⟩] w (PE (.ok quotedT) w) := by
    intro w
    have := parse ⟨#[34, 110, 117, 109, 34]⟩ w
    rwa [quoted_ok] at this
  have h6 : ∀ w, Calls Try.prog 14 #[.string ⟨#[40, 97, 46, 66, 44, 99, 46, 68, 41, 91, 97, 46, 66, 93]⟩] w fun e w' => ∃ v, e = .returned v ∧ StrRow w' v [[97, 46, 66], [99, 46, 68]] ∧ Below w.heap.size w w' := by
    intro w
    have := namesOf ⟨#[40, 97, 46, 66, 44, 99, 46, 68, 41, 91, 97, 46, 66, 93]⟩ w
    unfold NamesE at this
    rwa [names_two] at this
  have h7 : ∀ w, Calls Try.prog 10 #[.string ⟨#[110, 117, 109, 46, 84]⟩] w (BoolB true w) := by
    intro w
    have := right ⟨#[110, 117, 109, 46, 84]⟩ w
    rwa [show rightR (ByteArray.data ⟨#[110, 117, 109, 46, 84]⟩).toList = true from by kernel_rfl] at this
  have h8 : ∀ w, Calls Try.prog 15 #[.string ⟨#[110, 117, 109]⟩] w fun e w' => e = .returned (.string ⟨#[91, 110, 117, 109, 93]⟩) ∧ w' = w := fun w => array numL w (by decide)
  have hk := known
  go_enter Try.func3, Try.ntmps3
  go_wp2_with fail
  refine (h1 _).mono ?_
  rintro e w1 ⟨pa, pc, rfl, hb1⟩
  go_wp2_with fail
  refine (h2 _).mono ?_
  rintro e w2 ⟨rfl, hb2⟩
  go_wp2_with fail
  refine (h3 _).mono ?_
  rintro e w3 ⟨rfl, hb3⟩
  have hb4 := below_trans hb1 (below_trans hb2 hb3)
  clear h1 h2 h3 hb1 hb2 hb3
  have hrow := bad_row w3
  have hb5 : Below w.heap.size w (w3.alloc badO) := hb4.alloc hb4.size _
  have hsz : w.heap.size ≤ w3.heap.size := hb4.size
  unfold badO at hrow hb5
  go_wp2
  generalize hW : w3.alloc _ = W at *
  have hWs : w3.heap.size < W.heap.size := by rw [← hW]; simp
  clear hW hb4
  go_loopg [33] 12 (fun g i wr => ∃ (k : Nat), g + k = 12 ∧ i = .int .i64 (k : Int) ∧ Below W.heap.size W wr)
  case atStart => exact ⟨0, rfl, rfl, Below.refl _ _⟩
  case round =>
    obtain ⟨k, hg, rfl, hbr⟩ := hrel
    have hb6 := below_trans hb5 hbr
    by_cases hk12 : k < 12
    · obtain ⟨bk, o, c, e1, q1⟩ := (hrow.below hbr).at k hk12
      simp only [Value.slice.injEq, Option.some.injEq, Addr.mk.injEq, and_true, true_and, bad_len] at e1
      obtain ⟨⟨rfl, rfl⟩, rfl⟩ := e1
      have hno := bad_no badL[k] (List.getElem_mem _)
      rw [Nat.zero_add] at q1
      generalize badL[k] = x at *
      have hri := fun u => right (str x) u
      rw [str_data, hno] at hri
      have hki : (k : Int) < 12 := by omega
      clear hno hk h5 h6 h7 h8
      go_wp2_with (go_at_call 10; refine (hri _).mono ?_; rintro e w7 ⟨rfl, hb7⟩)
      go_roundg (12 - (k + 1))
      case measure => omega
      case rel => exact ⟨k + 1, by omega, by go_num, below_trans hbr hb7⟩
    · have hki : ¬ (k : Int) < 12 := by omega
      clear hrow hbr hb5
      go_wp2_with fail
      refine (h5 _).mono ?_
      rintro e w7 ⟨⟨kv, rfl, ht⟩, hb7⟩
      obtain ⟨ka, kc, rfl⟩ := ht.shape
      have hb8 := below_trans hb6 hb7
      have hb9 : Below w7.heap.size w7 (w7.alloc (.cells #[.int .i64 (quotedT.kind : Int), .int .i64 (quotedT.place : Int), .string (str quotedT.text), .slice ka quotedT.kids.length kc] 32)) := (Below.refl _ _).alloc (Nat.le_refl _) _
      have ht9 := ht.below hb9 (fun g hg => hg.2)
      have hb10 := below_trans hb8 hb9
      have hrd := read _ quotedT (.slice ka quotedT.kids.length kc) [109] _ (fun g hg => by simp; omega) ht9 (by simp [quotedT, TxOk, numL]) (by simp [quotedT, nodes]) (by decide)
      rw [quoted_read] at hrd
      unfold trv at hrd ⊢
      clear ht hb8 hb9 ht9 hb7 hb6 h5
      go_wp2_with fail
      refine hrd.mono ?_
      rintro e w11 ⟨he, hb11⟩
      simp only at he
      subst he
      have hb12 := below_trans hb10 hb11
      clear hrd hb10 hb11
      go_wp2_with fail
      refine (h6 _).mono ?_
      rintro e w13 ⟨v, rfl, hv, hb13⟩
      have hb14 := below_trans hb12 hb13
      have hb15 : Below w13.heap.size w13 (w13.alloc (.cells #[.string ⟨#[97, 46, 66]⟩, .string ⟨#[99, 46, 68]⟩] 9)) := (Below.refl _ _).alloc (Nat.le_refl _) _
      have hsm := sameS _ _ _ _ _ (hv.below hb15) (lit_two w13 [97, 46, 66] [99, 46, 68]) (by decide) (by decide)
      rw [decide_eq_true rfl] at hsm
      have hb16 := below_trans hb14 hb15
      clear h6 hv hb12 hb13 hb14 hb15
      go_wp2_with fail
      refine hsm.mono ?_
      rintro e w17 ⟨rfl, n, rfl⟩
      have hb18 := below_drewN hb16 n
      clear hb16 hsm
      generalize World.drewN _ n = w18 at *
      go_wp2_with fail
      refine (h7 _).mono ?_
      rintro e w19 ⟨rfl, hb19⟩
      have hb20 := below_trans hb18 hb19
      go_wp2_with fail
      refine (h8 _).mono ?_
      rintro e w21 ⟨rfl, rfl⟩
      have hb22 : Below w21.heap.size w21 (w21.alloc (.cells #[.string ⟨#[110, 117, 109]⟩, .string ⟨#[98, 121, 116, 101, 115]⟩] 9)) := (Below.refl _ _).alloc (Nat.le_refl _) _
      have hfn := func _ [numL, bytesL] numL _ (lit_two w21 numL bytesL) (by decide) (by decide) (by decide)
      unfold TextB at hfn
      rw [show str (funcR [numL, bytesL] numL) = ⟨#[40, 110, 117, 109, 44, 98, 121, 116, 101, 115, 41, 110, 117, 109]⟩ from by kernel_rfl] at hfn
      have hb23 := below_trans hb20 hb22
      clear h7 h8 hb18 hb19 hb20 hb22
      go_wp2_with fail
      refine hfn.mono ?_
      rintro e w24 ⟨rfl, hb24⟩
      have hb25 := below_trans hb23 hb24
      clear hfn hb23 hb24
      go_wp2_with fail
      refine (hk _).mono ?_
      rintro e w26 ⟨rfl, hb26⟩
      go_wp2
      go_ret
      exact ⟨rfl, below_trans hb25 hb26⟩

theorem ownTypesNumbers : ownKnob Try.prog.godebug = none := by kernel_rfl
set_option maxRecDepth 100000 in
theorem typesNumbers_lifted (os : Os) (started : os.Started) (H : Type) (enc : TypeId × Value → H) :
    ReturnsInHanded {} Try.checked os 3 .any (Rows.typesNumbersSpec.pre6 enc Try.prog Try.f3 Rows.typesNumbersRow.domain false) (Rows.typesNumbersSpec.post enc Try.prog Try.f3 false true false false) := by
  refine returnsInHanded_of_change (C := Try.checked) ownTypesNumbers started (by kernel_rfl) Try.func3
    (ChangeSpec.witness6 (enc := enc) (C := Try.checked) false ⟨#[], #[], []⟩ 8 (by kernel_rfl) (by kernel_rfl) (by kernel_rfl) (by kernel_rfl)) ?_
  intro W base args ds gs before hval0 hW hcnd _
  have hval : ∀ (j : Nat) t v, Try.f3.params[j]? = some t → args[j]? = some v → Value.okWide Try.prog W .any base t v := hval0
  have hW' := hW
  obtain ⟨p, q, hA0, hV, rfl, hfz, hnd⟩ := hW
  have hA : DataW.TrodAll enc Try.prog W 0 (fun _ => true) true Try.f3.params.toList args.toList ds p := hA0
  rw [Try.params3] at hA
  obtain ⟨hargs, rfl, rfl⟩ := trodAll_nil hA
  obtain rfl : args = #[] := by cases args; simp_all
  obtain ⟨rfl, rfl⟩ := trodVars_none hV
  clear hA0 hval0
  refine (numbers_walk W).mono fun e W' ⟨he, bel⟩ => ?_
  subst he
  exact ⟨_, rfl, _, _, _, [], _, [], hW', trodAll_mk1 (shut_bool Try.underlying4 _), trodAll_mk0, rfl, bel.frame _, fun h => by cases h⟩

theorem typesNumbers_holds : Rows.TypesNumbersSaid :=
  OpenClaim.holds_of_wide 3 Try.f3 rfl rfl rfl rfl rfl rfl rfl ⟨rfl, rfl, rfl, rfl, rfl⟩ rfl rfl rfl rfl rfl (by kernel_rfl) Try.func3 (by kernel_rfl)
    (of_decide_eq_true (by kernel_rfl)) (by unfold Func.isWrapper; first | (rw [if_pos (by decide +kernel)]; kernel_rfl) | (rw [if_neg (by decide +kernel)]; exact ⟨rfl, rfl⟩))
    (fun os started H enc _ => typesNumbers_lifted os started H enc)
#print axioms typesNumbers_holds
end Go.Proofs.Ytcjlifhehiolkaa
