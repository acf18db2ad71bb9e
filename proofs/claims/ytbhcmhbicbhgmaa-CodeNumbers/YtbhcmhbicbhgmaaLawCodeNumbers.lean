/-
  The statement of chapter 13's runs: it is true. No condition.
-/
import Derived.ProofKit
import Derived.OpenShut
import Derived.SizedLaws
import Derived.ChangeShapes
import Derived.WideShapes
import Derived.ChangeMaps
import Derived.Test.YtbhcmhbicbhgmaaRows
import Derived.Test.YtbhcmhbicbhgmaaCodeKnown
namespace Go.Proofs.Ytbhcmhbicbhgmaa
open Go.ChangeShapes Go.WideShapes Go.ChangeAt Go.RowKit
open Wire

theorem dec_A : decodeR [0] = ((12, 0), []) := by kernel_rfl
theorem dec_B : decodeR [15, 11, 0, 1] = ((12, 1), []) := by kernel_rfl
theorem dec_C : decodeR [10, 7, 0, 0] = ((12, 0), []) := by kernel_rfl
theorem dec_D : decodeR [] = ((0, 0), []) := by kernel_rfl
theorem dec_E : decodeR (List.replicate 2049 0) = ((3, 0), []) := by
  unfold decodeR
  rw [if_pos (by rw [List.length_replicate]; decide)]
theorem dec_nil (w : World) : Calls Try.prog 7 #[.slice none 0 0] w (DecE ((0, 0), []) w) := by
  have h := cdecode (.slice none 0 0) 0 [] w (by simp) (by decide) (.inl ⟨rfl, rfl⟩)
  rw [dec_D] at h
  exact h
theorem dec_zeros (w : World) : Calls Try.prog 7 #[.slice (some ⟨w.heap.size, 0, none⟩) 2049 2049] (w.alloc (.cells (madeCells #[.int .u8 0] 2049) 5)) (DecE ((3, 0), []) w) := by
  have hb : (w.alloc (.cells (madeCells #[.int .u8 0] 2049) 5)).heap[w.heap.size]? = some (.cells (madeCells #[.int .u8 0] 2049) 5 (0, 0)) := heap_alloc_new w _
  have hrd : Rd (w.alloc (.cells (madeCells #[.int .u8 0] 2049) 5)) w.heap.size (.slice (some ⟨w.heap.size, 0, none⟩) 2049 2049) (List.replicate 2049 0) := by
    refine .inr ⟨⟨w.heap.size, 0, none⟩, 2049, by rw [List.length_replicate], rfl, fun j u hu => ?_⟩
    rw [add_at, cell_of_row _ _ _ _ _ _ hb, ← Array.getElem?_toList, toList_madeCells_one]
    rw [← hu, bs, List.map_replicate]
    rfl
  have h := cdecode _ w.heap.size (List.replicate 2049 0) _ (fun x hx => by have := (List.mem_replicate.1 hx).2; omega) (by rw [List.length_replicate]; decide) hrd
  rw [dec_E] at h
  refine h.mono ?_
  rintro e w1 ⟨v1, B, h1, h2, h3, h4⟩
  exact ⟨v1, B, h1, h2, by simp at h3; omega, ((Kept.refl _ w).alloc _).trans h4 (fun _ _ h => h) (fun _ _ h => h)⟩
def iOf (pl op : Int) : Ins := ⟨pl, op, 0, 0, 0, 0, [], []⟩
theorem refs_lit (w : World) : Calls Try.prog 10 #[.slice (some ⟨w.heap.size, 0, none⟩) 3 3] (w.alloc (.cells #[.int .i64 0, .int .i64 11, .int .i64 0, .int .i64 0, .complex .f64 0 0, .string ⟨#[]⟩, .slice none 0 0, .int .i64 3, .int .i64 15, .int .i64 0, .int .i64 0, .complex .f64 0 0, .string ⟨#[]⟩, .slice none 0 0, .int .i64 4, .int .i64 9, .int .i64 0, .int .i64 0, .complex .f64 0 0, .string ⟨#[]⟩, .slice none 0 0] 34)) fun e w' => ∃ v, e = .returned v ∧ IwR (fun g => w.heap.size ≤ g ∧ g < w'.heap.size) w' v [1, 6] ∧ Kept (fun _ => False) w w' := by
  have hi := ins_lit w (fun _ => False) [(iOf 0 11, .slice none 0 0), (iOf 3 15, .slice none 0 0), (iOf 4 9, .slice none 0 0)] (fun _ h => h.elim) (fun p hp => by
    simp only [List.mem_cons, List.not_mem_nil, or_false] at hp
    rcases hp with rfl | rfl | rfl <;> exact IwR.nil _ _)
  have h := crefs _ _ _ _ hi (fun g hg => by
    rcases hg with h | h
    · exact h.elim
    · rw [h]; simp) (by decide) (fun i hm => by
    simp only [List.map_cons, List.map_nil, List.mem_cons, List.not_mem_nil, or_false] at hm
    rcases hm with rfl | rfl | rfl <;> exact ⟨by decide, by decide⟩)
  simp only [List.flatMap_cons, List.flatMap_nil, insC, iOf, List.append_nil, List.cons_append, List.nil_append, fl0, show toStr [] = ⟨#[]⟩ from rfl] at h
  refine Calls.mono h ?_
  rintro e w1 ⟨v, h1, h2, h3⟩
  refine ⟨v, h1, h2.frame fun g hg => ⟨⟨?_, hg.2⟩, rfl⟩, ((Kept.refl _ w).alloc _).trans h3 (fun _ _ h => h) (fun _ _ h => h)⟩
  have := hg.1
  simp at this
  omega

set_option maxRecDepth 1000000 in
set_option maxHeartbeats 4000000 in
theorem codeNumbers_walk (w : World) : Calls Try.prog 3 #[] w (SameE w) := by
  have hmk := run_make_row' (P := Try.prog) 28 5 (.int .u8 0) 1 Try.underlying28 Try.info5 rfl .i64 .i64 2049 (by decide) (by decide)
  have hmk' : ∀ u : World, (Instr.makeSlice 28 (.int .i64 2049) (.int .i64 2049)).run Try.prog u = .ok (.slice (some ⟨u.heap.size, 0, none⟩) 2049 2049) (u.alloc (.cells (madeCells #[.int .u8 0] 2049) 5)) := hmk
  clear hmk
  have HMK := hidden hmk'
  clear hmk'
  go_enter Try.func3, Try.ntmps3
  go_wp2
  go_loopg [1] 19 (fun gk i wr => ∃ k : Nat, gk + k = 19 ∧ i = .int .i64 ((k : Int) - 1) ∧ wr = w)
  case atStart => exact ⟨0, rfl, rfl, rfl⟩
  case round =>
    obtain ⟨k, hgk, rfl, rfl⟩ := hrel
    by_cases hk : k < 19
    · have h1 := ctakes ((k : Int) - 1) wr
      have h2 := rtakes ((k : Int) - 1) wr
      unfold TkE at h1 h2
      generalize (((takesR ((k : Int) - 1)).getD 0 : Nat) : Int) = n at *
      generalize (takesR ((k : Int) - 1)).isSome = okv at *
      obtain ⟨op, hop⟩ : ∃ op : Int, (k : Int) - 1 = op := ⟨_, rfl⟩
      rw [hop] at h1 h2 ⊢
      have ho : op < 18 := by omega
      have ho2 : -2 < op := by omega
      have HG : Hid (gk + k = 19 ∧ (k : Int) - 1 = op) := ⟨hgk, hop⟩
      clear hgk hop hk
      go_wp2_with fail
      refine h1.mono ?_
      rintro e w1 ⟨rfl, rfl⟩
      go_wp2_with fail
      refine h2.mono ?_
      rintro e w1 ⟨rfl, rfl⟩
      go_wp2
      go_roundg (19 - (k + 1))
      case measure => have := HG.out; omega
      case rel => exact ⟨k + 1, by have := HG.out; omega, by have := HG.out; go_num, rfl⟩
    · have hk2 : (18 : Int) ≤ (k : Int) - 1 := by omega
      generalize (k : Int) - 1 = op at *
      have hgk' : Hid (gk + k = 19) := hgk
      clear hgk hk hgk'
      go_wp2_with fail
      refine (dec_lit wr [0] (by decide) (by decide) _ dec_A).mono ?_
      rintro e w1 ⟨v1, B1, rfl, r1, _, K1⟩
      obtain ⟨a1, c1, rfl⟩ := r1.shape
      clear r1
      go_wp2_with fail
      refine (dec_nil w1).mono ?_
      rintro e w2 ⟨v2, B2, rfl, r2, _, K2⟩
      obtain ⟨a2, c2, rfl⟩ := r2.shape
      clear r2
      go_wp2_with fail
      refine (dec_lit w2 [15, 11, 0, 1] (by decide) (by decide) _ dec_B).mono ?_
      rintro e w3 ⟨v3, B3, rfl, r3, _, K3⟩
      obtain ⟨a3, c3, rfl⟩ := r3.shape
      clear r3
      go_wp2_with fail
      refine (dec_lit w3 [10, 7, 0, 0] (by decide) (by decide) _ dec_C).mono ?_
      rintro e w4 ⟨v4, B4, rfl, r4, _, K4⟩
      obtain ⟨a4, c4, rfl⟩ := r4.shape
      clear r4
      go_wp2_with fail
      refine (enc_load w4).mono ?_
      rintro e w5 ⟨v5, g5, rfl, r5, _, K5⟩
      obtain ⟨a5, c5, rfl⟩ := r5.rd.shape
      clear r5
      go_wp2_with fail
      refine (enc_jump w5).mono ?_
      rintro e w6 ⟨v6, g6, rfl, r6, _, K6⟩
      obtain ⟨a6, c6, rfl⟩ := r6.rd.shape
      clear r6
      go_wp2_with fail
      refine (enc_retB w6).mono ?_
      rintro e w7 ⟨v7, g7, rfl, r7, _, K7⟩
      obtain ⟨a7, c7, rfl⟩ := r7.rd.shape
      clear r7
      go_wp2_with fail
      refine (enc_ret1 w7).mono ?_
      rintro e w8 ⟨v8, g8, rfl, r8, _, K8⟩
      obtain ⟨a8, c8, rfl⟩ := r8.rd.shape
      clear r8
      have hmk8 := HMK.out w8
      go_wp2_with fail
      refine (dec_zeros w8).mono ?_
      rintro e w9 ⟨v9, B9, rfl, r9, _, K9⟩
      obtain ⟨a9, c9, rfl⟩ := r9.shape
      clear r9 hmk8
      have HK : Hid (Kept (fun _ => False) wr w9) := by
        have t : ∀ {a b c : World}, Kept (fun _ => False) a b → Kept (fun _ => False) b c → Kept (fun _ => False) a c := fun h k => h.trans k (fun _ _ h => h) (fun _ _ h => h)
        exact t (t (t (t (t (t (t (t K1 K2) K3) K4) K5) K6) K7) K8) K9
      clear K1 K2 K3 K4 K5 K6 K7 K8 K9
      go_wp2_with fail
      refine (refs_lit w9).mono ?_
      rintro e wA ⟨vA, rfl, hTA, KA⟩
      have hb : IBlk (wA.alloc (.cells #[.int .i64 1, .int .i64 6] 3)) wA.heap.size [1, 6] := heap_alloc_new wA _
      have hTB : IwR (fun g => w9.heap.size ≤ g ∧ g < wA.heap.size) (wA.alloc (.cells #[.int .i64 1, .int .i64 6] 3)) vA [1, 6] := hTA.frame fun g hg => ⟨hg, Below.heap_alloc _ _ _ hg.2⟩
      have hsm := sameI _ (fun g => g = wA.heap.size) _ _ [1, 6] _ (by decide) hTB (hb.row (cap := 2) rfl (by decide))
      obtain ⟨ta, tc, rfl⟩ := hTA.shape
      have HKB : Hid (Kept (fun _ => False) wr (wA.alloc (.cells #[.int .i64 1, .int .i64 6] 3))) := (HK.out.trans KA (fun _ _ h => h) (fun _ _ h => h)).alloc _
      clear hb hTA hTB KA HK
      go_wp2_with fail
      refine hsm.mono ?_
      rintro e wB ⟨rfl, KB⟩
      have HKC : Hid (Kept (fun _ => False) wr wB) := HKB.out.trans KB (fun _ _ h => h) (fun _ _ h => h)
      clear hsm HKB KB
      go_wp2_with fail
      refine (known13 wB).mono ?_
      rintro e wC ⟨rfl, KC⟩
      go_wp2
      go_ret
      exact ⟨rfl, HKC.out.trans KC (fun _ _ h => h) (fun _ _ h => h)⟩

theorem ownCodeNumbers : ownKnob Try.prog.godebug = none := by kernel_rfl
set_option maxRecDepth 100000 in
theorem codeNumbers_lifted (os : Os) (started : os.Started) (H : Type) (enc : TypeId × Value → H) :
    ReturnsInHanded {} Try.checked os 3 .any (Rows.codeNumbersSpec.pre6 enc Try.prog Try.f3 Rows.codeNumbersRow.domain false) (Rows.codeNumbersSpec.post enc Try.prog Try.f3 false true false false) := by
  refine returnsInHanded_of_change (C := Try.checked) ownCodeNumbers started (by kernel_rfl) Try.func3
    (ChangeSpec.witness6 (enc := enc) (C := Try.checked) false ⟨#[], #[], []⟩ 8 (by kernel_rfl) (by kernel_rfl) (by kernel_rfl) (by kernel_rfl)) ?_
  intro W base args ds gs before hval0 hW hcnd _
  have hval : ∀ (j : Nat) t v, Try.f3.params[j]? = some t → args[j]? = some v → Value.okWide Try.prog W .any base t v := hval0
  have hW' := hW
  obtain ⟨p, q, hA0, hV, rfl, hfz, hnd⟩ := hW
  have hA : DataW.TrodAll enc Try.prog W 0 (fun _ => true) true Try.f3.params.toList args.toList ds p := hA0
  rw [Try.params3] at hA
  obtain ⟨hargs, rfl, rfl⟩ := trodAll_nil hA
  obtain rfl : args = #[] := by cases args; simp_all
  obtain ⟨rfl, rfl⟩ := trodVars_none hV
  clear hA0 hval0
  refine (codeNumbers_walk W).mono fun e W' ⟨he, hk⟩ => ?_
  subst he
  have bel : Below W.heap.size W W' := hk.below (Nat.le_refl _) (fun _ _ h => h)
  exact ⟨_, rfl, _, _, _, [], _, [], hW', trodAll_mk1 (shut_bool Try.underlying4 _), trodAll_mk0, rfl, bel.frame _, fun h => by cases h⟩

theorem codeNumbers_holds : Rows.CodeNumbersSaid :=
  OpenClaim.holds_of_wide 3 Try.f3 rfl rfl rfl rfl rfl rfl rfl ⟨rfl, rfl, rfl, rfl, rfl⟩ rfl rfl rfl rfl rfl (by kernel_rfl) Try.func3 (by kernel_rfl)
    (of_decide_eq_true (by kernel_rfl)) (by unfold Func.isWrapper; first | (rw [if_pos (by decide +kernel)]; kernel_rfl) | (rw [if_neg (by decide +kernel)]; exact ⟨rfl, rfl⟩))
    (fun os started H enc _ => codeNumbers_lifted os started H enc)
#print axioms codeNumbers_holds
end Go.Proofs.Ytbhcmhbicbhgmaa
