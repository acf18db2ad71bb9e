/-
  'known', the law's own run of the chapter's examples: it answers true.
-/
import Derived.Test.YtbhcmhbicbhgmaaCodeEnc
import Derived.Test.YtbhcmhbicbhgmaaCodeMore
namespace Go.Proofs.Ytbhcmhbicbhgmaa.Wire
open Go.RowKit

/-- Instructions that are written out, in a new block. -/
theorem ins_lit (w : World) (F : Nat → Prop) (ps : List (Ins × Value)) (hF : ∀ g, F g → g < w.heap.size) (hT : ∀ p ∈ ps, IwR F w p.2 p.1.tos) :
    InsR (fun g => F g ∨ g = w.heap.size) (w.alloc (.cells (ps.flatMap fun p => (insC p.1 p.2).toList).toArray 34)) (.slice (some ⟨w.heap.size, 0, none⟩) ps.length ps.length) (ps.map (·.1)) := by
  refine .inr ⟨w.heap.size, 0, ps.length, by rw [List.length_map], by rw [List.length_map]; exact Nat.le_refl _, .inr rfl, fun j x hj => ?_⟩
  rw [List.getElem?_map] at hj
  obtain ⟨p, hp, rfl⟩ := Option.map_eq_some_iff.1 hj
  obtain ⟨hlt, rfl⟩ := List.getElem?_eq_some_iff.1 hp
  refine ⟨ps[j].2, (hT _ (List.getElem_mem hlt)).frame fun g hg => ⟨.inl hg, Below.heap_alloc _ _ _ (hF g hg)⟩, fun k u hu => ?_⟩
  have hk : k < 7 := by
    obtain ⟨h, _⟩ := Array.getElem?_eq_some_iff.1 hu
    exact h
  have e := flat_at (sz := 7) (ps.map fun p => (p.1, (insC p.1 p.2).toList)) (fun q hq => by
    obtain ⟨z, _, rfl⟩ := List.mem_map.1 hq
    rfl) j (by simpa using hlt) k hk
  rw [List.flatMap_map] at e
  rw [cell_of_row _ _ _ _ _ _ (heap_alloc_new w _), List.getElem?_toArray, Nat.zero_add]
  rw [e]
  simpa using hu
def iPush : Ins := ⟨0, 1, 0, 0, 3, -1, [], []⟩
def iRet (pl : Int) : Ins := ⟨pl, 15, 0, 0, 0, 0, [], []⟩
theorem ok_push : EOk iPush := ⟨form_push, fun _ => head_push, by decide, .inl rfl⟩
theorem ok_ret (pl : Int) : EOk (iRet pl) := ⟨form_ret pl, fun _ => head_ret pl, by show ([15] : List Nat).length ≤ 300; decide, .inl rfl⟩
theorem known_enc : encodeR [iPush, iRet 3] = (0, [1, 6, 1, 15]) := by decide
theorem known_dec1 : decodeR [5, 0, 0] = ((0, 0), [⟨0, 5, 0, 0, 0, 0, [], [3]⟩]) := by kernel_rfl
theorem known_dec2 : decodeR [5] = ((10, 0), []) := by kernel_rfl
theorem fl3 : floatOfInt .f64 3 = 4613937818241073152 := by decide
theorem flm1 : floatOfInt .f64 (-1) = 13830554455654793216 := by decide
theorem fl0 : floatOfInt .f64 0 = 0 := by decide

/-- Encode of a list that is written out. -/
theorem enc_lit (w : World) (F : Nat → Prop) (ps : List (Ins × Value)) (hF : ∀ g, F g → g < w.heap.size) (hT : ∀ p ∈ ps, IwR F w p.2 p.1.tos) (hl : ps.length ≤ 1000) (hok : ∀ p ∈ ps, EOk p.1) (R : Nat × List Nat) (hR : encodeR (ps.map (·.1)) = R) :
    Calls Try.prog 8 #[.slice (some ⟨w.heap.size, 0, none⟩) ps.length ps.length] (w.alloc (.cells (ps.flatMap fun p => (insC p.1 p.2).toList).toArray 34)) (EncE R w) := by
  have h := cencode _ _ _ _ (ins_lit w F ps hF hT) (fun g hg => by
    rcases hg with h | h
    · have := hF g h
      simp
      omega
    · rw [h]; simp) (by rw [List.length_map]; exact hl) (fun i hi => by
    obtain ⟨p, hp, rfl⟩ := List.mem_map.1 hi
    exact hok p hp)
  rw [hR] at h
  refine h.mono ?_
  rintro e w1 ⟨v1, g1, h1, h2, h3, h4⟩
  exact ⟨v1, g1, h1, h2, by simp at h3; omega, ((Kept.refl _ w).alloc _).trans h4 (fun _ _ h => h) (fun _ _ h => h)⟩
def iLoad : Ins := ⟨0, 3, 256, 0, 0, 0, [], []⟩
def iJump : Ins := ⟨0, 5, 0, 0, 0, 0, [], [2]⟩
def iRetB : Ins := ⟨0, 15, 0, 1, 0, 0, [], []⟩
theorem ok_load : EOk iLoad := ⟨form_load, (fun h => by cases h), by decide, .inl rfl⟩
theorem ok_retB : EOk iRetB := ⟨form_retB, (fun h => by cases h), by decide, .inl rfl⟩
theorem ok_jump : EOk iJump := ⟨form_jump, fun _ => head_jump, by decide, .inr ⟨by decide, fun e => by
  show ((List.all [(2 : Int)] fun p => decide (((e + 1 + 2 * 1 : Nat) : Int) ≤ p ∧ p ≤ ((e + 1 + 2 * 1 : Nat) : Int) + 65535)) = false)
  simp only [List.all_cons, List.all_nil, Bool.and_true, decide_eq_false_iff_not]
  omega⟩⟩
theorem enc_known (w : World) : Calls Try.prog 8 #[.slice (some ⟨w.heap.size, 0, none⟩) 2 2] (w.alloc (.cells #[.int .i64 0, .int .i64 1, .int .i64 0, .int .i64 0, .complex .f64 4613937818241073152 13830554455654793216, .string ⟨#[]⟩, .slice none 0 0, .int .i64 3, .int .i64 15, .int .i64 0, .int .i64 0, .complex .f64 0 0, .string ⟨#[]⟩, .slice none 0 0] 34)) (EncE (0, [1, 6, 1, 15]) w) := by
  have h := enc_lit w (fun _ => False) [(iPush, .slice none 0 0), (iRet 3, .slice none 0 0)] (fun _ h => h.elim) (fun p hp => by
    simp only [List.mem_cons, List.not_mem_nil, or_false] at hp
    rcases hp with rfl | rfl <;> exact IwR.nil _ _) (by decide) (fun p hp => by
    simp only [List.mem_cons, List.not_mem_nil, or_false] at hp
    rcases hp with rfl | rfl
    · exact ok_push
    · exact ok_ret 3) (0, [1, 6, 1, 15]) (by decide)
  simp only [List.flatMap_cons, List.flatMap_nil, insC, iPush, iRet, List.append_nil, List.cons_append, List.nil_append, fl3, flm1, fl0, show toStr [] = ⟨#[]⟩ from rfl] at h
  exact h
theorem enc_load (w : World) : Calls Try.prog 8 #[.slice (some ⟨w.heap.size, 0, none⟩) 1 1] (w.alloc (.cells #[.int .i64 0, .int .i64 3, .int .i64 256, .int .i64 0, .complex .f64 0 0, .string ⟨#[]⟩, .slice none 0 0] 34)) (EncE (12, []) w) := by
  have h := enc_lit w (fun _ => False) [(iLoad, .slice none 0 0)] (fun _ h => h.elim) (fun p hp => by
    simp only [List.mem_cons, List.not_mem_nil, or_false] at hp
    rcases hp with rfl; exact IwR.nil _ _) (by decide) (fun p hp => by
    simp only [List.mem_cons, List.not_mem_nil, or_false] at hp
    rcases hp with rfl
    exact ok_load) (12, []) (by decide)
  simp only [List.flatMap_cons, List.flatMap_nil, insC, iLoad, List.append_nil, fl0, show toStr [] = ⟨#[]⟩ from rfl] at h
  exact h
theorem enc_retB (w : World) : Calls Try.prog 8 #[.slice (some ⟨w.heap.size, 0, none⟩) 1 1] (w.alloc (.cells #[.int .i64 0, .int .i64 15, .int .i64 0, .int .i64 1, .complex .f64 0 0, .string ⟨#[]⟩, .slice none 0 0] 34)) (EncE (12, []) w) := by
  have h := enc_lit w (fun _ => False) [(iRetB, .slice none 0 0)] (fun _ h => h.elim) (fun p hp => by
    simp only [List.mem_cons, List.not_mem_nil, or_false] at hp
    rcases hp with rfl; exact IwR.nil _ _) (by decide) (fun p hp => by
    simp only [List.mem_cons, List.not_mem_nil, or_false] at hp
    rcases hp with rfl
    exact ok_retB) (12, []) (by decide)
  simp only [List.flatMap_cons, List.flatMap_nil, insC, iRetB, List.append_nil, fl0, show toStr [] = ⟨#[]⟩ from rfl] at h
  exact h
theorem enc_ret1 (w : World) : Calls Try.prog 8 #[.slice (some ⟨w.heap.size, 0, none⟩) 1 1] (w.alloc (.cells #[.int .i64 1, .int .i64 15, .int .i64 0, .int .i64 0, .complex .f64 0 0, .string ⟨#[]⟩, .slice none 0 0] 34)) (EncE (22, []) w) := by
  have h := enc_lit w (fun _ => False) [(iRet 1, .slice none 0 0)] (fun _ h => h.elim) (fun p hp => by
    simp only [List.mem_cons, List.not_mem_nil, or_false] at hp
    rcases hp with rfl; exact IwR.nil _ _) (by decide) (fun p hp => by
    simp only [List.mem_cons, List.not_mem_nil, or_false] at hp
    rcases hp with rfl
    exact ok_ret 1) (22, []) (by decide)
  simp only [List.flatMap_cons, List.flatMap_nil, insC, iRet, List.append_nil, fl0, show toStr [] = ⟨#[]⟩ from rfl] at h
  exact h
theorem enc_jump (w : World) : Calls Try.prog 8 #[.slice (some ⟨w.heap.size + 1, 0, none⟩) 1 1] ((w.alloc (.cells #[.int .i64 2] 3)).alloc (.cells #[.int .i64 0, .int .i64 5, .int .i64 0, .int .i64 0, .complex .f64 0 0, .string ⟨#[]⟩, .slice (some ⟨w.heap.size, 0, none⟩) 1 1] 34)) (EncE (22, []) w) := by
  have hb : IBlk (w.alloc (.cells #[.int .i64 2] 3)) w.heap.size [2] := heap_alloc_new w _
  have h := enc_lit (w.alloc (.cells #[.int .i64 2] 3)) (fun g => g = w.heap.size) [(iJump, .slice (some ⟨w.heap.size, 0, none⟩) 1 1)] (fun g hg => by subst hg; simp) (fun p hp => by
    simp only [List.mem_cons, List.not_mem_nil, or_false] at hp
    subst hp
    exact hb.row rfl (by decide)) (by show 1 ≤ 1000; decide) (fun p hp => by
    simp only [List.mem_cons, List.not_mem_nil, or_false] at hp
    subst hp
    exact ok_jump) (22, []) (by show encodeR [iJump] = (22, []); decide)
  simp only [List.flatMap_cons, List.flatMap_nil, insC, iJump, List.append_nil, fl0, show toStr [] = ⟨#[]⟩ from rfl, World.size_alloc, List.length_cons, List.length_nil, Nat.zero_add] at h
  refine h.mono ?_
  rintro e w1 ⟨v1, g1, h1, h2, h3, h4⟩
  exact ⟨v1, g1, h1, h2, by simp at h3; omega, ((Kept.refl _ w).alloc _).trans h4 (fun _ _ h => h) (fun _ _ h => h)⟩

theorem dec_lit (w : World) (l : List Nat) (h256 : ∀ x ∈ l, x < 256) (hl : l.length ≤ 2000) (R : (Nat × Nat) × List Ins) (hR : decodeR l = R) : Calls Try.prog 7 #[.slice (some ⟨w.heap.size, 0, none⟩) l.length l.length] (w.alloc (.cells (bs l).toArray 5)) (DecE R w) := by
  have h := cdecode _ w.heap.size l _ h256 (by omega) (Row.lit w l (by unfold maxLen; omega)).rd
  rw [hR] at h
  refine h.mono ?_
  rintro e w1 ⟨v1, B, h1, h2, h3, h4⟩
  exact ⟨v1, B, h1, h2, by simp at h3; omega, ((Kept.refl _ w).alloc _).trans h4 (fun _ _ h => h) (fun _ _ h => h)⟩
set_option maxHeartbeats 2000000 in
set_option maxRecDepth 1000000 in
theorem known13 (w : World) : Calls Try.prog 11 #[] w (SameE w) := by
  have h1 := enc_known w
  have h2 := fun u => dec_lit u [5, 0, 0] (by decide) (by decide) _ known_dec1
  have h3 := fun u => dec_lit u [5] (by decide) (by decide) _ known_dec2
  go_enter Try.func11, Try.ntmps11
  go_wp2_with fail
  refine h1.mono ?_
  rintro e w1 ⟨v1, g1, rfl, hv1, hg1, K1⟩
  obtain ⟨a1, c1, rfl⟩ := hv1.rd.shape
  clear h1
  go_wp2_with fail
  refine (h2 w1).mono ?_
  rintro e w2 ⟨v2, B2, rfl, hv2, hB2, K2⟩
  obtain ⟨g2, p2, cc2, rfl, hc2, hg2, ⟨tv, rfl, hT2⟩, hcell⟩ := hv2.at cIns_ok 0 (by decide)
  obtain ⟨ta, tc, rfl⟩ := hT2.shape
  have d6 : w2.cell? ⟨g2, 6, none⟩ = some (.slice ta 1 tc) := hcell 6 _ rfl
  have hp2 : 1 ≤ p2 := hc2
  have hT2' : IwR (fun g => B2 ≤ g ∧ g < w2.heap.size) w2 (.slice ta 1 tc) [3] := hT2
  have hv1' := hv1.kept K2 (fun _ h => h)
  clear h2 hv2 hcell hc2 hT2
  go_wp2_with fail
  refine (h3 w2).mono ?_
  rintro e w3 ⟨v3, B3, rfl, hv3, hB3, K3⟩
  obtain ⟨a3, c3, rfl⟩ := hv3.shape
  have e6 := K3.cell d6 (fun h => h)
  have hv3' := hv1'.kept K3 (fun _ h => h)
  have hst : (convert 28 9 (.slice a1 4 c1)).run Try.prog w3 = .ok (.string ⟨#[1, 6, 1, 15]⟩) w3 := hv3'.rd.string
  have hb : IBlk (w3.alloc (.cells #[.int .i64 3] 3)) w3.heap.size [3] := heap_alloc_new w3 _
  have hT3 : IwR (fun g => B2 ≤ g ∧ g < w2.heap.size) (w3.alloc (.cells #[.int .i64 3] 3)) (.slice ta 1 tc) [3] := hT2'.frame fun g hg => ⟨hg, (Below.heap_alloc _ _ _ (Nat.lt_of_lt_of_le hg.2 K3.size)).trans (K3.block g hg.2 (fun h => h))⟩
  have hsm := sameI _ (fun g => g = w3.heap.size) _ _ [3] _ (by decide) hT3 (hb.row (cap := 1) rfl (by decide))
  have hKf : Kept (fun _ => False) w (w3.alloc (.cells #[.int .i64 3] 3)) := ((K1.trans K2 (fun _ _ h => h) (fun _ _ h => h)).trans K3 (fun _ _ h => h) (fun _ _ h => h)).alloc _
  clear h3 hv1 hv1' hv3' d6 hT2' hb hT3 hv3
  go_wp2_with fail
  refine hsm.mono ?_
  rintro e w4 ⟨rfl, K4⟩
  go_wp2
  go_ret
  exact ⟨rfl, hKf.trans K4 (fun _ _ h => h) (fun _ _ h => h)⟩
end Go.Proofs.Ytbhcmhbicbhgmaa.Wire
