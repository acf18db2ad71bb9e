/-
  Proved: for every text the law NumReads answers true: the package's Parse answers as the document says. The package-level tables of Go's own library that strconv.Itoa reads start as the program's text lays them (the card ties them); no other condition.
-/
import Derived.Test.YtldbfldonkcjmaaDoorLaid
import Derived.Test.YtldbfldonkcjmaaDoorTie
import Derived.Test.YtldbfldonkcjmaaDoorCards
namespace Go.Proofs.YtldbfldonkcjmaaDoor
open Go.ChangeShapes Go.WideShapes Go.ChangeAt Go.RowKit
open Go.ChangeMaps (open_string shut_string)

theorem fl_same (n : Int) (h : n.natAbs < 9007199254740992) : (FloatKind.f64.format.order (floatOfInt .f64 n) (floatOfInt .f64 n) == some .eq) = true := (Fl.eq (Fl.mk n h) (Fl.mk n h)).trans (decide_eq_true rfl)
theorem right3_le (p q : Int) : (right3 p q).1.natAbs ≤ 1048576 ∧ (right3 p q).2.1.natAbs ≤ 1048576 := by
  unfold right3
  split
  · assumption
  · exact ⟨by decide, by decide⟩
theorem tailW_le (N : ByteArray → Nat) (p : Int) (m : Bool) (s : ByteArray) : (tailW N p m s).1.natAbs ≤ 1048576 ∧ (tailW N p m s).2.1.natAbs ≤ 1048576 := by
  unfold tailW
  split
  · exact ⟨by decide, by decide⟩
  split
  · exact right3_le _ _
  · exact ⟨by decide, by decide⟩
theorem parseW_le (N : ByteArray → Nat) (s : ByteArray) : (parseW N s).1.natAbs ≤ 1048576 ∧ (parseW N s).2.1.natAbs ≤ 1048576 := by
  unfold parseW restW
  split
  · exact ⟨by decide, by decide⟩
  split
  · exact right3_le _ _
  split
  · exact right3_le _ _
  split
  · exact tailW_le _ _ _ _
  split
  · exact tailW_le _ _ _ _
  · exact ⟨by decide, by decide⟩

set_option maxHeartbeats 400000 in
set_option maxRecDepth 1000000 in
theorem numReads_walk (s : ByteArray) (hs : s.size ≤ 9223372036854775806) (w : World) (ht : Tab w) : Calls Tryd.prog 5 #[.string s] w (KnownE w) := by
  have h1 := parse s hs
  have h2 := rparse s hs
  have hb := parseW_le numB s
  rw [parseAB] at h1
  generalize parseW numB s = r at *
  obtain ⟨a, b, ok⟩ := r
  simp only at hb
  have q1 := fl_same a (by omega)
  have q2 := fl_same b (by omega)
  go_enter Tryd.func5, Tryd.ntmps5
  go_wp2_with fail
  refine (h1 _).mono ?_
  rintro e w1 ⟨rfl, n1, rfl⟩
  go_wp2_with fail
  refine (h2 _).mono ?_
  rintro e w2 ⟨rfl, n2, hw2⟩
  have k2 : Below w.heap.size w w2 := by rw [hw2]; exact (below_drewN w n1).trans (show Below w.heap.size (w.drewN n1) ((w.drewN n1).drewN n2) from below_drewN (w.drewN n1) n2)
  clear hw2
  go_wp2_with fail
  refine (known_true w2 (ht.below k2)).mono ?_
  rintro e w3 ⟨rfl, k3⟩
  have k4 := k2.trans (k3.mono k2.size)
  go_wp2
  go_ret
  exact ⟨rfl, k4⟩

set_option maxRecDepth 100000 in
theorem numReads_lifted (os : Os) (started : os.Started) (H : Type) (enc : TypeId × Value → H) :
    ReturnsInHanded {} Tryd.checked os 5 .any (fun w args => (Rows.numReadsSpec.pre enc Tryd.prog Tryd.f5 [] false w args ∧ laidMetH Tryd.prog laid3 w) ∧ sizedMet enc Tryd.prog Tryd.f5 (OpenSpec.ofChange Rows.numReadsSpec) false w args)
      (Rows.numReadsSpec.post enc Tryd.prog Tryd.f5 false true false false) := by
  refine returnsInHanded_of_change_and (C := Tryd.checked) (X := fun w _ => laidMetH Tryd.prog laid3 w) (fun _ _ _ hh h => h.of_heap hh) own started (by kernel_rfl) Tryd.func5
    (ChangeSpec.witness_shaped (enc := enc) (C := Tryd.checked) (os := os) (X := fun w _ => laidMetH Tryd.prog laid3 w) false (World.doorLaid Tryd.prog 400 os) #[.string ⟨#[]⟩] 8 rfl (World.shaped_of_RefB (by kernel_rfl) (by kernel_rfl)) (by kernel_rfl) (by kernel_rfl) (by kernel_rfl) (door_met os _)) ?_
  intro W base args ds gs before hval0 hW _ hsz0 hL _
  have hsz : (DataW.weightsEach Tryd.prog (Tryd.f5.params.toList ++ Rows.numReadsSpec.plain.varTypes Tryd.prog) (ds ++ gs)).all (· ≤ reachBytes) = true := hsz0
  clear hsz0
  have hval : ∀ (j : Nat) t v, Tryd.f5.params[j]? = some t → args[j]? = some v → Value.okWide Tryd.prog W .any base t v := hval0
  have hW' := hW
  obtain ⟨p, q, hA0, hV, rfl, hfz, hnd⟩ := hW
  have hA : DataW.TrodAll enc Tryd.prog W 0 (fun _ => true) true Tryd.f5.params.toList args.toList ds p := hA0
  rw [Tryd.params5] at hA hval hsz
  obtain ⟨v0, d0, rfl, rfl, h0⟩ := trodAll_one hA
  obtain ⟨rfl, rfl⟩ := trodVars_none hV
  obtain ⟨s, rfl, rfl, rfl, ws⟩ := open_string Tryd.underlying9 (hval 0 9 v0 rfl rfl) h0
  clear hA0 hval0
  simp only [List.append_nil] at hW'
  have hlim : s.size ≤ 9223372036854775806 := by
    have h1 := sized_string hsz (j := 0) (t := 9) rfl rfl
    have h2 := reachBytes_lt
    have e1 : s.size = s.data.size := rfl
    have e2 : s.data.toList.length = s.data.size := Array.length_toList
    have e3 : (2 : Nat) ^ 47 = 140737488355328 := by decide
    omega
  refine (numReads_walk s hlim W (of_laid hL)).mono fun e W' ⟨he, bel⟩ => ?_
  subst he
  exact ⟨_, rfl, _, _, _, [], _, [], hW', trodAll_mk1 (shut_bool Tryd.underlying4 _), trodAll_mk1 (shut_string Tryd.underlying9 ws), rfl, bel.frame _, fun h => by cases h⟩

theorem numReads_row : Rows.NumReadsSaid :=
  OpenClaim.holds_of_wide 5 Tryd.f5 rfl rfl rfl rfl rfl rfl rfl ⟨rfl, rfl, rfl, rfl, rfl⟩ rfl rfl rfl rfl rfl (by kernel_rfl) Tryd.func5 (by kernel_rfl)
    (of_decide_eq_true (by kernel_rfl)) (by unfold Func.isWrapper; first | (rw [if_pos (by decide +kernel)]; kernel_rfl) | (rw [if_neg (by decide +kernel)]; exact ⟨rfl, rfl⟩))
    (fun os started H enc _ => numReads_lifted os started H enc)

theorem numReads_holds : Rows.NumReadsCardSaid :=
  Claim7.holds_tied_plain_at .later [] [.data, .data, .data] true (true, "560217b44383308e6c58264b02c7de48a200efba491b2156d91fae7b25f154b9") false
    numReads_row (fun _ h => by cases h) (by kernel_rfl) (fun _ h => by cases h) numReads_row_tie rfl ⟨rfl, rfl⟩ (by kernel_rfl) rfl
    (fun f fn hf hfn => by
      obtain rfl : f = 5 := Option.some.inj ((show Tryd.prog.funcNamed "hawser/hawserlaw2.NumReads" = some 5 by kernel_rfl).symm.trans hf) |>.symm
      obtain rfl : fn = Tryd.f5 := (Option.some.inj (Tryd.func5.symm.trans hfn)).symm
      exact ⟨by kernel_rfl, fun j t ht => by
        rw [Tryd.params5] at ht
        have hm : t ∈ [9] := by simpa using Array.mem_of_getElem? ht
        have hall : ([9].all fun u => !Tryd.prog.wantsStandIn u) = true := by kernel_rfl
        exact (show Tryd.prog.wantsStandIn t = false by simpa using List.all_eq_true.1 hall t hm)⟩)
    (by kernel_rfl)
#print axioms numReads_holds
end Go.Proofs.YtldbfldonkcjmaaDoor
