/-
  Proved: for every text and every four floats the law NumReckons answers true: Two, One, Index, Less, Right and Text answer as the document says, whether the numbers are right or not. The package-level tables of the library that strconv.Itoa reads start as the program's text lays them (the card ties them); no other condition.
-/
import Derived.Test.YtldbfldonkcjmaaDoorLaid
import Derived.Test.YtldbfldonkcjmaaDoorTie
import Derived.Test.YtldbfldonkcjmaaDoorCards
namespace Go.Proofs.YtldbfldonkcjmaaDoor
open Go.ChangeShapes Go.WideShapes Go.ChangeAt Go.RowKit
open Go.ChangeMaps (open_string shut_string)

/-- What the package and the document answer alike, of two numbers. -/
structure Both (op : ByteArray) (p1 p2 q1 q2 : Nat) (S T : Int × Int × Int) (n : Int) (ok l r : Bool) (t : ByteArray) : Prop where
  two : ∀ w, Calls Tryd.prog 11 #[.string op, .complex .f64 p1 p2, .complex .f64 q1 q2] w (NumE S w)
  rtwo : ∀ w, Calls Tryd.prog 17 #[.string op, .complex .f64 p1 p2, .complex .f64 q1 q2] w (NumE S w)
  one : ∀ w, Calls Tryd.prog 10 #[.string op, .complex .f64 p1 p2] w (NumE T w)
  rone : ∀ w, Calls Tryd.prog 18 #[.string op, .complex .f64 p1 p2] w (NumE T w)
  idx : ∀ w, Calls Tryd.prog 13 #[.complex .f64 p1 p2] w (Pu (.tuple #[.int .i64 n, .bool ok]) w)
  ridx : ∀ w, Calls Tryd.prog 19 #[.complex .f64 p1 p2] w (Pu (.tuple #[.int .i64 n, .bool ok]) w)
  less : ∀ w, Calls Tryd.prog 20 #[.complex .f64 p1 p2, .complex .f64 q1 q2] w (Pu (.bool l) w)
  rless : ∀ w, Calls Tryd.prog 21 #[.complex .f64 p1 p2, .complex .f64 q1 q2] w (Pu (.bool l) w)
  right : ∀ w, Calls Tryd.prog 15 #[.complex .f64 p1 p2] w (Pu (.bool r) w)
  rright : ∀ w, Calls Tryd.prog 22 #[.complex .f64 p1 p2] w (Pu (.bool r) w)
  text : ∀ w, Tab w → Calls Tryd.prog 14 #[.complex .f64 p1 p2] w (TextE t w)
  rtext : ∀ w, Calls Tryd.prog 23 #[.complex .f64 p1 p2] w (Pu (.string t) w)

theorem both (op : ByteArray) (p1 p2 q1 q2 : Nat) (h1 : p1 < 18446744073709551616) (h2 : p2 < 18446744073709551616) (h3 : q1 < 18446744073709551616) (h4 : q2 < 18446744073709551616) : ∃ S T n ok l r t, Both op p1 p2 q1 q2 S T n ok l r t := by
  by_cases hp : NotRt p1 ∨ NotRt p2
  · exact ⟨_, _, _, _, _, _, _, two_arg op p1 p2 q1 q2 h1 h2 h3 h4 (.inl hp), rtwo_arg op p1 p2 q1 q2 (.inl hp), one_arg op p1 p2 h1 h2 hp, rone_arg op p1 p2 hp, index_no p1 p2 h1 h2 hp, rindex_no p1 p2 hp, less_no p1 p2 q1 q2 h1 h2 h3 h4 (.inl hp), rless_no p1 p2 q1 q2 (.inl hp), right_no p1 p2 h1 h2 hp, rright_no p1 p2 hp, fun w _ => text_no p1 p2 h1 h2 hp w, rtext_no p1 p2 hp⟩
  · obtain ⟨a, ha⟩ : ∃ v, Rt p1 v := (rt_or p1).resolve_right (fun h => hp (.inl h))
    obtain ⟨b, hb⟩ : ∃ v, Rt p2 v := (rt_or p2).resolve_right (fun h => hp (.inr h))
    by_cases hq : NotRt q1 ∨ NotRt q2
    · exact ⟨_, _, _, _, _, _, _, two_arg op p1 p2 q1 q2 h1 h2 h3 h4 (.inr hq), rtwo_arg op p1 p2 q1 q2 (.inr hq), one_right op p1 p2 a b h1 h2 ha hb, rone_right op p1 p2 a b ha hb, index_right p1 p2 a b h1 h2 ha hb, rindex_right p1 p2 a b ha hb, less_no p1 p2 q1 q2 h1 h2 h3 h4 (.inr hq), rless_no p1 p2 q1 q2 (.inr hq), right_yes p1 p2 a b h1 h2 ha hb, rright_yes p1 p2 a b ha hb, text_right p1 p2 a b h1 h2 ha hb, rtext_right p1 p2 a b ha hb⟩
    · obtain ⟨c, hc⟩ : ∃ v, Rt q1 v := (rt_or q1).resolve_right (fun h => hq (.inl h))
      obtain ⟨d, hd⟩ : ∃ v, Rt q2 v := (rt_or q2).resolve_right (fun h => hq (.inr h))
      exact ⟨_, _, _, _, _, _, _, two_right op p1 p2 q1 q2 a b c d h1 h2 h3 h4 ha hb hc hd, rtwo_right op p1 p2 q1 q2 a b c d ha hb hc hd, one_right op p1 p2 a b h1 h2 ha hb, rone_right op p1 p2 a b ha hb, index_right p1 p2 a b h1 h2 ha hb, rindex_right p1 p2 a b ha hb, less_right p1 p2 q1 q2 a b c d h1 h2 h3 h4 ha hb hc hd, rless_right p1 p2 q1 q2 a b c d ha hb hc hd, right_yes p1 p2 a b h1 h2 ha hb, rright_yes p1 p2 a b ha hb, text_right p1 p2 a b h1 h2 ha hb, rtext_right p1 p2 a b ha hb⟩

theorem eqF' {x y : Nat} {a : Int} (hx : Fl x a) (hy : Fl y a) : (FloatKind.f64.format.order x y == some .eq) = true := (Fl.eq hx hy).trans (decide_eq_true rfl)

set_option maxHeartbeats 1600000 in
set_option maxRecDepth 1000000 in
theorem numReckons_walk (op : ByteArray) (a b c d : Nat) (ha : a < 18446744073709551616) (hb : b < 18446744073709551616) (hc : c < 18446744073709551616) (hd : d < 18446744073709551616) (w : World) (ht : Tab w) :
    Calls Tryd.prog 4 #[.string op, .float .f64 a, .float .f64 b, .float .f64 c, .float .f64 d] w (KnownE w) := by
  go_enter Tryd.func4, Tryd.ntmps4
  go_wp2
  go_loopg [11, 12, 13] 2 (fun g p q i wr => ∃ (k p1 p2 q1 q2 : Nat), g + k = 2 ∧ p = .complex .f64 p1 p2 ∧ q = .complex .f64 q1 q2 ∧ i = .int .i64 k ∧ p1 < 18446744073709551616 ∧ p2 < 18446744073709551616 ∧ q1 < 18446744073709551616 ∧ q2 < 18446744073709551616 ∧ Below w.heap.size w wr)
  case atStart => exact ⟨0, a, b, c, d, rfl, rfl, rfl, rfl, ha, hb, hc, hd, Below.refl _ _⟩
  case round =>
    obtain ⟨k, p1, p2, q1, q2, hg, rfl, rfl, rfl, h1, h2, h3, h4, bel⟩ := hrel
    have htr := ht.below bel
    by_cases hk : k < 2
    · obtain ⟨S, T, n, ok, l, r, t, B⟩ := both op p1 p2 q1 q2 h1 h2 h3 h4
      go_wp2_with fail
      refine (B.two _).mono ?_
      rintro e w1 ⟨x1, x2, rfl, f1, f2, -, -, -, -, rfl⟩
      go_wp2_with fail
      refine (B.rtwo _).mono ?_
      rintro e w1 ⟨y1, y2, rfl, f3, f4, -, -, -, -, rfl⟩
      have e1 := eqF' f1 f3
      have e2 := eqF' f2 f4
      clear f1 f2 f3 f4
      go_wp2_with fail
      refine (B.one _).mono ?_
      rintro e w1 ⟨z1, z2, rfl, f1, f2, -, -, -, -, rfl⟩
      go_wp2_with fail
      refine (B.rone _).mono ?_
      rintro e w1 ⟨v1, v2, rfl, f3, f4, -, -, -, -, rfl⟩
      have e3 := eqF' f1 f3
      have e4 := eqF' f2 f4
      clear f1 f2 f3 f4
      go_wp2_with fail
      refine (B.idx _).mono ?_
      rintro e w1 ⟨rfl, rfl⟩
      go_wp2_with fail
      refine (B.ridx _).mono ?_
      rintro e w1 ⟨rfl, rfl⟩
      go_wp2_with fail
      refine (B.less _).mono ?_
      rintro e w1 ⟨rfl, rfl⟩
      go_wp2_with fail
      refine (B.rless _).mono ?_
      rintro e w1 ⟨rfl, rfl⟩
      go_wp2_with fail
      refine (B.right _).mono ?_
      rintro e w1 ⟨rfl, rfl⟩
      go_wp2_with fail
      refine (B.rright _).mono ?_
      rintro e w1 ⟨rfl, rfl⟩
      go_wp2_with fail
      refine (B.text _ htr).mono ?_
      rintro e w2 ⟨rfl, k2⟩
      have bel2 := bel.trans (k2.mono bel.size)
      go_wp2_with fail
      refine (B.rtext _).mono ?_
      rintro e w3 ⟨rfl, rfl⟩
      clear B e1 e2 e3 e4 k2
      go_wp2_with fail
      refine (whole a _).mono ?_
      rintro e w3 ⟨⟨na, rfl, na0, na1⟩, rfl⟩
      go_wp2_with fail
      refine (whole b _).mono ?_
      rintro e w3 ⟨⟨nb, rfl, nb0, nb1⟩, rfl⟩
      go_wp2_with fail
      refine (near na nb na0 na1 nb0 nb1 _).mono ?_
      rintro e w3 ⟨rfl, rfl⟩
      go_wp2_with fail
      refine (whole c _).mono ?_
      rintro e w3 ⟨⟨nc, rfl, nc0, nc1⟩, rfl⟩
      go_wp2_with fail
      refine (whole d _).mono ?_
      rintro e w3 ⟨⟨nd, rfl, nd0, nd1⟩, rfl⟩
      go_wp2_with fail
      refine (near nc nd nc0 nc1 nd0 nd1 _).mono ?_
      rintro e w3 ⟨rfl, rfl⟩
      go_wp2
      go_roundg (2 - (k + 1))
      case measure => omega
      case rel => exact ⟨k + 1, _, _, _, _, by omega, rfl, rfl, by go_num, fl_lt _, fl_lt _, fl_lt _, fl_lt _, bel2⟩
    · go_wp2_with fail
      refine (known_true _ htr).mono ?_
      rintro e w5 ⟨rfl, k5⟩
      have k6 := bel.trans (k5.mono bel.size)
      go_wp2
      go_ret
      exact ⟨rfl, k6⟩

set_option maxRecDepth 100000 in
theorem numReckons_lifted (os : Os) (started : os.Started) (H : Type) (enc : TypeId × Value → H) :
    ReturnsInHanded {} Tryd.checked os 4 .any (fun w args => (Rows.numReckonsSpec.pre enc Tryd.prog Tryd.f4 [] false w args ∧ laidMetH Tryd.prog laid3 w) ∧ sizedMet enc Tryd.prog Tryd.f4 (OpenSpec.ofChange Rows.numReckonsSpec) false w args)
      (Rows.numReckonsSpec.post enc Tryd.prog Tryd.f4 false true false false) := by
  refine returnsInHanded_of_change_and (C := Tryd.checked) (X := fun w _ => laidMetH Tryd.prog laid3 w) (fun _ _ _ hh h => h.of_heap hh) own started (by kernel_rfl) Tryd.func4
    (ChangeSpec.witness_shaped (enc := enc) (C := Tryd.checked) (os := os) (X := fun w _ => laidMetH Tryd.prog laid3 w) false (World.doorLaid Tryd.prog 400 os) #[.string ⟨#[]⟩, .float .f64 0, .float .f64 0, .float .f64 0, .float .f64 0] 8 rfl (World.shaped_of_RefB (by kernel_rfl) (by kernel_rfl)) (by kernel_rfl) (by kernel_rfl) (by kernel_rfl) (door_met os _)) ?_
  intro W base args ds gs before hval0 hW _ hsz0 hL _
  have hsz : (DataW.weightsEach Tryd.prog (Tryd.f4.params.toList ++ Rows.numReckonsSpec.plain.varTypes Tryd.prog) (ds ++ gs)).all (· ≤ reachBytes) = true := hsz0
  clear hsz0
  have hval : ∀ (j : Nat) t v, Tryd.f4.params[j]? = some t → args[j]? = some v → Value.okWide Tryd.prog W .any base t v := hval0
  have hW' := hW
  obtain ⟨p, q, hA0, hV, rfl, hfz, hnd⟩ := hW
  have hA : DataW.TrodAll enc Tryd.prog W 0 (fun _ => true) true Tryd.f4.params.toList args.toList ds p := hA0
  rw [Tryd.params4] at hA hval hsz
  obtain ⟨v0, vs0, d0, ds0, p0, q0, hargs, rfl, rfl, h0, r0⟩ := trodAll_cons hA
  obtain ⟨v1, vs1, d1, ds1, p1, q1, rfl, rfl, rfl, h1, r1⟩ := trodAll_cons r0
  obtain ⟨v2, vs2, d2, ds2, p2, q2, rfl, rfl, rfl, h2, r2⟩ := trodAll_cons r1
  obtain ⟨v3, vs3, d3, ds3, p3, q3, rfl, rfl, rfl, h3, r3⟩ := trodAll_cons r2
  obtain ⟨v4, vs4, d4, ds4, p4, q4, rfl, rfl, rfl, h4, r4⟩ := trodAll_cons r3
  obtain ⟨rfl, rfl, rfl⟩ := trodAll_nil r4
  obtain rfl : args = #[v0, v1, v2, v3, v4] := by cases args; simp_all
  obtain ⟨rfl, rfl⟩ := trodVars_none hV
  obtain ⟨a0, rfl, rfl, rfl, w0⟩ := open_string Tryd.underlying9 (hval 0 9 v0 rfl rfl) h0
  have b0 : a0.size ≤ 140737488351232 := by
    have h1 := sized_string hsz (j := 0) (t := 9) rfl rfl
    have h2 : reachBytes = 140737488351232 := by decide
    have e1 : a0.size = a0.data.size := rfl
    have e2 : a0.data.toList.length = a0.data.size := Array.length_toList
    omega
  obtain ⟨a1, rfl, rfl, rfl, w1⟩ := open_float Tryd.underlying31 (hval 1 31 v1 rfl rfl) h1
  have b1 : a1 < 18446744073709551616 := by simpa [Lit.wf] using w1
  obtain ⟨a2, rfl, rfl, rfl, w2⟩ := open_float Tryd.underlying31 (hval 2 31 v2 rfl rfl) h2
  have b2 : a2 < 18446744073709551616 := by simpa [Lit.wf] using w2
  obtain ⟨a3, rfl, rfl, rfl, w3⟩ := open_float Tryd.underlying31 (hval 3 31 v3 rfl rfl) h3
  have b3 : a3 < 18446744073709551616 := by simpa [Lit.wf] using w3
  obtain ⟨a4, rfl, rfl, rfl, w4⟩ := open_float Tryd.underlying31 (hval 4 31 v4 rfl rfl) h4
  have b4 : a4 < 18446744073709551616 := by simpa [Lit.wf] using w4
  clear hA0 hval0
  simp only [List.append_nil] at hW'
  refine (numReckons_walk a0 a1 a2 a3 a4 b1 b2 b3 b4 W (of_laid hL)).mono fun e W' ⟨he, bel⟩ => ?_
  subst he
  exact ⟨_, rfl, _, _, _, [], _, [], hW', trodAll_mk1 (shut_bool Tryd.underlying4 _), (trodAll_cons_mk (shut_string Tryd.underlying9 w0) (trodAll_cons_mk (shut_float Tryd.underlying31 w1) (trodAll_cons_mk (shut_float Tryd.underlying31 w2) (trodAll_cons_mk (shut_float Tryd.underlying31 w3) (trodAll_cons_mk (shut_float Tryd.underlying31 w4) trodAll_mk0))))), rfl, bel.frame _, fun h => by cases h⟩

theorem numReckons_row : Rows.NumReckonsSaid :=
  OpenClaim.holds_of_wide 4 Tryd.f4 rfl rfl rfl rfl rfl rfl rfl ⟨rfl, rfl, rfl, rfl, rfl⟩ rfl rfl rfl rfl rfl (by kernel_rfl) Tryd.func4 (by kernel_rfl)
    (of_decide_eq_true (by kernel_rfl)) (by unfold Func.isWrapper; first | (rw [if_pos (by decide +kernel)]; kernel_rfl) | (rw [if_neg (by decide +kernel)]; exact ⟨rfl, rfl⟩))
    (fun os started H enc _ => numReckons_lifted os started H enc)

theorem numReckons_holds : Rows.NumReckonsCardSaid :=
  Claim7.holds_tied_plain_at .later [] [.data, .data, .data] true (true, "560217b44383308e6c58264b02c7de48a200efba491b2156d91fae7b25f154b9") false
    numReckons_row (fun _ h => by cases h) (by kernel_rfl) (fun _ h => by cases h) numReckons_row_tie rfl ⟨rfl, rfl⟩ (by kernel_rfl) rfl
    (fun f fn hf hfn => by
      obtain rfl : f = 4 := Option.some.inj ((show Tryd.prog.funcNamed "hawser/hawserlaw2.NumReckons" = some 4 by kernel_rfl).symm.trans hf) |>.symm
      obtain rfl : fn = Tryd.f4 := (Option.some.inj (Tryd.func4.symm.trans hfn)).symm
      exact ⟨by kernel_rfl, fun j t ht => by
        rw [Tryd.params4] at ht
        have hm : t ∈ [9, 31, 31, 31, 31] := by simpa using Array.mem_of_getElem? ht
        have hall : ([9, 31, 31, 31, 31].all fun u => !Tryd.prog.wantsStandIn u) = true := by kernel_rfl
        exact (show Tryd.prog.wantsStandIn t = false by simpa using List.all_eq_true.1 hall t hm)⟩)
    (by kernel_rfl)
#print axioms numReckons_holds
end Go.Proofs.YtldbfldonkcjmaaDoor
