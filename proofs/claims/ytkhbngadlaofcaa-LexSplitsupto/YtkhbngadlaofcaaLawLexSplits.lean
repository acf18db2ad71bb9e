/-
  For any text of at most 1048576 bytes: the law LexSplits answers true: a text is parted, or refused, quoted, and told to be a name, as the document says. The condition is the second form's own.
-/
import Derived.Test.YtkhbngadlaofcaaRows
import Derived.Test.YtkhbngadlaofcaaLexKnown
import Derived.Test.YtkhbngadlaofcaaLexMath2
import Derived.Test.YtkhbngadlaofcaaLexRefQuote
import Derived.Test.YtkhbngadlaofcaaLexRefNames
import Derived.Test.YtkhbngadlaofcaaLexRefSplit
import Derived.ProofKit
import Derived.OpenShut
import Derived.ShutString
import Derived.SizedLaws
namespace Go.Proofs.Ytkhbngadlaofcaa
open Go.ChangeShapes Go.WideShapes Go.ChangeAt Go.RowKit
open Go.ChangeMaps (open_string shut_string)

theorem sameS (l : List Tok) (va vb : Value) (w : World) (hl : l.length ≤ 8193) (ha : RdT w va l) (hb : RdT w vb l) : Calls Try.prog 10 #[va, vb] w fun e w' => e = .returned (.bool true) ∧ Below w.heap.size w w' :=
  (same l va vb w hl ha hb).mono fun _ _ ⟨he, n, hn⟩ => ⟨he, by rw [hn]; exact drewN_below (Below.refl _ _) n⟩

set_option maxHeartbeats 4000000 in
set_option maxRecDepth 1000000 in
theorem lexSplits_walk (s : ByteArray) (w : World) (hs : s.size ≤ 1048576) : Calls Try.prog 4 #[.string s] w fun e w' => e = .returned (.bool true) ∧ Below w.heap.size w w' := by
  have hsp := split s
  have hrs := refSplit s
  have hpl := split_places s.data.toList
  have hn1 := fun w => name s w (by omega)
  have hn2 := fun w => refName s w (by omega)
  have hn3 := fun w => value s w (by omega)
  have hn4 := fun w => refValue s w (by omega)
  have hn5 := fun w => big s w (by omega)
  have hn6 := fun w => refBig s w (by omega)
  have hq1 := fun w => quote s w (by omega)
  have hq2 := fun w => refQuote s w (by omega)
  generalize nameR s.data.toList = b1 at *
  generalize valueR s.data.toList = b2 at *
  generalize bigR s.data.toList = b3 at *
  unfold TextE at hq1
  unfold RefTextE at hq2
  generalize str (quoteR s.data.toList) = z at *
  generalize splitR s.data.toList = r at *
  cases r with
  | error yb =>
    obtain ⟨y, b⟩ := yb
    clear hpl
    go_enter Try.func4, Try.ntmps4
    go_wp2_with fail
    refine (hsp _).mono ?_
    rintro e w1 ⟨he, hb1⟩
    simp only at he
    subst he
    go_wp2_with fail
    refine (hrs _).mono ?_
    rintro e w2 ⟨he, hb2⟩
    simp only at he
    subst he
    have B2 := hb1.trans (hb2.mono hb1.size)
    clear hb1 hb2
    go_wp2_with fail
    refine (sameS [] _ _ _ (by decide) (.inl ⟨rfl, rfl⟩) (.inl ⟨rfl, rfl⟩)).mono ?_
    rintro e w3 ⟨rfl, hb3⟩
    have B3 := B2.trans (hb3.mono B2.size)
    clear hb3 B2
    go_wp2_with fail
    refine (hn1 _).mono ?_
    rintro e w9 ⟨rfl, rfl⟩
    go_wp2_with fail
    refine (hn2 _).mono ?_
    rintro e w9 ⟨rfl, rfl⟩
    go_wp2_with fail
    refine (hn3 _).mono ?_
    rintro e w9 ⟨rfl, rfl⟩
    go_wp2_with fail
    refine (hn4 _).mono ?_
    rintro e w9 ⟨rfl, rfl⟩
    go_wp2_with fail
    refine (hn5 _).mono ?_
    rintro e w9 ⟨rfl, rfl⟩
    go_wp2_with fail
    refine (hn6 _).mono ?_
    rintro e w9 ⟨rfl, rfl⟩
    go_wp2_with fail
    refine (hq1 _).mono ?_
    rintro e w5 ⟨rfl, hb5⟩
    have B5 := B3.trans (hb5.mono B3.size)
    clear hb5 B3
    go_wp2_with fail
    refine (hq2 _).mono ?_
    rintro e w6 ⟨rfl, n6, rfl⟩
    have B6 := drewN_below B5 n6
    clear B5
    go_wp2_with fail
    refine (known _).mono ?_
    rintro e w7 ⟨rfl, hb7⟩
    have B7 := B6.trans (hb7.mono B6.size)
    go_wp2
    go_ret
    exact ⟨rfl, B7⟩

  | ok l =>
    have hpl1 := hpl l rfl
    have hll := places_length _ _ _ hpl1.1
    have h8 := hpl1.2
    clear hpl hpl1
    go_enter Try.func4, Try.ntmps4
    go_wp2_with fail
    refine (hsp _).mono ?_
    rintro e w1 ⟨⟨v1, rfl, ho1⟩, hb1⟩
    have hr1 := RdT.own ho1
    obtain ⟨a1, c1, rfl⟩ := hr1.shape
    clear ho1
    go_wp2_with fail
    refine (hrs _).mono ?_
    rintro e w2 ⟨⟨v2, rfl, ho2⟩, hb2⟩
    have hr2 := RdT.own ho2
    obtain ⟨a2, c2, rfl⟩ := hr2.shape
    have hr1' := hr1.below hb2
    have B2 := hb1.trans (hb2.mono hb1.size)
    clear ho2 hb1 hb2 hr1
    go_wp2_with fail
    refine (sameS l _ _ _ (by omega) hr1' hr2).mono ?_
    rintro e w3 ⟨rfl, hb3⟩
    have B3 := B2.trans (hb3.mono B2.size)
    clear hb3 B2 hr1' hr2
    go_wp2_with fail
    refine (hn1 _).mono ?_
    rintro e w9 ⟨rfl, rfl⟩
    go_wp2_with fail
    refine (hn2 _).mono ?_
    rintro e w9 ⟨rfl, rfl⟩
    go_wp2_with fail
    refine (hn3 _).mono ?_
    rintro e w9 ⟨rfl, rfl⟩
    go_wp2_with fail
    refine (hn4 _).mono ?_
    rintro e w9 ⟨rfl, rfl⟩
    go_wp2_with fail
    refine (hn5 _).mono ?_
    rintro e w9 ⟨rfl, rfl⟩
    go_wp2_with fail
    refine (hn6 _).mono ?_
    rintro e w9 ⟨rfl, rfl⟩
    go_wp2_with fail
    refine (hq1 _).mono ?_
    rintro e w5 ⟨rfl, hb5⟩
    have B5 := B3.trans (hb5.mono B3.size)
    clear hb5 B3
    go_wp2_with fail
    refine (hq2 _).mono ?_
    rintro e w6 ⟨rfl, n6, rfl⟩
    have B6 := drewN_below B5 n6
    clear B5
    go_wp2_with fail
    refine (known _).mono ?_
    rintro e w7 ⟨rfl, hb7⟩
    have B7 := B6.trans (hb7.mono B6.size)
    go_wp2
    go_ret
    exact ⟨rfl, B7⟩


theorem ownLexSplits : ownKnob Try.prog.godebug = none := by kernel_rfl
theorem lexSplits_contract (H : Type) (enc : TypeId × Value → H) (W : World) (base : Nat) (args : Array Value) (ds gs : List (DataW H)) (before : List MemPlace)
    (hval : ∀ (j : Nat) t v, Try.f4.params[j]? = some t → args[j]? = some v → Value.okWide Try.prog W .any base t v)
    (hW : DataW.Whole enc Try.prog Try.f4.params.toList Rows.lexSplitsSpec.vars false W args.toList ds gs before) (hk : Rows.uptoSmall H (ds ++ gs) = true) :
    Calls Try.prog 4 args W fun e W' => ∃ v, e = .returned v ∧ Rows.lexSplitsSpec.post enc Try.prog Try.f4 false true false false W args v W' := by
  have hW' := hW
  obtain ⟨p, q, hA0, hV, rfl, hfz, hnd⟩ := hW
  have hA : DataW.TrodAll enc Try.prog W 0 (fun _ => true) true Try.f4.params.toList args.toList ds p := hA0
  rw [Try.params4] at hA hval
  obtain ⟨v0, vs0, d0, ds0, p0, q0, hargs, rfl, rfl, h0, r0⟩ := trodAll_cons hA
  obtain ⟨rfl, rfl, rfl⟩ := trodAll_nil r0
  obtain rfl : args = #[v0] := by cases args; simp_all
  obtain ⟨rfl, rfl⟩ := trodVars_none hV
  obtain ⟨a0, rfl, rfl, rfl, w0⟩ := open_string Try.underlying9 (hval 0 9 v0 rfl rfl) h0
  have b0 : a0.size ≤ 1048576 := by
    have hb : Rows.uptoBulkAll ([.lit (.string a0.data.toList)] ++ ([] : List (DataW H))) ≤ 1048576 := of_decide_eq_true hk
    simp only [List.append_nil, Rows.uptoBulkAll, Rows.uptoBulk] at hb
    rw [size_len] at hb
    omega
  clear hA0
  refine (lexSplits_walk a0 W b0).mono fun e W' ⟨he, bel⟩ => ?_
  subst he
  exact ⟨_, rfl, _, _, _, [], _, [], hW', trodAll_mk1 (shut_bool Try.underlying4 _), (trodAll_cons_mk (shut_string Try.underlying9 w0) trodAll_mk0), rfl, bel.frame _, fun h => by cases h⟩

set_option maxRecDepth 100000 in
theorem lexSplits_lifted (os : Os) (started : os.Started) (H : Type) (enc : TypeId × Value → H) (F : Stop.Interp) :
    ReturnsInHanded {} Try.checked os 4 .any ((Rows.OpenSpec.upto Rows.lexSplitsSpec).pre6 enc Try.prog Try.f4 Rows.lexSplitsUptoRow.domain false) (((Rows.OpenSpec.upto Rows.lexSplitsSpec).at F).post enc Try.prog Try.f4 false true false false) := by
  refine returnsInHanded_of_cond (C := Try.checked) (s := Rows.OpenSpec.upto Rows.lexSplitsSpec) (k := Rows.uptoSmall) rfl ownLexSplits started (by kernel_rfl) Try.func4
    (OpenSpec.witness (enc := enc) (C := Try.checked) (s := Rows.OpenSpec.upto Rows.lexSplitsSpec) (k := Rows.uptoSmall) rfl false ⟨#[], #[.string ByteArray.empty], []⟩ 8 (by kernel_rfl) (by kernel_rfl) (by kernel_rfl)
      (x := ([.lit (.string [])], [], [])) (by kernel_rfl) rfl (by kernel_rfl)) ?_
  intro W base args ds gs before hval hW _ hk _
  exact lexSplits_contract H enc W base args ds gs before hval hW hk

theorem lexSplits_upto : Rows.LexSplitsUptoSaid :=
  OpenClaim.holds_of_cond 4 Try.f4 rfl rfl rfl rfl rfl rfl rfl ⟨rfl, rfl, rfl, rfl, rfl⟩ rfl rfl rfl rfl rfl (by kernel_rfl) Try.func4 (by kernel_rfl)
    (of_decide_eq_true (by kernel_rfl)) (by unfold Func.isWrapper; first | (rw [if_pos (by decide +kernel)]; kernel_rfl) | (rw [if_neg (by decide +kernel)]; exact ⟨rfl, rfl⟩))
    (fun os started H enc _ F => lexSplits_lifted os started H enc F)
#print axioms lexSplits_upto

end Go.Proofs.Ytkhbngadlaofcaa
