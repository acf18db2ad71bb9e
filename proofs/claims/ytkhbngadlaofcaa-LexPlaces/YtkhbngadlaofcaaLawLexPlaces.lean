/-
  For any text: the law LexPlaces answers true: tokens stand one behind the other, where they say. No condition but those of the row.
-/
import Derived.Test.YtkhbngadlaofcaaRows
import Derived.Test.YtkhbngadlaofcaaLexKnown
import Derived.Test.YtkhbngadlaofcaaLexMath
import Derived.ProofKit
import Derived.OpenShut
import Derived.ShutString
import Derived.SizedLaws
namespace Go.Proofs.Ytkhbngadlaofcaa
open Go.ChangeShapes Go.WideShapes Go.ChangeAt Go.RowKit
open Go.ChangeMaps (open_string shut_string)

set_option maxHeartbeats 1600000 in
set_option maxRecDepth 1000000 in
theorem lexPlaces_walk (s : ByteArray) (w : World) : Calls Try.prog 6 #[.string s] w fun e w' => e = .returned (.bool true) ∧ Below w.heap.size w w' := by
  have hsp := split s
  have hpl0 := split_places s.data.toList
  have hwy := split_why s.data.toList
  generalize splitR s.data.toList = r at *
  cases r with
  | error yb =>
    obtain ⟨y, b⟩ := yb
    have hy := hwy y b rfl
    have hy' : ((y : Int) != 0) = true := by rw [bne_iff_ne]; omega
    clear hy hwy hpl0
    go_enter Try.func6, Try.ntmps6
    go_wp2_with fail
    refine (hsp _).mono ?_
    rintro e w1 ⟨he, hb1⟩
    simp only at he
    subst he
    go_wp2_with fail
    refine (known _).mono ?_
    rintro e w2 ⟨rfl, hb2⟩
    go_wp2
    go_ret
    exact ⟨rfl, hb1.trans (hb2.mono hb1.size)⟩
  | ok l =>
    obtain ⟨hpl1, hs8⟩ := hpl0 l rfl
    rw [size_len] at hs8
    have hll := places_length _ _ _ hpl1
    rw [size_len] at hll
    have hpl1' : Hid (places s.data.toList l 0) := hpl1
    clear hpl1 hwy hpl0
    go_enter Try.func6, Try.ntmps6
    go_wp2_with fail
    refine (hsp _).mono ?_
    rintro e w1 ⟨⟨v, rfl, ho⟩, hb1⟩
    have hr := RdT.own ho
    obtain ⟨aa, ca, rfl⟩ := hr.shape
    clear ho
    go_wp2
    go_loopg [6, 7] l.length (fun g x i wr => ∃ (k a : Nat), g + k = l.length ∧ i = .int .i64 k ∧ x = .int .i64 a ∧ Hid (places s.data.toList (l.drop k) a) ∧ Below w1.heap.size w1 wr)
    case atStart => exact ⟨0, 0, rfl, rfl, rfl, hpl1', Below.refl _ _⟩
    case round =>
      obtain ⟨k, a, hg, rfl, rfl, hp, hwr⟩ := hrel
      have hsz : w1.heap.size ≤ wr.heap.size := hwr.size
      by_cases hk : k < l.length
      · have hr2 := hr.below hwr
        rcases hr2 with ⟨h, rfl⟩ | ⟨ga, cap, h, hca⟩
        · simp at hk
        cases h
        obtain ⟨t0, t1, t2⟩ := tcs_get l k hk
        have a0 := hca _ _ t0
        have a1 := hca _ _ t1
        have a2 := hca _ _ t2
        have hlt := World.block_lt_of_cell? wr _ a0
        have hp2 := hp.out
        rw [List.drop_eq_getElem_cons hk] at hp2
        obtain ⟨h1, h2, h3⟩ := hp2
        rw [size_len] at h2
        have hz : (str l[k].text).size = l[k].text.length := rfl
        rw [← hz] at h3
        have hxt : l[k].kind = 3 → s.extract l[k].place (l[k].place + (str l[k].text).size) = str l[k].text := by
          intro h
          rcases h3 with ⟨h', _⟩ | ⟨h', _⟩ | ⟨_, _, h', _⟩ | ⟨h', _⟩
          · omega
          · omega
          · rw [extract_str, show l[k].place + (str l[k].text).size - l[k].place = (str l[k].text).size from by omega, h']
          · omega
        have hne : l[k].text ≠ [] → 0 < (str l[k].text).size := fun h => by rw [hz]; exact List.length_pos_iff.2 h
        clear hp hca t0 t1 t2 hz hr
        generalize l[k].place = p at *
        generalize str l[k].text = z at *
        generalize l[k].kind = kd at *
        generalize l[k].text = tx at *
        have h1' : ¬ (p : Int) < (a : Int) := by omega
        have h2' : ¬ (s.size : Int) ≤ (p : Int) := by omega
        have hpl : p < s.size := h2
        rcases h3 with ⟨hkd, hch, h4⟩ | ⟨hkd, hch, h4⟩ | ⟨hkd, hnn, _, h5, h4⟩ | ⟨hkd, hch, h4⟩
        · have HP : Hid (places s.data.toList (l.drop (k + 1)) (p + 1)) := h4
          have hq4 := places_length _ _ _ h4
          rw [size_len] at hq4
          have e0 : ((s[p].toNat : Int) != 40) = false := by
            obtain ⟨c, hc1, hc2⟩ := hch
            rw [Lib.data_getElem? s p hpl] at hc1
            cases hc1
            rw [bne_eq_false_iff_eq]
            omega
          rw [hkd] at a0
          clear hch h4 hkd
          go_wp2
          go_roundg (l.length - (k + 1))
          case measure => omega
          case rel => exact ⟨k + 1, p + 1, by omega, by go_num, by go_num, HP, hwr.alloc hsz _⟩

        · have HP : Hid (places s.data.toList (l.drop (k + 1)) (p + 1)) := h4
          have hq4 := places_length _ _ _ h4
          rw [size_len] at hq4
          have e0 : ((s[p].toNat : Int) != 41) = false := by
            obtain ⟨c, hc1, hc2⟩ := hch
            rw [Lib.data_getElem? s p hpl] at hc1
            cases hc1
            rw [bne_eq_false_iff_eq]
            omega
          rw [hkd] at a0
          clear hch h4 hkd
          go_wp2
          go_roundg (l.length - (k + 1))
          case measure => omega
          case rel => exact ⟨k + 1, p + 1, by omega, by go_num, by go_num, HP, hwr.alloc hsz _⟩

        · have HP : Hid (places s.data.toList (l.drop (k + 1)) (p + z.size)) := h4
          have hx := hxt hkd
          have hz0 := hne hnn
          have hz0' : ((z.size : Int) == 0) = false := by rw [beq_eq_false_iff_ne]; omega
          rw [hkd] at a0
          rw [size_len] at h5
          clear hxt hne hnn h4 hkd hz0
          have h5' : (p : Int) + (z.size : Int) ≤ (s.size : Int) := by omega
          go_wp2
          go_quiet (fail)
          go_wp2
          go_roundg (l.length - (k + 1))
          case measure => omega
          case rel => exact ⟨k + 1, p + z.size, by omega, by go_num, by go_num, HP, drewN_below (hwr.alloc hsz _) _⟩
        · have HP : Hid (places s.data.toList (l.drop (k + 1)) (p + z.size + 2)) := h4
          have hq4 := places_length _ _ _ h4
          rw [size_len] at hq4
          have e0 : ((s[p].toNat : Int) != 34) = false := by
            obtain ⟨c, hc1, hc2⟩ := hch
            rw [Lib.data_getElem? s p hpl] at hc1
            cases hc1
            rw [bne_eq_false_iff_eq]
            omega
          rw [hkd] at a0
          clear hch h4 hkd
          go_wp2
          go_roundg (l.length - (k + 1))
          case measure => omega
          case rel => exact ⟨k + 1, p + z.size + 2, by omega, by go_num, by go_num, HP, hwr.alloc hsz _⟩

      · have hk' : k = l.length := by omega
        subst hk'
        have hae := hp.out
        rw [List.drop_length] at hae
        have hae' : a ≤ s.data.toList.length := hae
        rw [size_len] at hae'
        have hai : (a : Int) ≤ (s.size : Int) := by omega
        clear hp hae hae' hr
        go_wp2_with fail
        refine (known _).mono ?_
        rintro e w2 ⟨rfl, hb2⟩
        go_wp2
        go_ret
        exact ⟨rfl, hb1.trans ((hwr.trans (hb2.mono hsz)).mono hb1.size)⟩

theorem ownLexPlaces : ownKnob Try.prog.godebug = none := by kernel_rfl
set_option maxRecDepth 100000 in
theorem lexPlaces_lifted (os : Os) (started : os.Started) (H : Type) (enc : TypeId × Value → H) :
    ReturnsInHanded {} Try.checked os 6 .any (Rows.lexPlacesSpec.pre6 enc Try.prog Try.f6 Rows.lexPlacesRow.domain false) (Rows.lexPlacesSpec.post enc Try.prog Try.f6 false true false false) := by
  refine returnsInHanded_of_change_sized (C := Try.checked) ownLexPlaces started (by kernel_rfl) Try.func6
    (ChangeSpec.witness6 (enc := enc) (C := Try.checked) false ⟨#[], #[.string ByteArray.empty], []⟩ 8 (by kernel_rfl) (by kernel_rfl) (by kernel_rfl) (by kernel_rfl)) ?_
  intro W base args ds gs before hval0 hW hcnd hsz0 _
  have hval : ∀ (j : Nat) t v, Try.f6.params[j]? = some t → args[j]? = some v → Value.okWide Try.prog W .any base t v := hval0
  have hsz : (DataW.weightsEach Try.prog (Try.f6.params.toList ++ Rows.lexPlacesSpec.plain.varTypes Try.prog) (ds ++ gs)).all (· ≤ reachBytes) = true := hsz0
  have hW' := hW
  obtain ⟨p, q, hA0, hV, rfl, hfz, hnd⟩ := hW
  have hA : DataW.TrodAll enc Try.prog W 0 (fun _ => true) true Try.f6.params.toList args.toList ds p := hA0
  rw [Try.params6] at hA hval hsz
  obtain ⟨v0, vs0, d0, ds0, p0, q0, hargs, rfl, rfl, h0, r0⟩ := trodAll_cons hA
  obtain ⟨rfl, rfl, rfl⟩ := trodAll_nil r0
  obtain rfl : args = #[v0] := by cases args; simp_all
  obtain ⟨rfl, rfl⟩ := trodVars_none hV
  obtain ⟨a0, rfl, rfl, rfl, w0⟩ := open_string Try.underlying9 (hval 0 9 v0 rfl rfl) h0
  have b0 : a0.size ≤ 140737488351232 := by
    have h1 := sized_string hsz (j := 0) (t := 9) rfl rfl
    have h2 : reachBytes = 140737488351232 := by decide
    have e1 : a0.size = a0.data.size := rfl
    have e2 : a0.data.toList.length = a0.data.size := Array.length_toList
    omega
  clear hA0 hval0
  simp only [List.append_nil] at hW'
  refine (lexPlaces_walk a0 W).mono fun e W' ⟨he, bel⟩ => ?_
  subst he
  exact ⟨_, rfl, _, _, _, [], _, [], hW', trodAll_mk1 (shut_bool Try.underlying4 _), (trodAll_cons_mk (shut_string Try.underlying9 w0) trodAll_mk0), rfl, bel.frame _, fun h => by cases h⟩

theorem lexPlaces_holds : Rows.LexPlacesSaid :=
  OpenClaim.holds_of_wide 6 Try.f6 rfl rfl rfl rfl rfl rfl rfl ⟨rfl, rfl, rfl, rfl, rfl⟩ rfl rfl rfl rfl rfl (by kernel_rfl) Try.func6 (by kernel_rfl)
    (of_decide_eq_true (by kernel_rfl)) (by unfold Func.isWrapper; first | (rw [if_pos (by decide +kernel)]; kernel_rfl) | (rw [if_neg (by decide +kernel)]; exact ⟨rfl, rfl⟩))
    (fun os started H enc _ => lexPlaces_lifted os started H enc)
#print axioms lexPlaces_holds

end Go.Proofs.Ytkhbngadlaofcaa
