/-
  TypesBack: what is made of types is a type, if it is not too long, and its parts are these: for any numbers. No condition but those of the row.
-/
import Derived.Deep.LoopGhost
import Derived.Test.YtcjlifhehiolkaaRows
import Derived.Test.YtcjlifhehiolkaaTypesMadeS
import Derived.ProofKit
import Derived.OpenShut
import Derived.Deep.Slices
namespace Go.Proofs.Ytcjlifhehiolkaa
open Go.ChangeShapes Go.WideShapes Go.ChangeAt Go.RowKit Go.Deep

theorem ints_rows {H : Type} {enc : TypeId × Value → H} {W : World} {fuel : Nat} {a0 : Option Addr} {len0 cap0 : Nat} {x : DataW H × List MemPlace} (hf : DataW.trod enc Try.prog W 0 (fun _ => true) true fuel 43 [.slice a0 len0 cap0] = some x) :
    ∃ zs : List Int, zs.length = len0 ∧ len0 ≤ cap0 ∧ cap0 ≤ maxLen ∧ (∀ z ∈ zs, -9223372036854775808 ≤ z ∧ z ≤ 9223372036854775807) ∧ (0 < len0 → ∃ b, a0 = some b) ∧ ∀ b, a0 = some b → 0 < len0 → b.block < W.heap.size ∧ ∀ (j : Nat) z, zs[j]? = some z → W.cell? (b.add j) = some (.int .i64 z) := by
  rcases open_ints Try.underlying43 Try.underlying3 (by kernel_rfl) hf with ⟨hcs, _⟩ | ⟨a, ln, c, zs, hcs, _, hl, hm, hz, _, hcell, hwz⟩
  · simp at hcs
    obtain ⟨rfl, rfl, rfl⟩ := hcs
    exact ⟨[], rfl, Nat.le_refl _, by unfold maxLen; omega, by simp, by simp, by simp⟩
  · simp at hcs
    obtain ⟨rfl, rfl, rfl⟩ := hcs
    simp at hz
    have hc : ∀ (j : Nat) z, (zs.take len0)[j]? = some z → W.cell? (a.add j) = some (.int .i64 z) := by
      intro j z hj
      rw [List.getElem?_take] at hj
      split at hj
      · have hlt : j < zs.length := (List.getElem?_eq_some_iff.1 hj).1
        rw [hcell j hlt]
        simp [List.getD, hj]
      · cases hj
    refine ⟨zs.take len0, by rw [List.length_take]; omega, hl, hm, fun z h => bounds_i64 (hwz z (List.mem_of_mem_take h)), fun _ => ⟨a, rfl⟩, fun b hb h0 => ?_⟩
    cases hb
    refine ⟨?_, hc⟩
    have h1 : 0 < (zs.take len0).length := by rw [List.length_take]; omega
    have := World.block_lt_of_cell? W _ (hc 0 _ (List.getElem?_eq_getElem h1))
    rwa [add_block] at this

theorem func_fn (ps : List (List UInt8)) (r : List UInt8) (h1 : ∀ x ∈ ps, one x = some []) (h2 : one r = some []) (h3 : ps.length ≤ 6) (h4 : (funcR ps r).length ≤ 200) : rightR (funcR ps r) = true := by
  rw [rightR, decide_eq_true h4, one_funcR h1 h2 h3]
  simp
theorem arr_right (r : List UInt8) (h2 : one r = some []) (h4 : (arrR r).length ≤ 200) : rightR (arrR r) = true := by
  rw [rightR, decide_eq_true h4, one_arrR h2]
  simp
theorem arrR_elem (x : List UInt8) : elemR (arrR x) = x := by simp [elemR, arrR]
theorem at_start (w : World) : AtIs (w.alloc (.cells #[.int .i64 0] 3)) w.heap.size 0 := heap_alloc_new w _
theorem below_kept {w w' : World} {o : Obj} (h : Kept (fun b => b = w.heap.size) (w.alloc o) w') : Below w.heap.size w w' :=
  ((Below.refl _ _).alloc (Nat.le_refl _) o).trans (h.below (by simp) (fun k hk e => by omega))

set_option maxHeartbeats 4000000 in
set_option maxRecDepth 1000000 in
theorem back_walk (lv : Value) (zs : List Int) (w : World) (hrow : ∀ ba, w.heap.size ≤ ba → IntRow w ba lv zs) (hz : zs.length ≤ 9223372036854775807) : Calls Try.prog 4 #[lv] w (KnownE w) := by
  have hk := known
  have hA0 := at_start w
  have hI0 : IntRow (w.alloc (.cells #[.int .i64 0] 3)) w.heap.size lv zs := (hrow w.heap.size (Nat.le_refl _)).kept ((Kept.refl _ w).alloc _)
  obtain ⟨la, lc, rfl⟩ := hI0.shape
  have hm2 := made_two
  have hs0 : (w.alloc (.cells #[.int .i64 0] 3)).heap.size = w.heap.size + 1 := by simp
  have hbk : ∀ w', Kept (fun b => b = w.heap.size) (w.alloc (.cells #[.int .i64 0] 3)) w' → Below w.heap.size w w' := fun w' h => below_kept h
  clear hrow
  go_enter Try.func4, Try.ntmps4
  go_wp2_with fail
  generalize w.alloc (.cells #[.int .i64 0] 3) = w0 at *
  go_loopg [4, 5] 2 (fun g v k wr => ∃ (acc : List (List UInt8)) (p2 : Nat), acc.length + g = 2 ∧ k = .int .i64 (acc.length : Int) ∧ Hid (∀ x ∈ acc, one x = some [] ∧ x.length ≤ 309) ∧ wr.ownsRow w0.heap.size 9 1 v acc.length (sc acc) ∧ AtIs wr w.heap.size p2 ∧ p2 ≤ zs.length ∧ Kept (fun b => b = w.heap.size) w0 wr)
  case atStart => exact ⟨[], 0, rfl, rfl, by rw [hid_iff]; simp, World.ownsRow_nil _ _ _ _, hA0, by omega, Kept.refl _ _⟩
  case round =>
    obtain ⟨acc, p2, hg2, rfl, hacc, hown, hA2, hp2, hK2⟩ := hrel
    have hI2 := hI0.kept hK2
    have hs2 := hK2.size
    cases gk with
    | succ g =>
      have hg0 : (acc.length : Int) < 2 := by omega
      go_wp2_with fail
      refine (hm2 wr _ zs w.heap.size p2 zs.length hI2 hA2 hp2 (Nat.le_refl _) hz).mono ?_
      rintro e w3 ⟨x, p3, rfl, hx1, hx2, hA3, hp3, hK3⟩
      have ho3 := hK3.own hown (fun k hk e => by have := (hown.lt k hk).1; omega)
      have hs3 := hK3.size
      go_wp2_with (at_builtin; refine append_text rfl (.tmp 20) (.tmp 23) rfl w0.heap.size _ acc rfl (ho3.alloc _) _ _ x rfl ?src ?len ?hB ?next)
      case src => first | exact cells_new _ _ _ | exact fun j u h => h
      case len => first | omega | (simp; omega)
      case hB => first | omega | (simp; omega)
      case next =>
        intro ad c' w' k1 k2
        have hk4 : Kept (fun b => b = w.heap.size) w0 w' := ((hK2.trans hK3 (fun _ _ h => h) (fun _ _ h => h)).alloc (.cells #[.string (str x)] 9)).grown k2 (fun k e h => by have := ((ho3.alloc (.cells #[.string (str x)] 9)).lt k e).1; omega)
        have hA4 : AtIs w' w.heap.size p3 := (hA3.kept ((Kept.refl (fun _ => False) w3).alloc (.cells #[.string (str x)] 9)) (fun h => h)).kept ((Kept.refl _ _).grown k2 (fun k e _ => e)) (fun e => by have := ((ho3.alloc (.cells #[.string (str x)] 9)).lt w.heap.size e).1; omega)
        clear k2 ho3 hK3 hA3 hown hA2 hK2
        go_wp2
        go_roundg g
        case measure => omega
        case rel =>
          refine ⟨acc ++ [x], p3, by rw [List.length_append, List.length_singleton]; omega, by first | go_num | (rw [List.length_append]; go_num), ?_, by rw [hs0]; simpa using k1, hA4, hp3, hk4⟩
          rw [hid_iff]
          intro y hy
          simp only [List.mem_append, List.mem_singleton] at hy
          rcases hy with hy | rfl
          · exact hacc.out y hy
          · exact ⟨hx1, hx2⟩
    | zero =>
      have hg0 : ¬ (acc.length : Int) < 2 := by omega
      have hl6 : acc.length ≤ 6 := by omega
      go_wp2_with fail
      refine (hm2 wr _ zs w.heap.size p2 zs.length hI2 hA2 hp2 (Nat.le_refl _) hz).mono ?_
      rintro e w3 ⟨r, p3, rfl, hx1, hx2, hA3, hp3, hK3⟩
      have ho3 := hK3.own hown (fun k hk e => by have := (hown.lt k hk).1; omega)
      have hb3 := hbk w3 (hK2.trans hK3 (fun _ _ h => h) (fun _ _ h => h))
      have hjl := join_lenL 309 acc (fun y hy => (hacc.out y hy).2)
      have hml : (309 + 1) * acc.length ≤ (309 + 1) * 6 := Nat.mul_le_mul_left _ (by omega)
      have hv3 := strRow_own ho3
      have hfn := func _ acc r w3 hv3 (by omega) (by omega) (by omega)
      have har := fun u => array r u (by omega)
      have hfl : (funcR acc r).length ≤ 3000 := by simp only [funcR, List.length_cons, List.length_append]; omega
      have hal : (arrR r).length ≤ 3000 := by simp [arrR]; omega
      have hfs : (str (funcR acc r)).size = (funcR acc r).length := rfl
      have has : (str (arrR r)).size = (arrR r).length := rfl
      have HF := fun (h : (funcR acc r).length ≤ 200) => func_fn acc r (fun x hx => (hacc.out x hx).1) hx1 hl6 h
      have HA := fun (h : (arrR r).length ≤ 200) => arr_right r hx1 h
      have HP : Hid (partsR (funcR acc r) = (acc, r)) := partsR_funcR r (fun x hx => (hacc.out x hx).1)
      clear hown hA2 hK2 ho3 hjl hml hA3 hK3 hI2 hI0 hA0 hm2 hbk hx1
      go_wp2_with fail
      refine hfn.mono ?_
      rintro e w4 ⟨rfl, hb4⟩
      have hv4 := hv3.below hb4
      have hb5 := below_trans hb3 hb4
      clear hfn hv3 hb3 hb4
      go_wp2_with fail
      refine (har _).mono ?_
      rintro e w6 ⟨rfl, rfl⟩
      by_cases c1 : 200 < (funcR acc r).length
      · have c1' : (200 : Int) < ((funcR acc r).length : Int) := by omega
        clear HF HA HP
        generalize funcR acc r = fx at *
        generalize arrR r = ax at *
        go_wp2_with fail
        refine (hk _).mono ?_
        rintro e w7 ⟨rfl, hb7⟩
        go_wp2
        go_ret
        exact ⟨rfl, below_trans hb5 hb7⟩
      · have c1' : ¬ (200 : Int) < ((funcR acc r).length : Int) := by omega
        by_cases c2 : 200 < (arrR r).length
        · have c2' : (200 : Int) < ((arrR r).length : Int) := by omega
          clear HF HA HP
          generalize funcR acc r = fx at *
          generalize arrR r = ax at *
          go_wp2_with fail
          refine (hk _).mono ?_
          rintro e w7 ⟨rfl, hb7⟩
          go_wp2
          go_ret
          exact ⟨rfl, below_trans hb5 hb7⟩
        · have c2' : ¬ (200 : Int) < ((arrR r).length : Int) := by omega
          have hrf := HF (by omega)
          have hra := HA (by omega)
          have hpt : ∀ u, Calls Try.prog 7 #[.string (str (funcR acc r))] u fun e w' => ∃ v, e = .returned (.tuple #[v, .string (str r), .bool true]) ∧ StrRow w' v acc ∧ Below u.heap.size u w' := by
            intro u
            refine (partsOf (str (funcR acc r)) u).mono ?_
            rw [str_data]
            rintro e w' ⟨⟨_, v, h2, h3⟩ | ⟨h2, _⟩, h4⟩
            · rw [HP.out] at h2 h3
              exact ⟨v, h2, h3, h4⟩
            · rw [isFn, hrf, show isHead 40 (funcR acc r) = true from rfl] at h2
              cases h2
          have hea : ∀ u, Calls Try.prog 9 #[.string (str (arrR r))] u fun e w' => e = .returned (.tuple #[.string (str r), .bool true]) ∧ Below u.heap.size u w' := by
            intro u
            refine (elem (str (arrR r)) u).mono ?_
            rw [str_data]
            rintro e w' ⟨h2, h4⟩
            rw [if_pos (show isArr (arrR r) = true from by rw [isArr, hra]; rfl), arrR_elem] at h2
            exact ⟨h2, h4⟩
          have hef : ∀ u, Calls Try.prog 9 #[.string (str (funcR acc r))] u fun e w' => e = .returned (.tuple #[.string (str []), .bool false]) ∧ Below u.heap.size u w' := by
            intro u
            refine (elem (str (funcR acc r)) u).mono ?_
            rw [str_data]
            rintro e w' ⟨h2, h4⟩
            rw [if_neg (show ¬ isArr (funcR acc r) = true from by rw [isArr, show isHead 91 (funcR acc r) = false from rfl, Bool.and_false]; decide)] at h2
            exact ⟨h2, h4⟩
          have hr1 : ∀ u, Calls Try.prog 10 #[.string (str (funcR acc r))] u (BoolB true u) := by
            intro u
            have := right (str (funcR acc r)) u
            rwa [str_data, hrf] at this
          have hr2 : ∀ u, Calls Try.prog 10 #[.string (str (arrR r))] u (BoolB true u) := by
            intro u
            have := right (str (arrR r)) u
            rwa [str_data, hra] at this
          clear HF HA HP hrf hra
          generalize funcR acc r = fx at *
          generalize arrR r = ax at *
          go_wp2_with fail
          refine (hpt _).mono ?_
          rintro e w7 ⟨v7, rfl, hs7, hb7⟩
          have hv7 := hv4.below hb7
          have hb8 := below_trans hb5 hb7
          clear hv4 hb5 hb7
          go_wp2_with fail
          refine (hea _).mono ?_
          rintro e w9 ⟨rfl, hb9⟩
          have hv9 := hv7.below hb9
          have hs9 := hs7.below hb9
          have hb10 := below_trans hb8 hb9
          clear hv7 hs7 hb8 hb9
          go_wp2_with fail
          refine (hef _).mono ?_
          rintro e w11 ⟨rfl, hb11⟩
          have hsm := sameS _ _ _ _ _ (hv9.below hb11) (hs9.below hb11) (by omega) (by omega)
          rw [decide_eq_true rfl] at hsm
          have hb12 := below_trans hb10 hb11
          clear hv9 hs9 hb10 hb11
          go_wp2_with fail
          refine hsm.mono ?_
          rintro e w13 ⟨rfl, n, rfl⟩
          have hb14 := below_drewN hb12 n
          clear hb12 hsm
          generalize World.drewN _ n = w14 at *
          go_wp2_with fail
          refine (hr1 _).mono ?_
          rintro e w15 ⟨rfl, hb15⟩
          have hb16 := below_trans hb14 hb15
          go_wp2_with fail
          refine (hr2 _).mono ?_
          rintro e w17 ⟨rfl, hb17⟩
          have hb18 := below_trans hb16 hb17
          go_wp2_with fail
          refine (hk _).mono ?_
          rintro e w19 ⟨rfl, hb19⟩
          go_wp2
          go_ret
          exact ⟨rfl, below_trans hb18 hb19⟩

theorem ownTypesBack : ownKnob Try.prog.godebug = none := by kernel_rfl
theorem laidTypesBack : laidOutB Try.prog = true := by kernel_rfl
set_option maxRecDepth 100000 in
theorem typesBack_lifted (os : Os) (started : os.Started) (H : Type) (enc : TypeId × Value → H) :
    ReturnsInHanded {} Try.checked os 4 .any (Rows.typesBackSpec.pre6 enc Try.prog Try.f4 Rows.typesBackRow.domain false) (Rows.typesBackSpec.post enc Try.prog Try.f4 false true false false) := by
  refine returnsInHanded_of_change (C := Try.checked) ownTypesBack started (by kernel_rfl) Try.func4
    (ChangeSpec.witness6 (enc := enc) (C := Try.checked) false ⟨#[], #[.slice none 0 0], []⟩ 8 (by kernel_rfl) (by kernel_rfl) (by kernel_rfl) (by kernel_rfl)) ?_
  intro W base args ds gs before hval0 hW hcnd _
  have hval : ∀ (j : Nat) t v, Try.f4.params[j]? = some t → args[j]? = some v → Value.okWide Try.prog W .any base t v := hval0
  have hW' := hW
  obtain ⟨p, q, hA0, hV, rfl, hfz, hnd⟩ := hW
  have hA : DataW.TrodAll enc Try.prog W 0 (fun _ => true) true Try.f4.params.toList args.toList ds p := hA0
  rw [Try.params4] at hA hval
  obtain ⟨v0, vs0, d0, ds0, p0, q0, hargs, rfl, rfl, h0, r0⟩ := trodAll_cons hA
  obtain ⟨rfl, rfl, rfl⟩ := trodAll_nil r0
  obtain rfl : args = #[v0] := by cases args; simp_all
  obtain ⟨rfl, rfl⟩ := trodVars_none hV
  obtain ⟨a1, len1, cap1, rfl⟩ := okWide_slice Try.underlying43 (hval 0 43 v0 rfl rfl)
  have k0 := h0
  have lt0 : ∀ x ∈ p0, x.block < W.heap.size := by obtain ⟨m, hm⟩ := k0; exact DataW.trod_lt m _ _ _ hm
  obtain ⟨f0, hf0⟩ := h0
  obtain ⟨zs, z1, z2, z3, z4, z5, z6⟩ := ints_rows (by simpa [Value.cells] using hf0)
  unfold maxLen at z3
  have hrow : ∀ ba, W.heap.size ≤ ba → IntRow W ba (.slice a1 len1 cap1) zs := by
    intro ba hba
    refine ⟨z4, ?_⟩
    subst z1
    rcases Nat.eq_zero_or_pos zs.length with h | h
    · exact .inl ⟨List.eq_nil_of_length_eq_zero h, a1, cap1, by rw [h]⟩
    · obtain ⟨b, rfl⟩ := z5 h
      obtain ⟨h1, h2⟩ := z6 b rfl h
      exact .inr ⟨b, cap1, rfl, h1, by omega, h2⟩
  have hwalk : Calls Try.prog 4 #[.slice a1 len1 cap1] W (KnownE W) := back_walk (.slice a1 len1 cap1) zs W hrow (by omega)
  clear hA0 hval0
  simp only [List.append_nil] at hW'
  refine hwalk.mono fun e W' ⟨he, bel⟩ => ?_
  subst he
  exact ⟨_, rfl, _, _, _, [], _, [], hW', trodAll_mk1 (shut_bool Try.underlying4 _), (trodAll_cons_mk (Below.trod laidTypesBack (by kernel_rfl) (of_decide_eq_true (by kernel_rfl)) k0 bel lt0) trodAll_mk0), rfl, bel.frame _, fun h => by cases h⟩

theorem typesBack_holds : Rows.TypesBackSaid :=
  OpenClaim.holds_of_wide 4 Try.f4 rfl rfl rfl rfl rfl rfl rfl ⟨rfl, rfl, rfl, rfl, rfl⟩ rfl rfl rfl rfl rfl (by kernel_rfl) Try.func4 (by kernel_rfl)
    (of_decide_eq_true (by kernel_rfl)) (by unfold Func.isWrapper; first | (rw [if_pos (by decide +kernel)]; kernel_rfl) | (rw [if_neg (by decide +kernel)]; exact ⟨rfl, rfl⟩))
    (fun os started H enc _ => typesBack_lifted os started H enc)
#print axioms typesBack_holds
end Go.Proofs.Ytcjlifhehiolkaa
