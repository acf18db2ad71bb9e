/-
  Proved: for all bytes and all pieces the law WireStops answers true: behind the first refusal a Reader reads nothing and does not move, whatever is asked. No condition.
-/
import Derived.Test.YtbheccioeiemfabParts
import Derived.Test.YtbheccioeiemfabRows
import Derived.SizedLaws
import Derived.Deep.LoopGhost
namespace Go.Proofs.Ytbheccioeiemfab
open Go.ChangeShapes Go.WideShapes Go.ChangeAt Go.RowKit Go.Deep

theorem rNum_stop (l : List Nat) (m : Nat) : rNum l 0 30 m = (0, 0, 30) := by simp [rNum]
theorem rTake_stop (l : List Nat) (n : Int) : rTake l 0 30 n = ([], 0, 30) := by simp [rTake]

set_option maxHeartbeats 4000000 in
set_option maxRecDepth 1000000 in
theorem wireStops_walk (v v2 : Value) (b0 : Nat) (l : List Nat) (n : Nat) (F : Nat → Int × Int × Nat × ByteArray) (w : World) (hv : Rd w b0 v l) (hl : l.length ≤ 140737488351232) (h256 : ∀ x ∈ l, x < 256) (hP : Parts w v2 n F) (_hn : n ≤ maxLen) :
    Calls Try.prog 3 #[v, v2] w fun e w' => e = .returned (.bool true) ∧ Below w.heap.size w w' := by
  unfold maxLen at _hn
  obtain ⟨ao2, c2, hv2⟩ := hP.shape
  obtain ⟨ao1, c1, hv1⟩ := hv.shape
  subst hv1
  subst hv2
  go_enter Try.func3, Try.ntmps3
  go_wp2_with fail
  refine (newreader _ b0 l _ (by omega) hv).mono ?_
  rintro e w1 ⟨rb, rg, rfl, h1, hrb, hrg, hk⟩
  have hK1 := (Kept.refl (fun _ => False) w).on hk (fun _ h => h.elim)
  clear hk hv
  go_wp2_with fail
  refine (rfail 30 rb rg l 0 0 _ h1).mono ?_
  rintro e w2 ⟨rfl, h2, hk⟩
  rw [if_pos rfl] at h2
  have hK2 := hK1.on hk (by omega)
  clear hk h1 hK1
  go_wp2
  go_loopg [6] n (fun g i wr => ∃ k : Nat, g + k = n ∧ k ≤ 20 ∧ i = .int .i64 k ∧ RIs wr rb rg l 0 30 ∧ Kept (fun _ => False) w wr)
  case atStart => exact ⟨0, rfl, by omega, rfl, h2, hK2⟩
  case round =>
    obtain ⟨k, hgk, hk20, rfl, hr, hK⟩ := hrel
    clear h2 hK2
    by_cases hlt : k < n
    · by_cases hlt20 : k < 20
      · obtain ⟨b, off, cap, hsl, hbw, hat⟩ : ∃ b off cap, Value.slice ao2 n c2 = .slice (some ⟨b, off, none⟩) n cap ∧ b < w.heap.size ∧ ∀ i, i < n → PAt w b (off + i * 4) (F i) := by
          rcases hP with ⟨h0, _⟩ | h
          · omega
          · exact h
        simp only [Value.slice.injEq, true_and] at hsl
        obtain ⟨rfl, rfl⟩ := hsl
        have hp := (hat k hlt).kept hK (fun h => h)
        obtain ⟨d0, d1, d2, d3, k0, k1, k2, k3⟩ := hp
        clear hP
        go_wp2_with fail
        have hcall := rnumber rb rg l 0 30 (F k).2.2.1 wr (by omega) h256 (Nat.zero_le _) k2 hr
        rw [rNum_stop] at hcall
        refine hcall.mono ?_
        rintro e w3 ⟨rfl, h3, hk⟩
        have hK3 := hK.on hk (by omega)
        have e1 := (hat k hlt).kept hK3 (fun h => h)
        clear hk hcall hr d0 d1 d2 d3
        obtain ⟨d0, d1, d2, d3, _, _, _, _⟩ := e1
        go_wp2_with fail
        have hcall := rsigned rb rg l 0 30 w3 (by omega) h256 (Nat.zero_le _) h3
        rw [rNum_stop] at hcall
        refine hcall.mono ?_
        rintro e w4 ⟨rfl, h4, hk⟩
        rw [show zag ((0, 0, 30) : Nat × Nat × Nat).1 = 0 from rfl]
        have hK4 := hK3.on hk (by omega)
        have e1 := (hat k hlt).kept hK4 (fun h => h)
        clear hk hcall h3 d0 d1 d2 d3
        obtain ⟨d0, d1, d2, d3, _, _, _, _⟩ := e1
        go_wp2_with fail
        have hcall := rtext (F k).2.1 rb rg l 0 30 w4 k1.1 k1.2 (by omega) h256 (Nat.zero_le _) h4
        refine hcall.mono ?_
        rintro e w5 ⟨R, hR, rfl, h5, hk⟩
        rw [rNum_stop] at hR
        subst hR
        simp only [rTake_stop] at h5 ⊢
        rw [show toStr [] = ⟨#[]⟩ from rfl]
        have hK5 := hK4.on hk (by omega)
        have e1 := (hat k hlt).kept hK5 (fun h => h)
        clear hk hcall h4 d0 d1 d2 d3
        obtain ⟨d0, d1, d2, d3, _, _, _, _⟩ := e1
        go_wp2_with fail
        have hcall := rraw (F k).2.1 rb rg l 0 30 w5 k1.2 (by omega) (Nat.zero_le _) h5
        refine hcall.mono ?_
        rintro e w6 ⟨v6, g6, rfl, hrow, hg6, h6, hk⟩
        simp only [rTake_stop] at h6 hrow
        obtain ⟨a6, c6, rfl⟩ : ∃ a c, v6 = .slice a 0 c := hrow.rd.shape
        have hK6 := hK5.on hk (by omega)
        clear hk hcall h5 d0 d1 d2 d3 hrow
        go_wp2_with fail
        have hcall := rleft rb rg l 0 30 w6 (by omega) (Nat.zero_le _) h6
        refine hcall.mono ?_
        rintro e w7 ⟨rfl, hk⟩
        have hK7 := hK6.on hk (fun _ h => h.elim)
        have h7 := h6.kept hk (fun h => h) (fun h => h)
        clear hk hcall h6
        go_wp2_with fail
        refine (rfail 13 rb rg l 0 30 _ h7).mono ?_
        rintro e w8 ⟨rfl, h8, hk⟩
        rw [if_neg (by omega)] at h8
        have hK8 := hK7.on hk (by omega)
        clear hk h7
        go_wp2
        go_roundg (n - (k + 1))
        case measure => omega
        case rel => exact ⟨k + 1, by omega, by omega, by go_num, h8, hK8⟩
      · have hcall := rend rb rg l 0 30 wr (by omega) hr
        rw [show rEnd l 0 30 = (30, 0) from rfl] at hcall
        go_wp2_with fail
        refine hcall.mono ?_
        rintro e w3 ⟨rfl, hk⟩
        have hK3 := hK.on hk (fun _ h => h.elim)
        clear hk hcall hr
        go_wp2_with fail
        refine (known_true w3).mono ?_
        rintro e w4 ⟨rfl, hk⟩
        have hK4 := hK3.on hk (fun _ h => h.elim)
        go_wp2
        go_ret
        exact ⟨rfl, hK4.below (Nat.le_refl _) (fun _ _ h => h)⟩
    · have hcall := rend rb rg l 0 30 wr (by omega) hr
      rw [show rEnd l 0 30 = (30, 0) from rfl] at hcall
      go_wp2_with fail
      refine hcall.mono ?_
      rintro e w3 ⟨rfl, hk⟩
      have hK3 := hK.on hk (fun _ h => h.elim)
      clear hk hcall hr
      go_wp2_with fail
      refine (known_true w3).mono ?_
      rintro e w4 ⟨rfl, hk⟩
      have hK4 := hK3.on hk (fun _ h => h.elim)
      go_wp2
      go_ret
      exact ⟨rfl, hK4.below (Nat.le_refl _) (fun _ _ h => h)⟩

theorem ownS : ownKnob Try.prog.godebug = none := by kernel_rfl
theorem laidOutS : laidOutB Try.prog = true := by kernel_rfl
theorem Try.bytes5 : Try.prog.bytesOf 5 = 1 := by kernel_rfl

set_option maxRecDepth 100000 in
theorem wireStops_lifted (os : Os) (started : os.Started) (H : Type) (enc : TypeId × Value → H) :
    ReturnsInHanded {} Try.checked os 3 .any (Rows.wireStopsSpec.pre6 enc Try.prog Try.f3 Rows.wireStopsRow.domain false) (Rows.wireStopsSpec.post enc Try.prog Try.f3 false true false false) := by
  refine returnsInHanded_of_change_sized (C := Try.checked) ownS started (by kernel_rfl) Try.func3
    (ChangeSpec.witness6 (enc := enc) (C := Try.checked) false ⟨#[], #[.slice none 0 0, .slice none 0 0], []⟩ 8 (by kernel_rfl) (by kernel_rfl) (by kernel_rfl) (by kernel_rfl)) ?_
  intro W base args ds gs before hval0 hW hcnd hsz0 _
  have hval : ∀ (j : Nat) t v, Try.f3.params[j]? = some t → args[j]? = some v → Value.okWide Try.prog W .any base t v := hval0
  have hsz : (DataW.weightsEach Try.prog (Try.f3.params.toList ++ Rows.wireStopsSpec.plain.varTypes Try.prog) (ds ++ gs)).all (· ≤ reachBytes) = true := hsz0
  have hW' := hW
  obtain ⟨p, q, hA0, hV, rfl, hfz, hnd⟩ := hW
  have hA : DataW.TrodAll enc Try.prog W 0 (fun _ => true) true Try.f3.params.toList args.toList ds p := hA0
  rw [Try.params3] at hA hval hsz
  obtain ⟨v0, vs0, d0, ds0, p0, q0, hargs, rfl, rfl, h0, r0⟩ := trodAll_cons hA
  obtain ⟨v1, vs1, d1, ds1, p1, q1, rfl, rfl, rfl, h1, r1⟩ := trodAll_cons r0
  obtain ⟨rfl, rfl, rfl⟩ := trodAll_nil r1
  obtain rfl : args = #[v0, v1] := by cases args; simp_all
  obtain ⟨rfl, rfl⟩ := trodVars_none hV
  obtain ⟨a0, len0, cap0, rfl⟩ := okWide_slice Try.underlying22 (hval 0 22 v0 rfl rfl)
  obtain ⟨a1, len1, cap1, rfl⟩ := okWide_slice Try.underlying23 (hval 1 23 v1 rfl rfl)
  have k0 := h0
  have k1 := h1
  have lt0 : ∀ x ∈ p0, x.block < W.heap.size := by obtain ⟨m, hm⟩ := k0; exact DataW.trod_lt m _ _ _ hm
  have lt1 : ∀ x ∈ p1, x.block < W.heap.size := by obtain ⟨m, hm⟩ := k1; exact DataW.trod_lt m _ _ _ hm
  obtain ⟨b0, l, hrd, hl, h256⟩ : ∃ b0 l, Rd W b0 (.slice a0 len0 cap0) l ∧ l.length ≤ 140737488351232 ∧ ∀ x ∈ l, x < 256 := by
    obtain ⟨fuel, hf⟩ := h0
    rcases open_ints Try.underlying22 Try.underlying5 (by kernel_rfl) hf with ⟨hcs, _⟩ | ⟨x, ln, c, zs, hcs, _, hl, hm, hz, hx, hcell, hwz⟩
    · simp [Value.cells] at hcs
      obtain ⟨rfl, rfl, rfl⟩ := hcs
      exact ⟨0, [], .inl ⟨rfl, rfl⟩, by simp, by simp⟩
    · simp [Value.cells] at hcs
      obtain ⟨rfl, rfl, rfl⟩ := hcs
      have hsl := sized_slice hsz (j := 0) (t := 22) (e := 5) rfl (by rw [(Prod.mk.inj hx).1]; rfl) Try.underlying22
      rw [Try.bytes5] at hsl
      simp at hz
      simp only [lits, List.length_map, List.length_take, List.length_drop, reachBytes] at hsl
      have hwf : ∀ z ∈ zs, 0 ≤ z ∧ z ≤ 255 := fun z hz => bounds_u8 (hwz z hz)
      refine ⟨x.block, (zs.take len0).map Int.toNat, ?_, by simp; omega, ?_⟩
      · right
        refine ⟨x, cap0, by simp; omega, rfl, fun j u hu => ?_⟩
        have hj : j < len0 := by
          have := (List.getElem?_eq_some_iff.1 hu).1
          rw [bs_length] at this
          simp at this
          omega
        rw [hcell j (by omega)]
        rw [bs, List.getElem?_map, List.getElem?_map, List.getElem?_take, if_pos hj, List.getElem?_eq_getElem (show j < zs.length by omega)] at hu
        rw [← hu]
        have hw := hwf zs[j] (List.getElem_mem _)
        simp [List.getD, show j < zs.length by omega]
        omega
      · intro y hy
        obtain ⟨z, hz1, rfl⟩ := List.mem_map.1 hy
        have := hwf z (List.mem_of_mem_take hz1)
        omega
  obtain ⟨n, F, hP, hn⟩ : ∃ n F, Parts W (.slice a1 len1 cap1) n F ∧ n ≤ maxLen := by
    obtain ⟨fuel, hf⟩ := h1
    obtain ⟨n, F, h, hn, _⟩ := parts_open (by simpa [Value.cells] using hf)
    exact ⟨n, F, h, hn⟩
  clear hA0 hval0
  refine (wireStops_walk _ _ b0 l n F W hrd hl h256 hP hn).mono fun e W' ⟨he, bel⟩ => ?_
  subst he
  exact ⟨_, rfl, _, _, _, [], _, [], hW', trodAll_mk1 (shut_bool Try.underlying4 _), (trodAll_cons_mk (Below.trod laidOutS (by kernel_rfl) (of_decide_eq_true (by kernel_rfl)) k0 bel lt0) (trodAll_cons_mk (Below.trod laidOutS (by kernel_rfl) (of_decide_eq_true (by kernel_rfl)) k1 bel lt1) trodAll_mk0)), rfl, bel.frame _, fun h => by cases h⟩

theorem wireStops_holds : Rows.WireStopsSaid :=
  OpenClaim.holds_of_wide 3 Try.f3 rfl rfl rfl rfl rfl rfl rfl ⟨rfl, rfl, rfl, rfl, rfl⟩ rfl rfl rfl rfl rfl (by kernel_rfl) Try.func3 (by kernel_rfl)
    (of_decide_eq_true (by kernel_rfl)) (by unfold Func.isWrapper; first | (rw [if_pos (by decide +kernel)]; kernel_rfl) | (rw [if_neg (by decide +kernel)]; exact ⟨rfl, rfl⟩))
    (fun os started H enc _ => wireStops_lifted os started H enc)
#print axioms wireStops_holds
end Go.Proofs.Ytbheccioeiemfab
