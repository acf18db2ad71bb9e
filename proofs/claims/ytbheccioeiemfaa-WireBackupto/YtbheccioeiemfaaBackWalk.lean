/-
  The walk of the law WireBack.
-/
import Derived.Test.YtbheccioeiemfaaBack
namespace Go.Proofs.Ytbheccioeiemfaa
open Go.ChangeShapes Go.WideShapes Go.ChangeAt Go.RowKit Go.Deep

theorem wrap64_eq (n : Int) : wrap64 n = IntKind.i64.wrap n := by rw [IntKind.wrap_i64, wrap64]
theorem Rd.addr {w : World} {b : Nat} {v : Value} {l : List Nat} (h : Rd w b v l) (hl : 0 < l.length) : ∃ off cap, v = .slice (some ⟨b, off, none⟩) l.length cap ∧ ∀ s c, s ≤ l.length → Rd w b (.slice (some ⟨b, off, none⟩) s c) (l.take s) := by
  rcases h with ⟨_, rfl⟩ | ⟨a, cap, rfl, rfl, hc⟩
  · simp at hl
  · obtain ⟨ab, ao, asp⟩ := a
    have h0 := hc 0 ((bs l)[0]'(by rw [bs_length]; exact hl)) (List.getElem?_eq_getElem _)
    have hsp : asp = none := by simpa [Addr.add] using World.cell?_spot h0
    subst hsp
    refine ⟨ao, cap, rfl, fun s c hs => .inr ⟨⟨ab, ao, none⟩, c, ?_, rfl, fun j u hu => hc j u ?_⟩⟩
    · rw [List.length_take, Nat.min_eq_left hs]
    · rw [bs, List.map_take, List.getElem?_take] at hu
      split at hu
      · exact hu
      · simp at hu

set_option maxHeartbeats 8000000 in
set_option maxRecDepth 1000000 in
theorem wireBack_walk (v v2 : Value) (b0 : Nat) (l : List Nat) (n : Nat) (F : Nat → Int × Int × Nat × ByteArray) (w : World) (hv : Rd w b0 v l) (hcap : ∃ a n c, v = .slice a n c ∧ n ≤ c ∧ c ≤ maxLen) (hl : l.length ≤ 1048576) (h256 : ∀ x ∈ l, x < 256) (hP : Parts w v2 n F) (hn : n ≤ 1048576) (hS : psum F n ≤ 1048576) :
    Calls Try.prog 6 #[v2, v] w fun e w' => e = .returned (.bool true) ∧ Below w.heap.size w w' := by
  obtain ⟨ao2, c2, hv2⟩ := hP.shape
  subst hv2
  obtain ⟨ao1, n1, c1, hv1, hnc, hcm⟩ := hcap
  have hn1 : n1 = l.length := by
    obtain ⟨a, c, h⟩ := hv.shape
    rw [h] at hv1
    simp at hv1
    exact hv1.2.1.symm
  subst hn1
  subst hv1
  have hat : ∀ k, k < n → ∃ pb off, ao2 = some ⟨pb, off, none⟩ ∧ pb < w.heap.size ∧ PAt w pb (off + k * 4) (F k) := by
    intro k hk
    rcases hP with ⟨h0, _⟩ | ⟨pb, off, cap, h1, h2, h3⟩
    · omega
    · simp at h1
      exact ⟨pb, off, h1.1, h2, h3 k hk⟩
  have hWl : ∀ k, k ≤ n → k ≤ 30 → (Wl F k).length ≤ 2097152 := by
    intro k hk h30
    have h1 := Wl_length F k (fun i hi => by
      obtain ⟨_, _, _, _, h⟩ := hat i (by omega)
      have := psum_mono F n (i + 1) (by omega)
      rw [psum] at this
      exact ⟨h.k2, by omega⟩)
    have := psum_mono F n k hk
    omega
  clear hP
  go_enter Try.func6, Try.ntmps6
  go_wp2_with fail
  refine (newwriter w).mono ?_
  rintro e w1 ⟨b, rfl, h1, hb, hk⟩
  have hK1 := (Kept.refl (fun _ => False) w).on hk (fun _ h => h.elim)
  clear hk
  go_wp2
  go_loopg [6] n (fun gk i wr => ∃ k g : Nat, gk + k = n ∧ k ≤ 30 ∧ i = .int .i64 k ∧ WIs wr b g (Wl F k) ∧ w.heap.size ≤ g ∧ Kept (fun _ => False) w wr)
  case atStart => exact ⟨0, b, rfl, by omega, rfl, h1, hb, hK1⟩
  case round =>
    obtain ⟨k, g, hgk, hk30, rfl, hw, hg, hK⟩ := hrel
    clear h1 hK1
    have hWk := hWl k (by omega) hk30
    by_cases hlt : k < n ∧ k < 30
    · obtain ⟨hlt, hlt30⟩ := hlt
      obtain ⟨pb, off, rfl, hpb, hatk⟩ := hat k hlt
      have hSk : psum F k + (F k).2.2.2.size ≤ 1048576 := by
        have := psum_mono F n (k + 1) (by omega)
        rw [psum] at this
        omega
      have HWE : Hid (Wl F (k + 1) = Wl F k ++ piece (F k)) := rfl
      have hsz := hK.size
      obtain ⟨pk, hFk⟩ : ∃ p, p = F k := ⟨_, rfl⟩
      rw [← hFk] at hatk hSk HWE
      obtain ⟨kind, most, nn, txt⟩ := pk
      simp only at hSk
      clear hFk hat hWl
      have hp := hatk.kept hK (fun h => h)
      obtain ⟨d0, d1, d2, d3, k0, k1, k2, k3⟩ := hp
      simp only at d0 d1 d2 d3 k0 k1 k2 k3
      have hwr := wrap64_range nn
      go_wp2_with fail
      refine (wnumber nn b g _ _ k2 (by omega) hw).mono ?_
      rintro e w2 ⟨rfl, g', hw2, hg', hk⟩
      have hK2 := hK.on hk (by omega)
      have hsz2 := hK2.size
      have e5 := hatk.kept hK2 (fun h => h)
      clear d0 d1 d2 d3 hk
      obtain ⟨d0, d1, d2, d3, _, _, _, _⟩ := e5
      simp only at d0 d1 d2 d3
      have ht1 := enc_ten nn k2
      go_wp2_with fail
      refine (wsigned (wrap64 nn) b g' _ _ hwr.1 hwr.2 (by rw [List.length_append]; omega) hw2).mono ?_
      rintro e w3 ⟨rfl, g'', hw3, hg'', hk⟩
      have hK3 := hK2.on hk (by omega)
      have e5 := hatk.kept hK3 (fun h => h)
      clear d0 d1 d2 d3 hk
      obtain ⟨d0, d1, d2, d3, _, _, _, _⟩ := e5
      simp only at d0 d1 d2 d3
      have ht2 := enc_ten _ (zig_lt (wrap64 nn) hwr.1 hwr.2)
      have hsz3 := hK3.size
      go_wp2_with fail
      refine (wtext txt b g'' _ _ (by rw [List.length_append, List.length_append]; omega) hw3).mono ?_
      rintro e w4 ⟨rfl, g4, hw4, hg4, hk⟩
      have hK4 := hK3.on hk (by omega)
      clear hk
      go_wp2
      go_roundg (n - (k + 1))
      case measure => omega
      case rel =>
        refine ⟨k + 1, g4, by omega, by omega, by go_num, ?_, by omega, hK4⟩
        rw [HWE.out]
        simpa [piece, tb, List.append_assoc] using hw4
    ·
      have hmn : k = n ∨ (k = 30 ∧ 30 < n) := by omega
      have hstop : (n ≤ k) ∨ (30 ≤ k ∧ k < n) := by omega
      have hkn : k ≤ n := by omega
      clear hlt hmn
      rcases hstop with hstop | ⟨hstop, hstop2⟩
      all_goals
        go_wp2_with fail
        refine (wdone b g _ _ (by omega) hw).mono ?_
        rintro e w2 ⟨v2, g2, rfl, h2, hg2, hk⟩
        have hK2 := hK.on hk (fun _ h => h.elim)
        clear hk hw
        have hrd := h2.rd
        obtain ⟨a2, n2, c2', rfl⟩ := hrd.shape3
        go_wp2_with fail
        refine (newreader _ g2 _ _ (by omega) hrd).mono ?_
        rintro e w3 ⟨rb, rg, rfl, h3, hrb, hrg, hk⟩
        have hK3 := hK2.on hk (fun _ h => h.elim)
        have hsz2 := hK2.size
        clear hk hrd h2
        go_wp2
        go_loopg [8] k (fun gj i wr => ∃ j : Nat, gj + j = k ∧ i = .int .i64 j ∧ RIs wr rb rg (Wl F k) (Wl F j).length 0 ∧ Kept (fun _ => False) w wr)
        case atStart => exact ⟨0, rfl, rfl, h3, hK3⟩
        case round =>
          obtain ⟨j, hgj, rfl, hr, hKr⟩ := hrel
          clear h3 hK3
          by_cases hj : j < k
          · obtain ⟨pb, off, rfl, hpb, hatj⟩ := hat j (by omega)
            have hSj : (F j).2.2.2.size ≤ 1048576 := by
              have := psum_mono F n (j + 1) (by omega)
              rw [psum] at this
              omega
            obtain ⟨R, hR⟩ := Wl_split F j k hj
            have HWE : Hid (Wl F (j + 1) = Wl F j ++ piece (F j)) := rfl
            obtain ⟨pj, hFj⟩ : ∃ p, p = F j := ⟨_, rfl⟩
            rw [← hFj] at hatj hSj HWE hR
            obtain ⟨kind, most, nn, txt⟩ := pj
            simp only at hSj
            clear hFj hat hWl
            have hp := hatj.kept hKr (fun h => h)
            obtain ⟨d0, d1, d2, d3, k0, k1, k2, k3⟩ := hp
            simp only at d0 d1 d2 d3 k0 k1 k2 k3
            have hwr := wrap64_range nn
            obtain ⟨p1, p2, p3, p4, hp1, hp2, hp4, r1, r2, r3, r4⟩ := read_piece (Wl F j) R nn txt k2 hSj (Wl F k) hR
            have hjl : (Wl F j).length ≤ (Wl F k).length := by rw [hR]; simp only [List.length_append]; omega
            have HP4 : Hid (p4 = (Wl F (j + 1)).length) := by rw [Hid, HWE.out, hp4]; rfl
            have hA : ∀ u, RIs u rb rg (Wl F k) (Wl F j).length 0 → Calls Try.prog 10 #[.pointer (some ⟨rb, 0, none⟩), .int .u64 18446744073709551615] u fun e w' => e = .returned (.int .u64 nn) ∧ RIs w' rb rg (Wl F k) p1 0 ∧ Kept (fun x => x = rb) u w' := by
              intro u hu
              have h := rnumber rb rg (Wl F k) (Wl F j).length 0 18446744073709551615 u (by omega) (Wl_256 F k) hjl (by decide) hu
              rw [r1] at h
              exact h
            have hB : ∀ u, RIs u rb rg (Wl F k) p1 0 → Calls Try.prog 13 #[.pointer (some ⟨rb, 0, none⟩)] u fun e w' => e = .returned (.int .i64 (IntKind.i64.wrap (nn : Int))) ∧ RIs w' rb rg (Wl F k) p2 0 ∧ Kept (fun x => x = rb) u w' := by
              intro u hu
              have h := rsigned rb rg (Wl F k) p1 0 u (by omega) (Wl_256 F k) hp1 hu
              rw [r2] at h
              simp only [zag_zig] at h
              rw [wrap64_eq] at h
              exact h
            have hC : ∀ u, RIs u rb rg (Wl F k) p2 0 → Calls Try.prog 12 #[.pointer (some ⟨rb, 0, none⟩), .int .i64 txt.size] u fun e w' => e = .returned (.string txt) ∧ RIs w' rb rg (Wl F k) p4 0 ∧ Kept (fun x => x = rb) u w' := by
              intro u hu
              have h := rtext txt.size rb rg (Wl F k) p2 0 u (by omega) (by omega) (by omega) (Wl_256 F k) hp2 hu
              refine h.mono ?_
              rintro e w' ⟨R', hR', he, hr', hk'⟩
              rw [Int.toNat_natCast, r3] at hR'
              subst hR'
              simp only [r4] at he hr'
              refine ⟨?_, hr', hk'⟩
              rw [he, show toStr (tb txt) = txt from toStr_bytes txt]
            clear r1 r2 r3 r4 hR hp4
            have hrD : RIs wr.drew rb rg (Wl F k) (Wl F j).length 0 := hr
            have hKD : Kept (fun _ => False) w wr.drew := hKr.drew
            have hji : (j : Int) < n := by omega
            have hj0 : (0 : Int) ≤ j := by omega
            go_wp2_with fail
            go_region_held3 (fun u => u.cell? ⟨pb, off + j * 4 + 2, none⟩ = some (.int .u64 nn) ∧ u.cell? ⟨pb, off + j * 4 + 3, none⟩ = some (.string txt)) (first | go_keep | exact ⟨by assumption, by assumption⟩) (first | (go_at_call 10; refine (hA _ hrD).mono ?_; rintro e wa ⟨rfl, hra, hka⟩; have hKa := hKD.on hka (by omega); have da2 : wa.cell? ⟨pb, off + j * 4 + 2, none⟩ = some (.int .u64 nn) := (hatj.kept hKa (fun h => h)).c2; have da3 : wa.cell? ⟨pb, off + j * 4 + 3, none⟩ = some (.string txt) := (hatj.kept hKa (fun h => h)).c3) | (go_at_call 13; refine (hB _ hra).mono ?_; rintro e wb ⟨rfl, hrb', hkb⟩; have hKb := hKa.on hkb (by omega); have db2 : wb.cell? ⟨pb, off + j * 4 + 2, none⟩ = some (.int .u64 nn) := (hatj.kept hKb (fun h => h)).c2; have db3 : wb.cell? ⟨pb, off + j * 4 + 3, none⟩ = some (.string txt) := (hatj.kept hKb (fun h => h)).c3) | (go_at_call 12; refine (hC _ hrb').mono ?_; rintro e wc ⟨rfl, hrc, hkc⟩; have hKc := hKb.on hkc (by omega); have dc2 : wc.cell? ⟨pb, off + j * 4 + 2, none⟩ = some (.int .u64 nn) := (hatj.kept hKc (fun h => h)).c2; have dc3 : wc.cell? ⟨pb, off + j * 4 + 3, none⟩ = some (.string txt) := (hatj.kept hKc (fun h => h)).c3))
            go_wp2
            go_roundg (k - (j + 1))
            case measure => omega
            case rel => exact ⟨j + 1, by omega, by go_num, by rw [← HP4.out]; exact hrc, hKc⟩
          ·
            obtain rfl : j = k := by omega
            clear hat hWl hj
            have hcall := rend rb rg (Wl F j) (Wl F j).length 0 wr (by omega) hr
            rw [show rEnd (Wl F j) (Wl F j).length 0 = (0, 0) by simp [rEnd]] at hcall
            go_wp2_with fail
            refine hcall.mono ?_
            rintro e w4 ⟨rfl, hk⟩
            have hK4 := hKr.on hk (fun _ h => h.elim)
            clear hk hcall hr
            have hv4 := hv.kept hK4 (fun h => h)
            go_wp2_with fail
            refine (newreader _ b0 l _ (by omega) hv4).mono ?_
            rintro e w5 ⟨qb, qg, rfl, h5, hqb, hqg, hk⟩
            have hK5 := hK4.on hk (fun _ h => h.elim)
            have hsz4 := hK4.size
            clear hk hv4
            have hql := h5.lt
            have hqgl := h5.gt
            go_wp2_with fail
            refine (newwriter w5).mono ?_
            rintro e w6 ⟨xb, rfl, h6, hxb, hk⟩
            have hK6 := hK5.on hk (fun _ h => h.elim)
            have hsz5 := hK5.size
            have h5' := h5.kept hk (fun h => h) (fun h => h)
            clear hk h5
            obtain ⟨x, p, why, e1, q1, hx1, hx2, hx3⟩ := back_second l h256
            have hcall := rnumber qb qg l 0 0 18446744073709551615 w6 (by omega) h256 (Nat.zero_le _) (by decide) h5'
            rw [show ((18446744073709551615 : Nat) : Int) = 18446744073709551615 from rfl, hx1] at hcall
            go_wp2_with fail
            refine hcall.mono ?_
            rintro e w7 ⟨rfl, h7, hk⟩
            have hK7 := hK6.on hk (by omega)
            have h6' := h6.kept hk (by omega) (by omega)
            clear hk hcall h6 h5'
            have hcall := rend qb qg l p why w7 (by omega) h7
            rw [hx2] at hcall
            go_wp2_with fail
            refine hcall.mono ?_
            rintro e w8 ⟨rfl, hk⟩
            have hK8 := hK7.on hk (fun _ h => h.elim)
            have h8 := h7.kept hk (fun h => h) (fun h => h)
            have h8w := h6'.kept hk (fun h => h) (fun h => h)
            clear hk hcall h7 h6' hx1 hx2 hK4 hK5 hK6 hK7
            rcases hx3 with ⟨rfl, he, hxl, hp0, hpl, htk⟩ | ⟨he, rfl⟩
            ·
              have hten := enc_ten x hxl
              obtain ⟨boff, bcap, hbv, hbsub0⟩ := hv.addr (by omega)
              simp only [Value.slice.injEq, true_and] at hbv
              obtain ⟨rfl, rfl⟩ := hbv
              have hbsub : ∀ u, Kept (fun _ => False) w u → (convert 24 9 (.slice (some ⟨b0, boff, none⟩) p c1)).run Try.prog u = .ok (.string (toStr (enc x))) u := by
                intro u hu
                have h := ((hbsub0 p c1 hpl).kept hu (fun h => h)).string
                rw [htk] at h
                exact h
              unfold maxLen at hcm
              rcases he with rfl | rfl
              all_goals
                go_wp2_with fail
                refine (wnumber x xb xb [] _ hxl (by simp) h8w).mono ?_
                rintro e w9 ⟨rfl, g9, h9, hg9, hk⟩
                have hK9 := hK8.on hk (by omega)
                have h9q := h8.kept hk (by omega) (by omega)
                rw [List.nil_append] at h9
                clear hk h8 h8w
                have hKD : Kept (fun _ => False) w w9.drew := hK9.drew
                have h9D : WIs w9.drew xb g9 (enc x) := h9
                have hqD : RIs w9.drew qb qg l p 0 := h9q
                have hLeft : ∀ u, RIs u qb qg l p 0 → Calls Try.prog 16 #[.pointer (some ⟨qb, 0, none⟩)] u fun e w' => e = .returned (.int .i64 ((l.length : Int) - p)) ∧ Kept (fun _ => False) u w' := by
                  intro u hu
                  refine (rleft qb qg l p 0 u (by omega) (by omega) hu).mono ?_
                  rintro e w' ⟨rfl, hk'⟩
                  exact ⟨ret_int (by rw [if_pos rfl]; omega), hk'⟩
                have hsub : IntKind.i64.wrap ((l.length : Int) - ((l.length : Int) - p)) = p := by rw [IntKind.wrap_i64]; omega
                go_wp2_with fail
                go_region_with (first | (go_at_call 26; refine (wdone xb g9 (enc x) _ (by omega) h9D).mono ?_; rintro e wd ⟨vd, gd, rfl, hrd, hgd, hkd⟩; obtain ⟨ad, nd, cd, hvd⟩ := hrd.rd.shape3; subst hvd; have hcvd := hrd.rd.string; have hKd := hKD.on hkd (fun _ h => h.elim); have hqd := hqD.kept hkd (fun h => h) (fun h => h)) | (go_at_call 16; refine (hLeft _ hqd).mono ?_; rintro e wl ⟨rfl, hkl⟩; have hKl := hKd.on hkl (fun _ h => h.elim); have hcvl := (hrd.kept hkl (fun _ h => h)).rd.string; have hcvb := hbsub wl hKl) | (go_at_call 17; refine (known_true _).mono ?_; rintro e wk ⟨rfl, hkk⟩; have hKk := hKl.on hkk (fun _ h => h.elim)))
                all_goals
                  go_wp2
                  go_ret
                  exact ⟨rfl, hKk.below (Nat.le_refl _) (fun _ _ h => h)⟩
            · rcases he with rfl | rfl
              all_goals
                go_wp2_with fail
                refine (known_true w8).mono ?_
                rintro e w9 ⟨rfl, hk⟩
                have hK9 := hK8.on hk (fun _ h => h.elim)
                go_wp2
                go_ret
                exact ⟨rfl, hK9.below (Nat.le_refl _) (fun _ _ h => h)⟩
end Go.Proofs.Ytbheccioeiemfaa
