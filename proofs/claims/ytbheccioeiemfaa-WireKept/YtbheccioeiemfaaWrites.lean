/-
  The walk of the law WireWrites.
-/
import Derived.Test.YtbheccioeiemfaaRefs
import Derived.Test.YtbheccioeiemfaaParts
import Derived.Test.YtbheccioeiemfaaRows
import Derived.JoinedCond
import Derived.Deep.RegionWith
import Derived.Laws.IdiomStrings
namespace Go.Proofs.Ytbheccioeiemfaa
open Go.ChangeShapes Go.WideShapes Go.ChangeAt Go.RowKit Go.Deep

/-- The texts' lengths, summed up. -/
def psum (F : Nat → Int × Int × Nat × ByteArray) : Nat → Nat
  | 0 => 0
  | k + 1 => psum F k + (F k).2.2.2.size
theorem psum_mono (F : Nat → Int × Int × Nat × ByteArray) : ∀ (n k : Nat), k ≤ n → psum F k ≤ psum F n
  | 0, k, h => by
    obtain rfl : k = 0 := by omega
    exact Nat.le_refl _
  | n + 1, k, h => by
    by_cases e : k = n + 1
    · subst e; exact Nat.le_refl _
    · have := psum_mono F n k (by omega)
      rw [psum]
      omega

theorem Rd.shape3 {w : World} {b : Nat} {v : Value} {l : List Nat} (h : Rd w b v l) : ∃ a n c, v = .slice a n c := by
  obtain ⟨a, c, e⟩ := h.shape
  exact ⟨a, _, c, e⟩
theorem rd_bytes (w : World) (s : ByteArray) (c : Nat) : Rd (w.alloc (.cells (bytesRow s c) 5 ((bytesRow s c).size, (bytesRow s c).size + 1))).drew w.heap.size (.slice (some ⟨w.heap.size, 0, none⟩) s.size c) (s.data.toList.map UInt8.toNat) := by
  have e9 : (s.data.toList.map UInt8.toNat).length = s.size := by simp
  refine .inr ⟨⟨w.heap.size, 0, none⟩, c, by rw [e9], rfl, fun j u hu => ?_⟩
  have hj : j < s.data.size := by
    have := (List.getElem?_eq_some_iff.1 hu).1
    rw [bs_length, e9] at this
    exact this
  have e : (⟨w.heap.size, 0, none⟩ : Addr).add j = ⟨w.heap.size, j, none⟩ := by unfold Addr.add; split <;> simp_all
  have hh : (w.alloc (.cells (bytesRow s c) 5 ((bytesRow s c).size, (bytesRow s c).size + 1))).drew.heap[w.heap.size]? = some (.cells (bytesRow s c) 5 ((bytesRow s c).size, (bytesRow s c).size + 1)) := heap_alloc_new w _
  rw [e]
  simp only [World.cell?, hh, bytesRow_at s c j hj]
  rw [← hu]
  have h2 : s.data[j]? = some s.data[j] := Array.getElem?_eq_getElem hj
  simp [bs, h2]

set_option maxHeartbeats 4000000 in
set_option maxRecDepth 1000000 in
theorem wireWrites_walk (v2 : Value) (n : Nat) (F : Nat → Int × Int × Nat × ByteArray) (w : World) (hP : Parts w v2 n F) (hn : n ≤ 1048576) (hS : psum F n ≤ 1048576) :
    Calls Try.prog 4 #[v2] w fun e w' => e = .returned (.bool true) ∧ Below w.heap.size w w' := by
  obtain ⟨ao2, c2, hv2⟩ := hP.shape
  subst hv2
  go_enter Try.func4, Try.ntmps4
  go_wp2_with fail
  refine (newwriter w).mono ?_
  rintro e w1 ⟨b, rfl, h1, hb, hk⟩
  have hK1 := (Kept.refl (fun _ => False) w).on hk (fun _ h => h.elim)
  clear hk
  go_wp2
  go_loopg [4, 5] n (fun gk vw i wr => ∃ (k g g2 : Nat) (L : List Nat), gk + k = n ∧ k ≤ 30 ∧ i = .int .i64 k ∧ WIs wr b g L ∧ Row wr g2 vw L ∧ (vw.ownBlock = some g2 → w.heap.size ≤ g2 ∧ g2 ≠ b ∧ g2 ≠ g) ∧ w.heap.size ≤ g ∧ L.length ≤ k * 10 + psum F k ∧ Kept (fun _ => False) w wr)
  case atStart => exact ⟨0, b, 0, [], rfl, by omega, rfl, h1, Row.nil _ _, fun h => by simp [Value.ownBlock] at h, hb, by simp, hK1⟩
  case round =>
    obtain ⟨k, g, g2, L, hgk, hk30, rfl, hw, hr, hdis, hg, hL, hK⟩ := hrel
    clear h1 hK1
    by_cases hlt : k < n
    · by_cases hlt30 : k < 30
      · obtain ⟨pb, off, cap, hsl, hbw, hat⟩ : ∃ b off cap, Value.slice ao2 n c2 = .slice (some ⟨b, off, none⟩) n cap ∧ b < w.heap.size ∧ ∀ i, i < n → PAt w b (off + i * 4) (F i) := by
          rcases hP with ⟨h0, _⟩ | h
          · omega
          · exact h
        simp only [Value.slice.injEq, true_and] at hsl
        obtain ⟨rfl, rfl⟩ := hsl
        have hatk := hat k hlt
        have hSk : psum F k + (F k).2.2.2.size ≤ 1048576 := by
          have := psum_mono F n (k + 1) (by omega)
          rw [psum] at this
          omega
        have hSe : psum F (k + 1) = psum F k + (F k).2.2.2.size := rfl
        obtain ⟨pk, hFk⟩ : ∃ p, p = F k := ⟨_, rfl⟩
        rw [← hFk] at hatk hSk hSe
        obtain ⟨kind, most, nn, txt⟩ := pk
        simp only at hSk hSe
        have HSE : Hid (psum F (k + 1) = psum F k + txt.size) := hSe
        clear hat hP hFk hSe
        have hp := hatk.kept hK (fun h => h)
        obtain ⟨d0, d1, d2, d3, k0, k1, k2, k3⟩ := hp
        simp only at d0 d1 d2 d3 k0 k1 k2 k3
        have hbl0 := hw.lt
        have hgl0 := hw.gt
        have hsz := hK.size
        have hwr : -9223372036854775808 ≤ wrap64 nn ∧ wrap64 nn < 9223372036854775808 := by unfold wrap64; omega
        by_cases e1 : kind = 1
        · subst e1
          go_wp2_with fail
          refine (wnumber nn b g L _ k2 (by omega) hw).mono ?_
          rintro e w2 ⟨rfl, g', hw2, hg', hk⟩
          have hK2 := hK.on hk (by omega)
          have hz1 := hk.size
          have hr2 := hr.kept hk (fun e => by have := hdis e; omega)
          have hbl := hw2.lt
          have hgl := hw2.gt
          have e5 := hatk.kept hK2 (fun h => h)
          clear d0 d1 d2 d3
          obtain ⟨d0, d1, d2, d3, _, _, _, _⟩ := e5
          simp only at d0 d1 d2 d3
          go_wp2_with fail
          refine (refnumber _ g2 L nn _ (by omega) k2 hr2.rd).mono ?_
          rintro e w3 ⟨v3, g3, rfl, hr3, hg3, hk3⟩
          have hK3 := hK2.on hk3 (fun _ h => h.elim)
          have hw3 := hw2.kept hk3 (fun h => h) (fun h => h)
          obtain ⟨a3, n3, c3, rfl⟩ : ∃ a n c, v3 = .slice a n c := by
            obtain ⟨a, c, h⟩ := hr3.rd.shape
            exact ⟨a, _, c, h⟩
          clear hk hk3
          go_wp2
          go_roundg (n - (k + 1))
          case measure => omega
          case rel =>
            refine ⟨k + 1, g', g3, L ++ enc nn, by omega, by omega, by go_num, hw3, hr3, fun _ => ⟨by omega, by omega, by omega⟩, by omega, ?_, hK3⟩
            rw [HSE.out]
            have := enc_ten nn k2
            simp only [List.length_append]
            omega
        · by_cases e2 : kind = 2
          · subst e2
            go_wp2_with fail
            refine (wsigned (wrap64 nn) b g L _ hwr.1 hwr.2 (by omega) hw).mono ?_
            rintro e w2 ⟨rfl, g', hw2, hg', hk⟩
            have hK2 := hK.on hk (by omega)
            have hz1 := hk.size
            have hr2 := hr.kept hk (fun e => by have := hdis e; omega)
            have hbl := hw2.lt
            have hgl := hw2.gt
            have e5 := hatk.kept hK2 (fun h => h)
            clear d0 d1 d2 d3
            obtain ⟨d0, d1, d2, d3, _, _, _, _⟩ := e5
            simp only at d0 d1 d2 d3
            go_wp2_with fail
            refine (refsigned _ g2 L (wrap64 nn) _ (by omega) hwr.1 hwr.2 hr2.rd).mono ?_
            rintro e w3 ⟨v3, g3, rfl, hr3, hg3, hk3⟩
            have hK3 := hK2.on hk3 (fun _ h => h.elim)
            have hw3 := hw2.kept hk3 (fun h => h) (fun h => h)
            obtain ⟨a3, n3, c3, rfl⟩ : ∃ a n c, v3 = .slice a n c := by
              obtain ⟨a, c, h⟩ := hr3.rd.shape
              exact ⟨a, _, c, h⟩
            clear hk hk3
            go_wp2
            go_roundg (n - (k + 1))
            case measure => omega
            case rel =>
              refine ⟨k + 1, g', g3, L ++ enc (zig (wrap64 nn)), by omega, by omega, by go_num, hw3, hr3, fun _ => ⟨by omega, by omega, by omega⟩, by omega, ?_, hK3⟩
              rw [HSE.out]
              have := enc_ten _ (zig_lt (wrap64 nn) hwr.1 hwr.2)
              simp only [List.length_append]
              omega
          · by_cases e3 : kind = 3
            · subst e3
              go_wp2_with fail
              refine (wtext txt b g L _ (by omega) hw).mono ?_
              rintro e w2 ⟨rfl, g', hw2, hg', hk⟩
              have hK2 := hK.on hk (by omega)
              have hz1 := hk.size
              have hr2 := hr.kept hk (fun e => by have := hdis e; omega)
              have hbl := hw2.lt
              have hgl := hw2.gt
              have e5 := hatk.kept hK2 (fun h => h)
              clear d0 d1 d2 d3
              obtain ⟨d0, d1, d2, d3, _, _, _, _⟩ := e5
              simp only at d0 d1 d2 d3
              go_wp2_with fail
              refine (reftext _ g2 L txt _ (by omega) hr2.rd).mono ?_
              rintro e w3 ⟨v3, g3, rfl, hr3, hg3, hk3⟩
              have hK3 := hK2.on hk3 (fun _ h => h.elim)
              have hw3 := hw2.kept hk3 (fun h => h) (fun h => h)
              obtain ⟨a3, n3, c3, rfl⟩ : ∃ a n c, v3 = .slice a n c := by
                obtain ⟨a, c, h⟩ := hr3.rd.shape
                exact ⟨a, _, c, h⟩
              clear hk hk3
              go_wp2
              go_roundg (n - (k + 1))
              case measure => omega
              case rel =>
                refine ⟨k + 1, g', g3, L ++ enc txt.size ++ txt.data.toList.map UInt8.toNat, by omega, by omega, by go_num, hw3, hr3, fun _ => ⟨by omega, by omega, by omega⟩, by omega, ?_, hK3⟩
                rw [HSE.out]
                have := enc_ten txt.size (by omega)
                have e9 : txt.data.toList.length = txt.size := by simp
                simp only [List.length_append, List.length_map]
                omega
            · by_cases e4 : kind = 4
              · subst e4
                have hbs : ∀ u : World, (convert 9 24 (.string txt)).run Try.prog u = .ok _ _ := fun u => run_bytes_of_string u 9 24 5 txt Try.underlying9 Try.underlying24 Try.underlying5
                go_wp2_with fail
                have hka := ((Kept.refl (fun _ => False) wr).alloc (.cells (bytesRow txt (grownCap wr txt.size 0 5)) 5 ((bytesRow txt (grownCap wr txt.size 0 5)).size, (bytesRow txt (grownCap wr txt.size 0 5)).size + 1))).drew
                have hwa := hw.kept hka (fun h => h) (fun h => h)
                have hra := hr.kept hka (fun _ h => h)
                have hKa := hK.on hka (fun _ h => h.elim)
                have hrd := rd_bytes wr txt (grownCap wr txt.size 0 5)
                have e9 : (txt.data.toList.map UInt8.toNat).length = txt.size := by simp
                refine (wraw _ wr.heap.size _ b g L _ (by rw [e9]; omega) hwa hrd).mono ?_
                rintro e w2 ⟨rfl, g', hw2, hg', hk⟩
                have hK2 := hKa.on hk (by omega)
                have hz1 := hk.size
                have hza := hka.size
                have hr2 := hra.kept hk (fun e => by have := hdis e; omega)
                have hbl := hw2.lt
                have hgl := hw2.gt
                have hsz0 := hK.size
                have e5 := hatk.kept hK2 (fun h => h)
                clear d0 d1 d2 d3 hbs hra hwa hrd
                obtain ⟨d0, d1, d2, d3, _, _, _, _⟩ := e5
                simp only at d0 d1 d2 d3
                have HE9 : Hid ((txt.data.toList.map UInt8.toNat).length = txt.size) := e9
                clear e9
                go_wp2_with (at_builtin; refine wpList_append_row _ rfl (.tmp 84) (.tmp 89) 24 9 rfl Try.underlying24 Try.info5 _ g2 L rfl hr2 _ txt.size (txt.data.toList.map UInt8.toNat) rfl ?src ?len ?next)
                case src =>
                  have e : bs (txt.data.toList.map UInt8.toNat) = byteCells txt := by simp [bs, byteCells]
                  rw [e]
                  exact Src.ofString w2 Try.underlying9 txt
                case len => rw [HE9.out]; omega
                case next =>
                  intro v3 w3 g3 hr3 hg3 hat3 hgr hnil
                  have hk3 : Kept (fun x => u4.ownBlock = some x) w2 w3 := (Kept.refl _ w2).grown hgr (fun x hx _ => hx)
                  have hown : ∀ x, u4.ownBlock = some x → w.heap.size ≤ x ∧ x ≠ b ∧ x ≠ g' := by
                    intro x hx
                    have h2 := hr2.2
                    rw [hx] at h2
                    simp at h2
                    subst h2
                    have h4 := hdis hx
                    have h5 := hr.lt hx
                    simp at hg'
                    omega
                  have hK3 := hK2.on hk3 (fun x h => (hown x h).1)
                  have hdis3 : v3.ownBlock = some g3 → w.heap.size ≤ g3 ∧ g3 ≠ b ∧ g3 ≠ g' := by
                    intro h
                    rcases hat3 with e | e
                    · exact hown g3 (by rw [← e]; exact h)
                    · rw [e] at h; simp at h; omega
                  obtain ⟨a3, n3, c3, rfl⟩ : ∃ a n c, v3 = .slice a n c := by
                    obtain ⟨a, c, h⟩ := hr3.rd.shape
                    exact ⟨a, _, c, h⟩
                  clear hnil hat3 hgr
                  have hw3 := hw2.kept hk3 (fun h => (hown _ h).2.1 rfl) (fun h => (hown _ h).2.2 rfl)
                  clear hk3
                  go_wp2
                  go_roundg (n - (k + 1))
                  case measure => omega
                  case rel =>
                    refine ⟨k + 1, g', g3, L ++ txt.data.toList.map UInt8.toNat, by omega, by omega, by go_num, hw3, hr3, hdis3, by omega, ?_, hK3⟩
                    rw [HSE.out, List.length_append, HE9.out]
                    omega
              ·
                go_wp2
                go_roundg (n - (k + 1))
                case measure => omega
                case rel => exact ⟨k + 1, g, g2, L, by omega, by omega, by go_num, hw, hr, hdis, hg, by rw [HSE.out]; omega, hK⟩
      ·
        have hLl : L.length ≤ 2097152 := by
          have := psum_mono F n k (by omega)
          omega
        obtain ⟨a4, n4, c4, hsh⟩ : ∃ a n c, u4 = .slice a n c := by
          obtain ⟨a, c, h⟩ := hr.rd.shape
          exact ⟨a, _, c, h⟩
        subst hsh
        have hcv1 : (convert 24 9 (.slice a4 n4 c4)).run Try.prog wr.drew = .ok (.string (toStr L)) wr.drew := Rd.string (w := wr.drew) hr.rd
        have hwd : WIs wr.drew b g L := hw
        have hrd4 : Row wr.drew g2 (.slice a4 n4 c4) L := hr
        have hKd0 : Kept (fun _ => False) w wr.drew := hK.drew
        go_wp2_with fail
        go_region_with (first | (go_at_call 26; refine (wdone b g L _ (by omega) hwd).mono ?_; rintro e wd ⟨vd, gd, rfl, hrd, hgd, hkd⟩; obtain ⟨ad, nd, cd, hvd⟩ := hrd.rd.shape3; subst hvd; have hcvd := hrd.rd.string; have hcvw := (hrd4.kept hkd (fun _ h => h)).rd.string; have hKd := hKd0.on hkd (fun _ h => h.elim)) | (go_at_call 17; refine (known_true _).mono ?_; rintro e wk ⟨rfl, hkk⟩; have hKk := hKd.on hkk (fun _ h => h.elim)))
        all_goals
          go_wp2
          go_ret
          exact ⟨rfl, hKk.below (Nat.le_refl _) (fun _ _ h => h)⟩
    ·
      have hLl : L.length ≤ 2097152 := by
        have := psum_mono F n k (by omega)
        omega
      obtain ⟨a4, n4, c4, hsh⟩ : ∃ a n c, u4 = .slice a n c := by
        obtain ⟨a, c, h⟩ := hr.rd.shape
        exact ⟨a, _, c, h⟩
      subst hsh
      have hcv1 : (convert 24 9 (.slice a4 n4 c4)).run Try.prog wr.drew = .ok (.string (toStr L)) wr.drew := Rd.string (w := wr.drew) hr.rd
      have hwd : WIs wr.drew b g L := hw
      have hrd4 : Row wr.drew g2 (.slice a4 n4 c4) L := hr
      have hKd0 : Kept (fun _ => False) w wr.drew := hK.drew
      go_wp2_with fail
      go_region_with (first | (go_at_call 26; refine (wdone b g L _ (by omega) hwd).mono ?_; rintro e wd ⟨vd, gd, rfl, hrd, hgd, hkd⟩; obtain ⟨ad, nd, cd, hvd⟩ := hrd.rd.shape3; subst hvd; have hcvd := hrd.rd.string; have hcvw := (hrd4.kept hkd (fun _ h => h)).rd.string; have hKd := hKd0.on hkd (fun _ h => h.elim)) | (go_at_call 17; refine (known_true _).mono ?_; rintro e wk ⟨rfl, hkk⟩; have hKk := hKd.on hkk (fun _ h => h.elim)))
      all_goals
        go_wp2
        go_ret
        exact ⟨rfl, hKk.below (Nat.le_refl _) (fun _ _ h => h)⟩
end Go.Proofs.Ytbheccioeiemfaa
