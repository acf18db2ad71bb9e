/-
  The walk of the law WireReads.
-/
import Derived.Test.YtbheccioeiemfaaRoom
import Derived.Test.YtbheccioeiemfaaParts
namespace Go.Proofs.Ytbheccioeiemfaa
open Go.ChangeShapes Go.WideShapes Go.ChangeAt Go.RowKit Go.Deep

theorem rTake_le (l : List Nat) (p why : Nat) (n : Int) (hp : p ≤ l.length) : (rTake l p why n).2.1 ≤ l.length := by
  unfold rTake
  split
  · exact hp
  · split
    · exact Nat.le_refl _
    · show p + n.toNat ≤ l.length
      omega

set_option maxHeartbeats 8000000 in
set_option maxRecDepth 1000000 in
theorem wireReads_walk (v v2 : Value) (b0 : Nat) (l : List Nat) (n : Nat) (F : Nat → Int × Int × Nat × ByteArray) (w : World) (hv : Rd w b0 v l) (hcap : ∃ a m c, v = .slice a m c ∧ m ≤ c ∧ c ≤ maxLen) (hl : l.length ≤ 140737488351232) (h256 : ∀ x ∈ l, x < 256) (hP : Parts w v2 n F) (_hn : n ≤ maxLen) :
    Calls Try.prog 5 #[v, v2] w fun e w' => e = .returned (.bool true) ∧ Below w.heap.size w w' := by
  unfold maxLen at _hn
  obtain ⟨ao2, c2, hv2⟩ := hP.shape
  subst hv2
  have hat : ∀ k, k < n → ∃ pb off, ao2 = some ⟨pb, off, none⟩ ∧ pb < w.heap.size ∧ PAt w pb (off + k * 4) (F k) := by
    intro k hk
    rcases hP with ⟨h0, _⟩ | ⟨pb, off, cap, h1, h2, h3⟩
    · omega
    · simp at h1
      exact ⟨pb, off, h1.1, h2, h3 k hk⟩
  clear hP
  have hblk := hv.blk
  obtain ⟨a1, m1, c1, hv1, hmc, hcm⟩ := hcap
  have hm1 : m1 = l.length := by
    obtain ⟨a, c, h⟩ := hv.shape
    rw [h] at hv1
    simp at hv1
    exact hv1.2.1.symm
  subst hm1
  subst hv1
  have hcap : ∃ a m c, Value.slice a1 l.length c1 = .slice a m c ∧ m ≤ c ∧ c ≤ maxLen := ⟨a1, l.length, c1, rfl, hmc, hcm⟩
  go_enter Try.func5, Try.ntmps5
  go_wp2_with fail
  refine (roomy _ b0 l w hl hv).mono ?_
  rintro e w1 ⟨c, g, rfl, hr1, hg1, hc1, hcm1, hk⟩
  have hK1 := (Kept.refl (fun _ => False) w).on hk (fun _ h => h.elim)
  clear hk
  have hsub := row_sub hr1
  have hgl : g < w1.heap.size := hr1.lt (k := g) rfl
  have hcI : (l.length : Int) ≤ c := by omega
  go_wp2_with fail
  refine (newreader _ g l _ (by omega) hsub).mono ?_
  rintro e w2 ⟨rb, rg, rfl, h2, hrb, hrg, hk⟩
  have hK2 := hK1.on hk (fun _ h => h.elim)
  have hr2 := hr1.kept hk (fun _ h => h)
  have hz1 := hK1.size
  have hrbl := h2.lt
  have hrgl := h2.gt
  clear hk hsub hr1
  go_wp2
  have hz2 := hK2.size
  have hq3 : QIs (w2.alloc (.cells #[.slice a1 l.length c1, .int .i64 0, .bool false, .int .i64 0, .int .i64 0] 53)) w2.heap.size b0 (.slice a1 l.length c1) l 0 0 :=
    ⟨0, false, 0, 0, ⟨53, heap_alloc_new w2 _⟩, (hv.kept hK2 (fun h => h)).alloc _, fun h => by rcases hblk with h1 | h1; exact h1; omega, Nat.zero_le _, .inl ⟨rfl, rfl, rfl⟩⟩
  have hr3 := hr2.alloc (.cells #[.slice a1 l.length c1, .int .i64 0, .bool false, .int .i64 0, .int .i64 0] 53)
  have h3 := h2.kept ((Kept.refl (fun _ => False) w2).alloc (.cells #[.slice a1 l.length c1, .int .i64 0, .bool false, .int .i64 0, .int .i64 0] 53)) (fun h => h) (fun h => h)
  have hK3 := hK2.alloc (.cells #[.slice a1 l.length c1, .int .i64 0, .bool false, .int .i64 0, .int .i64 0] 53)
  obtain ⟨qb, hqb⟩ : ∃ qb, qb = w2.heap.size := ⟨_, rfl⟩
  rw [← hqb] at hq3 ⊢
  have hqb1 : rb < qb ∧ rg < qb ∧ w.heap.size ≤ qb ∧ g < qb := by omega
  clear hqb h2 hr2
  generalize w2.alloc (.cells #[.slice a1 l.length c1, .int .i64 0, .bool false, .int .i64 0, .int .i64 0] 53) = w3 at hq3 hr3 h3 hK3 ⊢
  clear hz2 hrbl hrgl hK2 hK1
  go_loopg [8] n (fun gk i wr => ∃ k p why : Nat, gk + k = n ∧ k ≤ 30 ∧ i = .int .i64 k ∧ p ≤ l.length ∧ RIs wr rb rg l p why ∧ QIs wr qb b0 (.slice a1 l.length c1) l p why ∧ Row wr g (.slice (some ⟨g, 0, none⟩) (l.length + 80) c) (l ++ List.replicate 80 165) ∧ Kept (fun _ => False) w wr)
  case atStart => exact ⟨0, 0, 0, rfl, by omega, rfl, Nat.zero_le _, h3, hq3, hr3, hK3⟩
  case round =>
    obtain ⟨k, p, why, hgk, hk30, rfl, hp, hr, hq, hf, hK⟩ := hrel
    clear h3 hq3 hr3 hK3
    by_cases hlt : k < n ∧ k < 30
    · obtain ⟨hlt, hlt30⟩ := hlt
      obtain ⟨pb, off, rfl, hpb, hatk⟩ := hat k hlt
      obtain ⟨pk, hFk⟩ : ∃ p, p = F k := ⟨_, rfl⟩
      rw [← hFk] at hatk
      obtain ⟨kind, most, nn, txt⟩ := pk
      clear hFk hat
      have hpk := hatk.kept hK (fun h => h)
      obtain ⟨d0, d1, d2, d3, k0, k1, k2, k3⟩ := hpk
      simp only at d0 d1 d2 d3 k0 k1 k2 k3
      have hrl := hr.lt
      have hql := hq.lt
      have hfl : g < wr.heap.size := hf.lt (k := g) rfl
      have hsz := hK.size
      have hb0r : b0 = rb → l = [] := fun h => by rcases hblk with h1 | h1; exact h1; omega
      have hb0q : b0 = qb → l = [] := fun h => by rcases hblk with h1 | h1; exact h1; omega
      have hkx := (Kept.refl (fun _ => False) wr).alloc (.cells #[.int .i64 kind, .int .i64 most, .int .u64 nn, .string txt] 40)
      have hrx := hr.kept hkx (fun h => h) (fun h => h)
      have hqx := hq.kept hkx (fun h => h) (fun h => h.elim)
      have hfx := hf.kept hkx (fun _ h => h)
      have hKx := hK.on hkx (fun _ h => h.elim)
      have hxc : ∀ i, (wr.alloc (.cells #[.int .i64 kind, .int .i64 most, .int .u64 nn, .string txt] 40)).cell? ⟨wr.heap.size, i, none⟩ = (#[Value.int .i64 kind, .int .i64 most, .int .u64 nn, .string txt])[i]? := fun i => cell_of_row _ _ _ _ _ _ (heap_alloc_new wr _)
      clear hkx hr hq hf hK
      by_cases e1 : kind = 1
      · subst e1
        have hrD0 : RIs (wr.alloc (.cells #[.int .i64 1, .int .i64 most, .int .u64 nn, .string txt] 40)).drew rb rg l p why := hrx
        have hqD0 : QIs (wr.alloc (.cells #[.int .i64 1, .int .i64 most, .int .u64 nn, .string txt] 40)).drew qb b0 (.slice a1 l.length c1) l p why := hqx
        have hfD0 : Row (wr.alloc (.cells #[.int .i64 1, .int .i64 most, .int .u64 nn, .string txt] 40)).drew g (.slice (some ⟨g, 0, none⟩) (l.length + 80) c) (l ++ List.replicate 80 165) := hfx
        have hKD0 : Kept (fun _ => False) w (wr.alloc (.cells #[.int .i64 1, .int .i64 most, .int .u64 nn, .string txt] 40)).drew := hKx.drew
        have dx0 : (wr.alloc (.cells #[.int .i64 1, .int .i64 most, .int .u64 nn, .string txt] 40)).drew.cell? ⟨wr.heap.size, 2, none⟩ = some (.int .u64 nn) := hxc 2
        obtain ⟨x1, p1, y1, hR⟩ : ∃ x1 p1 y1, rNum l p why nn = (x1, p1, y1) := ⟨_, _, _, rfl⟩
        have hpT : p1 ≤ l.length := by have := rNum_le l p why nn hp; rw [hR] at this; exact this
        have hA : ∀ u, RIs u rb rg l p why → Calls Try.prog 10 #[.pointer (some ⟨rb, 0, none⟩), .int .u64 nn] u fun e w' => e = .returned (.int .u64 x1) ∧ RIs w' rb rg l p1 y1 ∧ Kept (fun x => x = rb) u w' := by
          intro u hu
          have h := rnumber rb rg l p why nn u (by omega) h256 hp k2 hu
          rw [hR] at h
          exact h
        have hB : ∀ u, QIs u qb b0 (.slice a1 l.length c1) l p why → Calls Try.prog 28 #[.pointer (some ⟨qb, 0, none⟩), .int .u64 nn] u fun e w' => e = .returned (.int .u64 x1) ∧ QIs w' qb b0 (.slice a1 l.length c1) l p1 y1 ∧ Kept (fun x => x = qb) u w' := by
          intro u hu
          have h := qnumber qb b0 (.slice a1 l.length c1) l p why nn u hl h256 hp k2 hu hcap
          rw [hR] at h
          exact h
        clear hR hrx hqx hfx hKx hxc
        go_wp2_with fail
        go_region_held3 (fun u => u.cell? ⟨wr.heap.size, 2, none⟩ = some (.int .u64 nn)) (first | go_keep | assumption) (first | (go_at_call 10; refine (hA _ hrD0).mono ?_; rintro e wa ⟨rfl, hra, hka⟩; have hqa := hqD0.kept hka (by omega) hb0r; have hfa := hfD0.kept hka (fun _ h => by omega); have hKa := hKD0.on hka (by omega); have dxa := hka.cell dx0 (by simp; omega)) | (go_at_call 28; refine (hB _ hqa).mono ?_; rintro e wb ⟨rfl, hqT, hkb⟩; have hrT := hra.kept hkb (by omega) (by omega); have hfT := hfa.kept hkb (fun _ h => by omega); have hKT := hKa.on hkb (by omega); have dxb := hkb.cell dxa (by simp; omega)))
        clear hA hB hra hqa hfa hKa hka hkb hrD0 hqD0 hfD0 hKD0 dx0 dxa dxb
        obtain ⟨e1, e2, HEE⟩ : ∃ e1 e2, Hid (rEnd l p1 y1 = (e1, e2)) := ⟨_, _, rfl⟩
        obtain ⟨lf, HLF⟩ : ∃ lf, Hid ((if y1 = 0 then l.length - p1 else 0) = lf) := ⟨_, rfl⟩
        have hE := rend rb rg l p1 y1 wb (by omega) hrT
        rw [HEE.out] at hE
        go_wp2_with fail
        refine hE.mono ?_
        rintro e wA ⟨rfl, hkA⟩
        have hrA := hrT.kept hkA (fun h => h) (fun h => h)
        have hqA := hqT.kept hkA (fun h => h) (fun h => h.elim)
        have hfA := hfT.kept hkA (fun _ h => h)
        have hKA := hKT.on hkA (fun _ h => h.elim)
        clear hkA hE hrT hqT hfT hKT
        have hE := qend qb b0 _ l p1 y1 wA hl hqA
        rw [HEE.out] at hE
        go_wp2_with fail
        refine hE.mono ?_
        rintro e wB ⟨rfl, hkB⟩
        have hrB := hrA.kept hkB (fun h => h) (fun h => h)
        have hqB := hqA.kept hkB (fun h => h) (fun h => h.elim)
        have hfB := hfA.kept hkB (fun _ h => h)
        have hKB := hKA.on hkB (fun _ h => h.elim)
        clear hkB hE hrA hqA hfA hKA
        have hE := rleft rb rg l p1 y1 wB (by omega) hpT hrB
        rw [HLF.out] at hE
        go_wp2_with fail
        refine hE.mono ?_
        rintro e wC ⟨rfl, hkC⟩
        have hrC := hrB.kept hkC (fun h => h) (fun h => h)
        have hqC := hqB.kept hkC (fun h => h) (fun h => h.elim)
        have hfC := hfB.kept hkC (fun _ h => h)
        have hKC := hKB.on hkC (fun _ h => h.elim)
        clear hkC hE hrB hqB hfB hKB
        have hE := qleft qb b0 _ l p1 y1 wC hl hqC
        rw [HLF.out] at hE
        go_wp2_with fail
        refine hE.mono ?_
        rintro e wD ⟨rfl, hkD⟩
        have hrD := hrC.kept hkD (fun h => h) (fun h => h)
        have hqD := hqC.kept hkD (fun h => h) (fun h => h.elim)
        have hfD := hfC.kept hkD (fun _ h => h)
        have hKD := hKC.on hkD (fun _ h => h.elim)
        clear hkD hE hrC hqC hfC hKC
        go_wp2
        go_roundg (n - (k + 1))
        case measure => omega
        case rel => exact ⟨k + 1, p1, y1, by omega, by omega, by go_num, hpT, hrD, hqD, hfD, hKD⟩
      · by_cases e2 : kind = 2
        · subst e2
          obtain ⟨x1, p1, y1, hR⟩ : ∃ x1 p1 y1, rNum l p why 18446744073709551615 = (x1, p1, y1) := ⟨_, _, _, rfl⟩
          have hpT : p1 ≤ l.length := by have := rNum_le l p why 18446744073709551615 hp; rw [hR] at this; exact this
          have hA := rsigned rb rg l p why _ (by omega) h256 hp hrx
          rw [hR] at hA
          go_wp2_with fail
          refine hA.mono ?_
          rintro e wa ⟨rfl, hra, hka⟩
          have hqa := hqx.kept hka (by omega) hb0r
          have hfa := hfx.kept hka (fun _ h => by omega)
          have hKa := hKx.on hka (by omega)
          clear hka hrx hqx hfx hKx hxc hA
          have hB := qsigned qb b0 _ l p why wa hl h256 hp hqa hcap
          rw [hR] at hB
          go_wp2_with fail
          refine hB.mono ?_
          rintro e wb ⟨rfl, hqT, hkb⟩
          have hrT := hra.kept hkb (by omega) (by omega)
          have hfT := hfa.kept hkb (fun _ h => by omega)
          have hKT := hKa.on hkb (by omega)
          clear hkb hra hqa hfa hKa hB hR
          obtain ⟨e1, e2, HEE⟩ : ∃ e1 e2, Hid (rEnd l p1 y1 = (e1, e2)) := ⟨_, _, rfl⟩
          obtain ⟨lf, HLF⟩ : ∃ lf, Hid ((if y1 = 0 then l.length - p1 else 0) = lf) := ⟨_, rfl⟩
          have hE := rend rb rg l p1 y1 wb (by omega) hrT
          rw [HEE.out] at hE
          go_wp2_with fail
          refine hE.mono ?_
          rintro e wA ⟨rfl, hkA⟩
          have hrA := hrT.kept hkA (fun h => h) (fun h => h)
          have hqA := hqT.kept hkA (fun h => h) (fun h => h.elim)
          have hfA := hfT.kept hkA (fun _ h => h)
          have hKA := hKT.on hkA (fun _ h => h.elim)
          clear hkA hE hrT hqT hfT hKT
          have hE := qend qb b0 _ l p1 y1 wA hl hqA
          rw [HEE.out] at hE
          go_wp2_with fail
          refine hE.mono ?_
          rintro e wB ⟨rfl, hkB⟩
          have hrB := hrA.kept hkB (fun h => h) (fun h => h)
          have hqB := hqA.kept hkB (fun h => h) (fun h => h.elim)
          have hfB := hfA.kept hkB (fun _ h => h)
          have hKB := hKA.on hkB (fun _ h => h.elim)
          clear hkB hE hrA hqA hfA hKA
          have hE := rleft rb rg l p1 y1 wB (by omega) hpT hrB
          rw [HLF.out] at hE
          go_wp2_with fail
          refine hE.mono ?_
          rintro e wC ⟨rfl, hkC⟩
          have hrC := hrB.kept hkC (fun h => h) (fun h => h)
          have hqC := hqB.kept hkC (fun h => h) (fun h => h.elim)
          have hfC := hfB.kept hkC (fun _ h => h)
          have hKC := hKB.on hkC (fun _ h => h.elim)
          clear hkC hE hrB hqB hfB hKB
          have hE := qleft qb b0 _ l p1 y1 wC hl hqC
          rw [HLF.out] at hE
          go_wp2_with fail
          refine hE.mono ?_
          rintro e wD ⟨rfl, hkD⟩
          have hrD := hrC.kept hkD (fun h => h) (fun h => h)
          have hqD := hqC.kept hkD (fun h => h) (fun h => h.elim)
          have hfD := hfC.kept hkD (fun _ h => h)
          have hKD := hKC.on hkD (fun _ h => h.elim)
          clear hkD hE hrC hqC hfC hKC
          go_wp2
          go_roundg (n - (k + 1))
          case measure => omega
          case rel => exact ⟨k + 1, p1, y1, by omega, by omega, by go_num, hpT, hrD, hqD, hfD, hKD⟩
        · by_cases e3 : kind = 3
          · subst e3
            have hrD0 : RIs (wr.alloc (.cells #[.int .i64 3, .int .i64 most, .int .u64 nn, .string txt] 40)).drew rb rg l p why := hrx
            have hqD0 : QIs (wr.alloc (.cells #[.int .i64 3, .int .i64 most, .int .u64 nn, .string txt] 40)).drew qb b0 (.slice a1 l.length c1) l p why := hqx
            have hfD0 : Row (wr.alloc (.cells #[.int .i64 3, .int .i64 most, .int .u64 nn, .string txt] 40)).drew g (.slice (some ⟨g, 0, none⟩) (l.length + 80) c) (l ++ List.replicate 80 165) := hfx
            have hKD0 : Kept (fun _ => False) w (wr.alloc (.cells #[.int .i64 3, .int .i64 most, .int .u64 nn, .string txt] 40)).drew := hKx.drew
            have dx0 : (wr.alloc (.cells #[.int .i64 3, .int .i64 most, .int .u64 nn, .string txt] 40)).drew.cell? ⟨wr.heap.size, 1, none⟩ = some (.int .i64 most) := hxc 1
            obtain ⟨R, HR⟩ : ∃ R, Hid (R = rNum l p why most.toNat) := ⟨_, rfl⟩
            obtain ⟨tl, p1, y1, hT⟩ : ∃ tl p1 y1, rTake l R.2.1 R.2.2 R.1 = (tl, p1, y1) := ⟨_, _, _, rfl⟩
            have hpR : R.2.1 ≤ l.length := by rw [HR.out]; exact rNum_le l p why most.toNat hp
            have hpT : p1 ≤ l.length := by have := rTake_le l R.2.1 R.2.2 R.1 hpR; rw [hT] at this; exact this
            have hA : ∀ u, RIs u rb rg l p why → Calls Try.prog 12 #[.pointer (some ⟨rb, 0, none⟩), .int .i64 most] u fun e w' => e = .returned (.string (toStr tl)) ∧ RIs w' rb rg l p1 y1 ∧ Kept (fun x => x = rb) u w' := by
              intro u hu
              refine (rtext most rb rg l p why u k1.1 k1.2 (by omega) h256 hp hu).mono ?_
              rintro e w' ⟨R', hR', he, hr', hk'⟩
              rw [← HR.out] at hR'
              subst hR'
              rw [hT] at he hr'
              exact ⟨he, hr', hk'⟩
            have hB : ∀ u, QIs u qb b0 (.slice a1 l.length c1) l p why → Calls Try.prog 30 #[.pointer (some ⟨qb, 0, none⟩), .int .i64 most] u fun e w' => e = .returned (.string (toStr tl)) ∧ QIs w' qb b0 (.slice a1 l.length c1) l p1 y1 ∧ Kept (fun x => x = qb) u w' := by
              intro u hu
              have h := qtext most qb b0 (.slice a1 l.length c1) l p why u k1.1 k1.2 hl h256 hp hu hcap R HR
              rw [hT] at h
              exact h
            clear hT hrx hqx hfx hKx hxc
            generalize toStr tl = ts at hA hB
            go_wp2_with fail
            go_region_held3 (fun u => u.cell? ⟨wr.heap.size, 1, none⟩ = some (.int .i64 most)) (first | go_keep | assumption) (first | (go_at_call 12; refine (hA _ hrD0).mono ?_; rintro e wa ⟨rfl, hra, hka⟩; have hqa := hqD0.kept hka (by omega) hb0r; have hfa := hfD0.kept hka (fun _ h => by omega); have hKa := hKD0.on hka (by omega); have dxa := hka.cell dx0 (by simp; omega)) | (go_at_call 30; refine (hB _ hqa).mono ?_; rintro e wb ⟨rfl, hqT, hkb⟩; have hrT := hra.kept hkb (by omega) (by omega); have hfT := hfa.kept hkb (fun _ h => by omega); have hKT := hKa.on hkb (by omega); have dxb := hkb.cell dxa (by simp; omega)))
            clear hA hB hra hqa hfa hKa hka hkb hrD0 hqD0 hfD0 hKD0 dx0 dxa dxb
            obtain ⟨e1, e2, HEE⟩ : ∃ e1 e2, Hid (rEnd l p1 y1 = (e1, e2)) := ⟨_, _, rfl⟩
            obtain ⟨lf, HLF⟩ : ∃ lf, Hid ((if y1 = 0 then l.length - p1 else 0) = lf) := ⟨_, rfl⟩
            have hE := rend rb rg l p1 y1 wb (by omega) hrT
            rw [HEE.out] at hE
            go_wp2_with fail
            refine hE.mono ?_
            rintro e wA ⟨rfl, hkA⟩
            have hrA := hrT.kept hkA (fun h => h) (fun h => h)
            have hqA := hqT.kept hkA (fun h => h) (fun h => h.elim)
            have hfA := hfT.kept hkA (fun _ h => h)
            have hKA := hKT.on hkA (fun _ h => h.elim)
            clear hkA hE hrT hqT hfT hKT
            have hE := qend qb b0 _ l p1 y1 wA hl hqA
            rw [HEE.out] at hE
            go_wp2_with fail
            refine hE.mono ?_
            rintro e wB ⟨rfl, hkB⟩
            have hrB := hrA.kept hkB (fun h => h) (fun h => h)
            have hqB := hqA.kept hkB (fun h => h) (fun h => h.elim)
            have hfB := hfA.kept hkB (fun _ h => h)
            have hKB := hKA.on hkB (fun _ h => h.elim)
            clear hkB hE hrA hqA hfA hKA
            have hE := rleft rb rg l p1 y1 wB (by omega) hpT hrB
            rw [HLF.out] at hE
            go_wp2_with fail
            refine hE.mono ?_
            rintro e wC ⟨rfl, hkC⟩
            have hrC := hrB.kept hkC (fun h => h) (fun h => h)
            have hqC := hqB.kept hkC (fun h => h) (fun h => h.elim)
            have hfC := hfB.kept hkC (fun _ h => h)
            have hKC := hKB.on hkC (fun _ h => h.elim)
            clear hkC hE hrB hqB hfB hKB
            have hE := qleft qb b0 _ l p1 y1 wC hl hqC
            rw [HLF.out] at hE
            go_wp2_with fail
            refine hE.mono ?_
            rintro e wD ⟨rfl, hkD⟩
            have hrD := hrC.kept hkD (fun h => h) (fun h => h)
            have hqD := hqC.kept hkD (fun h => h) (fun h => h.elim)
            have hfD := hfC.kept hkD (fun _ h => h)
            have hKD := hKC.on hkD (fun _ h => h.elim)
            clear hkD hE hrC hqC hfC hKC
            go_wp2
            go_roundg (n - (k + 1))
            case measure => omega
            case rel => exact ⟨k + 1, p1, y1, by omega, by omega, by go_num, hpT, hrD, hqD, hfD, hKD⟩
          · by_cases e4 : kind = 4
            · subst e4
              have hrD0 : RIs (wr.alloc (.cells #[.int .i64 4, .int .i64 most, .int .u64 nn, .string txt] 40)).drew rb rg l p why := hrx
              have hqD0 : QIs (wr.alloc (.cells #[.int .i64 4, .int .i64 most, .int .u64 nn, .string txt] 40)).drew qb b0 (.slice a1 l.length c1) l p why := hqx
              have hfD0 : Row (wr.alloc (.cells #[.int .i64 4, .int .i64 most, .int .u64 nn, .string txt] 40)).drew g (.slice (some ⟨g, 0, none⟩) (l.length + 80) c) (l ++ List.replicate 80 165) := hfx
              have hKD0 : Kept (fun _ => False) w (wr.alloc (.cells #[.int .i64 4, .int .i64 most, .int .u64 nn, .string txt] 40)).drew := hKx.drew
              have dx0 : (wr.alloc (.cells #[.int .i64 4, .int .i64 most, .int .u64 nn, .string txt] 40)).drew.cell? ⟨wr.heap.size, 1, none⟩ = some (.int .i64 most) := hxc 1
              obtain ⟨tl, p1, y1, hT⟩ : ∃ tl p1 y1, rTake l p why most = (tl, p1, y1) := ⟨_, _, _, rfl⟩
              have hpT : p1 ≤ l.length := by have := rTake_le l p why most hp; rw [hT] at this; exact this
              have hA : ∀ u, RIs u rb rg l p why → Calls Try.prog 14 #[.pointer (some ⟨rb, 0, none⟩), .int .i64 most] u fun e w' => ∃ v' g', e = .returned v' ∧ Row w' g' v' tl ∧ u.heap.size ≤ g' ∧ RIs w' rb rg l p1 y1 ∧ Kept (fun x => x = rb) u w' := by
                intro u hu
                have h := rraw most rb rg l p why u k1.2 (by omega) hp hu
                rw [hT] at h
                exact h
              have hB : ∀ u, QIs u qb b0 (.slice a1 l.length c1) l p why → Calls Try.prog 31 #[.pointer (some ⟨qb, 0, none⟩), .int .i64 most] u fun e w' => ∃ v' g', e = .returned v' ∧ Row w' g' v' tl ∧ u.heap.size ≤ g' ∧ QIs w' qb b0 (.slice a1 l.length c1) l p1 y1 ∧ Kept (fun x => x = qb) u w' := by
                intro u hu
                have h := qraw most qb b0 (.slice a1 l.length c1) l p why u k1.2 hl hp hu hcap
                rw [hT] at h
                exact h
              clear hT hrx hqx hfx hKx hxc
              go_wp2_with fail
              go_region_with (first | (go_at_call 14; refine (hA _ hrD0).mono ?_; rintro e wa ⟨va, ga, rfl, hva, hga, hra, hka⟩; have hqa := hqD0.kept hka (by omega) hb0r; have hfa := hfD0.kept hka (fun _ h => by omega); have hKa := hKD0.on hka (by omega); have dxa := hka.cell dx0 (by simp; omega); obtain ⟨za1, za2, za3, hza⟩ := hva.rd.shape3'; subst hza; have hcva := hva.rd.string) | (go_at_call 31; refine (hB _ hqa).mono ?_; rintro e wb ⟨vb, gb, rfl, hvb, hgb, hqT, hkb⟩; have hrT := hra.kept hkb (by omega) (by omega); have hfT := hfa.kept hkb (fun _ h => by omega); have hKT := hKa.on hkb (by omega); have dxb := hkb.cell dxa (by simp; omega); obtain ⟨zb1, zb2, zb3, hzb⟩ := hvb.rd.shape3'; subst hzb; have hcvb := hvb.rd.string; have hcvab := (hva.kept hkb (fun _ h => by simp at hga; omega)).rd.string))
              all_goals
                clear hA hB
                obtain ⟨e1, e2, HEE⟩ : ∃ e1 e2, Hid (rEnd l p1 y1 = (e1, e2)) := ⟨_, _, rfl⟩
                obtain ⟨lf, HLF⟩ : ∃ lf, Hid ((if y1 = 0 then l.length - p1 else 0) = lf) := ⟨_, rfl⟩
                have hE := rend rb rg l p1 y1 wb (by omega) hrT
                rw [HEE.out] at hE
                go_wp2_with fail
                refine hE.mono ?_
                rintro e wA ⟨rfl, hkA⟩
                have hrA := hrT.kept hkA (fun h => h) (fun h => h)
                have hqA := hqT.kept hkA (fun h => h) (fun h => h.elim)
                have hfA := hfT.kept hkA (fun _ h => h)
                have hKA := hKT.on hkA (fun _ h => h.elim)
                clear hkA hE hrT hqT hfT hKT
                have hE := qend qb b0 _ l p1 y1 wA hl hqA
                rw [HEE.out] at hE
                go_wp2_with fail
                refine hE.mono ?_
                rintro e wB ⟨rfl, hkB⟩
                have hrB := hrA.kept hkB (fun h => h) (fun h => h)
                have hqB := hqA.kept hkB (fun h => h) (fun h => h.elim)
                have hfB := hfA.kept hkB (fun _ h => h)
                have hKB := hKA.on hkB (fun _ h => h.elim)
                clear hkB hE hrA hqA hfA hKA
                have hE := rleft rb rg l p1 y1 wB (by omega) hpT hrB
                rw [HLF.out] at hE
                go_wp2_with fail
                refine hE.mono ?_
                rintro e wC ⟨rfl, hkC⟩
                have hrC := hrB.kept hkC (fun h => h) (fun h => h)
                have hqC := hqB.kept hkC (fun h => h) (fun h => h.elim)
                have hfC := hfB.kept hkC (fun _ h => h)
                have hKC := hKB.on hkC (fun _ h => h.elim)
                clear hkC hE hrB hqB hfB hKB
                have hE := qleft qb b0 _ l p1 y1 wC hl hqC
                rw [HLF.out] at hE
                go_wp2_with fail
                refine hE.mono ?_
                rintro e wD ⟨rfl, hkD⟩
                have hrD := hrC.kept hkD (fun h => h) (fun h => h)
                have hqD := hqC.kept hkD (fun h => h) (fun h => h.elim)
                have hfD := hfC.kept hkD (fun _ h => h)
                have hKD := hKC.on hkD (fun _ h => h.elim)
                clear hkD hE hrC hqC hfC hKC
                go_wp2
                go_roundg (n - (k + 1))
                case measure => omega
                case rel => exact ⟨k + 1, p1, y1, by omega, by omega, by go_num, hpT, hrD, hqD, hfD, hKD⟩
            · by_cases e5 : kind = 5
              · subst e5
                go_wp2_with fail
                refine (rfail 13 rb rg l p why _ hrx).mono ?_
                rintro e wa ⟨rfl, hra, hka⟩
                have hqa := hqx.kept hka (by omega) hb0r
                have hfa := hfx.kept hka (fun _ h => by omega)
                have hKa := hKx.on hka (by omega)
                clear hka hrx hqx hfx hKx hxc
                go_wp2_with fail
                refine (qfail qb b0 _ l p why _ hqa).mono ?_
                rintro e wb ⟨rfl, hqT, hkb⟩
                have hrT := hra.kept hkb (by omega) (by omega)
                have hfT := hfa.kept hkb (fun _ h => by omega)
                have hKT := hKa.on hkb (by omega)
                have hpT := hp
                clear hkb hra hqa hfa hKa
                generalize (if why = 0 then 13 else why) = why' at hrT hqT
                obtain ⟨e1, e2, HEE⟩ : ∃ e1 e2, Hid (rEnd l p why' = (e1, e2)) := ⟨_, _, rfl⟩
                obtain ⟨lf, HLF⟩ : ∃ lf, Hid ((if why' = 0 then l.length - p else 0) = lf) := ⟨_, rfl⟩
                have hE := rend rb rg l p why' wb (by omega) hrT
                rw [HEE.out] at hE
                go_wp2_with fail
                refine hE.mono ?_
                rintro e wA ⟨rfl, hkA⟩
                have hrA := hrT.kept hkA (fun h => h) (fun h => h)
                have hqA := hqT.kept hkA (fun h => h) (fun h => h.elim)
                have hfA := hfT.kept hkA (fun _ h => h)
                have hKA := hKT.on hkA (fun _ h => h.elim)
                clear hkA hE hrT hqT hfT hKT
                have hE := qend qb b0 _ l p why' wA hl hqA
                rw [HEE.out] at hE
                go_wp2_with fail
                refine hE.mono ?_
                rintro e wB ⟨rfl, hkB⟩
                have hrB := hrA.kept hkB (fun h => h) (fun h => h)
                have hqB := hqA.kept hkB (fun h => h) (fun h => h.elim)
                have hfB := hfA.kept hkB (fun _ h => h)
                have hKB := hKA.on hkB (fun _ h => h.elim)
                clear hkB hE hrA hqA hfA hKA
                have hE := rleft rb rg l p why' wB (by omega) hpT hrB
                rw [HLF.out] at hE
                go_wp2_with fail
                refine hE.mono ?_
                rintro e wC ⟨rfl, hkC⟩
                have hrC := hrB.kept hkC (fun h => h) (fun h => h)
                have hqC := hqB.kept hkC (fun h => h) (fun h => h.elim)
                have hfC := hfB.kept hkC (fun _ h => h)
                have hKC := hKB.on hkC (fun _ h => h.elim)
                clear hkC hE hrB hqB hfB hKB
                have hE := qleft qb b0 _ l p why' wC hl hqC
                rw [HLF.out] at hE
                go_wp2_with fail
                refine hE.mono ?_
                rintro e wD ⟨rfl, hkD⟩
                have hrD := hrC.kept hkD (fun h => h) (fun h => h)
                have hqD := hqC.kept hkD (fun h => h) (fun h => h.elim)
                have hfD := hfC.kept hkD (fun _ h => h)
                have hKD := hKC.on hkD (fun _ h => h.elim)
                clear hkD hE hrC hqC hfC hKC
                go_wp2
                go_roundg (n - (k + 1))
                case measure => omega
                case rel => exact ⟨k + 1, p, why', by omega, by omega, by go_num, hpT, hrD, hqD, hfD, hKD⟩
              · have hrT := hrx
                have hqT := hqx
                have hfT := hfx
                have hKT := hKx
                have hpT := hp
                clear hrx hqx hfx hKx hxc
                obtain ⟨e1, e2, HEE⟩ : ∃ e1 e2, Hid (rEnd l p why = (e1, e2)) := ⟨_, _, rfl⟩
                obtain ⟨lf, HLF⟩ : ∃ lf, Hid ((if why = 0 then l.length - p else 0) = lf) := ⟨_, rfl⟩
                have hE := rend rb rg l p why (wr.alloc (.cells #[.int .i64 kind, .int .i64 most, .int .u64 nn, .string txt] 40)) (by omega) hrT
                rw [HEE.out] at hE
                go_wp2_with fail
                refine hE.mono ?_
                rintro e wA ⟨rfl, hkA⟩
                have hrA := hrT.kept hkA (fun h => h) (fun h => h)
                have hqA := hqT.kept hkA (fun h => h) (fun h => h.elim)
                have hfA := hfT.kept hkA (fun _ h => h)
                have hKA := hKT.on hkA (fun _ h => h.elim)
                clear hkA hE hrT hqT hfT hKT
                have hE := qend qb b0 _ l p why wA hl hqA
                rw [HEE.out] at hE
                go_wp2_with fail
                refine hE.mono ?_
                rintro e wB ⟨rfl, hkB⟩
                have hrB := hrA.kept hkB (fun h => h) (fun h => h)
                have hqB := hqA.kept hkB (fun h => h) (fun h => h.elim)
                have hfB := hfA.kept hkB (fun _ h => h)
                have hKB := hKA.on hkB (fun _ h => h.elim)
                clear hkB hE hrA hqA hfA hKA
                have hE := rleft rb rg l p why wB (by omega) hpT hrB
                rw [HLF.out] at hE
                go_wp2_with fail
                refine hE.mono ?_
                rintro e wC ⟨rfl, hkC⟩
                have hrC := hrB.kept hkC (fun h => h) (fun h => h)
                have hqC := hqB.kept hkC (fun h => h) (fun h => h.elim)
                have hfC := hfB.kept hkC (fun _ h => h)
                have hKC := hKB.on hkC (fun _ h => h.elim)
                clear hkC hE hrB hqB hfB hKB
                have hE := qleft qb b0 _ l p why wC hl hqC
                rw [HLF.out] at hE
                go_wp2_with fail
                refine hE.mono ?_
                rintro e wD ⟨rfl, hkD⟩
                have hrD := hrC.kept hkD (fun h => h) (fun h => h)
                have hqD := hqC.kept hkD (fun h => h) (fun h => h.elim)
                have hfD := hfC.kept hkD (fun _ h => h)
                have hKD := hKC.on hkD (fun _ h => h.elim)
                clear hkD hE hrC hqC hfC hKC
                go_wp2
                go_roundg (n - (k + 1))
                case measure => omega
                case rel => exact ⟨k + 1, p, why, by omega, by omega, by go_num, hpT, hrD, hqD, hfD, hKD⟩
    · have hstop : (n ≤ k) ∨ (30 ≤ k ∧ k < n) := by omega
      clear hlt hat
      have hin := intact (.slice a1 l.length c1) b0 g c l wr hl hc1 hcm1 (hv.kept hK (fun h => h)) hf
      rcases hstop with hstop | ⟨hstop, hstop2⟩
      all_goals
        go_wp2_with fail
        refine hin.mono ?_
        rintro e wA ⟨rfl, hkA⟩
        have hKA := hK.on hkA (fun _ h => h.elim)
        go_wp2_with fail
        refine (known_true wA).mono ?_
        rintro e wB ⟨rfl, hkB⟩
        have hKB := hKA.on hkB (fun _ h => h.elim)
        go_wp2
        go_ret
        exact ⟨rfl, hKB.below (Nat.le_refl _) (fun _ _ h => h)⟩
end Go.Proofs.Ytbheccioeiemfaa
