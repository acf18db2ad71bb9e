/-
  The statements' TreeBack: its walk.
-/
import Derived.Test.YtmekjbplodnldaaTreePlain
import Derived.Test.YtmekjbplodnldaaTreeMadeE
namespace Go.Proofs.Ytmekjbplodnldaa
open Go.RowKit

set_option maxHeartbeats 1600000 in
set_option maxRecDepth 1000000 in
theorem back_short (hall : madeIH 30) (n tn c tc' : Nat) (la ta : Option Addr) (zs : List Int) (xs : List ByteArray) (w : World) (hR : MadeR (w.alloc (.cells #[.int .i64 0] 3)) w.heap.size n tn c tc' la ta zs xs) (h60 : n ≤ 60) (_ : (n : Int) ≤ 9223372036854775807) (_ : (c : Int) ≤ 9223372036854775807) :
    Calls Try.prog 5 #[.slice la n c, .slice ta tn tc'] w (KnownE w) := by
  have s60 : ¬ (60 : Int) < (n : Int) := by omega
  have hmade := hall 0 w.heap.size n tn c tc' la ta zs xs (w.alloc (.cells #[.int .i64 0] 3)) hR (heap_alloc_new w _) (by omega)
  clear hR hall
  go_enter Try.func5, Try.ntmps5
  go_wp2_with fail
  refine hmade.mono ?_
  rintro e w1 ⟨T, kv, at1, rfl, ht1, hg1, hz1, _, ha1, _, K1⟩
  obtain ⟨ka, kc, rfl⟩ := ht1.shape
  unfold trv
  have hs1 : w.heap.size + 1 ≤ w1.heap.size := by have := K1.size; simpa using this
  have hBw1 : Below w.heap.size w w1 := ((Below.refl w.heap.size w).alloc (Nat.le_refl _) _).trans (K1.below (by simp) (fun x hx h => by omega))
  have htz : tsz T ≤ 482 := by omega
  have hpl : (pr T).length ≤ 100000 := by
    have h1 := pr_cost T
    have h2 := cost_le 40 (toks T) (fun k hk => (hg1.good k hk).2)
    have h3 := toks_tsz T hg1.right
    have h4 : (toks T).length * (4 * 40 + 3) ≤ 482 * (4 * 40 + 3) := Nat.mul_le_mul_right _ (by omega)
    omega
  have ht1' : TL (fun g => (w.alloc (.cells #[.int .i64 0] 3)).heap.size ≤ g ∧ g < w1.heap.size) (w1.alloc (.cells #[.int .i64 (T.kind : Int), .int .i64 (T.place : Int), .string (str T.text), .slice ka T.kids.length kc] 32)) (.slice ka T.kids.length kc) T.kids := ht1.kept ((Kept.refl (fun _ => False) w1).alloc _) (fun g hg => ⟨hg.2, fun h => h⟩)
  have hplain := plainT T (.slice ka T.kids.length kc) _ (w1.alloc (.cells #[.int .i64 (T.kind : Int), .int .i64 (T.place : Int), .string (str T.text), .slice ka T.kids.length kc] 32)) ht1' (fun g hg => by simp; omega) (by omega)
  have hbx6 : (w1.alloc (.cells #[.int .i64 (T.kind : Int), .int .i64 (T.place : Int), .string (str T.text), .slice ka T.kids.length kc] 32)).heap[w1.heap.size]? = some (.cells #[.int .i64 (T.kind : Int), .int .i64 (T.place : Int), .string (str T.text), .slice ka T.kids.length kc] 32) := heap_alloc_new w1 _
  have hsz6 : Hid ((w1.alloc (.cells #[.int .i64 (T.kind : Int), .int .i64 (T.place : Int), .string (str T.text), .slice ka T.kids.length kc] 32)).heap.size = w1.heap.size + 1) := by simp [Hid]
  have hB6 : Below w.heap.size w (w1.alloc (.cells #[.int .i64 (T.kind : Int), .int .i64 (T.place : Int), .string (str T.text), .slice ka T.kids.length kc] 32)) := hBw1.alloc (by omega) _
  unfold trv at hplain
  clear hmade K1 ht1 hBw1
  go_wp2_with fail
  refine hplain.mono ?_
  rintro e w2 ⟨kv2, rfl, ht2, hb2⟩
  obtain ⟨la2, lc2, rfl⟩ := ht2.shape
  have hs2 : w1.heap.size + 1 ≤ w2.heap.size := by have := hb2.size; rw [hsz6.out] at this; exact this
  have hbx62 : w2.heap[w1.heap.size]? = _ := (hb2.block _ (by rw [hsz6.out]; omega)).trans hbx6
  have hB2 : Below w.heap.size w w2 := hB6.trans (hb2.mono (by rw [hsz6.out]; omega))
  have ht12 := ht1'.kept (Kept.of_below hb2) (fun g hg => ⟨by rw [hsz6.out]; omega, by rw [hsz6.out]; omega⟩)
  have hprint := print T (.slice la2 T.kids.length lc2) _ w2 ht2 (fun g hg => hg.2) (by omega)
  unfold trv at hprint ⊢
  clear hplain hb2 ht1' hB6 hbx6
  go_wp2_with fail
  refine hprint.mono ?_
  rintro e w3 ⟨rfl, hb3⟩
  have hs3 := hb3.size
  have hbx63 : w3.heap[w1.heap.size]? = _ := (hb3.block _ (by omega)).trans hbx62
  have hB3 : Below w.heap.size w w3 := hB2.trans (hb3.mono (by omega))
  have ht13 := ht12.kept (Kept.of_below hb3) (fun g hg => ⟨by omega, by omega⟩)
  have hss : (str (pr T)).size = (pr T).length := str_size _
  clear hprint hb3 ht12 hB2 hbx62 ht2
  by_cases h8 : 8192 < (pr T).length
  · have h8' : (8192 : Int) < ((pr T).length : Int) := by omega
    go_wp2_with fail
    refine (known _).mono ?_
    rintro e w4 ⟨rfl, hb4⟩
    go_wp2
    go_ret
    exact ⟨rfl, hB3.trans (hb4.mono hB3.size)⟩
  · have h8' : ¬ (8192 : Int) < ((pr T).length : Int) := by omega
    obtain ⟨U, hU, hst⟩ := parse_print hg1.right (fun k hk => (hg1.good k hk).1) hg1.fit (by omega) (by omega)
    have hpU : pr U = pr T := (pr_strip T U hst).symm
    have hzU : tsz U ≤ 1000000000 := by
      obtain ⟨h1, h2, _, _⟩ := parse_ok hU
      have h5 := tsz_toks U h1
      have h6 := (split_size h2).1
      omega
    have hps := parse (str (pr T))
    rw [str_data, hU] at hps
    have hlk : Like false U T := .inl ⟨rfl, hst.symm⟩
    clear hU hst
    go_wp2_with fail
    refine (hps _).mono ?_
    rintro e w4 ⟨⟨uv, rfl, htU⟩, hb4⟩
    obtain ⟨ua, uc, rfl⟩ := htU.shape
    unfold trv
    have hs4 := hb4.size
    have hbx64 : (w4.alloc (.cells #[.int .i64 (U.kind : Int), .int .i64 (U.place : Int), .string (str U.text), .slice ua U.kids.length uc] 24)).heap[w1.heap.size]? = some (.cells #[.int .i64 (T.kind : Int), .int .i64 (T.place : Int), .string (str T.text), .slice ka T.kids.length kc] 32) := (Below.heap_alloc _ _ _ (by omega)).trans ((hb4.block _ (by omega)).trans hbx63)
    obtain ⟨z0, z1, z2, z3, _⟩ := four_cells hbx64
    have hbx8 : (w4.alloc (.cells #[.int .i64 (U.kind : Int), .int .i64 (U.place : Int), .string (str U.text), .slice ua U.kids.length uc] 24)).heap[w4.heap.size]? = some (.cells #[.int .i64 (U.kind : Int), .int .i64 (U.place : Int), .string (str U.text), .slice ua U.kids.length uc] 24) := heap_alloc_new w4 _
    have hsz8 : Hid ((w4.alloc (.cells #[.int .i64 (U.kind : Int), .int .i64 (U.place : Int), .string (str U.text), .slice ua U.kids.length uc] 24)).heap.size = w4.heap.size + 1) := by simp [Hid]
    have K8 : Kept (fun _ => False) w4 (w4.alloc (.cells #[.int .i64 (U.kind : Int), .int .i64 (U.place : Int), .string (str U.text), .slice ua U.kids.length uc] 24)) := (Kept.refl _ w4).alloc _
    have htU2 := htU.kept K8 (fun g hg => ⟨hg.2, fun h => h⟩)
    have ht14 := (ht13.kept (Kept.of_below hb4) (fun g hg => ⟨by omega, by omega⟩)).kept K8 (fun g hg => ⟨by omega, fun h => h⟩)
    have hB4 : Below w.heap.size w (w4.alloc (.cells #[.int .i64 (U.kind : Int), .int .i64 (U.place : Int), .string (str U.text), .slice ua U.kids.length uc] 24)) := (hB3.trans (hb4.mono hB3.size)).alloc (by omega) _
    have hsame := sameT U T false (.slice ua U.kids.length uc) (.slice ka T.kids.length kc) _ _ (w4.alloc (.cells #[.int .i64 (U.kind : Int), .int .i64 (U.place : Int), .string (str U.text), .slice ua U.kids.length uc] 24)) htU2 ht14 (fun g hg => by rw [hsz8.out]; omega) (fun g hg => by rw [hsz8.out]; omega) hlk hzU
    unfold trv at hsame
    clear hps K8 htU ht13 hB3 hb4 hbx63 ht14
    go_wp2_with fail
    refine hsame.mono ?_
    rintro e w5 ⟨rfl, hb5⟩
    have hs5 : w4.heap.size + 1 ≤ w5.heap.size := by have := hb5.size; rw [hsz8.out] at this; exact this
    have hbx85 : w5.heap[w4.heap.size]? = _ := (hb5.block _ (by rw [hsz8.out]; omega)).trans hbx8
    obtain ⟨y0, y1, y2, y3, _⟩ := four_cells hbx85
    have htU5 := htU2.kept (Kept.of_below hb5) (fun g hg => ⟨by rw [hsz8.out]; omega, by rw [hsz8.out]; omega⟩)
    have hB5 : Below w.heap.size w w5 := hB4.trans (hb5.mono (by rw [hsz8.out]; omega))
    have hpr2 := print U (.slice ua U.kids.length uc) _ w5 htU5 (fun g hg => by omega) (by rw [hpU]; omega)
    unfold trv at hpr2
    rw [hpU] at hpr2
    clear hsame hb5 htU2 hbx8 z0 z1 z2 z3 hB4 hbx85
    go_wp2_with fail
    refine hpr2.mono ?_
    rintro e w6 ⟨rfl, hb6⟩
    have hB6 : Below w.heap.size w w6 := hB5.trans (hb6.mono hB5.size)
    clear hpr2 hb6 y0 y1 y2 y3
    go_wp2_with fail
    refine (known _).mono ?_
    rintro e w7 ⟨rfl, hb7⟩
    go_wp2
    go_ret
    exact ⟨rfl, hB6.trans (hb7.mono hB6.size)⟩

set_option maxHeartbeats 1600000 in
set_option maxRecDepth 1000000 in
theorem back_long (hall : madeIH 30) (n tn c tc' : Nat) (la ta : Option Addr) (zs : List Int) (xs : List ByteArray) (w : World) (hR : MadeR (w.alloc (.cells #[.int .i64 0] 3)) w.heap.size 60 tn c tc' la ta zs xs) (h60 : 60 < n) (hcap : 60 ≤ c) (hnm : (n : Int) ≤ 9223372036854775807) (hcm : (c : Int) ≤ 9223372036854775807) :
    Calls Try.prog 5 #[.slice la n c, .slice ta tn tc'] w (KnownE w) := by
  have s60 : (60 : Int) < (n : Int) := by omega
  have hc60 : (60 : Int) ≤ (c : Int) := by omega
  have hmade := hall 0 w.heap.size 60 tn c tc' la ta zs xs (w.alloc (.cells #[.int .i64 0] 3)) hR (heap_alloc_new w _) (by omega)
  clear hR hall
  go_enter Try.func5, Try.ntmps5
  go_wp2_with fail
  refine hmade.mono ?_
  rintro e w1 ⟨T, kv, at1, rfl, ht1, hg1, hz1, _, ha1, _, K1⟩
  obtain ⟨ka, kc, rfl⟩ := ht1.shape
  unfold trv
  have hs1 : w.heap.size + 1 ≤ w1.heap.size := by have := K1.size; simpa using this
  have hBw1 : Below w.heap.size w w1 := ((Below.refl w.heap.size w).alloc (Nat.le_refl _) _).trans (K1.below (by simp) (fun x hx h => by omega))
  have htz : tsz T ≤ 482 := by omega
  have hpl : (pr T).length ≤ 100000 := by
    have h1 := pr_cost T
    have h2 := cost_le 40 (toks T) (fun k hk => (hg1.good k hk).2)
    have h3 := toks_tsz T hg1.right
    have h4 : (toks T).length * (4 * 40 + 3) ≤ 482 * (4 * 40 + 3) := Nat.mul_le_mul_right _ (by omega)
    omega
  have ht1' : TL (fun g => (w.alloc (.cells #[.int .i64 0] 3)).heap.size ≤ g ∧ g < w1.heap.size) (w1.alloc (.cells #[.int .i64 (T.kind : Int), .int .i64 (T.place : Int), .string (str T.text), .slice ka T.kids.length kc] 32)) (.slice ka T.kids.length kc) T.kids := ht1.kept ((Kept.refl (fun _ => False) w1).alloc _) (fun g hg => ⟨hg.2, fun h => h⟩)
  have hplain := plainT T (.slice ka T.kids.length kc) _ (w1.alloc (.cells #[.int .i64 (T.kind : Int), .int .i64 (T.place : Int), .string (str T.text), .slice ka T.kids.length kc] 32)) ht1' (fun g hg => by simp; omega) (by omega)
  have hbx6 : (w1.alloc (.cells #[.int .i64 (T.kind : Int), .int .i64 (T.place : Int), .string (str T.text), .slice ka T.kids.length kc] 32)).heap[w1.heap.size]? = some (.cells #[.int .i64 (T.kind : Int), .int .i64 (T.place : Int), .string (str T.text), .slice ka T.kids.length kc] 32) := heap_alloc_new w1 _
  have hsz6 : Hid ((w1.alloc (.cells #[.int .i64 (T.kind : Int), .int .i64 (T.place : Int), .string (str T.text), .slice ka T.kids.length kc] 32)).heap.size = w1.heap.size + 1) := by simp [Hid]
  have hB6 : Below w.heap.size w (w1.alloc (.cells #[.int .i64 (T.kind : Int), .int .i64 (T.place : Int), .string (str T.text), .slice ka T.kids.length kc] 32)) := hBw1.alloc (by omega) _
  unfold trv at hplain
  clear hmade K1 ht1 hBw1
  go_wp2_with fail
  refine hplain.mono ?_
  rintro e w2 ⟨kv2, rfl, ht2, hb2⟩
  obtain ⟨la2, lc2, rfl⟩ := ht2.shape
  have hs2 : w1.heap.size + 1 ≤ w2.heap.size := by have := hb2.size; rw [hsz6.out] at this; exact this
  have hbx62 : w2.heap[w1.heap.size]? = _ := (hb2.block _ (by rw [hsz6.out]; omega)).trans hbx6
  have hB2 : Below w.heap.size w w2 := hB6.trans (hb2.mono (by rw [hsz6.out]; omega))
  have ht12 := ht1'.kept (Kept.of_below hb2) (fun g hg => ⟨by rw [hsz6.out]; omega, by rw [hsz6.out]; omega⟩)
  have hprint := print T (.slice la2 T.kids.length lc2) _ w2 ht2 (fun g hg => hg.2) (by omega)
  unfold trv at hprint ⊢
  clear hplain hb2 ht1' hB6 hbx6
  go_wp2_with fail
  refine hprint.mono ?_
  rintro e w3 ⟨rfl, hb3⟩
  have hs3 := hb3.size
  have hbx63 : w3.heap[w1.heap.size]? = _ := (hb3.block _ (by omega)).trans hbx62
  have hB3 : Below w.heap.size w w3 := hB2.trans (hb3.mono (by omega))
  have ht13 := ht12.kept (Kept.of_below hb3) (fun g hg => ⟨by omega, by omega⟩)
  have hss : (str (pr T)).size = (pr T).length := str_size _
  clear hprint hb3 ht12 hB2 hbx62 ht2
  by_cases h8 : 8192 < (pr T).length
  · have h8' : (8192 : Int) < ((pr T).length : Int) := by omega
    go_wp2_with fail
    refine (known _).mono ?_
    rintro e w4 ⟨rfl, hb4⟩
    go_wp2
    go_ret
    exact ⟨rfl, hB3.trans (hb4.mono hB3.size)⟩
  · have h8' : ¬ (8192 : Int) < ((pr T).length : Int) := by omega
    obtain ⟨U, hU, hst⟩ := parse_print hg1.right (fun k hk => (hg1.good k hk).1) hg1.fit (by omega) (by omega)
    have hpU : pr U = pr T := (pr_strip T U hst).symm
    have hzU : tsz U ≤ 1000000000 := by
      obtain ⟨h1, h2, _, _⟩ := parse_ok hU
      have h5 := tsz_toks U h1
      have h6 := (split_size h2).1
      omega
    have hps := parse (str (pr T))
    rw [str_data, hU] at hps
    have hlk : Like false U T := .inl ⟨rfl, hst.symm⟩
    clear hU hst
    go_wp2_with fail
    refine (hps _).mono ?_
    rintro e w4 ⟨⟨uv, rfl, htU⟩, hb4⟩
    obtain ⟨ua, uc, rfl⟩ := htU.shape
    unfold trv
    have hs4 := hb4.size
    have hbx64 : (w4.alloc (.cells #[.int .i64 (U.kind : Int), .int .i64 (U.place : Int), .string (str U.text), .slice ua U.kids.length uc] 24)).heap[w1.heap.size]? = some (.cells #[.int .i64 (T.kind : Int), .int .i64 (T.place : Int), .string (str T.text), .slice ka T.kids.length kc] 32) := (Below.heap_alloc _ _ _ (by omega)).trans ((hb4.block _ (by omega)).trans hbx63)
    obtain ⟨z0, z1, z2, z3, _⟩ := four_cells hbx64
    have hbx8 : (w4.alloc (.cells #[.int .i64 (U.kind : Int), .int .i64 (U.place : Int), .string (str U.text), .slice ua U.kids.length uc] 24)).heap[w4.heap.size]? = some (.cells #[.int .i64 (U.kind : Int), .int .i64 (U.place : Int), .string (str U.text), .slice ua U.kids.length uc] 24) := heap_alloc_new w4 _
    have hsz8 : Hid ((w4.alloc (.cells #[.int .i64 (U.kind : Int), .int .i64 (U.place : Int), .string (str U.text), .slice ua U.kids.length uc] 24)).heap.size = w4.heap.size + 1) := by simp [Hid]
    have K8 : Kept (fun _ => False) w4 (w4.alloc (.cells #[.int .i64 (U.kind : Int), .int .i64 (U.place : Int), .string (str U.text), .slice ua U.kids.length uc] 24)) := (Kept.refl _ w4).alloc _
    have htU2 := htU.kept K8 (fun g hg => ⟨hg.2, fun h => h⟩)
    have ht14 := (ht13.kept (Kept.of_below hb4) (fun g hg => ⟨by omega, by omega⟩)).kept K8 (fun g hg => ⟨by omega, fun h => h⟩)
    have hB4 : Below w.heap.size w (w4.alloc (.cells #[.int .i64 (U.kind : Int), .int .i64 (U.place : Int), .string (str U.text), .slice ua U.kids.length uc] 24)) := (hB3.trans (hb4.mono hB3.size)).alloc (by omega) _
    have hsame := sameT U T false (.slice ua U.kids.length uc) (.slice ka T.kids.length kc) _ _ (w4.alloc (.cells #[.int .i64 (U.kind : Int), .int .i64 (U.place : Int), .string (str U.text), .slice ua U.kids.length uc] 24)) htU2 ht14 (fun g hg => by rw [hsz8.out]; omega) (fun g hg => by rw [hsz8.out]; omega) hlk hzU
    unfold trv at hsame
    clear hps K8 htU ht13 hB3 hb4 hbx63 ht14
    go_wp2_with fail
    refine hsame.mono ?_
    rintro e w5 ⟨rfl, hb5⟩
    have hs5 : w4.heap.size + 1 ≤ w5.heap.size := by have := hb5.size; rw [hsz8.out] at this; exact this
    have hbx85 : w5.heap[w4.heap.size]? = _ := (hb5.block _ (by rw [hsz8.out]; omega)).trans hbx8
    obtain ⟨y0, y1, y2, y3, _⟩ := four_cells hbx85
    have htU5 := htU2.kept (Kept.of_below hb5) (fun g hg => ⟨by rw [hsz8.out]; omega, by rw [hsz8.out]; omega⟩)
    have hB5 : Below w.heap.size w w5 := hB4.trans (hb5.mono (by rw [hsz8.out]; omega))
    have hpr2 := print U (.slice ua U.kids.length uc) _ w5 htU5 (fun g hg => by omega) (by rw [hpU]; omega)
    unfold trv at hpr2
    rw [hpU] at hpr2
    clear hsame hb5 htU2 hbx8 z0 z1 z2 z3 hB4 hbx85
    go_wp2_with fail
    refine hpr2.mono ?_
    rintro e w6 ⟨rfl, hb6⟩
    have hB6 : Below w.heap.size w w6 := hB5.trans (hb6.mono hB5.size)
    clear hpr2 hb6 y0 y1 y2 y3
    go_wp2_with fail
    refine (known _).mono ?_
    rintro e w7 ⟨rfl, hb7⟩
    go_wp2
    go_ret
    exact ⟨rfl, hB6.trans (hb7.mono hB6.size)⟩

theorem back_rows {w : World} {n tn c tc' : Nat} {la ta : Option Addr} (m : Nat) (hmn : m ≤ n) (hm60 : m ≤ 60) (zs : List Int) (xs : List ByteArray) (h1 : zs.length = n) (h2 : xs.length = tn) (h3 : (tn : Int) ≤ 9223372036854775807) (h4 : ∀ z ∈ zs, -9223372036854775808 ≤ z ∧ z ≤ 9223372036854775807)
    (h5 : 0 < n → ∃ b, la = some b) (h6 : 0 < tn → ∃ b, ta = some b) (h7 : ∀ b, la = some b → 0 < n → b.block < w.heap.size ∧ ∀ (j : Nat) z, zs[j]? = some z → w.cell? (b.add j) = some (.int .i64 z)) (h8 : ∀ b, ta = some b → 0 < tn → b.block < w.heap.size ∧ ∀ (j : Nat) z, xs[j]? = some z → w.cell? (b.add j) = some (.string z)) :
    MadeR (w.alloc (.cells #[.int .i64 0] 3)) w.heap.size m tn c tc' la ta (zs.take m) xs := by
  have K : Kept (fun _ => False) w (w.alloc (.cells #[.int .i64 0] 3)) := (Kept.refl _ w).alloc _
  refine ⟨by rw [List.length_take]; omega, h2, hm60, h3, fun z hz => h4 z (List.mem_of_mem_take hz), fun h => h5 (by omega), h6, fun b hb h0 => ?_, fun b hb h0 => ?_⟩
  · obtain ⟨g1, g2⟩ := h7 b hb (by omega)
    refine ⟨by omega, by simp; omega, fun j z hz => K.cell (g2 j z ?_) (fun h => h)⟩
    rw [List.getElem?_take] at hz
    split at hz
    · exact hz
    · cases hz
  · obtain ⟨g1, g2⟩ := h8 b hb h0
    exact ⟨by omega, by simp; omega, fun j z hz => K.cell (g2 j z hz) (fun h => h)⟩
end Go.Proofs.Ytmekjbplodnldaa
