/-
  'known', the law's own run of the chapter's examples: it answers true.
-/
import Derived.Test.YtbheccioeiemfaaReads
namespace Go.Proofs.Ytbheccioeiemfaa
open Go.RowKit

theorem Kept.on {S : Nat → Prop} {w a b : World} (h : Kept (fun _ => False) w a) (k : Kept S a b) (hS : ∀ x, S x → w.heap.size ≤ x) : Kept (fun _ => False) w b :=
  h.trans k (fun _ _ h => h) (fun x hx hs => by have := hS x hs; omega)
theorem enc300 : enc 300 = [172, 2] := by rw [enc_big (by omega), enc_small (by omega)]
theorem enc1 : enc (zig (-1)) = [1] := by rw [enc_small (by decide)]; rfl
theorem dec_80_00 : dec [128, 0] 0 0 = (0, 0, 12) := by
  rw [dec_on (x := 128) (by omega) rfl (by omega), dec_bad (x := 0) (by omega) rfl (by omega) (by omega)]
theorem rNum_80_00 : rNum [128, 0] 0 0 9 = (0, 0, 12) := by simp [rNum, dec_80_00]
theorem rEnd_80_00 : rEnd [128, 0] 0 12 = (12, 0) := by simp [rEnd]

set_option maxHeartbeats 800000 in
set_option maxRecDepth 1000000 in
theorem known_true (w : World) : Calls Try.prog 17 #[] w fun e w' => e = .returned (.bool true) ∧ Kept (fun _ => False) w w' := by
  go_enter Try.func17, Try.ntmps17
  go_wp2_with fail
  refine (newwriter w).mono ?_
  rintro e w1 ⟨b, rfl, h1, hb, hk1⟩
  go_wp2_with fail
  have hrow := Row.lit w1 [128, 0] (by simp [maxLen])
  refine (newreader _ w1.heap.size [128, 0] _ (by simp) hrow.rd).mono ?_
  rintro e w2 ⟨rb, rg, rfl, hr, hb2, hg2, hk2⟩
  have h2 := (h1.kept ((Kept.refl (fun _ => False) w1).alloc _) (fun h => h) (fun h => h)).kept hk2 (fun h => h) (fun h => h)
  have hK2 := (hk1.on ((Kept.refl (fun _ => False) w1).alloc _) (fun _ h => h.elim)).on hk2 (fun _ h => h.elim)
  have hs1 := hk1.size
  have hl1 := h1.lt
  have hz : w1.heap.size < rb ∧ w1.heap.size < rg := by simp at hb2 hg2; omega
  clear hk1 hk2 hb2 hg2 h1 hrow
  go_wp2_with fail
  refine (wnumber 300 b b [] _ (by omega) (by simp) h2).mono ?_
  rintro e w3 ⟨rfl, g3, h3, hg3, hk3⟩
  have hr3 := hr.kept hk3 (by omega) (by omega)
  have hK3 := hK2.on hk3 (by omega)
  have hrl := hr.lt
  have hrg := hr.gt
  have hs2 := hK2.size
  clear hk3 h2 hr
  go_wp2_with fail
  refine (wsigned (-1) b g3 _ _ (by omega) (by omega) (by simp [enc300]) h3).mono ?_
  rintro e w4 ⟨rfl, g4, h4, hg4, hk4⟩
  have hr4 := hr3.kept hk4 (by omega) (by omega)
  have hK4 := hK3.on hk4 (by omega)
  have hs3 := hK3.size
  have hrl3 := hr3.lt
  have hrg3 := hr3.gt
  clear hk4 h3 hr3
  go_wp2_with fail
  refine (rnumber rb rg _ 0 0 9 _ (by simp) (by simp) (by simp) (by omega) hr4).mono ?_
  rintro e w5 ⟨rfl, h5, hk5⟩
  rw [rNum_80_00] at h5 ⊢
  have h5w := h4.kept hk5 (by omega) (by omega)
  have hK5 := hK4.on hk5 (by omega)
  clear hk5 h4 hr4
  go_wp2_with fail
  refine (rend rb rg _ 0 12 _ (by simp) h5).mono ?_
  rintro e w6 ⟨rfl, hk6⟩
  rw [rEnd_80_00]
  have h6w := h5w.kept hk6 (fun h => h) (fun h => h)
  have hK6 := hK5.on hk6 (fun _ h => h.elim)
  rw [enc300, enc1, show [] ++ [172, 2] ++ [1] = [172, 2, 1] from rfl] at h6w
  clear hk6 h5 h5w
  go_wp2_with fail
  refine (wdone b g4 _ _ (by simp) h6w).mono ?_
  rintro e w7 ⟨v7, g7, rfl, h7, hg7, hk7⟩
  have hK7 := hK6.on hk7 (fun _ h => h.elim)
  have hcv := h7.rd.string
  have hst : toStr [172, 2, 1] = ⟨#[172, 2, 1]⟩ := by rfl
  rw [hst] at hcv
  clear hst
  obtain ⟨a7, c7, rfl⟩ : ∃ a c, v7 = .slice a 3 c := h7.rd.shape
  go_wp2
  go_ret
  exact ⟨rfl, hK7⟩
end Go.Proofs.Ytbheccioeiemfaa
