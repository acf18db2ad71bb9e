/-
  Captures: the statements' 'known': some of chapter 11's runs.
-/
import Derived.Test.YtcokihblicgbpaaTypAZ
import Derived.Test.YtcokihblicgbpaaCapFree2Z
import Derived.Test.YtcokihblicgbpaaCapRunsZ
namespace Go.Proofs.Ytcokihblicgbpaa
open Go.RowKit

/-- An expression in a box. -/
structure EB (W : World) (b : Nat) (e : Ex) (kv pv av : Value) : Prop where
  bx : BxE W b e kv pv av
  xi : XI (fun g => g < W.heap.size) W kv pv av e
theorem EB.below {W W' : World} {b : Nat} {e : Ex} {kv pv av : Value} (h : EB W b e kv pv av) (hb : Below W.heap.size W W') : EB W' b e kv pv av :=
  ⟨(hb.block b h.bx.lt).trans h.bx, XI.frame (fun g hg => ⟨Nat.lt_of_lt_of_le hg hb.size, hb.block g hg⟩) _ h.xi⟩
theorem EB.put {w W W' : World} {e : Ex} {kv pv av : Value} (hx : XI (fun g => w.heap.size ≤ g ∧ g < W.heap.size) W kv pv av e) (hB : BxE W' W.heap.size e kv pv av) (hK : Kept (fun q => q = W.heap.size) (W.alloc (.cells z9 27)) W') : EB W' W.heap.size e kv pv av ∧ Below W.heap.size W W' := by
  have hb : Below W.heap.size W W' := ((Below.refl _ W).alloc (Nat.le_refl _) _).trans (hK.below (by simp) (fun x hx h => by omega))
  exact ⟨⟨hB, XI.frame (fun g hg => ⟨Nat.lt_of_lt_of_le hg.2 hb.size, hb.block g hg.2⟩) _ hx⟩, hb⟩
theorem EB.free {W : World} {b : Nat} {e : Ex} {kv pv av : Value} (h : EB W b e kv pv av) (g : GoodX e) (l : List (List UInt8)) (hl : freeX e [] [] = l) : Calls Try.prog 7 #[exv e kv pv av] W (FreE l W) := by
  rw [← hl]
  exact capFree e _ kv pv av W h.xi (fun g hg => hg) (by have := g.dep; omega) (by have := g.cnt; omega) g.sm g.sh g.nm
theorem EB.loc {W : World} {b : Nat} {e : Ex} {kv pv av : Value} (h : EB W b e kv pv av) (g : GoodX e) (n : Nat) (hl : locX e = n) : Calls Try.prog 9 #[exv e kv pv av] W (NatE n W) := by
  rw [← hl]
  exact capLocals e _ kv pv av W h.xi (fun g hg => hg) (by have := g.dep; omega) (by have := g.cnt; omega) (by have := g.loc; omega) g.sm g.sh
theorem EB.dep {W : World} {b : Nat} {e : Ex} {kv pv av : Value} (h : EB W b e kv pv av) (g : GoodX e) (n : Nat) (hl : depX e = n) : Calls Try.prog 10 #[exv e kv pv av] W (NatE n W) := by
  rw [← hl]
  exact capDepth e _ kv pv av W h.xi (fun g hg => hg) (by have := g.dep; omega) (by have := g.cnt; omega) g.sm
theorem EB.cnt {W : World} {b : Nat} {e : Ex} {kv pv av : Value} (h : EB W b e kv pv av) (g : GoodX e) (n : Nat) (hl : cntX e = n) : Calls Try.prog 11 #[exv e kv pv av] W (NatE n W) := by
  rw [← hl]
  exact capCount e _ kv pv av W h.xi (fun g hg => hg) (by have := g.dep; omega) (by have := g.cnt; omega) g.sm
/-- Names, held against two letters that are made for it. -/
theorem same2 (v : Value) (x y : UInt8) (w1 w : World) (h : w.ownsRow w1.heap.size 9 1 v [[x], [y]].length (sc [[x], [y]])) : Calls Try.prog 8 #[v, .slice (some ⟨w.heap.size, 0, none⟩) 2 2] (w.alloc (.cells #[.string ⟨#[x]⟩, .string ⟨#[y]⟩] 9)) (BoolE true (w.alloc (.cells #[.string ⟨#[x]⟩, .string ⟨#[y]⟩] 9))) := by
  have hb : Below w.heap.size w (w.alloc (.cells #[.string ⟨#[x]⟩, .string ⟨#[y]⟩] 9)) := (Below.refl _ w).alloc (Nat.le_refl _) _
  have hn := heap_alloc_new w (.cells #[.string ⟨#[x]⟩, .string ⟨#[y]⟩] 9)
  have h1 := (strRow_own h).below hb
  have h2 : StrRow (w.alloc (.cells #[.string ⟨#[x]⟩, .string ⟨#[y]⟩] 9)) (.slice (some ⟨w.heap.size, 0, none⟩) 2 2) [[x], [y]] := by
    refine .inr ⟨w.heap.size, 0, 2, rfl, by simp, by simp, fun j z hj => ?_⟩
    rw [Nat.zero_add, cell_of_row _ _ j _ _ _ hn]
    match j, hj with
    | 0, hj => simp at hj; subst hj; rfl
    | 1, hj => simp at hj; subst hj; rfl
    | k + 2, hj => simp at hj
  have := sameS v _ [[x], [y]] [[x], [y]] _ h1 h2 (by simp) (by simp)
  simpa using this
theorem ce_K (u : World) : Calls Try.prog 6 #[.string ⟨#[40, 108, 101, 116, 32, 120, 32, 121, 32, 40, 97, 100, 100, 32, 120, 32, 122, 41, 41]⟩] u (ExA (runE sK) u) := exprW_ok _ _ _ run_K.1 run_K.2.1 u
theorem ce_L (u : World) : Calls Try.prog 6 #[.string ⟨#[40, 108, 101, 116, 32, 97, 32, 49, 32, 40, 108, 101, 116, 32, 98, 32, 50, 32, 97, 41, 41]⟩] u (ExA (runE sL) u) := exprW_ok _ _ _ run_L.1 run_L.2.1 u
def KnE (w : World) (e : Ending) (w' : World) : Prop := e = .returned (.bool true) ∧ Below w.heap.size w w'
set_option maxRecDepth 1000000 in
set_option maxHeartbeats 2000000 in
theorem known11 (w : World) : Calls Try.prog 12 #[] w (KnE w) := by
  go_enter Try.func12, Try.ntmps12
  go_wp2_with fail
  refine (ce_K w).mono ?_
  rintro r w1 ⟨k1, p1, a1, rfl, hx1, hb1⟩
  have hn1 := heap_alloc_new w1 (.cells z9 27)
  have hsh1 := xi_shapes hx1
  simp only [z9] at hn1
  go_wp2_with (refine store_ex rfl (.tmp 1) (.tmp 7) rfl w1.heap.size (runE sK) k1 p1 a1 rfl rfl hsh1 _ hn1 rfl ?_; intro w2 hB2 hK2)
  obtain ⟨E2, hb2⟩ := EB.put hx1 hB2 hK2
  clear hn1 hsh1 hx1 hB2 hK2
  refine (ce_L w2).mono ?_
  rintro r w3 ⟨k3, p3, a3, rfl, hx3, hb3⟩
  have hn3 := heap_alloc_new w3 (.cells z9 27)
  have hsh3 := xi_shapes hx3
  simp only [z9] at hn3
  have E3 := E2.below hb3
  have hld : ∀ u, EB u w1.heap.size (runE sK) k1 p1 a1 → BxE u w1.heap.size (runE sK) k1 p1 a1 := fun u h => h.bx
  go_upto_region 3 with (refine store_ex rfl (.tmp 3) (.tmp 11) rfl w3.heap.size (runE sL) k3 p3 a3 rfl rfl hsh3 _ hn3 rfl ?_; intro w4 hB4 hK4)
  obtain ⟨E4, hb4⟩ := EB.put hx3 hB4 hK4
  have E4' := E3.below hb4
  clear hn3 hsh3 hx3 hB4 hK4 E3 E2 hld
  go_wp2_with (refine load_ex rfl (.tmp 1) rfl w1.heap.size (runE sK) k1 p1 a1 rfl E4'.bx ?_)
  refine (E4'.free run_K.2.2 _ free_K).mono ?_
  rintro r w5 ⟨v5, rfl, o5, hb5⟩
  obtain ⟨g5, c5, rfl⟩ := ownsRow_succ (k := 1) o5
  have E5 := E4.below hb5
  have hb6 : Below w5.heap.size w5 (w5.alloc (.cells #[.string ⟨#[121]⟩, .string ⟨#[122]⟩] 9)) := (Below.refl _ w5).alloc (Nat.le_refl _) _
  have hsa := same2 _ 121 122 w4 w5 o5
  clear o5 E4'
  go_wp2_with fail
  refine hsa.mono ?_
  rintro r w6 ⟨rfl, hw6⟩
  have hb7 : Below w5.heap.size w5 w6 := by
    obtain ⟨n, rfl⟩ := hw6
    exact ⟨hb6.os, hb6.tape, hb6.output, hb6.size, hb6.block⟩
  have E6 := E5.below hb7
  clear hsa hw6 hb6 E5
  go_wp2_with (refine load_exG (by rfl) (.tmp 3) rfl w3.heap.size (runE sL) k3 p3 a3 rfl E6.bx ?_)
  refine (E6.loc run_L.2.2 2 loc_L).mono ?_
  rintro r w7 ⟨rfl, hb8⟩
  have h1 := hb1.trans (hb2.mono hb1.size)
  have h2 := h1.trans (hb3.mono h1.size)
  have h3 := h2.trans (hb4.mono h2.size)
  have h4 := h3.trans (hb5.mono h3.size)
  have h5 := h4.trans (hb7.mono h4.size)
  have h6 := h5.trans (hb8.mono h5.size)
  clear h1 h2 h3 h4 h5 hb1 hb2 hb3 hb4 hb5 hb7 hb8 E6 E4
  go_wp2
  go_ret
  exact ⟨rfl, h6⟩
end Go.Proofs.Ytcokihblicgbpaa
