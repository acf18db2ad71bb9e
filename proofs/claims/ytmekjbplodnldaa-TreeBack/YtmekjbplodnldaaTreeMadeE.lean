/-
  The statements' 'made': its walk.
-/
import Derived.Deep.RegionLaw
import Derived.Deep.RegionWith
import Derived.Test.YtmekjbplodnldaaTreeMade
namespace Go.Proofs.Ytmekjbplodnldaa
open Go.RowKit

theorem one_cell {w : World} {b : Nat} {z : Value} {e : TypeId} (h : w.heap[b]? = some (.cells #[z] e (0, 0))) : w.cell? ⟨b, 0, none⟩ = some z ∧ w.frozen? ⟨b, 0, none⟩ = false := ⟨by rw [cell_of_row w b 0 _ e (0, 0) h]; rfl, frozen_of_row w b 0 _ e h⟩
theorem x_atom : ∀ c ∈ ([120] : List UInt8), isAtom c = true := by decide

set_option maxHeartbeats 800000 in
set_option maxRecDepth 1000000 in
theorem made_end (d at0 ba n c tn tc' : Nat) (la ta : Option Addr) (w : World) (hat : w.heap[ba]? = some (.cells #[.int .i64 (at0 : Int)] 3 (0, 0))) (h60 : at0 ≤ 60) (he : n ≤ at0 ∨ d = 0) :
    Calls Try.prog 14 #[.slice la n c, .slice ta tn tc', .pointer (some ⟨ba, 0, none⟩), .int .i64 (d : Int)] w (MadeE d at0 ba w) := by
  have hbl : ba < w.heap.size := (Array.getElem?_eq_some_iff.1 hat).1
  have hat1 : (w.alloc (.cells #[.int .i64 0, .int .i64 0, .string ⟨#[]⟩, .slice none 0 0] 32)).heap[ba]? = _ := (Below.heap_alloc w (.cells #[.int .i64 0, .int .i64 0, .string ⟨#[]⟩, .slice none 0 0] 32) ba hbl).trans hat
  obtain ⟨q0, _⟩ := one_cell hat1
  have hgd : Gd d (leafOf 3 [120]) := gd_leaf (.inl ⟨rfl, by simp, x_atom⟩) (by simp)
  have hfin : MadeE d at0 ba w (.returned (.agg #[.int .i64 3, .int .i64 0, .string ⟨#[120]⟩, .slice none 0 0])) (w.alloc (.cells #[.int .i64 3, .int .i64 0, .string ⟨#[120]⟩, .slice none 0 0] 32)) :=
    made_leaf (k := 3) (x := [120]) rfl hgd (Nat.le_refl _) h60 ((Below.heap_alloc w (.cells #[.int .i64 3, .int .i64 0, .string ⟨#[120]⟩, .slice none 0 0] 32) ba hbl).trans hat) ((Kept.refl _ w).alloc _)
  by_cases hz : n ≤ at0
  · have s1 : (n : Int) ≤ (at0 : Int) := by omega
    clear he hz
    go_enter Try.func14, Try.ntmps14
    go_wp2
    (try simp only [Exit.inBlock, Exit.then])
    refine bodyPost_ret (results_cell_row rfl _ _ w.heap.size 32 _ (0, 0) _ rfl (heap_alloc_new w (.cells #[.int .i64 3, .int .i64 0, .string ⟨#[120]⟩, .slice none 0 0] 32)) Try.underlying32 rfl sizeRf) rfl ?_
    exact hfin
  · have s1 : ¬ (n : Int) ≤ (at0 : Int) := by omega
    have hd : d = 0 := by omega
    subst hd
    clear he hz
    go_enter Try.func14, Try.ntmps14
    go_wp2
    (try simp only [Exit.inBlock, Exit.then])
    refine bodyPost_ret (results_cell_row rfl _ _ w.heap.size 32 _ (0, 0) _ rfl (heap_alloc_new w (.cells #[.int .i64 3, .int .i64 0, .string ⟨#[120]⟩, .slice none 0 0] 32)) Try.underlying32 rfl sizeRf) rfl ?_
    exact hfin

/-- The rows that 'made' reads. -/
structure MadeR (w : World) (ba n tn c tc' : Nat) (la ta : Option Addr) (zs : List Int) (xs : List ByteArray) : Prop where
  n1 : zs.length = n
  n2 : xs.length = tn
  sm : n ≤ 60
  tm : (tn : Int) ≤ 9223372036854775807
  rng : ∀ z ∈ zs, -9223372036854775808 ≤ z ∧ z ≤ 9223372036854775807
  l1 : 0 < n → ∃ b, la = some b
  t1 : 0 < tn → ∃ b, ta = some b
  l2 : ∀ b, la = some b → 0 < n → b.block ≠ ba ∧ b.block < w.heap.size ∧ ∀ (j : Nat) z, zs[j]? = some z → w.cell? (b.add j) = some (.int .i64 z)
  t2 : ∀ b, ta = some b → 0 < tn → b.block ≠ ba ∧ b.block < w.heap.size ∧ ∀ (j : Nat) z, xs[j]? = some z → w.cell? (b.add j) = some (.string z)
theorem MadeR.kept {w w' : World} {ba n tn c tc' : Nat} {la ta : Option Addr} {zs : List Int} {xs : List ByteArray} (h : MadeR w ba n tn c tc' la ta zs xs) (k : Kept (fun b => b = ba) w w') : MadeR w' ba n tn c tc' la ta zs xs := by
  refine ⟨h.n1, h.n2, h.sm, h.tm, h.rng, h.l1, h.t1, fun b hb h0 => ?_, fun b hb h0 => ?_⟩
  · obtain ⟨h1, h2, h3⟩ := h.l2 b hb h0
    exact ⟨h1, Nat.lt_of_lt_of_le h2 k.size, fun j z hz => k.cell (h3 j z hz) (by rw [add_block]; exact h1)⟩
  · obtain ⟨h1, h2, h3⟩ := h.t2 b hb h0
    exact ⟨h1, Nat.lt_of_lt_of_le h2 k.size, fun j z hz => k.cell (h3 j z hz) (by rw [add_block]; exact h1)⟩
def madeIH (d : Nat) : Prop := ∀ (at0 ba n tn c tc' : Nat) (la ta : Option Addr) (zs : List Int) (xs : List ByteArray) (w : World), MadeR w ba n tn c tc' la ta zs xs → w.heap[ba]? = some (.cells #[.int .i64 (at0 : Int)] 3 (0, 0)) → at0 ≤ 60 → Calls Try.prog 14 #[.slice la n c, .slice ta tn tc', .pointer (some ⟨ba, 0, none⟩), .int .i64 (d : Int)] w (MadeE d at0 ba w)
end Go.Proofs.Ytmekjbplodnldaa
