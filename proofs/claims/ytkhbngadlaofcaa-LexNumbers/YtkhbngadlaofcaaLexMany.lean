/-
  The statements' 'many': so many letters.
-/
import Derived.OwnWalk
import Derived.Deep.Upon
import Derived.Deep.LoopGhost
import Derived.Test.YtkhbngadlaofcaaLexMem
namespace Go.Proofs.Ytkhbngadlaofcaa
open Go.RowKit

theorem infoByte : (Try.prog.info? 5).map (fun i => (i.zero, i.size, i.bytes)) = some (some (.int .u8 0), 1, 1) := by kernel_rfl
/-- The first k of n letters are written. -/
def upTo (n k : Nat) : List UInt8 := List.replicate k 120 ++ List.replicate (n - k) 0
theorem upTo_length (n k : Nat) (h : k ≤ n) : (upTo n k).length = n := by simp [upTo]; omega
theorem upTo_step (n k : Nat) (h : k < n) : (bc (upTo n k)).set k (.int .u8 120) = bc (upTo n (k + 1)) := by
  have e : n - k = (n - (k + 1)) + 1 := by omega
  unfold upTo bc
  rw [e, List.replicate_succ (n := n - (k + 1)), List.map_append, List.map_cons, List.set_append_right _ _ (by simp), show k - (List.map (fun c : UInt8 => Value.int .u8 (c.toNat : Int)) (List.replicate k 120)).length = 0 from by simp, List.set_cons_zero, List.replicate_succ' (n := k), List.map_append, List.map_append, List.append_assoc]
  rfl
theorem upTo_get (n k : Nat) (h : k < n) : ∃ u, (bc (upTo n k))[k]? = some u := by
  have : k < (bc (upTo n k)).length := by rw [bc_length, upTo_length n k (by omega)]; exact h
  exact ⟨_, List.getElem?_eq_getElem this⟩

def ManyE (n : Nat) (w : World) (e : Ending) (w' : World) : Prop := ∃ g cap, e = .returned (.slice (some ⟨g, 0, none⟩) n cap) ∧ w'.ownsRow w.heap.size 5 1 (.slice (some ⟨g, 0, none⟩) n cap) n (bc (List.replicate n 120)) ∧ Below w.heap.size w w'

set_option maxHeartbeats 800000 in
set_option maxRecDepth 1000000 in
theorem many (n : Nat) (w : World) (hn : n ≤ 8192) : Calls Try.prog 9 #[.int .i64 (n : Int)] w (ManyE n w) := by
  obtain ⟨i, hi, hz, h1, h2⟩ := info_parts infoByte
  go_enter Try.func9, Try.ntmps9
  go_wp2_with (at_make; refine wpList_make_full _ rfl _ _ 27 rfl w.heap.size 5 i (.int .u8 0) 1 Try.underlying27 hi hz h1 .i64 .i64 _ _ n rfl rfl rfl rfl (by rw [h2]; omega) (by unfold maxLen; omega) (Nat.le_refl _) ?_)
  intro w1 ho hg
  have hbl : Below w.heap.size w w1 := (Below.refl _ w).grown hg (Nat.le_refl _) (fun k hk => by cases hk)
  have ho1 : w1.ownsRow w.heap.size 5 1 (.slice (some ⟨w.heap.size, 0, none⟩) n n) n (bc (upTo n 0)) := by
    have e : bc (upTo n 0) = (madeCells #[Value.int .u8 0] n).toList := by
      rw [toList_madeCells_one]
      simp [bc, upTo]
    rw [e]
    exact ho
  clear ho hg
  go_wp2
  go_loopg [4] n (fun g x wr => ∃ (k : Nat), g + k = n ∧ x = .int .i64 k ∧ wr.ownsRow w.heap.size 5 1 (.slice (some ⟨w.heap.size, 0, none⟩) n n) n (bc (upTo n k)) ∧ Below w.heap.size w wr)
  case atStart => exact ⟨0, rfl, rfl, ho1, hbl⟩
  case round =>
    obtain ⟨k, hg, rfl, ho, hb⟩ := hrel
    by_cases hk : k < n
    · obtain ⟨u, hu⟩ := upTo_get n k hk
      have hc := ho.cellAt k (by omega)
      rw [hu] at hc
      have hf := ho.frozenAt k
      have ho2 := (ho.stored k (.int .u8 120)).1
      rw [upTo_step n k hk] at ho2
      have hb2 := hb.setCell (p := ⟨w.heap.size, k, none⟩) (Nat.le_refl _) (.int .u8 120)
      clear ho hb hu ho1 hbl
      go_wp2
      go_roundg (n - (k + 1))
      case measure => omega
      case rel => exact ⟨k + 1, by omega, by go_num, ho2, hb2⟩
    · have hk' : k = n := by omega
      subst hk'
      have e : upTo k k = List.replicate k 120 := by simp [upTo]
      rw [e] at ho
      clear ho1 hbl
      go_wp2
      go_ret
      exact ⟨_, _, rfl, ho, hb⟩
end Go.Proofs.Ytkhbngadlaofcaa
