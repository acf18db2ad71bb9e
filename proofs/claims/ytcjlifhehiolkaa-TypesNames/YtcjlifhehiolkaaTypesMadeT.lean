/-
  The statements' 'made': a type of numbers, whatever they are: it is one, and not long.
-/
import Derived.Deep.LoopGhost
import Derived.Deep.CutRange
import Derived.Test.YtcjlifhehiolkaaTypesKnown
namespace Go.Proofs.Ytcjlifhehiolkaa
open Go.RowKit

theorem add_block (b : Addr) (j : Nat) : (b.add j).block = b.block := by
  unfold Addr.add
  split <;> rfl
/-- A row of numbers that came in, apart from block ba. -/
def IntRow (w : World) (ba : Nat) (v : Value) (zs : List Int) : Prop :=
  (∀ z ∈ zs, -9223372036854775808 ≤ z ∧ z ≤ 9223372036854775807) ∧ ((zs = [] ∧ ∃ a c, v = .slice a 0 c) ∨ ∃ (b : Addr) (c : Nat), v = .slice (some b) zs.length c ∧ b.block < w.heap.size ∧ b.block ≠ ba ∧ ∀ (j : Nat) z, zs[j]? = some z → w.cell? (b.add j) = some (.int .i64 z))
theorem IntRow.kept {w w' : World} {ba : Nat} {v : Value} {zs : List Int} (h : IntRow w ba v zs) (k : Kept (fun b => b = ba) w w') : IntRow w' ba v zs := by
  obtain ⟨h0, h | ⟨b, c, h1, h2, h3, h4⟩⟩ := h
  · exact ⟨h0, .inl h⟩
  · exact ⟨h0, .inr ⟨b, c, h1, Nat.lt_of_lt_of_le h2 k.size, h3, fun j z hj => k.cell (h4 j z hj) (by rw [add_block]; exact h3)⟩⟩
theorem IntRow.shape {w : World} {ba : Nat} {v : Value} {zs : List Int} (h : IntRow w ba v zs) : ∃ a c, v = .slice a zs.length c := by
  obtain ⟨_, ⟨rfl, a, c, rfl⟩ | ⟨b, c, rfl, _⟩⟩ := h
  · exact ⟨a, c, rfl⟩
  · exact ⟨_, c, rfl⟩
/-- Where the next number is read. -/
def AtIs (w : World) (ba p : Nat) : Prop := w.heap[ba]? = some (.cells #[.int .i64 (p : Int)] 3 (0, 0))
theorem AtIs.lt {w : World} {ba p : Nat} (h : AtIs w ba p) : ba < w.heap.size := (Array.getElem?_eq_some_iff.1 h).1
theorem AtIs.cell {w : World} {ba p : Nat} (h : AtIs w ba p) : w.cell? ⟨ba, 0, none⟩ = some (.int .i64 (p : Int)) ∧ w.frozen? ⟨ba, 0, none⟩ = false := by
  unfold AtIs at h
  exact ⟨by rw [cell_of_row w ba 0 _ _ _ h]; rfl, frozen_of_row w ba 0 _ _ h⟩
theorem AtIs.kept {S : Nat → Prop} {w w' : World} {ba p : Nat} (h : AtIs w ba p) (k : Kept S w w') (hS : ¬ S ba) : AtIs w' ba p := (k.block ba h.lt hS).trans h
def MadeT (L ba P : Nat) (w : World) (e : Ending) (w' : World) : Prop :=
  ∃ x p, e = .returned (.string (str x)) ∧ one x = some [] ∧ x.length ≤ L ∧ AtIs w' ba p ∧ p ≤ P ∧ Kept (fun b => b = ba) w w'
def MadeAll (d : Int) (L : Nat) : Prop := ∀ (w : World) (lv : Value) (zs : List Int) (ba p P : Nat), IntRow w ba lv zs → AtIs w ba p → p ≤ P → zs.length ≤ P → P ≤ 9223372036854775807 → Calls Try.prog 18 #[lv, .pointer (some ⟨ba, 0, none⟩), .int .i64 d] w (MadeT L ba P w)
theorem madeT_mk {L ba P : Nat} {w w' : World} {x : List UInt8} {s : ByteArray} {p : Nat} (hs : s = str x) (h1 : one x = some []) (h2 : x.length ≤ L) (h3 : AtIs w' ba p) (h4 : p ≤ P) (h5 : Kept (fun b => b = ba) w w') : MadeT L ba P w (.returned (.string s)) w' := by
  subst hs
  exact ⟨x, p, rfl, h1, h2, h3, h4, h5⟩
theorem one_numL : one numL = some [] := by kernel_rfl
theorem one_bytesL : one bytesL = some [] := by kernel_rfl
theorem one_mT : one [109, 46, 84] = some [] := by kernel_rfl
theorem one_aB : one [97, 46, 66] = some [] := by kernel_rfl
theorem one_xY : one [120, 95, 49, 46, 89] = some [] := by kernel_rfl
theorem join_lenL (L : Nat) : ∀ (ps : List (List UInt8)), (∀ y ∈ ps, y.length ≤ L) → (joinR ps).length ≤ (L + 1) * ps.length
  | [], _ => by simp [joinR_nil]
  | [x], h => by have := h x (by simp); rw [joinR_one]; simp; omega
  | x :: y :: r, h => by
    have h1 := h x (by simp)
    have h2 := join_lenL L (y :: r) (fun z hz => h z (List.mem_cons_of_mem _ hz))
    rw [joinR_two]
    simp only [List.length_append, List.length_cons] at h2 ⊢
    rw [Nat.mul_add (L + 1) (r.length + 1) 1]
    omega

set_option maxHeartbeats 4000000 in
set_option maxRecDepth 1000000 in
theorem made_zero : MadeAll 0 5 := by
  intro w lv zs ba p P hI hA hp hz hP
  obtain ⟨la, lc, rfl⟩ := hI.shape
  have hbl := hA.lt
  obtain ⟨q0, f0⟩ := hA.cell
  have hK0 := Kept.refl (fun b => b = ba) w
  by_cases hlt : p < zs.length
  · obtain ⟨hb, ⟨h1, _⟩ | ⟨b, c, e1, h2, h3, h4⟩⟩ := hI
    · subst h1; simp at hlt
    simp only [Value.slice.injEq, true_and] at e1
    obtain ⟨rfl, rfl⟩ := e1
    have q1 := h4 p zs[p] (List.getElem?_eq_getElem hlt)
    have hzb := hb zs[p] (List.getElem_mem _)
    generalize zs[p] = z at *
    have hlt' : (p : Int) < (zs.length : Int) := by omega
    have hab : (b.add p).block ≠ ba := by rw [add_block]; exact h3
    have hA1 : AtIs (w.setCell ⟨ba, 0, none⟩ (.int .i64 ((p : Int) + 1))) ba (p + 1) := heap_setCell_same w ba 0 _ 3 _ hA
    have K1 : Kept (fun b => b = ba) w (w.setCell ⟨ba, 0, none⟩ (.int .i64 ((p : Int) + 1))) := hK0.setCell (p := ⟨ba, 0, none⟩) (fun _ => rfl) _
    clear hb h4 hA
    by_cases hz0 : z < 0
    · obtain ⟨N, rfl⟩ : ∃ N : Nat, z = -(N : Int) - 1 := ⟨(-(z + 1)).toNat, by omega⟩
      have hN1 : IntKind.i64.wrap (-(N : Int)) = -(N : Int) := by rw [IntKind.wrap_i64]; omega
      have hN3 : -(N : Int) - 1 + 1 = -(N : Int) := by omega
      have h3 : N % 3 = 0 ∨ N % 3 = 1 ∨ N % 3 = 2 := by omega
      rcases h3 with c3 | c3 | c3
      · have c3' : (N : Int) % 3 = 0 := by omega
        go_enter Try.func18, Try.ntmps18
        go_wp2
        go_ret
        exact madeT_mk (x := numL) rfl one_numL (by first | decide | (show 3 ≤ _; omega) | (show 5 ≤ _; omega)) hA1 (by omega) K1
      · have c3' : (N : Int) % 3 = 1 := by omega
        go_enter Try.func18, Try.ntmps18
        go_wp2
        go_ret
        exact madeT_mk (x := bytesL) rfl one_bytesL (by first | decide | (show 3 ≤ _; omega) | (show 5 ≤ _; omega)) hA1 (by omega) K1
      · have c3' : (N : Int) % 3 = 2 := by omega
        have hA2 := hA1.kept ((Kept.refl (fun _ => False) (w.setCell ⟨ba, 0, none⟩ (.int .i64 ((p : Int) + 1)))).alloc (.cells #[.string ⟨#[109, 46, 84]⟩, .string ⟨#[97, 46, 66]⟩, .string ⟨#[120, 95, 49, 46, 89]⟩] 9)) (fun h => h)
        have hK2 := K1.alloc (.cells #[.string ⟨#[109, 46, 84]⟩, .string ⟨#[97, 46, 66]⟩, .string ⟨#[120, 95, 49, 46, 89]⟩] 9)
        go_enter Try.func18, Try.ntmps18
        go_wp2
        go_ret
        exact madeT_mk (x := [120, 95, 49, 46, 89]) rfl one_xY (by first | decide | (show 3 ≤ _; omega) | (show 5 ≤ _; omega)) hA2 (by omega) hK2

    · obtain ⟨N, rfl⟩ : ∃ N : Nat, z = (N : Int) := ⟨z.toNat, by omega⟩
      have h3 : N % 3 = 0 ∨ N % 3 = 1 ∨ N % 3 = 2 := by omega
      rcases h3 with c3 | c3 | c3
      · have c3' : (N : Int) % 3 = 0 := by omega
        go_enter Try.func18, Try.ntmps18
        go_wp2
        go_ret
        exact madeT_mk (x := numL) rfl one_numL (by first | decide | (show 3 ≤ _; omega) | (show 5 ≤ _; omega)) hA1 (by omega) K1
      · have c3' : (N : Int) % 3 = 1 := by omega
        go_enter Try.func18, Try.ntmps18
        go_wp2
        go_ret
        exact madeT_mk (x := bytesL) rfl one_bytesL (by first | decide | (show 3 ≤ _; omega) | (show 5 ≤ _; omega)) hA1 (by omega) K1
      · have c3' : (N : Int) % 3 = 2 := by omega
        have hA2 := hA1.kept ((Kept.refl (fun _ => False) (w.setCell ⟨ba, 0, none⟩ (.int .i64 ((p : Int) + 1)))).alloc (.cells #[.string ⟨#[109, 46, 84]⟩, .string ⟨#[97, 46, 66]⟩, .string ⟨#[120, 95, 49, 46, 89]⟩] 9)) (fun h => h)
        have hK2 := K1.alloc (.cells #[.string ⟨#[109, 46, 84]⟩, .string ⟨#[97, 46, 66]⟩, .string ⟨#[120, 95, 49, 46, 89]⟩] 9)
        go_enter Try.func18, Try.ntmps18
        go_wp2
        go_ret
        exact madeT_mk (x := [120, 95, 49, 46, 89]) rfl one_xY (by first | decide | (show 3 ≤ _; omega) | (show 5 ≤ _; omega)) hA2 (by omega) hK2

  · have hlt' : ¬ (p : Int) < (zs.length : Int) := by omega
    clear hI
    go_enter Try.func18, Try.ntmps18
    go_wp2
    go_ret
    exact madeT_mk (x := numL) rfl one_numL (by decide) hA hp hK0
set_option maxHeartbeats 4000000 in
set_option maxRecDepth 1000000 in
theorem made_C (d L : Nat) (hd1 : d ≤ 100) (hL : 5 ≤ L) (w : World) (lv : Value) (zs : List Int) (ba p P : Nat) (hI : IntRow w ba lv zs) (hA : AtIs w ba p) (hp : p ≤ P) (hlt : ¬ p < zs.length) :
    Calls Try.prog 18 #[lv, .pointer (some ⟨ba, 0, none⟩), .int .i64 ((d : Int) + 1)] w (MadeT (7 * L + 8) ba P w) := by
  obtain ⟨la, lc, rfl⟩ := hI.shape
  have hbl := hA.lt
  obtain ⟨q0, f0⟩ := hA.cell
  have hd0 : ¬ (d : Int) + 1 ≤ 0 := by omega
  have hlt' : ¬ (p : Int) < (zs.length : Int) := by omega
  clear hI
  go_enter Try.func18, Try.ntmps18
  go_wp2
  go_ret
  exact madeT_mk (x := numL) rfl one_numL (by show 3 ≤ _; omega) hA hp (Kept.refl _ _)
set_option maxHeartbeats 4000000 in
set_option maxRecDepth 1000000 in
theorem made_A_leaf (d L : Nat) (hd1 : d ≤ 100) (hL : 5 ≤ L) (w : World) (b : Addr) (zs : List Int) (c ba p P N : Nat) (hI : IntRow w ba (.slice (some b) zs.length c) zs) (hA : AtIs w ba p) (hz : zs.length ≤ P) (hP : P ≤ 9223372036854775807) (hq : zs[p]? = some (N : Int)) (hN : (N : Int) ≤ 9223372036854775807) (hc : N % 5 = 0 ∨ N % 5 = 1 ∨ N % 5 = 2) :
    Calls Try.prog 18 #[.slice (some b) zs.length c, .pointer (some ⟨ba, 0, none⟩), .int .i64 ((d : Int) + 1)] w (MadeT (7 * L + 8) ba P w) := by
  have hbl := hA.lt
  obtain ⟨q0, f0⟩ := hA.cell
  have hK0 := Kept.refl (fun b => b = ba) w
  have hII := hI
  obtain ⟨hlt, _⟩ := List.getElem?_eq_some_iff.1 hq
  obtain ⟨hb, ⟨h1, _⟩ | ⟨b', c', e1, h2, h3, h4⟩⟩ := hI
  · subst h1; simp at hlt
  simp only [Value.slice.injEq, Option.some.injEq, true_and] at e1
  obtain ⟨rfl, rfl⟩ := e1
  have q1 := h4 p _ hq
  have hlt' : (p : Int) < (zs.length : Int) := by omega
  have hab : (b.add p).block ≠ ba := by rw [add_block]; exact h3
  have hA1 : AtIs (w.setCell ⟨ba, 0, none⟩ (.int .i64 ((p : Int) + 1))) ba (p + 1) := heap_setCell_same w ba 0 _ 3 _ hA
  have K1 : Kept (fun b => b = ba) w (w.setCell ⟨ba, 0, none⟩ (.int .i64 ((p : Int) + 1))) := hK0.setCell (p := ⟨ba, 0, none⟩) (fun _ => rfl) _
  have hI1 := hII.kept K1
  have hd0 : ¬ (d : Int) + 1 ≤ 0 := by omega
  clear hb h4 hA hII hq
  rcases hc with c5 | c5 | c5
  · have c5' : (N : Int) % 5 = 0 := by omega
    go_enter Try.func18, Try.ntmps18
    go_wp2
    go_ret
    exact madeT_mk (x := numL) rfl one_numL (by first | decide | (show 3 ≤ _; omega) | (show 5 ≤ _; omega)) hA1 (by omega) K1
  · have c5' : (N : Int) % 5 = 1 := by omega
    go_enter Try.func18, Try.ntmps18
    go_wp2
    go_ret
    exact madeT_mk (x := bytesL) rfl one_bytesL (by first | decide | (show 3 ≤ _; omega) | (show 5 ≤ _; omega)) hA1 (by omega) K1
  · have c5' : (N : Int) % 5 = 2 := by omega
    have h3 : N % 3 = 0 ∨ N % 3 = 1 ∨ N % 3 = 2 := by omega
    rcases h3 with c3 | c3 | c3
    · have c3' : (N : Int) % 3 = 0 := by omega
      have hA2 := hA1.kept ((Kept.refl (fun _ => False) (w.setCell ⟨ba, 0, none⟩ (.int .i64 ((p : Int) + 1)))).alloc (.cells #[.string ⟨#[109, 46, 84]⟩, .string ⟨#[97, 46, 66]⟩, .string ⟨#[120, 95, 49, 46, 89]⟩] 9)) (fun h => h)
      have hK2 := K1.alloc (.cells #[.string ⟨#[109, 46, 84]⟩, .string ⟨#[97, 46, 66]⟩, .string ⟨#[120, 95, 49, 46, 89]⟩] 9)
      go_enter Try.func18, Try.ntmps18
      go_wp2
      go_ret
      exact madeT_mk (x := [109, 46, 84]) rfl one_mT (by first | decide | (show 3 ≤ _; omega) | (show 5 ≤ _; omega)) hA2 (by omega) hK2
    · have c3' : (N : Int) % 3 = 1 := by omega
      have hA2 := hA1.kept ((Kept.refl (fun _ => False) (w.setCell ⟨ba, 0, none⟩ (.int .i64 ((p : Int) + 1)))).alloc (.cells #[.string ⟨#[109, 46, 84]⟩, .string ⟨#[97, 46, 66]⟩, .string ⟨#[120, 95, 49, 46, 89]⟩] 9)) (fun h => h)
      have hK2 := K1.alloc (.cells #[.string ⟨#[109, 46, 84]⟩, .string ⟨#[97, 46, 66]⟩, .string ⟨#[120, 95, 49, 46, 89]⟩] 9)
      go_enter Try.func18, Try.ntmps18
      go_wp2
      go_ret
      exact madeT_mk (x := [97, 46, 66]) rfl one_aB (by first | decide | (show 3 ≤ _; omega) | (show 5 ≤ _; omega)) hA2 (by omega) hK2
    · have c3' : (N : Int) % 3 = 2 := by omega
      have hA2 := hA1.kept ((Kept.refl (fun _ => False) (w.setCell ⟨ba, 0, none⟩ (.int .i64 ((p : Int) + 1)))).alloc (.cells #[.string ⟨#[109, 46, 84]⟩, .string ⟨#[97, 46, 66]⟩, .string ⟨#[120, 95, 49, 46, 89]⟩] 9)) (fun h => h)
      have hK2 := K1.alloc (.cells #[.string ⟨#[109, 46, 84]⟩, .string ⟨#[97, 46, 66]⟩, .string ⟨#[120, 95, 49, 46, 89]⟩] 9)
      go_enter Try.func18, Try.ntmps18
      go_wp2
      go_ret
      exact madeT_mk (x := [120, 95, 49, 46, 89]) rfl one_xY (by first | decide | (show 3 ≤ _; omega) | (show 5 ≤ _; omega)) hA2 (by omega) hK2
set_option maxHeartbeats 4000000 in
set_option maxRecDepth 1000000 in
theorem made_B_leaf (d L : Nat) (hd1 : d ≤ 100) (hL : 5 ≤ L) (w : World) (b : Addr) (zs : List Int) (c ba p P N : Nat) (hI : IntRow w ba (.slice (some b) zs.length c) zs) (hA : AtIs w ba p) (hz : zs.length ≤ P) (hP : P ≤ 9223372036854775807) (hq : zs[p]? = some (-(N : Int) - 1)) (hN : (N : Int) ≤ 9223372036854775807) (hc : N % 5 = 0 ∨ N % 5 = 1 ∨ N % 5 = 2) :
    Calls Try.prog 18 #[.slice (some b) zs.length c, .pointer (some ⟨ba, 0, none⟩), .int .i64 ((d : Int) + 1)] w (MadeT (7 * L + 8) ba P w) := by
  have hbl := hA.lt
  obtain ⟨q0, f0⟩ := hA.cell
  have hK0 := Kept.refl (fun b => b = ba) w
  have hII := hI
  obtain ⟨hlt, _⟩ := List.getElem?_eq_some_iff.1 hq
  obtain ⟨hb, ⟨h1, _⟩ | ⟨b', c', e1, h2, h3, h4⟩⟩ := hI
  · subst h1; simp at hlt
  simp only [Value.slice.injEq, Option.some.injEq, true_and] at e1
  obtain ⟨rfl, rfl⟩ := e1
  have q1 := h4 p _ hq
  have hlt' : (p : Int) < (zs.length : Int) := by omega
  have hab : (b.add p).block ≠ ba := by rw [add_block]; exact h3
  have hA1 : AtIs (w.setCell ⟨ba, 0, none⟩ (.int .i64 ((p : Int) + 1))) ba (p + 1) := heap_setCell_same w ba 0 _ 3 _ hA
  have K1 : Kept (fun b => b = ba) w (w.setCell ⟨ba, 0, none⟩ (.int .i64 ((p : Int) + 1))) := hK0.setCell (p := ⟨ba, 0, none⟩) (fun _ => rfl) _
  have hI1 := hII.kept K1
  have hd0 : ¬ (d : Int) + 1 ≤ 0 := by omega
  have hN1 : IntKind.i64.wrap (-(N : Int)) = -(N : Int) := by rw [IntKind.wrap_i64]; omega
  have hN3 : -(N : Int) - 1 + 1 = -(N : Int) := by omega
  clear hb h4 hA hII hq
  rcases hc with c5 | c5 | c5
  · have c5' : (N : Int) % 5 = 0 := by omega
    go_enter Try.func18, Try.ntmps18
    go_wp2
    go_ret
    exact madeT_mk (x := numL) rfl one_numL (by first | decide | (show 3 ≤ _; omega) | (show 5 ≤ _; omega)) hA1 (by omega) K1
  · have c5' : (N : Int) % 5 = 1 := by omega
    go_enter Try.func18, Try.ntmps18
    go_wp2
    go_ret
    exact madeT_mk (x := bytesL) rfl one_bytesL (by first | decide | (show 3 ≤ _; omega) | (show 5 ≤ _; omega)) hA1 (by omega) K1
  · have c5' : (N : Int) % 5 = 2 := by omega
    have h3 : N % 3 = 0 ∨ N % 3 = 1 ∨ N % 3 = 2 := by omega
    rcases h3 with c3 | c3 | c3
    · have c3' : (N : Int) % 3 = 0 := by omega
      have hA2 := hA1.kept ((Kept.refl (fun _ => False) (w.setCell ⟨ba, 0, none⟩ (.int .i64 ((p : Int) + 1)))).alloc (.cells #[.string ⟨#[109, 46, 84]⟩, .string ⟨#[97, 46, 66]⟩, .string ⟨#[120, 95, 49, 46, 89]⟩] 9)) (fun h => h)
      have hK2 := K1.alloc (.cells #[.string ⟨#[109, 46, 84]⟩, .string ⟨#[97, 46, 66]⟩, .string ⟨#[120, 95, 49, 46, 89]⟩] 9)
      go_enter Try.func18, Try.ntmps18
      go_wp2
      go_ret
      exact madeT_mk (x := [109, 46, 84]) rfl one_mT (by first | decide | (show 3 ≤ _; omega) | (show 5 ≤ _; omega)) hA2 (by omega) hK2
    · have c3' : (N : Int) % 3 = 1 := by omega
      have hA2 := hA1.kept ((Kept.refl (fun _ => False) (w.setCell ⟨ba, 0, none⟩ (.int .i64 ((p : Int) + 1)))).alloc (.cells #[.string ⟨#[109, 46, 84]⟩, .string ⟨#[97, 46, 66]⟩, .string ⟨#[120, 95, 49, 46, 89]⟩] 9)) (fun h => h)
      have hK2 := K1.alloc (.cells #[.string ⟨#[109, 46, 84]⟩, .string ⟨#[97, 46, 66]⟩, .string ⟨#[120, 95, 49, 46, 89]⟩] 9)
      go_enter Try.func18, Try.ntmps18
      go_wp2
      go_ret
      exact madeT_mk (x := [97, 46, 66]) rfl one_aB (by first | decide | (show 3 ≤ _; omega) | (show 5 ≤ _; omega)) hA2 (by omega) hK2
    · have c3' : (N : Int) % 3 = 2 := by omega
      have hA2 := hA1.kept ((Kept.refl (fun _ => False) (w.setCell ⟨ba, 0, none⟩ (.int .i64 ((p : Int) + 1)))).alloc (.cells #[.string ⟨#[109, 46, 84]⟩, .string ⟨#[97, 46, 66]⟩, .string ⟨#[120, 95, 49, 46, 89]⟩] 9)) (fun h => h)
      have hK2 := K1.alloc (.cells #[.string ⟨#[109, 46, 84]⟩, .string ⟨#[97, 46, 66]⟩, .string ⟨#[120, 95, 49, 46, 89]⟩] 9)
      go_enter Try.func18, Try.ntmps18
      go_wp2
      go_ret
      exact madeT_mk (x := [120, 95, 49, 46, 89]) rfl one_xY (by first | decide | (show 3 ≤ _; omega) | (show 5 ≤ _; omega)) hA2 (by omega) hK2
end Go.Proofs.Ytcjlifhehiolkaa
