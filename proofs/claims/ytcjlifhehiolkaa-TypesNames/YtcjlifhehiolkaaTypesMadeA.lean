/-
  The statements' 'made' at an array.
-/
import Derived.Test.YtcjlifhehiolkaaTypesMadeT
namespace Go.Proofs.Ytcjlifhehiolkaa
open Go.RowKit

set_option maxHeartbeats 4000000 in
set_option maxRecDepth 1000000 in
theorem made_A_arr (d L : Nat) (hd1 : d ≤ 100) (hL : 5 ≤ L) (hL2 : L ≤ 1000) (hIH : MadeAll (d : Int) L) (w : World) (b : Addr) (zs : List Int) (c ba p P N : Nat) (hI : IntRow w ba (.slice (some b) zs.length c) zs) (hA : AtIs w ba p) (hz : zs.length ≤ P) (hP : P ≤ 9223372036854775807) (hq : zs[p]? = some (N : Int)) (hN : (N : Int) ≤ 9223372036854775807) (c5 : N % 5 = 3) :
    Calls Try.prog 18 #[.slice (some b) zs.length c, .pointer (some ⟨ba, 0, none⟩), .int .i64 ((d : Int) + 1)] w (MadeT (7 * L + 8) ba P w) := by
  have hbl := hA.lt
  obtain ⟨q0, f0⟩ := hA.cell
  have hK0 := Kept.refl (fun b => b = ba) w
  have hII := hI
  obtain ⟨hlt, _⟩ := List.getElem?_eq_some_iff.1 hq
  obtain ⟨hb, ⟨h1, _⟩ | ⟨b', c', e1, h2, h3, h4⟩⟩ := hI
  · subst h1; simp at hlt
  simp only [Value.slice.injEq, Option.some.injEq, true_and] at e1
  obtain ⟨rfl, rfl⟩ := e1
  have q1 := h4 p _ hq
  have hlt' : (p : Int) < (zs.length : Int) := by omega
  have hab : (b.add p).block ≠ ba := by rw [add_block]; exact h3
  have hA1 : AtIs (w.setCell ⟨ba, 0, none⟩ (.int .i64 ((p : Int) + 1))) ba (p + 1) := heap_setCell_same w ba 0 _ 3 _ hA
  have K1 : Kept (fun b => b = ba) w (w.setCell ⟨ba, 0, none⟩ (.int .i64 ((p : Int) + 1))) := hK0.setCell (p := ⟨ba, 0, none⟩) (fun _ => rfl) _
  have hI1 := hII.kept K1
  have hd0 : ¬ (d : Int) + 1 ≤ 0 := by omega
  clear hb h4 hA hII hq
  have c5' : (N : Int) % 5 = 3 := by omega
  go_enter Try.func18, Try.ntmps18
  go_wp2_with fail
  generalize (w.setCell ⟨ba, 0, none⟩ (.int .i64 ((p : Int) + 1))) = w1 at *
  refine (hIH w1 _ zs ba (p + 1) P hI1 hA1 (by omega) hz hP).mono ?_
  rintro e w2 ⟨x, p2, rfl, hx1, hx2, hA2, hp2, hK2⟩
  have har := array x w2 (by omega)
  have hK3 := K1.trans hK2 (fun _ _ h => h) (fun _ _ h => h)
  go_wp2_with (go_at_call 15; refine har.mono ?_; rintro e w3 ⟨rfl, rfl⟩)
  go_ret
  exact madeT_mk (x := arrR x) rfl (one_arrR hx1) (by simp [arrR]; omega) hA2 hp2 hK3
set_option maxHeartbeats 4000000 in
set_option maxRecDepth 1000000 in
theorem made_B_arr (d L : Nat) (hd1 : d ≤ 100) (hL : 5 ≤ L) (hL2 : L ≤ 1000) (hIH : MadeAll (d : Int) L) (w : World) (b : Addr) (zs : List Int) (c ba p P N : Nat) (hI : IntRow w ba (.slice (some b) zs.length c) zs) (hA : AtIs w ba p) (hz : zs.length ≤ P) (hP : P ≤ 9223372036854775807) (hq : zs[p]? = some (-(N : Int) - 1)) (hN : (N : Int) ≤ 9223372036854775807) (c5 : N % 5 = 3) :
    Calls Try.prog 18 #[.slice (some b) zs.length c, .pointer (some ⟨ba, 0, none⟩), .int .i64 ((d : Int) + 1)] w (MadeT (7 * L + 8) ba P w) := by
  have hbl := hA.lt
  obtain ⟨q0, f0⟩ := hA.cell
  have hK0 := Kept.refl (fun b => b = ba) w
  have hII := hI
  obtain ⟨hlt, _⟩ := List.getElem?_eq_some_iff.1 hq
  obtain ⟨hb, ⟨h1, _⟩ | ⟨b', c', e1, h2, h3, h4⟩⟩ := hI
  · subst h1; simp at hlt
  simp only [Value.slice.injEq, Option.some.injEq, true_and] at e1
  obtain ⟨rfl, rfl⟩ := e1
  have q1 := h4 p _ hq
  have hlt' : (p : Int) < (zs.length : Int) := by omega
  have hab : (b.add p).block ≠ ba := by rw [add_block]; exact h3
  have hA1 : AtIs (w.setCell ⟨ba, 0, none⟩ (.int .i64 ((p : Int) + 1))) ba (p + 1) := heap_setCell_same w ba 0 _ 3 _ hA
  have K1 : Kept (fun b => b = ba) w (w.setCell ⟨ba, 0, none⟩ (.int .i64 ((p : Int) + 1))) := hK0.setCell (p := ⟨ba, 0, none⟩) (fun _ => rfl) _
  have hI1 := hII.kept K1
  have hd0 : ¬ (d : Int) + 1 ≤ 0 := by omega
  have hN1 : IntKind.i64.wrap (-(N : Int)) = -(N : Int) := by rw [IntKind.wrap_i64]; omega
  have hN3 : -(N : Int) - 1 + 1 = -(N : Int) := by omega
  clear hb h4 hA hII hq
  have c5' : (N : Int) % 5 = 3 := by omega
  go_enter Try.func18, Try.ntmps18
  go_wp2_with fail
  generalize (w.setCell ⟨ba, 0, none⟩ (.int .i64 ((p : Int) + 1))) = w1 at *
  refine (hIH w1 _ zs ba (p + 1) P hI1 hA1 (by omega) hz hP).mono ?_
  rintro e w2 ⟨x, p2, rfl, hx1, hx2, hA2, hp2, hK2⟩
  have har := array x w2 (by omega)
  have hK3 := K1.trans hK2 (fun _ _ h => h) (fun _ _ h => h)
  go_wp2_with (go_at_call 15; refine har.mono ?_; rintro e w3 ⟨rfl, rfl⟩)
  go_ret
  exact madeT_mk (x := arrR x) rfl (one_arrR hx1) (by simp [arrR]; omega) hA2 hp2 hK3
end Go.Proofs.Ytcjlifhehiolkaa
