/-
  The statements' 'made' at a function.
-/
import Derived.Test.YtcjlifhehiolkaaTypesMadeT
namespace Go.Proofs.Ytcjlifhehiolkaa
open Go.RowKit

set_option maxHeartbeats 4000000 in
set_option maxRecDepth 1000000 in
theorem made_A_fun (d L : Nat) (hd1 : d ≤ 100) (hL : 5 ≤ L) (hL2 : L ≤ 1000) (hIH : MadeAll (d : Int) L) (w : World) (b : Addr) (zs : List Int) (c ba p P N : Nat) (hI : IntRow w ba (.slice (some b) zs.length c) zs) (hA : AtIs w ba p) (hz : zs.length ≤ P) (hP : P ≤ 9223372036854775807) (hq : zs[p]? = some (N : Int)) (hN : (N : Int) ≤ 9223372036854775807) (c5 : N % 5 = 4) :
    Calls Try.prog 18 #[.slice (some b) zs.length c, .pointer (some ⟨ba, 0, none⟩), .int .i64 ((d : Int) + 1)] w (MadeT (7 * L + 8) ba P w) := by
  have hbl := hA.lt
  obtain ⟨q0, f0⟩ := hA.cell
  have hK0 := Kept.refl (fun b => b = ba) w
  have hII := hI
  obtain ⟨hlt, _⟩ := List.getElem?_eq_some_iff.1 hq
  obtain ⟨hb, ⟨h1, _⟩ | ⟨b', c', e1, h2, h3, h4⟩⟩ := hI
  · subst h1; simp at hlt
  simp only [Value.slice.injEq, Option.some.injEq, true_and] at e1
  obtain ⟨rfl, rfl⟩ := e1
  have q1 := h4 p _ hq
  have hlt' : (p : Int) < (zs.length : Int) := by omega
  have hab : (b.add p).block ≠ ba := by rw [add_block]; exact h3
  have hA1 : AtIs (w.setCell ⟨ba, 0, none⟩ (.int .i64 ((p : Int) + 1))) ba (p + 1) := heap_setCell_same w ba 0 _ 3 _ hA
  have K1 : Kept (fun b => b = ba) w (w.setCell ⟨ba, 0, none⟩ (.int .i64 ((p : Int) + 1))) := hK0.setCell (p := ⟨ba, 0, none⟩) (fun _ => rfl) _
  have hI1 := hII.kept K1
  have hd0 : ¬ (d : Int) + 1 ≤ 0 := by omega
  clear hb h4 hA hII hq
  have c5' : (N : Int) % 5 = 4 := by omega
  obtain ⟨K, c7, c7b⟩ : ∃ K : Nat, (N : Int) % 7 = (K : Int) ∧ K ≤ 6 := ⟨N % 7, by omega, by omega⟩
  go_enter Try.func18, Try.ntmps18
  go_wp2_with fail
  generalize (w.setCell ⟨ba, 0, none⟩ (.int .i64 ((p : Int) + 1))) = w1 at *
  go_loopg [8, 9] K (fun g v k wr => ∃ (acc : List (List UInt8)) (p2 : Nat), acc.length + g ≤ 6 ∧ k = .int .i64 (g : Int) ∧ Hid (∀ x ∈ acc, one x = some [] ∧ x.length ≤ L) ∧ wr.ownsRow w1.heap.size 9 1 v acc.length (sc acc) ∧ AtIs wr ba p2 ∧ p2 ≤ P ∧ Kept (fun b => b = ba) w1 wr)
  case atStart => exact ⟨[], p + 1, by simp; omega, rfl, by rw [hid_iff]; simp, World.ownsRow_nil _ _ _ _, hA1, by omega, Kept.refl _ _⟩
  case round =>
    obtain ⟨acc, p2, hg6, rfl, hacc, hown, hA2, hp2, hK2⟩ := hrel
    have hI2 := hI1.kept hK2
    have hb1 := hA1.lt
    have hs2 := hK2.size
    cases gk with
    | succ g =>
      have hg0 : (0 : Int) < ((g + 1 : Nat) : Int) := by omega
      go_wp2_with fail
      refine (hIH wr _ zs ba p2 P hI2 hA2 hp2 hz hP).mono ?_
      rintro e w3 ⟨x, p3, rfl, hx1, hx2, hA3, hp3, hK3⟩
      have ho3 := hK3.own hown (fun k hk e => by have := (hown.lt k hk).1; omega)
      have hs3 := hK3.size
      go_wp2_with (at_builtin; refine append_text rfl (.tmp 64) (.tmp 70) rfl w1.heap.size _ acc rfl (ho3.alloc _) _ _ x rfl ?src ?len ?hB ?next)
      case src => first | exact cells_new _ _ _ | exact fun j u h => h
      case len => first | omega | (simp; omega)
      case hB => first | omega | (simp; omega)
      case next =>
        intro ad c' w' k1 k2
        have hk4 : Kept (fun b => b = ba) w1 w' := ((hK2.trans hK3 (fun _ _ h => h) (fun _ _ h => h)).alloc (.cells #[.string (str x)] 9)).grown k2 (fun k e h => by have := ((ho3.alloc (.cells #[.string (str x)] 9)).lt k e).1; omega)
        have hA4 : AtIs w' ba p3 := (hA3.kept ((Kept.refl (fun _ => False) w3).alloc (.cells #[.string (str x)] 9)) (fun h => h)).kept ((Kept.refl _ _).grown k2 (fun k e _ => e)) (fun e => by have := ((ho3.alloc (.cells #[.string (str x)] 9)).lt ba e).1; omega)
        clear k2 ho3 hK3 hA3 hown hA2 hK2
        go_wp2
        go_roundg g
        case measure => omega
        case rel =>
          refine ⟨acc ++ [x], p3, by simp; omega, by go_num, ?_, by simpa using k1, hA4, hp3, hk4⟩
          rw [hid_iff]
          intro y hy
          simp only [List.mem_append, List.mem_singleton] at hy
          rcases hy with hy | rfl
          · exact hacc.out y hy
          · exact ⟨hx1, hx2⟩
    | zero =>
      go_wp2_with fail
      refine (hIH wr _ zs ba p2 P hI2 hA2 hp2 hz hP).mono ?_
      rintro e w3 ⟨x, p3, rfl, hx1, hx2, hA3, hp3, hK3⟩
      have ho3 := hK3.own hown (fun k hk e => by have := (hown.lt k hk).1; omega)
      have hjl := join_lenL L acc (fun y hy => (hacc.out y hy).2)
      have hml : (L + 1) * acc.length ≤ (L + 1) * 6 := Nat.mul_le_mul_left _ (by omega)
      have hfn := func _ acc x w3 (strRow_own ho3) (by omega) (by omega) (by omega)
      have hfl : (funcR acc x).length ≤ 7 * L + 8 := by simp only [funcR, List.length_cons, List.length_append]; omega
      have hf1 := one_funcR (fun y hy => (hacc.out y hy).1) hx1 (by omega)
      have hK4 := K1.trans (hK2.trans hK3 (fun _ _ h => h) (fun _ _ h => h)) (fun _ _ h => h) (fun _ _ h => h)
      have hs3 := hK3.size
      generalize funcR acc x = y at *
      clear ho3 hK3 hown hA2 hK2 hjl
      go_wp2_with (go_at_call 16; refine hfn.mono ?_; rintro e w4 ⟨rfl, hb4⟩)
      go_ret
      exact madeT_mk (x := y) rfl hf1 hfl (hA3.kept (Kept.of_below hb4) (by have := hA3.lt; omega)) hp3 (hK4.trans (Kept.of_below hb4) (fun _ _ h => h) (fun k hk h => by have := hK4.size; omega))
set_option maxHeartbeats 4000000 in
set_option maxRecDepth 1000000 in
theorem made_B_fun (d L : Nat) (hd1 : d ≤ 100) (hL : 5 ≤ L) (hL2 : L ≤ 1000) (hIH : MadeAll (d : Int) L) (w : World) (b : Addr) (zs : List Int) (c ba p P N : Nat) (hI : IntRow w ba (.slice (some b) zs.length c) zs) (hA : AtIs w ba p) (hz : zs.length ≤ P) (hP : P ≤ 9223372036854775807) (hq : zs[p]? = some (-(N : Int) - 1)) (hN : (N : Int) ≤ 9223372036854775807) (c5 : N % 5 = 4) :
    Calls Try.prog 18 #[.slice (some b) zs.length c, .pointer (some ⟨ba, 0, none⟩), .int .i64 ((d : Int) + 1)] w (MadeT (7 * L + 8) ba P w) := by
  have hbl := hA.lt
  obtain ⟨q0, f0⟩ := hA.cell
  have hK0 := Kept.refl (fun b => b = ba) w
  have hII := hI
  obtain ⟨hlt, _⟩ := List.getElem?_eq_some_iff.1 hq
  obtain ⟨hb, ⟨h1, _⟩ | ⟨b', c', e1, h2, h3, h4⟩⟩ := hI
  · subst h1; simp at hlt
  simp only [Value.slice.injEq, Option.some.injEq, true_and] at e1
  obtain ⟨rfl, rfl⟩ := e1
  have q1 := h4 p _ hq
  have hlt' : (p : Int) < (zs.length : Int) := by omega
  have hab : (b.add p).block ≠ ba := by rw [add_block]; exact h3
  have hA1 : AtIs (w.setCell ⟨ba, 0, none⟩ (.int .i64 ((p : Int) + 1))) ba (p + 1) := heap_setCell_same w ba 0 _ 3 _ hA
  have K1 : Kept (fun b => b = ba) w (w.setCell ⟨ba, 0, none⟩ (.int .i64 ((p : Int) + 1))) := hK0.setCell (p := ⟨ba, 0, none⟩) (fun _ => rfl) _
  have hI1 := hII.kept K1
  have hd0 : ¬ (d : Int) + 1 ≤ 0 := by omega
  have hN1 : IntKind.i64.wrap (-(N : Int)) = -(N : Int) := by rw [IntKind.wrap_i64]; omega
  have hN3 : -(N : Int) - 1 + 1 = -(N : Int) := by omega
  clear hb h4 hA hII hq
  have c5' : (N : Int) % 5 = 4 := by omega
  obtain ⟨K, c7, c7b⟩ : ∃ K : Nat, (N : Int) % 7 = (K : Int) ∧ K ≤ 6 := ⟨N % 7, by omega, by omega⟩
  go_enter Try.func18, Try.ntmps18
  go_wp2_with fail
  generalize (w.setCell ⟨ba, 0, none⟩ (.int .i64 ((p : Int) + 1))) = w1 at *
  go_loopg [8, 9] K (fun g v k wr => ∃ (acc : List (List UInt8)) (p2 : Nat), acc.length + g ≤ 6 ∧ k = .int .i64 (g : Int) ∧ Hid (∀ x ∈ acc, one x = some [] ∧ x.length ≤ L) ∧ wr.ownsRow w1.heap.size 9 1 v acc.length (sc acc) ∧ AtIs wr ba p2 ∧ p2 ≤ P ∧ Kept (fun b => b = ba) w1 wr)
  case atStart => exact ⟨[], p + 1, by simp; omega, rfl, by rw [hid_iff]; simp, World.ownsRow_nil _ _ _ _, hA1, by omega, Kept.refl _ _⟩
  case round =>
    obtain ⟨acc, p2, hg6, rfl, hacc, hown, hA2, hp2, hK2⟩ := hrel
    have hI2 := hI1.kept hK2
    have hb1 := hA1.lt
    have hs2 := hK2.size
    cases gk with
    | succ g =>
      have hg0 : (0 : Int) < ((g + 1 : Nat) : Int) := by omega
      go_wp2_with fail
      refine (hIH wr _ zs ba p2 P hI2 hA2 hp2 hz hP).mono ?_
      rintro e w3 ⟨x, p3, rfl, hx1, hx2, hA3, hp3, hK3⟩
      have ho3 := hK3.own hown (fun k hk e => by have := (hown.lt k hk).1; omega)
      have hs3 := hK3.size
      go_wp2_with (at_builtin; refine append_text rfl (.tmp 64) (.tmp 70) rfl w1.heap.size _ acc rfl (ho3.alloc _) _ _ x rfl ?src ?len ?hB ?next)
      case src => first | exact cells_new _ _ _ | exact fun j u h => h
      case len => first | omega | (simp; omega)
      case hB => first | omega | (simp; omega)
      case next =>
        intro ad c' w' k1 k2
        have hk4 : Kept (fun b => b = ba) w1 w' := ((hK2.trans hK3 (fun _ _ h => h) (fun _ _ h => h)).alloc (.cells #[.string (str x)] 9)).grown k2 (fun k e h => by have := ((ho3.alloc (.cells #[.string (str x)] 9)).lt k e).1; omega)
        have hA4 : AtIs w' ba p3 := (hA3.kept ((Kept.refl (fun _ => False) w3).alloc (.cells #[.string (str x)] 9)) (fun h => h)).kept ((Kept.refl _ _).grown k2 (fun k e _ => e)) (fun e => by have := ((ho3.alloc (.cells #[.string (str x)] 9)).lt ba e).1; omega)
        clear k2 ho3 hK3 hA3 hown hA2 hK2
        go_wp2
        go_roundg g
        case measure => omega
        case rel =>
          refine ⟨acc ++ [x], p3, by simp; omega, by go_num, ?_, by simpa using k1, hA4, hp3, hk4⟩
          rw [hid_iff]
          intro y hy
          simp only [List.mem_append, List.mem_singleton] at hy
          rcases hy with hy | rfl
          · exact hacc.out y hy
          · exact ⟨hx1, hx2⟩
    | zero =>
      go_wp2_with fail
      refine (hIH wr _ zs ba p2 P hI2 hA2 hp2 hz hP).mono ?_
      rintro e w3 ⟨x, p3, rfl, hx1, hx2, hA3, hp3, hK3⟩
      have ho3 := hK3.own hown (fun k hk e => by have := (hown.lt k hk).1; omega)
      have hjl := join_lenL L acc (fun y hy => (hacc.out y hy).2)
      have hml : (L + 1) * acc.length ≤ (L + 1) * 6 := Nat.mul_le_mul_left _ (by omega)
      have hfn := func _ acc x w3 (strRow_own ho3) (by omega) (by omega) (by omega)
      have hfl : (funcR acc x).length ≤ 7 * L + 8 := by simp only [funcR, List.length_cons, List.length_append]; omega
      have hf1 := one_funcR (fun y hy => (hacc.out y hy).1) hx1 (by omega)
      have hK4 := K1.trans (hK2.trans hK3 (fun _ _ h => h) (fun _ _ h => h)) (fun _ _ h => h) (fun _ _ h => h)
      have hs3 := hK3.size
      generalize funcR acc x = y at *
      clear ho3 hK3 hown hA2 hK2 hjl
      go_wp2_with (go_at_call 16; refine hfn.mono ?_; rintro e w4 ⟨rfl, hb4⟩)
      go_ret
      exact madeT_mk (x := y) rfl hf1 hfl (hA3.kept (Kept.of_below hb4) (by have := hA3.lt; omega)) hp3 (hK4.trans (Kept.of_below hb4) (fun _ _ h => h) (fun k hk h => by have := hK4.size; omega))
end Go.Proofs.Ytcjlifhehiolkaa
