/-
  The package's tooMany, readModule and Module where all items are functions, or there are none.
  And: The package's Expr.
-/
import Derived.Deep.LoopGhost
import Derived.Test.YtchfhkfepghfjaaPfBb
import Derived.Test.YtchfhkfepghfjaaPfBd
import Derived.Test.YtchfhkfepghfjaaPfAy
namespace Go.Proofs.Ytchfhkfepghfjaa
open Go.RowKit

def modz : List Value := [.string (str []), .slice none 0 0, .slice none 0 0, .slice none 0 0, .slice none 0 0, .slice none 0 0]
theorem sizeMod : (Try.prog.info? 59).map (fun i => i.size) = some 6 := by kernel_rfl
theorem own_shape {B T sz n : Nat} {u : World} {x : Value} {xs : List Value} (h : u.ownsRow B T sz x n xs) : ∃ a c, x = .slice a n c := by
  rcases h.2 with ⟨rfl, rfl⟩ | ⟨g, cap, cur, rfl, _⟩
  · exact ⟨none, 0, rfl⟩
  · exact ⟨_, _, rfl⟩
theorem at_mod (w : World) : At (w.alloc (.cells #[.string ⟨#[]⟩, .slice none 0 0, .slice none 0 0, .slice none 0 0, .slice none 0 0, .slice none 0 0] 59)) w.heap.size [] modz [] 59 := at_new w _ _
theorem at_cells {w : World} {d T : Nat} {X : List Value} (h : At w d [] X [] T) {j : Nat} {v : Value} (hj : X[j]? = some v) : w.cell? ⟨d, j, none⟩ = some v := by
  have := h.cell hj
  rwa [List.length_nil, Nat.zero_add] at this
set_option maxRecDepth 1000000 in
theorem tooMany_no (w : World) (d : Nat) (nm : Value) (fa : Option Addr) (k fc : Nat) (hA : At w d [] [nm, .slice none 0 0, .slice none 0 0, .slice none 0 0, .slice none 0 0, .slice fa k fc] [] 59) (hk : k ≤ 32) : Calls Try.prog 40 #[.pointer (some ⟨d, 0, none⟩)] w (Pu (.bool false) w) := by
  have c1 := at_cells hA (j := 1) (v := .slice none 0 0) rfl
  have c2 := at_cells hA (j := 2) (v := .slice none 0 0) rfl
  have c3 := at_cells hA (j := 3) (v := .slice none 0 0) rfl
  have c4 := at_cells hA (j := 4) (v := .slice none 0 0) rfl
  have c5 := at_cells hA (j := 5) (v := .slice fa k fc) rfl
  have hk' : ¬ (32 : Int) < (k : Int) := by omega
  clear hA hk
  go_enter Try.func40, Try.ntmps40
  go_wp2
  go_ret
  exact ⟨rfl, rfl⟩
/-- The module's name is set in the reader. -/
theorem dis_mod {w : World} {rb : Nat} {m : List UInt8} {tv : Value} {st : Option (Nat × Nat)} (h : DIs w rb m tv st) (x : List UInt8) : DIs (w.setCell ⟨rb, 0, none⟩ (.string (str x))) rb x tv st := heap_setCell_same w rb 0 _ _ _ h
theorem DS.name {F : Nat → Prop} {rb : Nat} {m x : List UInt8} {tv : Value} {st : Option (Nat × Nat)} {n : Nat} {xs X Z : List Value} {T : Nat} {w W : World} (h : DS F rb m tv st n xs X Z T w W) : DS F rb x tv st n xs X Z T w (W.setCell ⟨rb, 0, none⟩ (.string (str x))) := by
  have hr := h.hrb
  have hK : Kept (fun b => b = rb) W (W.setCell ⟨rb, 0, none⟩ (.string (str x))) := (Kept.refl (fun b => b = rb) W).setCell (p := ⟨rb, 0, none⟩) (fun _ => rfl) _
  refine ⟨dis_mod h.rd x, hK.own h.own (fun g e hg => ?_), h.cells.kept hK (fun e => by omega), h.res.kept hK (fun e => by omega), h.ev.trans (hK.mono (fun _ _ e => .inl e) : Ev rb rb W _) (.inl rfl), fun b hb => ?_, h.hT, h.hrb, h.hF⟩
  · have := (own_pb h.own g e).1
    omega
  · have := h.hF b hb
    have := h.rd.lt
    rw [hK.block b (by omega) (by omega), h.fr b hb]
theorem ds_mod {F : Nat → Prop} {rb : Nat} {m : List UInt8} {tv : Value} {st : Option (Nat × Nat)} {w : World} (h : DIs w rb m tv st) (ho : w.ownsRow (rb + 1) 72 3 tv 0 []) (hF : ∀ b, F b → b < rb) :
    DS F rb m tv st 0 [] modz modz 59 w ((w.alloc (.cells #[.string ⟨#[]⟩, .slice none 0 0, .slice none 0 0, .slice none 0 0, .slice none 0 0, .slice none 0 0] 59)).alloc (.cells #[.string ⟨#[]⟩, .slice none 0 0, .slice none 0 0, .slice none 0 0, .slice none 0 0, .slice none 0 0] 59)) := by
  have hrb := h.lt
  have hb0 : Below w.heap.size w ((w.alloc (.cells #[.string ⟨#[]⟩, .slice none 0 0, .slice none 0 0, .slice none 0 0, .slice none 0 0, .slice none 0 0] 59)).alloc (.cells #[.string ⟨#[]⟩, .slice none 0 0, .slice none 0 0, .slice none 0 0, .slice none 0 0, .slice none 0 0] 59)) := ((Below.refl _ _).alloc (Nat.le_refl _) _).alloc (by simp) _
  have hA5 : At ((w.alloc (.cells #[.string ⟨#[]⟩, .slice none 0 0, .slice none 0 0, .slice none 0 0, .slice none 0 0, .slice none 0 0] 59)).alloc (.cells #[.string ⟨#[]⟩, .slice none 0 0, .slice none 0 0, .slice none 0 0, .slice none 0 0, .slice none 0 0] 59)) (w.heap.size + 1) [] modz [] 59 := by
    have := at_mod (w.alloc (.cells #[.string ⟨#[]⟩, .slice none 0 0, .slice none 0 0, .slice none 0 0, .slice none 0 0, .slice none 0 0] 59))
    rw [show (w.alloc (.cells #[.string ⟨#[]⟩, .slice none 0 0, .slice none 0 0, .slice none 0 0, .slice none 0 0, .slice none 0 0] 59)).heap.size = w.heap.size + 1 by simp] at this
    exact this
  exact ⟨h.below hb0 hrb, owns_below ho hb0, hA5, (Below.heap_alloc _ _ _ (by simp)).trans (at_mod w), Ev.of_below hb0, fun b hb => hb0.block b (by have := hF b hb; omega), by decide, hrb, hF⟩
def NamesF (m : List UInt8) (t : Tr) (j : Nat) (xs : List Value) : Prop := ∀ i, i < j → ∃ c, funP m (kid t (i + 2)) = .ok c ∧ xs[12 * i]? = some (.string (str c.1))
theorem NamesF.next {m : List UInt8} {t : Tr} {j : Nat} {xs X : List Value} {c : List UInt8 × List (List UInt8 × List UInt8) × List UInt8 × Ex} (h : NamesF m t j xs) (hl : xs.length = j * 12) (hc : funP m (kid t (j + 2)) = .ok c) (hX : X[0]? = some (.string (str c.1))) : NamesF m t (j + 1) (xs ++ X) := by
  intro i hi
  by_cases hj : i < j
  · obtain ⟨c', h1, h2⟩ := h i hj
    exact ⟨c', h1, by rw [List.getElem?_append_left (by omega)]; exact h2⟩
  · obtain rfl : i = j := by omega
    refine ⟨c, hc, ?_⟩
    rw [List.getElem?_append_right (by omega), show 12 * i - xs.length = 0 by omega]
    exact hX
/-- What readModule answers: a module of functions. -/
def ModF (rb : Nat) (m : List UInt8) (st : Option (Nat × Nat)) (t : Tr) (k : Nat) (w : World) (e : Ending) (w' : World) : Prop :=
  ∃ fv xs tv', e = .returned (.agg #[.string (str m), .slice none 0 0, .slice none 0 0, .slice none 0 0, .slice none 0 0, fv]) ∧ fv.oneCell' = true ∧ DIs w' rb m tv' st ∧ w'.ownsRow (rb + 1) 63 12 fv k xs ∧ NamesF m t k xs ∧ Below rb w w'
/-- The answer is laid. -/
theorem mod_end {rb k : Nat} {m : List UInt8} {st : Option (Nat × Nat)} {t : Tr} {tv fv : Value} {xs : List Value} {w W : World} (hrb : rb < w.heap.size) (hsz : w.heap.size ≤ W.heap.size) (hD : DIs W rb m tv st) (hof : W.ownsRow (rb + 1) 63 12 fv k xs) (hN : NamesF m t k xs) (hb : Below rb w W) (hA : At W w.heap.size [] modz [] 59) :
    ModF rb m st t k w (.returned (.agg #[.string (str m), .slice none 0 0, .slice none 0 0, .slice none 0 0, .slice none 0 0, fv])) (W.setRow w.heap.size #[.string (str m), .slice none 0 0, .slice none 0 0, .slice none 0 0, .slice none 0 0, fv]) := by
  have Kr := setRow_kept W w.heap.size #[.string (str m), .slice none 0 0, .slice none 0 0, .slice none 0 0, .slice none 0 0, fv]
  obtain ⟨a, c, hfv⟩ := own_shape hof
  refine ⟨fv, xs, tv, rfl, by rw [hfv]; rfl, hD.kept Kr (fun e => by omega), Kr.own hof (fun g e h => ?_), hN, hb.trans (Kr.below (by omega) (fun x hx e => by omega))⟩
  obtain ⟨_, cur, hc⟩ := own_row hof e
  rw [h] at hc
  exact absurd (two_types hc hA) (by decide)
set_option maxHeartbeats 4000000 in
set_option maxRecDepth 1000000 in
theorem readModule_funs (F : Nat → Prop) (t : Tr) (tg tj : Nat) (w : World) (rb : Nat) (h : DIs w rb [] (.slice none 0 0) none) (hT : PT F w tg tj t) (hF : ∀ b, F b → b < rb) (htx : TxOk t) (hnd : nodes t ≤ 20000) (hh : headX t = moduleK) (hk1 : (kid t 1).kind = 3) (nm : List UInt8) (hnm : (kid t 1).text = nm) (hv : valueR nm = true)
    (k : Nat) (hlen : t.kids.length = k + 3) (hk : k + 1 ≤ 32) (hit : ∀ i, i < k + 1 → itemX (kid t (i + 2)) = funK ∧ ∃ c, funP nm (kid t (i + 2)) = .ok c) :
    Calls Try.prog 20 #[.pointer (some ⟨rb, 0, none⟩), .pointer (some ⟨tg, tj, none⟩)] w (ModF rb nm none t (k + 1) w) := by
  have hrb := h.lt
  have hds := ds_mod (F := F) h (World.ownsRow_nil _ _ _ _) hF
  have hT0 := hT.frame hds.fr
  have hhd := headOf F t tg tj _ hT0
  rw [hh] at hhd
  obtain ⟨hFg, kv, hTw, p0, p1, p2, p3⟩ := hT
  obtain ⟨g1, kc, hkv, hFg1, hkc, hcut⟩ := hTw.cut (by omega)
  have hkid : ∀ i, i < k + 3 → PT F w g1 (i * 4) (kid t i) := by
    intro i hi
    obtain ⟨g2, c2, hk2, hP⟩ := hTw.kid i (by omega)
    rw [hkv] at hk2
    simp only [Value.slice.injEq, Option.some.injEq, Addr.mk.injEq, and_true, true_and] at hk2
    obtain ⟨rfl, rfl⟩ := hk2
    exact hP
  rw [hkv, hlen] at p3
  rw [hlen] at hkc
  have hP1 : PT F w g1 4 (kid t 1) := hkid 1 (by omega)
  have hkt := ((TxOk_iff _).1 htx).2
  have hnk : ∀ i, i < k + 3 → TxOk (kid t i) ∧ nodes (kid t i) ≤ 20000 := fun i hi => by
    have hm := kid_mem (t := t) (i := i) (by omega)
    have := mem_nodes hm
    have := nodes_eq t
    exact ⟨hkt _ hm, by omega⟩
  have ht1 := ((TxOk_iff _).1 (hnk 1 (by omega)).1).1
  have hrn := readName_Val F (kid t 1) g1 4 _ rb [] (.slice none 0 0) none hds.rd (fun e he => by cases he) (hP1.frame hds.fr) hF ht1
  rw [show orE none (suchP valueR (kid t 1)) = none by rw [suchP, hnm, if_pos hv]; rfl, hnm] at hrn
  rw [hnm] at ht1
  obtain ⟨_, kv1, _, r0, _⟩ := hP1
  rw [hk1] at r0
  have b0 := hds.tcell hFg1 r0
  have b3 := hds.tcell hFg p3
  have l1 : (1 : Int) < (k : Int) + 3 := by omega
  have l2 : ¬ (k : Int) + 3 < 2 := by omega
  have l3 : (2 : Int) ≤ (k : Int) + 3 := by omega
  have hkc2 : ¬ kc = 2 := by omega
  have HI : Hid (∀ i, i < k + 1 → itemX (kid t (i + 2)) = funK ∧ ∃ c, funP nm (kid t (i + 2)) = .ok c) := hit
  have HK : Hid (∀ i, i < k + 3 → PT F w g1 (i * 4) (kid t i)) := hkid
  have HN : Hid (∀ i, i < k + 3 → TxOk (kid t i) ∧ nodes (kid t i) ≤ 20000) := hnk
  clear hT0 hTw hcut hkv hkt hit hkid hnk h hh hk1 hnm hv htx hlen r0 p0 p1 p2
  have hhd' : Calls Try.prog 37 #[.pointer (some ⟨tg, tj, none⟩)] ((w.alloc (.cells #[.string ⟨#[]⟩, .slice none 0 0, .slice none 0 0, .slice none 0 0, .slice none 0 0, .slice none 0 0] 59)).alloc (.cells #[.string ⟨#[]⟩, .slice none 0 0, .slice none 0 0, .slice none 0 0, .slice none 0 0, .slice none 0 0] 59)) (Pu (.string ⟨#[109, 111, 100, 117, 108, 101]⟩) ((w.alloc (.cells #[.string ⟨#[]⟩, .slice none 0 0, .slice none 0 0, .slice none 0 0, .slice none 0 0, .slice none 0 0] 59)).alloc (.cells #[.string ⟨#[]⟩, .slice none 0 0, .slice none 0 0, .slice none 0 0, .slice none 0 0, .slice none 0 0] 59))) := hhd
  clear hhd
  go_enter Try.func20, Try.ntmps20
  go_wp2_with fail
  generalize ((w.alloc (.cells #[.string ⟨#[]⟩, .slice none 0 0, .slice none 0 0, .slice none 0 0, .slice none 0 0, .slice none 0 0] 59)).alloc (.cells #[.string ⟨#[]⟩, .slice none 0 0, .slice none 0 0, .slice none 0 0, .slice none 0 0, .slice none 0 0] 59)) = w0 at *
  refine hhd'.mono ?_
  rintro e w1 ⟨rfl, hw1⟩
  obtain rfl := hw1.symm
  clear hhd'
  go_wp2_with fail
  refine hrn.mono ?_
  rintro e w2 ⟨rfl, hD2, hK2⟩
  have hd2 := hds.call hD2 hK2
  obtain ⟨c0, f0⟩ := hd2.cell 0 (v := .string (str [])) rfl
  have hd3 := hd2.set 0 (by decide) (.string (str nm))
  obtain ⟨c1, f1⟩ := hd3.cell 0 (v := .string (str nm)) rfl
  obtain ⟨q0, _, _, _, fz⟩ := hd3.rd.cells
  have fz0 := fz 0
  have hd4 := hd3.name (x := nm)
  have b3' := hd4.tcell hFg p3
  have hs4 := hd4.lt
  clear hrn hD2 hK2 hd2 hd3 hds b0 b3 fz
  go_wp2
  clear c0 f0 c1 f1 q0 fz0 b3'
  generalize (w2.setCell ⟨w.heap.size + 1, 0, none⟩ (.string (str nm))).setCell ⟨rb, 0, none⟩ (.string (str nm)) = w4 at *
  have hb4 : Below rb w w4 := Ev.low hd4.ev (by omega) (fun k hk h => by rcases h with h | h | h <;> omega)
  have hsz4 := hd4.ev.size
  go_loopg [56] (k + 1) (fun gk i wr => ∃ (j : Nat) (tvj fvj : Value) (xs : List Value), gk + j = k + 1 ∧ i = .int .i64 (j : Int) ∧ DIs wr rb nm tvj none ∧ wr.ownsRow (rb + 1) 72 3 tvj 0 [] ∧ At wr (w.heap.size + 1) [] [.string (str nm), .slice none 0 0, .slice none 0 0, .slice none 0 0, .slice none 0 0, fvj] [] 59 ∧ wr.ownsRow (rb + 1) 63 12 fvj j xs ∧ NamesF nm t j xs ∧ At wr w.heap.size [] modz [] 59 ∧ Below rb w wr ∧ w.heap.size + 1 < wr.heap.size)
  case atStart => exact ⟨0, .slice none 0 0, .slice none 0 0, [], by omega, rfl, hd4.rd, World.ownsRow_nil _ _ _ _, hd4.cells, World.ownsRow_nil _ _ _ _, (fun i hi => absurd hi (by omega)), hd4.res, hb4, hs4⟩
  case round =>
    clear hd4 hb4 hsz4 hs4
    obtain ⟨j, tvj, fvj, xs, hg, rfl, hDj, hoj, hAj, hfj, hNj, hRj, hbj, hsj⟩ := hrel
    by_cases hj : j < k + 1
    · have hji : (j : Int) < (k : Int) + 1 := by omega
      obtain ⟨hi1, c, hi2⟩ := HI.out j hj
      have hPj : PT F wr g1 (8 + j * 4) (kid t (j + 2)) := by
        have := HK.out (j + 2) (by omega)
        rw [show (j + 2) * 4 = 8 + j * 4 by omega] at this
        exact this.frame (fun b hb => hbj.block b (hF b hb))
      have hri := readItem_fun F (kid t (j + 2)) g1 (8 + j * 4) wr rb (w.heap.size + 1) nm tvj hDj hoj _ _ _ _ _ fvj j xs hAj (by omega) hfj (by omega) hPj hF (HN.out (j + 2) (by omega)).1 (HN.out (j + 2) (by omega)).2 ht1 hi1 c hi2
      have HC : Hid (funP nm (kid t (j + 2)) = .ok c) := hi2
      have hxl := hfj.1
      clear hDj hoj hAj hfj hPj hi1 hi2
      go_wp2_with fail
      refine hri.mono ?_
      rintro e w5 ⟨rfl, tv', fv', X, hD5, ho5, hA5, hf5, hX0, hXl, hb5, hs5⟩
      have hR5 : At w5 w.heap.size [] modz [] 59 := hs5 w.heap.size _ _ hRj (by decide) (by decide) (by omega) (by omega)
      have hsz5 := hA5.lt
      clear hri hs5
      go_wp2
      go_roundg (k + 1 - (j + 1))
      case measure => omega
      case rel => exact ⟨j + 1, tv', fv', xs ++ X, by omega, by go_num, hD5, ho5, hA5, hf5, hNj.next hxl HC.out hX0, hR5, hbj.trans hb5, hsz5⟩
    · obtain rfl : j = k + 1 := by omega
      have hji : ¬ ((k + 1 : Nat) : Int) < (k : Int) + 1 := by omega
      obtain ⟨fa, fc, rfl⟩ := own_shape hfj
      have htm := tooMany_no wr (w.heap.size + 1) _ fa (k + 1) fc hAj hk
      have hQ := mod_end (t := t) hrb (by omega) hDj hfj hNj hbj hRj
      have hrow : wr.heap[w.heap.size + 1]? = some (.cells #[.string (str nm), .slice none 0 0, .slice none 0 0, .slice none 0 0, .slice none 0 0, .slice fa (k + 1) fc] 59 (0, 0)) := by simpa [At] using hAj
      have hres : wr.heap[w.heap.size]? = some (.cells modz.toArray 59 (0, 0)) := by simpa [At] using hRj
      clear hDj hoj hAj hfj hNj hRj hbj
      go_wp2_with fail
      refine htm.mono ?_
      rintro e w5 ⟨rfl, hw5⟩
      obtain rfl := hw5.symm
      clear htm
      go_wp2_with (first
        | (refine wpList_load_row rfl 59 (.tmp 5) rfl (w.heap.size + 1) rfl 59 #[.string (str nm), .slice none 0 0, .slice none 0 0, .slice none 0 0, .slice none 0 0, .slice fa (k + 1) fc] (0, 0) _ hrow Try.underlying59 rfl sizeMod ?_)
        | (refine wpList_store_row rfl 59 (.tmp 4) (.tmp 68) rfl w.heap.size #[.string (str nm), .slice none 0 0, .slice none 0 0, .slice none 0 0, .slice none 0 0, .slice fa (k + 1) fc] rfl rfl 59 modz.toArray hres sizeMod rfl (by first | kernel_rfl | rfl | simp [Value.oneCell']) ?_))
      (try simp only [Exit.inBlock, Exit.then])
      refine bodyPost_ret (results_cell_row rfl _ _ w.heap.size 59 #[.string (str nm), .slice none 0 0, .slice none 0 0, .slice none 0 0, .slice none 0 0, .slice fa (k + 1) fc] (0, 0) _ rfl (setRow_heap wr w.heap.size _ _ 59 (0, 0) hres) Try.underlying59 rfl sizeMod) rfl ?_
      exact hQ
end Go.Proofs.Ytchfhkfepghfjaa

namespace Go.Proofs.Ytchfhkfepghfjaa
open Go.RowKit

theorem box_set9 {w : World} {b : Nat} {z0 z1 z2 z3 z4 z5 z6 z7 z8 : Value} {e : TypeId} (h : w.heap[b]? = some (.cells #[z0, z1, z2, z3, z4, z5, z6, z7, z8] e (0, 0))) (a0 a1 a2 a3 a4 a5 a6 a7 a8 : Value) : (((((((((w.setCell ⟨b, 0, none⟩ a0).setCell ⟨b, 1, none⟩ a1).setCell ⟨b, 2, none⟩ a2).setCell ⟨b, 3, none⟩ a3).setCell ⟨b, 4, none⟩ a4).setCell ⟨b, 5, none⟩ a5).setCell ⟨b, 6, none⟩ a6).setCell ⟨b, 7, none⟩ a7).setCell ⟨b, 8, none⟩ a8).heap[b]? = some (.cells #[a0, a1, a2, a3, a4, a5, a6, a7, a8] e (0, 0)) := by
  have h0 : (w.setCell ⟨b, 0, none⟩ a0).heap[b]? = some (.cells #[a0, z1, z2, z3, z4, z5, z6, z7, z8] e (0, 0)) := heap_setCell_same _ b 0 #[z0, z1, z2, z3, z4, z5, z6, z7, z8] e a0 h
  have h1 : ((w.setCell ⟨b, 0, none⟩ a0).setCell ⟨b, 1, none⟩ a1).heap[b]? = some (.cells #[a0, a1, z2, z3, z4, z5, z6, z7, z8] e (0, 0)) := heap_setCell_same _ b 1 #[a0, z1, z2, z3, z4, z5, z6, z7, z8] e a1 h0
  have h2 : (((w.setCell ⟨b, 0, none⟩ a0).setCell ⟨b, 1, none⟩ a1).setCell ⟨b, 2, none⟩ a2).heap[b]? = some (.cells #[a0, a1, a2, z3, z4, z5, z6, z7, z8] e (0, 0)) := heap_setCell_same _ b 2 #[a0, a1, z2, z3, z4, z5, z6, z7, z8] e a2 h1
  have h3 : ((((w.setCell ⟨b, 0, none⟩ a0).setCell ⟨b, 1, none⟩ a1).setCell ⟨b, 2, none⟩ a2).setCell ⟨b, 3, none⟩ a3).heap[b]? = some (.cells #[a0, a1, a2, a3, z4, z5, z6, z7, z8] e (0, 0)) := heap_setCell_same _ b 3 #[a0, a1, a2, z3, z4, z5, z6, z7, z8] e a3 h2
  have h4 : (((((w.setCell ⟨b, 0, none⟩ a0).setCell ⟨b, 1, none⟩ a1).setCell ⟨b, 2, none⟩ a2).setCell ⟨b, 3, none⟩ a3).setCell ⟨b, 4, none⟩ a4).heap[b]? = some (.cells #[a0, a1, a2, a3, a4, z5, z6, z7, z8] e (0, 0)) := heap_setCell_same _ b 4 #[a0, a1, a2, a3, z4, z5, z6, z7, z8] e a4 h3
  have h5 : ((((((w.setCell ⟨b, 0, none⟩ a0).setCell ⟨b, 1, none⟩ a1).setCell ⟨b, 2, none⟩ a2).setCell ⟨b, 3, none⟩ a3).setCell ⟨b, 4, none⟩ a4).setCell ⟨b, 5, none⟩ a5).heap[b]? = some (.cells #[a0, a1, a2, a3, a4, a5, z6, z7, z8] e (0, 0)) := heap_setCell_same _ b 5 #[a0, a1, a2, a3, a4, z5, z6, z7, z8] e a5 h4
  have h6 : (((((((w.setCell ⟨b, 0, none⟩ a0).setCell ⟨b, 1, none⟩ a1).setCell ⟨b, 2, none⟩ a2).setCell ⟨b, 3, none⟩ a3).setCell ⟨b, 4, none⟩ a4).setCell ⟨b, 5, none⟩ a5).setCell ⟨b, 6, none⟩ a6).heap[b]? = some (.cells #[a0, a1, a2, a3, a4, a5, a6, z7, z8] e (0, 0)) := heap_setCell_same _ b 6 #[a0, a1, a2, a3, a4, a5, z6, z7, z8] e a6 h5
  have h7 : ((((((((w.setCell ⟨b, 0, none⟩ a0).setCell ⟨b, 1, none⟩ a1).setCell ⟨b, 2, none⟩ a2).setCell ⟨b, 3, none⟩ a3).setCell ⟨b, 4, none⟩ a4).setCell ⟨b, 5, none⟩ a5).setCell ⟨b, 6, none⟩ a6).setCell ⟨b, 7, none⟩ a7).heap[b]? = some (.cells #[a0, a1, a2, a3, a4, a5, a6, a7, z8] e (0, 0)) := heap_setCell_same _ b 7 #[a0, a1, a2, a3, a4, a5, a6, z7, z8] e a7 h6
  have h8 : (((((((((w.setCell ⟨b, 0, none⟩ a0).setCell ⟨b, 1, none⟩ a1).setCell ⟨b, 2, none⟩ a2).setCell ⟨b, 3, none⟩ a3).setCell ⟨b, 4, none⟩ a4).setCell ⟨b, 5, none⟩ a5).setCell ⟨b, 6, none⟩ a6).setCell ⟨b, 7, none⟩ a7).setCell ⟨b, 8, none⟩ a8).heap[b]? = some (.cells #[a0, a1, a2, a3, a4, a5, a6, a7, a8] e (0, 0)) := heap_setCell_same _ b 8 #[a0, a1, a2, a3, a4, a5, a6, a7, z8] e a8 h7
  exact h8
theorem box_kept9 {w w0 : World} {b : Nat} (h : Kept (fun k => k = b) w0 w) (a0 a1 a2 a3 a4 a5 a6 a7 a8 : Value) : Kept (fun k => k = b) w0 (((((((((w.setCell ⟨b, 0, none⟩ a0).setCell ⟨b, 1, none⟩ a1).setCell ⟨b, 2, none⟩ a2).setCell ⟨b, 3, none⟩ a3).setCell ⟨b, 4, none⟩ a4).setCell ⟨b, 5, none⟩ a5).setCell ⟨b, 6, none⟩ a6).setCell ⟨b, 7, none⟩ a7).setCell ⟨b, 8, none⟩ a8) :=
  (((((((((h.setCell (p := ⟨b, 0, none⟩) (fun _ => rfl) a0).setCell (p := ⟨b, 1, none⟩) (fun _ => rfl) a1).setCell (p := ⟨b, 2, none⟩) (fun _ => rfl) a2).setCell (p := ⟨b, 3, none⟩) (fun _ => rfl) a3).setCell (p := ⟨b, 4, none⟩) (fun _ => rfl) a4).setCell (p := ⟨b, 5, none⟩) (fun _ => rfl) a5).setCell (p := ⟨b, 6, none⟩) (fun _ => rfl) a6).setCell (p := ⟨b, 7, none⟩) (fun _ => rfl) a7).setCell (p := ⟨b, 8, none⟩) (fun _ => rfl) a8)
/-- What Expr answers. -/
theorem step_store_row {P : Program} {ops : Array Oper} {o : Oper} {a : Act} {w : World} {K : Act → World → Prop} {Q : Exit → Act → World → Prop} {E : Prop} (hgd : o.guard = none) (ty : TypeId) (x y : Operand) (ho : o.op = .store ty x y)
    (g : Nat) (cells : Array Value) (hx : a.eval x = .pointer (some ⟨g, 0, none⟩)) (hy : a.eval y = .agg cells)
    (t : TypeId) (old : Array Value) (hg : w.heap[g]? = some (.cells old t (0, 0))) (hi : (P.info? ty).map (·.size) = some cells.size)
    (hold : old.size = cells.size) (h1 : cells.all (·.oneCell') = true)
    (h : K (a.put o.dst undef) (w.setRow g cells)) : if Region.wanted o (yielded ops a.tmps) = true then o.wp P a w K Q else E := by
  have hw : Region.wanted o (yielded ops a.tmps) = true := by simp [Region.wanted, hgd]
  rw [if_pos hw]
  exact wp_store_row ty x y ho g cells hx hy t old hg hi hold h1 h
def ExprE (r : PR Ex) (w : World) (e : Ending) (w' : World) : Prop :=
  (match r with
  | .ok x => ∃ kv pv av, e = .returned (.tuple #[.agg (exc x kv pv av).toArray, .int .i64 0, .int .i64 0]) ∧ XI (fun k => w.heap.size ≤ k ∧ k < w'.heap.size) w' kv pv av x
  | .error (y, b) => e = .returned (.tuple #[.agg zeroL, .int .i64 (y : Int), .int .i64 (b : Int)])) ∧ Below w.heap.size w w'
theorem exprE_ok {r : PR Ex} {x : Ex} {w w' : World} {kv pv av : Value} {Xa : Array Value} (h : r = .ok x) (hX : Xa = (exc x kv pv av).toArray) (hx : XI (fun k => w.heap.size ≤ k ∧ k < w'.heap.size) w' kv pv av x) (hb : Below w.heap.size w w') : ExprE r w (.returned (.tuple #[.agg Xa, .int .i64 0, .int .i64 0])) w' := by
  subst h hX
  exact ⟨⟨kv, pv, av, rfl, hx⟩, hb⟩
theorem exprE_no {r : PR Ex} {y b : Nat} {z c : Int} {w w' : World} {Xa : Array Value} (h : r = .error (y, b)) (hz : z = (y : Int)) (hc : c = (b : Int)) (hX : Xa = zeroL) (hb : Below w.heap.size w w') : ExprE r w (.returned (.tuple #[.agg Xa, .int .i64 z, .int .i64 c])) w' := by
  subst h hz hc hX
  exact ⟨rfl, hb⟩
theorem ev_below {rb : Nat} {w0 w w' : World} (hb : Below w0.heap.size w0 w) (hE : Ev rb rb w w') (hr : w0.heap.size ≤ rb) : Below w0.heap.size w0 w' := by
  have hs := hb.size
  have hl := hE.low hs (fun k hk hs => by rcases hs with e | ⟨e, _⟩ | e <;> omega)
  exact hb.trans hl
set_option maxHeartbeats 2000000 in
set_option maxRecDepth 1000000 in
theorem exprOf_ok (F : Nat → Prop) (t : Tr) (kv : Value) (m : List UInt8) (w : World) (hF : ∀ g, F g → g < w.heap.size) (hT : TL F w kv t.kids) (htx : TxOk t) (hnd : nodes t ≤ 20000) (hm : m.length ≤ 8192) (x : Ex) (hr : exprP m t = .ok x) :
    Calls Try.prog 6 #[trv t kv, .string (str m)] w (ExprE (exprP m t) w) := by
  unfold trv
  have hb3 : Below w.heap.size w (((w.alloc (.cells #[.int .i64 (t.kind : Int), .int .i64 (t.place : Int), .string (str t.text), kv] 27)).alloc (.cells #[.int .i64 0, .int .i64 0, .string ⟨#[]⟩, .complex .f64 0 0, .string ⟨#[]⟩, .string ⟨#[]⟩, .slice none 0 0, .slice none 0 0, .slice none 0 0] 36)).alloc (.cells #[.string (str m), .slice none 0 0, .int .i64 0, .int .i64 0] 51)) := (((Below.refl _ _).alloc (Nat.le_refl _) _).alloc (by simp) _).alloc (by simp; omega) _
  have hc := cells_new w [.int .i64 (t.kind : Int), .int .i64 (t.place : Int), .string (str t.text), kv] 27
  have hs1 : (w.alloc (.cells #[.int .i64 (t.kind : Int), .int .i64 (t.place : Int), .string (str t.text), kv] 27)).heap.size = w.heap.size + 1 := by simp
  have hs2 : ((w.alloc (.cells #[.int .i64 (t.kind : Int), .int .i64 (t.place : Int), .string (str t.text), kv] 27)).alloc (.cells #[.int .i64 0, .int .i64 0, .string ⟨#[]⟩, .complex .f64 0 0, .string ⟨#[]⟩, .string ⟨#[]⟩, .slice none 0 0, .slice none 0 0, .slice none 0 0] 36)).heap.size = w.heap.size + 2 := by simp
  have HS3 : Hid ((((w.alloc (.cells #[.int .i64 (t.kind : Int), .int .i64 (t.place : Int), .string (str t.text), kv] 27)).alloc (.cells #[.int .i64 0, .int .i64 0, .string ⟨#[]⟩, .complex .f64 0 0, .string ⟨#[]⟩, .string ⟨#[]⟩, .slice none 0 0, .slice none 0 0, .slice none 0 0] 36)).alloc (.cells #[.string (str m), .slice none 0 0, .int .i64 0, .int .i64 0] 51)).heap.size = w.heap.size + 3) := by rw [hid_iff]; simp
  have hb1 : Below (w.alloc (.cells #[.int .i64 (t.kind : Int), .int .i64 (t.place : Int), .string (str t.text), kv] 27)).heap.size (w.alloc (.cells #[.int .i64 (t.kind : Int), .int .i64 (t.place : Int), .string (str t.text), kv] 27)) (((w.alloc (.cells #[.int .i64 (t.kind : Int), .int .i64 (t.place : Int), .string (str t.text), kv] 27)).alloc (.cells #[.int .i64 0, .int .i64 0, .string ⟨#[]⟩, .complex .f64 0 0, .string ⟨#[]⟩, .string ⟨#[]⟩, .slice none 0 0, .slice none 0 0, .slice none 0 0] 36)).alloc (.cells #[.string (str m), .slice none 0 0, .int .i64 0, .int .i64 0] 51)) := ((Below.refl _ _).alloc (Nat.le_refl _) _).alloc (by simp) _
  have hP : PT (fun g => F g ∨ g = w.heap.size) (((w.alloc (.cells #[.int .i64 (t.kind : Int), .int .i64 (t.place : Int), .string (str t.text), kv] 27)).alloc (.cells #[.int .i64 0, .int .i64 0, .string ⟨#[]⟩, .complex .f64 0 0, .string ⟨#[]⟩, .string ⟨#[]⟩, .slice none 0 0, .slice none 0 0, .slice none 0 0] 36)).alloc (.cells #[.string (str m), .slice none 0 0, .int .i64 0, .int .i64 0] 51)) w.heap.size 0 t := by
    have hT1 : TL (fun g => F g ∨ g = w.heap.size) (w.alloc (.cells #[.int .i64 (t.kind : Int), .int .i64 (t.place : Int), .string (str t.text), kv] 27)) kv t.kids := hT.frame fun g hg => ⟨.inl hg, Below.heap_alloc _ _ _ (hF g hg)⟩
    have hP0 : PT (fun g => F g ∨ g = w.heap.size) (w.alloc (.cells #[.int .i64 (t.kind : Int), .int .i64 (t.place : Int), .string (str t.text), kv] 27)) w.heap.size 0 t := ⟨.inr rfl, kv, hT1, by rw [← hc 0 _ rfl, add_at], by rw [← hc 1 _ rfl, add_at], by rw [← hc 2 _ rfl, add_at], by rw [← hc 3 _ rfl, add_at]⟩
    exact hP0.below hb1 (fun g hg => by rw [hs1]; rcases hg with hg | hg; have := hF g hg; omega; omega)
  have hD : DIs (((w.alloc (.cells #[.int .i64 (t.kind : Int), .int .i64 (t.place : Int), .string (str t.text), kv] 27)).alloc (.cells #[.int .i64 0, .int .i64 0, .string ⟨#[]⟩, .complex .f64 0 0, .string ⟨#[]⟩, .string ⟨#[]⟩, .slice none 0 0, .slice none 0 0, .slice none 0 0] 36)).alloc (.cells #[.string (str m), .slice none 0 0, .int .i64 0, .int .i64 0] 51)) (w.heap.size + 2) m (.slice none 0 0) none := by
    have := heap_alloc_new ((w.alloc (.cells #[.int .i64 (t.kind : Int), .int .i64 (t.place : Int), .string (str t.text), kv] 27)).alloc (.cells #[.int .i64 0, .int .i64 0, .string ⟨#[]⟩, .complex .f64 0 0, .string ⟨#[]⟩, .string ⟨#[]⟩, .slice none 0 0, .slice none 0 0, .slice none 0 0] 36)) (.cells #[.string (str m), .slice none 0 0, .int .i64 0, .int .i64 0] 51)
    rw [hs2] at this
    exact this
  have hA4 : At (((w.alloc (.cells #[.int .i64 (t.kind : Int), .int .i64 (t.place : Int), .string (str t.text), kv] 27)).alloc (.cells #[.int .i64 0, .int .i64 0, .string ⟨#[]⟩, .complex .f64 0 0, .string ⟨#[]⟩, .string ⟨#[]⟩, .slice none 0 0, .slice none 0 0, .slice none 0 0] 36)).alloc (.cells #[.string (str m), .slice none 0 0, .int .i64 0, .int .i64 0] 51)) (w.heap.size + 1) [] exz [] 36 := by
    have h0 := at_zero (w.alloc (.cells #[.int .i64 (t.kind : Int), .int .i64 (t.place : Int), .string (str t.text), kv] 27))
    rw [hs1] at h0
    exact (Below.heap_alloc ((w.alloc (.cells #[.int .i64 (t.kind : Int), .int .i64 (t.place : Int), .string (str t.text), kv] 27)).alloc (.cells #[.int .i64 0, .int .i64 0, .string ⟨#[]⟩, .complex .f64 0 0, .string ⟨#[]⟩, .string ⟨#[]⟩, .slice none 0 0, .slice none 0 0, .slice none 0 0] 36)) (.cells #[.string (str m), .slice none 0 0, .int .i64 0, .int .i64 0] 51) (w.heap.size + 1) (by rw [hs2]; omega)).trans h0
  have hre := readExpr (fun g => F g ∨ g = w.heap.size) t w.heap.size 0 (((w.alloc (.cells #[.int .i64 (t.kind : Int), .int .i64 (t.place : Int), .string (str t.text), kv] 27)).alloc (.cells #[.int .i64 0, .int .i64 0, .string ⟨#[]⟩, .complex .f64 0 0, .string ⟨#[]⟩, .string ⟨#[]⟩, .slice none 0 0, .slice none 0 0, .slice none 0 0] 36)).alloc (.cells #[.string (str m), .slice none 0 0, .int .i64 0, .int .i64 0] 51)) (w.heap.size + 2) m (.slice none 0 0) hD (World.ownsRow_nil _ _ _ _) hP (fun b hb => by rcases hb with hb | hb; have := hF b hb; omega; omega) htx hnd hm 20000 (Nat.le_refl _)
  clear hc hs1 hs2 hb1 hP hD hT
  go_enter Try.func6, Try.ntmps6
  go_wp2_with fail
  refine hre.mono ?_
  rintro e w4 ⟨X, tv', n, xs, rfl, hX9, hD4, hown, hn, hE4, hok⟩
  have hs4 := hE4.size
  rw [HS3.out] at hs4
  have hA5 := hA4.ev hE4 (by decide) (by omega) (by omega)
  have hb4 := ev_below hb3 hE4 (by omega)
  have h8 := at_zero w4
  have h8' : (w4.alloc (.cells #[.int .i64 0, .int .i64 0, .string ⟨#[]⟩, .complex .f64 0 0, .string ⟨#[]⟩, .string ⟨#[]⟩, .slice none 0 0, .slice none 0 0, .slice none 0 0] 36)).heap[w4.heap.size]? = some (.cells exz.toArray 36 (0, 0)) := by
    unfold At at h8
    rwa [List.nil_append, List.append_nil] at h8
  have hsz : exz.toArray.size = X.toArray.size := by rw [List.size_toArray, List.size_toArray, hX9.1]; rfl
  have hall : X.toArray.all (fun v => v.oneCell') = true := by simpa using hX9.2
  have h9 := arr9 hX9
  clear hre h8 hb3 hA4
  have HS4 : Hid (w.heap.size + 3 ≤ w4.heap.size) := hs4
  have K8 := setRow_kept (w4.alloc (.cells #[.int .i64 0, .int .i64 0, .string ⟨#[]⟩, .complex .f64 0 0, .string ⟨#[]⟩, .string ⟨#[]⟩, .slice none 0 0, .slice none 0 0, .slice none 0 0] 36)) w4.heap.size X.toArray
  have hbl8 : Below w4.heap.size w4 (w4.alloc (.cells #[.int .i64 0, .int .i64 0, .string ⟨#[]⟩, .complex .f64 0 0, .string ⟨#[]⟩, .string ⟨#[]⟩, .slice none 0 0, .slice none 0 0, .slice none 0 0] 36)) := (Below.refl _ _).alloc (Nat.le_refl _) _
  have hD8 : DIs ((w4.alloc (.cells #[.int .i64 0, .int .i64 0, .string ⟨#[]⟩, .complex .f64 0 0, .string ⟨#[]⟩, .string ⟨#[]⟩, .slice none 0 0, .slice none 0 0, .slice none 0 0] 36)).setRow w4.heap.size X.toArray) (w.heap.size + 2) m tv' (orE none (exprP m t)) := (hD4.below hbl8 hD4.lt).kept K8 (fun e => by omega)
  have hA8 : At ((w4.alloc (.cells #[.int .i64 0, .int .i64 0, .string ⟨#[]⟩, .complex .f64 0 0, .string ⟨#[]⟩, .string ⟨#[]⟩, .slice none 0 0, .slice none 0 0, .slice none 0 0] 36)).setRow w4.heap.size X.toArray) (w.heap.size + 1) [] exz [] 36 := At.kept ((hbl8.block _ hA5.lt).trans hA5) K8 (fun e => by omega)
  have hrow8 := setRow_heap (w4.alloc (.cells #[.int .i64 0, .int .i64 0, .string ⟨#[]⟩, .complex .f64 0 0, .string ⟨#[]⟩, .string ⟨#[]⟩, .slice none 0 0, .slice none 0 0, .slice none 0 0] 36)) w4.heap.size _ X.toArray 36 (0, 0) h8'
  have hb8 : Below w.heap.size w ((w4.alloc (.cells #[.int .i64 0, .int .i64 0, .string ⟨#[]⟩, .complex .f64 0 0, .string ⟨#[]⟩, .string ⟨#[]⟩, .slice none 0 0, .slice none 0 0, .slice none 0 0] 36)).setRow w4.heap.size X.toArray) := (hb4.alloc (by omega) _).trans (K8.below (by simp; omega) (fun k hk e => by omega))
  have HX8 : Hid (∀ x, exprP m t = .ok x → ∃ kv pv av, X = exc x kv pv av ∧ XI (fun k => w.heap.size + 3 ≤ k ∧ k < w4.heap.size) ((w4.alloc (.cells #[.int .i64 0, .int .i64 0, .string ⟨#[]⟩, .complex .f64 0 0, .string ⟨#[]⟩, .string ⟨#[]⟩, .slice none 0 0, .slice none 0 0, .slice none 0 0] 36)).setRow w4.heap.size X.toArray) kv pv av x) := by
    rw [hid_iff]
    intro x hx
    obtain ⟨_, kv, pv, av, e1, e2⟩ := hok rfl x hx
    refine ⟨kv, pv, av, e1, e2.frame fun g hg => ?_⟩
    have hg1 := hg.1
    rw [HS3.out] at hg1
    refine ⟨⟨hg1, hg.2.1⟩, ?_⟩
    rw [K8.block g (by simp; have := hg.2.1; omega) (by have := hg.2.1; omega), hbl8.block g hg.2.1]
  have HSZ : Hid (((w4.alloc (.cells #[.int .i64 0, .int .i64 0, .string ⟨#[]⟩, .complex .f64 0 0, .string ⟨#[]⟩, .string ⟨#[]⟩, .slice none 0 0, .slice none 0 0, .slice none 0 0] 36)).setRow w4.heap.size X.toArray).heap.size = w4.heap.size + 1) := by rw [hid_iff]; simp [World.setRow]
  clear hA5 hD4 hown hE4 hok hX9 hb4 hbl8 K8 hs4 HS3
  have hD8' : DIs ((w4.alloc (.cells #[.int .i64 0, .int .i64 0, .string ⟨#[]⟩, .complex .f64 0 0, .string ⟨#[]⟩, .string ⟨#[]⟩, .slice none 0 0, .slice none 0 0, .slice none 0 0] 36)).setRow w4.heap.size X.toArray) (w.heap.size + 1 + 1) m tv' (orE none (exprP m t)) := hD8
  obtain ⟨q0, q1, q2, q3, fz⟩ := hD8'.cells
  have hA8' : ((w4.alloc (.cells #[.int .i64 0, .int .i64 0, .string ⟨#[]⟩, .complex .f64 0 0, .string ⟨#[]⟩, .string ⟨#[]⟩, .slice none 0 0, .slice none 0 0, .slice none 0 0] 36)).setRow w4.heap.size X.toArray).heap[w.heap.size + 1]? = some (.cells exz.toArray 36 (0, 0)) := by
    unfold At at hA8
    rwa [List.nil_append, List.append_nil] at hA8
  clear hD8 hD8' q0 q1 fz hA8
  rw [hr] at q2 q3
  obtain ⟨kv1, pv1, av1, hXe, hXI⟩ := HX8.out x hr
  have HR : Hid (exprP m t = .ok x) := hr
  have HXe : Hid (X = exc x kv1 pv1 av1) := hXe
  clear hr hXe HX8
  go_wp2_with (first
    | (refine wpList_store_row rfl 36 (.tmp 8) (.tmp 11) rfl w4.heap.size X.toArray rfl rfl 36 exz.toArray h8' h9 hsz hall ?_; generalize (w4.alloc (.cells #[.int .i64 0, .int .i64 0, .string ⟨#[]⟩, .complex .f64 0 0, .string ⟨#[]⟩, .string ⟨#[]⟩, .slice none 0 0, .slice none 0 0, .slice none 0 0] 36)).setRow w4.heap.size X.toArray = w8 at *)
    | (refine wpList_load_row rfl 36 (.tmp 8) rfl w4.heap.size rfl 36 X.toArray (0, 0) _ hrow8 Try.underlying36 rfl h9 ?_)
    | (refine wpList_store_row rfl 36 (.tmp 4) (.tmp 20) rfl (w.heap.size + 1) X.toArray rfl rfl 36 exz.toArray hA8' h9 hsz hall ?_))
  (try simp only [Exit.inBlock, Exit.then])
  refine bodyPost_ret (res_cell3 rfl _ _ (w.heap.size + 1) 36 X.toArray (0, 0) _ rfl (setRow_heap w8 (w.heap.size + 1) _ _ 36 (0, 0) hA8') Try.underlying36 rfl h9) rfl ?_
  have K9 := setRow_kept w8 (w.heap.size + 1) X.toArray
  have hz9 := K9.size
  have hz8 := HSZ.out
  have hz4 := HS4.out
  refine exprE_ok (kv := kv1) (pv := pv1) (av := av1) HR.out (by rw [HXe.out]) (hXI.frame fun g hg => ⟨⟨by omega, by omega⟩, K9.block g (by omega) (by omega)⟩) (hb8.trans (K9.below (by omega) (fun k hk e => by omega)))
end Go.Proofs.Ytchfhkfepghfjaa
