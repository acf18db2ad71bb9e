/-
  The package's Module where all items are functions; where the name is none and nothing follows.
  And: The package's Module where the name is refused.
-/
import Derived.Test.YtchfhkfepghfjaaPfBe
namespace Go.Proofs.Ytchfhkfepghfjaa
open Go.RowKit

set_option maxHeartbeats 4000000 in
set_option maxRecDepth 1000000 in
theorem readModule_none (F : Nat → Prop) (t : Tr) (tg tj : Nat) (w : World) (rb : Nat) (h : DIs w rb [] (.slice none 0 0) none) (hT : PT F w tg tj t) (hF : ∀ b, F b → b < rb) (htx : TxOk t) (hh : headX t = moduleK) (hk1 : (kid t 1).kind = 3) (nm : List UInt8) (hnm : (kid t 1).text = nm) (hlen : t.kids.length = 2) :
    Calls Try.prog 20 #[.pointer (some ⟨rb, 0, none⟩), .pointer (some ⟨tg, tj, none⟩)] w (ModF rb nm (orE none (suchP valueR (kid t 1))) t 0 w) := by
  have hrb := h.lt
  have hds := ds_mod (F := F) h (World.ownsRow_nil _ _ _ _) hF
  have hT0 := hT.frame hds.fr
  have hhd := headOf F t tg tj _ hT0
  rw [hh] at hhd
  obtain ⟨hFg, kv, hTw, p0, p1, p2, p3⟩ := hT
  obtain ⟨g1, kc, hkv, hFg1, hkc, hcut⟩ := hTw.cut (by omega)
  have hP1 : PT F w g1 4 (kid t 1) := by
    obtain ⟨g2, c2, hk2, hP⟩ := hTw.kid 1 (by omega)
    rw [hkv] at hk2
    simp only [Value.slice.injEq, Option.some.injEq, Addr.mk.injEq, and_true, true_and] at hk2
    obtain ⟨rfl, rfl⟩ := hk2
    exact hP
  rw [hkv, hlen] at p3
  rw [hlen] at hkc
  have hkt := ((TxOk_iff _).1 htx).2
  have ht1 := ((TxOk_iff _).1 (hkt _ (kid_mem (t := t) (i := 1) (by omega)))).1
  have hrn := readName_Val F (kid t 1) g1 4 _ rb [] (.slice none 0 0) none hds.rd (fun e he => by cases he) (hP1.frame hds.fr) hF ht1
  rw [hnm] at hrn
  have hsw : Sw (orE none (suchP valueR (kid t 1))) := sw_orE (fun e he => by cases he) (fun e he => suchP_err he)
  generalize orE none (suchP valueR (kid t 1)) = st at *
  obtain ⟨_, kv1, _, r0, _⟩ := hP1
  rw [hk1] at r0
  have b0 := hds.tcell hFg1 r0
  have b3 := hds.tcell hFg p3
  have hhd' : Calls Try.prog 37 #[.pointer (some ⟨tg, tj, none⟩)] ((w.alloc (.cells #[.string ⟨#[]⟩, .slice none 0 0, .slice none 0 0, .slice none 0 0, .slice none 0 0, .slice none 0 0] 59)).alloc (.cells #[.string ⟨#[]⟩, .slice none 0 0, .slice none 0 0, .slice none 0 0, .slice none 0 0, .slice none 0 0] 59)) (Pu (.string ⟨#[109, 111, 100, 117, 108, 101]⟩) ((w.alloc (.cells #[.string ⟨#[]⟩, .slice none 0 0, .slice none 0 0, .slice none 0 0, .slice none 0 0, .slice none 0 0] 59)).alloc (.cells #[.string ⟨#[]⟩, .slice none 0 0, .slice none 0 0, .slice none 0 0, .slice none 0 0, .slice none 0 0] 59))) := hhd
  clear hT0 hTw hcut hkv hkt h hh hk1 hnm htx hlen r0 p0 p1 p2 hhd ht1 hsw
  by_cases hkc2 : kc = 2
  all_goals (
    (try subst hkc2)
    go_enter Try.func20, Try.ntmps20
    go_wp2_with fail
    generalize ((w.alloc (.cells #[.string ⟨#[]⟩, .slice none 0 0, .slice none 0 0, .slice none 0 0, .slice none 0 0, .slice none 0 0] 59)).alloc (.cells #[.string ⟨#[]⟩, .slice none 0 0, .slice none 0 0, .slice none 0 0, .slice none 0 0, .slice none 0 0] 59)) = w0 at *
    refine hhd'.mono ?_
    rintro e w1 ⟨rfl, hw1⟩
    obtain rfl := hw1.symm
    clear hhd'
    go_wp2_with fail
    refine hrn.mono ?_
    rintro e w2 ⟨rfl, hD2, hK2⟩
    have hd2 := hds.call hD2 hK2
    obtain ⟨c0, f0⟩ := hd2.cell 0 (v := .string (str [])) rfl
    have hd3 := hd2.set 0 (by decide) (.string (str nm))
    obtain ⟨c1, f1⟩ := hd3.cell 0 (v := .string (str nm)) rfl
    obtain ⟨q0, _, _, _, fz⟩ := hd3.rd.cells
    have fz0 := fz 0
    have hd4 := hd3.name (x := nm)
    have b3' := hd4.tcell hFg p3
    have hs4 := hd4.lt
    clear hrn hD2 hK2 hd2 hd3 hds b0 b3 fz
    go_wp2
    clear c0 f0 c1 f1 q0 fz0 b3'
    generalize (w2.setCell ⟨w.heap.size + 1, 0, none⟩ (.string (str nm))).setCell ⟨rb, 0, none⟩ (.string (str nm)) = w4 at *
    have hb4 : Below rb w w4 := Ev.low hd4.ev (by omega) (fun k hk h => by rcases h with h | h | h <;> omega)
    have hAj : At w4 (w.heap.size + 1) [] [.string (str nm), .slice none 0 0, .slice none 0 0, .slice none 0 0, .slice none 0 0, .slice none 0 0] [] 59 := hd4.cells
    have hRj := hd4.res
    have htm := tooMany_no w4 (w.heap.size + 1) _ none 0 0 hAj (by omega)
    have hQ := mod_end (t := t) (k := 0) (fv := .slice none 0 0) (xs := []) hrb (by omega) hd4.rd (World.ownsRow_nil _ _ _ _) (fun i hi => absurd hi (by omega)) hb4 hRj
    have hrow : w4.heap[w.heap.size + 1]? = some (.cells #[.string (str nm), .slice none 0 0, .slice none 0 0, .slice none 0 0, .slice none 0 0, .slice none 0 0] 59 (0, 0)) := by simpa [At] using hAj
    have hres : w4.heap[w.heap.size]? = some (.cells modz.toArray 59 (0, 0)) := by simpa [At] using hRj
    clear hd4 hb4 hAj hRj
    go_loopg [56] 1 (fun gk i wr => i = .int .i64 0 ∧ wr = w4)
    case atStart => exact ⟨rfl, rfl⟩
    case round =>
      obtain ⟨rfl, rfl⟩ := hrel
      go_wp2_with fail
      refine htm.mono ?_
      rintro e w5 ⟨rfl, hw5⟩
      obtain rfl := hw5.symm
      clear htm
      go_wp2_with (first
        | (refine wpList_load_row rfl 59 (.tmp 5) rfl (w.heap.size + 1) rfl 59 #[.string (str nm), .slice none 0 0, .slice none 0 0, .slice none 0 0, .slice none 0 0, .slice none 0 0] (0, 0) _ hrow Try.underlying59 rfl sizeMod ?_)
        | (refine wpList_store_row rfl 59 (.tmp 4) (.tmp 68) rfl w.heap.size #[.string (str nm), .slice none 0 0, .slice none 0 0, .slice none 0 0, .slice none 0 0, .slice none 0 0] rfl rfl 59 modz.toArray hres sizeMod rfl (by first | kernel_rfl | rfl | simp [Value.oneCell']) ?_))
      (try simp only [Exit.inBlock, Exit.then])
      refine bodyPost_ret (results_cell_row rfl _ _ w.heap.size 59 #[.string (str nm), .slice none 0 0, .slice none 0 0, .slice none 0 0, .slice none 0 0, .slice none 0 0] (0, 0) _ rfl (setRow_heap wr w.heap.size _ _ 59 (0, 0) hres) Try.underlying59 rfl sizeMod) rfl ?_
      exact hQ)
theorem own_base {B C T sz n : Nat} {u : World} {x : Value} {xs : List Value} (h : u.ownsRow B T sz x n xs) (hC : C ≤ B) : u.ownsRow C T sz x n xs := by
  refine ⟨h.1, ?_⟩
  rcases h.2 with h1 | ⟨g, cap, cur, h1, h2, h3⟩
  · exact .inl h1
  · exact .inr ⟨g, cap, cur, h1, by omega, h3⟩
theorem mod_setup {H : Nat} {w1 : World} {kv : Value} {t : Tr} (hT : TL (fun g => H ≤ g ∧ g < w1.heap.size) w1 kv t.kids) :
    PT (fun g => g < w1.heap.size + 1) ((w1.alloc (.cells #[.int .i64 (t.kind : Int), .int .i64 (t.place : Int), .string (str t.text), kv] 27)).alloc (.cells #[.string ⟨#[]⟩, .slice none 0 0, .int .i64 0, .int .i64 0] 51)) w1.heap.size 0 t ∧ DIs ((w1.alloc (.cells #[.int .i64 (t.kind : Int), .int .i64 (t.place : Int), .string (str t.text), kv] 27)).alloc (.cells #[.string ⟨#[]⟩, .slice none 0 0, .int .i64 0, .int .i64 0] 51)) (w1.heap.size + 1) [] (.slice none 0 0) none ∧ Below w1.heap.size w1 ((w1.alloc (.cells #[.int .i64 (t.kind : Int), .int .i64 (t.place : Int), .string (str t.text), kv] 27)).alloc (.cells #[.string ⟨#[]⟩, .slice none 0 0, .int .i64 0, .int .i64 0] 51)) := by
  have hc := cells_new w1 [.int .i64 (t.kind : Int), .int .i64 (t.place : Int), .string (str t.text), kv] 27
  have hs1 : (w1.alloc (.cells #[.int .i64 (t.kind : Int), .int .i64 (t.place : Int), .string (str t.text), kv] 27)).heap.size = w1.heap.size + 1 := by simp
  have hb1 : Below (w1.alloc (.cells #[.int .i64 (t.kind : Int), .int .i64 (t.place : Int), .string (str t.text), kv] 27)).heap.size (w1.alloc (.cells #[.int .i64 (t.kind : Int), .int .i64 (t.place : Int), .string (str t.text), kv] 27)) ((w1.alloc (.cells #[.int .i64 (t.kind : Int), .int .i64 (t.place : Int), .string (str t.text), kv] 27)).alloc (.cells #[.string ⟨#[]⟩, .slice none 0 0, .int .i64 0, .int .i64 0] 51)) := (Below.refl _ _).alloc (Nat.le_refl _) _
  refine ⟨?_, ?_, ((Below.refl _ _).alloc (Nat.le_refl _) _).alloc (by simp) _⟩
  · have hT1 : TL (fun g => g < w1.heap.size + 1) (w1.alloc (.cells #[.int .i64 (t.kind : Int), .int .i64 (t.place : Int), .string (str t.text), kv] 27)) kv t.kids := hT.frame fun g hg => ⟨by omega, Below.heap_alloc _ _ _ hg.2⟩
    have hP0 : PT (fun g => g < w1.heap.size + 1) (w1.alloc (.cells #[.int .i64 (t.kind : Int), .int .i64 (t.place : Int), .string (str t.text), kv] 27)) w1.heap.size 0 t := ⟨by omega, kv, hT1, by rw [← hc 0 _ rfl, add_at], by rw [← hc 1 _ rfl, add_at], by rw [← hc 2 _ rfl, add_at], by rw [← hc 3 _ rfl, add_at]⟩
    exact hP0.below hb1 (fun g hg => by rw [hs1]; exact hg)
  · have := heap_alloc_new (w1.alloc (.cells #[.int .i64 (t.kind : Int), .int .i64 (t.place : Int), .string (str t.text), kv] 27)) (.cells #[.string ⟨#[]⟩, .slice none 0 0, .int .i64 0, .int .i64 0] 51)
    rw [hs1] at this
    exact this
def ModuleF (m : List UInt8) (t : Tr) (k : Nat) (w : World) (e : Ending) (w' : World) : Prop :=
  ∃ fv xs, e = .returned (.tuple #[.agg #[.string (str m), .slice none 0 0, .slice none 0 0, .slice none 0 0, .slice none 0 0, fv], .int .i64 0, .int .i64 0]) ∧ w'.ownsRow w.heap.size 63 12 fv k xs ∧ NamesF m t k xs ∧ Below w.heap.size w w'
set_option maxHeartbeats 4000000 in
set_option maxRecDepth 1000000 in
theorem module_funs (s : ByteArray) (w : World) (t : Tr) (hp : parseR s.data.toList = .ok t) (htx : TxOk t) (hnd : nodes t ≤ 20000) (hh : headX t = moduleK) (hk1 : (kid t 1).kind = 3) (nm : List UInt8) (hnm : (kid t 1).text = nm) (hv : valueR nm = true)
    (k : Nat) (hlen : t.kids.length = k + 3) (hk : k + 1 ≤ 32) (hit : ∀ i, i < k + 1 → itemX (kid t (i + 2)) = funK ∧ ∃ c, funP nm (kid t (i + 2)) = .ok c) :
    Calls Try.prog 13 #[.string s] w (ModuleF nm t (k + 1) w) := by
  have hps := parse s (w.alloc (.cells #[.string ⟨#[]⟩, .slice none 0 0, .slice none 0 0, .slice none 0 0, .slice none 0 0, .slice none 0 0] 59))
  rw [hp] at hps
  have hA0 := at_mod w
  have hb0 : Below w.heap.size w (w.alloc (.cells #[.string ⟨#[]⟩, .slice none 0 0, .slice none 0 0, .slice none 0 0, .slice none 0 0, .slice none 0 0] 59)) := (Below.refl _ _).alloc (Nat.le_refl _) _
  have HS0 : Hid ((w.alloc (.cells #[.string ⟨#[]⟩, .slice none 0 0, .slice none 0 0, .slice none 0 0, .slice none 0 0, .slice none 0 0] 59)).heap.size = w.heap.size + 1) := by rw [hid_iff]; simp
  have HM : Hid (∀ (kv : Value) (w1 : World), TL (fun g => w.heap.size + 1 ≤ g ∧ g < w1.heap.size) w1 kv t.kids → Calls Try.prog 20 #[.pointer (some ⟨w1.heap.size + 1, 0, none⟩), .pointer (some ⟨w1.heap.size, 0, none⟩)] ((w1.alloc (.cells #[.int .i64 (t.kind : Int), .int .i64 (t.place : Int), .string (str t.text), kv] 27)).alloc (.cells #[.string ⟨#[]⟩, .slice none 0 0, .int .i64 0, .int .i64 0] 51)) (ModF (w1.heap.size + 1) nm none t (k + 1) ((w1.alloc (.cells #[.int .i64 (t.kind : Int), .int .i64 (t.place : Int), .string (str t.text), kv] 27)).alloc (.cells #[.string ⟨#[]⟩, .slice none 0 0, .int .i64 0, .int .i64 0] 51)))) := by
    rw [hid_iff]
    intro kv w1 hTL
    obtain ⟨s1, s2, _⟩ := mod_setup hTL
    exact readModule_funs _ t _ 0 _ _ s2 s1 (fun b hb => hb) htx hnd hh hk1 nm hnm hv k hlen hk hit
  clear htx hnd hh hk1 hnm hv hlen hk hit hp
  go_enter Try.func13, Try.ntmps13
  go_wp2_with fail
  generalize (w.alloc (.cells #[.string ⟨#[]⟩, .slice none 0 0, .slice none 0 0, .slice none 0 0, .slice none 0 0, .slice none 0 0] 59)) = w0 at *
  refine hps.mono ?_
  rintro e w1 ⟨⟨kv, rfl, hTL⟩, hb1⟩
  obtain ⟨ka, kc, rfl⟩ := hTL.shape
  rw [HS0.out] at hTL hb1
  have hs1 := hb1.size
  rw [HS0.out] at hs1
  obtain ⟨_, _, hb2⟩ := mod_setup hTL
  have hrm := HM.out _ w1 hTL
  have hA1 : At w1 w.heap.size [] modz [] 59 := (hb1.block _ (by omega)).trans hA0
  unfold trv
  clear hps HM hTL hA0
  go_wp2_with fail
  refine hrm.mono ?_
  rintro e w4 ⟨fv, xs, tv', rfl, hf1, hD4, hof, hN, hb4⟩
  have hs4 := hD4.lt
  have hA4 : At w4 w.heap.size [] modz [] 59 := (hb4.block _ (by omega)).trans ((hb2.block _ (by omega)).trans hA1)
  obtain ⟨_, _, q2, _, _⟩ := hD4.cells
  have q2' : w4.cell? ⟨w1.heap.size + 1, 2, none⟩ = some (.int .i64 0) := q2
  obtain ⟨fa, fc, rfl⟩ := own_shape hof
  have hres : (w4.alloc (.cells #[.string (str nm), .slice none 0 0, .slice none 0 0, .slice none 0 0, .slice none 0 0, .slice fa (k + 1) fc] 59)).heap[w.heap.size]? = some (.cells modz.toArray 59 (0, 0)) := by
    rw [Below.heap_alloc _ _ _ (by omega)]
    simpa [At] using hA4
  have HF : Hid (ModuleF nm t (k + 1) w (.returned (.tuple #[.agg #[.string (str nm), .slice none 0 0, .slice none 0 0, .slice none 0 0, .slice none 0 0, .slice fa (k + 1) fc], .int .i64 0, .int .i64 0])) ((w4.alloc (.cells #[.string (str nm), .slice none 0 0, .slice none 0 0, .slice none 0 0, .slice none 0 0, .slice fa (k + 1) fc] 59)).setRow w.heap.size #[.string (str nm), .slice none 0 0, .slice none 0 0, .slice none 0 0, .slice none 0 0, .slice fa (k + 1) fc])) := by
    rw [hid_iff]
    have Kr := setRow_kept (w4.alloc (.cells #[.string (str nm), .slice none 0 0, .slice none 0 0, .slice none 0 0, .slice none 0 0, .slice fa (k + 1) fc] 59)) w.heap.size #[.string (str nm), .slice none 0 0, .slice none 0 0, .slice none 0 0, .slice none 0 0, .slice fa (k + 1) fc]
    have ho5 := owns_below hof ((Below.refl _ w4).alloc (Nat.le_refl _) (.cells #[.string (str nm), .slice none 0 0, .slice none 0 0, .slice none 0 0, .slice none 0 0, .slice fa (k + 1) fc] 59))
    have ho6 := Kr.own ho5 (fun g e h => by have := (own_row ho5 e).1; omega)
    refine ⟨_, xs, rfl, own_base ho6 (by omega), hN, ?_⟩
    have b1 : Below w.heap.size w w4 := ((hb0.trans (hb1.mono (by omega))).trans (hb2.mono (by omega))).trans (hb4.mono (by omega))
    exact (b1.alloc (by omega) _).trans (Kr.below (by simp; omega) (fun x hx e => by omega))
  clear hrm hD4 hof hN hb4 hA4 hA1 hb1 hb2 hb0 q2 hf1
  go_wp2_with (refine wpList_store_row rfl 59 (.tmp 2) (.tmp 30) rfl w.heap.size #[.string (str nm), .slice none 0 0, .slice none 0 0, .slice none 0 0, .slice none 0 0, .slice fa (k + 1) fc] rfl rfl 59 modz.toArray hres sizeMod rfl (by first | kernel_rfl | rfl | simp [Value.oneCell']) ?_)
  (try simp only [Exit.inBlock, Exit.then])
  refine bodyPost_ret (res_cell3 rfl _ _ w.heap.size 59 #[.string (str nm), .slice none 0 0, .slice none 0 0, .slice none 0 0, .slice none 0 0, .slice fa (k + 1) fc] (0, 0) _ rfl (setRow_heap _ w.heap.size _ _ 59 (0, 0) hres) Try.underlying59 rfl sizeMod) rfl ?_
  exact HF.out
end Go.Proofs.Ytchfhkfepghfjaa

namespace Go.Proofs.Ytchfhkfepghfjaa
open Go.RowKit

theorem box_set6 {w : World} {b : Nat} {z0 z1 z2 z3 z4 z5 : Value} {e : TypeId} (h0 : w.heap[b]? = some (.cells #[z0, z1, z2, z3, z4, z5] e (0, 0))) (a0 a1 a2 a3 a4 a5 : Value) : ((((((w.setCell ⟨b, 0, none⟩ a0).setCell ⟨b, 1, none⟩ a1).setCell ⟨b, 2, none⟩ a2).setCell ⟨b, 3, none⟩ a3).setCell ⟨b, 4, none⟩ a4).setCell ⟨b, 5, none⟩ a5).heap[b]? = some (.cells #[a0, a1, a2, a3, a4, a5] e (0, 0)) := by
  have h1 : (w.setCell ⟨b, 0, none⟩ a0).heap[b]? = some (.cells #[a0, z1, z2, z3, z4, z5] e (0, 0)) := heap_setCell_same _ b 0 #[z0, z1, z2, z3, z4, z5] e a0 h0
  have h2 : ((w.setCell ⟨b, 0, none⟩ a0).setCell ⟨b, 1, none⟩ a1).heap[b]? = some (.cells #[a0, a1, z2, z3, z4, z5] e (0, 0)) := heap_setCell_same _ b 1 #[a0, z1, z2, z3, z4, z5] e a1 h1
  have h3 : (((w.setCell ⟨b, 0, none⟩ a0).setCell ⟨b, 1, none⟩ a1).setCell ⟨b, 2, none⟩ a2).heap[b]? = some (.cells #[a0, a1, a2, z3, z4, z5] e (0, 0)) := heap_setCell_same _ b 2 #[a0, a1, z2, z3, z4, z5] e a2 h2
  have h4 : ((((w.setCell ⟨b, 0, none⟩ a0).setCell ⟨b, 1, none⟩ a1).setCell ⟨b, 2, none⟩ a2).setCell ⟨b, 3, none⟩ a3).heap[b]? = some (.cells #[a0, a1, a2, a3, z4, z5] e (0, 0)) := heap_setCell_same _ b 3 #[a0, a1, a2, z3, z4, z5] e a3 h3
  have h5 : (((((w.setCell ⟨b, 0, none⟩ a0).setCell ⟨b, 1, none⟩ a1).setCell ⟨b, 2, none⟩ a2).setCell ⟨b, 3, none⟩ a3).setCell ⟨b, 4, none⟩ a4).heap[b]? = some (.cells #[a0, a1, a2, a3, a4, z5] e (0, 0)) := heap_setCell_same _ b 4 #[a0, a1, a2, a3, z4, z5] e a4 h4
  have h6 : ((((((w.setCell ⟨b, 0, none⟩ a0).setCell ⟨b, 1, none⟩ a1).setCell ⟨b, 2, none⟩ a2).setCell ⟨b, 3, none⟩ a3).setCell ⟨b, 4, none⟩ a4).setCell ⟨b, 5, none⟩ a5).heap[b]? = some (.cells #[a0, a1, a2, a3, a4, a5] e (0, 0)) := heap_setCell_same _ b 5 #[a0, a1, a2, a3, a4, z5] e a5 h5
  exact h6
theorem box_kept6 {w w0 : World} {b : Nat} (h : Kept (fun k => k = b) w0 w) (a0 a1 a2 a3 a4 a5 : Value) : Kept (fun k => k = b) w0 ((((((w.setCell ⟨b, 0, none⟩ a0).setCell ⟨b, 1, none⟩ a1).setCell ⟨b, 2, none⟩ a2).setCell ⟨b, 3, none⟩ a3).setCell ⟨b, 4, none⟩ a4).setCell ⟨b, 5, none⟩ a5) :=
  ((((((h.setCell (p := ⟨b, 0, none⟩) (fun _ => rfl) a0).setCell (p := ⟨b, 1, none⟩) (fun _ => rfl) a1).setCell (p := ⟨b, 2, none⟩) (fun _ => rfl) a2).setCell (p := ⟨b, 3, none⟩) (fun _ => rfl) a3).setCell (p := ⟨b, 4, none⟩) (fun _ => rfl) a4).setCell (p := ⟨b, 5, none⟩) (fun _ => rfl) a5)
def ModuleN (y b : Nat) (w : World) (e : Ending) (w' : World) : Prop := e = .returned (.tuple #[.agg #[.string ⟨#[]⟩, .slice none 0 0, .slice none 0 0, .slice none 0 0, .slice none 0 0, .slice none 0 0], .int .i64 (y : Int), .int .i64 (b : Int)]) ∧ Below w.heap.size w w'
set_option maxHeartbeats 4000000 in
set_option maxRecDepth 1000000 in
theorem module_bad (s : ByteArray) (w : World) (t : Tr) (hp : parseR s.data.toList = .ok t) (htx : TxOk t) (hh : headX t = moduleK) (hk1 : (kid t 1).kind = 3) (nm : List UInt8) (hnm : (kid t 1).text = nm) (hv : valueR nm = false) (hlen : t.kids.length = 2) (pl : Nat) (hpl : (kid t 1).place = pl) :
    Calls Try.prog 13 #[.string s] w (ModuleN 13 pl w) := by
  have hps := parse s (w.alloc (.cells #[.string ⟨#[]⟩, .slice none 0 0, .slice none 0 0, .slice none 0 0, .slice none 0 0, .slice none 0 0] 59))
  rw [hp] at hps
  have hA0 := at_mod w
  have hb0 : Below w.heap.size w (w.alloc (.cells #[.string ⟨#[]⟩, .slice none 0 0, .slice none 0 0, .slice none 0 0, .slice none 0 0, .slice none 0 0] 59)) := (Below.refl _ _).alloc (Nat.le_refl _) _
  have HS0 : Hid ((w.alloc (.cells #[.string ⟨#[]⟩, .slice none 0 0, .slice none 0 0, .slice none 0 0, .slice none 0 0, .slice none 0 0] 59)).heap.size = w.heap.size + 1) := by rw [hid_iff]; simp
  have hst : orE none (suchP valueR (kid t 1)) = some (13, pl) := by
    unfold suchP
    rw [hnm, hv, if_neg (by decide), hpl]
    rfl
  have HM : Hid (∀ (kv : Value) (w1 : World), TL (fun g => w.heap.size + 1 ≤ g ∧ g < w1.heap.size) w1 kv t.kids → Calls Try.prog 20 #[.pointer (some ⟨w1.heap.size + 1, 0, none⟩), .pointer (some ⟨w1.heap.size, 0, none⟩)] ((w1.alloc (.cells #[.int .i64 (t.kind : Int), .int .i64 (t.place : Int), .string (str t.text), kv] 27)).alloc (.cells #[.string ⟨#[]⟩, .slice none 0 0, .int .i64 0, .int .i64 0] 51)) (ModF (w1.heap.size + 1) nm (some (13, pl)) t 0 ((w1.alloc (.cells #[.int .i64 (t.kind : Int), .int .i64 (t.place : Int), .string (str t.text), kv] 27)).alloc (.cells #[.string ⟨#[]⟩, .slice none 0 0, .int .i64 0, .int .i64 0] 51)))) := by
    rw [hid_iff]
    intro kv w1 hTL
    obtain ⟨s1, s2, _⟩ := mod_setup hTL
    have := readModule_none _ t _ 0 _ _ s2 s1 (fun b hb => hb) htx hh hk1 nm hnm hlen
    rwa [hst] at this
  clear htx hh hk1 hnm hv hlen hp hpl hst
  go_enter Try.func13, Try.ntmps13
  go_wp2_with fail
  generalize (w.alloc (.cells #[.string ⟨#[]⟩, .slice none 0 0, .slice none 0 0, .slice none 0 0, .slice none 0 0, .slice none 0 0] 59)) = w0 at *
  refine hps.mono ?_
  rintro e w1 ⟨⟨kv, rfl, hTL⟩, hb1⟩
  obtain ⟨ka, kc, rfl⟩ := hTL.shape
  rw [HS0.out] at hTL hb1
  have hs1 := hb1.size
  rw [HS0.out] at hs1
  obtain ⟨_, _, hb2⟩ := mod_setup hTL
  have hrm := HM.out _ w1 hTL
  have hA1 : At w1 w.heap.size [] modz [] 59 := (hb1.block _ (by omega)).trans hA0
  unfold trv
  clear hps HM hTL hA0
  go_wp2_with fail
  refine hrm.mono ?_
  rintro e w4 ⟨fv, xs, tv', rfl, hf1, hD4, hof, hN, hb4⟩
  have hs4 := hD4.lt
  have hA4 : At w4 w.heap.size [] modz [] 59 := (hb4.block _ (by omega)).trans ((hb2.block _ (by omega)).trans hA1)
  obtain ⟨fa, fc, rfl⟩ := own_shape hof
  have b8 : Below w4.heap.size w4 (w4.alloc (.cells #[.string (str nm), .slice none 0 0, .slice none 0 0, .slice none 0 0, .slice none 0 0, .slice fa 0 fc] 59)) := (Below.refl _ _).alloc (Nat.le_refl _) _
  obtain ⟨_, _, q2, q3, _⟩ := (hD4.below b8 hs4).cells
  have q2' : (w4.alloc (.cells #[.string (str nm), .slice none 0 0, .slice none 0 0, .slice none 0 0, .slice none 0 0, .slice fa 0 fc] 59)).cell? ⟨w1.heap.size + 1, 2, none⟩ = some (.int .i64 13) := q2
  have q3' : (w4.alloc (.cells #[.string (str nm), .slice none 0 0, .slice none 0 0, .slice none 0 0, .slice none 0 0, .slice fa 0 fc] 59)).cell? ⟨w1.heap.size + 1, 3, none⟩ = some (.int .i64 (pl : Int)) := q3
  have hz : (w4.alloc (.cells #[.string (str nm), .slice none 0 0, .slice none 0 0, .slice none 0 0, .slice none 0 0, .slice fa 0 fc] 59)).heap[w.heap.size]? = some (.cells #[.string ⟨#[]⟩, .slice none 0 0, .slice none 0 0, .slice none 0 0, .slice none 0 0, .slice none 0 0] 59 (0, 0)) := by
    rw [b8.block _ (by omega)]
    simpa [At, modz, str] using hA4
  have b1 : Below w.heap.size w w4 := ((hb0.trans (hb1.mono (by omega))).trans (hb2.mono (by omega))).trans (hb4.mono (by omega))
  have b9 : Below w.heap.size w (w4.alloc (.cells #[.string (str nm), .slice none 0 0, .slice none 0 0, .slice none 0 0, .slice none 0 0, .slice fa 0 fc] 59)) := b1.alloc (by omega) _
  have HSZ : Hid (w.heap.size < (w4.alloc (.cells #[.string (str nm), .slice none 0 0, .slice none 0 0, .slice none 0 0, .slice none 0 0, .slice fa 0 fc] 59)).heap.size) := by rw [hid_iff]; simp; omega
  clear hrm hD4 hof hN hb4 hA4 hA1 hb1 hb2 hb0 q2 q3 hf1 b1 b8
  go_wp2_with fail
  generalize (w4.alloc (.cells #[.string (str nm), .slice none 0 0, .slice none 0 0, .slice none 0 0, .slice none 0 0, .slice fa 0 fc] 59)) = w8 at *
  have c0 : w8.cell? ⟨w.heap.size, 0, none⟩ = some (.string ⟨#[]⟩) := by rw [cell_of_row w8 _ 0 _ _ _ hz]; rfl
  have f0 := frozen_of_row w8 w.heap.size 0 _ _ hz
  have c1 : w8.cell? ⟨w.heap.size, 1, none⟩ = some (.slice none 0 0) := by rw [cell_of_row w8 _ 1 _ _ _ hz]; rfl
  have f1 := frozen_of_row w8 w.heap.size 1 _ _ hz
  have c2 : w8.cell? ⟨w.heap.size, 2, none⟩ = some (.slice none 0 0) := by rw [cell_of_row w8 _ 2 _ _ _ hz]; rfl
  have f2 := frozen_of_row w8 w.heap.size 2 _ _ hz
  have c3 : w8.cell? ⟨w.heap.size, 3, none⟩ = some (.slice none 0 0) := by rw [cell_of_row w8 _ 3 _ _ _ hz]; rfl
  have f3 := frozen_of_row w8 w.heap.size 3 _ _ hz
  have c4 : w8.cell? ⟨w.heap.size, 4, none⟩ = some (.slice none 0 0) := by rw [cell_of_row w8 _ 4 _ _ _ hz]; rfl
  have f4 := frozen_of_row w8 w.heap.size 4 _ _ hz
  have c5 : w8.cell? ⟨w.heap.size, 5, none⟩ = some (.slice none 0 0) := by rw [cell_of_row w8 _ 5 _ _ _ hz]; rfl
  have f5 := frozen_of_row w8 w.heap.size 5 _ _ hz
  have hbox := box_set6 hz (.string ⟨#[]⟩) (.slice none 0 0) (.slice none 0 0) (.slice none 0 0) (.slice none 0 0) (.slice none 0 0)
  have K9 := box_kept6 (w0 := w8) (w := w8) (b := w.heap.size) (Kept.refl _ _) (.string ⟨#[]⟩) (.slice none 0 0) (.slice none 0 0) (.slice none 0 0) (.slice none 0 0) (.slice none 0 0)
  go_region
  all_goals (
    go_wp2_with fail
    (try simp only [Exit.inBlock, Exit.then])
    generalize ((((((w8.setCell ⟨w.heap.size, 0, none⟩ (.string ⟨#[]⟩)).setCell ⟨w.heap.size, 1, none⟩ (.slice none 0 0)).setCell ⟨w.heap.size, 2, none⟩ (.slice none 0 0)).setCell ⟨w.heap.size, 3, none⟩ (.slice none 0 0)).setCell ⟨w.heap.size, 4, none⟩ (.slice none 0 0)).setCell ⟨w.heap.size, 5, none⟩ (.slice none 0 0)) = w9 at *
    refine bodyPost_ret (res_cell3 rfl _ _ w.heap.size 59 #[.string ⟨#[]⟩, .slice none 0 0, .slice none 0 0, .slice none 0 0, .slice none 0 0, .slice none 0 0] (0, 0) _ rfl (show w9.drew.heap[w.heap.size]? = _ from hbox) Try.underlying59 rfl sizeMod) rfl ?_
    have hsz := HSZ.out
    exact ⟨rfl, below_drew (b9.trans (K9.below (by omega) (fun k hk e => by omega)))⟩)
end Go.Proofs.Ytchfhkfepghfjaa
