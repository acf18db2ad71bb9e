/-
  The package's take at a Close: the topmost is shut and goes to the one below it.
-/
import Derived.Test.YtcjlifhehiolkaaGreatTreeTakeLeaf
namespace Go.Proofs.YtcjlifhehiolkaaGreat
open Go.RowKit

theorem split_last {vs : List Value} {n : Nat} (h : vs.length = n + 1) : ∃ vs0 k, vs = vs0 ++ [k] ∧ vs0.length = n := by
  have hne : vs ≠ [] := fun e => by rw [e] at h; simp at h
  exact ⟨vs.dropLast, vs.getLast hne, (List.dropLast_concat_getLast hne).symm, by simp [h]⟩
/-- Behind the first half of a Close. -/
structure ShutM (F : Nat → Prop) (B : Nat) (w : World) (gs caps b5 : Nat) (y x : Tr) (r : List Tr) (kvy v : Value) (vs : List Value) (wx : World) : Prop where
  stk : StkM F B wx (.slice (some ⟨gs, 0, none⟩) (r.length + 1) caps) (r.reverse ++ [x]) vs
  at0 : vs[r.length]? = some v
  c0 : wx.cell? ⟨b5, 0, none⟩ = some (.int .i64 (y.kind : Int))
  c1 : wx.cell? ⟨b5, 1, none⟩ = some (.int .i64 (y.place : Int))
  c2 : wx.cell? ⟨b5, 2, none⟩ = some (.string (str y.text))
  c3 : wx.cell? ⟨b5, 3, none⟩ = some kvy
  kid : TL F wx kvy y.kids
  bel : Below B w wx
  siz : B ≤ wx.heap.size
  b1 : b5 < wx.heap.size
  b2 : b5 ≠ gs
  b3 : v.ownBlock ≠ some b5
theorem shut_m {F : Nat → Prop} {B gs caps : Nat} {w : World} {y x : Tr} {r : List Tr} {vs : List Value} {kvy : Value} {o1 : Obj} (h : StkM F B w (.slice (some ⟨gs, 0, none⟩) (r.length + 1 + 1) caps) (r.reverse ++ [x] ++ [y]) (vs ++ [kvy])) (hB : B ≤ w.heap.size) :
    ∃ v, ShutM (fun b => F b ∨ kvy.ownBlock = some b) B w gs caps (w.heap.size + 1) y x r kvy v vs (((w.alloc o1).alloc (.cells #[.int .i64 (y.kind : Int), .int .i64 (y.place : Int), .string (str y.text), kvy] 34)).drew) := by
  have hl : (r.reverse ++ [x]).length = r.length + 1 := by simp
  have h' := h
  rw [← hl] at h'
  obtain ⟨p1, p2⟩ := h'.pop
  rw [hl] at p1
  have hvl : vs.length = r.length + 1 := by have := p1.len; rw [hl] at this; exact this
  have hgs := (p1.own.lt gs rfl)
  have hn : r.length < vs.length := by omega
  have t0 : vs[r.length]? = some vs[r.length] := List.getElem?_eq_getElem hn
  have hx : (r.reverse ++ [x])[r.length]? = some x := by simp
  have hkl := (p1.kids _ _ _ hx t0).lt
  have K : Kept (fun _ => False) w (((w.alloc o1).alloc (.cells #[.int .i64 (y.kind : Int), .int .i64 (y.place : Int), .string (str y.text), kvy] 34)).drew) := (((Kept.refl _ w).alloc _).alloc _).drew
  have hb : (((w.alloc o1).alloc (.cells #[.int .i64 (y.kind : Int), .int .i64 (y.place : Int), .string (str y.text), kvy] 34)).drew).heap[w.heap.size + 1]? = some (.cells #[.int .i64 (y.kind : Int), .int .i64 (y.place : Int), .string (str y.text), kvy] 34) := by
    have := heap_alloc_new (w.alloc o1) (.cells #[.int .i64 (y.kind : Int), .int .i64 (y.place : Int), .string (str y.text), kvy] 34)
    rw [show (w.alloc o1).heap.size = w.heap.size + 1 from by simp] at this
    exact this
  have hc : ∀ j, (((w.alloc o1).alloc (.cells #[.int .i64 (y.kind : Int), .int .i64 (y.place : Int), .string (str y.text), kvy] 34)).drew).cell? ⟨w.heap.size + 1, j, none⟩ = (trc y kvy)[j]? := fun j => by
    rw [cell_of_row _ _ j _ 34 (0, 0) hb]
    simp [trc]
  have hsz := K.size
  exact ⟨vs[r.length], p1.kept K (fun g hg => hg.elim), t0, hc 0, hc 1, hc 2, hc 3, p2.kept K (fun g hg => ⟨(p1.lies g hg).2, fun e => e⟩), K.below hB (fun b hb h => h), by omega, (Array.getElem?_eq_some_iff.1 hb).1, by omega, fun e => by have := (hkl _ e).2; omega⟩

set_option maxHeartbeats 1600000 in
set_option maxRecDepth 1000000 in
theorem take_close (F : Nat → Prop) (B : Nat) (w : World) (sv : Value) (y x : Tr) (r : List Tr) (vs : List Value) (tok : Tok) (h : StkM F B w sv (r.reverse ++ [x] ++ [y]) vs) (hB : B ≤ w.heap.size) (hlen : r.length ≤ 41) (hkl : x.kids.length ≤ 8192) (hk2 : tok.kind = 2) :
    Calls Tryz.prog 31 #[sv, tkv tok] w (TakeE B w (put (y :: x :: r) tok)) := by
  obtain ⟨gs, caps, rfl, hgb, hgl, hc1, hc2⟩ := h.shape (by simp)
  have hln : (r.reverse ++ [x] ++ [y]).length = r.length + 1 + 1 := by simp
  rw [hln] at h hc1 ⊢
  obtain ⟨vs, kvy, rfl, hvl⟩ := split_last (n := r.length + 1) (by rw [h.len, hln])
  obtain ⟨kv, t0, t1, t2, t3, t4, t5, _⟩ := h.top (by simp : (r.reverse ++ [x]).length = r.length + 1)
  have hkv : kv = kvy := by rw [← hvl] at t0; simp at t0; exact t0.symm
  subst hkv
  have hp : (put (y :: x :: r) tok).reverse = r.reverse ++ [addKid x (shutBy y tok)] := by simp [put, hk2]
  obtain ⟨v, hM⟩ := shut_m (o1 := .cells #[.int .i64 2, .int .i64 (tok.place : Int), .string (str tok.text)] 61) h hB
  obtain ⟨tk, tp, tx⟩ := tok
  simp only at hk2
  subst hk2
  unfold tkv
  obtain ⟨ya, yc, rfl⟩ := t1.shape
  clear t0 t1
  have hi0 : (r.length : Int) + 1 < (r.length : Int) + 1 + 1 := by omega
  have hcm : (caps : Int) ≤ 9223372036854775807 := by unfold maxLen at hc2; omega
  have hi3 : (r.length : Int) + 1 ≤ (caps : Int) := by omega
  have hi4 : (0 : Int) ≤ (r.length : Int) + 1 := by omega
  go_enter Tryz.func31, Tryz.ntmps31
  go_wp2
  go_cut [0] from 27 to 33 (fun v0 wx => v0 = .slice (some ⟨gs, 0, none⟩) (r.length + 1) caps ∧ ShutM (fun b => F b ∨ (Value.slice ya y.kids.length yc).ownBlock = some b) B w gs caps (w.heap.size + 1) y x r (.slice ya y.kids.length yc) v vs wx)
  case first =>
    go_region
    all_goals (go_wp2_with fail; go_meet; exact ⟨rfl, hM⟩)
  case rest =>
    obtain ⟨rfl, hM'⟩ := hcut
    clear hM t2 t3 t4 t5 h hi0 hi3 hi4
    obtain ⟨hS, t0, c0, c1, c2, c3, hxt, hBl, hsz1, hb1, hb2, hb3⟩ := hM'
    generalize hb5 : w.heap.size + 1 = b5 at *
    clear hb5
    obtain ⟨ka, kc, rfl⟩ : ∃ a c, v = .slice a x.kids.length c := (hS.kids r.length x v (by simp) t0).shape
    go_wp2
    obtain ⟨kv, t0', t1, t2, t3, t4, t5, t6⟩ := hS.top (by simp : r.reverse.length = r.length)
    rw [t0] at t0'
    cases t0'
    have t6' := t6 (r.length * 4 + 3)
    obtain ⟨us, u1, u2, u3⟩ := t1
    have hzB : B ≤ (wc.alloc (.cells #[.int .i64 0, .int .i64 0, .string ⟨#[]⟩, .slice none 0 0] 34)).drew.heap.size := by simp; omega
    have hO : (wc.alloc (.cells #[.int .i64 0, .int .i64 0, .string ⟨#[]⟩, .slice none 0 0] 34)).drew.ownsRow B 34 4 (.slice ka x.kids.length kc) x.kids.length (rowc x.kids us) := (u2.alloc _).drew
    have hi1 : (r.length : Int) < (r.length : Int) + 1 := by omega
    have hi2 : (x.kids.length : Int) < (x.kids.length : Int) + 1 := by omega
    have KZ : Kept (fun _ => False) wc (wc.alloc (.cells #[.int .i64 0, .int .i64 0, .string ⟨#[]⟩, .slice none 0 0] 34)) := (Kept.refl _ wc).alloc _
    have d0 := KZ.cell c0 (fun h => h)
    have d1 := KZ.cell c1 (fun h => h)
    have d2 := KZ.cell c2 (fun h => h)
    have d3 := KZ.cell c3 (fun h => h)
    have d5 := KZ.cell t5 (fun h => h)
    clear t2 t3 t4 t6 KZ
    go_region_law (refine step_tree rfl (.tmp 40) (.tmp 43) rfl B (.slice ka x.kids.length kc) x.kids.length (rowc x.kids us) (by rfl) hO ⟨wc.heap.size, 0, none⟩ 1 [.int .i64 0, .int .i64 0, .string ⟨#[]⟩, .slice none 0 0] (by rfl) rfl (cells_new _ _ _) zone (by omega) hzB (wc.heap.size + 1) (by simp) ?_; intro g cap w' k1 k2 k3 k4; obtain ⟨f0, f1, f2, f3, f4, f5, e0, e1, e2, e3, q0, q1, q2, q3, g1, g2, g3, g4, g5⟩ := add_facts hS (rowc_length u1) t0 hb1 hb2 hb3 c0 c1 c2 c3 t5 t6' k1 k2 k3; have hD : AddE B gs caps r.length wc (r.reverse ++ [addKid x (shutBy y ⟨2, tp, tx⟩)]) (((((w'.setCell ⟨g, x.kids.length * 4, none⟩ (.int .i64 (y.kind : Int))).setCell ⟨g, x.kids.length * 4 + 1, none⟩ (.int .i64 (y.place : Int))).setCell ⟨g, x.kids.length * 4 + 2, none⟩ (.string (str y.text))).setCell ⟨g, x.kids.length * 4 + 3, none⟩ (.slice ya y.kids.length yc)).setCell ⟨gs, r.length * 4 + 3, none⟩ (.slice (some ⟨g, 0, none⟩) (x.kids.length + 1) cap)) := add_done (t := shutBy y ⟨2, tp, tx⟩) hS (by simp) rfl hsz1 t0 u1 u3 hxt k1 k2 k3 k4; have hD2 := hD.swap g1)
    all_goals (
      clear hO hzB hi1 hi2 d0 d1 d2 d3 d5 t5 t6' c0 c1 c2 c3 f0 f1 f2 f3 f4 f5 e0 e1 e2 e3 q0 q1 q2 q3 k1 k2 k3 k4 u2 u3 hS
      go_wp2
      go_ret
      first
        | (exact hD.took hp hBl rfl (by with_reducible rfl))
        | (exact hD2.took hp hBl rfl (by with_reducible rfl)))
end Go.Proofs.YtcjlifhehiolkaaGreat
