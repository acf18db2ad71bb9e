/-
  The package's take at an Atom or a Quoted.
-/
import Derived.Test.YtcjlifhehiolkaaGreatTreeTake
namespace Go.Proofs.YtcjlifhehiolkaaGreat
open Go.RowKit

set_option maxHeartbeats 1600000 in
set_option maxRecDepth 1000000 in
theorem take_leaf (F : Nat → Prop) (B : Nat) (w : World) (sv : Value) (x : Tr) (r : List Tr) (vs : List Value) (tok : Tok) (h : StkM F B w sv (r.reverse ++ [x]) vs) (hB : B ≤ w.heap.size) (hlen : r.length ≤ 41) (hkl : x.kids.length ≤ 8192) (hk1 : tok.kind ≠ 1) (hk2 : tok.kind ≠ 2) :
    Calls Tryz.prog 31 #[sv, tkv tok] w (TakeE B w (put (x :: r) tok)) := by
  obtain ⟨gs, caps, rfl, hgb, hgl, hc1, hc2⟩ := h.shape (by simp)
  have hln : (r.reverse ++ [x]).length = r.length + 1 := by simp
  rw [hln] at h hc1 ⊢
  obtain ⟨kv, t0, t1, t2, t3, t4, t5, t6⟩ := h.top (by simp : r.reverse.length = r.length)
  have t6' := t6 (r.length * 4 + 3)
  have hp : (put (x :: r) tok).reverse = r.reverse ++ [addKid x (leaf tok)] := by simp [put, hk1, hk2]
  have ht1 : ((tok.kind : Int) == 1) = false := by rw [beq_eq_false_iff_ne]; omega
  have ht2 : ((tok.kind : Int) == 2) = false := by rw [beq_eq_false_iff_ne]; omega
  obtain ⟨ka, kc, rfl⟩ := t1.shape
  obtain ⟨us, u1, u2, u3⟩ := t1
  obtain ⟨tk, tp, tx⟩ := tok
  simp only at hk1 hk2 ht1 ht2
  unfold tkv
  clear hk1 hk2
  go_enter Tryz.func31, Tryz.ntmps31
  go_wp2
  have hS := (h.alloc (.cells #[.int .i64 (tk : Int), .int .i64 (tp : Int), .string (str tx)] 61)).alloc (.cells #[.int .i64 (tk : Int), .int .i64 (tp : Int), .string (str tx), .slice none 0 0] 34)
  have hBl : Below B w ((w.alloc (.cells #[.int .i64 (tk : Int), .int .i64 (tp : Int), .string (str tx)] 61)).alloc (.cells #[.int .i64 (tk : Int), .int .i64 (tp : Int), .string (str tx), .slice none 0 0] 34)) := (((Below.refl B w).alloc hB _).alloc (by simp; omega) _)
  have hsz : ((w.alloc (.cells #[.int .i64 (tk : Int), .int .i64 (tp : Int), .string (str tx)] 61)).alloc (.cells #[.int .i64 (tk : Int), .int .i64 (tp : Int), .string (str tx), .slice none 0 0] 34)).heap.size = w.heap.size + 2 := by simp
  have hc : ∀ j u, ([.int .i64 (tk : Int), .int .i64 (tp : Int), .string (str tx), .slice none 0 0] : List Value)[j]? = some u → ((w.alloc (.cells #[.int .i64 (tk : Int), .int .i64 (tp : Int), .string (str tx)] 61)).alloc (.cells #[.int .i64 (tk : Int), .int .i64 (tp : Int), .string (str tx), .slice none 0 0] 34)).cell? ⟨w.heap.size + 1, j, none⟩ = some u := fun j u hj => by
    have := cells_at (w.alloc (.cells #[.int .i64 (tk : Int), .int .i64 (tp : Int), .string (str tx)] 61)) _ 34 (g := w.heap.size + 1) (by simp) j u hj
    rwa [add_at] at this
  have hxt : TL F ((w.alloc (.cells #[.int .i64 (tk : Int), .int .i64 (tp : Int), .string (str tx)] 61)).alloc (.cells #[.int .i64 (tk : Int), .int .i64 (tp : Int), .string (str tx), .slice none 0 0] 34)) (.slice none 0 0) [] := TL.nil _ _
  have hvl : ∀ g, (Value.slice ka x.kids.length kc).ownBlock = some g → g < w.heap.size := fun g hg => (u2.lt g hg).2
  clear t2 t3 t4 t5 t6 t6' u2 u3 u1
  generalize hW3 : (w.alloc (.cells #[.int .i64 (tk : Int), .int .i64 (tp : Int), .string (str tx)] 61)).alloc (.cells #[.int .i64 (tk : Int), .int .i64 (tp : Int), .string (str tx), .slice none 0 0] 34) = W3 at *
  have hb1 : w.heap.size + 1 < W3.heap.size := by omega
  have hb2 : w.heap.size + 1 ≠ gs := by omega
  have hb3 : (Value.slice ka x.kids.length kc).ownBlock ≠ some (w.heap.size + 1) := fun e => by have := hvl _ e; omega
  generalize w.heap.size + 1 = b5 at *
  have c0 := hc 0 _ rfl
  have c1 := hc 1 _ rfl
  have c2 := hc 2 _ rfl
  have c3 := hc 3 _ rfl
  clear hc hvl
  obtain ⟨kv, t0', t1, t2, t3, t4, t5, t6⟩ := hS.top (by simp : r.reverse.length = r.length)
  rw [t0] at t0'
  cases t0'
  have t6' := t6 (r.length * 4 + 3)
  obtain ⟨us, u1, u2, u3⟩ := t1
  have hzB : B ≤ (W3.alloc (.cells #[.int .i64 0, .int .i64 0, .string ⟨#[]⟩, .slice none 0 0] 34)).drew.heap.size := by simp; omega
  have hO : (W3.alloc (.cells #[.int .i64 0, .int .i64 0, .string ⟨#[]⟩, .slice none 0 0] 34)).drew.ownsRow B 34 4 (.slice ka x.kids.length kc) x.kids.length (rowc x.kids us) := (u2.alloc _).drew
  have hi1 : (r.length : Int) < (r.length : Int) + 1 := by omega
  have hi2 : (x.kids.length : Int) < (x.kids.length : Int) + 1 := by omega
  have KZ : Kept (fun _ => False) W3 (W3.alloc (.cells #[.int .i64 0, .int .i64 0, .string ⟨#[]⟩, .slice none 0 0] 34)) := (Kept.refl _ W3).alloc _
  have d0 := KZ.cell c0 (fun h => h)
  have d1 := KZ.cell c1 (fun h => h)
  have d2 := KZ.cell c2 (fun h => h)
  have d3 := KZ.cell c3 (fun h => h)
  have d5 := KZ.cell t5 (fun h => h)
  have hsz1 : B ≤ W3.heap.size := by omega
  clear t2 t3 t4 t6 hW3 hsz KZ
  go_region_law (refine step_tree rfl (.tmp 40) (.tmp 43) rfl B (.slice ka x.kids.length kc) x.kids.length (rowc x.kids us) (by rfl) hO ⟨W3.heap.size, 0, none⟩ 1 [.int .i64 0, .int .i64 0, .string ⟨#[]⟩, .slice none 0 0] (by rfl) rfl (cells_new _ _ _) zone (by omega) hzB (W3.heap.size + 1) (by simp) ?_; intro g cap w' k1 k2 k3 k4; obtain ⟨f0, f1, f2, f3, f4, f5, e0, e1, e2, e3, q0, q1, q2, q3, g1, g2, g3, g4, g5⟩ := add_facts hS (rowc_length u1) t0 hb1 hb2 hb3 c0 c1 c2 c3 t5 t6' k1 k2 k3; have hD : AddE B gs caps r.length W3 (r.reverse ++ [addKid x (leaf ⟨tk, tp, tx⟩)]) (((((w'.setCell ⟨g, x.kids.length * 4, none⟩ (.int .i64 (tk : Int))).setCell ⟨g, x.kids.length * 4 + 1, none⟩ (.int .i64 (tp : Int))).setCell ⟨g, x.kids.length * 4 + 2, none⟩ (.string (str tx))).setCell ⟨g, x.kids.length * 4 + 3, none⟩ (.slice none 0 0)).setCell ⟨gs, r.length * 4 + 3, none⟩ (.slice (some ⟨g, 0, none⟩) (x.kids.length + 1) cap)) := add_done (t := leaf ⟨tk, tp, tx⟩) hS (by simp) rfl hsz1 t0 u1 u3 hxt k1 k2 k3 k4; have hD2 := hD.swap g1)
  all_goals (
    clear hO hzB hi1 hi2 d0 d1 d2 d3 d5 t5 t6' c0 c1 c2 c3 f0 f1 f2 f3 f4 f5 e0 e1 e2 e3 q0 q1 q2 q3 k1 k2 k3 k4 u2 u3 hS
    go_wp2
    go_ret
    first
      | (exact hD.took hp hBl rfl (by with_reducible rfl))
      | (exact hD2.took hp hBl rfl (by with_reducible rfl)))
end Go.Proofs.YtcjlifhehiolkaaGreat
