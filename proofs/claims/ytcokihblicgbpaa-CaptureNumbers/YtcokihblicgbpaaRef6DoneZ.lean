/-
  The document's own reader of modules: every expression; its Expr.
-/
import Derived.Test.YtcokihblicgbpaaRef6AllZ
import Derived.Test.YtcokihblicgbpaaRef6MtZ
import Derived.Test.YtcokihblicgbpaaTreAZ
namespace Go.Proofs.Ytcokihblicgbpaa
open Go.RowKit

theorem matchOk (m : List UInt8) : MatchOk m := fun t hk1 hp hk3 htx hh ih hnd => r6match m t hp hh (r6mt m t hk1 hp hk3 htx hh ih hnd)
/-- Every expression is read as the chapter says. -/
theorem exprEvery (m : List UInt8) (hm : m.length ≤ 140737488351232) (t : Tr) (hnd : nodes t ≤ 8192) (htx : TxOk t) : ExAll m t := exprAll m hm (matchOk m) _ t (Nat.le_refl _) hnd htx
theorem set9_6 {w : World} {b : Nat} {z0 z1 z2 z3 z4 z5 z6 z7 z8 : Value} {e : TypeId} (h : w.heap[b]? = some (.cells #[z0, z1, z2, z3, z4, z5, z6, z7, z8] e (0, 0))) (a0 a1 a2 a3 a4 a5 a6 a7 a8 : Value) : (((((((((w.setCell ⟨b, 0, none⟩ a0).setCell ⟨b, 1, none⟩ a1).setCell ⟨b, 2, none⟩ a2).setCell ⟨b, 3, none⟩ a3).setCell ⟨b, 4, none⟩ a4).setCell ⟨b, 5, none⟩ a5).setCell ⟨b, 6, none⟩ a6).setCell ⟨b, 7, none⟩ a7).setCell ⟨b, 8, none⟩ a8).heap[b]? = some (.cells #[a0, a1, a2, a3, a4, a5, a6, a7, a8] e (0, 0)) := by
  have h0 : (w.setCell ⟨b, 0, none⟩ a0).heap[b]? = some (.cells #[a0, z1, z2, z3, z4, z5, z6, z7, z8] e (0, 0)) := heap_setCell_same _ b 0 #[z0, z1, z2, z3, z4, z5, z6, z7, z8] e a0 h
  have h1 : ((w.setCell ⟨b, 0, none⟩ a0).setCell ⟨b, 1, none⟩ a1).heap[b]? = some (.cells #[a0, a1, z2, z3, z4, z5, z6, z7, z8] e (0, 0)) := heap_setCell_same _ b 1 #[a0, z1, z2, z3, z4, z5, z6, z7, z8] e a1 h0
  have h2 : (((w.setCell ⟨b, 0, none⟩ a0).setCell ⟨b, 1, none⟩ a1).setCell ⟨b, 2, none⟩ a2).heap[b]? = some (.cells #[a0, a1, a2, z3, z4, z5, z6, z7, z8] e (0, 0)) := heap_setCell_same _ b 2 #[a0, a1, z2, z3, z4, z5, z6, z7, z8] e a2 h1
  have h3 : ((((w.setCell ⟨b, 0, none⟩ a0).setCell ⟨b, 1, none⟩ a1).setCell ⟨b, 2, none⟩ a2).setCell ⟨b, 3, none⟩ a3).heap[b]? = some (.cells #[a0, a1, a2, a3, z4, z5, z6, z7, z8] e (0, 0)) := heap_setCell_same _ b 3 #[a0, a1, a2, z3, z4, z5, z6, z7, z8] e a3 h2
  have h4 : (((((w.setCell ⟨b, 0, none⟩ a0).setCell ⟨b, 1, none⟩ a1).setCell ⟨b, 2, none⟩ a2).setCell ⟨b, 3, none⟩ a3).setCell ⟨b, 4, none⟩ a4).heap[b]? = some (.cells #[a0, a1, a2, a3, a4, z5, z6, z7, z8] e (0, 0)) := heap_setCell_same _ b 4 #[a0, a1, a2, a3, z4, z5, z6, z7, z8] e a4 h3
  have h5 : ((((((w.setCell ⟨b, 0, none⟩ a0).setCell ⟨b, 1, none⟩ a1).setCell ⟨b, 2, none⟩ a2).setCell ⟨b, 3, none⟩ a3).setCell ⟨b, 4, none⟩ a4).setCell ⟨b, 5, none⟩ a5).heap[b]? = some (.cells #[a0, a1, a2, a3, a4, a5, z6, z7, z8] e (0, 0)) := heap_setCell_same _ b 5 #[a0, a1, a2, a3, a4, z5, z6, z7, z8] e a5 h4
  have h6 : (((((((w.setCell ⟨b, 0, none⟩ a0).setCell ⟨b, 1, none⟩ a1).setCell ⟨b, 2, none⟩ a2).setCell ⟨b, 3, none⟩ a3).setCell ⟨b, 4, none⟩ a4).setCell ⟨b, 5, none⟩ a5).setCell ⟨b, 6, none⟩ a6).heap[b]? = some (.cells #[a0, a1, a2, a3, a4, a5, a6, z7, z8] e (0, 0)) := heap_setCell_same _ b 6 #[a0, a1, a2, a3, a4, a5, z6, z7, z8] e a6 h5
  have h7 : ((((((((w.setCell ⟨b, 0, none⟩ a0).setCell ⟨b, 1, none⟩ a1).setCell ⟨b, 2, none⟩ a2).setCell ⟨b, 3, none⟩ a3).setCell ⟨b, 4, none⟩ a4).setCell ⟨b, 5, none⟩ a5).setCell ⟨b, 6, none⟩ a6).setCell ⟨b, 7, none⟩ a7).heap[b]? = some (.cells #[a0, a1, a2, a3, a4, a5, a6, a7, z8] e (0, 0)) := heap_setCell_same _ b 7 #[a0, a1, a2, a3, a4, a5, a6, z7, z8] e a7 h6
  have h8 : (((((((((w.setCell ⟨b, 0, none⟩ a0).setCell ⟨b, 1, none⟩ a1).setCell ⟨b, 2, none⟩ a2).setCell ⟨b, 3, none⟩ a3).setCell ⟨b, 4, none⟩ a4).setCell ⟨b, 5, none⟩ a5).setCell ⟨b, 6, none⟩ a6).setCell ⟨b, 7, none⟩ a7).setCell ⟨b, 8, none⟩ a8).heap[b]? = some (.cells #[a0, a1, a2, a3, a4, a5, a6, a7, a8] e (0, 0)) := heap_setCell_same _ b 8 #[a0, a1, a2, a3, a4, a5, a6, a7, z8] e a8 h7
  exact h8
theorem kept9_6 {w w0 : World} {b : Nat} (h : Kept (fun k => k = b) w0 w) (a0 a1 a2 a3 a4 a5 a6 a7 a8 : Value) : Kept (fun k => k = b) w0 (((((((((w.setCell ⟨b, 0, none⟩ a0).setCell ⟨b, 1, none⟩ a1).setCell ⟨b, 2, none⟩ a2).setCell ⟨b, 3, none⟩ a3).setCell ⟨b, 4, none⟩ a4).setCell ⟨b, 5, none⟩ a5).setCell ⟨b, 6, none⟩ a6).setCell ⟨b, 7, none⟩ a7).setCell ⟨b, 8, none⟩ a8) :=
  (((((((((h.setCell (p := ⟨b, 0, none⟩) (fun _ => rfl) a0).setCell (p := ⟨b, 1, none⟩) (fun _ => rfl) a1).setCell (p := ⟨b, 2, none⟩) (fun _ => rfl) a2).setCell (p := ⟨b, 3, none⟩) (fun _ => rfl) a3).setCell (p := ⟨b, 4, none⟩) (fun _ => rfl) a4).setCell (p := ⟨b, 5, none⟩) (fun _ => rfl) a5).setCell (p := ⟨b, 6, none⟩) (fun _ => rfl) a6).setCell (p := ⟨b, 7, none⟩) (fun _ => rfl) a7).setCell (p := ⟨b, 8, none⟩) (fun _ => rfl) a8)

def zero9 : Array Value := #[.int .i64 0, .int .i64 0, .string ⟨#[]⟩, .complex .f64 0 0, .string ⟨#[]⟩, .string ⟨#[]⟩, .slice none 0 0, .slice none 0 0, .slice none 0 0]
/-- What the document's own Expr answers. -/
def ExpE6 (r : PR Ex) (w : World) (e : Ending) (w' : World) : Prop :=
  (match r with
  | .ok x => ∃ kv pv av, e = .returned (.tuple #[exv x kv pv av, .int .i64 0, .int .i64 0]) ∧ XI (fun k => w.heap.size ≤ k ∧ k < w'.heap.size) w' kv pv av x
  | .error (y, b) => e = .returned (.tuple #[.agg zero9, .int .i64 (y : Int), .int .i64 (b : Int)])) ∧ Below w.heap.size w w'
theorem expE6_ok {r : PR Ex} {x : Ex} {w w' : World} {kv pv av : Value} (h : r = .ok x) (hx : XI (fun k => w.heap.size ≤ k ∧ k < w'.heap.size) w' kv pv av x) (hb : Below w.heap.size w w') : ExpE6 r w (.returned (.tuple #[exv x kv pv av, .int .i64 0, .int .i64 0])) w' := by
  subst h
  exact ⟨⟨kv, pv, av, rfl, hx⟩, hb⟩
theorem expE6_no {r : PR Ex} {y b : Nat} {w w' : World} (h : r = .error (y, b)) (hb : Below w.heap.size w w') : ExpE6 r w (.returned (.tuple #[.agg zero9, .int .i64 (y : Int), .int .i64 (b : Int)])) w' := by
  subst h
  exact ⟨rfl, hb⟩
set_option maxHeartbeats 4000000 in
set_option maxRecDepth 1000000 in
theorem refExpr6 (F : Nat → Prop) (t : Tr) (kv : Value) (m : List UInt8) (w : World) (hF : ∀ g, F g → g < w.heap.size) (hT : TL F w kv t.kids) (htx : TxOk t) (hnd : nodes t ≤ 8192) (hm : m.length ≤ 140737488351232) :
    Calls Try.prog 21 #[trv t kv, .string (str m)] w (ExpE6 (exprP m t) w) := by
  unfold trv
  have hb3 : Below w.heap.size w (((w.alloc (.cells #[.int .i64 (t.kind : Int), .int .i64 (t.place : Int), .string (str t.text), kv] 43)).alloc (.cells #[.int .i64 0, .int .i64 0, .string ⟨#[]⟩, .complex .f64 0 0, .string ⟨#[]⟩, .string ⟨#[]⟩, .slice none 0 0, .slice none 0 0, .slice none 0 0] 27)).alloc (.cells #[.string (str m), .int .i64 0, .int .i64 0] 83)) := (((Below.refl _ w).alloc (Nat.le_refl _) _).alloc (by simp) _).alloc (by simp; omega) _
  have hsz : (((w.alloc (.cells #[.int .i64 (t.kind : Int), .int .i64 (t.place : Int), .string (str t.text), kv] 43)).alloc (.cells #[.int .i64 0, .int .i64 0, .string ⟨#[]⟩, .complex .f64 0 0, .string ⟨#[]⟩, .string ⟨#[]⟩, .slice none 0 0, .slice none 0 0, .slice none 0 0] 27)).alloc (.cells #[.string (str m), .int .i64 0, .int .i64 0] 83)).heap.size = w.heap.size + 3 := by simp
  have hTb : (((w.alloc (.cells #[.int .i64 (t.kind : Int), .int .i64 (t.place : Int), .string (str t.text), kv] 43)).alloc (.cells #[.int .i64 0, .int .i64 0, .string ⟨#[]⟩, .complex .f64 0 0, .string ⟨#[]⟩, .string ⟨#[]⟩, .slice none 0 0, .slice none 0 0, .slice none 0 0] 27)).alloc (.cells #[.string (str m), .int .i64 0, .int .i64 0] 83)).heap[w.heap.size]? = some (.cells #[.int .i64 (t.kind : Int), .int .i64 (t.place : Int), .string (str t.text), kv] 43 (0, 0)) := (Below.heap_alloc _ _ _ (by simp; omega)).trans ((Below.heap_alloc _ _ _ (by simp)).trans (heap_alloc_new w _))
  have hZ : (((w.alloc (.cells #[.int .i64 (t.kind : Int), .int .i64 (t.place : Int), .string (str t.text), kv] 43)).alloc (.cells #[.int .i64 0, .int .i64 0, .string ⟨#[]⟩, .complex .f64 0 0, .string ⟨#[]⟩, .string ⟨#[]⟩, .slice none 0 0, .slice none 0 0, .slice none 0 0] 27)).alloc (.cells #[.string (str m), .int .i64 0, .int .i64 0] 83)).heap[w.heap.size + 1]? = some (.cells #[.int .i64 0, .int .i64 0, .string ⟨#[]⟩, .complex .f64 0 0, .string ⟨#[]⟩, .string ⟨#[]⟩, .slice none 0 0, .slice none 0 0, .slice none 0 0] 27 (0, 0)) := by
    refine (Below.heap_alloc _ _ _ (by simp)).trans ?_
    have := heap_alloc_new (w.alloc (.cells #[.int .i64 (t.kind : Int), .int .i64 (t.place : Int), .string (str t.text), kv] 43)) (.cells #[.int .i64 0, .int .i64 0, .string ⟨#[]⟩, .complex .f64 0 0, .string ⟨#[]⟩, .string ⟨#[]⟩, .slice none 0 0, .slice none 0 0, .slice none 0 0] 27)
    simpa using this
  have hRI : RI (((w.alloc (.cells #[.int .i64 (t.kind : Int), .int .i64 (t.place : Int), .string (str t.text), kv] 43)).alloc (.cells #[.int .i64 0, .int .i64 0, .string ⟨#[]⟩, .complex .f64 0 0, .string ⟨#[]⟩, .string ⟨#[]⟩, .slice none 0 0, .slice none 0 0, .slice none 0 0] 27)).alloc (.cells #[.string (str m), .int .i64 0, .int .i64 0] 83)) (w.heap.size + 2) m none := by
    refine ⟨?_, fun e he => by cases he⟩
    have := heap_alloc_new ((w.alloc (.cells #[.int .i64 (t.kind : Int), .int .i64 (t.place : Int), .string (str t.text), kv] 43)).alloc (.cells #[.int .i64 0, .int .i64 0, .string ⟨#[]⟩, .complex .f64 0 0, .string ⟨#[]⟩, .string ⟨#[]⟩, .slice none 0 0, .slice none 0 0, .slice none 0 0] 27)) (.cells #[.string (str m), .int .i64 0, .int .i64 0] 83)
    simpa using this
  have hex := exprEvery m hm t hnd htx F (w.heap.size + 2) kv (((w.alloc (.cells #[.int .i64 (t.kind : Int), .int .i64 (t.place : Int), .string (str t.text), kv] 43)).alloc (.cells #[.int .i64 0, .int .i64 0, .string ⟨#[]⟩, .complex .f64 0 0, .string ⟨#[]⟩, .string ⟨#[]⟩, .slice none 0 0, .slice none 0 0, .slice none 0 0] 27)).alloc (.cells #[.string (str m), .int .i64 0, .int .i64 0] 83)) hRI (hT.below hb3 hF) (fun g hg => ⟨by have := hF g hg; omega, by have := hF g hg; omega⟩)
  unfold trv at hex
  obtain ⟨t0, t1, t2, t3⟩ := tree_cells hTb
  clear hT hRI
  go_enter Try.func21, Try.ntmps21
  go_wp2_with fail
  generalize (((w.alloc (.cells #[.int .i64 (t.kind : Int), .int .i64 (t.place : Int), .string (str t.text), kv] 43)).alloc (.cells #[.int .i64 0, .int .i64 0, .string ⟨#[]⟩, .complex .f64 0 0, .string ⟨#[]⟩, .string ⟨#[]⟩, .slice none 0 0, .slice none 0 0, .slice none 0 0] 27)).alloc (.cells #[.string (str m), .int .i64 0, .int .i64 0] 83)) = w3 at *
  refine hex.mono ?_
  rintro e w4 ⟨x, kv1, pv1, av1, rfl, ⟨ka, kn, kc, rfl⟩, ⟨pa, pn, pc, rfl⟩, ⟨aa, an, ac, rfl⟩, hq4, hx4⟩
  have hs4 := hq4.2.size
  have hz4 := heap_alloc_new w4 (.cells #[.int .i64 0, .int .i64 0, .string ⟨#[]⟩, .complex .f64 0 0, .string ⟨#[]⟩, .string ⟨#[]⟩, .slice none 0 0, .slice none 0 0, .slice none 0 0] 27)
  have K8 := setRow_kept6 (w4.alloc (.cells #[.int .i64 0, .int .i64 0, .string ⟨#[]⟩, .complex .f64 0 0, .string ⟨#[]⟩, .string ⟨#[]⟩, .slice none 0 0, .slice none 0 0, .slice none 0 0] 27)) w4.heap.size #[.int .i64 (x.kind : Int), .int .i64 (x.place : Int), .string (str x.name), .complex .f64 (floatOfInt .f64 x.re) (floatOfInt .f64 x.im), .string (str x.text), .string (str x.ty), .slice ka kn kc, .slice pa pn pc, .slice aa an ac]
  have hbl8 : Below w4.heap.size w4 (w4.alloc (.cells #[.int .i64 0, .int .i64 0, .string ⟨#[]⟩, .complex .f64 0 0, .string ⟨#[]⟩, .string ⟨#[]⟩, .slice none 0 0, .slice none 0 0, .slice none 0 0] 27)) := (Below.refl _ _).alloc (Nat.le_refl _) _
  have hfr : ∀ g, g < w4.heap.size → ((w4.alloc (.cells #[.int .i64 0, .int .i64 0, .string ⟨#[]⟩, .complex .f64 0 0, .string ⟨#[]⟩, .string ⟨#[]⟩, .slice none 0 0, .slice none 0 0, .slice none 0 0] 27)).setRow w4.heap.size #[.int .i64 (x.kind : Int), .int .i64 (x.place : Int), .string (str x.name), .complex .f64 (floatOfInt .f64 x.re) (floatOfInt .f64 x.im), .string (str x.text), .string (str x.ty), .slice ka kn kc, .slice pa pn pc, .slice aa an ac]).heap[g]? = w4.heap[g]? := fun g hg => (K8.block g (by simp; omega) (by omega)).trans (hbl8.block g hg)
  have hR8 : RI ((w4.alloc (.cells #[.int .i64 0, .int .i64 0, .string ⟨#[]⟩, .complex .f64 0 0, .string ⟨#[]⟩, .string ⟨#[]⟩, .slice none 0 0, .slice none 0 0, .slice none 0 0] 27)).setRow w4.heap.size #[.int .i64 (x.kind : Int), .int .i64 (x.place : Int), .string (str x.name), .complex .f64 (floatOfInt .f64 x.re) (floatOfInt .f64 x.im), .string (str x.text), .string (str x.ty), .slice ka kn kc, .slice pa pn pc, .slice aa an ac]) (w.heap.size + 2) m (orR none (exprP m t)) := ⟨(hfr _ (by omega)).trans hq4.1.1, hq4.1.2⟩
  have hZ8 : ((w4.alloc (.cells #[.int .i64 0, .int .i64 0, .string ⟨#[]⟩, .complex .f64 0 0, .string ⟨#[]⟩, .string ⟨#[]⟩, .slice none 0 0, .slice none 0 0, .slice none 0 0] 27)).setRow w4.heap.size #[.int .i64 (x.kind : Int), .int .i64 (x.place : Int), .string (str x.name), .complex .f64 (floatOfInt .f64 x.re) (floatOfInt .f64 x.im), .string (str x.text), .string (str x.ty), .slice ka kn kc, .slice pa pn pc, .slice aa an ac]).heap[w.heap.size + 1]? = some (.cells #[.int .i64 0, .int .i64 0, .string ⟨#[]⟩, .complex .f64 0 0, .string ⟨#[]⟩, .string ⟨#[]⟩, .slice none 0 0, .slice none 0 0, .slice none 0 0] 27 (0, 0)) := (hfr _ (by omega)).trans ((hq4.2.block _ (by omega) (by omega)).trans hZ)
  have hX8 : ((w4.alloc (.cells #[.int .i64 0, .int .i64 0, .string ⟨#[]⟩, .complex .f64 0 0, .string ⟨#[]⟩, .string ⟨#[]⟩, .slice none 0 0, .slice none 0 0, .slice none 0 0] 27)).setRow w4.heap.size #[.int .i64 (x.kind : Int), .int .i64 (x.place : Int), .string (str x.name), .complex .f64 (floatOfInt .f64 x.re) (floatOfInt .f64 x.im), .string (str x.text), .string (str x.ty), .slice ka kn kc, .slice pa pn pc, .slice aa an ac]).heap[w4.heap.size]? = some (.cells #[.int .i64 (x.kind : Int), .int .i64 (x.place : Int), .string (str x.name), .complex .f64 (floatOfInt .f64 x.re) (floatOfInt .f64 x.im), .string (str x.text), .string (str x.ty), .slice ka kn kc, .slice pa pn pc, .slice aa an ac] 27 (0, 0)) := setRow_same6 _ _ _ _ _ _ hz4
  have hs8 : ((w4.alloc (.cells #[.int .i64 0, .int .i64 0, .string ⟨#[]⟩, .complex .f64 0 0, .string ⟨#[]⟩, .string ⟨#[]⟩, .slice none 0 0, .slice none 0 0, .slice none 0 0] 27)).setRow w4.heap.size #[.int .i64 (x.kind : Int), .int .i64 (x.place : Int), .string (str x.name), .complex .f64 (floatOfInt .f64 x.re) (floatOfInt .f64 x.im), .string (str x.text), .string (str x.ty), .slice ka kn kc, .slice pa pn pc, .slice aa an ac]).heap.size = w4.heap.size + 1 := by simp [World.setRow]
  have hb8 : Below w.heap.size w ((w4.alloc (.cells #[.int .i64 0, .int .i64 0, .string ⟨#[]⟩, .complex .f64 0 0, .string ⟨#[]⟩, .string ⟨#[]⟩, .slice none 0 0, .slice none 0 0, .slice none 0 0] 27)).setRow w4.heap.size #[.int .i64 (x.kind : Int), .int .i64 (x.place : Int), .string (str x.name), .complex .f64 (floatOfInt .f64 x.re) (floatOfInt .f64 x.im), .string (str x.text), .string (str x.ty), .slice ka kn kc, .slice pa pn pc, .slice aa an ac]) := ((hb3.trans (hq4.2.below (by omega) (fun k hk e => by omega))).alloc (by omega) _).trans (K8.below (by simp; omega) (fun k hk e => by omega))
  clear hex t0 t1 t2 t3 hTb hZ hq4 K8 hbl8
  unfold exv
  go_upto_region 3 with (refine wpList_store_row rfl 27 (.tmp 8) (.tmp 14) rfl w4.heap.size #[.int .i64 (x.kind : Int), .int .i64 (x.place : Int), .string (str x.name), .complex .f64 (floatOfInt .f64 x.re) (floatOfInt .f64 x.im), .string (str x.text), .string (str x.ty), .slice ka kn kc, .slice pa pn pc, .slice aa an ac] rfl rfl 27 #[.int .i64 0, .int .i64 0, .string ⟨#[]⟩, .complex .f64 0 0, .string ⟨#[]⟩, .string ⟨#[]⟩, .slice none 0 0, .slice none 0 0, .slice none 0 0] hz4 sizeEx rfl (by first | kernel_rfl | rfl | simp [Value.oneCell']) ?_)
  generalize hU8 : ((w4.alloc (.cells #[.int .i64 0, .int .i64 0, .string ⟨#[]⟩, .complex .f64 0 0, .string ⟨#[]⟩, .string ⟨#[]⟩, .slice none 0 0, .slice none 0 0, .slice none 0 0] 27)).setRow w4.heap.size #[.int .i64 (x.kind : Int), .int .i64 (x.place : Int), .string (str x.name), .complex .f64 (floatOfInt .f64 x.re) (floatOfInt .f64 x.im), .string (str x.text), .string (str x.ty), .slice ka kn kc, .slice pa pn pc, .slice aa an ac]) = w8 at *
  have hS8 := hidden hs8
  have hFr := hidden hfr
  clear hU8 hs8 hfr
  have hR8' : RI w8 (w.heap.size + 1 + 1) m (orR none (exprP m t)) := hR8
  obtain ⟨r0, r1, r2, _, _⟩ := hR8'.cells
  cases hr : exprP m t with
  | ok y =>
    obtain ⟨rfl, hXI⟩ := hx4 y hr
    rw [hr] at r1 r2
    have q1 : w8.cell? ⟨w.heap.size + 1 + 1, 1, none⟩ = some (.int .i64 0) := r1
    obtain ⟨⟨e0, e1, e2, e3, e4, e5, e6, e7, e8⟩, ef⟩ := nine9 hX8
    have HRR := hidden hr
    clear hx4 r0 r1 r2 hR8 hR8' hr
    go_wp2_with (refine wpList_store_row rfl 27 (.tmp 4) (.tmp 29) rfl (w.heap.size + 1) #[.int .i64 (x.kind : Int), .int .i64 (x.place : Int), .string (str x.name), .complex .f64 (floatOfInt .f64 x.re) (floatOfInt .f64 x.im), .string (str x.text), .string (str x.ty), .slice ka kn kc, .slice pa pn pc, .slice aa an ac] rfl rfl 27 #[.int .i64 0, .int .i64 0, .string ⟨#[]⟩, .complex .f64 0 0, .string ⟨#[]⟩, .string ⟨#[]⟩, .slice none 0 0, .slice none 0 0, .slice none 0 0] hZ8 sizeEx rfl (by first | kernel_rfl | rfl | simp [Value.oneCell']) ?_)
    (try simp only [Exit.inBlock, Exit.then])
    refine bodyPost_ret (res_cell3 rfl _ _ (w.heap.size + 1) 27 #[.int .i64 (x.kind : Int), .int .i64 (x.place : Int), .string (str x.name), .complex .f64 (floatOfInt .f64 x.re) (floatOfInt .f64 x.im), .string (str x.text), .string (str x.ty), .slice ka kn kc, .slice pa pn pc, .slice aa an ac] (0, 0) _ rfl (setRow_same6 _ _ _ _ _ _ hZ8) Try.underlying27 rfl sizeEx) rfl ?_
    have K9 := setRow_kept6 w8 (w.heap.size + 1) #[.int .i64 (x.kind : Int), .int .i64 (x.place : Int), .string (str x.name), .complex .f64 (floatOfInt .f64 x.re) (floatOfInt .f64 x.im), .string (str x.text), .string (str x.ty), .slice ka kn kc, .slice pa pn pc, .slice aa an ac]
    have hz9 := K9.size
    have h8 := hS8.out
    exact expE6_ok (kv := .slice ka kn kc) (pv := .slice pa pn pc) (av := .slice aa an ac) HRR.out (XI.frame (fun g hg => ⟨⟨by have := hg.1; omega, by have := hg.2; omega⟩, by rw [K9.block g (by have := hg.2; omega) (by have := hg.1; omega), hFr.out g hg.2]⟩) _ hXI) (hb8.trans (K9.below (by omega) (fun k hk e => by omega)))
  | error e =>
    obtain ⟨y, b⟩ := e
    rw [hr] at r1 r2
    have hy : y ≠ 0 := hR8.2 (y, b) (by rw [hr]; rfl)
    have q1 : w8.cell? ⟨w.heap.size + 1 + 1, 1, none⟩ = some (.int .i64 (y : Int)) := r1
    have q2 : w8.cell? ⟨w.heap.size + 1 + 1, 2, none⟩ = some (.int .i64 (b : Int)) := r2
    have hyb : ((y : Int) != 0) = true := by rw [bne_iff_ne]; omega
    have HRR := hidden hr
    clear hx4 r0 r1 r2 hR8 hR8' hr
    have c0 : w8.cell? ⟨w.heap.size + 1, 0, none⟩ = some (.int .i64 0) := by rw [cell_of_row w8 _ 0 _ _ _ hZ8]; rfl
    have f0 := frozen_of_row w8 (w.heap.size + 1) 0 _ _ hZ8
    have c1 : w8.cell? ⟨w.heap.size + 1, 1, none⟩ = some (.int .i64 0) := by rw [cell_of_row w8 _ 1 _ _ _ hZ8]; rfl
    have f1 := frozen_of_row w8 (w.heap.size + 1) 1 _ _ hZ8
    have c2 : w8.cell? ⟨w.heap.size + 1, 2, none⟩ = some (.string ⟨#[]⟩) := by rw [cell_of_row w8 _ 2 _ _ _ hZ8]; rfl
    have f2 := frozen_of_row w8 (w.heap.size + 1) 2 _ _ hZ8
    have c3 : w8.cell? ⟨w.heap.size + 1, 3, none⟩ = some (.complex .f64 0 0) := by rw [cell_of_row w8 _ 3 _ _ _ hZ8]; rfl
    have f3 := frozen_of_row w8 (w.heap.size + 1) 3 _ _ hZ8
    have c4 : w8.cell? ⟨w.heap.size + 1, 4, none⟩ = some (.string ⟨#[]⟩) := by rw [cell_of_row w8 _ 4 _ _ _ hZ8]; rfl
    have f4 := frozen_of_row w8 (w.heap.size + 1) 4 _ _ hZ8
    have c5 : w8.cell? ⟨w.heap.size + 1, 5, none⟩ = some (.string ⟨#[]⟩) := by rw [cell_of_row w8 _ 5 _ _ _ hZ8]; rfl
    have f5 := frozen_of_row w8 (w.heap.size + 1) 5 _ _ hZ8
    have c6 : w8.cell? ⟨w.heap.size + 1, 6, none⟩ = some (.slice none 0 0) := by rw [cell_of_row w8 _ 6 _ _ _ hZ8]; rfl
    have f6 := frozen_of_row w8 (w.heap.size + 1) 6 _ _ hZ8
    have c7 : w8.cell? ⟨w.heap.size + 1, 7, none⟩ = some (.slice none 0 0) := by rw [cell_of_row w8 _ 7 _ _ _ hZ8]; rfl
    have f7 := frozen_of_row w8 (w.heap.size + 1) 7 _ _ hZ8
    have c8 : w8.cell? ⟨w.heap.size + 1, 8, none⟩ = some (.slice none 0 0) := by rw [cell_of_row w8 _ 8 _ _ _ hZ8]; rfl
    have f8 := frozen_of_row w8 (w.heap.size + 1) 8 _ _ hZ8
    have hn0 : (w8.setCell ⟨w.heap.size + 1, 0, none⟩ (.int .i64 0)).heap[w.heap.size + 1]? = some (.cells #[.int .i64 0, .int .i64 0, .string ⟨#[]⟩, .complex .f64 0 0, .string ⟨#[]⟩, .string ⟨#[]⟩, .slice none 0 0, .slice none 0 0, .slice none 0 0] 27 (0, 0)) := heap_setCell_same _ _ 0 #[.int .i64 0, .int .i64 0, .string ⟨#[]⟩, .complex .f64 0 0, .string ⟨#[]⟩, .string ⟨#[]⟩, .slice none 0 0, .slice none 0 0, .slice none 0 0] _ _ hZ8
    have hn1 : ((w8.setCell ⟨w.heap.size + 1, 0, none⟩ (.int .i64 0)).setCell ⟨w.heap.size + 1, 1, none⟩ (.int .i64 0)).heap[w.heap.size + 1]? = some (.cells #[.int .i64 0, .int .i64 0, .string ⟨#[]⟩, .complex .f64 0 0, .string ⟨#[]⟩, .string ⟨#[]⟩, .slice none 0 0, .slice none 0 0, .slice none 0 0] 27 (0, 0)) := heap_setCell_same _ _ 1 #[.int .i64 0, .int .i64 0, .string ⟨#[]⟩, .complex .f64 0 0, .string ⟨#[]⟩, .string ⟨#[]⟩, .slice none 0 0, .slice none 0 0, .slice none 0 0] _ _ hn0
    have hn2 : (((w8.setCell ⟨w.heap.size + 1, 0, none⟩ (.int .i64 0)).setCell ⟨w.heap.size + 1, 1, none⟩ (.int .i64 0)).setCell ⟨w.heap.size + 1, 2, none⟩ (.string ⟨#[]⟩)).heap[w.heap.size + 1]? = some (.cells #[.int .i64 0, .int .i64 0, .string ⟨#[]⟩, .complex .f64 0 0, .string ⟨#[]⟩, .string ⟨#[]⟩, .slice none 0 0, .slice none 0 0, .slice none 0 0] 27 (0, 0)) := heap_setCell_same _ _ 2 #[.int .i64 0, .int .i64 0, .string ⟨#[]⟩, .complex .f64 0 0, .string ⟨#[]⟩, .string ⟨#[]⟩, .slice none 0 0, .slice none 0 0, .slice none 0 0] _ _ hn1
    have hst : (store ⟨w.heap.size + 1, 3, none⟩ (.complex .f64 0 0)).run Try.prog (((w8.setCell ⟨w.heap.size + 1, 0, none⟩ (.int .i64 0)).setCell ⟨w.heap.size + 1, 1, none⟩ (.int .i64 0)).setCell ⟨w.heap.size + 1, 2, none⟩ (.string ⟨#[]⟩)).drew = .ok () ((((w8.setCell ⟨w.heap.size + 1, 0, none⟩ (.int .i64 0)).setCell ⟨w.heap.size + 1, 1, none⟩ (.int .i64 0)).setCell ⟨w.heap.size + 1, 2, none⟩ (.string ⟨#[]⟩)).setCell ⟨w.heap.size + 1, 3, none⟩ (.complex .f64 0 0)).drew := by
      rw [run_store _ _ _ _ _ rfl]
      have c3' : (((w8.setCell ⟨w.heap.size + 1, 0, none⟩ (.int .i64 0)).setCell ⟨w.heap.size + 1, 1, none⟩ (.int .i64 0)).setCell ⟨w.heap.size + 1, 2, none⟩ (.string ⟨#[]⟩)).drew.cell? ⟨w.heap.size + 1, 3, none⟩ = some (.complex .f64 0 0) := by
        show (((w8.setCell ⟨w.heap.size + 1, 0, none⟩ (.int .i64 0)).setCell ⟨w.heap.size + 1, 1, none⟩ (.int .i64 0)).setCell ⟨w.heap.size + 1, 2, none⟩ (.string ⟨#[]⟩)).cell? ⟨w.heap.size + 1, 3, none⟩ = _
        rw [cell_of_row _ _ 3 _ _ _ hn2]; rfl
      have f3' : (((w8.setCell ⟨w.heap.size + 1, 0, none⟩ (.int .i64 0)).setCell ⟨w.heap.size + 1, 1, none⟩ (.int .i64 0)).setCell ⟨w.heap.size + 1, 2, none⟩ (.string ⟨#[]⟩)).drew.frozen? ⟨w.heap.size + 1, 3, none⟩ = false := frozen_of_row (((w8.setCell ⟨w.heap.size + 1, 0, none⟩ (.int .i64 0)).setCell ⟨w.heap.size + 1, 1, none⟩ (.int .i64 0)).setCell ⟨w.heap.size + 1, 2, none⟩ (.string ⟨#[]⟩)) (w.heap.size + 1) 3 _ _ hn2
      rw [c3', f3']
      rfl
    have hbox := set9_6 (w := w8) hZ8 (.int .i64 0) (.int .i64 0) (.string ⟨#[]⟩) (.complex .f64 0 0) (.string ⟨#[]⟩) (.string ⟨#[]⟩) (.slice none 0 0) (.slice none 0 0) (.slice none 0 0)
    have K9 := kept9_6 (w0 := w8) (w := w8) (b := w.heap.size + 1) (Kept.refl _ _) (.int .i64 0) (.int .i64 0) (.string ⟨#[]⟩) (.complex .f64 0 0) (.string ⟨#[]⟩) (.string ⟨#[]⟩) (.slice none 0 0) (.slice none 0 0) (.slice none 0 0)
    clear hn0 hn1 hn2
    go_wp2_with fail
    go_region
    all_goals (
      go_wp2_with fail
      (try simp only [Exit.inBlock, Exit.then])
      generalize (((((((((w8.setCell ⟨w.heap.size + 1, 0, none⟩ (.int .i64 0)).setCell ⟨w.heap.size + 1, 1, none⟩ (.int .i64 0)).setCell ⟨w.heap.size + 1, 2, none⟩ (.string ⟨#[]⟩)).setCell ⟨w.heap.size + 1, 3, none⟩ (.complex .f64 0 0)).setCell ⟨w.heap.size + 1, 4, none⟩ (.string ⟨#[]⟩)).setCell ⟨w.heap.size + 1, 5, none⟩ (.string ⟨#[]⟩)).setCell ⟨w.heap.size + 1, 6, none⟩ (.slice none 0 0)).setCell ⟨w.heap.size + 1, 7, none⟩ (.slice none 0 0)).setCell ⟨w.heap.size + 1, 8, none⟩ (.slice none 0 0)) = w9 at *
      refine bodyPost_ret (res_cell3 rfl _ _ (w.heap.size + 1) 27 #[.int .i64 0, .int .i64 0, .string ⟨#[]⟩, .complex .f64 0 0, .string ⟨#[]⟩, .string ⟨#[]⟩, .slice none 0 0, .slice none 0 0, .slice none 0 0] (0, 0) _ rfl (show w9.drew.heap[w.heap.size + 1]? = _ from hbox) Try.underlying27 rfl sizeEx) rfl ?_
      have h8 := hS8.out
      exact expE6_no HRR.out (hb8.trans (K9.below (by omega) (fun k hk e => by omega))).drew)
end Go.Proofs.Ytcokihblicgbpaa
