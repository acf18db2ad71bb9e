/-
  The package's Expr: what is refused.
  And: A tree with a word at its beginning that has no form of its own. No program in it. The text of a call of several pieces, as a tree with its places; and as an expression. No program in it.
-/
import Derived.Test.YtchfhkfepghfjaaPfBe
import Derived.Test.YtchfhkfepghfjaaPfAl
import Derived.Test.YtchfhkfepghfjaaPfAf
namespace Go.Proofs.Ytchfhkfepghfjaa
open Go.RowKit

set_option maxHeartbeats 2000000 in
set_option maxRecDepth 1000000 in
theorem exprOf_no (F : Nat → Prop) (t : Tr) (kv : Value) (m : List UInt8) (w : World) (hF : ∀ g, F g → g < w.heap.size) (hT : TL F w kv t.kids) (htx : TxOk t) (hnd : nodes t ≤ 20000) (hm : m.length ≤ 8192) (y b : Nat) (hr : exprP m t = .error (y, b)) :
    Calls Try.prog 6 #[trv t kv, .string (str m)] w (ExprE (exprP m t) w) := by
  unfold trv
  have hb3 : Below w.heap.size w (((w.alloc (.cells #[.int .i64 (t.kind : Int), .int .i64 (t.place : Int), .string (str t.text), kv] 27)).alloc (.cells #[.int .i64 0, .int .i64 0, .string ⟨#[]⟩, .complex .f64 0 0, .string ⟨#[]⟩, .string ⟨#[]⟩, .slice none 0 0, .slice none 0 0, .slice none 0 0] 36)).alloc (.cells #[.string (str m), .slice none 0 0, .int .i64 0, .int .i64 0] 51)) := (((Below.refl _ _).alloc (Nat.le_refl _) _).alloc (by simp) _).alloc (by simp; omega) _
  have hc := cells_new w [.int .i64 (t.kind : Int), .int .i64 (t.place : Int), .string (str t.text), kv] 27
  have hs1 : (w.alloc (.cells #[.int .i64 (t.kind : Int), .int .i64 (t.place : Int), .string (str t.text), kv] 27)).heap.size = w.heap.size + 1 := by simp
  have hs2 : ((w.alloc (.cells #[.int .i64 (t.kind : Int), .int .i64 (t.place : Int), .string (str t.text), kv] 27)).alloc (.cells #[.int .i64 0, .int .i64 0, .string ⟨#[]⟩, .complex .f64 0 0, .string ⟨#[]⟩, .string ⟨#[]⟩, .slice none 0 0, .slice none 0 0, .slice none 0 0] 36)).heap.size = w.heap.size + 2 := by simp
  have HS3 : Hid ((((w.alloc (.cells #[.int .i64 (t.kind : Int), .int .i64 (t.place : Int), .string (str t.text), kv] 27)).alloc (.cells #[.int .i64 0, .int .i64 0, .string ⟨#[]⟩, .complex .f64 0 0, .string ⟨#[]⟩, .string ⟨#[]⟩, .slice none 0 0, .slice none 0 0, .slice none 0 0] 36)).alloc (.cells #[.string (str m), .slice none 0 0, .int .i64 0, .int .i64 0] 51)).heap.size = w.heap.size + 3) := by rw [hid_iff]; simp
  have hb1 : Below (w.alloc (.cells #[.int .i64 (t.kind : Int), .int .i64 (t.place : Int), .string (str t.text), kv] 27)).heap.size (w.alloc (.cells #[.int .i64 (t.kind : Int), .int .i64 (t.place : Int), .string (str t.text), kv] 27)) (((w.alloc (.cells #[.int .i64 (t.kind : Int), .int .i64 (t.place : Int), .string (str t.text), kv] 27)).alloc (.cells #[.int .i64 0, .int .i64 0, .string ⟨#[]⟩, .complex .f64 0 0, .string ⟨#[]⟩, .string ⟨#[]⟩, .slice none 0 0, .slice none 0 0, .slice none 0 0] 36)).alloc (.cells #[.string (str m), .slice none 0 0, .int .i64 0, .int .i64 0] 51)) := ((Below.refl _ _).alloc (Nat.le_refl _) _).alloc (by simp) _
  have hP : PT (fun g => F g ∨ g = w.heap.size) (((w.alloc (.cells #[.int .i64 (t.kind : Int), .int .i64 (t.place : Int), .string (str t.text), kv] 27)).alloc (.cells #[.int .i64 0, .int .i64 0, .string ⟨#[]⟩, .complex .f64 0 0, .string ⟨#[]⟩, .string ⟨#[]⟩, .slice none 0 0, .slice none 0 0, .slice none 0 0] 36)).alloc (.cells #[.string (str m), .slice none 0 0, .int .i64 0, .int .i64 0] 51)) w.heap.size 0 t := by
    have hT1 : TL (fun g => F g ∨ g = w.heap.size) (w.alloc (.cells #[.int .i64 (t.kind : Int), .int .i64 (t.place : Int), .string (str t.text), kv] 27)) kv t.kids := hT.frame fun g hg => ⟨.inl hg, Below.heap_alloc _ _ _ (hF g hg)⟩
    have hP0 : PT (fun g => F g ∨ g = w.heap.size) (w.alloc (.cells #[.int .i64 (t.kind : Int), .int .i64 (t.place : Int), .string (str t.text), kv] 27)) w.heap.size 0 t := ⟨.inr rfl, kv, hT1, by rw [← hc 0 _ rfl, add_at], by rw [← hc 1 _ rfl, add_at], by rw [← hc 2 _ rfl, add_at], by rw [← hc 3 _ rfl, add_at]⟩
    exact hP0.below hb1 (fun g hg => by rw [hs1]; rcases hg with hg | hg; have := hF g hg; omega; omega)
  have hD : DIs (((w.alloc (.cells #[.int .i64 (t.kind : Int), .int .i64 (t.place : Int), .string (str t.text), kv] 27)).alloc (.cells #[.int .i64 0, .int .i64 0, .string ⟨#[]⟩, .complex .f64 0 0, .string ⟨#[]⟩, .string ⟨#[]⟩, .slice none 0 0, .slice none 0 0, .slice none 0 0] 36)).alloc (.cells #[.string (str m), .slice none 0 0, .int .i64 0, .int .i64 0] 51)) (w.heap.size + 2) m (.slice none 0 0) none := by
    have := heap_alloc_new ((w.alloc (.cells #[.int .i64 (t.kind : Int), .int .i64 (t.place : Int), .string (str t.text), kv] 27)).alloc (.cells #[.int .i64 0, .int .i64 0, .string ⟨#[]⟩, .complex .f64 0 0, .string ⟨#[]⟩, .string ⟨#[]⟩, .slice none 0 0, .slice none 0 0, .slice none 0 0] 36)) (.cells #[.string (str m), .slice none 0 0, .int .i64 0, .int .i64 0] 51)
    rw [hs2] at this
    exact this
  have hA4 : At (((w.alloc (.cells #[.int .i64 (t.kind : Int), .int .i64 (t.place : Int), .string (str t.text), kv] 27)).alloc (.cells #[.int .i64 0, .int .i64 0, .string ⟨#[]⟩, .complex .f64 0 0, .string ⟨#[]⟩, .string ⟨#[]⟩, .slice none 0 0, .slice none 0 0, .slice none 0 0] 36)).alloc (.cells #[.string (str m), .slice none 0 0, .int .i64 0, .int .i64 0] 51)) (w.heap.size + 1) [] exz [] 36 := by
    have h0 := at_zero (w.alloc (.cells #[.int .i64 (t.kind : Int), .int .i64 (t.place : Int), .string (str t.text), kv] 27))
    rw [hs1] at h0
    exact (Below.heap_alloc ((w.alloc (.cells #[.int .i64 (t.kind : Int), .int .i64 (t.place : Int), .string (str t.text), kv] 27)).alloc (.cells #[.int .i64 0, .int .i64 0, .string ⟨#[]⟩, .complex .f64 0 0, .string ⟨#[]⟩, .string ⟨#[]⟩, .slice none 0 0, .slice none 0 0, .slice none 0 0] 36)) (.cells #[.string (str m), .slice none 0 0, .int .i64 0, .int .i64 0] 51) (w.heap.size + 1) (by rw [hs2]; omega)).trans h0
  have hre := readExpr (fun g => F g ∨ g = w.heap.size) t w.heap.size 0 (((w.alloc (.cells #[.int .i64 (t.kind : Int), .int .i64 (t.place : Int), .string (str t.text), kv] 27)).alloc (.cells #[.int .i64 0, .int .i64 0, .string ⟨#[]⟩, .complex .f64 0 0, .string ⟨#[]⟩, .string ⟨#[]⟩, .slice none 0 0, .slice none 0 0, .slice none 0 0] 36)).alloc (.cells #[.string (str m), .slice none 0 0, .int .i64 0, .int .i64 0] 51)) (w.heap.size + 2) m (.slice none 0 0) hD (World.ownsRow_nil _ _ _ _) hP (fun b hb => by rcases hb with hb | hb; have := hF b hb; omega; omega) htx hnd hm 20000 (Nat.le_refl _)
  clear hc hs1 hs2 hb1 hP hD hT
  go_enter Try.func6, Try.ntmps6
  go_wp2_with fail
  refine hre.mono ?_
  rintro e w4 ⟨X, tv', n, xs, rfl, hX9, hD4, hown, hn, hE4, hok⟩
  have hs4 := hE4.size
  rw [HS3.out] at hs4
  have hA5 := hA4.ev hE4 (by decide) (by omega) (by omega)
  have hb4 := ev_below hb3 hE4 (by omega)
  have h8 := at_zero w4
  have h8' : (w4.alloc (.cells #[.int .i64 0, .int .i64 0, .string ⟨#[]⟩, .complex .f64 0 0, .string ⟨#[]⟩, .string ⟨#[]⟩, .slice none 0 0, .slice none 0 0, .slice none 0 0] 36)).heap[w4.heap.size]? = some (.cells exz.toArray 36 (0, 0)) := by
    unfold At at h8
    rwa [List.nil_append, List.append_nil] at h8
  have hsz : exz.toArray.size = X.toArray.size := by rw [List.size_toArray, List.size_toArray, hX9.1]; rfl
  have hall : X.toArray.all (fun v => v.oneCell') = true := by simpa using hX9.2
  have h9 := arr9 hX9
  clear hre h8 hb3 hA4
  have HS4 : Hid (w.heap.size + 3 ≤ w4.heap.size) := hs4
  have K8 := setRow_kept (w4.alloc (.cells #[.int .i64 0, .int .i64 0, .string ⟨#[]⟩, .complex .f64 0 0, .string ⟨#[]⟩, .string ⟨#[]⟩, .slice none 0 0, .slice none 0 0, .slice none 0 0] 36)) w4.heap.size X.toArray
  have hbl8 : Below w4.heap.size w4 (w4.alloc (.cells #[.int .i64 0, .int .i64 0, .string ⟨#[]⟩, .complex .f64 0 0, .string ⟨#[]⟩, .string ⟨#[]⟩, .slice none 0 0, .slice none 0 0, .slice none 0 0] 36)) := (Below.refl _ _).alloc (Nat.le_refl _) _
  have hD8 : DIs ((w4.alloc (.cells #[.int .i64 0, .int .i64 0, .string ⟨#[]⟩, .complex .f64 0 0, .string ⟨#[]⟩, .string ⟨#[]⟩, .slice none 0 0, .slice none 0 0, .slice none 0 0] 36)).setRow w4.heap.size X.toArray) (w.heap.size + 2) m tv' (orE none (exprP m t)) := (hD4.below hbl8 hD4.lt).kept K8 (fun e => by omega)
  have hA8 : At ((w4.alloc (.cells #[.int .i64 0, .int .i64 0, .string ⟨#[]⟩, .complex .f64 0 0, .string ⟨#[]⟩, .string ⟨#[]⟩, .slice none 0 0, .slice none 0 0, .slice none 0 0] 36)).setRow w4.heap.size X.toArray) (w.heap.size + 1) [] exz [] 36 := At.kept ((hbl8.block _ hA5.lt).trans hA5) K8 (fun e => by omega)
  have hrow8 := setRow_heap (w4.alloc (.cells #[.int .i64 0, .int .i64 0, .string ⟨#[]⟩, .complex .f64 0 0, .string ⟨#[]⟩, .string ⟨#[]⟩, .slice none 0 0, .slice none 0 0, .slice none 0 0] 36)) w4.heap.size _ X.toArray 36 (0, 0) h8'
  have hb8 : Below w.heap.size w ((w4.alloc (.cells #[.int .i64 0, .int .i64 0, .string ⟨#[]⟩, .complex .f64 0 0, .string ⟨#[]⟩, .string ⟨#[]⟩, .slice none 0 0, .slice none 0 0, .slice none 0 0] 36)).setRow w4.heap.size X.toArray) := (hb4.alloc (by omega) _).trans (K8.below (by simp; omega) (fun k hk e => by omega))
  have HX8 : Hid (∀ x, exprP m t = .ok x → ∃ kv pv av, X = exc x kv pv av ∧ XI (fun k => w.heap.size + 3 ≤ k ∧ k < w4.heap.size) ((w4.alloc (.cells #[.int .i64 0, .int .i64 0, .string ⟨#[]⟩, .complex .f64 0 0, .string ⟨#[]⟩, .string ⟨#[]⟩, .slice none 0 0, .slice none 0 0, .slice none 0 0] 36)).setRow w4.heap.size X.toArray) kv pv av x) := by
    rw [hid_iff]
    intro x hx
    obtain ⟨_, kv, pv, av, e1, e2⟩ := hok rfl x hx
    refine ⟨kv, pv, av, e1, e2.frame fun g hg => ?_⟩
    have hg1 := hg.1
    rw [HS3.out] at hg1
    refine ⟨⟨hg1, hg.2.1⟩, ?_⟩
    rw [K8.block g (by simp; have := hg.2.1; omega) (by have := hg.2.1; omega), hbl8.block g hg.2.1]
  have HSZ : Hid (((w4.alloc (.cells #[.int .i64 0, .int .i64 0, .string ⟨#[]⟩, .complex .f64 0 0, .string ⟨#[]⟩, .string ⟨#[]⟩, .slice none 0 0, .slice none 0 0, .slice none 0 0] 36)).setRow w4.heap.size X.toArray).heap.size = w4.heap.size + 1) := by rw [hid_iff]; simp [World.setRow]
  clear hA5 hD4 hown hE4 hok hX9 hb4 hbl8 K8 hs4 HS3
  have hD8' : DIs ((w4.alloc (.cells #[.int .i64 0, .int .i64 0, .string ⟨#[]⟩, .complex .f64 0 0, .string ⟨#[]⟩, .string ⟨#[]⟩, .slice none 0 0, .slice none 0 0, .slice none 0 0] 36)).setRow w4.heap.size X.toArray) (w.heap.size + 1 + 1) m tv' (orE none (exprP m t)) := hD8
  obtain ⟨q0, q1, q2, q3, fz⟩ := hD8'.cells
  have hA8' : ((w4.alloc (.cells #[.int .i64 0, .int .i64 0, .string ⟨#[]⟩, .complex .f64 0 0, .string ⟨#[]⟩, .string ⟨#[]⟩, .slice none 0 0, .slice none 0 0, .slice none 0 0] 36)).setRow w4.heap.size X.toArray).heap[w.heap.size + 1]? = some (.cells exz.toArray 36 (0, 0)) := by
    unfold At at hA8
    rwa [List.nil_append, List.append_nil] at hA8
  clear hD8 hD8' q0 q1 fz hA8
  have hne := exprP_err hr
  rw [hr] at q2 q3
  have HR : Hid (exprP m t = .error (y, b)) := hr
  have q2' : ((w4.alloc (.cells #[.int .i64 0, .int .i64 0, .string ⟨#[]⟩, .complex .f64 0 0, .string ⟨#[]⟩, .string ⟨#[]⟩, .slice none 0 0, .slice none 0 0, .slice none 0 0] 36)).setRow w4.heap.size X.toArray).cell? ⟨w.heap.size + 1 + 1, 2, none⟩ = some (.int .i64 (y : Int)) := q2
  have q3' : ((w4.alloc (.cells #[.int .i64 0, .int .i64 0, .string ⟨#[]⟩, .complex .f64 0 0, .string ⟨#[]⟩, .string ⟨#[]⟩, .slice none 0 0, .slice none 0 0, .slice none 0 0] 36)).setRow w4.heap.size X.toArray).cell? ⟨w.heap.size + 1 + 1, 3, none⟩ = some (.int .i64 (b : Int)) := q3
  have hy : ((y : Int) != 0) = true := by simp; exact hne
  have hi9 : (Try.prog.info? 36).map (fun i => i.size) = some (#[.int .i64 0, .int .i64 0, .string ⟨#[]⟩, .complex .f64 0 0, .string ⟨#[]⟩, .string ⟨#[]⟩, .slice none 0 0, .slice none 0 0, .slice none 0 0] : Array Value).size := sizeX
  have hsz9 : exz.toArray.size = (#[.int .i64 0, .int .i64 0, .string ⟨#[]⟩, .complex .f64 0 0, .string ⟨#[]⟩, .string ⟨#[]⟩, .slice none 0 0, .slice none 0 0, .slice none 0 0] : Array Value).size := rfl
  have hall9 : (#[.int .i64 0, .int .i64 0, .string ⟨#[]⟩, .complex .f64 0 0, .string ⟨#[]⟩, .string ⟨#[]⟩, .slice none 0 0, .slice none 0 0, .slice none 0 0] : Array Value).all (fun v => v.oneCell') = true := by kernel_rfl
  clear hr hne HX8 q2 q3
  go_wp2_with (first
    | (refine wpList_store_row rfl 36 (.tmp 8) (.tmp 11) rfl w4.heap.size X.toArray rfl rfl 36 exz.toArray h8' h9 hsz hall ?_; generalize (w4.alloc (.cells #[.int .i64 0, .int .i64 0, .string ⟨#[]⟩, .complex .f64 0 0, .string ⟨#[]⟩, .string ⟨#[]⟩, .slice none 0 0, .slice none 0 0, .slice none 0 0] 36)).setRow w4.heap.size X.toArray = w8 at *))
  have hA8z : w8.heap[w.heap.size + 1]? = some (.cells #[.int .i64 0, .int .i64 0, .string ⟨#[]⟩, .complex .f64 0 0, .string ⟨#[]⟩, .string ⟨#[]⟩, .slice none 0 0, .slice none 0 0, .slice none 0 0] 36 (0, 0)) := hA8'
  have c0 : w8.cell? ⟨w.heap.size + 1, 0, none⟩ = some (.int .i64 0) := by rw [cell_of_row w8 _ 0 _ _ _ hA8z]; rfl
  have f0 := frozen_of_row w8 (w.heap.size + 1) 0 _ _ hA8z
  have c1 : w8.cell? ⟨w.heap.size + 1, 1, none⟩ = some (.int .i64 0) := by rw [cell_of_row w8 _ 1 _ _ _ hA8z]; rfl
  have f1 := frozen_of_row w8 (w.heap.size + 1) 1 _ _ hA8z
  have c2 : w8.cell? ⟨w.heap.size + 1, 2, none⟩ = some (.string ⟨#[]⟩) := by rw [cell_of_row w8 _ 2 _ _ _ hA8z]; rfl
  have f2 := frozen_of_row w8 (w.heap.size + 1) 2 _ _ hA8z
  have c3 : w8.cell? ⟨w.heap.size + 1, 3, none⟩ = some (.complex .f64 0 0) := by rw [cell_of_row w8 _ 3 _ _ _ hA8z]; rfl
  have f3 := frozen_of_row w8 (w.heap.size + 1) 3 _ _ hA8z
  have c4 : w8.cell? ⟨w.heap.size + 1, 4, none⟩ = some (.string ⟨#[]⟩) := by rw [cell_of_row w8 _ 4 _ _ _ hA8z]; rfl
  have f4 := frozen_of_row w8 (w.heap.size + 1) 4 _ _ hA8z
  have c5 : w8.cell? ⟨w.heap.size + 1, 5, none⟩ = some (.string ⟨#[]⟩) := by rw [cell_of_row w8 _ 5 _ _ _ hA8z]; rfl
  have f5 := frozen_of_row w8 (w.heap.size + 1) 5 _ _ hA8z
  have c6 : w8.cell? ⟨w.heap.size + 1, 6, none⟩ = some (.slice none 0 0) := by rw [cell_of_row w8 _ 6 _ _ _ hA8z]; rfl
  have f6 := frozen_of_row w8 (w.heap.size + 1) 6 _ _ hA8z
  have c7 : w8.cell? ⟨w.heap.size + 1, 7, none⟩ = some (.slice none 0 0) := by rw [cell_of_row w8 _ 7 _ _ _ hA8z]; rfl
  have f7 := frozen_of_row w8 (w.heap.size + 1) 7 _ _ hA8z
  have c8 : w8.cell? ⟨w.heap.size + 1, 8, none⟩ = some (.slice none 0 0) := by rw [cell_of_row w8 _ 8 _ _ _ hA8z]; rfl
  have f8 := frozen_of_row w8 (w.heap.size + 1) 8 _ _ hA8z
  have hn0 : (w8.setCell ⟨w.heap.size + 1, 0, none⟩ (.int .i64 0)).heap[w.heap.size + 1]? = some (.cells #[.int .i64 0, .int .i64 0, .string ⟨#[]⟩, .complex .f64 0 0, .string ⟨#[]⟩, .string ⟨#[]⟩, .slice none 0 0, .slice none 0 0, .slice none 0 0] 36 (0, 0)) := heap_setCell_same _ _ 0 #[.int .i64 0, .int .i64 0, .string ⟨#[]⟩, .complex .f64 0 0, .string ⟨#[]⟩, .string ⟨#[]⟩, .slice none 0 0, .slice none 0 0, .slice none 0 0] _ (.int .i64 0) hA8z
  have hn1 : ((w8.setCell ⟨w.heap.size + 1, 0, none⟩ (.int .i64 0)).setCell ⟨w.heap.size + 1, 1, none⟩ (.int .i64 0)).heap[w.heap.size + 1]? = some (.cells #[.int .i64 0, .int .i64 0, .string ⟨#[]⟩, .complex .f64 0 0, .string ⟨#[]⟩, .string ⟨#[]⟩, .slice none 0 0, .slice none 0 0, .slice none 0 0] 36 (0, 0)) := heap_setCell_same _ _ 1 #[.int .i64 0, .int .i64 0, .string ⟨#[]⟩, .complex .f64 0 0, .string ⟨#[]⟩, .string ⟨#[]⟩, .slice none 0 0, .slice none 0 0, .slice none 0 0] _ (.int .i64 0) hn0
  have hn2 : (((w8.setCell ⟨w.heap.size + 1, 0, none⟩ (.int .i64 0)).setCell ⟨w.heap.size + 1, 1, none⟩ (.int .i64 0)).setCell ⟨w.heap.size + 1, 2, none⟩ (.string ⟨#[]⟩)).heap[w.heap.size + 1]? = some (.cells #[.int .i64 0, .int .i64 0, .string ⟨#[]⟩, .complex .f64 0 0, .string ⟨#[]⟩, .string ⟨#[]⟩, .slice none 0 0, .slice none 0 0, .slice none 0 0] 36 (0, 0)) := heap_setCell_same _ _ 2 #[.int .i64 0, .int .i64 0, .string ⟨#[]⟩, .complex .f64 0 0, .string ⟨#[]⟩, .string ⟨#[]⟩, .slice none 0 0, .slice none 0 0, .slice none 0 0] _ (.string ⟨#[]⟩) hn1
  have hst : (store ⟨w.heap.size + 1, 3, none⟩ (.complex .f64 0 0)).run Try.prog (((w8.setCell ⟨w.heap.size + 1, 0, none⟩ (.int .i64 0)).setCell ⟨w.heap.size + 1, 1, none⟩ (.int .i64 0)).setCell ⟨w.heap.size + 1, 2, none⟩ (.string ⟨#[]⟩)).drew = .ok () ((((w8.setCell ⟨w.heap.size + 1, 0, none⟩ (.int .i64 0)).setCell ⟨w.heap.size + 1, 1, none⟩ (.int .i64 0)).setCell ⟨w.heap.size + 1, 2, none⟩ (.string ⟨#[]⟩)).setCell ⟨w.heap.size + 1, 3, none⟩ (.complex .f64 0 0)).drew := by
    rw [run_store _ _ _ _ _ rfl]
    have c3' : (((w8.setCell ⟨w.heap.size + 1, 0, none⟩ (.int .i64 0)).setCell ⟨w.heap.size + 1, 1, none⟩ (.int .i64 0)).setCell ⟨w.heap.size + 1, 2, none⟩ (.string ⟨#[]⟩)).drew.cell? ⟨w.heap.size + 1, 3, none⟩ = some (.complex .f64 0 0) := by
      show (((w8.setCell ⟨w.heap.size + 1, 0, none⟩ (.int .i64 0)).setCell ⟨w.heap.size + 1, 1, none⟩ (.int .i64 0)).setCell ⟨w.heap.size + 1, 2, none⟩ (.string ⟨#[]⟩)).cell? ⟨w.heap.size + 1, 3, none⟩ = _
      rw [cell_of_row _ _ 3 _ _ _ hn2]; rfl
    have f3' : (((w8.setCell ⟨w.heap.size + 1, 0, none⟩ (.int .i64 0)).setCell ⟨w.heap.size + 1, 1, none⟩ (.int .i64 0)).setCell ⟨w.heap.size + 1, 2, none⟩ (.string ⟨#[]⟩)).drew.frozen? ⟨w.heap.size + 1, 3, none⟩ = false := frozen_of_row (((w8.setCell ⟨w.heap.size + 1, 0, none⟩ (.int .i64 0)).setCell ⟨w.heap.size + 1, 1, none⟩ (.int .i64 0)).setCell ⟨w.heap.size + 1, 2, none⟩ (.string ⟨#[]⟩)) _ 3 _ _ hn2
    rw [c3', f3']
    rfl
  have hbox := box_set9 (w := w8) hA8z (.int .i64 0) (.int .i64 0) (.string ⟨#[]⟩) (.complex .f64 0 0) (.string ⟨#[]⟩) (.string ⟨#[]⟩) (.slice none 0 0) (.slice none 0 0) (.slice none 0 0)
  have K9 := box_kept9 (w0 := w8) (w := w8) (b := w.heap.size + 1) (Kept.refl _ _) (.int .i64 0) (.int .i64 0) (.string ⟨#[]⟩) (.complex .f64 0 0) (.string ⟨#[]⟩) (.string ⟨#[]⟩) (.slice none 0 0) (.slice none 0 0) (.slice none 0 0)
  clear hn0 hn1 hn2
  go_region
  all_goals (
    go_wp2_with fail
    (try simp only [Exit.inBlock, Exit.then])
    generalize (((((((((w8.setCell ⟨w.heap.size + 1, 0, none⟩ (.int .i64 0)).setCell ⟨w.heap.size + 1, 1, none⟩ (.int .i64 0)).setCell ⟨w.heap.size + 1, 2, none⟩ (.string ⟨#[]⟩)).setCell ⟨w.heap.size + 1, 3, none⟩ (.complex .f64 0 0)).setCell ⟨w.heap.size + 1, 4, none⟩ (.string ⟨#[]⟩)).setCell ⟨w.heap.size + 1, 5, none⟩ (.string ⟨#[]⟩)).setCell ⟨w.heap.size + 1, 6, none⟩ (.slice none 0 0)).setCell ⟨w.heap.size + 1, 7, none⟩ (.slice none 0 0)).setCell ⟨w.heap.size + 1, 8, none⟩ (.slice none 0 0)) = w9 at *
    refine bodyPost_ret (res_cell3 rfl _ _ (w.heap.size + 1) 36 #[.int .i64 0, .int .i64 0, .string ⟨#[]⟩, .complex .f64 0 0, .string ⟨#[]⟩, .string ⟨#[]⟩, .slice none 0 0, .slice none 0 0, .slice none 0 0] (0, 0) _ rfl (show w9.drew.heap[w.heap.size + 1]? = _ from hbox) Try.underlying36 rfl hi9) rfl ?_
    have hz8 := HSZ.out
    have hz4 := HS4.out
    exact exprE_no HR.out rfl rfl rfl (below_drew (hb8.trans (K9.below (by omega) (fun k hk e => by omega)))))
theorem exprOf (F : Nat → Prop) (t : Tr) (kv : Value) (m : List UInt8) (w : World) (hF : ∀ g, F g → g < w.heap.size) (hT : TL F w kv t.kids) (htx : TxOk t) (hnd : nodes t ≤ 20000) (hm : m.length ≤ 8192) :
    Calls Try.prog 6 #[trv t kv, .string (str m)] w (ExprE (exprP m t) w) := by
  cases hr : exprP m t with
  | ok x =>
    rw [← hr]
    exact exprOf_ok F t kv m w hF hT htx hnd hm x hr
  | error e =>
    rw [← hr]
    exact exprOf_no F t kv m w hF hT htx hnd hm e.1 e.2 hr
end Go.Proofs.Ytchfhkfepghfjaa

namespace Go.Proofs.Ytchfhkfepghfjaa

def noForm (h : List UInt8) : Bool := decide (h ≠ letK) && decide (h ≠ ifK) && decide (h ≠ arrayL) && decide (h ≠ matchK) && decide (h ≠ fnL) && decide (h ≠ callK)
theorem head_none {m h : List UInt8} (t : Tr) (rs : List (PR Ex)) (rss : List (List (PR Ex))) (hf : noForm h = true) : headP m t h rs rss =
    if isOp h = true then (seqP (rs.drop 1)).bind (fun ks => .ok (exK 6 t h ks))
    else if bigR h = true ∨ dotR true h = true then
      if 4 < t.kids.length - 1 then .error (19, t.place) else (seqP (rs.drop 1)).bind (fun ks => .ok (exK 8 t h ks))
    else if (valueR h = true ∧ isKey h = false) ∨ dotR false h = true then
      if 6 < t.kids.length - 1 then .error (19, t.place) else (seqP (rs.drop 1)).bind (fun ks => .ok (exK 12 t h ks))
    else .error (12, t.place) := by
  simp only [noForm, Bool.and_eq_true, decide_eq_true_eq] at hf
  obtain ⟨⟨⟨⟨⟨h1, h2⟩, h3⟩, h4⟩, h5⟩, h6⟩ := hf
  rw [headP, if_neg h1, if_neg h2, if_neg h3, if_neg h4, if_neg h5, if_neg h6]
end Go.Proofs.Ytchfhkfepghfjaa

namespace Go.Proofs.Ytchfhkfepghfjaa

def pieceB (k : Nat) : List UInt8 := if k = 0 then [120] else if k = 1 then [34, 113, 34] else if k = 2 then [49, 50] else [40, 102, 32, 121, 41]
def lfP (p : Nat) (x : List UInt8) : Tr := ⟨3, p, x, [], ⟨3, p, x⟩⟩
def pieceT (k p : Nat) : Tr := if k = 0 then lfP p [120] else if k = 1 then ⟨4, p, [113], [], ⟨4, p, [113]⟩⟩ else if k = 2 then lfP p [49, 50] else ⟨1, p, [], [lfP (p + 1) [102], lfP (p + 3) [121]], ⟨2, p + 4, []⟩⟩
theorem sp_word {x Y : List UInt8} (hx : x ≠ []) (ha : ∀ c ∈ x, isAtom c = true) (hY : Ends Y) (p : Nat) (acc : List Tok) : sp (x ++ Y) p acc = sp Y (p + x.length) (acc ++ [⟨3, p, x⟩]) := by
  cases x with
  | nil => exact absurd rfl hx
  | cons c r =>
    have hr : (r ++ Y).takeWhile isAtom = r := tw_ends (fun d hd => ha d (by simp [hd])) hY
    rw [List.cons_append, sp_atom _ _ _ (ha c (by simp)), hr]
    simp only [List.length_cons, List.drop_left]
    rw [show p + 1 + r.length = p + (r.length + 1) from by omega]
theorem sp_piece (k : Nat) {Y : List UInt8} (hY : Ends Y) (p : Nat) (acc : List Tok) : sp (32 :: (pieceB k ++ Y)) p acc = sp Y (p + 1 + (pieceB k).length) (acc ++ toks (pieceT k (p + 1))) := by
  rw [sp_parts _ _ _ (by decide)]
  unfold pieceB pieceT
  split
  · rw [sp_word (by decide) (by decide) hY, toks_eq, if_neg (by simp [lfP])]
    rfl
  · split
    · have := sp_quote [113] Y (p + 1) acc (by decide)
      rw [show quoteR [113] = [34, 113, 34] from by decide +kernel] at this
      rw [this, toks_eq, if_neg (by simp)]
    · split
      · rw [sp_word (by decide) (by decide) hY, toks_eq, if_neg (by simp [lfP])]
        rfl
      · show sp (40 :: ([102] ++ (32 :: ([121] ++ (41 :: Y))))) (p + 1) acc = _
        rw [sp_open _ _ _ rfl, sp_word (by decide) (by decide) (by intro c r h; cases h; decide), sp_parts _ _ _ (by decide), sp_word (by decide) (by decide) (by intro c r h; cases h; decide), sp_close _ _ _ rfl]
        have e : toks ⟨1, p + 1, [], [lfP (p + 1 + 1) [102], lfP (p + 1 + 3) [121]], ⟨2, p + 1 + 4, []⟩⟩ = [⟨1, p + 1, []⟩, ⟨3, p + 1 + 1, [102]⟩, ⟨3, p + 1 + 3, [121]⟩, ⟨2, p + 1 + 4, []⟩] := by
          rw [toks_eq, if_pos rfl]
          simp [toks_eq, lfP]
        rw [e]
        simp
def kidsF : Nat → List Nat → List Tr
  | _, [] => []
  | p, k :: r => pieceT k p :: kidsF (p + (pieceB k).length + 1) r
def endF : Nat → List Nat → Nat
  | p, [] => p
  | p, k :: r => endF (p + (pieceB k).length + 1) r
def textF (ks : List Nat) : List UInt8 := ks.flatMap (fun k => 32 :: pieceB k)
theorem ends_text (ks : List Nat) : Ends (textF ks ++ [41]) := by
  cases ks with
  | nil => intro c r h; cases h; decide
  | cons k r => intro c r' h; cases h; decide
theorem sp_pieces : ∀ (ks : List Nat) (p : Nat) (acc : List Tok), sp (textF ks ++ [41]) p acc = .ok (acc ++ ((kidsF (p + 1) ks).map toks).flatten ++ [⟨2, endF p ks, []⟩])
  | [], p, acc => by
    show sp [41] p acc = _
    rw [sp_close _ _ _ rfl, sp_nil]
    simp [kidsF, endF]
  | k :: ks, p, acc => by
    have e : textF (k :: ks) ++ [41] = 32 :: (pieceB k ++ (textF ks ++ [41])) := by simp [textF]
    rw [e, sp_piece k (ends_text ks), sp_pieces ks, kidsF, endF]
    simp only [List.map_cons, List.flatten_cons, List.append_assoc]
    rw [show p + 1 + (pieceB k).length = p + (pieceB k).length + 1 from by omega]
def treeF (ks : List Nat) : Tr := ⟨1, 0, [], lfP 1 callK :: kidsF 6 ks, ⟨2, endF 5 ks, []⟩⟩
def callText (ks : List Nat) : List UInt8 := 40 :: (callK ++ (textF ks ++ [41]))
theorem callText_len : ∀ ks : List Nat, (textF ks).length ≤ 6 * ks.length
  | [] => by simp [textF]
  | k :: r => by
    have := callText_len r
    have h : (pieceB k).length ≤ 5 := by
      unfold pieceB
      repeat' split
      all_goals decide
    simp only [textF, List.flatMap_cons, List.length_append, List.length_cons] at *
    omega
theorem piece_right (k p : Nat) : Right (pieceT k p) ∧ Fit 1 (pieceT k p) := by
  unfold pieceT
  have hl : ∀ (q : Nat) (x : List UInt8), Right (lfP q x) ∧ ∀ d, Fit d (lfP q x) := fun q x => ⟨by rw [Right_eq]; exact .inr ⟨by simp [lfP], by simp [lfP], rfl, rfl⟩, fun d => by
    cases d with
    | zero => show (3 : Nat) ≠ 1; decide
    | succ d => intro h; exact absurd h (by show ¬ (3 : Nat) = 1; decide)⟩
  repeat' split
  · exact ⟨(hl _ _).1, (hl _ _).2 _⟩
  · exact ⟨by rw [Right_eq]; exact .inr ⟨by simp, by simp, rfl, rfl⟩, fun h => absurd h (by show ¬ (4 : Nat) = 1; decide)⟩
  · exact ⟨(hl _ _).1, (hl _ _).2 _⟩
  · refine ⟨by
      rw [Right_eq]
      refine .inl ⟨rfl, rfl, fun k hk => ?_⟩
      simp only [List.mem_cons, List.not_mem_nil, or_false] at hk
      rcases hk with rfl | rfl <;> exact (hl _ _).1, fun _ k hk => ?_⟩
    simp only [List.mem_cons, List.not_mem_nil, or_false] at hk
    rcases hk with rfl | rfl <;> exact (hl _ _).2 0
theorem kids_right : ∀ (ks : List Nat) (p : Nat), ∀ t ∈ kidsF p ks, Right t ∧ Fit 1 t
  | [], p, t, h => by cases h
  | k :: r, p, t, h => by
    rw [kidsF, List.mem_cons] at h
    rcases h with rfl | h
    · exact piece_right _ _
    · exact kids_right r _ t h
/-- The text is read as the tree. -/
theorem form_parse (ks : List Nat) (hl : ks.length ≤ 7) : parseR (callText ks) = .ok (treeF ks) := by
  have hR : Right (treeF ks) := by
    rw [Right_eq]
    refine .inl ⟨rfl, rfl, fun t ht => ?_⟩
    simp only [treeF, List.mem_cons] at ht
    rcases ht with rfl | ht
    · rw [Right_eq]; exact .inr ⟨by simp [lfP], by simp [lfP], rfl, rfl⟩
    · exact (kids_right ks 6 t ht).1
  have hF : Fit 2 (treeF ks) := by
    intro _ t ht
    simp only [treeF, List.mem_cons] at ht
    rcases ht with rfl | ht
    · intro h; exact absurd h (by show ¬ (3 : Nat) = 1; decide)
    · exact (kids_right ks 6 t ht).2
  have hlen : (callText ks).length ≤ 8192 := by
    have := callText_len ks
    simp only [callText, callK, List.length_cons, List.length_append, List.length_nil]
    omega
  have hs : splitR (callText ks) = .ok (toks (treeF ks)) := by
    unfold splitR
    rw [if_neg (by omega), callText, sp_open _ _ _ rfl, sp_word (by decide) (by decide) (ends_text ks), sp_pieces, toks_eq, if_pos (show (treeF ks).kind = 1 from rfl)]
    simp [treeF, lfP, toks_eq, callK]
  have hne : toks (treeF ks) ≠ [] := by rw [toks_eq]; split <;> simp
  unfold parseR
  rw [hs]
  simp only [hne, if_false]
  have := run_fit (callText ks).length (treeF ks) 2 root [] [] hR hF (by simp) (fun _ => rfl)
  rw [List.append_nil] at this
  rw [this]
  simp [run, addKid, root]
def exPiece (k p : Nat) : Ex := if k = 0 then ⟨3, p, [120], 0, 0, [], [], [], [], [], []⟩ else if k = 1 then ⟨2, p, [], 0, 0, [113], [], [], [], [], []⟩ else if k = 2 then ⟨1, p, [], 12, 0, [], [], [], [], [], []⟩
  else ⟨12, p, [102], 0, 0, [], [], [⟨3, p + 3, [121], 0, 0, [], [], [], [], [], []⟩], [], [], []⟩
theorem ex_var (m x : List UInt8) (p : Nat) (hn : numP x = none) (hv : valueR x = true) : exprP m (lfP p x) = .ok ⟨3, p, x, 0, 0, [], [], [], [], [], []⟩ := by
  rw [exprP_eq, formP, if_neg (show ¬ (lfP p x).kind = 4 from by simp [lfP]), if_pos (show (lfP p x).kind = 3 from rfl)]
  have ht : (lfP p x).text = x := rfl
  rw [ht, hn]
  exact if_pos (.inl hv)
theorem ex_piece (m : List UInt8) (k p : Nat) : exprP m (pieceT k p) = .ok (exPiece k p) := by
  unfold pieceT exPiece
  repeat' split
  · exact ex_var m _ p (by kernel_rfl) (by decide)
  · rw [exprP_eq, formP, if_pos rfl]
  · rw [exprP_eq, formP, if_neg (show ¬ (lfP p [49, 50]).kind = 4 from by simp [lfP]), if_pos (show (lfP p [49, 50]).kind = 3 from rfl)]
    have ht : (lfP p [49, 50]).text = [49, 50] := rfl
    rw [ht, show numP [49, 50] = some (12, 0) from by kernel_rfl]
    rfl
  · rw [exprP_eq, formP, if_neg (by simp), if_neg (by simp), if_neg (by rintro (h | h | h); exact h rfl; simp at h; exact h rfl)]
    have h0 : (kid ⟨1, p, [], [lfP (p + 1) [102], lfP (p + 3) [121]], ⟨2, p + 4, []⟩⟩ 0).text = [102] := rfl
    rw [h0, head_none _ _ _ (by decide), if_neg (by decide), if_neg (by decide), if_pos (by decide), if_neg (by simp)]
    show (seqP [exprP m (lfP (p + 3) [121])]).bind _ = _
    rw [ex_var m [121] (p + 3) (by kernel_rfl) (by decide)]
    rfl
def exKids : Nat → List Nat → List Ex
  | _, [] => []
  | p, k :: r => exPiece k p :: exKids (p + (pieceB k).length + 1) r
theorem ex_kids (m : List UInt8) : ∀ (ks : List Nat) (p : Nat), seqP ((kidsF p ks).map (exprP m)) = .ok (exKids p ks)
  | [], _ => rfl
  | k :: r, p => by
    rw [kidsF, List.map_cons, ex_piece, seqP, ex_kids m r, exKids]
/-- The text is read as the expression. -/
theorem form_expr (m : List UInt8) (ks : List Nat) (h1 : 1 ≤ ks.length) (hl : ks.length ≤ 7) : exprP m (treeF ks) = .ok ⟨11, 0, [], 0, 0, [], [], exKids 6 ks, [], [], []⟩ := by
  have hk : ∀ (ks : List Nat) (p : Nat), (kidsF p ks).length = ks.length := by
    intro ks
    induction ks with
    | nil => intro p; rfl
    | cons k r ih => intro p; simp [kidsF, ih]
  rw [exprP_eq, formP, if_neg (by simp [treeF]), if_neg (by simp [treeF]), if_neg (by rintro (h | h | h); exact h rfl; simp [treeF] at h; exact h rfl)]
  have h0 : (kid (treeF ks) 0).text = callK := rfl
  rw [h0, headP, if_neg (by decide), if_neg (by decide), if_neg (by decide), if_neg (by decide), if_neg (by decide), if_pos rfl, if_neg (by simp [treeF, hk]; omega), if_neg (by simp [treeF, hk]; omega)]
  have hd : ((treeF ks).kids.map (exprP m)).drop 1 = (kidsF 6 ks).map (exprP m) := rfl
  rw [hd, ex_kids]
  rfl
end Go.Proofs.Ytchfhkfepghfjaa
