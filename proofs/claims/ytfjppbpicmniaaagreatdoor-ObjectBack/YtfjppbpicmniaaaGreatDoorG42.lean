/-
  Object's writer: an object; Encode.
  And: Encode of any object.
-/
import Derived.Test.YtfjppbpicmniaaaGreatDoorG41
import Derived.Test.YtfjppbpicmniaaaGreatDoorG36
namespace Go.Proofs.YtfjppbpicmniaaaGreatDoor
open Go.RowKit

set_option maxHeartbeats 4000000 in
set_option maxRecDepth 1000000 in
theorem oobj (D F : Nat → Prop) (m : List UInt8) (ts : List (It)) (xs : List (List UInt8)) (gs : List (Gl)) (fs : List (Fn)) (es : List (List UInt8)) (ss : List (Sy)) (rs : List (Rl)) (a1 : Option Addr) (c1 : Nat) (a2 : Option Addr) (c2 : Nat) (a3 : Option Addr) (c3 : Nat) (a4 : Option Addr) (c4 : Nat) (a5 : Option Addr) (c5 : Nat) (a6 : Option Addr) (c6 : Nat) (a7 : Option Addr) (c7 : Nat) (b : Nat) (l : List Nat) (w : World) (hD : ∀ k, D k → k < w.heap.size) (hF : ∀ g, F g → D g) (r1 : ItR F w (.slice a1 ts.length c1) ts) (r2 : TxR F w (.slice a2 xs.length c2) xs) (r3 : GlR F w (.slice a3 gs.length c3) gs) (r4 : FnR F w (.slice a4 fs.length c4) fs) (r5 : TxR F w (.slice a5 es.length c5) es) (r6 : SyR F w (.slice a6 ss.length c6) ss) (r7 : RlR F w (.slice a7 rs.length c7) rs) (hO : ObS ⟨m, ts, xs, gs, fs, es, ss, rs⟩) (hl : l.length + ((txtB m ++ (lsB itemB ts ++ (lsB txtB xs ++ (lsB glB gs ++ (lsB fnB fs ++ (lsB txtB es ++ (lsB syB ss ++ (lsB rlB rs))))))))).length + 30 ≤ 140737488355328) (hw : WB D w b l) :
    Calls Tryz.prog 41 #[wrv b, .agg #[.string (str m), .slice a1 ts.length c1, .slice a2 xs.length c2, .slice a3 gs.length c3, .slice a4 fs.length c4, .slice a5 es.length c5, .slice a6 ss.length c6, .slice a7 rs.length c7]] w (WP D w b (l ++ (txtB m ++ (lsB itemB ts ++ (lsB txtB xs ++ (lsB glB gs ++ (lsB fnB fs ++ (lsB txtB es ++ (lsB syB ss ++ (lsB rlB rs)))))))))) := by
  have hwA := hw.new (.cells #[.pointer (some ⟨b, 0, none⟩)] 97)
  have hDA := Dx.lt hD (.cells #[.pointer (some ⟨b, 0, none⟩)] 97)
  have hNA := heap_alloc_new w (.cells #[.pointer (some ⟨b, 0, none⟩)] 97)
  have hKA : ∀ w', Kept (fun k => ¬ Dx D w.heap.size k) (w.alloc (.cells #[.pointer (some ⟨b, 0, none⟩)] 97)) w' → Kept (fun k => ¬ D k) w w' := fun w' h => Dx.kept h hD
  have r1A : ItR F (w.alloc (.cells #[.pointer (some ⟨b, 0, none⟩)] 97)) (.slice a1 ts.length c1) ts := r1.frame fun g hg => ⟨hg, Below.heap_alloc _ _ _ (hD g (hF g hg))⟩
  have r2A : TxR F (w.alloc (.cells #[.pointer (some ⟨b, 0, none⟩)] 97)) (.slice a2 xs.length c2) xs := r2.frame fun g hg => ⟨hg, Below.heap_alloc _ _ _ (hD g (hF g hg))⟩
  have r3A : GlR F (w.alloc (.cells #[.pointer (some ⟨b, 0, none⟩)] 97)) (.slice a3 gs.length c3) gs := r3.frame cGl_stay fun g hg => ⟨hg, Below.heap_alloc _ _ _ (hD g (hF g hg))⟩
  have r4A : FnR F (w.alloc (.cells #[.pointer (some ⟨b, 0, none⟩)] 97)) (.slice a4 fs.length c4) fs := r4.frame cFn_stay fun g hg => ⟨hg, Below.heap_alloc _ _ _ (hD g (hF g hg))⟩
  have r5A : TxR F (w.alloc (.cells #[.pointer (some ⟨b, 0, none⟩)] 97)) (.slice a5 es.length c5) es := r5.frame fun g hg => ⟨hg, Below.heap_alloc _ _ _ (hD g (hF g hg))⟩
  have r6A : SyR F (w.alloc (.cells #[.pointer (some ⟨b, 0, none⟩)] 97)) (.slice a6 ss.length c6) ss := r6.frame cSy_stay fun g hg => ⟨hg, Below.heap_alloc _ _ _ (hD g (hF g hg))⟩
  have r7A : RlR F (w.alloc (.cells #[.pointer (some ⟨b, 0, none⟩)] 97)) (.slice a7 rs.length c7) rs := r7.frame cRl_stay fun g hg => ⟨hg, Below.heap_alloc _ _ _ (hD g (hF g hg))⟩
  generalize hWA : w.alloc (.cells #[.pointer (some ⟨b, 0, none⟩)] 97) = wA at *
  have hsA : wA.heap.size = w.heap.size + 1 := by rw [← hWA]; simp
  have hwB := hwA.new (.cells #[.string (str m), .slice a1 ts.length c1, .slice a2 xs.length c2, .slice a3 gs.length c3, .slice a4 fs.length c4, .slice a5 es.length c5, .slice a6 ss.length c6, .slice a7 rs.length c7] 29)
  have hDB := Dx.lt hDA (.cells #[.string (str m), .slice a1 ts.length c1, .slice a2 xs.length c2, .slice a3 gs.length c3, .slice a4 fs.length c4, .slice a5 es.length c5, .slice a6 ss.length c6, .slice a7 rs.length c7] 29)
  have hNB := heap_alloc_new wA (.cells #[.string (str m), .slice a1 ts.length c1, .slice a2 xs.length c2, .slice a3 gs.length c3, .slice a4 fs.length c4, .slice a5 es.length c5, .slice a6 ss.length c6, .slice a7 rs.length c7] 29)
  have hKB : ∀ w', Kept (fun k => ¬ Dx (Dx D w.heap.size) wA.heap.size k) (wA.alloc (.cells #[.string (str m), .slice a1 ts.length c1, .slice a2 xs.length c2, .slice a3 gs.length c3, .slice a4 fs.length c4, .slice a5 es.length c5, .slice a6 ss.length c6, .slice a7 rs.length c7] 29)) w' → Kept (fun k => ¬ D k) w w' := fun w' h => hKA w' (Dx.kept h hDA)
  have hNA' : (wA.alloc (.cells #[.string (str m), .slice a1 ts.length c1, .slice a2 xs.length c2, .slice a3 gs.length c3, .slice a4 fs.length c4, .slice a5 es.length c5, .slice a6 ss.length c6, .slice a7 rs.length c7] 29)).heap[w.heap.size]? = some (.cells #[.pointer (some ⟨b, 0, none⟩)] 97 (0, 0)) := (Below.heap_alloc _ _ _ (by omega)).trans hNA
  have r1B : ItR F (wA.alloc (.cells #[.string (str m), .slice a1 ts.length c1, .slice a2 xs.length c2, .slice a3 gs.length c3, .slice a4 fs.length c4, .slice a5 es.length c5, .slice a6 ss.length c6, .slice a7 rs.length c7] 29)) (.slice a1 ts.length c1) ts := r1A.frame fun g hg => ⟨hg, Below.heap_alloc _ _ _ (by have := hD g (hF g hg); omega)⟩
  have r2B : TxR F (wA.alloc (.cells #[.string (str m), .slice a1 ts.length c1, .slice a2 xs.length c2, .slice a3 gs.length c3, .slice a4 fs.length c4, .slice a5 es.length c5, .slice a6 ss.length c6, .slice a7 rs.length c7] 29)) (.slice a2 xs.length c2) xs := r2A.frame fun g hg => ⟨hg, Below.heap_alloc _ _ _ (by have := hD g (hF g hg); omega)⟩
  have r3B : GlR F (wA.alloc (.cells #[.string (str m), .slice a1 ts.length c1, .slice a2 xs.length c2, .slice a3 gs.length c3, .slice a4 fs.length c4, .slice a5 es.length c5, .slice a6 ss.length c6, .slice a7 rs.length c7] 29)) (.slice a3 gs.length c3) gs := r3A.frame cGl_stay fun g hg => ⟨hg, Below.heap_alloc _ _ _ (by have := hD g (hF g hg); omega)⟩
  have r4B : FnR F (wA.alloc (.cells #[.string (str m), .slice a1 ts.length c1, .slice a2 xs.length c2, .slice a3 gs.length c3, .slice a4 fs.length c4, .slice a5 es.length c5, .slice a6 ss.length c6, .slice a7 rs.length c7] 29)) (.slice a4 fs.length c4) fs := r4A.frame cFn_stay fun g hg => ⟨hg, Below.heap_alloc _ _ _ (by have := hD g (hF g hg); omega)⟩
  have r5B : TxR F (wA.alloc (.cells #[.string (str m), .slice a1 ts.length c1, .slice a2 xs.length c2, .slice a3 gs.length c3, .slice a4 fs.length c4, .slice a5 es.length c5, .slice a6 ss.length c6, .slice a7 rs.length c7] 29)) (.slice a5 es.length c5) es := r5A.frame fun g hg => ⟨hg, Below.heap_alloc _ _ _ (by have := hD g (hF g hg); omega)⟩
  have r6B : SyR F (wA.alloc (.cells #[.string (str m), .slice a1 ts.length c1, .slice a2 xs.length c2, .slice a3 gs.length c3, .slice a4 fs.length c4, .slice a5 es.length c5, .slice a6 ss.length c6, .slice a7 rs.length c7] 29)) (.slice a6 ss.length c6) ss := r6A.frame cSy_stay fun g hg => ⟨hg, Below.heap_alloc _ _ _ (by have := hD g (hF g hg); omega)⟩
  have r7B : RlR F (wA.alloc (.cells #[.string (str m), .slice a1 ts.length c1, .slice a2 xs.length c2, .slice a3 gs.length c3, .slice a4 fs.length c4, .slice a5 es.length c5, .slice a6 ss.length c6, .slice a7 rs.length c7] 29)) (.slice a7 rs.length c7) rs := r7A.frame cRl_stay fun g hg => ⟨hg, Below.heap_alloc _ _ _ (by have := hD g (hF g hg); omega)⟩
  generalize hWB : wA.alloc (.cells #[.string (str m), .slice a1 ts.length c1, .slice a2 xs.length c2, .slice a3 gs.length c3, .slice a4 fs.length c4, .slice a5 es.length c5, .slice a6 ss.length c6, .slice a7 rs.length c7] 29) = wB at *
  have hsB : wB.heap.size = w.heap.size + 2 := by rw [← hWB]; simp; omega
  rw [hsA] at hNB
  have e1 : Dx (Dx D w.heap.size) wA.heap.size w.heap.size := .inl (.inr rfl)
  have e2 : Dx (Dx D w.heap.size) wA.heap.size (w.heap.size + 1) := .inr hsA.symm
  have hFE : ∀ g, F g → Dx (Dx D w.heap.size) wA.heap.size g := fun g hg => .inl (.inl (hF g hg))
  have hless : ∀ w' l, WB (Dx (Dx D w.heap.size) wA.heap.size) w' b l → WB D w' b l := fun w' l h => h.less (fun k hk => .inl (.inl hk))
  generalize Dx (Dx D w.heap.size) wA.heap.size = E at *
  have HB : Hid (∀ u, Kept (fun k => ¬ E k) wB u → (∀ k, E k → k < u.heap.size) ∧ u.cell? ⟨w.heap.size, 0, none⟩ = some (.pointer (some ⟨b, 0, none⟩)) ∧ u.cell? ⟨w.heap.size + 1, 0, none⟩ = some (.string (str m)) ∧ u.cell? ⟨w.heap.size + 1, 1, none⟩ = some (.slice a1 ts.length c1) ∧ u.cell? ⟨w.heap.size + 1, 2, none⟩ = some (.slice a2 xs.length c2) ∧ u.cell? ⟨w.heap.size + 1, 3, none⟩ = some (.slice a3 gs.length c3) ∧ u.cell? ⟨w.heap.size + 1, 4, none⟩ = some (.slice a4 fs.length c4) ∧ u.cell? ⟨w.heap.size + 1, 5, none⟩ = some (.slice a5 es.length c5) ∧ u.cell? ⟨w.heap.size + 1, 6, none⟩ = some (.slice a6 ss.length c6) ∧ u.cell? ⟨w.heap.size + 1, 7, none⟩ = some (.slice a7 rs.length c7)) := by
    rw [hid_iff]
    intro u hu
    have n0 := (keep_blk hu e1 (by omega)).trans hNA'
    have n1 := (keep_blk hu e2 (by omega)).trans hNB
    exact ⟨keep_lt hu hDB, by rw [cell_of_row u _ 0 _ _ _ n0]; rfl, by rw [cell_of_row u _ 0 _ _ _ n1]; rfl, by rw [cell_of_row u _ 1 _ _ _ n1]; rfl, by rw [cell_of_row u _ 2 _ _ _ n1]; rfl, by rw [cell_of_row u _ 3 _ _ _ n1]; rfl, by rw [cell_of_row u _ 4 _ _ _ n1]; rfl, by rw [cell_of_row u _ 5 _ _ _ n1]; rfl, by rw [cell_of_row u _ 6 _ _ _ n1]; rfl, by rw [cell_of_row u _ 7 _ _ _ n1]; rfl⟩
  have r1U : Hid (∀ u, Kept (fun k => ¬ E k) wB u → ItR F u (.slice a1 ts.length c1) ts) := by
    rw [hid_iff]
    exact fun u hu => r1B.frame fun g hg => ⟨hg, keep_blk hu (hFE g hg) (hDB g (hFE g hg))⟩
  have r2U : Hid (∀ u, Kept (fun k => ¬ E k) wB u → TxR F u (.slice a2 xs.length c2) xs) := by
    rw [hid_iff]
    exact fun u hu => r2B.frame fun g hg => ⟨hg, keep_blk hu (hFE g hg) (hDB g (hFE g hg))⟩
  have r3U : Hid (∀ u, Kept (fun k => ¬ E k) wB u → GlR F u (.slice a3 gs.length c3) gs) := by
    rw [hid_iff]
    exact fun u hu => r3B.frame cGl_stay fun g hg => ⟨hg, keep_blk hu (hFE g hg) (hDB g (hFE g hg))⟩
  have r4U : Hid (∀ u, Kept (fun k => ¬ E k) wB u → FnR F u (.slice a4 fs.length c4) fs) := by
    rw [hid_iff]
    exact fun u hu => r4B.frame cFn_stay fun g hg => ⟨hg, keep_blk hu (hFE g hg) (hDB g (hFE g hg))⟩
  have r5U : Hid (∀ u, Kept (fun k => ¬ E k) wB u → TxR F u (.slice a5 es.length c5) es) := by
    rw [hid_iff]
    exact fun u hu => r5B.frame fun g hg => ⟨hg, keep_blk hu (hFE g hg) (hDB g (hFE g hg))⟩
  have r6U : Hid (∀ u, Kept (fun k => ¬ E k) wB u → SyR F u (.slice a6 ss.length c6) ss) := by
    rw [hid_iff]
    exact fun u hu => r6B.frame cSy_stay fun g hg => ⟨hg, keep_blk hu (hFE g hg) (hDB g (hFE g hg))⟩
  have r7U : Hid (∀ u, Kept (fun k => ¬ E k) wB u → RlR F u (.slice a7 rs.length c7) rs) := by
    rw [hid_iff]
    exact fun u hu => r7B.frame cRl_stay fun g hg => ⟨hg, keep_blk hu (hFE g hg) (hDB g (hFE g hg))⟩
  have HKB := hidden hKB
  have HLS := hidden hless
  have HFE := hidden hFE
  have BIG : l.length + ((txtB m ++ (lsB itemB ts ++ (lsB txtB xs ++ (lsB glB gs ++ (lsB fnB fs ++ (lsB txtB es ++ (lsB syB ss ++ (lsB rlB rs))))))))).length + 30 ≤ 140737488355328 := hl
  clear hKA hKB hless hNA hNA' hNB hwA hDA hl hw hFE e1 e2 hD hF r1 r1A r1B r2 r2A r2B r3 r3A r3B r4 r4A r4B r5 r5A r5B r6 r6A r6B r7 r7A r7B
  have k0 : Kept (fun k => ¬ E k) wB wB := Kept.refl _ _
  unfold wrv
  go_enter Tryz.func41, Tryz.ntmps41
  obtain ⟨hD0, p0, q0_0, -, -, -, -, -, -, -⟩ := HB.out _ k0
  have r10 := r1U.out _ k0
  have r20 := r2U.out _ k0
  have r30 := r3U.out _ k0
  have r40 := r4U.out _ k0
  have r50 := r5U.out _ k0
  have r60 := r6U.out _ k0
  have r70 := r7U.out _ k0
  have g0 := wText7 E m b l wB hD0 (by have t := txtB_ge m; (try simp only [List.length_append] at BIG ⊢); omega) hwB
  unfold wrv at g0
  clear r10 r20 r30 r40 r50 r60 r70 hD0
  go_wp2_with fail
  refine (g0).mono ?_
  rintro e u0 ⟨rfl, x0, y0'⟩
  have y0 := keep_trans k0 y0'
  clear g0 p0 q0_0 hwB k0 y0'
  obtain ⟨hD1, p1, -, q1_1, -, -, -, -, -, -⟩ := HB.out _ y0
  have r11 := r1U.out _ y0
  have r21 := r2U.out _ y0
  have r31 := r3U.out _ y0
  have r41 := r4U.out _ y0
  have r51 := r5U.out _ y0
  have r61 := r6U.out _ y0
  have r71 := r7U.out _ y0
  have g1 := wlistI E F (.slice a1 ts.length c1) ts b (l ++ txtB m) u0 hD1 HFE.out r11 hO.types.1 hO.types.2 (by (try simp only [List.length_append] at BIG ⊢); omega) x0
  unfold wrv at g1
  clear r11 r21 r31 r41 r51 r61 r71 hD1
  go_wp2_with fail
  refine (g1).mono ?_
  rintro e u1 ⟨rfl, x1, y1'⟩
  have y1 := keep_trans y0 y1'
  clear g1 p1 q1_1 x0 y0 y1'
  obtain ⟨hD2, p2, -, -, q2_2, -, -, -, -, -⟩ := HB.out _ y1
  have r12 := r1U.out _ y1
  have r22 := r2U.out _ y1
  have r32 := r3U.out _ y1
  have r42 := r4U.out _ y1
  have r52 := r5U.out _ y1
  have r62 := r6U.out _ y1
  have r72 := r7U.out _ y1
  have g2 := wlistT E F (.slice a2 xs.length c2) xs b ((l ++ txtB m) ++ lsB itemB ts) u1 hD2 HFE.out r22 hO.texts.1 (fun _ _ => trivial) (by (try simp only [List.length_append] at BIG ⊢); omega) x1
  unfold wrv at g2
  clear r12 r22 r32 r42 r52 r62 r72 hD2
  go_wp2_with fail
  refine (g2).mono ?_
  rintro e u2 ⟨rfl, x2, y2'⟩
  have y2 := keep_trans y1 y2'
  clear g2 p2 q2_2 x1 y1 y2'
  obtain ⟨hD3, p3, -, -, -, q3_3, -, -, -, -⟩ := HB.out _ y2
  have r13 := r1U.out _ y2
  have r23 := r2U.out _ y2
  have r33 := r3U.out _ y2
  have r43 := r4U.out _ y2
  have r53 := r5U.out _ y2
  have r63 := r6U.out _ y2
  have r73 := r7U.out _ y2
  have g3 := wlistG E F (.slice a3 gs.length c3) gs b (((l ++ txtB m) ++ lsB itemB ts) ++ lsB txtB xs) u2 hD3 HFE.out r33 hO.globals.1 hO.globals.2 (by (try simp only [List.length_append] at BIG ⊢); omega) x2
  unfold wrv at g3
  clear r13 r23 r33 r43 r53 r63 r73 hD3
  go_wp2_with fail
  refine (g3).mono ?_
  rintro e u3 ⟨rfl, x3, y3'⟩
  have y3 := keep_trans y2 y3'
  clear g3 p3 q3_3 x2 y2 y3'
  obtain ⟨hD4, p4, -, -, -, -, q4_4, -, -, -⟩ := HB.out _ y3
  have r14 := r1U.out _ y3
  have r24 := r2U.out _ y3
  have r34 := r3U.out _ y3
  have r44 := r4U.out _ y3
  have r54 := r5U.out _ y3
  have r64 := r6U.out _ y3
  have r74 := r7U.out _ y3
  have g4 := wlistF E F (.slice a4 fs.length c4) fs b ((((l ++ txtB m) ++ lsB itemB ts) ++ lsB txtB xs) ++ lsB glB gs) u3 hD4 HFE.out r44 hO.funs.1 hO.funs.2 (by (try simp only [List.length_append] at BIG ⊢); omega) x3
  unfold wrv at g4
  clear r14 r24 r34 r44 r54 r64 r74 hD4
  go_wp2_with fail
  refine (g4).mono ?_
  rintro e u4 ⟨rfl, x4, y4'⟩
  have y4 := keep_trans y3 y4'
  clear g4 p4 q4_4 x3 y3 y4'
  obtain ⟨hD5, p5, -, -, -, -, -, q5_5, -, -⟩ := HB.out _ y4
  have r15 := r1U.out _ y4
  have r25 := r2U.out _ y4
  have r35 := r3U.out _ y4
  have r45 := r4U.out _ y4
  have r55 := r5U.out _ y4
  have r65 := r6U.out _ y4
  have r75 := r7U.out _ y4
  have g5 := wlistT E F (.slice a5 es.length c5) es b (((((l ++ txtB m) ++ lsB itemB ts) ++ lsB txtB xs) ++ lsB glB gs) ++ lsB fnB fs) u4 hD5 HFE.out r55 hO.exports.1 (fun _ _ => trivial) (by (try simp only [List.length_append] at BIG ⊢); omega) x4
  unfold wrv at g5
  clear r15 r25 r35 r45 r55 r65 r75 hD5
  go_wp2_with fail
  refine (g5).mono ?_
  rintro e u5 ⟨rfl, x5, y5'⟩
  have y5 := keep_trans y4 y5'
  clear g5 p5 q5_5 x4 y4 y5'
  obtain ⟨hD6, p6, -, -, -, -, -, -, q6_6, -⟩ := HB.out _ y5
  have r16 := r1U.out _ y5
  have r26 := r2U.out _ y5
  have r36 := r3U.out _ y5
  have r46 := r4U.out _ y5
  have r56 := r5U.out _ y5
  have r66 := r6U.out _ y5
  have r76 := r7U.out _ y5
  have g6 := wlistS E F (.slice a6 ss.length c6) ss b ((((((l ++ txtB m) ++ lsB itemB ts) ++ lsB txtB xs) ++ lsB glB gs) ++ lsB fnB fs) ++ lsB txtB es) u5 hD6 HFE.out r66 hO.symbols.1 hO.symbols.2 (by (try simp only [List.length_append] at BIG ⊢); omega) x5
  unfold wrv at g6
  clear r16 r26 r36 r46 r56 r66 r76 hD6
  go_wp2_with fail
  refine (g6).mono ?_
  rintro e u6 ⟨rfl, x6, y6'⟩
  have y6 := keep_trans y5 y6'
  clear g6 p6 q6_6 x5 y5 y6'
  obtain ⟨hD7, p7, -, -, -, -, -, -, -, q7_7⟩ := HB.out _ y6
  have r17 := r1U.out _ y6
  have r27 := r2U.out _ y6
  have r37 := r3U.out _ y6
  have r47 := r4U.out _ y6
  have r57 := r5U.out _ y6
  have r67 := r6U.out _ y6
  have r77 := r7U.out _ y6
  have g7 := wlistR E F (.slice a7 rs.length c7) rs b (((((((l ++ txtB m) ++ lsB itemB ts) ++ lsB txtB xs) ++ lsB glB gs) ++ lsB fnB fs) ++ lsB txtB es) ++ lsB syB ss) u6 hD7 HFE.out r77 hO.relocs.1 hO.relocs.2 (by (try simp only [List.length_append] at BIG ⊢); omega) x6
  unfold wrv at g7
  clear r17 r27 r37 r47 r57 r67 r77 hD7
  go_wp2_with fail
  refine (g7).mono ?_
  rintro e u7 ⟨rfl, x7, y7'⟩
  have y7 := keep_trans y6 y7'
  clear g7 p7 q7_7 x6 y6 y7'
  have hK := HKB.out _ y7
  have hW := HLS.out _ _ x7
  simp only [List.append_assoc] at hW
  clear x7 y7 HKB HLS HB HFE r1U r2U r3U r4U r5U r6U r7U BIG
  go_wp2
  go_end0
  exact ⟨rfl, hW, hK⟩
/-- What Encode leaves. -/
def EncQ (rn : Nat) (OBJ : List Nat) (w : World) (e : Ending) (w' : World) : Prop :=
  Below w.heap.size w w' ∧ ((∃ y : Nat, y ≠ 0 ∧ ((rn ≠ 0 ∧ y = rn) ∨ (rn = 0 ∧ 8192 < OBJ.length ∧ y = 3)) ∧ e = .returned (.tuple #[.slice none 0 0, .int .i64 (y : Int)])) ∨ (rn = 0 ∧ OBJ.length ≤ 8192 ∧ ∃ v g, e = .returned (.tuple #[v, .int .i64 0]) ∧ Wire.Row w' g v OBJ ∧ w.heap.size ≤ g))
def EncO (o : Ob) (w : World) (e : Ending) (w' : World) : Prop := EncQ (rightO o).1 (objB o) w e w'
theorem ls_len {α : Type} (E : α → List Nat) (k : Nat) (n : Nat) (xs : List α) (hn : xs.length ≤ n) (h : ∀ x ∈ xs, (E x).length ≤ k) (h9 : n < 18446744073709551616) : (lsB E xs).length ≤ 10 + n * k := by
  have h1 : ∀ ys : List α, (∀ x ∈ ys, (E x).length ≤ k) → (ys.flatMap E).length ≤ ys.length * k := by
    intro ys
    induction ys with
    | nil => intro _; simp
    | cons y r ih =>
      intro hy
      have a := ih (fun x hx => hy x (by simp [hx]))
      have b := hy y (by simp)
      rw [List.flatMap_cons, List.length_append, List.length_cons, Nat.succ_mul]
      omega
  have h2 := h1 xs h
  have h3 := Wire.enc_ten xs.length (by omega)
  have h4 : xs.length * k ≤ n * k := Nat.mul_le_mul_right k hn
  unfold lsB
  rw [List.length_append]
  omega
theorem txtB_le (x : List UInt8) (k : Nat) (h : x.length ≤ k) (hk : k < 1000000) : (txtB x).length ≤ k + 10 := by
  have := txtB_len x (by omega)
  omega
theorem item_le7 {x : It} (h : ItS x) : (itemB x).length ≤ 100000 := by
  have hk := h.kind
  have h1 := Wire.enc_ten x.kind.toNat (by omega)
  have h2 := txtB_le x.name 24 h.name (by decide)
  unfold itemB
  rw [List.length_append, List.length_append]
  split
  · rename_i h0
    obtain ⟨_, h4, h5⟩ := h.cases1 h0
    rw [casesB_flat]
    have := ls_len caseB 1000 6 x.cases h4 (fun c hc => by
      obtain ⟨a1, a2, a3⟩ := h5 c hc
      have b1 := txtB_le c.1 24 a1 (by decide)
      have b2 := ls_len txtB 210 4 c.2 a2 (fun f hf => txtB_le f 200 (a3 f hf) (by decide)) (by decide)
      unfold caseB
      rw [fieldsB_flat, List.length_append]
      unfold lsB at b2
      omega) (by decide)
    unfold lsB at this
    omega
  · rename_i h0
    obtain ⟨_, h4⟩ := h.ty1 h0
    have := txtB_le x.ty 200 h4 (by decide)
    omega
theorem obj_len {o : Ob} (h : ObS o) : (objB o).length ≤ 2000000000000 := by
  have n16 : ∀ n : Int, 0 ≤ n → n ≤ 65535 → (Wire.enc n.toNat).length ≤ 10 := fun n a b => Wire.enc_ten _ (by omega)
  have h0 := txtB_le o.mod 24 h.mod (by decide)
  have h1 := ls_len itemB 100000 65535 o.types h.types.1 (fun x hx => item_le7 (h.types.2 x hx)) (by decide)
  have h2 := ls_len txtB 210 65535 o.texts h.texts.1 (fun x hx => txtB_le x 200 (h.texts.2 x hx) (by decide)) (by decide)
  have h3 := ls_len glB 300 65535 o.globals h.globals.1 (fun x hx => by
    obtain ⟨a, b, c, d⟩ := h.globals.2 x hx
    have e1 := txtB_le x.name 24 a (by decide)
    have e2 := txtB_le x.ty 200 b (by decide)
    have e3 := n16 _ c d
    unfold glB
    simp only [List.length_append]
    omega) (by decide)
  have h4 := ls_len fnB 20000000 65535 o.funs h.funs.1 (fun x hx => by
    obtain ⟨a, b, c, d, e, f⟩ := h.funs.2 x hx
    have e1 := txtB_le x.name 24 a (by decide)
    have e2 := ls_len txtB 210 65535 x.params b.1 (fun y hy => txtB_le y 200 (b.2 y hy) (by decide)) (by decide)
    have e3 := n16 _ c.1 c.2
    have e4 := txtB_le x.res 200 d (by decide)
    have e5 := n16 _ e.1 e.2
    have e6 := txtB_le x.code 65535 f (by decide)
    unfold fnB
    simp only [List.length_append]
    omega) (by decide)
  have h5 := ls_len txtB 34 65535 o.exports h.exports.1 (fun x hx => txtB_le x 24 (h.exports.2 x hx) (by decide)) (by decide)
  have h6 := ls_len syB 100100 65535 o.symbols h.symbols.1 (fun x hx => by
    obtain ⟨a, b⟩ := h.symbols.2 x hx
    have e1 := txtB_le x.mod 24 a (by decide)
    have e2 := item_le7 b
    unfold syB
    rw [List.length_append]
    omega) (by decide)
  have h7 := ls_len rlB 30 65535 o.relocs h.relocs.1 (fun x hx => by
    obtain ⟨a, b, c⟩ := h.relocs.2 x hx
    have e1 := n16 _ a.1 a.2
    have e2 := n16 _ b.1 b.2
    have e3 := n16 _ c.1 c.2
    unfold rlB
    simp only [List.length_append]
    omega) (by decide)
  unfold objB
  simp only [List.length_append]
  omega
end Go.Proofs.YtfjppbpicmniaaaGreatDoor

namespace Go.Proofs.YtfjppbpicmniaaaGreatDoor
open Go.RowKit

set_option maxHeartbeats 4000000 in
set_option maxRecDepth 1000000 in
theorem oencO (F : Nat → Prop) (v : ObV) (o : Ob) (w : World) (h : ObR F w v o) (hF : ∀ g, F g → g < w.heap.size) (hok : ObOk o) : Calls Tryz.prog 9 #[obv v o.mod] w (EncO o w) := by
  obtain ⟨v1, v2, v3, v4, v5, v6, v7⟩ := v
  obtain ⟨m, ts, xs, gs, fs, es, ss, rs⟩ := o
  obtain ⟨a1, c1, e1⟩ := h.types.shape
  obtain ⟨a2, c2, e2⟩ := h.texts.1.shape
  obtain ⟨a3, c3, e3⟩ := h.globals.shape
  obtain ⟨a4, c4, e4⟩ := h.funs.shape
  obtain ⟨a5, c5, e5⟩ := h.exports.1.shape
  obtain ⟨a6, c6, e6⟩ := h.symbols.shape
  obtain ⟨a7, c7, e7⟩ := h.relocs.shape
  simp only at e1 e2 e3 e4 e5 e6 e7
  subst e1 e2 e3 e4 e5 e6 e7
  unfold obv
  simp only
  have n0 := World.alloc_heap_new w (.cells #[.string (str m), .slice a1 ts.length c1, .slice a2 xs.length c2, .slice a3 gs.length c3, .slice a4 fs.length c4, .slice a5 es.length c5, .slice a6 ss.length c6, .slice a7 rs.length c7] 29)
  have b0 : Below w.heap.size w (w.alloc (.cells #[.string (str m), .slice a1 ts.length c1, .slice a2 xs.length c2, .slice a3 gs.length c3, .slice a4 fs.length c4, .slice a5 es.length c5, .slice a6 ss.length c6, .slice a7 rs.length c7] 29)) := (Below.refl _ _).alloc (Nat.le_refl _) _
  have s0 : (w.alloc (.cells #[.string (str m), .slice a1 ts.length c1, .slice a2 xs.length c2, .slice a3 gs.length c3, .slice a4 fs.length c4, .slice a5 es.length c5, .slice a6 ss.length c6, .slice a7 rs.length c7] 29)).heap.size = w.heap.size + 1 := by simp
  have h0 : ObR F (w.alloc (.cells #[.string (str m), .slice a1 ts.length c1, .slice a2 xs.length c2, .slice a3 gs.length c3, .slice a4 fs.length c4, .slice a5 es.length c5, .slice a6 ss.length c6, .slice a7 rs.length c7] 29)) ⟨.slice a1 ts.length c1, .slice a2 xs.length c2, .slice a3 gs.length c3, .slice a4 fs.length c4, .slice a5 es.length c5, .slice a6 ss.length c6, .slice a7 rs.length c7⟩ ⟨m, ts, xs, gs, fs, es, ss, rs⟩ := h.below b0 hF
  have hri := right14 F ⟨.slice a1 ts.length c1, .slice a2 xs.length c2, .slice a3 gs.length c3, .slice a4 fs.length c4, .slice a5 es.length c5, .slice a6 ss.length c6, .slice a7 rs.length c7⟩ ⟨m, ts, xs, gs, fs, es, ss, rs⟩ _ h0 (fun g hg => by have := hF g hg; omega) hok
  unfold TwoB obv at hri
  simp only at hri
  have d0 : (w.alloc (.cells #[.string (str m), .slice a1 ts.length c1, .slice a2 xs.length c2, .slice a3 gs.length c3, .slice a4 fs.length c4, .slice a5 es.length c5, .slice a6 ss.length c6, .slice a7 rs.length c7] 29)).cell? ⟨w.heap.size, 0, none⟩ = some (.string (str m)) := by rw [cell_of_row _ _ 0 _ _ _ n0]; rfl
  have d1 : (w.alloc (.cells #[.string (str m), .slice a1 ts.length c1, .slice a2 xs.length c2, .slice a3 gs.length c3, .slice a4 fs.length c4, .slice a5 es.length c5, .slice a6 ss.length c6, .slice a7 rs.length c7] 29)).cell? ⟨w.heap.size, 1, none⟩ = some (.slice a1 ts.length c1) := by rw [cell_of_row _ _ 1 _ _ _ n0]; rfl
  have d2 : (w.alloc (.cells #[.string (str m), .slice a1 ts.length c1, .slice a2 xs.length c2, .slice a3 gs.length c3, .slice a4 fs.length c4, .slice a5 es.length c5, .slice a6 ss.length c6, .slice a7 rs.length c7] 29)).cell? ⟨w.heap.size, 2, none⟩ = some (.slice a2 xs.length c2) := by rw [cell_of_row _ _ 2 _ _ _ n0]; rfl
  have d3 : (w.alloc (.cells #[.string (str m), .slice a1 ts.length c1, .slice a2 xs.length c2, .slice a3 gs.length c3, .slice a4 fs.length c4, .slice a5 es.length c5, .slice a6 ss.length c6, .slice a7 rs.length c7] 29)).cell? ⟨w.heap.size, 3, none⟩ = some (.slice a3 gs.length c3) := by rw [cell_of_row _ _ 3 _ _ _ n0]; rfl
  have d4 : (w.alloc (.cells #[.string (str m), .slice a1 ts.length c1, .slice a2 xs.length c2, .slice a3 gs.length c3, .slice a4 fs.length c4, .slice a5 es.length c5, .slice a6 ss.length c6, .slice a7 rs.length c7] 29)).cell? ⟨w.heap.size, 4, none⟩ = some (.slice a4 fs.length c4) := by rw [cell_of_row _ _ 4 _ _ _ n0]; rfl
  have d5 : (w.alloc (.cells #[.string (str m), .slice a1 ts.length c1, .slice a2 xs.length c2, .slice a3 gs.length c3, .slice a4 fs.length c4, .slice a5 es.length c5, .slice a6 ss.length c6, .slice a7 rs.length c7] 29)).cell? ⟨w.heap.size, 5, none⟩ = some (.slice a5 es.length c5) := by rw [cell_of_row _ _ 5 _ _ _ n0]; rfl
  have d6 : (w.alloc (.cells #[.string (str m), .slice a1 ts.length c1, .slice a2 xs.length c2, .slice a3 gs.length c3, .slice a4 fs.length c4, .slice a5 es.length c5, .slice a6 ss.length c6, .slice a7 rs.length c7] 29)).cell? ⟨w.heap.size, 6, none⟩ = some (.slice a6 ss.length c6) := by rw [cell_of_row _ _ 6 _ _ _ n0]; rfl
  have d7 : (w.alloc (.cells #[.string (str m), .slice a1 ts.length c1, .slice a2 xs.length c2, .slice a3 gs.length c3, .slice a4 fs.length c4, .slice a5 es.length c5, .slice a6 ss.length c6, .slice a7 rs.length c7] 29)).cell? ⟨w.heap.size, 7, none⟩ = some (.slice a7 rs.length c7) := by rw [cell_of_row _ _ 7 _ _ _ n0]; rfl
  have HS : (rightO ⟨m, ts, xs, gs, fs, es, ss, rs⟩).1 = 0 → ObS ⟨m, ts, xs, gs, fs, es, ss, rs⟩ ∧ (objB ⟨m, ts, xs, gs, fs, es, ss, rs⟩).length ≤ 2000000000000 := fun h => ⟨obj_short h, obj_len (obj_short h)⟩
  have HB : objB ⟨m, ts, xs, gs, fs, es, ss, rs⟩ = (txtB m ++ (lsB itemB ts ++ (lsB txtB xs ++ (lsB glB gs ++ (lsB fnB fs ++ (lsB txtB es ++ (lsB syB ss ++ (lsB rlB rs)))))))) := rfl
  unfold EncO
  generalize objB ⟨m, ts, xs, gs, fs, es, ss, rs⟩ = OBJ at *
  generalize rightO ⟨m, ts, xs, gs, fs, es, ss, rs⟩ = RO at *
  obtain ⟨rn, rk⟩ := RO
  replace HS := hidden HS
  replace HB := hidden HB
  simp only at hri HS ⊢
  clear h
  go_enter Tryz.func9, Tryz.ntmps9
  go_wp2_with fail
  generalize (w.alloc (.cells #[.string (str m), .slice a1 ts.length c1, .slice a2 xs.length c2, .slice a3 gs.length c3, .slice a4 fs.length c4, .slice a5 es.length c5, .slice a6 ss.length c6, .slice a7 rs.length c7] 29)) = w0 at *
  refine hri.mono ?_
  rintro e w1 ⟨rfl, hb1⟩
  have s1 := hb1.size
  have n1 := (hb1.block w.heap.size (by omega)).trans n0
  have h1 : ObR F w1 ⟨.slice a1 ts.length c1, .slice a2 xs.length c2, .slice a3 gs.length c3, .slice a4 fs.length c4, .slice a5 es.length c5, .slice a6 ss.length c6, .slice a7 rs.length c7⟩ ⟨m, ts, xs, gs, fs, es, ss, rs⟩ := h0.below hb1 (fun g hg => by have := hF g hg; omega)
  have b1 : Below w.heap.size w w1 := b0.trans (hb1.mono (by omega))
  clear hri hb1 h0 b0 n0 d0 d1 d2 d3 d4 d5 d6 d7
  by_cases hr : rn = 0
  · obtain ⟨hO, hOL⟩ := HS.out hr
    clear HS
    subst hr
    rw [HB.out] at hOL
    go_wp2_with fail
    refine (Wire.newwriter w1).mono ?_
    rintro e w2 ⟨b, rfl, hW2, hbb, hk2⟩
    have hk2' := keep_of hk2
    have hw2 : WB (fun k => k < w1.heap.size) w2 b [] := ⟨b, hW2, by omega, by omega⟩
    have hD2 : ∀ k, k < w1.heap.size → k < w2.heap.size := fun k hk => Nat.lt_of_lt_of_le hk hk2'.size
    have hB2 : Kept (fun k => ¬ k < w1.heap.size) w1 w2 := hk2'.mono (fun _ _ h => h.elim)
    have hw3 := hw2.new (.cells #[.pointer (some ⟨b, 0, none⟩)] 97)
    have hD3 := Dx.lt hD2 (.cells #[.pointer (some ⟨b, 0, none⟩)] 97)
    have hN3 := heap_alloc_new w2 (.cells #[.pointer (some ⟨b, 0, none⟩)] 97)
    have hK3 : ∀ w', Kept (fun k => ¬ Dx (fun k => k < w1.heap.size) w2.heap.size k) (w2.alloc (.cells #[.pointer (some ⟨b, 0, none⟩)] 97)) w' → Kept (fun k => ¬ k < w1.heap.size) w2 w' := fun w' h => Dx.kept h hD2
    have n3 : (w2.alloc (.cells #[.pointer (some ⟨b, 0, none⟩)] 97)).heap[w.heap.size]? = some (.cells #[.string (str m), .slice a1 ts.length c1, .slice a2 xs.length c2, .slice a3 gs.length c3, .slice a4 fs.length c4, .slice a5 es.length c5, .slice a6 ss.length c6, .slice a7 rs.length c7] 29 (0, 0)) := (Below.heap_alloc _ _ _ (by have := hD2 w.heap.size (by omega); omega)).trans ((hB2.block _ (by omega) (fun h => h (by omega))).trans n1)
    have h3 : ObR F (w2.alloc (.cells #[.pointer (some ⟨b, 0, none⟩)] 97)) ⟨.slice a1 ts.length c1, .slice a2 xs.length c2, .slice a3 gs.length c3, .slice a4 fs.length c4, .slice a5 es.length c5, .slice a6 ss.length c6, .slice a7 rs.length c7⟩ ⟨m, ts, xs, gs, fs, es, ss, rs⟩ := h1.frame fun g hg => by
      have l1 : g < w1.heap.size := by have := hF g hg; omega
      exact ⟨hg, (Below.heap_alloc _ _ _ (hD2 g l1)).trans (hB2.block _ l1 (fun h => h l1))⟩
    have hW := oobj (Dx (fun k => k < w1.heap.size) w2.heap.size) F m ts xs gs fs es ss rs a1 c1 a2 c2 a3 c3 a4 c4 a5 c5 a6 c6 a7 c7 b [] (w2.alloc (.cells #[.pointer (some ⟨b, 0, none⟩)] 97)) hD3 (fun g hg => .inl (by have := hF g hg; omega)) h3.types h3.texts.1 h3.globals h3.funs h3.exports.1 h3.symbols h3.relocs hO (by rw [List.length_nil]; omega) hw3
    have p3 := box1 hN3
    have d0 : (w2.alloc (.cells #[.pointer (some ⟨b, 0, none⟩)] 97)).cell? ⟨w.heap.size, 0, none⟩ = some (.string (str m)) := by rw [cell_of_row _ _ 0 _ _ _ n3]; rfl
    have d1 : (w2.alloc (.cells #[.pointer (some ⟨b, 0, none⟩)] 97)).cell? ⟨w.heap.size, 1, none⟩ = some (.slice a1 ts.length c1) := by rw [cell_of_row _ _ 1 _ _ _ n3]; rfl
    have d2 : (w2.alloc (.cells #[.pointer (some ⟨b, 0, none⟩)] 97)).cell? ⟨w.heap.size, 2, none⟩ = some (.slice a2 xs.length c2) := by rw [cell_of_row _ _ 2 _ _ _ n3]; rfl
    have d3 : (w2.alloc (.cells #[.pointer (some ⟨b, 0, none⟩)] 97)).cell? ⟨w.heap.size, 3, none⟩ = some (.slice a3 gs.length c3) := by rw [cell_of_row _ _ 3 _ _ _ n3]; rfl
    have d4 : (w2.alloc (.cells #[.pointer (some ⟨b, 0, none⟩)] 97)).cell? ⟨w.heap.size, 4, none⟩ = some (.slice a4 fs.length c4) := by rw [cell_of_row _ _ 4 _ _ _ n3]; rfl
    have d5 : (w2.alloc (.cells #[.pointer (some ⟨b, 0, none⟩)] 97)).cell? ⟨w.heap.size, 5, none⟩ = some (.slice a5 es.length c5) := by rw [cell_of_row _ _ 5 _ _ _ n3]; rfl
    have d6 : (w2.alloc (.cells #[.pointer (some ⟨b, 0, none⟩)] 97)).cell? ⟨w.heap.size, 6, none⟩ = some (.slice a6 ss.length c6) := by rw [cell_of_row _ _ 6 _ _ _ n3]; rfl
    have d7 : (w2.alloc (.cells #[.pointer (some ⟨b, 0, none⟩)] 97)).cell? ⟨w.heap.size, 7, none⟩ = some (.slice a7 rs.length c7) := by rw [cell_of_row _ _ 7 _ _ _ n3]; rfl
    rw [List.nil_append, ← HB.out] at hW
    rw [← HB.out] at hOL
    unfold wrv at hW
    clear hw2 hw3 hD3 hW2 hk2 hk2' h3 n3 h1 n1 HB hO
    go_wp2_with fail
    generalize hW3 : (w2.alloc (.cells #[.pointer (some ⟨b, 0, none⟩)] 97)) = w3 at *
    have s3 : w3.heap.size = w2.heap.size + 1 := by rw [← hW3]; simp
    clear hW3
    refine hW.mono ?_
    rintro e w4 ⟨rfl, hw4, k4⟩
    have p4 := box1 ((keep_blk k4 (show Dx (fun k => k < w1.heap.size) w2.heap.size w2.heap.size from .inr rfl) (by omega)).trans hN3)
    have k5 := hK3 _ k4
    have hbo : Below w.heap.size w w4 := b1.trans ((keep_trans hB2 k5).below (by omega) (fun x hx h => h (by omega)))
    have s4 := hbo.size
    obtain ⟨g, hWj, hbj, hgj⟩ := hw4
    have hd := Wire.wdone b g _ w4 (by omega) hWj
    clear d0 d1 d2 d3 d4 d5 d6 d7 p3 hW hWj k4 k5 hK3 hN3 hB2
    go_wp2_with fail
    refine hd.mono ?_
    rintro e w5 ⟨v', g', rfl, hr5, hg5, hk5⟩
    have hb6 : Below w.heap.size w w5 := hbo.trans ((keep_of hk5).below (by omega) (fun _ _ h => h))
    obtain ⟨va', vc', hv'⟩ : ∃ a c, v' = .slice a OBJ.length c := by
      rcases hr5.shape with ⟨rfl, h⟩ | ⟨cap, rfl, _⟩
      · exact ⟨none, 0, by rw [h]; rfl⟩
      · exact ⟨_, _, rfl⟩
    subst hv'
    have hr5' := hidden hr5
    clear hd hr5 hk5 p4 hbo
    by_cases hlen : 8192 < OBJ.length
    · have hni : (8192 : Int) < (OBJ.length : Int) := by omega
      go_wp2
      go_ret2
      exact ⟨hb6, .inl ⟨3, by decide, .inr ⟨rfl, hlen, rfl⟩, rfl⟩⟩
    · have hni : ¬ (8192 : Int) < (OBJ.length : Int) := by omega
      go_wp2
      go_ret2
      exact ⟨hb6, .inr ⟨rfl, by omega, _, g', rfl, hr5'.out, by omega⟩⟩
  · have hrn : ((rn : Int) != 0) = true := by rw [bne_iff_ne]; omega
    clear HS HB
    go_wp2
    go_ret2
    exact ⟨b1, .inl ⟨rn, hr, .inl ⟨hr, rfl⟩, rfl⟩⟩
end Go.Proofs.YtfjppbpicmniaaaGreatDoor
