/-
  The document's own reader of modules: array.
-/
import Derived.Test.YtcokihblicgbpaaRef6FormBZ
namespace Go.Proofs.Ytcokihblicgbpaa
open Go.RowKit

set_option maxHeartbeats 4000000 in
set_option maxRecDepth 1000000 in
theorem r6array (m : List UInt8) (t : Tr) (hm : m.length ≤ 140737488351232) (hk1 : t.kind = 1) (hp : 0 < t.kids.length) (hk3 : (kid t 0).kind = 3) (htx : TxOk t) (hh : (kid t 0).text = arrayL) (IH : ∀ k ∈ t.kids, ExAll m k) (hnd : nodes t ≤ 8192) : FmAll m t := by
  intro F rb kv w hRI hT hF
  have hkl := kids_lt6 t
  have hlt := hRI.lt
  obtain ⟨g, kc, kv0, e0, hg, _, _, _, _, _⟩ := hT.at 0 hp
  subst e0
  have hcap := hT.cap
  have hTU : ∀ u, Kept (fun k => k = rb) w u → TL F u (.slice (some ⟨g, 0, none⟩) t.kids.length kc) t.kids := fun u hu => hT.frame fun g hg => ⟨hg, hu.block g (hF g hg).1 (hF g hg).2⟩
  have HP := exprP_head m t hk1 hp hk3
  rw [hh] at HP
  have HH := hidden hh
  clear hk1 hk3 hh
  unfold trv
  rw [headP, if_neg (by decide), if_neg (by decide), if_pos rfl] at HP
  by_cases h2 : t.kids.length < 2
  · have hi2 : (t.kids.length : Int) < 2 := by omega
    rw [if_pos h2] at HP
    have HE := hidden HP
    clear HP
    by_cases hkc : kc = 1
    · subst hkc
      have hf0 := FS.start rb m none w #[.int .i64 (t.kind : Int), .int .i64 (t.place : Int), .string (str t.text), .slice (some ⟨g, 0, none⟩) t.kids.length 1] #[.int .i64 0, .int .i64 (t.place : Int), .string ⟨#[]⟩, .complex .f64 0 0, .string ⟨#[]⟩, .string ⟨#[]⟩, .slice none 0 0, .slice none 0 0, .slice none 0 0] hRI
      obtain ⟨g', cap', kv0, e0, _, hT0, a0, a1, a2, a3⟩ := (hTU _ hf0.rq.2).at 0 hp
      simp only [Value.slice.injEq, Option.some.injEq, Addr.mk.injEq, true_and, and_true] at e0
      obtain ⟨rfl, rfl⟩ := e0
      rw [kid_get (t := t) hp, HH.out] at a2
      simp only [Nat.zero_mul, Nat.zero_add] at a2
      have a2' : (((w.alloc (.cells #[.int .i64 (t.kind : Int), .int .i64 (t.place : Int), .string (str t.text), .slice (some ⟨g, 0, none⟩) t.kids.length 1] 43)).alloc (.cells #[.int .i64 0, .int .i64 (t.place : Int), .string ⟨#[]⟩, .complex .f64 0 0, .string ⟨#[]⟩, .string ⟨#[]⟩, .slice none 0 0, .slice none 0 0, .slice none 0 0] 27)).alloc (.cells #[.int .i64 0, .int .i64 0, .string ⟨#[]⟩, .complex .f64 0 0, .string ⟨#[]⟩, .string ⟨#[]⟩, .slice none 0 0, .slice none 0 0, .slice none 0 0] 27)).cell? ⟨g, 2, none⟩ = some (.string ⟨#[97, 114, 114, 97, 121]⟩) := a2
      obtain ⟨t0, t1, t2, t3⟩ := tree_cells hf0.tb
      clear a0 a1 a3 hT0 a2
      have hlp : (0 : Int) < (t.kids.length : Int) := by omega
      have hr := r6refuse rb m none 12 t.place _ hf0.rq.1 (by decide)
      go_enter Try.func53, Try.ntmps53
      go_wp2_with fail
      generalize (((w.alloc (.cells #[.int .i64 (t.kind : Int), .int .i64 (t.place : Int), .string (str t.text), .slice (some ⟨g, 0, none⟩) t.kids.length 1] 43)).alloc (.cells #[.int .i64 0, .int .i64 (t.place : Int), .string ⟨#[]⟩, .complex .f64 0 0, .string ⟨#[]⟩, .string ⟨#[]⟩, .slice none 0 0, .slice none 0 0, .slice none 0 0] 27)).alloc (.cells #[.int .i64 0, .int .i64 0, .string ⟨#[]⟩, .complex .f64 0 0, .string ⟨#[]⟩, .string ⟨#[]⟩, .slice none 0 0, .slice none 0 0, .slice none 0 0] 27)) = u0 at *
      refine hr.mono ?_
      rintro e w2 ⟨rfl, hq⟩
      have hf1 := hf0.call hlt hq
      clear hr t0 t1 t2 t3
      obtain ⟨t0, t1, t2, t3⟩ := tree_cells hf1.tb
      obtain ⟨⟨e0, e1, e2, e3, e4, e5, e6, e7, e8⟩, ef⟩ := nine9 hf1.eb
      obtain ⟨hd1, hd2, hd3, hd4⟩ := hf1.done hlt
      have hrs := hf1.rs
      go_wp2_with (refine wpList_store_row rfl 27 (.tmp 6) (.tmp 81) rfl (w.heap.size + 2) #[.int .i64 0, .int .i64 (t.place : Int), .string ⟨#[]⟩, .complex .f64 0 0, .string ⟨#[]⟩, .string ⟨#[]⟩, .slice none 0 0, .slice none 0 0, .slice none 0 0] rfl rfl 27 #[.int .i64 0, .int .i64 0, .string ⟨#[]⟩, .complex .f64 0 0, .string ⟨#[]⟩, .string ⟨#[]⟩, .slice none 0 0, .slice none 0 0, .slice none 0 0] hrs sizeEx rfl (by first | kernel_rfl | rfl | simp [Value.oneCell']) ?_)
      (try simp only [Exit.inBlock, Exit.then])
      refine bodyPost_ret (res_cell1 rfl _ _ (w.heap.size + 2) 27 #[.int .i64 0, .int .i64 (t.place : Int), .string ⟨#[]⟩, .complex .f64 0 0, .string ⟨#[]⟩, .string ⟨#[]⟩, .slice none 0 0, .slice none 0 0, .slice none 0 0] (0, 0) _ rfl hd2 Try.underlying27 rfl sizeEx) rfl ?_
      have hE := HE.out
      exact exq_of t 0 [] [] _ _ _ ⟨_, _, _, rfl⟩ ⟨_, _, _, rfl⟩ ⟨_, _, _, rfl⟩ (by rw [hE]; exact hd1) (fun y hy => by rw [hE] at hy; cases hy)

    · have hf0 := FS.start rb m none w #[.int .i64 (t.kind : Int), .int .i64 (t.place : Int), .string (str t.text), .slice (some ⟨g, 0, none⟩) t.kids.length kc] #[.int .i64 0, .int .i64 (t.place : Int), .string ⟨#[]⟩, .complex .f64 0 0, .string ⟨#[]⟩, .string ⟨#[]⟩, .slice none 0 0, .slice none 0 0, .slice none 0 0] hRI
      obtain ⟨g', cap', kv0, e0, _, hT0, a0, a1, a2, a3⟩ := (hTU _ hf0.rq.2).at 0 hp
      simp only [Value.slice.injEq, Option.some.injEq, Addr.mk.injEq, true_and, and_true] at e0
      obtain ⟨rfl, rfl⟩ := e0
      rw [kid_get (t := t) hp, HH.out] at a2
      simp only [Nat.zero_mul, Nat.zero_add] at a2
      have a2' : (((w.alloc (.cells #[.int .i64 (t.kind : Int), .int .i64 (t.place : Int), .string (str t.text), .slice (some ⟨g, 0, none⟩) t.kids.length kc] 43)).alloc (.cells #[.int .i64 0, .int .i64 (t.place : Int), .string ⟨#[]⟩, .complex .f64 0 0, .string ⟨#[]⟩, .string ⟨#[]⟩, .slice none 0 0, .slice none 0 0, .slice none 0 0] 27)).alloc (.cells #[.int .i64 0, .int .i64 0, .string ⟨#[]⟩, .complex .f64 0 0, .string ⟨#[]⟩, .string ⟨#[]⟩, .slice none 0 0, .slice none 0 0, .slice none 0 0] 27)).cell? ⟨g, 2, none⟩ = some (.string ⟨#[97, 114, 114, 97, 121]⟩) := a2
      obtain ⟨t0, t1, t2, t3⟩ := tree_cells hf0.tb
      clear a0 a1 a3 hT0 a2
      have hlp : (0 : Int) < (t.kids.length : Int) := by omega
      have hr := r6refuse rb m none 12 t.place _ hf0.rq.1 (by decide)
      go_enter Try.func53, Try.ntmps53
      go_wp2_with fail
      generalize (((w.alloc (.cells #[.int .i64 (t.kind : Int), .int .i64 (t.place : Int), .string (str t.text), .slice (some ⟨g, 0, none⟩) t.kids.length kc] 43)).alloc (.cells #[.int .i64 0, .int .i64 (t.place : Int), .string ⟨#[]⟩, .complex .f64 0 0, .string ⟨#[]⟩, .string ⟨#[]⟩, .slice none 0 0, .slice none 0 0, .slice none 0 0] 27)).alloc (.cells #[.int .i64 0, .int .i64 0, .string ⟨#[]⟩, .complex .f64 0 0, .string ⟨#[]⟩, .string ⟨#[]⟩, .slice none 0 0, .slice none 0 0, .slice none 0 0] 27)) = u0 at *
      refine hr.mono ?_
      rintro e w2 ⟨rfl, hq⟩
      have hf1 := hf0.call hlt hq
      clear hr t0 t1 t2 t3
      obtain ⟨t0, t1, t2, t3⟩ := tree_cells hf1.tb
      obtain ⟨⟨e0, e1, e2, e3, e4, e5, e6, e7, e8⟩, ef⟩ := nine9 hf1.eb
      obtain ⟨hd1, hd2, hd3, hd4⟩ := hf1.done hlt
      have hrs := hf1.rs
      go_wp2_with (refine wpList_store_row rfl 27 (.tmp 6) (.tmp 81) rfl (w.heap.size + 2) #[.int .i64 0, .int .i64 (t.place : Int), .string ⟨#[]⟩, .complex .f64 0 0, .string ⟨#[]⟩, .string ⟨#[]⟩, .slice none 0 0, .slice none 0 0, .slice none 0 0] rfl rfl 27 #[.int .i64 0, .int .i64 0, .string ⟨#[]⟩, .complex .f64 0 0, .string ⟨#[]⟩, .string ⟨#[]⟩, .slice none 0 0, .slice none 0 0, .slice none 0 0] hrs sizeEx rfl (by first | kernel_rfl | rfl | simp [Value.oneCell']) ?_)
      (try simp only [Exit.inBlock, Exit.then])
      refine bodyPost_ret (res_cell1 rfl _ _ (w.heap.size + 2) 27 #[.int .i64 0, .int .i64 (t.place : Int), .string ⟨#[]⟩, .complex .f64 0 0, .string ⟨#[]⟩, .string ⟨#[]⟩, .slice none 0 0, .slice none 0 0, .slice none 0 0] (0, 0) _ rfl hd2 Try.underlying27 rfl sizeEx) rfl ?_
      have hE := HE.out
      exact exq_of t 0 [] [] _ _ _ ⟨_, _, _, rfl⟩ ⟨_, _, _, rfl⟩ ⟨_, _, _, rfl⟩ (by rw [hE]; exact hd1) (fun y hy => by rw [hE] at hy; cases hy)

  · have hi2 : ¬ (t.kids.length : Int) < 2 := by omega
    have hl1 : (1 : Int) < (t.kids.length : Int) := by omega
    have hkc : ¬ kc = 1 := by omega
    rw [if_neg h2] at HP
    by_cases h6 : 34 < t.kids.length
    · have hi6 : (34 : Int) < (t.kids.length : Int) := by omega
      have hkc2 : ¬ kc = 2 := by omega
      rw [if_pos h6] at HP
      have HE := hidden HP
      clear HP
      have hf0 := FS.start rb m none w #[.int .i64 (t.kind : Int), .int .i64 (t.place : Int), .string (str t.text), .slice (some ⟨g, 0, none⟩) t.kids.length kc] #[.int .i64 0, .int .i64 (t.place : Int), .string ⟨#[]⟩, .complex .f64 0 0, .string ⟨#[]⟩, .string ⟨#[]⟩, .slice none 0 0, .slice none 0 0, .slice none 0 0] hRI
      obtain ⟨g', cap', kv0, e0, _, hT0, a0, a1, a2, a3⟩ := (hTU _ hf0.rq.2).at 0 hp
      simp only [Value.slice.injEq, Option.some.injEq, Addr.mk.injEq, true_and, and_true] at e0
      obtain ⟨rfl, rfl⟩ := e0
      rw [kid_get (t := t) hp, HH.out] at a2
      simp only [Nat.zero_mul, Nat.zero_add] at a2
      have a2' : (((w.alloc (.cells #[.int .i64 (t.kind : Int), .int .i64 (t.place : Int), .string (str t.text), .slice (some ⟨g, 0, none⟩) t.kids.length kc] 43)).alloc (.cells #[.int .i64 0, .int .i64 (t.place : Int), .string ⟨#[]⟩, .complex .f64 0 0, .string ⟨#[]⟩, .string ⟨#[]⟩, .slice none 0 0, .slice none 0 0, .slice none 0 0] 27)).alloc (.cells #[.int .i64 0, .int .i64 0, .string ⟨#[]⟩, .complex .f64 0 0, .string ⟨#[]⟩, .string ⟨#[]⟩, .slice none 0 0, .slice none 0 0, .slice none 0 0] 27)).cell? ⟨g, 2, none⟩ = some (.string ⟨#[97, 114, 114, 97, 121]⟩) := a2
      obtain ⟨t0, t1, t2, t3⟩ := tree_cells hf0.tb
      clear a0 a1 a3 hT0 a2
      have hlp : (0 : Int) < (t.kids.length : Int) := by omega
      have hr := r6refuse rb m none 19 t.place _ hf0.rq.1 (by decide)
      go_enter Try.func53, Try.ntmps53
      go_wp2_with fail
      generalize (((w.alloc (.cells #[.int .i64 (t.kind : Int), .int .i64 (t.place : Int), .string (str t.text), .slice (some ⟨g, 0, none⟩) t.kids.length kc] 43)).alloc (.cells #[.int .i64 0, .int .i64 (t.place : Int), .string ⟨#[]⟩, .complex .f64 0 0, .string ⟨#[]⟩, .string ⟨#[]⟩, .slice none 0 0, .slice none 0 0, .slice none 0 0] 27)).alloc (.cells #[.int .i64 0, .int .i64 0, .string ⟨#[]⟩, .complex .f64 0 0, .string ⟨#[]⟩, .string ⟨#[]⟩, .slice none 0 0, .slice none 0 0, .slice none 0 0] 27)) = u0 at *
      refine hr.mono ?_
      rintro e w2 ⟨rfl, hq⟩
      have hf1 := hf0.call hlt hq
      clear hr t0 t1 t2 t3
      obtain ⟨t0, t1, t2, t3⟩ := tree_cells hf1.tb
      have hp1 : FS rb m w w.heap.size #[.int .i64 (t.kind : Int), .int .i64 (t.place : Int), .string (str t.text), .slice (some ⟨g, 0, none⟩) t.kids.length kc] (some (19, t.place)) #[.int .i64 7, .int .i64 (t.place : Int), .string ⟨#[]⟩, .complex .f64 0 0, .string ⟨#[]⟩, .string ⟨#[]⟩, .slice none 0 0, .slice none 0 0, .slice none 0 0] (w2.setCell ⟨w.heap.size + 1, 0, none⟩ (.int .i64 7)) := hf1.put hlt 0 (.int .i64 7)
      obtain ⟨⟨y0, y1, y2, y3, y4, y5, y6, y7, y8⟩, yf⟩ := nine9 hf1.eb
      obtain ⟨gx, cx, kx, ee, _, cT, c0, c1, c2, c3⟩ := (hTU _ hp1.rq.2).at 1 (by omega)
      simp only [Value.slice.injEq, Option.some.injEq, Addr.mk.injEq, true_and, and_true] at ee
      obtain ⟨rfl, rfl⟩ := ee
      rw [kid_get (t := t) (by omega)] at c0 c1 c2 cT
      simp only [Nat.one_mul] at c0 c1 c2 c3
      obtain ⟨kba, kbc, rfl⟩ := cT.shape
      have hkd := r6kind F rb m (some (19, t.place)) (kid t 1) (.slice kba (kid t 1).kids.length kbc) _ hm hp1.rq.1 cT (fun b hb => by have := (hF b hb).1; have := hp1.lt; have := hp1.lo; omega) (kid_ok htx (by omega)) (by have := kid_nodes (t := t) (i := 1) (by omega); omega)
      unfold trv at hkd
      clear cT
      go_wp2_with fail
      refine hkd.mono ?_
      rintro e w3 ⟨xx, rfl, hq, hxx⟩
      have hg1 := hp1.call hlt hq
      have hg2 : FS rb m w w.heap.size #[.int .i64 (t.kind : Int), .int .i64 (t.place : Int), .string (str t.text), .slice (some ⟨g, 0, none⟩) t.kids.length kc] (orR (some (19, t.place)) (readR m (kid t 1))) #[.int .i64 7, .int .i64 (t.place : Int), .string ⟨#[]⟩, .complex .f64 0 0, .string ⟨#[]⟩, .string (str xx), .slice none 0 0, .slice none 0 0, .slice none 0 0] (w3.setCell ⟨w.heap.size + 1, 5, none⟩ (.string (str xx))) := hg1.put hlt 5 (.string (str xx))
      clear hkd hq t0 t1 t2 t3
      obtain ⟨⟨x0, x1, x2, x3, x4, x5, x6, x7, x8⟩, xf⟩ := nine9 hg1.eb
      obtain ⟨t0, t1, t2, t3⟩ := tree_cells hg1.tb
      have hS : S6 F _ (.slice (some ⟨g, 8, none⟩) (t.kids.length - 2) (kc - 2)) (t.kids.drop 2) := (hTU _ hg2.rq.2).s6 2 8 _ (by omega) (.inr ⟨hkc2, rfl⟩)
      have hlz := hg2.lt
      have hxs := r6exprs F rb m (orR (some (19, t.place)) (readR m (kid t 1))) (t.kids.drop 2) _ _ hg2.rq.1 hS (fun b hb => ⟨by have := (hF b hb).1; omega, (hF b hb).2⟩) (by simp; omega) (fun k hk => IH k (List.mem_of_mem_drop hk))
      clear hS
      go_wp2_with fail
      refine hxs.mono ?_
      rintro e w6 ⟨v, rfl, ⟨va, vn, vc, rfl⟩, hq6, hx6⟩
      have hf6 := hg2.call hlt hq6
      have hf7 : FS rb m w w.heap.size #[.int .i64 (t.kind : Int), .int .i64 (t.place : Int), .string (str t.text), .slice (some ⟨g, 0, none⟩) t.kids.length kc] _ #[.int .i64 7, .int .i64 (t.place : Int), .string ⟨#[]⟩, .complex .f64 0 0, .string ⟨#[]⟩, .string (str xx), .slice va vn vc, .slice none 0 0, .slice none 0 0] (w6.setCell ⟨w.heap.size + 1, 6, none⟩ (.slice va vn vc)) := hf6.put hlt 6 (.slice va vn vc)
      have hs6 := hq6.2.size
      have hK6 := hq6.2
      obtain ⟨⟨z0, z1, z2, z3, z4, z5, z6, z7, z8⟩, zf⟩ := nine9 hf6.eb
      obtain ⟨t0', t1', t2', t3'⟩ := tree_cells hf6.tb
      clear hxs hq6
      obtain ⟨⟨e0, e1, e2, e3, e4, e5, e6, e7, e8⟩, ef⟩ := nine9 hf7.eb
      obtain ⟨hd1, hd2, hd3, hd4⟩ := hf7.done hlt
      have hrs := hf7.rs
      go_wp2_with (refine wpList_store_row rfl 27 (.tmp 6) (.tmp 239) rfl (w.heap.size + 2) #[.int .i64 7, .int .i64 (t.place : Int), .string ⟨#[]⟩, .complex .f64 0 0, .string ⟨#[]⟩, .string (str xx), .slice va vn vc, .slice none 0 0, .slice none 0 0] rfl rfl 27 #[.int .i64 0, .int .i64 0, .string ⟨#[]⟩, .complex .f64 0 0, .string ⟨#[]⟩, .string ⟨#[]⟩, .slice none 0 0, .slice none 0 0, .slice none 0 0] hrs sizeEx rfl (by first | kernel_rfl | rfl | simp [Value.oneCell']) ?_)
      (try simp only [Exit.inBlock, Exit.then])
      refine bodyPost_ret (res_cell1 rfl _ _ (w.heap.size + 2) 27 #[.int .i64 7, .int .i64 (t.place : Int), .string ⟨#[]⟩, .complex .f64 0 0, .string ⟨#[]⟩, .string (str xx), .slice va vn vc, .slice none 0 0, .slice none 0 0] (0, 0) _ rfl hd2 Try.underlying27 rfl sizeEx) rfl ?_
      have hE := HE.out
      refine exq_of t 7 [] xx _ _ _ ⟨_, _, _, rfl⟩ ⟨_, _, _, rfl⟩ ⟨_, _, _, rfl⟩ (by rw [hE]; exact hd1) (fun y hy => ?_)
      rw [hE] at hy
      cases hy

    · have hi6 : ¬ (34 : Int) < (t.kids.length : Int) := by omega
      rw [if_neg h6, seq_drop] at HP
      have HE := hidden HP
      clear HP
      by_cases hkc2 : kc = 2
      · subst hkc2
        have hf0 := FS.start rb m none w #[.int .i64 (t.kind : Int), .int .i64 (t.place : Int), .string (str t.text), .slice (some ⟨g, 0, none⟩) t.kids.length 2] #[.int .i64 0, .int .i64 (t.place : Int), .string ⟨#[]⟩, .complex .f64 0 0, .string ⟨#[]⟩, .string ⟨#[]⟩, .slice none 0 0, .slice none 0 0, .slice none 0 0] hRI
        obtain ⟨g', cap', kv0, e0, _, hT0, a0, a1, a2, a3⟩ := (hTU _ hf0.rq.2).at 0 hp
        simp only [Value.slice.injEq, Option.some.injEq, Addr.mk.injEq, true_and, and_true] at e0
        obtain ⟨rfl, rfl⟩ := e0
        rw [kid_get (t := t) hp, HH.out] at a2
        simp only [Nat.zero_mul, Nat.zero_add] at a2
        have a2' : (((w.alloc (.cells #[.int .i64 (t.kind : Int), .int .i64 (t.place : Int), .string (str t.text), .slice (some ⟨g, 0, none⟩) t.kids.length 2] 43)).alloc (.cells #[.int .i64 0, .int .i64 (t.place : Int), .string ⟨#[]⟩, .complex .f64 0 0, .string ⟨#[]⟩, .string ⟨#[]⟩, .slice none 0 0, .slice none 0 0, .slice none 0 0] 27)).alloc (.cells #[.int .i64 0, .int .i64 0, .string ⟨#[]⟩, .complex .f64 0 0, .string ⟨#[]⟩, .string ⟨#[]⟩, .slice none 0 0, .slice none 0 0, .slice none 0 0] 27)).cell? ⟨g, 2, none⟩ = some (.string ⟨#[97, 114, 114, 97, 121]⟩) := a2
        obtain ⟨t0, t1, t2, t3⟩ := tree_cells hf0.tb
        clear a0 a1 a3 hT0 a2
        have hlp : (0 : Int) < (t.kids.length : Int) := by omega
        have hf5 := FS.start rb m none w #[.int .i64 (t.kind : Int), .int .i64 (t.place : Int), .string (str t.text), .slice (some ⟨g, 0, none⟩) t.kids.length 2] #[.int .i64 7, .int .i64 (t.place : Int), .string ⟨#[]⟩, .complex .f64 0 0, .string ⟨#[]⟩, .string ⟨#[]⟩, .slice none 0 0, .slice none 0 0, .slice none 0 0] hRI
        obtain ⟨gx, cx, kx, ee, _, cT, c0, c1, c2, c3⟩ := (hTU _ hf5.rq.2).at 1 (by omega)
        simp only [Value.slice.injEq, Option.some.injEq, Addr.mk.injEq, true_and, and_true] at ee
        obtain ⟨rfl, rfl⟩ := ee
        rw [kid_get (t := t) (by omega)] at c0 c1 c2 cT
        simp only [Nat.one_mul] at c0 c1 c2 c3
        obtain ⟨kba, kbc, rfl⟩ := cT.shape
        have hkd := r6kind F rb m none (kid t 1) (.slice kba (kid t 1).kids.length kbc) _ hm hf5.rq.1 cT (fun b hb => by have := (hF b hb).1; have := hf5.lt; have := hf5.lo; omega) (kid_ok htx (by omega)) (by have := kid_nodes (t := t) (i := 1) (by omega); omega)
        unfold trv at hkd
        clear cT
        go_enter Try.func53, Try.ntmps53
        go_wp2_with fail
        generalize (((w.alloc (.cells #[.int .i64 (t.kind : Int), .int .i64 (t.place : Int), .string (str t.text), .slice (some ⟨g, 0, none⟩) t.kids.length 2] 43)).alloc (.cells #[.int .i64 7, .int .i64 (t.place : Int), .string ⟨#[]⟩, .complex .f64 0 0, .string ⟨#[]⟩, .string ⟨#[]⟩, .slice none 0 0, .slice none 0 0, .slice none 0 0] 27)).alloc (.cells #[.int .i64 0, .int .i64 0, .string ⟨#[]⟩, .complex .f64 0 0, .string ⟨#[]⟩, .string ⟨#[]⟩, .slice none 0 0, .slice none 0 0, .slice none 0 0] 27)) = u5 at *
        refine hkd.mono ?_
        rintro e w2 ⟨xx, rfl, hq, hxx⟩
        have hg1 := hf5.call hlt hq
        have hg2 : FS rb m w w.heap.size #[.int .i64 (t.kind : Int), .int .i64 (t.place : Int), .string (str t.text), .slice (some ⟨g, 0, none⟩) t.kids.length 2] (orR none (readR m (kid t 1))) #[.int .i64 7, .int .i64 (t.place : Int), .string ⟨#[]⟩, .complex .f64 0 0, .string ⟨#[]⟩, .string (str xx), .slice none 0 0, .slice none 0 0, .slice none 0 0] (w2.setCell ⟨w.heap.size + 1, 5, none⟩ (.string (str xx))) := hg1.put hlt 5 (.string (str xx))
        clear hkd hq t0 t1 t2 t3
        obtain ⟨⟨x0, x1, x2, x3, x4, x5, x6, x7, x8⟩, xf⟩ := nine9 hg1.eb
        obtain ⟨t0, t1, t2, t3⟩ := tree_cells hg1.tb
        have hS := (hTU _ hg2.rq.2).s6 2 0 0 (by omega) (.inl ⟨rfl, rfl⟩)
        rw [show t.kids.length - 2 = 0 by omega] at hS
        have hlz := hg2.lt
        have hxs := r6exprs F rb m (orR none (readR m (kid t 1))) (t.kids.drop 2) _ _ hg2.rq.1 hS (fun b hb => ⟨by have := (hF b hb).1; omega, (hF b hb).2⟩) (by simp; omega) (fun k hk => IH k (List.mem_of_mem_drop hk))
        clear hS
        go_wp2_with fail
        refine hxs.mono ?_
        rintro e w6 ⟨v, rfl, ⟨va, vn, vc, rfl⟩, hq6, hx6⟩
        have hf6 := hg2.call hlt hq6
        have hf7 : FS rb m w w.heap.size #[.int .i64 (t.kind : Int), .int .i64 (t.place : Int), .string (str t.text), .slice (some ⟨g, 0, none⟩) t.kids.length 2] _ #[.int .i64 7, .int .i64 (t.place : Int), .string ⟨#[]⟩, .complex .f64 0 0, .string ⟨#[]⟩, .string (str xx), .slice va vn vc, .slice none 0 0, .slice none 0 0] (w6.setCell ⟨w.heap.size + 1, 6, none⟩ (.slice va vn vc)) := hf6.put hlt 6 (.slice va vn vc)
        have hs6 := hq6.2.size
        have hK6 := hq6.2
        obtain ⟨⟨z0, z1, z2, z3, z4, z5, z6, z7, z8⟩, zf⟩ := nine9 hf6.eb
        obtain ⟨t0', t1', t2', t3'⟩ := tree_cells hf6.tb
        clear hxs hq6
        obtain ⟨⟨e0, e1, e2, e3, e4, e5, e6, e7, e8⟩, ef⟩ := nine9 hf7.eb
        obtain ⟨hd1, hd2, hd3, hd4⟩ := hf7.done hlt
        have hrs := hf7.rs
        go_wp2_with (refine wpList_store_row rfl 27 (.tmp 6) (.tmp 239) rfl (w.heap.size + 2) #[.int .i64 7, .int .i64 (t.place : Int), .string ⟨#[]⟩, .complex .f64 0 0, .string ⟨#[]⟩, .string (str xx), .slice va vn vc, .slice none 0 0, .slice none 0 0] rfl rfl 27 #[.int .i64 0, .int .i64 0, .string ⟨#[]⟩, .complex .f64 0 0, .string ⟨#[]⟩, .string ⟨#[]⟩, .slice none 0 0, .slice none 0 0, .slice none 0 0] hrs sizeEx rfl (by first | kernel_rfl | rfl | simp [Value.oneCell']) ?_)
        (try simp only [Exit.inBlock, Exit.then])
        refine bodyPost_ret (res_cell1 rfl _ _ (w.heap.size + 2) 27 #[.int .i64 7, .int .i64 (t.place : Int), .string ⟨#[]⟩, .complex .f64 0 0, .string ⟨#[]⟩, .string (str xx), .slice va vn vc, .slice none 0 0, .slice none 0 0] (0, 0) _ rfl hd2 Try.underlying27 rfl sizeEx) rfl ?_
        have hE := HE.out
        refine exq_of t 7 [] xx _ _ _ ⟨_, _, _, rfl⟩ ⟨_, _, _, rfl⟩ ⟨_, _, _, rfl⟩ (by rw [hE, ← orR_bind (f := fun y ks => (⟨7, t.place, [], 0, 0, [], y, ks, [], [], []⟩ : Ex))]; exact hd1) (fun y hy => ?_)
        rw [hE] at hy
        cases hrd : readR m (kid t 1) with
        | error e => rw [hrd] at hy; cases hy
        | ok y1 =>
          have hxe := hxx (by simp) y1 hrd
          subst hxe
          rw [hrd] at hy
          cases hs : seqP ((t.kids.drop 2).map (exprP m)) with
          | error e => rw [hs] at hy; cases hy
          | ok ks =>
            rw [hs] at hy
            cases hy
            refine ⟨ks, [], [], [], rfl, (hx6 (by rw [hrd]; rfl) ks hs).frame (fun b hb => ⟨⟨by have := hb.1; omega, by rw [hd4]; have := hb.2; simpa [World.setCell] using this⟩, ?_⟩), TxR2.nil _ _, XA.nil _ _⟩
            exact hf7.keeps (by have := hb.1; omega) (Below.heap_setCell _ _ _ _ (show b ≠ w.heap.size + 1 by have := hb.1; omega))

      · have hf0 := FS.start rb m none w #[.int .i64 (t.kind : Int), .int .i64 (t.place : Int), .string (str t.text), .slice (some ⟨g, 0, none⟩) t.kids.length kc] #[.int .i64 0, .int .i64 (t.place : Int), .string ⟨#[]⟩, .complex .f64 0 0, .string ⟨#[]⟩, .string ⟨#[]⟩, .slice none 0 0, .slice none 0 0, .slice none 0 0] hRI
        obtain ⟨g', cap', kv0, e0, _, hT0, a0, a1, a2, a3⟩ := (hTU _ hf0.rq.2).at 0 hp
        simp only [Value.slice.injEq, Option.some.injEq, Addr.mk.injEq, true_and, and_true] at e0
        obtain ⟨rfl, rfl⟩ := e0
        rw [kid_get (t := t) hp, HH.out] at a2
        simp only [Nat.zero_mul, Nat.zero_add] at a2
        have a2' : (((w.alloc (.cells #[.int .i64 (t.kind : Int), .int .i64 (t.place : Int), .string (str t.text), .slice (some ⟨g, 0, none⟩) t.kids.length kc] 43)).alloc (.cells #[.int .i64 0, .int .i64 (t.place : Int), .string ⟨#[]⟩, .complex .f64 0 0, .string ⟨#[]⟩, .string ⟨#[]⟩, .slice none 0 0, .slice none 0 0, .slice none 0 0] 27)).alloc (.cells #[.int .i64 0, .int .i64 0, .string ⟨#[]⟩, .complex .f64 0 0, .string ⟨#[]⟩, .string ⟨#[]⟩, .slice none 0 0, .slice none 0 0, .slice none 0 0] 27)).cell? ⟨g, 2, none⟩ = some (.string ⟨#[97, 114, 114, 97, 121]⟩) := a2
        obtain ⟨t0, t1, t2, t3⟩ := tree_cells hf0.tb
        clear a0 a1 a3 hT0 a2
        have hlp : (0 : Int) < (t.kids.length : Int) := by omega
        have hf5 := FS.start rb m none w #[.int .i64 (t.kind : Int), .int .i64 (t.place : Int), .string (str t.text), .slice (some ⟨g, 0, none⟩) t.kids.length kc] #[.int .i64 7, .int .i64 (t.place : Int), .string ⟨#[]⟩, .complex .f64 0 0, .string ⟨#[]⟩, .string ⟨#[]⟩, .slice none 0 0, .slice none 0 0, .slice none 0 0] hRI
        obtain ⟨gx, cx, kx, ee, _, cT, c0, c1, c2, c3⟩ := (hTU _ hf5.rq.2).at 1 (by omega)
        simp only [Value.slice.injEq, Option.some.injEq, Addr.mk.injEq, true_and, and_true] at ee
        obtain ⟨rfl, rfl⟩ := ee
        rw [kid_get (t := t) (by omega)] at c0 c1 c2 cT
        simp only [Nat.one_mul] at c0 c1 c2 c3
        obtain ⟨kba, kbc, rfl⟩ := cT.shape
        have hkd := r6kind F rb m none (kid t 1) (.slice kba (kid t 1).kids.length kbc) _ hm hf5.rq.1 cT (fun b hb => by have := (hF b hb).1; have := hf5.lt; have := hf5.lo; omega) (kid_ok htx (by omega)) (by have := kid_nodes (t := t) (i := 1) (by omega); omega)
        unfold trv at hkd
        clear cT
        go_enter Try.func53, Try.ntmps53
        go_wp2_with fail
        generalize (((w.alloc (.cells #[.int .i64 (t.kind : Int), .int .i64 (t.place : Int), .string (str t.text), .slice (some ⟨g, 0, none⟩) t.kids.length kc] 43)).alloc (.cells #[.int .i64 7, .int .i64 (t.place : Int), .string ⟨#[]⟩, .complex .f64 0 0, .string ⟨#[]⟩, .string ⟨#[]⟩, .slice none 0 0, .slice none 0 0, .slice none 0 0] 27)).alloc (.cells #[.int .i64 0, .int .i64 0, .string ⟨#[]⟩, .complex .f64 0 0, .string ⟨#[]⟩, .string ⟨#[]⟩, .slice none 0 0, .slice none 0 0, .slice none 0 0] 27)) = u5 at *
        refine hkd.mono ?_
        rintro e w2 ⟨xx, rfl, hq, hxx⟩
        have hg1 := hf5.call hlt hq
        have hg2 : FS rb m w w.heap.size #[.int .i64 (t.kind : Int), .int .i64 (t.place : Int), .string (str t.text), .slice (some ⟨g, 0, none⟩) t.kids.length kc] (orR none (readR m (kid t 1))) #[.int .i64 7, .int .i64 (t.place : Int), .string ⟨#[]⟩, .complex .f64 0 0, .string ⟨#[]⟩, .string (str xx), .slice none 0 0, .slice none 0 0, .slice none 0 0] (w2.setCell ⟨w.heap.size + 1, 5, none⟩ (.string (str xx))) := hg1.put hlt 5 (.string (str xx))
        clear hkd hq t0 t1 t2 t3
        obtain ⟨⟨x0, x1, x2, x3, x4, x5, x6, x7, x8⟩, xf⟩ := nine9 hg1.eb
        obtain ⟨t0, t1, t2, t3⟩ := tree_cells hg1.tb
        have hS : S6 F _ (.slice (some ⟨g, 8, none⟩) (t.kids.length - 2) (kc - 2)) (t.kids.drop 2) := (hTU _ hg2.rq.2).s6 2 8 _ (by omega) (.inr ⟨hkc2, rfl⟩)
        have hlz := hg2.lt
        have hxs := r6exprs F rb m (orR none (readR m (kid t 1))) (t.kids.drop 2) _ _ hg2.rq.1 hS (fun b hb => ⟨by have := (hF b hb).1; omega, (hF b hb).2⟩) (by simp; omega) (fun k hk => IH k (List.mem_of_mem_drop hk))
        clear hS
        go_wp2_with fail
        refine hxs.mono ?_
        rintro e w6 ⟨v, rfl, ⟨va, vn, vc, rfl⟩, hq6, hx6⟩
        have hf6 := hg2.call hlt hq6
        have hf7 : FS rb m w w.heap.size #[.int .i64 (t.kind : Int), .int .i64 (t.place : Int), .string (str t.text), .slice (some ⟨g, 0, none⟩) t.kids.length kc] _ #[.int .i64 7, .int .i64 (t.place : Int), .string ⟨#[]⟩, .complex .f64 0 0, .string ⟨#[]⟩, .string (str xx), .slice va vn vc, .slice none 0 0, .slice none 0 0] (w6.setCell ⟨w.heap.size + 1, 6, none⟩ (.slice va vn vc)) := hf6.put hlt 6 (.slice va vn vc)
        have hs6 := hq6.2.size
        have hK6 := hq6.2
        obtain ⟨⟨z0, z1, z2, z3, z4, z5, z6, z7, z8⟩, zf⟩ := nine9 hf6.eb
        obtain ⟨t0', t1', t2', t3'⟩ := tree_cells hf6.tb
        clear hxs hq6
        obtain ⟨⟨e0, e1, e2, e3, e4, e5, e6, e7, e8⟩, ef⟩ := nine9 hf7.eb
        obtain ⟨hd1, hd2, hd3, hd4⟩ := hf7.done hlt
        have hrs := hf7.rs
        go_wp2_with (refine wpList_store_row rfl 27 (.tmp 6) (.tmp 239) rfl (w.heap.size + 2) #[.int .i64 7, .int .i64 (t.place : Int), .string ⟨#[]⟩, .complex .f64 0 0, .string ⟨#[]⟩, .string (str xx), .slice va vn vc, .slice none 0 0, .slice none 0 0] rfl rfl 27 #[.int .i64 0, .int .i64 0, .string ⟨#[]⟩, .complex .f64 0 0, .string ⟨#[]⟩, .string ⟨#[]⟩, .slice none 0 0, .slice none 0 0, .slice none 0 0] hrs sizeEx rfl (by first | kernel_rfl | rfl | simp [Value.oneCell']) ?_)
        (try simp only [Exit.inBlock, Exit.then])
        refine bodyPost_ret (res_cell1 rfl _ _ (w.heap.size + 2) 27 #[.int .i64 7, .int .i64 (t.place : Int), .string ⟨#[]⟩, .complex .f64 0 0, .string ⟨#[]⟩, .string (str xx), .slice va vn vc, .slice none 0 0, .slice none 0 0] (0, 0) _ rfl hd2 Try.underlying27 rfl sizeEx) rfl ?_
        have hE := HE.out
        refine exq_of t 7 [] xx _ _ _ ⟨_, _, _, rfl⟩ ⟨_, _, _, rfl⟩ ⟨_, _, _, rfl⟩ (by rw [hE, ← orR_bind (f := fun y ks => (⟨7, t.place, [], 0, 0, [], y, ks, [], [], []⟩ : Ex))]; exact hd1) (fun y hy => ?_)
        rw [hE] at hy
        cases hrd : readR m (kid t 1) with
        | error e => rw [hrd] at hy; cases hy
        | ok y1 =>
          have hxe := hxx (by simp) y1 hrd
          subst hxe
          rw [hrd] at hy
          cases hs : seqP ((t.kids.drop 2).map (exprP m)) with
          | error e => rw [hs] at hy; cases hy
          | ok ks =>
            rw [hs] at hy
            cases hy
            refine ⟨ks, [], [], [], rfl, (hx6 (by rw [hrd]; rfl) ks hs).frame (fun b hb => ⟨⟨by have := hb.1; omega, by rw [hd4]; have := hb.2; simpa [World.setCell] using this⟩, ?_⟩), TxR2.nil _ _, XA.nil _ _⟩
            exact hf7.keeps (by have := hb.1; omega) (Below.heap_setCell _ _ _ _ (show b ≠ w.heap.size + 1 by have := hb.1; omega))

end Go.Proofs.Ytcokihblicgbpaa
