/-
  The document's own reader of modules: if.
-/
import Derived.Test.YtcokihblicgbpaaRef6FormBZ
namespace Go.Proofs.Ytcokihblicgbpaa
open Go.RowKit

set_option maxHeartbeats 4000000 in
set_option maxRecDepth 1000000 in
theorem r6if (m : List UInt8) (t : Tr) (hk1 : t.kind = 1) (hp : 0 < t.kids.length) (hk3 : (kid t 0).kind = 3) (hh : (kid t 0).text = ifK) (IH : ∀ k ∈ t.kids, ExAll m k) (hnd : nodes t ≤ 8192) : FmAll m t := by
  intro F rb kv w hRI hT hF
  have hkl := kids_lt6 t
  have hlt := hRI.lt
  obtain ⟨g, kc, kv0, e0, hg, _, _, _, _, _⟩ := hT.at 0 hp
  subst e0
  have hcap := hT.cap
  have hTU : ∀ u, Kept (fun k => k = rb) w u → TL F u (.slice (some ⟨g, 0, none⟩) t.kids.length kc) t.kids := fun u hu => hT.frame fun g hg => ⟨hg, hu.block g (hF g hg).1 (hF g hg).2⟩
  have HP := exprP_head m t hk1 hp hk3
  rw [hh] at HP
  have HH := hidden hh
  clear hk1 hk3 hh
  unfold trv
  by_cases h4 : t.kids.length = 4
  · have hb4 : ((t.kids.length : Int) != 4) = false := by rw [bne_eq_false_iff_eq]; omega
    have hkc : ¬ kc = 1 := by omega
    have HE : Hid (exprP m t = (seqP ((t.kids.drop 1).map (exprP m))).bind (fun ks => .ok (exK 5 t [] ks))) := by
      rw [hid_iff, HP, headP, if_neg (by decide), if_pos rfl, if_neg (by omega), seq_drop]
    have H4 := hidden h4
    clear h4 HP
    have hf0 := FS.start rb m none w #[.int .i64 (t.kind : Int), .int .i64 (t.place : Int), .string (str t.text), .slice (some ⟨g, 0, none⟩) t.kids.length kc] #[.int .i64 0, .int .i64 (t.place : Int), .string ⟨#[]⟩, .complex .f64 0 0, .string ⟨#[]⟩, .string ⟨#[]⟩, .slice none 0 0, .slice none 0 0, .slice none 0 0] hRI
    obtain ⟨g', cap', kv0, e0, _, hT0, a0, a1, a2, a3⟩ := (hTU _ hf0.rq.2).at 0 hp
    simp only [Value.slice.injEq, Option.some.injEq, Addr.mk.injEq, true_and, and_true] at e0
    obtain ⟨rfl, rfl⟩ := e0
    rw [kid_get (t := t) hp, HH.out] at a2
    simp only [Nat.zero_mul, Nat.zero_add] at a2
    have a2' : (((w.alloc (.cells #[.int .i64 (t.kind : Int), .int .i64 (t.place : Int), .string (str t.text), .slice (some ⟨g, 0, none⟩) t.kids.length kc] 43)).alloc (.cells #[.int .i64 0, .int .i64 (t.place : Int), .string ⟨#[]⟩, .complex .f64 0 0, .string ⟨#[]⟩, .string ⟨#[]⟩, .slice none 0 0, .slice none 0 0, .slice none 0 0] 27)).alloc (.cells #[.int .i64 0, .int .i64 0, .string ⟨#[]⟩, .complex .f64 0 0, .string ⟨#[]⟩, .string ⟨#[]⟩, .slice none 0 0, .slice none 0 0, .slice none 0 0] 27)).cell? ⟨g, 2, none⟩ = some (.string ⟨#[105, 102]⟩) := a2
    obtain ⟨t0, t1, t2, t3⟩ := tree_cells hf0.tb
    clear a0 a1 a3 hT0 a2
    have hlp : (0 : Int) < (t.kids.length : Int) := by omega
    have hf5 := FS.start rb m none w #[.int .i64 (t.kind : Int), .int .i64 (t.place : Int), .string (str t.text), .slice (some ⟨g, 0, none⟩) t.kids.length kc] #[.int .i64 5, .int .i64 (t.place : Int), .string ⟨#[]⟩, .complex .f64 0 0, .string ⟨#[]⟩, .string ⟨#[]⟩, .slice none 0 0, .slice none 0 0, .slice none 0 0] hRI
    have hS5 : S6 F _ (.slice (some ⟨g, 4, none⟩) (t.kids.length - 1) (kc - 1)) (t.kids.drop 1) := (hTU _ hf5.rq.2).s6 1 4 _ (by omega) (.inr ⟨hkc, rfl⟩)
    have hz5 : (((w.alloc (.cells #[.int .i64 (t.kind : Int), .int .i64 (t.place : Int), .string (str t.text), .slice (some ⟨g, 0, none⟩) t.kids.length kc] 43)).alloc (.cells #[.int .i64 5, .int .i64 (t.place : Int), .string ⟨#[]⟩, .complex .f64 0 0, .string ⟨#[]⟩, .string ⟨#[]⟩, .slice none 0 0, .slice none 0 0, .slice none 0 0] 27)).alloc (.cells #[.int .i64 0, .int .i64 0, .string ⟨#[]⟩, .complex .f64 0 0, .string ⟨#[]⟩, .string ⟨#[]⟩, .slice none 0 0, .slice none 0 0, .slice none 0 0] 27)).heap.size = w.heap.size + 3 := by simp
    have hxs := r6exprs F rb m none (t.kids.drop 1) _ _ hf5.rq.1 hS5 (fun b hb => ⟨by have := (hF b hb).1; have := hf5.lt; omega, (hF b hb).2⟩) (by simp; omega) (fun k hk => IH k (List.mem_of_mem_drop hk))
    clear hS5
    go_enter Try.func53, Try.ntmps53
    go_wp2_with fail
    generalize (((w.alloc (.cells #[.int .i64 (t.kind : Int), .int .i64 (t.place : Int), .string (str t.text), .slice (some ⟨g, 0, none⟩) t.kids.length kc] 43)).alloc (.cells #[.int .i64 5, .int .i64 (t.place : Int), .string ⟨#[]⟩, .complex .f64 0 0, .string ⟨#[]⟩, .string ⟨#[]⟩, .slice none 0 0, .slice none 0 0, .slice none 0 0] 27)).alloc (.cells #[.int .i64 0, .int .i64 0, .string ⟨#[]⟩, .complex .f64 0 0, .string ⟨#[]⟩, .string ⟨#[]⟩, .slice none 0 0, .slice none 0 0, .slice none 0 0] 27)) = u5 at *
    refine hxs.mono ?_
    rintro e w6 ⟨v, rfl, ⟨va, vn, vc, rfl⟩, hq6, hx6⟩
    have hf6 := hf5.call hlt hq6
    have hf7 : FS rb m w w.heap.size #[.int .i64 (t.kind : Int), .int .i64 (t.place : Int), .string (str t.text), .slice (some ⟨g, 0, none⟩) t.kids.length kc] _ #[.int .i64 5, .int .i64 (t.place : Int), .string ⟨#[]⟩, .complex .f64 0 0, .string ⟨#[]⟩, .string ⟨#[]⟩, .slice va vn vc, .slice none 0 0, .slice none 0 0] (w6.setCell ⟨w.heap.size + 1, 6, none⟩ (.slice va vn vc)) := hf6.put hlt 6 (.slice va vn vc)
    have hs6 := hq6.2.size
    obtain ⟨⟨z0, z1, z2, z3, z4, z5, z6, z7, z8⟩, zf⟩ := nine9 hf6.eb
    obtain ⟨t0', t1', t2', t3'⟩ := tree_cells hf6.tb
    clear hxs hq6 hf5 hf0 t0 t1 t2 t3 a2'
    obtain ⟨⟨e0, e1, e2, e3, e4, e5, e6, e7, e8⟩, ef⟩ := nine9 hf7.eb
    obtain ⟨hd1, hd2, hd3, hd4⟩ := hf7.done hlt
    have hrs := hf7.rs
    go_wp2_with (refine wpList_store_row rfl 27 (.tmp 6) (.tmp 239) rfl (w.heap.size + 2) #[.int .i64 5, .int .i64 (t.place : Int), .string ⟨#[]⟩, .complex .f64 0 0, .string ⟨#[]⟩, .string ⟨#[]⟩, .slice va vn vc, .slice none 0 0, .slice none 0 0] rfl rfl 27 #[.int .i64 0, .int .i64 0, .string ⟨#[]⟩, .complex .f64 0 0, .string ⟨#[]⟩, .string ⟨#[]⟩, .slice none 0 0, .slice none 0 0, .slice none 0 0] hrs sizeEx rfl (by first | kernel_rfl | rfl | simp [Value.oneCell']) ?_)
    (try simp only [Exit.inBlock, Exit.then])
    refine bodyPost_ret (res_cell1 rfl _ _ (w.heap.size + 2) 27 #[.int .i64 5, .int .i64 (t.place : Int), .string ⟨#[]⟩, .complex .f64 0 0, .string ⟨#[]⟩, .string ⟨#[]⟩, .slice va vn vc, .slice none 0 0, .slice none 0 0] (0, 0) _ rfl hd2 Try.underlying27 rfl sizeEx) rfl ?_
    have hE := HE.out
    refine exq_of t 5 [] [] _ _ _ ⟨_, _, _, rfl⟩ ⟨_, _, _, rfl⟩ ⟨_, _, _, rfl⟩ (by rw [hE, orR_bind1]; exact hd1) (fun y hy => ?_)
    rw [hE] at hy
    cases hs : seqP ((t.kids.drop 1).map (exprP m)) with
    | error e => rw [hs] at hy; cases hy
    | ok ks =>
      rw [hs] at hy
      cases hy
      refine ⟨ks, [], [], [], rfl, (hx6 (by simp) ks hs).frame (fun b hb => ⟨⟨by have := hb.1; omega, by rw [hd4]; have := hb.2; simpa [World.setCell] using this⟩, ?_⟩), TxR2.nil _ _, XA.nil _ _⟩
      exact hf7.keeps (by have := hb.1; omega) (Below.heap_setCell _ _ _ _ (show b ≠ w.heap.size + 1 by have := hb.1; omega))

  · have hb4 : ((t.kids.length : Int) != 4) = true := by rw [bne_iff_ne]; omega
    have HE : Hid (exprP m t = .error (12, t.place)) := by
      rw [hid_iff, HP, headP, if_neg (by decide), if_pos rfl, if_pos h4]
    clear HP
    by_cases hkc : kc = 1
    · subst hkc
      have hf0 := FS.start rb m none w #[.int .i64 (t.kind : Int), .int .i64 (t.place : Int), .string (str t.text), .slice (some ⟨g, 0, none⟩) t.kids.length 1] #[.int .i64 0, .int .i64 (t.place : Int), .string ⟨#[]⟩, .complex .f64 0 0, .string ⟨#[]⟩, .string ⟨#[]⟩, .slice none 0 0, .slice none 0 0, .slice none 0 0] hRI
      obtain ⟨g', cap', kv0, e0, _, hT0, a0, a1, a2, a3⟩ := (hTU _ hf0.rq.2).at 0 hp
      simp only [Value.slice.injEq, Option.some.injEq, Addr.mk.injEq, true_and, and_true] at e0
      obtain ⟨rfl, rfl⟩ := e0
      rw [kid_get (t := t) hp, HH.out] at a2
      simp only [Nat.zero_mul, Nat.zero_add] at a2
      have a2' : (((w.alloc (.cells #[.int .i64 (t.kind : Int), .int .i64 (t.place : Int), .string (str t.text), .slice (some ⟨g, 0, none⟩) t.kids.length 1] 43)).alloc (.cells #[.int .i64 0, .int .i64 (t.place : Int), .string ⟨#[]⟩, .complex .f64 0 0, .string ⟨#[]⟩, .string ⟨#[]⟩, .slice none 0 0, .slice none 0 0, .slice none 0 0] 27)).alloc (.cells #[.int .i64 0, .int .i64 0, .string ⟨#[]⟩, .complex .f64 0 0, .string ⟨#[]⟩, .string ⟨#[]⟩, .slice none 0 0, .slice none 0 0, .slice none 0 0] 27)).cell? ⟨g, 2, none⟩ = some (.string ⟨#[105, 102]⟩) := a2
      obtain ⟨t0, t1, t2, t3⟩ := tree_cells hf0.tb
      clear a0 a1 a3 hT0 a2
      have hlp : (0 : Int) < (t.kids.length : Int) := by omega
      have hr := r6refuse rb m none 12 t.place _ hf0.rq.1 (by decide)
      go_enter Try.func53, Try.ntmps53
      go_wp2_with fail
      generalize (((w.alloc (.cells #[.int .i64 (t.kind : Int), .int .i64 (t.place : Int), .string (str t.text), .slice (some ⟨g, 0, none⟩) t.kids.length 1] 43)).alloc (.cells #[.int .i64 0, .int .i64 (t.place : Int), .string ⟨#[]⟩, .complex .f64 0 0, .string ⟨#[]⟩, .string ⟨#[]⟩, .slice none 0 0, .slice none 0 0, .slice none 0 0] 27)).alloc (.cells #[.int .i64 0, .int .i64 0, .string ⟨#[]⟩, .complex .f64 0 0, .string ⟨#[]⟩, .string ⟨#[]⟩, .slice none 0 0, .slice none 0 0, .slice none 0 0] 27)) = u0 at *
      refine hr.mono ?_
      rintro e w2 ⟨rfl, hq⟩
      have hf1 := hf0.call hlt hq
      clear hr hf0 t0 t1 t2 t3 a2'
      obtain ⟨t0, t1, t2, t3⟩ := tree_cells hf1.tb
      obtain ⟨⟨e0, e1, e2, e3, e4, e5, e6, e7, e8⟩, ef⟩ := nine9 hf1.eb
      obtain ⟨hd1, hd2, hd3, hd4⟩ := hf1.done hlt
      have hrs := hf1.rs
      go_wp2_with (refine wpList_store_row rfl 27 (.tmp 6) (.tmp 66) rfl (w.heap.size + 2) #[.int .i64 0, .int .i64 (t.place : Int), .string ⟨#[]⟩, .complex .f64 0 0, .string ⟨#[]⟩, .string ⟨#[]⟩, .slice none 0 0, .slice none 0 0, .slice none 0 0] rfl rfl 27 #[.int .i64 0, .int .i64 0, .string ⟨#[]⟩, .complex .f64 0 0, .string ⟨#[]⟩, .string ⟨#[]⟩, .slice none 0 0, .slice none 0 0, .slice none 0 0] hrs sizeEx rfl (by first | kernel_rfl | rfl | simp [Value.oneCell']) ?_)
      (try simp only [Exit.inBlock, Exit.then])
      refine bodyPost_ret (res_cell1 rfl _ _ (w.heap.size + 2) 27 #[.int .i64 0, .int .i64 (t.place : Int), .string ⟨#[]⟩, .complex .f64 0 0, .string ⟨#[]⟩, .string ⟨#[]⟩, .slice none 0 0, .slice none 0 0, .slice none 0 0] (0, 0) _ rfl hd2 Try.underlying27 rfl sizeEx) rfl ?_
      have hE := HE.out
      exact exq_of t 0 [] [] _ _ _ ⟨_, _, _, rfl⟩ ⟨_, _, _, rfl⟩ ⟨_, _, _, rfl⟩ (by rw [hE]; exact hd1) (fun y hy => by rw [hE] at hy; cases hy)

    · have hf0 := FS.start rb m none w #[.int .i64 (t.kind : Int), .int .i64 (t.place : Int), .string (str t.text), .slice (some ⟨g, 0, none⟩) t.kids.length kc] #[.int .i64 0, .int .i64 (t.place : Int), .string ⟨#[]⟩, .complex .f64 0 0, .string ⟨#[]⟩, .string ⟨#[]⟩, .slice none 0 0, .slice none 0 0, .slice none 0 0] hRI
      obtain ⟨g', cap', kv0, e0, _, hT0, a0, a1, a2, a3⟩ := (hTU _ hf0.rq.2).at 0 hp
      simp only [Value.slice.injEq, Option.some.injEq, Addr.mk.injEq, true_and, and_true] at e0
      obtain ⟨rfl, rfl⟩ := e0
      rw [kid_get (t := t) hp, HH.out] at a2
      simp only [Nat.zero_mul, Nat.zero_add] at a2
      have a2' : (((w.alloc (.cells #[.int .i64 (t.kind : Int), .int .i64 (t.place : Int), .string (str t.text), .slice (some ⟨g, 0, none⟩) t.kids.length kc] 43)).alloc (.cells #[.int .i64 0, .int .i64 (t.place : Int), .string ⟨#[]⟩, .complex .f64 0 0, .string ⟨#[]⟩, .string ⟨#[]⟩, .slice none 0 0, .slice none 0 0, .slice none 0 0] 27)).alloc (.cells #[.int .i64 0, .int .i64 0, .string ⟨#[]⟩, .complex .f64 0 0, .string ⟨#[]⟩, .string ⟨#[]⟩, .slice none 0 0, .slice none 0 0, .slice none 0 0] 27)).cell? ⟨g, 2, none⟩ = some (.string ⟨#[105, 102]⟩) := a2
      obtain ⟨t0, t1, t2, t3⟩ := tree_cells hf0.tb
      clear a0 a1 a3 hT0 a2
      have hlp : (0 : Int) < (t.kids.length : Int) := by omega
      have hr := r6refuse rb m none 12 t.place _ hf0.rq.1 (by decide)
      go_enter Try.func53, Try.ntmps53
      go_wp2_with fail
      generalize (((w.alloc (.cells #[.int .i64 (t.kind : Int), .int .i64 (t.place : Int), .string (str t.text), .slice (some ⟨g, 0, none⟩) t.kids.length kc] 43)).alloc (.cells #[.int .i64 0, .int .i64 (t.place : Int), .string ⟨#[]⟩, .complex .f64 0 0, .string ⟨#[]⟩, .string ⟨#[]⟩, .slice none 0 0, .slice none 0 0, .slice none 0 0] 27)).alloc (.cells #[.int .i64 0, .int .i64 0, .string ⟨#[]⟩, .complex .f64 0 0, .string ⟨#[]⟩, .string ⟨#[]⟩, .slice none 0 0, .slice none 0 0, .slice none 0 0] 27)) = u0 at *
      refine hr.mono ?_
      rintro e w2 ⟨rfl, hq⟩
      have hf1 := hf0.call hlt hq
      clear hr hf0 t0 t1 t2 t3 a2'
      obtain ⟨t0, t1, t2, t3⟩ := tree_cells hf1.tb
      obtain ⟨⟨e0, e1, e2, e3, e4, e5, e6, e7, e8⟩, ef⟩ := nine9 hf1.eb
      obtain ⟨hd1, hd2, hd3, hd4⟩ := hf1.done hlt
      have hrs := hf1.rs
      go_wp2_with (refine wpList_store_row rfl 27 (.tmp 6) (.tmp 66) rfl (w.heap.size + 2) #[.int .i64 0, .int .i64 (t.place : Int), .string ⟨#[]⟩, .complex .f64 0 0, .string ⟨#[]⟩, .string ⟨#[]⟩, .slice none 0 0, .slice none 0 0, .slice none 0 0] rfl rfl 27 #[.int .i64 0, .int .i64 0, .string ⟨#[]⟩, .complex .f64 0 0, .string ⟨#[]⟩, .string ⟨#[]⟩, .slice none 0 0, .slice none 0 0, .slice none 0 0] hrs sizeEx rfl (by first | kernel_rfl | rfl | simp [Value.oneCell']) ?_)
      (try simp only [Exit.inBlock, Exit.then])
      refine bodyPost_ret (res_cell1 rfl _ _ (w.heap.size + 2) 27 #[.int .i64 0, .int .i64 (t.place : Int), .string ⟨#[]⟩, .complex .f64 0 0, .string ⟨#[]⟩, .string ⟨#[]⟩, .slice none 0 0, .slice none 0 0, .slice none 0 0] (0, 0) _ rfl hd2 Try.underlying27 rfl sizeEx) rfl ?_
      have hE := HE.out
      exact exq_of t 0 [] [] _ _ _ ⟨_, _, _, rfl⟩ ⟨_, _, _, rfl⟩ ⟨_, _, _, rfl⟩ (by rw [hE]; exact hd1) (fun y hy => by rw [hE] at hy; cases hy)

end Go.Proofs.Ytcokihblicgbpaa
