/-
  The document's own reader of modules: values of a case.
-/
import Derived.Test.YtcokihblicgbpaaRef6FormBZ
namespace Go.Proofs.Ytcokihblicgbpaa
open Go.RowKit

set_option maxHeartbeats 4000000 in
set_option maxRecDepth 1000000 in
theorem r6makeA (m : List UInt8) (t : Tr) (hk1 : t.kind = 1) (hp : 0 < t.kids.length) (hk3 : (kid t 0).kind = 3) (htx : TxOk t) (hn : (kid t 0).text ≠ letK ∧ (kid t 0).text ≠ ifK ∧ (kid t 0).text ≠ arrayL ∧ (kid t 0).text ≠ matchK ∧ (kid t 0).text ≠ fnL ∧ (kid t 0).text ≠ callK) (ho : isOp (kid t 0).text = false) (hb : bigR (kid t 0).text = true) (IH : ∀ k ∈ t.kids, ExAll m k) (hnd : nodes t ≤ 8192) : FmAll m t := by
  intro F rb kv w hRI hT hF
  have hkl := kids_lt6 t
  have hlt := hRI.lt
  obtain ⟨g, kc, kv0, e0, hg, _, _, _, _, _⟩ := hT.at 0 hp
  subst e0
  have hcap := hT.cap
  have hTU : ∀ u, Kept (fun k => k = rb) w u → TL F u (.slice (some ⟨g, 0, none⟩) t.kids.length kc) t.kids := fun u hu => hT.frame fun g hg => ⟨hg, hu.block g (hF g hg).1 (hF g hg).2⟩
  have HP := exprP_head m t hk1 hp hk3
  have htl := ((TxOk_iff _).1 (kid_ok htx hp)).1
  clear hk1 hk3
  unfold trv
  have l1 : ((str (kid t 0).text).toList == [108, 101, 116]) = false := by rw [beq_eq_false_iff_ne, Lib.toList_data, str_data]; exact hn.1
  have l2 : ((str (kid t 0).text).toList == [105, 102]) = false := by rw [beq_eq_false_iff_ne, Lib.toList_data, str_data]; exact hn.2.1
  have l3 : ((str (kid t 0).text).toList == [97, 114, 114, 97, 121]) = false := by rw [beq_eq_false_iff_ne, Lib.toList_data, str_data]; exact hn.2.2.1
  have l4 : ((str (kid t 0).text).toList == [109, 97, 116, 99, 104]) = false := by rw [beq_eq_false_iff_ne, Lib.toList_data, str_data]; exact hn.2.2.2.1
  have l5 : ((str (kid t 0).text).toList == [102, 110]) = false := by rw [beq_eq_false_iff_ne, Lib.toList_data, str_data]; exact hn.2.2.2.2.1
  have l6 : ((str (kid t 0).text).toList == [99, 97, 108, 108]) = false := by rw [beq_eq_false_iff_ne, Lib.toList_data, str_data]; exact hn.2.2.2.2.2
  rw [headP, if_neg hn.1, if_neg hn.2.1, if_neg hn.2.2.1, if_neg hn.2.2.2.1, if_neg hn.2.2.2.2.1, if_neg hn.2.2.2.2.2] at HP
  clear hn
  rw [if_neg (by rw [ho]; decide), if_pos (.inl hb)] at HP
  have HO := hidden ho
  have HB := hidden hb
  clear ho hb
  by_cases h6 : 4 < t.kids.length - 1
  · have hi6 : (4 : Int) < (t.kids.length : Int) - 1 := by omega
    rw [if_pos h6] at HP
    have HE := hidden HP
    clear HP
    have hkc : ¬ kc = 1 := by omega
    have hf0 := FS.start rb m none w #[.int .i64 (t.kind : Int), .int .i64 (t.place : Int), .string (str t.text), .slice (some ⟨g, 0, none⟩) t.kids.length kc] #[.int .i64 0, .int .i64 (t.place : Int), .string ⟨#[]⟩, .complex .f64 0 0, .string ⟨#[]⟩, .string ⟨#[]⟩, .slice none 0 0, .slice none 0 0, .slice none 0 0] hRI
    obtain ⟨g', cap', kv0, e0, _, hT0, a0, a1, a2, a3⟩ := (hTU _ hf0.rq.2).at 0 hp
    simp only [Value.slice.injEq, Option.some.injEq, Addr.mk.injEq, true_and, and_true] at e0
    obtain ⟨rfl, rfl⟩ := e0
    rw [kid_get (t := t) hp] at a2
    simp only [Nat.zero_mul, Nat.zero_add] at a2
    have a2' := a2
    obtain ⟨t0, t1, t2, t3⟩ := tree_cells hf0.tb
    clear a0 a1 a3 hT0 a2
    have hlp : (0 : Int) < (t.kids.length : Int) := by omega
    have hop := r6op (kid t 0).text (((w.alloc (.cells #[.int .i64 (t.kind : Int), .int .i64 (t.place : Int), .string (str t.text), .slice (some ⟨g, 0, none⟩) t.kids.length kc] 43)).alloc (.cells #[.int .i64 0, .int .i64 (t.place : Int), .string ⟨#[]⟩, .complex .f64 0 0, .string ⟨#[]⟩, .string ⟨#[]⟩, .slice none 0 0, .slice none 0 0, .slice none 0 0] 27)).alloc (.cells #[.int .i64 0, .int .i64 0, .string ⟨#[]⟩, .complex .f64 0 0, .string ⟨#[]⟩, .string ⟨#[]⟩, .slice none 0 0, .slice none 0 0, .slice none 0 0] 27))
    rw [HO.out] at hop
    go_enter Try.func53, Try.ntmps53
    go_wp2_with fail
    generalize (((w.alloc (.cells #[.int .i64 (t.kind : Int), .int .i64 (t.place : Int), .string (str t.text), .slice (some ⟨g, 0, none⟩) t.kids.length kc] 43)).alloc (.cells #[.int .i64 0, .int .i64 (t.place : Int), .string ⟨#[]⟩, .complex .f64 0 0, .string ⟨#[]⟩, .string ⟨#[]⟩, .slice none 0 0, .slice none 0 0, .slice none 0 0] 27)).alloc (.cells #[.int .i64 0, .int .i64 0, .string ⟨#[]⟩, .complex .f64 0 0, .string ⟨#[]⟩, .string ⟨#[]⟩, .slice none 0 0, .slice none 0 0, .slice none 0 0] 27)) = u0 at *
    refine hop.mono ?_
    rintro e wa1 ⟨⟨i, rfl, hi⟩, hb⟩
    have hg1 := hf0.more hlt hb
    have hi0 : ¬ (0 : Int) ≤ i := of_decide_eq_false hi
    clear hop hi hb
    clear t0 t1 t2 t3
    obtain ⟨t0, t1, t2, t3⟩ := tree_cells hg1.tb
    have hpu := refBig (str (kid t 0).text) wa1 (by rw [str_size]; omega)
    rw [str_data, HB.out] at hpu
    go_wp2_with fail
    refine hpu.mono ?_
    rintro e wa2 ⟨rfl, rfl⟩
    clear hpu
    have hr := r6refuse rb m none 19 t.place _ hg1.rq.1 (by decide)
    go_wp2_with fail
    refine hr.mono ?_
    rintro e wa3 ⟨rfl, hq⟩
    have hg3 := hg1.call hlt hq
    clear hr hq
    clear t0 t1 t2 t3
    obtain ⟨t0, t1, t2, t3⟩ := tree_cells hg3.tb
    have hp1 : FS rb m w w.heap.size #[.int .i64 (t.kind : Int), .int .i64 (t.place : Int), .string (str t.text), .slice (some ⟨g, 0, none⟩) t.kids.length kc] (some (19, t.place)) #[.int .i64 8, .int .i64 (t.place : Int), .string ⟨#[]⟩, .complex .f64 0 0, .string ⟨#[]⟩, .string ⟨#[]⟩, .slice none 0 0, .slice none 0 0, .slice none 0 0] (wa3.setCell ⟨w.heap.size + 1, 0, none⟩ (.int .i64 8)) := hg3.put hlt 0 (.int .i64 8)
    have hp2 : FS rb m w w.heap.size #[.int .i64 (t.kind : Int), .int .i64 (t.place : Int), .string (str t.text), .slice (some ⟨g, 0, none⟩) t.kids.length kc] (some (19, t.place)) #[.int .i64 8, .int .i64 (t.place : Int), .string (str (kid t 0).text), .complex .f64 0 0, .string ⟨#[]⟩, .string ⟨#[]⟩, .slice none 0 0, .slice none 0 0, .slice none 0 0] ((wa3.setCell ⟨w.heap.size + 1, 0, none⟩ (.int .i64 8)).setCell ⟨w.heap.size + 1, 2, none⟩ (.string (str (kid t 0).text))) := hp1.put hlt 2 (.string (str (kid t 0).text))
    obtain ⟨⟨y0, y1, y2, y3, y4, y5, y6, y7, y8⟩, yf⟩ := nine9 hg3.eb
    have hS : S6 F _ (.slice (some ⟨g, 4, none⟩) (t.kids.length - 1) (kc - 1)) (t.kids.drop 1) := (hTU _ hp2.rq.2).s6 1 4 _ (by omega) (.inr ⟨hkc, rfl⟩)
    have hlz := hp2.lt
    have hxs := r6exprs F rb m (some (19, t.place)) (t.kids.drop 1) _ _ hp2.rq.1 hS (fun b hb => ⟨by have := (hF b hb).1; omega, (hF b hb).2⟩) (by simp; omega) (fun k hk => IH k (List.mem_of_mem_drop hk))
    clear hS
    go_wp2_with fail
    refine hxs.mono ?_
    rintro e w6 ⟨v, rfl, ⟨va, vn, vc, rfl⟩, hq6, hx6⟩
    have hf6 := hp2.call hlt hq6
    have hf7 : FS rb m w w.heap.size #[.int .i64 (t.kind : Int), .int .i64 (t.place : Int), .string (str t.text), .slice (some ⟨g, 0, none⟩) t.kids.length kc] _ #[.int .i64 8, .int .i64 (t.place : Int), .string (str (kid t 0).text), .complex .f64 0 0, .string ⟨#[]⟩, .string ⟨#[]⟩, .slice va vn vc, .slice none 0 0, .slice none 0 0] (w6.setCell ⟨w.heap.size + 1, 6, none⟩ (.slice va vn vc)) := hf6.put hlt 6 (.slice va vn vc)
    have hs6 := hq6.2.size
    have hK6 := hq6.2
    obtain ⟨⟨z0, z1, z2, z3, z4, z5, z6, z7, z8⟩, zf⟩ := nine9 hf6.eb
    obtain ⟨t0', t1', t2', t3'⟩ := tree_cells hf6.tb
    clear hxs hq6
    obtain ⟨⟨e0, e1, e2, e3, e4, e5, e6, e7, e8⟩, ef⟩ := nine9 hf7.eb
    obtain ⟨hd1, hd2, hd3, hd4⟩ := hf7.done hlt
    have hrs := hf7.rs
    go_wp2_with (refine wpList_store_row rfl 27 (.tmp 6) (.tmp 239) rfl (w.heap.size + 2) #[.int .i64 8, .int .i64 (t.place : Int), .string (str (kid t 0).text), .complex .f64 0 0, .string ⟨#[]⟩, .string ⟨#[]⟩, .slice va vn vc, .slice none 0 0, .slice none 0 0] rfl rfl 27 #[.int .i64 0, .int .i64 0, .string ⟨#[]⟩, .complex .f64 0 0, .string ⟨#[]⟩, .string ⟨#[]⟩, .slice none 0 0, .slice none 0 0, .slice none 0 0] hrs sizeEx rfl (by first | kernel_rfl | rfl | simp [Value.oneCell']) ?_)
    (try simp only [Exit.inBlock, Exit.then])
    refine bodyPost_ret (res_cell1 rfl _ _ (w.heap.size + 2) 27 #[.int .i64 8, .int .i64 (t.place : Int), .string (str (kid t 0).text), .complex .f64 0 0, .string ⟨#[]⟩, .string ⟨#[]⟩, .slice va vn vc, .slice none 0 0, .slice none 0 0] (0, 0) _ rfl hd2 Try.underlying27 rfl sizeEx) rfl ?_
    have hE := HE.out
    refine exq_of t 8 (kid t 0).text [] _ _ _ ⟨_, _, _, rfl⟩ ⟨_, _, _, rfl⟩ ⟨_, _, _, rfl⟩ (by rw [hE]; exact hd1) (fun y hy => ?_)
    rw [hE] at hy
    cases hy

  · have hi6 : ¬ (4 : Int) < (t.kids.length : Int) - 1 := by omega
    rw [if_neg h6, seq_drop] at HP
    have HE := hidden HP
    clear HP
    by_cases hkc : kc = 1
    · subst hkc
      have hf0 := FS.start rb m none w #[.int .i64 (t.kind : Int), .int .i64 (t.place : Int), .string (str t.text), .slice (some ⟨g, 0, none⟩) t.kids.length 1] #[.int .i64 0, .int .i64 (t.place : Int), .string ⟨#[]⟩, .complex .f64 0 0, .string ⟨#[]⟩, .string ⟨#[]⟩, .slice none 0 0, .slice none 0 0, .slice none 0 0] hRI
      obtain ⟨g', cap', kv0, e0, _, hT0, a0, a1, a2, a3⟩ := (hTU _ hf0.rq.2).at 0 hp
      simp only [Value.slice.injEq, Option.some.injEq, Addr.mk.injEq, true_and, and_true] at e0
      obtain ⟨rfl, rfl⟩ := e0
      rw [kid_get (t := t) hp] at a2
      simp only [Nat.zero_mul, Nat.zero_add] at a2
      have a2' := a2
      obtain ⟨t0, t1, t2, t3⟩ := tree_cells hf0.tb
      clear a0 a1 a3 hT0 a2
      have hlp : (0 : Int) < (t.kids.length : Int) := by omega
      have hop := r6op (kid t 0).text (((w.alloc (.cells #[.int .i64 (t.kind : Int), .int .i64 (t.place : Int), .string (str t.text), .slice (some ⟨g, 0, none⟩) t.kids.length 1] 43)).alloc (.cells #[.int .i64 0, .int .i64 (t.place : Int), .string ⟨#[]⟩, .complex .f64 0 0, .string ⟨#[]⟩, .string ⟨#[]⟩, .slice none 0 0, .slice none 0 0, .slice none 0 0] 27)).alloc (.cells #[.int .i64 0, .int .i64 0, .string ⟨#[]⟩, .complex .f64 0 0, .string ⟨#[]⟩, .string ⟨#[]⟩, .slice none 0 0, .slice none 0 0, .slice none 0 0] 27))
      rw [HO.out] at hop
      go_enter Try.func53, Try.ntmps53
      go_wp2_with fail
      generalize (((w.alloc (.cells #[.int .i64 (t.kind : Int), .int .i64 (t.place : Int), .string (str t.text), .slice (some ⟨g, 0, none⟩) t.kids.length 1] 43)).alloc (.cells #[.int .i64 0, .int .i64 (t.place : Int), .string ⟨#[]⟩, .complex .f64 0 0, .string ⟨#[]⟩, .string ⟨#[]⟩, .slice none 0 0, .slice none 0 0, .slice none 0 0] 27)).alloc (.cells #[.int .i64 0, .int .i64 0, .string ⟨#[]⟩, .complex .f64 0 0, .string ⟨#[]⟩, .string ⟨#[]⟩, .slice none 0 0, .slice none 0 0, .slice none 0 0] 27)) = u0 at *
      refine hop.mono ?_
      rintro e wa1 ⟨⟨i, rfl, hi⟩, hb⟩
      have hg1 := hf0.more hlt hb
      have hi0 : ¬ (0 : Int) ≤ i := of_decide_eq_false hi
      clear hop hi hb
      clear t0 t1 t2 t3
      obtain ⟨t0, t1, t2, t3⟩ := tree_cells hg1.tb
      have hpu := refBig (str (kid t 0).text) wa1 (by rw [str_size]; omega)
      rw [str_data, HB.out] at hpu
      go_wp2_with fail
      refine hpu.mono ?_
      rintro e wa2 ⟨rfl, rfl⟩
      clear hpu
      have hp1 : FS rb m w w.heap.size #[.int .i64 (t.kind : Int), .int .i64 (t.place : Int), .string (str t.text), .slice (some ⟨g, 0, none⟩) t.kids.length 1] none #[.int .i64 8, .int .i64 (t.place : Int), .string ⟨#[]⟩, .complex .f64 0 0, .string ⟨#[]⟩, .string ⟨#[]⟩, .slice none 0 0, .slice none 0 0, .slice none 0 0] (wa2.setCell ⟨w.heap.size + 1, 0, none⟩ (.int .i64 8)) := hg1.put hlt 0 (.int .i64 8)
      have hp2 : FS rb m w w.heap.size #[.int .i64 (t.kind : Int), .int .i64 (t.place : Int), .string (str t.text), .slice (some ⟨g, 0, none⟩) t.kids.length 1] none #[.int .i64 8, .int .i64 (t.place : Int), .string (str (kid t 0).text), .complex .f64 0 0, .string ⟨#[]⟩, .string ⟨#[]⟩, .slice none 0 0, .slice none 0 0, .slice none 0 0] ((wa2.setCell ⟨w.heap.size + 1, 0, none⟩ (.int .i64 8)).setCell ⟨w.heap.size + 1, 2, none⟩ (.string (str (kid t 0).text))) := hp1.put hlt 2 (.string (str (kid t 0).text))
      obtain ⟨⟨y0, y1, y2, y3, y4, y5, y6, y7, y8⟩, yf⟩ := nine9 hg1.eb
      have hS := (hTU _ hp2.rq.2).s6 1 0 0 (by omega) (.inl ⟨rfl, rfl⟩)
      rw [show t.kids.length - 1 = 0 by omega] at hS
      have hlz := hp2.lt
      have hxs := r6exprs F rb m none (t.kids.drop 1) _ _ hp2.rq.1 hS (fun b hb => ⟨by have := (hF b hb).1; omega, (hF b hb).2⟩) (by simp; omega) (fun k hk => IH k (List.mem_of_mem_drop hk))
      clear hS
      go_wp2_with fail
      refine hxs.mono ?_
      rintro e w6 ⟨v, rfl, ⟨va, vn, vc, rfl⟩, hq6, hx6⟩
      have hf6 := hp2.call hlt hq6
      have hf7 : FS rb m w w.heap.size #[.int .i64 (t.kind : Int), .int .i64 (t.place : Int), .string (str t.text), .slice (some ⟨g, 0, none⟩) t.kids.length 1] _ #[.int .i64 8, .int .i64 (t.place : Int), .string (str (kid t 0).text), .complex .f64 0 0, .string ⟨#[]⟩, .string ⟨#[]⟩, .slice va vn vc, .slice none 0 0, .slice none 0 0] (w6.setCell ⟨w.heap.size + 1, 6, none⟩ (.slice va vn vc)) := hf6.put hlt 6 (.slice va vn vc)
      have hs6 := hq6.2.size
      have hK6 := hq6.2
      obtain ⟨⟨z0, z1, z2, z3, z4, z5, z6, z7, z8⟩, zf⟩ := nine9 hf6.eb
      obtain ⟨t0', t1', t2', t3'⟩ := tree_cells hf6.tb
      clear hxs hq6
      obtain ⟨⟨e0, e1, e2, e3, e4, e5, e6, e7, e8⟩, ef⟩ := nine9 hf7.eb
      obtain ⟨hd1, hd2, hd3, hd4⟩ := hf7.done hlt
      have hrs := hf7.rs
      go_wp2_with (refine wpList_store_row rfl 27 (.tmp 6) (.tmp 239) rfl (w.heap.size + 2) #[.int .i64 8, .int .i64 (t.place : Int), .string (str (kid t 0).text), .complex .f64 0 0, .string ⟨#[]⟩, .string ⟨#[]⟩, .slice va vn vc, .slice none 0 0, .slice none 0 0] rfl rfl 27 #[.int .i64 0, .int .i64 0, .string ⟨#[]⟩, .complex .f64 0 0, .string ⟨#[]⟩, .string ⟨#[]⟩, .slice none 0 0, .slice none 0 0, .slice none 0 0] hrs sizeEx rfl (by first | kernel_rfl | rfl | simp [Value.oneCell']) ?_)
      (try simp only [Exit.inBlock, Exit.then])
      refine bodyPost_ret (res_cell1 rfl _ _ (w.heap.size + 2) 27 #[.int .i64 8, .int .i64 (t.place : Int), .string (str (kid t 0).text), .complex .f64 0 0, .string ⟨#[]⟩, .string ⟨#[]⟩, .slice va vn vc, .slice none 0 0, .slice none 0 0] (0, 0) _ rfl hd2 Try.underlying27 rfl sizeEx) rfl ?_
      have hE := HE.out
      refine exq_of t 8 (kid t 0).text [] _ _ _ ⟨_, _, _, rfl⟩ ⟨_, _, _, rfl⟩ ⟨_, _, _, rfl⟩ (by rw [hE, orR_bind1]; exact hd1) (fun y hy => ?_)
      rw [hE] at hy
      cases hs : seqP ((t.kids.drop 1).map (exprP m)) with
      | error e => rw [hs] at hy; cases hy
      | ok ks =>
        rw [hs] at hy
        cases hy
        refine ⟨ks, [], [], [], rfl, (hx6 (by simp) ks hs).frame (fun b hb => ⟨⟨by have := hb.1; omega, by rw [hd4]; have := hb.2; simpa [World.setCell] using this⟩, ?_⟩), TxR2.nil _ _, XA.nil _ _⟩
        exact hf7.keeps (by have := hb.1; omega) (Below.heap_setCell _ _ _ _ (show b ≠ w.heap.size + 1 by have := hb.1; omega))

    · have hf0 := FS.start rb m none w #[.int .i64 (t.kind : Int), .int .i64 (t.place : Int), .string (str t.text), .slice (some ⟨g, 0, none⟩) t.kids.length kc] #[.int .i64 0, .int .i64 (t.place : Int), .string ⟨#[]⟩, .complex .f64 0 0, .string ⟨#[]⟩, .string ⟨#[]⟩, .slice none 0 0, .slice none 0 0, .slice none 0 0] hRI
      obtain ⟨g', cap', kv0, e0, _, hT0, a0, a1, a2, a3⟩ := (hTU _ hf0.rq.2).at 0 hp
      simp only [Value.slice.injEq, Option.some.injEq, Addr.mk.injEq, true_and, and_true] at e0
      obtain ⟨rfl, rfl⟩ := e0
      rw [kid_get (t := t) hp] at a2
      simp only [Nat.zero_mul, Nat.zero_add] at a2
      have a2' := a2
      obtain ⟨t0, t1, t2, t3⟩ := tree_cells hf0.tb
      clear a0 a1 a3 hT0 a2
      have hlp : (0 : Int) < (t.kids.length : Int) := by omega
      have hop := r6op (kid t 0).text (((w.alloc (.cells #[.int .i64 (t.kind : Int), .int .i64 (t.place : Int), .string (str t.text), .slice (some ⟨g, 0, none⟩) t.kids.length kc] 43)).alloc (.cells #[.int .i64 0, .int .i64 (t.place : Int), .string ⟨#[]⟩, .complex .f64 0 0, .string ⟨#[]⟩, .string ⟨#[]⟩, .slice none 0 0, .slice none 0 0, .slice none 0 0] 27)).alloc (.cells #[.int .i64 0, .int .i64 0, .string ⟨#[]⟩, .complex .f64 0 0, .string ⟨#[]⟩, .string ⟨#[]⟩, .slice none 0 0, .slice none 0 0, .slice none 0 0] 27))
      rw [HO.out] at hop
      go_enter Try.func53, Try.ntmps53
      go_wp2_with fail
      generalize (((w.alloc (.cells #[.int .i64 (t.kind : Int), .int .i64 (t.place : Int), .string (str t.text), .slice (some ⟨g, 0, none⟩) t.kids.length kc] 43)).alloc (.cells #[.int .i64 0, .int .i64 (t.place : Int), .string ⟨#[]⟩, .complex .f64 0 0, .string ⟨#[]⟩, .string ⟨#[]⟩, .slice none 0 0, .slice none 0 0, .slice none 0 0] 27)).alloc (.cells #[.int .i64 0, .int .i64 0, .string ⟨#[]⟩, .complex .f64 0 0, .string ⟨#[]⟩, .string ⟨#[]⟩, .slice none 0 0, .slice none 0 0, .slice none 0 0] 27)) = u0 at *
      refine hop.mono ?_
      rintro e wa1 ⟨⟨i, rfl, hi⟩, hb⟩
      have hg1 := hf0.more hlt hb
      have hi0 : ¬ (0 : Int) ≤ i := of_decide_eq_false hi
      clear hop hi hb
      clear t0 t1 t2 t3
      obtain ⟨t0, t1, t2, t3⟩ := tree_cells hg1.tb
      have hpu := refBig (str (kid t 0).text) wa1 (by rw [str_size]; omega)
      rw [str_data, HB.out] at hpu
      go_wp2_with fail
      refine hpu.mono ?_
      rintro e wa2 ⟨rfl, rfl⟩
      clear hpu
      have hp1 : FS rb m w w.heap.size #[.int .i64 (t.kind : Int), .int .i64 (t.place : Int), .string (str t.text), .slice (some ⟨g, 0, none⟩) t.kids.length kc] none #[.int .i64 8, .int .i64 (t.place : Int), .string ⟨#[]⟩, .complex .f64 0 0, .string ⟨#[]⟩, .string ⟨#[]⟩, .slice none 0 0, .slice none 0 0, .slice none 0 0] (wa2.setCell ⟨w.heap.size + 1, 0, none⟩ (.int .i64 8)) := hg1.put hlt 0 (.int .i64 8)
      have hp2 : FS rb m w w.heap.size #[.int .i64 (t.kind : Int), .int .i64 (t.place : Int), .string (str t.text), .slice (some ⟨g, 0, none⟩) t.kids.length kc] none #[.int .i64 8, .int .i64 (t.place : Int), .string (str (kid t 0).text), .complex .f64 0 0, .string ⟨#[]⟩, .string ⟨#[]⟩, .slice none 0 0, .slice none 0 0, .slice none 0 0] ((wa2.setCell ⟨w.heap.size + 1, 0, none⟩ (.int .i64 8)).setCell ⟨w.heap.size + 1, 2, none⟩ (.string (str (kid t 0).text))) := hp1.put hlt 2 (.string (str (kid t 0).text))
      obtain ⟨⟨y0, y1, y2, y3, y4, y5, y6, y7, y8⟩, yf⟩ := nine9 hg1.eb
      have hS : S6 F _ (.slice (some ⟨g, 4, none⟩) (t.kids.length - 1) (kc - 1)) (t.kids.drop 1) := (hTU _ hp2.rq.2).s6 1 4 _ (by omega) (.inr ⟨hkc, rfl⟩)
      have hlz := hp2.lt
      have hxs := r6exprs F rb m none (t.kids.drop 1) _ _ hp2.rq.1 hS (fun b hb => ⟨by have := (hF b hb).1; omega, (hF b hb).2⟩) (by simp; omega) (fun k hk => IH k (List.mem_of_mem_drop hk))
      clear hS
      go_wp2_with fail
      refine hxs.mono ?_
      rintro e w6 ⟨v, rfl, ⟨va, vn, vc, rfl⟩, hq6, hx6⟩
      have hf6 := hp2.call hlt hq6
      have hf7 : FS rb m w w.heap.size #[.int .i64 (t.kind : Int), .int .i64 (t.place : Int), .string (str t.text), .slice (some ⟨g, 0, none⟩) t.kids.length kc] _ #[.int .i64 8, .int .i64 (t.place : Int), .string (str (kid t 0).text), .complex .f64 0 0, .string ⟨#[]⟩, .string ⟨#[]⟩, .slice va vn vc, .slice none 0 0, .slice none 0 0] (w6.setCell ⟨w.heap.size + 1, 6, none⟩ (.slice va vn vc)) := hf6.put hlt 6 (.slice va vn vc)
      have hs6 := hq6.2.size
      have hK6 := hq6.2
      obtain ⟨⟨z0, z1, z2, z3, z4, z5, z6, z7, z8⟩, zf⟩ := nine9 hf6.eb
      obtain ⟨t0', t1', t2', t3'⟩ := tree_cells hf6.tb
      clear hxs hq6
      obtain ⟨⟨e0, e1, e2, e3, e4, e5, e6, e7, e8⟩, ef⟩ := nine9 hf7.eb
      obtain ⟨hd1, hd2, hd3, hd4⟩ := hf7.done hlt
      have hrs := hf7.rs
      go_wp2_with (refine wpList_store_row rfl 27 (.tmp 6) (.tmp 239) rfl (w.heap.size + 2) #[.int .i64 8, .int .i64 (t.place : Int), .string (str (kid t 0).text), .complex .f64 0 0, .string ⟨#[]⟩, .string ⟨#[]⟩, .slice va vn vc, .slice none 0 0, .slice none 0 0] rfl rfl 27 #[.int .i64 0, .int .i64 0, .string ⟨#[]⟩, .complex .f64 0 0, .string ⟨#[]⟩, .string ⟨#[]⟩, .slice none 0 0, .slice none 0 0, .slice none 0 0] hrs sizeEx rfl (by first | kernel_rfl | rfl | simp [Value.oneCell']) ?_)
      (try simp only [Exit.inBlock, Exit.then])
      refine bodyPost_ret (res_cell1 rfl _ _ (w.heap.size + 2) 27 #[.int .i64 8, .int .i64 (t.place : Int), .string (str (kid t 0).text), .complex .f64 0 0, .string ⟨#[]⟩, .string ⟨#[]⟩, .slice va vn vc, .slice none 0 0, .slice none 0 0] (0, 0) _ rfl hd2 Try.underlying27 rfl sizeEx) rfl ?_
      have hE := HE.out
      refine exq_of t 8 (kid t 0).text [] _ _ _ ⟨_, _, _, rfl⟩ ⟨_, _, _, rfl⟩ ⟨_, _, _, rfl⟩ (by rw [hE, orR_bind1]; exact hd1) (fun y hy => ?_)
      rw [hE] at hy
      cases hs : seqP ((t.kids.drop 1).map (exprP m)) with
      | error e => rw [hs] at hy; cases hy
      | ok ks =>
        rw [hs] at hy
        cases hy
        refine ⟨ks, [], [], [], rfl, (hx6 (by simp) ks hs).frame (fun b hb => ⟨⟨by have := hb.1; omega, by rw [hd4]; have := hb.2; simpa [World.setCell] using this⟩, ?_⟩), TxR2.nil _ _, XA.nil _ _⟩
        exact hf7.keeps (by have := hb.1; omega) (Below.heap_setCell _ _ _ _ (show b ≠ w.heap.size + 1 by have := hb.1; omega))

set_option maxHeartbeats 4000000 in
set_option maxRecDepth 1000000 in
theorem r6makeB (m : List UInt8) (t : Tr) (hk1 : t.kind = 1) (hp : 0 < t.kids.length) (hk3 : (kid t 0).kind = 3) (htx : TxOk t) (hn : (kid t 0).text ≠ letK ∧ (kid t 0).text ≠ ifK ∧ (kid t 0).text ≠ arrayL ∧ (kid t 0).text ≠ matchK ∧ (kid t 0).text ≠ fnL ∧ (kid t 0).text ≠ callK) (ho : isOp (kid t 0).text = false) (hb : bigR (kid t 0).text = false) (hd : dotR true (kid t 0).text = true) (IH : ∀ k ∈ t.kids, ExAll m k) (hnd : nodes t ≤ 8192) : FmAll m t := by
  intro F rb kv w hRI hT hF
  have hkl := kids_lt6 t
  have hlt := hRI.lt
  obtain ⟨g, kc, kv0, e0, hg, _, _, _, _, _⟩ := hT.at 0 hp
  subst e0
  have hcap := hT.cap
  have hTU : ∀ u, Kept (fun k => k = rb) w u → TL F u (.slice (some ⟨g, 0, none⟩) t.kids.length kc) t.kids := fun u hu => hT.frame fun g hg => ⟨hg, hu.block g (hF g hg).1 (hF g hg).2⟩
  have HP := exprP_head m t hk1 hp hk3
  have htl := ((TxOk_iff _).1 (kid_ok htx hp)).1
  clear hk1 hk3
  unfold trv
  have l1 : ((str (kid t 0).text).toList == [108, 101, 116]) = false := by rw [beq_eq_false_iff_ne, Lib.toList_data, str_data]; exact hn.1
  have l2 : ((str (kid t 0).text).toList == [105, 102]) = false := by rw [beq_eq_false_iff_ne, Lib.toList_data, str_data]; exact hn.2.1
  have l3 : ((str (kid t 0).text).toList == [97, 114, 114, 97, 121]) = false := by rw [beq_eq_false_iff_ne, Lib.toList_data, str_data]; exact hn.2.2.1
  have l4 : ((str (kid t 0).text).toList == [109, 97, 116, 99, 104]) = false := by rw [beq_eq_false_iff_ne, Lib.toList_data, str_data]; exact hn.2.2.2.1
  have l5 : ((str (kid t 0).text).toList == [102, 110]) = false := by rw [beq_eq_false_iff_ne, Lib.toList_data, str_data]; exact hn.2.2.2.2.1
  have l6 : ((str (kid t 0).text).toList == [99, 97, 108, 108]) = false := by rw [beq_eq_false_iff_ne, Lib.toList_data, str_data]; exact hn.2.2.2.2.2
  rw [headP, if_neg hn.1, if_neg hn.2.1, if_neg hn.2.2.1, if_neg hn.2.2.2.1, if_neg hn.2.2.2.2.1, if_neg hn.2.2.2.2.2] at HP
  clear hn
  rw [if_neg (by rw [ho]; decide), if_pos (.inr hd)] at HP
  have HO := hidden ho
  have HB := hidden hb
  have HD := hidden hd
  clear ho hb hd
  by_cases h6 : 4 < t.kids.length - 1
  · have hi6 : (4 : Int) < (t.kids.length : Int) - 1 := by omega
    rw [if_pos h6] at HP
    have HE := hidden HP
    clear HP
    have hkc : ¬ kc = 1 := by omega
    have hf0 := FS.start rb m none w #[.int .i64 (t.kind : Int), .int .i64 (t.place : Int), .string (str t.text), .slice (some ⟨g, 0, none⟩) t.kids.length kc] #[.int .i64 0, .int .i64 (t.place : Int), .string ⟨#[]⟩, .complex .f64 0 0, .string ⟨#[]⟩, .string ⟨#[]⟩, .slice none 0 0, .slice none 0 0, .slice none 0 0] hRI
    obtain ⟨g', cap', kv0, e0, _, hT0, a0, a1, a2, a3⟩ := (hTU _ hf0.rq.2).at 0 hp
    simp only [Value.slice.injEq, Option.some.injEq, Addr.mk.injEq, true_and, and_true] at e0
    obtain ⟨rfl, rfl⟩ := e0
    rw [kid_get (t := t) hp] at a2
    simp only [Nat.zero_mul, Nat.zero_add] at a2
    have a2' := a2
    obtain ⟨t0, t1, t2, t3⟩ := tree_cells hf0.tb
    clear a0 a1 a3 hT0 a2
    have hlp : (0 : Int) < (t.kids.length : Int) := by omega
    have hop := r6op (kid t 0).text (((w.alloc (.cells #[.int .i64 (t.kind : Int), .int .i64 (t.place : Int), .string (str t.text), .slice (some ⟨g, 0, none⟩) t.kids.length kc] 43)).alloc (.cells #[.int .i64 0, .int .i64 (t.place : Int), .string ⟨#[]⟩, .complex .f64 0 0, .string ⟨#[]⟩, .string ⟨#[]⟩, .slice none 0 0, .slice none 0 0, .slice none 0 0] 27)).alloc (.cells #[.int .i64 0, .int .i64 0, .string ⟨#[]⟩, .complex .f64 0 0, .string ⟨#[]⟩, .string ⟨#[]⟩, .slice none 0 0, .slice none 0 0, .slice none 0 0] 27))
    rw [HO.out] at hop
    go_enter Try.func53, Try.ntmps53
    go_wp2_with fail
    generalize (((w.alloc (.cells #[.int .i64 (t.kind : Int), .int .i64 (t.place : Int), .string (str t.text), .slice (some ⟨g, 0, none⟩) t.kids.length kc] 43)).alloc (.cells #[.int .i64 0, .int .i64 (t.place : Int), .string ⟨#[]⟩, .complex .f64 0 0, .string ⟨#[]⟩, .string ⟨#[]⟩, .slice none 0 0, .slice none 0 0, .slice none 0 0] 27)).alloc (.cells #[.int .i64 0, .int .i64 0, .string ⟨#[]⟩, .complex .f64 0 0, .string ⟨#[]⟩, .string ⟨#[]⟩, .slice none 0 0, .slice none 0 0, .slice none 0 0] 27)) = u0 at *
    refine hop.mono ?_
    rintro e wa1 ⟨⟨i, rfl, hi⟩, hb⟩
    have hg1 := hf0.more hlt hb
    have hi0 : ¬ (0 : Int) ≤ i := of_decide_eq_false hi
    clear hop hi hb
    clear t0 t1 t2 t3
    obtain ⟨t0, t1, t2, t3⟩ := tree_cells hg1.tb
    have hpu := refBig (str (kid t 0).text) wa1 (by rw [str_size]; omega)
    rw [str_data, HB.out] at hpu
    go_wp2_with fail
    refine hpu.mono ?_
    rintro e wa2 ⟨rfl, rfl⟩
    clear hpu
    have hbo := r6dotted (kid t 0).text true wa2 htl
    rw [HD.out] at hbo
    go_wp2_with fail
    refine hbo.mono ?_
    rintro e wa3 ⟨rfl, hb⟩
    have hg3 := hg1.more hlt hb
    clear hbo hb
    clear t0 t1 t2 t3
    obtain ⟨t0, t1, t2, t3⟩ := tree_cells hg3.tb
    have hr := r6refuse rb m none 19 t.place _ hg3.rq.1 (by decide)
    go_wp2_with fail
    refine hr.mono ?_
    rintro e wa4 ⟨rfl, hq⟩
    have hg4 := hg3.call hlt hq
    clear hr hq
    clear t0 t1 t2 t3
    obtain ⟨t0, t1, t2, t3⟩ := tree_cells hg4.tb
    have hp1 : FS rb m w w.heap.size #[.int .i64 (t.kind : Int), .int .i64 (t.place : Int), .string (str t.text), .slice (some ⟨g, 0, none⟩) t.kids.length kc] (some (19, t.place)) #[.int .i64 8, .int .i64 (t.place : Int), .string ⟨#[]⟩, .complex .f64 0 0, .string ⟨#[]⟩, .string ⟨#[]⟩, .slice none 0 0, .slice none 0 0, .slice none 0 0] (wa4.setCell ⟨w.heap.size + 1, 0, none⟩ (.int .i64 8)) := hg4.put hlt 0 (.int .i64 8)
    have hp2 : FS rb m w w.heap.size #[.int .i64 (t.kind : Int), .int .i64 (t.place : Int), .string (str t.text), .slice (some ⟨g, 0, none⟩) t.kids.length kc] (some (19, t.place)) #[.int .i64 8, .int .i64 (t.place : Int), .string (str (kid t 0).text), .complex .f64 0 0, .string ⟨#[]⟩, .string ⟨#[]⟩, .slice none 0 0, .slice none 0 0, .slice none 0 0] ((wa4.setCell ⟨w.heap.size + 1, 0, none⟩ (.int .i64 8)).setCell ⟨w.heap.size + 1, 2, none⟩ (.string (str (kid t 0).text))) := hp1.put hlt 2 (.string (str (kid t 0).text))
    obtain ⟨⟨y0, y1, y2, y3, y4, y5, y6, y7, y8⟩, yf⟩ := nine9 hg4.eb
    have hS : S6 F _ (.slice (some ⟨g, 4, none⟩) (t.kids.length - 1) (kc - 1)) (t.kids.drop 1) := (hTU _ hp2.rq.2).s6 1 4 _ (by omega) (.inr ⟨hkc, rfl⟩)
    have hlz := hp2.lt
    have hxs := r6exprs F rb m (some (19, t.place)) (t.kids.drop 1) _ _ hp2.rq.1 hS (fun b hb => ⟨by have := (hF b hb).1; omega, (hF b hb).2⟩) (by simp; omega) (fun k hk => IH k (List.mem_of_mem_drop hk))
    clear hS
    go_wp2_with fail
    refine hxs.mono ?_
    rintro e w6 ⟨v, rfl, ⟨va, vn, vc, rfl⟩, hq6, hx6⟩
    have hf6 := hp2.call hlt hq6
    have hf7 : FS rb m w w.heap.size #[.int .i64 (t.kind : Int), .int .i64 (t.place : Int), .string (str t.text), .slice (some ⟨g, 0, none⟩) t.kids.length kc] _ #[.int .i64 8, .int .i64 (t.place : Int), .string (str (kid t 0).text), .complex .f64 0 0, .string ⟨#[]⟩, .string ⟨#[]⟩, .slice va vn vc, .slice none 0 0, .slice none 0 0] (w6.setCell ⟨w.heap.size + 1, 6, none⟩ (.slice va vn vc)) := hf6.put hlt 6 (.slice va vn vc)
    have hs6 := hq6.2.size
    have hK6 := hq6.2
    obtain ⟨⟨z0, z1, z2, z3, z4, z5, z6, z7, z8⟩, zf⟩ := nine9 hf6.eb
    obtain ⟨t0', t1', t2', t3'⟩ := tree_cells hf6.tb
    clear hxs hq6
    obtain ⟨⟨e0, e1, e2, e3, e4, e5, e6, e7, e8⟩, ef⟩ := nine9 hf7.eb
    obtain ⟨hd1, hd2, hd3, hd4⟩ := hf7.done hlt
    have hrs := hf7.rs
    go_wp2_with (refine wpList_store_row rfl 27 (.tmp 6) (.tmp 239) rfl (w.heap.size + 2) #[.int .i64 8, .int .i64 (t.place : Int), .string (str (kid t 0).text), .complex .f64 0 0, .string ⟨#[]⟩, .string ⟨#[]⟩, .slice va vn vc, .slice none 0 0, .slice none 0 0] rfl rfl 27 #[.int .i64 0, .int .i64 0, .string ⟨#[]⟩, .complex .f64 0 0, .string ⟨#[]⟩, .string ⟨#[]⟩, .slice none 0 0, .slice none 0 0, .slice none 0 0] hrs sizeEx rfl (by first | kernel_rfl | rfl | simp [Value.oneCell']) ?_)
    (try simp only [Exit.inBlock, Exit.then])
    refine bodyPost_ret (res_cell1 rfl _ _ (w.heap.size + 2) 27 #[.int .i64 8, .int .i64 (t.place : Int), .string (str (kid t 0).text), .complex .f64 0 0, .string ⟨#[]⟩, .string ⟨#[]⟩, .slice va vn vc, .slice none 0 0, .slice none 0 0] (0, 0) _ rfl hd2 Try.underlying27 rfl sizeEx) rfl ?_
    have hE := HE.out
    refine exq_of t 8 (kid t 0).text [] _ _ _ ⟨_, _, _, rfl⟩ ⟨_, _, _, rfl⟩ ⟨_, _, _, rfl⟩ (by rw [hE]; exact hd1) (fun y hy => ?_)
    rw [hE] at hy
    cases hy

  · have hi6 : ¬ (4 : Int) < (t.kids.length : Int) - 1 := by omega
    rw [if_neg h6, seq_drop] at HP
    have HE := hidden HP
    clear HP
    by_cases hkc : kc = 1
    · subst hkc
      have hf0 := FS.start rb m none w #[.int .i64 (t.kind : Int), .int .i64 (t.place : Int), .string (str t.text), .slice (some ⟨g, 0, none⟩) t.kids.length 1] #[.int .i64 0, .int .i64 (t.place : Int), .string ⟨#[]⟩, .complex .f64 0 0, .string ⟨#[]⟩, .string ⟨#[]⟩, .slice none 0 0, .slice none 0 0, .slice none 0 0] hRI
      obtain ⟨g', cap', kv0, e0, _, hT0, a0, a1, a2, a3⟩ := (hTU _ hf0.rq.2).at 0 hp
      simp only [Value.slice.injEq, Option.some.injEq, Addr.mk.injEq, true_and, and_true] at e0
      obtain ⟨rfl, rfl⟩ := e0
      rw [kid_get (t := t) hp] at a2
      simp only [Nat.zero_mul, Nat.zero_add] at a2
      have a2' := a2
      obtain ⟨t0, t1, t2, t3⟩ := tree_cells hf0.tb
      clear a0 a1 a3 hT0 a2
      have hlp : (0 : Int) < (t.kids.length : Int) := by omega
      have hop := r6op (kid t 0).text (((w.alloc (.cells #[.int .i64 (t.kind : Int), .int .i64 (t.place : Int), .string (str t.text), .slice (some ⟨g, 0, none⟩) t.kids.length 1] 43)).alloc (.cells #[.int .i64 0, .int .i64 (t.place : Int), .string ⟨#[]⟩, .complex .f64 0 0, .string ⟨#[]⟩, .string ⟨#[]⟩, .slice none 0 0, .slice none 0 0, .slice none 0 0] 27)).alloc (.cells #[.int .i64 0, .int .i64 0, .string ⟨#[]⟩, .complex .f64 0 0, .string ⟨#[]⟩, .string ⟨#[]⟩, .slice none 0 0, .slice none 0 0, .slice none 0 0] 27))
      rw [HO.out] at hop
      go_enter Try.func53, Try.ntmps53
      go_wp2_with fail
      generalize (((w.alloc (.cells #[.int .i64 (t.kind : Int), .int .i64 (t.place : Int), .string (str t.text), .slice (some ⟨g, 0, none⟩) t.kids.length 1] 43)).alloc (.cells #[.int .i64 0, .int .i64 (t.place : Int), .string ⟨#[]⟩, .complex .f64 0 0, .string ⟨#[]⟩, .string ⟨#[]⟩, .slice none 0 0, .slice none 0 0, .slice none 0 0] 27)).alloc (.cells #[.int .i64 0, .int .i64 0, .string ⟨#[]⟩, .complex .f64 0 0, .string ⟨#[]⟩, .string ⟨#[]⟩, .slice none 0 0, .slice none 0 0, .slice none 0 0] 27)) = u0 at *
      refine hop.mono ?_
      rintro e wa1 ⟨⟨i, rfl, hi⟩, hb⟩
      have hg1 := hf0.more hlt hb
      have hi0 : ¬ (0 : Int) ≤ i := of_decide_eq_false hi
      clear hop hi hb
      clear t0 t1 t2 t3
      obtain ⟨t0, t1, t2, t3⟩ := tree_cells hg1.tb
      have hpu := refBig (str (kid t 0).text) wa1 (by rw [str_size]; omega)
      rw [str_data, HB.out] at hpu
      go_wp2_with fail
      refine hpu.mono ?_
      rintro e wa2 ⟨rfl, rfl⟩
      clear hpu
      have hbo := r6dotted (kid t 0).text true wa2 htl
      rw [HD.out] at hbo
      go_wp2_with fail
      refine hbo.mono ?_
      rintro e wa3 ⟨rfl, hb⟩
      have hg3 := hg1.more hlt hb
      clear hbo hb
      clear t0 t1 t2 t3
      obtain ⟨t0, t1, t2, t3⟩ := tree_cells hg3.tb
      have hp1 : FS rb m w w.heap.size #[.int .i64 (t.kind : Int), .int .i64 (t.place : Int), .string (str t.text), .slice (some ⟨g, 0, none⟩) t.kids.length 1] none #[.int .i64 8, .int .i64 (t.place : Int), .string ⟨#[]⟩, .complex .f64 0 0, .string ⟨#[]⟩, .string ⟨#[]⟩, .slice none 0 0, .slice none 0 0, .slice none 0 0] (wa3.setCell ⟨w.heap.size + 1, 0, none⟩ (.int .i64 8)) := hg3.put hlt 0 (.int .i64 8)
      have hp2 : FS rb m w w.heap.size #[.int .i64 (t.kind : Int), .int .i64 (t.place : Int), .string (str t.text), .slice (some ⟨g, 0, none⟩) t.kids.length 1] none #[.int .i64 8, .int .i64 (t.place : Int), .string (str (kid t 0).text), .complex .f64 0 0, .string ⟨#[]⟩, .string ⟨#[]⟩, .slice none 0 0, .slice none 0 0, .slice none 0 0] ((wa3.setCell ⟨w.heap.size + 1, 0, none⟩ (.int .i64 8)).setCell ⟨w.heap.size + 1, 2, none⟩ (.string (str (kid t 0).text))) := hp1.put hlt 2 (.string (str (kid t 0).text))
      obtain ⟨⟨y0, y1, y2, y3, y4, y5, y6, y7, y8⟩, yf⟩ := nine9 hg3.eb
      have hS := (hTU _ hp2.rq.2).s6 1 0 0 (by omega) (.inl ⟨rfl, rfl⟩)
      rw [show t.kids.length - 1 = 0 by omega] at hS
      have hlz := hp2.lt
      have hxs := r6exprs F rb m none (t.kids.drop 1) _ _ hp2.rq.1 hS (fun b hb => ⟨by have := (hF b hb).1; omega, (hF b hb).2⟩) (by simp; omega) (fun k hk => IH k (List.mem_of_mem_drop hk))
      clear hS
      go_wp2_with fail
      refine hxs.mono ?_
      rintro e w6 ⟨v, rfl, ⟨va, vn, vc, rfl⟩, hq6, hx6⟩
      have hf6 := hp2.call hlt hq6
      have hf7 : FS rb m w w.heap.size #[.int .i64 (t.kind : Int), .int .i64 (t.place : Int), .string (str t.text), .slice (some ⟨g, 0, none⟩) t.kids.length 1] _ #[.int .i64 8, .int .i64 (t.place : Int), .string (str (kid t 0).text), .complex .f64 0 0, .string ⟨#[]⟩, .string ⟨#[]⟩, .slice va vn vc, .slice none 0 0, .slice none 0 0] (w6.setCell ⟨w.heap.size + 1, 6, none⟩ (.slice va vn vc)) := hf6.put hlt 6 (.slice va vn vc)
      have hs6 := hq6.2.size
      have hK6 := hq6.2
      obtain ⟨⟨z0, z1, z2, z3, z4, z5, z6, z7, z8⟩, zf⟩ := nine9 hf6.eb
      obtain ⟨t0', t1', t2', t3'⟩ := tree_cells hf6.tb
      clear hxs hq6
      obtain ⟨⟨e0, e1, e2, e3, e4, e5, e6, e7, e8⟩, ef⟩ := nine9 hf7.eb
      obtain ⟨hd1, hd2, hd3, hd4⟩ := hf7.done hlt
      have hrs := hf7.rs
      go_wp2_with (refine wpList_store_row rfl 27 (.tmp 6) (.tmp 239) rfl (w.heap.size + 2) #[.int .i64 8, .int .i64 (t.place : Int), .string (str (kid t 0).text), .complex .f64 0 0, .string ⟨#[]⟩, .string ⟨#[]⟩, .slice va vn vc, .slice none 0 0, .slice none 0 0] rfl rfl 27 #[.int .i64 0, .int .i64 0, .string ⟨#[]⟩, .complex .f64 0 0, .string ⟨#[]⟩, .string ⟨#[]⟩, .slice none 0 0, .slice none 0 0, .slice none 0 0] hrs sizeEx rfl (by first | kernel_rfl | rfl | simp [Value.oneCell']) ?_)
      (try simp only [Exit.inBlock, Exit.then])
      refine bodyPost_ret (res_cell1 rfl _ _ (w.heap.size + 2) 27 #[.int .i64 8, .int .i64 (t.place : Int), .string (str (kid t 0).text), .complex .f64 0 0, .string ⟨#[]⟩, .string ⟨#[]⟩, .slice va vn vc, .slice none 0 0, .slice none 0 0] (0, 0) _ rfl hd2 Try.underlying27 rfl sizeEx) rfl ?_
      have hE := HE.out
      refine exq_of t 8 (kid t 0).text [] _ _ _ ⟨_, _, _, rfl⟩ ⟨_, _, _, rfl⟩ ⟨_, _, _, rfl⟩ (by rw [hE, orR_bind1]; exact hd1) (fun y hy => ?_)
      rw [hE] at hy
      cases hs : seqP ((t.kids.drop 1).map (exprP m)) with
      | error e => rw [hs] at hy; cases hy
      | ok ks =>
        rw [hs] at hy
        cases hy
        refine ⟨ks, [], [], [], rfl, (hx6 (by simp) ks hs).frame (fun b hb => ⟨⟨by have := hb.1; omega, by rw [hd4]; have := hb.2; simpa [World.setCell] using this⟩, ?_⟩), TxR2.nil _ _, XA.nil _ _⟩
        exact hf7.keeps (by have := hb.1; omega) (Below.heap_setCell _ _ _ _ (show b ≠ w.heap.size + 1 by have := hb.1; omega))

    · have hf0 := FS.start rb m none w #[.int .i64 (t.kind : Int), .int .i64 (t.place : Int), .string (str t.text), .slice (some ⟨g, 0, none⟩) t.kids.length kc] #[.int .i64 0, .int .i64 (t.place : Int), .string ⟨#[]⟩, .complex .f64 0 0, .string ⟨#[]⟩, .string ⟨#[]⟩, .slice none 0 0, .slice none 0 0, .slice none 0 0] hRI
      obtain ⟨g', cap', kv0, e0, _, hT0, a0, a1, a2, a3⟩ := (hTU _ hf0.rq.2).at 0 hp
      simp only [Value.slice.injEq, Option.some.injEq, Addr.mk.injEq, true_and, and_true] at e0
      obtain ⟨rfl, rfl⟩ := e0
      rw [kid_get (t := t) hp] at a2
      simp only [Nat.zero_mul, Nat.zero_add] at a2
      have a2' := a2
      obtain ⟨t0, t1, t2, t3⟩ := tree_cells hf0.tb
      clear a0 a1 a3 hT0 a2
      have hlp : (0 : Int) < (t.kids.length : Int) := by omega
      have hop := r6op (kid t 0).text (((w.alloc (.cells #[.int .i64 (t.kind : Int), .int .i64 (t.place : Int), .string (str t.text), .slice (some ⟨g, 0, none⟩) t.kids.length kc] 43)).alloc (.cells #[.int .i64 0, .int .i64 (t.place : Int), .string ⟨#[]⟩, .complex .f64 0 0, .string ⟨#[]⟩, .string ⟨#[]⟩, .slice none 0 0, .slice none 0 0, .slice none 0 0] 27)).alloc (.cells #[.int .i64 0, .int .i64 0, .string ⟨#[]⟩, .complex .f64 0 0, .string ⟨#[]⟩, .string ⟨#[]⟩, .slice none 0 0, .slice none 0 0, .slice none 0 0] 27))
      rw [HO.out] at hop
      go_enter Try.func53, Try.ntmps53
      go_wp2_with fail
      generalize (((w.alloc (.cells #[.int .i64 (t.kind : Int), .int .i64 (t.place : Int), .string (str t.text), .slice (some ⟨g, 0, none⟩) t.kids.length kc] 43)).alloc (.cells #[.int .i64 0, .int .i64 (t.place : Int), .string ⟨#[]⟩, .complex .f64 0 0, .string ⟨#[]⟩, .string ⟨#[]⟩, .slice none 0 0, .slice none 0 0, .slice none 0 0] 27)).alloc (.cells #[.int .i64 0, .int .i64 0, .string ⟨#[]⟩, .complex .f64 0 0, .string ⟨#[]⟩, .string ⟨#[]⟩, .slice none 0 0, .slice none 0 0, .slice none 0 0] 27)) = u0 at *
      refine hop.mono ?_
      rintro e wa1 ⟨⟨i, rfl, hi⟩, hb⟩
      have hg1 := hf0.more hlt hb
      have hi0 : ¬ (0 : Int) ≤ i := of_decide_eq_false hi
      clear hop hi hb
      clear t0 t1 t2 t3
      obtain ⟨t0, t1, t2, t3⟩ := tree_cells hg1.tb
      have hpu := refBig (str (kid t 0).text) wa1 (by rw [str_size]; omega)
      rw [str_data, HB.out] at hpu
      go_wp2_with fail
      refine hpu.mono ?_
      rintro e wa2 ⟨rfl, rfl⟩
      clear hpu
      have hbo := r6dotted (kid t 0).text true wa2 htl
      rw [HD.out] at hbo
      go_wp2_with fail
      refine hbo.mono ?_
      rintro e wa3 ⟨rfl, hb⟩
      have hg3 := hg1.more hlt hb
      clear hbo hb
      clear t0 t1 t2 t3
      obtain ⟨t0, t1, t2, t3⟩ := tree_cells hg3.tb
      have hp1 : FS rb m w w.heap.size #[.int .i64 (t.kind : Int), .int .i64 (t.place : Int), .string (str t.text), .slice (some ⟨g, 0, none⟩) t.kids.length kc] none #[.int .i64 8, .int .i64 (t.place : Int), .string ⟨#[]⟩, .complex .f64 0 0, .string ⟨#[]⟩, .string ⟨#[]⟩, .slice none 0 0, .slice none 0 0, .slice none 0 0] (wa3.setCell ⟨w.heap.size + 1, 0, none⟩ (.int .i64 8)) := hg3.put hlt 0 (.int .i64 8)
      have hp2 : FS rb m w w.heap.size #[.int .i64 (t.kind : Int), .int .i64 (t.place : Int), .string (str t.text), .slice (some ⟨g, 0, none⟩) t.kids.length kc] none #[.int .i64 8, .int .i64 (t.place : Int), .string (str (kid t 0).text), .complex .f64 0 0, .string ⟨#[]⟩, .string ⟨#[]⟩, .slice none 0 0, .slice none 0 0, .slice none 0 0] ((wa3.setCell ⟨w.heap.size + 1, 0, none⟩ (.int .i64 8)).setCell ⟨w.heap.size + 1, 2, none⟩ (.string (str (kid t 0).text))) := hp1.put hlt 2 (.string (str (kid t 0).text))
      obtain ⟨⟨y0, y1, y2, y3, y4, y5, y6, y7, y8⟩, yf⟩ := nine9 hg3.eb
      have hS : S6 F _ (.slice (some ⟨g, 4, none⟩) (t.kids.length - 1) (kc - 1)) (t.kids.drop 1) := (hTU _ hp2.rq.2).s6 1 4 _ (by omega) (.inr ⟨hkc, rfl⟩)
      have hlz := hp2.lt
      have hxs := r6exprs F rb m none (t.kids.drop 1) _ _ hp2.rq.1 hS (fun b hb => ⟨by have := (hF b hb).1; omega, (hF b hb).2⟩) (by simp; omega) (fun k hk => IH k (List.mem_of_mem_drop hk))
      clear hS
      go_wp2_with fail
      refine hxs.mono ?_
      rintro e w6 ⟨v, rfl, ⟨va, vn, vc, rfl⟩, hq6, hx6⟩
      have hf6 := hp2.call hlt hq6
      have hf7 : FS rb m w w.heap.size #[.int .i64 (t.kind : Int), .int .i64 (t.place : Int), .string (str t.text), .slice (some ⟨g, 0, none⟩) t.kids.length kc] _ #[.int .i64 8, .int .i64 (t.place : Int), .string (str (kid t 0).text), .complex .f64 0 0, .string ⟨#[]⟩, .string ⟨#[]⟩, .slice va vn vc, .slice none 0 0, .slice none 0 0] (w6.setCell ⟨w.heap.size + 1, 6, none⟩ (.slice va vn vc)) := hf6.put hlt 6 (.slice va vn vc)
      have hs6 := hq6.2.size
      have hK6 := hq6.2
      obtain ⟨⟨z0, z1, z2, z3, z4, z5, z6, z7, z8⟩, zf⟩ := nine9 hf6.eb
      obtain ⟨t0', t1', t2', t3'⟩ := tree_cells hf6.tb
      clear hxs hq6
      obtain ⟨⟨e0, e1, e2, e3, e4, e5, e6, e7, e8⟩, ef⟩ := nine9 hf7.eb
      obtain ⟨hd1, hd2, hd3, hd4⟩ := hf7.done hlt
      have hrs := hf7.rs
      go_wp2_with (refine wpList_store_row rfl 27 (.tmp 6) (.tmp 239) rfl (w.heap.size + 2) #[.int .i64 8, .int .i64 (t.place : Int), .string (str (kid t 0).text), .complex .f64 0 0, .string ⟨#[]⟩, .string ⟨#[]⟩, .slice va vn vc, .slice none 0 0, .slice none 0 0] rfl rfl 27 #[.int .i64 0, .int .i64 0, .string ⟨#[]⟩, .complex .f64 0 0, .string ⟨#[]⟩, .string ⟨#[]⟩, .slice none 0 0, .slice none 0 0, .slice none 0 0] hrs sizeEx rfl (by first | kernel_rfl | rfl | simp [Value.oneCell']) ?_)
      (try simp only [Exit.inBlock, Exit.then])
      refine bodyPost_ret (res_cell1 rfl _ _ (w.heap.size + 2) 27 #[.int .i64 8, .int .i64 (t.place : Int), .string (str (kid t 0).text), .complex .f64 0 0, .string ⟨#[]⟩, .string ⟨#[]⟩, .slice va vn vc, .slice none 0 0, .slice none 0 0] (0, 0) _ rfl hd2 Try.underlying27 rfl sizeEx) rfl ?_
      have hE := HE.out
      refine exq_of t 8 (kid t 0).text [] _ _ _ ⟨_, _, _, rfl⟩ ⟨_, _, _, rfl⟩ ⟨_, _, _, rfl⟩ (by rw [hE, orR_bind1]; exact hd1) (fun y hy => ?_)
      rw [hE] at hy
      cases hs : seqP ((t.kids.drop 1).map (exprP m)) with
      | error e => rw [hs] at hy; cases hy
      | ok ks =>
        rw [hs] at hy
        cases hy
        refine ⟨ks, [], [], [], rfl, (hx6 (by simp) ks hs).frame (fun b hb => ⟨⟨by have := hb.1; omega, by rw [hd4]; have := hb.2; simpa [World.setCell] using this⟩, ?_⟩), TxR2.nil _ _, XA.nil _ _⟩
        exact hf7.keeps (by have := hb.1; omega) (Below.heap_setCell _ _ _ _ (show b ≠ w.heap.size + 1 by have := hb.1; omega))

end Go.Proofs.Ytcokihblicgbpaa
