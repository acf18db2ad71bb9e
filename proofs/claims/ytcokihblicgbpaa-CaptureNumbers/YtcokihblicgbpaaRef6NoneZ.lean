/-
  The document's own reader of modules: forms that are none.
-/
import Derived.Test.YtcokihblicgbpaaRef6FormBZ
namespace Go.Proofs.Ytcokihblicgbpaa
open Go.RowKit

set_option maxHeartbeats 4000000 in
set_option maxRecDepth 1000000 in
theorem r6noneA (m : List UInt8) (t : Tr) (hk1 : t.kind = 1) (hp : 0 < t.kids.length) (hk3 : (kid t 0).kind = 3) (htx : TxOk t) (hn : (kid t 0).text ≠ letK ∧ (kid t 0).text ≠ ifK ∧ (kid t 0).text ≠ arrayL ∧ (kid t 0).text ≠ matchK ∧ (kid t 0).text ≠ fnL ∧ (kid t 0).text ≠ callK) (ho : isOp (kid t 0).text = false) (hb : bigR (kid t 0).text = false) (hd : dotR true (kid t 0).text = false) (hv : valueR (kid t 0).text = true) (hk : isKey (kid t 0).text = true) (hx0 : dotR false (kid t 0).text = false) (_IH : ∀ k ∈ t.kids, ExAll m k) (_hnd : nodes t ≤ 8192) : FmAll m t := by
  intro F rb kv w hRI hT hF
  have hkl := kids_lt6 t
  have hlt := hRI.lt
  obtain ⟨g, kc, kv0, e0, hg, _, _, _, _, _⟩ := hT.at 0 hp
  subst e0
  have hcap := hT.cap
  have hTU : ∀ u, Kept (fun k => k = rb) w u → TL F u (.slice (some ⟨g, 0, none⟩) t.kids.length kc) t.kids := fun u hu => hT.frame fun g hg => ⟨hg, hu.block g (hF g hg).1 (hF g hg).2⟩
  have HP := exprP_head m t hk1 hp hk3
  have htl := ((TxOk_iff _).1 (kid_ok htx hp)).1
  clear hk1 hk3
  unfold trv
  have l1 : ((str (kid t 0).text).toList == [108, 101, 116]) = false := by rw [beq_eq_false_iff_ne, Lib.toList_data, str_data]; exact hn.1
  have l2 : ((str (kid t 0).text).toList == [105, 102]) = false := by rw [beq_eq_false_iff_ne, Lib.toList_data, str_data]; exact hn.2.1
  have l3 : ((str (kid t 0).text).toList == [97, 114, 114, 97, 121]) = false := by rw [beq_eq_false_iff_ne, Lib.toList_data, str_data]; exact hn.2.2.1
  have l4 : ((str (kid t 0).text).toList == [109, 97, 116, 99, 104]) = false := by rw [beq_eq_false_iff_ne, Lib.toList_data, str_data]; exact hn.2.2.2.1
  have l5 : ((str (kid t 0).text).toList == [102, 110]) = false := by rw [beq_eq_false_iff_ne, Lib.toList_data, str_data]; exact hn.2.2.2.2.1
  have l6 : ((str (kid t 0).text).toList == [99, 97, 108, 108]) = false := by rw [beq_eq_false_iff_ne, Lib.toList_data, str_data]; exact hn.2.2.2.2.2
  rw [headP, if_neg hn.1, if_neg hn.2.1, if_neg hn.2.2.1, if_neg hn.2.2.2.1, if_neg hn.2.2.2.2.1, if_neg hn.2.2.2.2.2] at HP
  clear hn
  rw [if_neg (by rw [ho]; decide), if_neg (by rw [hb, hd]; decide)] at HP
  have HO := hidden ho
  have HB := hidden hb
  have HD := hidden hd
  clear ho hb hd
  rw [if_neg (by rw [hk, hx0]; simp)] at HP
  have HV := hidden hv
  have HK := hidden hk
  have HG := hidden hx0
  have HE := hidden HP
  clear hv hk hx0 HP
  by_cases hkc : kc = 1
  · subst hkc
    have hf0 := FS.start rb m none w #[.int .i64 (t.kind : Int), .int .i64 (t.place : Int), .string (str t.text), .slice (some ⟨g, 0, none⟩) t.kids.length 1] #[.int .i64 0, .int .i64 (t.place : Int), .string ⟨#[]⟩, .complex .f64 0 0, .string ⟨#[]⟩, .string ⟨#[]⟩, .slice none 0 0, .slice none 0 0, .slice none 0 0] hRI
    obtain ⟨g', cap', kv0, e0, _, hT0, a0, a1, a2, a3⟩ := (hTU _ hf0.rq.2).at 0 hp
    simp only [Value.slice.injEq, Option.some.injEq, Addr.mk.injEq, true_and, and_true] at e0
    obtain ⟨rfl, rfl⟩ := e0
    rw [kid_get (t := t) hp] at a2
    simp only [Nat.zero_mul, Nat.zero_add] at a2
    have a2' := a2
    obtain ⟨t0, t1, t2, t3⟩ := tree_cells hf0.tb
    clear a0 a1 a3 hT0 a2
    have hlp : (0 : Int) < (t.kids.length : Int) := by omega
    have hop := r6op (kid t 0).text (((w.alloc (.cells #[.int .i64 (t.kind : Int), .int .i64 (t.place : Int), .string (str t.text), .slice (some ⟨g, 0, none⟩) t.kids.length 1] 43)).alloc (.cells #[.int .i64 0, .int .i64 (t.place : Int), .string ⟨#[]⟩, .complex .f64 0 0, .string ⟨#[]⟩, .string ⟨#[]⟩, .slice none 0 0, .slice none 0 0, .slice none 0 0] 27)).alloc (.cells #[.int .i64 0, .int .i64 0, .string ⟨#[]⟩, .complex .f64 0 0, .string ⟨#[]⟩, .string ⟨#[]⟩, .slice none 0 0, .slice none 0 0, .slice none 0 0] 27))
    rw [HO.out] at hop
    go_enter Try.func53, Try.ntmps53
    go_wp2_with fail
    generalize (((w.alloc (.cells #[.int .i64 (t.kind : Int), .int .i64 (t.place : Int), .string (str t.text), .slice (some ⟨g, 0, none⟩) t.kids.length 1] 43)).alloc (.cells #[.int .i64 0, .int .i64 (t.place : Int), .string ⟨#[]⟩, .complex .f64 0 0, .string ⟨#[]⟩, .string ⟨#[]⟩, .slice none 0 0, .slice none 0 0, .slice none 0 0] 27)).alloc (.cells #[.int .i64 0, .int .i64 0, .string ⟨#[]⟩, .complex .f64 0 0, .string ⟨#[]⟩, .string ⟨#[]⟩, .slice none 0 0, .slice none 0 0, .slice none 0 0] 27)) = u0 at *
    refine hop.mono ?_
    rintro e wa1 ⟨⟨i, rfl, hi⟩, hb⟩
    have hg1 := hf0.more hlt hb
    have hi0 : ¬ (0 : Int) ≤ i := of_decide_eq_false hi
    clear hop hi hb
    clear t0 t1 t2 t3
    obtain ⟨t0, t1, t2, t3⟩ := tree_cells hg1.tb
    have hpu := refBig (str (kid t 0).text) wa1 (by rw [str_size]; omega)
    rw [str_data, HB.out] at hpu
    go_wp2_with fail
    refine hpu.mono ?_
    rintro e wa2 ⟨rfl, rfl⟩
    clear hpu
    have hbo := r6dotted (kid t 0).text true wa2 htl
    rw [HD.out] at hbo
    go_wp2_with fail
    refine hbo.mono ?_
    rintro e wa3 ⟨rfl, hb⟩
    have hg3 := hg1.more hlt hb
    clear hbo hb
    clear t0 t1 t2 t3
    obtain ⟨t0, t1, t2, t3⟩ := tree_cells hg3.tb
    have hpu := refValue (str (kid t 0).text) wa3 (by rw [str_size]; omega)
    rw [str_data, HV.out] at hpu
    go_wp2_with fail
    refine hpu.mono ?_
    rintro e wa4 ⟨rfl, rfl⟩
    clear hpu
    have hbo := r6word (kid t 0).text wa4
    rw [HK.out] at hbo
    go_wp2_with fail
    refine hbo.mono ?_
    rintro e wa5 ⟨rfl, hb⟩
    have hg5 := hg3.more hlt hb
    clear hbo hb
    clear t0 t1 t2 t3
    obtain ⟨t0, t1, t2, t3⟩ := tree_cells hg5.tb
    have hbo := r6dotted (kid t 0).text false wa5 htl
    rw [HG.out] at hbo
    go_wp2_with fail
    refine hbo.mono ?_
    rintro e wa6 ⟨rfl, hb⟩
    have hg6 := hg5.more hlt hb
    clear hbo hb
    clear t0 t1 t2 t3
    obtain ⟨t0, t1, t2, t3⟩ := tree_cells hg6.tb
    have hr := r6refuse rb m none 12 t.place _ hg6.rq.1 (by decide)
    go_wp2_with fail
    refine hr.mono ?_
    rintro e wa7 ⟨rfl, hq⟩
    have hg7 := hg6.call hlt hq
    clear hr hq
    clear t0 t1 t2 t3
    obtain ⟨t0, t1, t2, t3⟩ := tree_cells hg7.tb
    obtain ⟨⟨e0, e1, e2, e3, e4, e5, e6, e7, e8⟩, ef⟩ := nine9 hg7.eb
    obtain ⟨hd1, hd2, hd3, hd4⟩ := hg7.done hlt
    have hrs := hg7.rs
    go_wp2_with (refine wpList_store_row rfl 27 (.tmp 6) (.tmp 239) rfl (w.heap.size + 2) #[.int .i64 0, .int .i64 (t.place : Int), .string ⟨#[]⟩, .complex .f64 0 0, .string ⟨#[]⟩, .string ⟨#[]⟩, .slice none 0 0, .slice none 0 0, .slice none 0 0] rfl rfl 27 #[.int .i64 0, .int .i64 0, .string ⟨#[]⟩, .complex .f64 0 0, .string ⟨#[]⟩, .string ⟨#[]⟩, .slice none 0 0, .slice none 0 0, .slice none 0 0] hrs sizeEx rfl (by first | kernel_rfl | rfl | simp [Value.oneCell']) ?_)
    (try simp only [Exit.inBlock, Exit.then])
    refine bodyPost_ret (res_cell1 rfl _ _ (w.heap.size + 2) 27 #[.int .i64 0, .int .i64 (t.place : Int), .string ⟨#[]⟩, .complex .f64 0 0, .string ⟨#[]⟩, .string ⟨#[]⟩, .slice none 0 0, .slice none 0 0, .slice none 0 0] (0, 0) _ rfl hd2 Try.underlying27 rfl sizeEx) rfl ?_
    have hE := HE.out
    exact exq_of t 0 [] [] _ _ _ ⟨_, _, _, rfl⟩ ⟨_, _, _, rfl⟩ ⟨_, _, _, rfl⟩ (by rw [hE]; exact hd1) (fun y hy => by rw [hE] at hy; cases hy)

  · have hf0 := FS.start rb m none w #[.int .i64 (t.kind : Int), .int .i64 (t.place : Int), .string (str t.text), .slice (some ⟨g, 0, none⟩) t.kids.length kc] #[.int .i64 0, .int .i64 (t.place : Int), .string ⟨#[]⟩, .complex .f64 0 0, .string ⟨#[]⟩, .string ⟨#[]⟩, .slice none 0 0, .slice none 0 0, .slice none 0 0] hRI
    obtain ⟨g', cap', kv0, e0, _, hT0, a0, a1, a2, a3⟩ := (hTU _ hf0.rq.2).at 0 hp
    simp only [Value.slice.injEq, Option.some.injEq, Addr.mk.injEq, true_and, and_true] at e0
    obtain ⟨rfl, rfl⟩ := e0
    rw [kid_get (t := t) hp] at a2
    simp only [Nat.zero_mul, Nat.zero_add] at a2
    have a2' := a2
    obtain ⟨t0, t1, t2, t3⟩ := tree_cells hf0.tb
    clear a0 a1 a3 hT0 a2
    have hlp : (0 : Int) < (t.kids.length : Int) := by omega
    have hop := r6op (kid t 0).text (((w.alloc (.cells #[.int .i64 (t.kind : Int), .int .i64 (t.place : Int), .string (str t.text), .slice (some ⟨g, 0, none⟩) t.kids.length kc] 43)).alloc (.cells #[.int .i64 0, .int .i64 (t.place : Int), .string ⟨#[]⟩, .complex .f64 0 0, .string ⟨#[]⟩, .string ⟨#[]⟩, .slice none 0 0, .slice none 0 0, .slice none 0 0] 27)).alloc (.cells #[.int .i64 0, .int .i64 0, .string ⟨#[]⟩, .complex .f64 0 0, .string ⟨#[]⟩, .string ⟨#[]⟩, .slice none 0 0, .slice none 0 0, .slice none 0 0] 27))
    rw [HO.out] at hop
    go_enter Try.func53, Try.ntmps53
    go_wp2_with fail
    generalize (((w.alloc (.cells #[.int .i64 (t.kind : Int), .int .i64 (t.place : Int), .string (str t.text), .slice (some ⟨g, 0, none⟩) t.kids.length kc] 43)).alloc (.cells #[.int .i64 0, .int .i64 (t.place : Int), .string ⟨#[]⟩, .complex .f64 0 0, .string ⟨#[]⟩, .string ⟨#[]⟩, .slice none 0 0, .slice none 0 0, .slice none 0 0] 27)).alloc (.cells #[.int .i64 0, .int .i64 0, .string ⟨#[]⟩, .complex .f64 0 0, .string ⟨#[]⟩, .string ⟨#[]⟩, .slice none 0 0, .slice none 0 0, .slice none 0 0] 27)) = u0 at *
    refine hop.mono ?_
    rintro e wa1 ⟨⟨i, rfl, hi⟩, hb⟩
    have hg1 := hf0.more hlt hb
    have hi0 : ¬ (0 : Int) ≤ i := of_decide_eq_false hi
    clear hop hi hb
    clear t0 t1 t2 t3
    obtain ⟨t0, t1, t2, t3⟩ := tree_cells hg1.tb
    have hpu := refBig (str (kid t 0).text) wa1 (by rw [str_size]; omega)
    rw [str_data, HB.out] at hpu
    go_wp2_with fail
    refine hpu.mono ?_
    rintro e wa2 ⟨rfl, rfl⟩
    clear hpu
    have hbo := r6dotted (kid t 0).text true wa2 htl
    rw [HD.out] at hbo
    go_wp2_with fail
    refine hbo.mono ?_
    rintro e wa3 ⟨rfl, hb⟩
    have hg3 := hg1.more hlt hb
    clear hbo hb
    clear t0 t1 t2 t3
    obtain ⟨t0, t1, t2, t3⟩ := tree_cells hg3.tb
    have hpu := refValue (str (kid t 0).text) wa3 (by rw [str_size]; omega)
    rw [str_data, HV.out] at hpu
    go_wp2_with fail
    refine hpu.mono ?_
    rintro e wa4 ⟨rfl, rfl⟩
    clear hpu
    have hbo := r6word (kid t 0).text wa4
    rw [HK.out] at hbo
    go_wp2_with fail
    refine hbo.mono ?_
    rintro e wa5 ⟨rfl, hb⟩
    have hg5 := hg3.more hlt hb
    clear hbo hb
    clear t0 t1 t2 t3
    obtain ⟨t0, t1, t2, t3⟩ := tree_cells hg5.tb
    have hbo := r6dotted (kid t 0).text false wa5 htl
    rw [HG.out] at hbo
    go_wp2_with fail
    refine hbo.mono ?_
    rintro e wa6 ⟨rfl, hb⟩
    have hg6 := hg5.more hlt hb
    clear hbo hb
    clear t0 t1 t2 t3
    obtain ⟨t0, t1, t2, t3⟩ := tree_cells hg6.tb
    have hr := r6refuse rb m none 12 t.place _ hg6.rq.1 (by decide)
    go_wp2_with fail
    refine hr.mono ?_
    rintro e wa7 ⟨rfl, hq⟩
    have hg7 := hg6.call hlt hq
    clear hr hq
    clear t0 t1 t2 t3
    obtain ⟨t0, t1, t2, t3⟩ := tree_cells hg7.tb
    obtain ⟨⟨e0, e1, e2, e3, e4, e5, e6, e7, e8⟩, ef⟩ := nine9 hg7.eb
    obtain ⟨hd1, hd2, hd3, hd4⟩ := hg7.done hlt
    have hrs := hg7.rs
    go_wp2_with (refine wpList_store_row rfl 27 (.tmp 6) (.tmp 239) rfl (w.heap.size + 2) #[.int .i64 0, .int .i64 (t.place : Int), .string ⟨#[]⟩, .complex .f64 0 0, .string ⟨#[]⟩, .string ⟨#[]⟩, .slice none 0 0, .slice none 0 0, .slice none 0 0] rfl rfl 27 #[.int .i64 0, .int .i64 0, .string ⟨#[]⟩, .complex .f64 0 0, .string ⟨#[]⟩, .string ⟨#[]⟩, .slice none 0 0, .slice none 0 0, .slice none 0 0] hrs sizeEx rfl (by first | kernel_rfl | rfl | simp [Value.oneCell']) ?_)
    (try simp only [Exit.inBlock, Exit.then])
    refine bodyPost_ret (res_cell1 rfl _ _ (w.heap.size + 2) 27 #[.int .i64 0, .int .i64 (t.place : Int), .string ⟨#[]⟩, .complex .f64 0 0, .string ⟨#[]⟩, .string ⟨#[]⟩, .slice none 0 0, .slice none 0 0, .slice none 0 0] (0, 0) _ rfl hd2 Try.underlying27 rfl sizeEx) rfl ?_
    have hE := HE.out
    exact exq_of t 0 [] [] _ _ _ ⟨_, _, _, rfl⟩ ⟨_, _, _, rfl⟩ ⟨_, _, _, rfl⟩ (by rw [hE]; exact hd1) (fun y hy => by rw [hE] at hy; cases hy)

set_option maxHeartbeats 4000000 in
set_option maxRecDepth 1000000 in
theorem r6noneB (m : List UInt8) (t : Tr) (hk1 : t.kind = 1) (hp : 0 < t.kids.length) (hk3 : (kid t 0).kind = 3) (htx : TxOk t) (hn : (kid t 0).text ≠ letK ∧ (kid t 0).text ≠ ifK ∧ (kid t 0).text ≠ arrayL ∧ (kid t 0).text ≠ matchK ∧ (kid t 0).text ≠ fnL ∧ (kid t 0).text ≠ callK) (ho : isOp (kid t 0).text = false) (hb : bigR (kid t 0).text = false) (hd : dotR true (kid t 0).text = false) (hv : valueR (kid t 0).text = false) (hx0 : dotR false (kid t 0).text = false) (_IH : ∀ k ∈ t.kids, ExAll m k) (_hnd : nodes t ≤ 8192) : FmAll m t := by
  intro F rb kv w hRI hT hF
  have hkl := kids_lt6 t
  have hlt := hRI.lt
  obtain ⟨g, kc, kv0, e0, hg, _, _, _, _, _⟩ := hT.at 0 hp
  subst e0
  have hcap := hT.cap
  have hTU : ∀ u, Kept (fun k => k = rb) w u → TL F u (.slice (some ⟨g, 0, none⟩) t.kids.length kc) t.kids := fun u hu => hT.frame fun g hg => ⟨hg, hu.block g (hF g hg).1 (hF g hg).2⟩
  have HP := exprP_head m t hk1 hp hk3
  have htl := ((TxOk_iff _).1 (kid_ok htx hp)).1
  clear hk1 hk3
  unfold trv
  have l1 : ((str (kid t 0).text).toList == [108, 101, 116]) = false := by rw [beq_eq_false_iff_ne, Lib.toList_data, str_data]; exact hn.1
  have l2 : ((str (kid t 0).text).toList == [105, 102]) = false := by rw [beq_eq_false_iff_ne, Lib.toList_data, str_data]; exact hn.2.1
  have l3 : ((str (kid t 0).text).toList == [97, 114, 114, 97, 121]) = false := by rw [beq_eq_false_iff_ne, Lib.toList_data, str_data]; exact hn.2.2.1
  have l4 : ((str (kid t 0).text).toList == [109, 97, 116, 99, 104]) = false := by rw [beq_eq_false_iff_ne, Lib.toList_data, str_data]; exact hn.2.2.2.1
  have l5 : ((str (kid t 0).text).toList == [102, 110]) = false := by rw [beq_eq_false_iff_ne, Lib.toList_data, str_data]; exact hn.2.2.2.2.1
  have l6 : ((str (kid t 0).text).toList == [99, 97, 108, 108]) = false := by rw [beq_eq_false_iff_ne, Lib.toList_data, str_data]; exact hn.2.2.2.2.2
  rw [headP, if_neg hn.1, if_neg hn.2.1, if_neg hn.2.2.1, if_neg hn.2.2.2.1, if_neg hn.2.2.2.2.1, if_neg hn.2.2.2.2.2] at HP
  clear hn
  rw [if_neg (by rw [ho]; decide), if_neg (by rw [hb, hd]; decide)] at HP
  have HO := hidden ho
  have HB := hidden hb
  have HD := hidden hd
  clear ho hb hd
  rw [if_neg (by rw [hv, hx0]; simp)] at HP
  have HV := hidden hv
  have HG := hidden hx0
  have HE := hidden HP
  clear hv hx0 HP
  by_cases hkc : kc = 1
  · subst hkc
    have hf0 := FS.start rb m none w #[.int .i64 (t.kind : Int), .int .i64 (t.place : Int), .string (str t.text), .slice (some ⟨g, 0, none⟩) t.kids.length 1] #[.int .i64 0, .int .i64 (t.place : Int), .string ⟨#[]⟩, .complex .f64 0 0, .string ⟨#[]⟩, .string ⟨#[]⟩, .slice none 0 0, .slice none 0 0, .slice none 0 0] hRI
    obtain ⟨g', cap', kv0, e0, _, hT0, a0, a1, a2, a3⟩ := (hTU _ hf0.rq.2).at 0 hp
    simp only [Value.slice.injEq, Option.some.injEq, Addr.mk.injEq, true_and, and_true] at e0
    obtain ⟨rfl, rfl⟩ := e0
    rw [kid_get (t := t) hp] at a2
    simp only [Nat.zero_mul, Nat.zero_add] at a2
    have a2' := a2
    obtain ⟨t0, t1, t2, t3⟩ := tree_cells hf0.tb
    clear a0 a1 a3 hT0 a2
    have hlp : (0 : Int) < (t.kids.length : Int) := by omega
    have hop := r6op (kid t 0).text (((w.alloc (.cells #[.int .i64 (t.kind : Int), .int .i64 (t.place : Int), .string (str t.text), .slice (some ⟨g, 0, none⟩) t.kids.length 1] 43)).alloc (.cells #[.int .i64 0, .int .i64 (t.place : Int), .string ⟨#[]⟩, .complex .f64 0 0, .string ⟨#[]⟩, .string ⟨#[]⟩, .slice none 0 0, .slice none 0 0, .slice none 0 0] 27)).alloc (.cells #[.int .i64 0, .int .i64 0, .string ⟨#[]⟩, .complex .f64 0 0, .string ⟨#[]⟩, .string ⟨#[]⟩, .slice none 0 0, .slice none 0 0, .slice none 0 0] 27))
    rw [HO.out] at hop
    go_enter Try.func53, Try.ntmps53
    go_wp2_with fail
    generalize (((w.alloc (.cells #[.int .i64 (t.kind : Int), .int .i64 (t.place : Int), .string (str t.text), .slice (some ⟨g, 0, none⟩) t.kids.length 1] 43)).alloc (.cells #[.int .i64 0, .int .i64 (t.place : Int), .string ⟨#[]⟩, .complex .f64 0 0, .string ⟨#[]⟩, .string ⟨#[]⟩, .slice none 0 0, .slice none 0 0, .slice none 0 0] 27)).alloc (.cells #[.int .i64 0, .int .i64 0, .string ⟨#[]⟩, .complex .f64 0 0, .string ⟨#[]⟩, .string ⟨#[]⟩, .slice none 0 0, .slice none 0 0, .slice none 0 0] 27)) = u0 at *
    refine hop.mono ?_
    rintro e wa1 ⟨⟨i, rfl, hi⟩, hb⟩
    have hg1 := hf0.more hlt hb
    have hi0 : ¬ (0 : Int) ≤ i := of_decide_eq_false hi
    clear hop hi hb
    clear t0 t1 t2 t3
    obtain ⟨t0, t1, t2, t3⟩ := tree_cells hg1.tb
    have hpu := refBig (str (kid t 0).text) wa1 (by rw [str_size]; omega)
    rw [str_data, HB.out] at hpu
    go_wp2_with fail
    refine hpu.mono ?_
    rintro e wa2 ⟨rfl, rfl⟩
    clear hpu
    have hbo := r6dotted (kid t 0).text true wa2 htl
    rw [HD.out] at hbo
    go_wp2_with fail
    refine hbo.mono ?_
    rintro e wa3 ⟨rfl, hb⟩
    have hg3 := hg1.more hlt hb
    clear hbo hb
    clear t0 t1 t2 t3
    obtain ⟨t0, t1, t2, t3⟩ := tree_cells hg3.tb
    have hpu := refValue (str (kid t 0).text) wa3 (by rw [str_size]; omega)
    rw [str_data, HV.out] at hpu
    go_wp2_with fail
    refine hpu.mono ?_
    rintro e wa4 ⟨rfl, rfl⟩
    clear hpu
    have hbo := r6dotted (kid t 0).text false wa4 htl
    rw [HG.out] at hbo
    go_wp2_with fail
    refine hbo.mono ?_
    rintro e wa5 ⟨rfl, hb⟩
    have hg5 := hg3.more hlt hb
    clear hbo hb
    clear t0 t1 t2 t3
    obtain ⟨t0, t1, t2, t3⟩ := tree_cells hg5.tb
    have hr := r6refuse rb m none 12 t.place _ hg5.rq.1 (by decide)
    go_wp2_with fail
    refine hr.mono ?_
    rintro e wa6 ⟨rfl, hq⟩
    have hg6 := hg5.call hlt hq
    clear hr hq
    clear t0 t1 t2 t3
    obtain ⟨t0, t1, t2, t3⟩ := tree_cells hg6.tb
    obtain ⟨⟨e0, e1, e2, e3, e4, e5, e6, e7, e8⟩, ef⟩ := nine9 hg6.eb
    obtain ⟨hd1, hd2, hd3, hd4⟩ := hg6.done hlt
    have hrs := hg6.rs
    go_wp2_with (refine wpList_store_row rfl 27 (.tmp 6) (.tmp 239) rfl (w.heap.size + 2) #[.int .i64 0, .int .i64 (t.place : Int), .string ⟨#[]⟩, .complex .f64 0 0, .string ⟨#[]⟩, .string ⟨#[]⟩, .slice none 0 0, .slice none 0 0, .slice none 0 0] rfl rfl 27 #[.int .i64 0, .int .i64 0, .string ⟨#[]⟩, .complex .f64 0 0, .string ⟨#[]⟩, .string ⟨#[]⟩, .slice none 0 0, .slice none 0 0, .slice none 0 0] hrs sizeEx rfl (by first | kernel_rfl | rfl | simp [Value.oneCell']) ?_)
    (try simp only [Exit.inBlock, Exit.then])
    refine bodyPost_ret (res_cell1 rfl _ _ (w.heap.size + 2) 27 #[.int .i64 0, .int .i64 (t.place : Int), .string ⟨#[]⟩, .complex .f64 0 0, .string ⟨#[]⟩, .string ⟨#[]⟩, .slice none 0 0, .slice none 0 0, .slice none 0 0] (0, 0) _ rfl hd2 Try.underlying27 rfl sizeEx) rfl ?_
    have hE := HE.out
    exact exq_of t 0 [] [] _ _ _ ⟨_, _, _, rfl⟩ ⟨_, _, _, rfl⟩ ⟨_, _, _, rfl⟩ (by rw [hE]; exact hd1) (fun y hy => by rw [hE] at hy; cases hy)

  · have hf0 := FS.start rb m none w #[.int .i64 (t.kind : Int), .int .i64 (t.place : Int), .string (str t.text), .slice (some ⟨g, 0, none⟩) t.kids.length kc] #[.int .i64 0, .int .i64 (t.place : Int), .string ⟨#[]⟩, .complex .f64 0 0, .string ⟨#[]⟩, .string ⟨#[]⟩, .slice none 0 0, .slice none 0 0, .slice none 0 0] hRI
    obtain ⟨g', cap', kv0, e0, _, hT0, a0, a1, a2, a3⟩ := (hTU _ hf0.rq.2).at 0 hp
    simp only [Value.slice.injEq, Option.some.injEq, Addr.mk.injEq, true_and, and_true] at e0
    obtain ⟨rfl, rfl⟩ := e0
    rw [kid_get (t := t) hp] at a2
    simp only [Nat.zero_mul, Nat.zero_add] at a2
    have a2' := a2
    obtain ⟨t0, t1, t2, t3⟩ := tree_cells hf0.tb
    clear a0 a1 a3 hT0 a2
    have hlp : (0 : Int) < (t.kids.length : Int) := by omega
    have hop := r6op (kid t 0).text (((w.alloc (.cells #[.int .i64 (t.kind : Int), .int .i64 (t.place : Int), .string (str t.text), .slice (some ⟨g, 0, none⟩) t.kids.length kc] 43)).alloc (.cells #[.int .i64 0, .int .i64 (t.place : Int), .string ⟨#[]⟩, .complex .f64 0 0, .string ⟨#[]⟩, .string ⟨#[]⟩, .slice none 0 0, .slice none 0 0, .slice none 0 0] 27)).alloc (.cells #[.int .i64 0, .int .i64 0, .string ⟨#[]⟩, .complex .f64 0 0, .string ⟨#[]⟩, .string ⟨#[]⟩, .slice none 0 0, .slice none 0 0, .slice none 0 0] 27))
    rw [HO.out] at hop
    go_enter Try.func53, Try.ntmps53
    go_wp2_with fail
    generalize (((w.alloc (.cells #[.int .i64 (t.kind : Int), .int .i64 (t.place : Int), .string (str t.text), .slice (some ⟨g, 0, none⟩) t.kids.length kc] 43)).alloc (.cells #[.int .i64 0, .int .i64 (t.place : Int), .string ⟨#[]⟩, .complex .f64 0 0, .string ⟨#[]⟩, .string ⟨#[]⟩, .slice none 0 0, .slice none 0 0, .slice none 0 0] 27)).alloc (.cells #[.int .i64 0, .int .i64 0, .string ⟨#[]⟩, .complex .f64 0 0, .string ⟨#[]⟩, .string ⟨#[]⟩, .slice none 0 0, .slice none 0 0, .slice none 0 0] 27)) = u0 at *
    refine hop.mono ?_
    rintro e wa1 ⟨⟨i, rfl, hi⟩, hb⟩
    have hg1 := hf0.more hlt hb
    have hi0 : ¬ (0 : Int) ≤ i := of_decide_eq_false hi
    clear hop hi hb
    clear t0 t1 t2 t3
    obtain ⟨t0, t1, t2, t3⟩ := tree_cells hg1.tb
    have hpu := refBig (str (kid t 0).text) wa1 (by rw [str_size]; omega)
    rw [str_data, HB.out] at hpu
    go_wp2_with fail
    refine hpu.mono ?_
    rintro e wa2 ⟨rfl, rfl⟩
    clear hpu
    have hbo := r6dotted (kid t 0).text true wa2 htl
    rw [HD.out] at hbo
    go_wp2_with fail
    refine hbo.mono ?_
    rintro e wa3 ⟨rfl, hb⟩
    have hg3 := hg1.more hlt hb
    clear hbo hb
    clear t0 t1 t2 t3
    obtain ⟨t0, t1, t2, t3⟩ := tree_cells hg3.tb
    have hpu := refValue (str (kid t 0).text) wa3 (by rw [str_size]; omega)
    rw [str_data, HV.out] at hpu
    go_wp2_with fail
    refine hpu.mono ?_
    rintro e wa4 ⟨rfl, rfl⟩
    clear hpu
    have hbo := r6dotted (kid t 0).text false wa4 htl
    rw [HG.out] at hbo
    go_wp2_with fail
    refine hbo.mono ?_
    rintro e wa5 ⟨rfl, hb⟩
    have hg5 := hg3.more hlt hb
    clear hbo hb
    clear t0 t1 t2 t3
    obtain ⟨t0, t1, t2, t3⟩ := tree_cells hg5.tb
    have hr := r6refuse rb m none 12 t.place _ hg5.rq.1 (by decide)
    go_wp2_with fail
    refine hr.mono ?_
    rintro e wa6 ⟨rfl, hq⟩
    have hg6 := hg5.call hlt hq
    clear hr hq
    clear t0 t1 t2 t3
    obtain ⟨t0, t1, t2, t3⟩ := tree_cells hg6.tb
    obtain ⟨⟨e0, e1, e2, e3, e4, e5, e6, e7, e8⟩, ef⟩ := nine9 hg6.eb
    obtain ⟨hd1, hd2, hd3, hd4⟩ := hg6.done hlt
    have hrs := hg6.rs
    go_wp2_with (refine wpList_store_row rfl 27 (.tmp 6) (.tmp 239) rfl (w.heap.size + 2) #[.int .i64 0, .int .i64 (t.place : Int), .string ⟨#[]⟩, .complex .f64 0 0, .string ⟨#[]⟩, .string ⟨#[]⟩, .slice none 0 0, .slice none 0 0, .slice none 0 0] rfl rfl 27 #[.int .i64 0, .int .i64 0, .string ⟨#[]⟩, .complex .f64 0 0, .string ⟨#[]⟩, .string ⟨#[]⟩, .slice none 0 0, .slice none 0 0, .slice none 0 0] hrs sizeEx rfl (by first | kernel_rfl | rfl | simp [Value.oneCell']) ?_)
    (try simp only [Exit.inBlock, Exit.then])
    refine bodyPost_ret (res_cell1 rfl _ _ (w.heap.size + 2) 27 #[.int .i64 0, .int .i64 (t.place : Int), .string ⟨#[]⟩, .complex .f64 0 0, .string ⟨#[]⟩, .string ⟨#[]⟩, .slice none 0 0, .slice none 0 0, .slice none 0 0] (0, 0) _ rfl hd2 Try.underlying27 rfl sizeEx) rfl ?_
    have hE := HE.out
    exact exq_of t 0 [] [] _ _ _ ⟨_, _, _, rfl⟩ ⟨_, _, _, rfl⟩ ⟨_, _, _, rfl⟩ (by rw [hE]; exact hd1) (fun y hy => by rw [hE] at hy; cases hy)

end Go.Proofs.Ytcokihblicgbpaa
