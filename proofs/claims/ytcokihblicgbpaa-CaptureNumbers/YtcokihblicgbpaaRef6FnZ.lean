/-
  The document's own reader of modules: functions.
-/
import Derived.Test.YtcokihblicgbpaaRef6FormBZ
namespace Go.Proofs.Ytcokihblicgbpaa
open Go.RowKit

set_option maxHeartbeats 4000000 in
set_option maxRecDepth 1000000 in
theorem r6fn (m : List UInt8) (t : Tr) (hm : m.length ≤ 140737488351232) (hk1 : t.kind = 1) (hp : 0 < t.kids.length) (hk3 : (kid t 0).kind = 3) (htx : TxOk t) (hh : (kid t 0).text = fnL) (IH : ∀ k ∈ t.kids, ExAll m k) (hnd : nodes t ≤ 8192) : FmAll m t := by
  intro F rb kv w hRI hT hF
  have hkl := kids_lt6 t
  have hlt := hRI.lt
  obtain ⟨g, kc, kv0, e0, hg, _, _, _, _, _⟩ := hT.at 0 hp
  subst e0
  have hcap := hT.cap
  have hTU : ∀ u, Kept (fun k => k = rb) w u → TL F u (.slice (some ⟨g, 0, none⟩) t.kids.length kc) t.kids := fun u hu => hT.frame fun g hg => ⟨hg, hu.block g (hF g hg).1 (hF g hg).2⟩
  have HP := exprP_head m t hk1 hp hk3
  rw [hh] at HP
  have HH := hidden hh
  clear hk1 hk3 hh
  unfold trv
  rw [headP, if_neg (by decide), if_neg (by decide), if_neg (by decide), if_neg (by decide), if_pos rfl] at HP
  by_cases h4 : t.kids.length = 4
  · have hb4 : ((t.kids.length : Int) != 4) = false := by rw [bne_eq_false_iff_eq]; omega
    have hkc : ¬ kc = 1 := by omega
    have hkc3 : ¬ kc = 3 := by omega
    have hl1 : (1 : Int) < (t.kids.length : Int) := by omega
    have hl2 : (2 : Int) < (t.kids.length : Int) := by omega
    have hl4 : 4 ≤ t.kids.length := by omega
    have H4 := hidden h4
    replace HP := hidden HP
    clear h4
    have hf0 := FS.start rb m none w #[.int .i64 (t.kind : Int), .int .i64 (t.place : Int), .string (str t.text), .slice (some ⟨g, 0, none⟩) t.kids.length kc] #[.int .i64 0, .int .i64 (t.place : Int), .string ⟨#[]⟩, .complex .f64 0 0, .string ⟨#[]⟩, .string ⟨#[]⟩, .slice none 0 0, .slice none 0 0, .slice none 0 0] hRI
    obtain ⟨g', cap', kv0, e0, _, hT0, a0, a1, a2, a3⟩ := (hTU _ hf0.rq.2).at 0 hp
    simp only [Value.slice.injEq, Option.some.injEq, Addr.mk.injEq, true_and, and_true] at e0
    obtain ⟨rfl, rfl⟩ := e0
    rw [kid_get (t := t) hp, HH.out] at a2
    simp only [Nat.zero_mul, Nat.zero_add] at a2
    have a2' : (((w.alloc (.cells #[.int .i64 (t.kind : Int), .int .i64 (t.place : Int), .string (str t.text), .slice (some ⟨g, 0, none⟩) t.kids.length kc] 43)).alloc (.cells #[.int .i64 0, .int .i64 (t.place : Int), .string ⟨#[]⟩, .complex .f64 0 0, .string ⟨#[]⟩, .string ⟨#[]⟩, .slice none 0 0, .slice none 0 0, .slice none 0 0] 27)).alloc (.cells #[.int .i64 0, .int .i64 0, .string ⟨#[]⟩, .complex .f64 0 0, .string ⟨#[]⟩, .string ⟨#[]⟩, .slice none 0 0, .slice none 0 0, .slice none 0 0] 27)).cell? ⟨g, 2, none⟩ = some (.string ⟨#[102, 110]⟩) := a2
    obtain ⟨t0, t1, t2, t3⟩ := tree_cells hf0.tb
    clear a0 a1 a3 hT0 a2
    have hlp : (0 : Int) < (t.kids.length : Int) := by omega
    obtain ⟨gx, cx, kx, ee, _, bT, b0, b1, b2, b3⟩ := (hTU _ hf0.rq.2).at 1 (by omega)
    simp only [Value.slice.injEq, Option.some.injEq, Addr.mk.injEq, true_and, and_true] at ee
    obtain ⟨rfl, rfl⟩ := ee
    rw [kid_get (t := t) (by omega)] at b0 b1 b2 bT
    simp only [Nat.one_mul] at b0 b1 b2 b3
    obtain ⟨kaa, kac, rfl⟩ := bT.shape
    have hat := r6open (kid t 1) (.slice kaa (kid t 1).kids.length kac) (((w.alloc (.cells #[.int .i64 (t.kind : Int), .int .i64 (t.place : Int), .string (str t.text), .slice (some ⟨g, 0, none⟩) t.kids.length kc] 43)).alloc (.cells #[.int .i64 0, .int .i64 (t.place : Int), .string ⟨#[]⟩, .complex .f64 0 0, .string ⟨#[]⟩, .string ⟨#[]⟩, .slice none 0 0, .slice none 0 0, .slice none 0 0] 27)).alloc (.cells #[.int .i64 0, .int .i64 0, .string ⟨#[]⟩, .complex .f64 0 0, .string ⟨#[]⟩, .string ⟨#[]⟩, .slice none 0 0, .slice none 0 0, .slice none 0 0] 27))
    unfold trv at hat
    clear bT
    go_enter Try.func53, Try.ntmps53
    go_wp2_with fail
    generalize (((w.alloc (.cells #[.int .i64 (t.kind : Int), .int .i64 (t.place : Int), .string (str t.text), .slice (some ⟨g, 0, none⟩) t.kids.length kc] 43)).alloc (.cells #[.int .i64 0, .int .i64 (t.place : Int), .string ⟨#[]⟩, .complex .f64 0 0, .string ⟨#[]⟩, .string ⟨#[]⟩, .slice none 0 0, .slice none 0 0, .slice none 0 0] 27)).alloc (.cells #[.int .i64 0, .int .i64 0, .string ⟨#[]⟩, .complex .f64 0 0, .string ⟨#[]⟩, .string ⟨#[]⟩, .slice none 0 0, .slice none 0 0, .slice none 0 0] 27)) = u0 at *
    refine hat.mono ?_
    rintro e w2 ⟨rfl, hb⟩
    have hf1 := hf0.more hlt hb
    clear hat hb t0 t1 t2 t3 b0 b1 b2 b3
    obtain ⟨t0, t1, t2, t3⟩ := tree_cells hf1.tb
    cases hd : decide ((kid t 1).kind = 1)
    · have HE : Hid (exprP m t = .error (12, t.place)) := by rw [hid_iff, HP.out, if_pos (.inr (fun e => by simp [e] at hd))]
      have hr := r6refuse rb m none 12 t.place _ hf1.rq.1 (by decide)
      clear HP
      go_wp2_with fail
      refine hr.mono ?_
      rintro e w3 ⟨rfl, hq⟩
      have hf2 := hf1.call hlt hq
      clear hr t0 t1 t2 t3
      obtain ⟨t0, t1, t2, t3⟩ := tree_cells hf2.tb
      obtain ⟨⟨e0, e1, e2, e3, e4, e5, e6, e7, e8⟩, ef⟩ := nine9 hf2.eb
      obtain ⟨hd1, hd2, hd3, hd4⟩ := hf2.done hlt
      have hrs := hf2.rs
      go_wp2_with (refine wpList_store_row rfl 27 (.tmp 6) (.tmp 126) rfl (w.heap.size + 2) #[.int .i64 0, .int .i64 (t.place : Int), .string ⟨#[]⟩, .complex .f64 0 0, .string ⟨#[]⟩, .string ⟨#[]⟩, .slice none 0 0, .slice none 0 0, .slice none 0 0] rfl rfl 27 #[.int .i64 0, .int .i64 0, .string ⟨#[]⟩, .complex .f64 0 0, .string ⟨#[]⟩, .string ⟨#[]⟩, .slice none 0 0, .slice none 0 0, .slice none 0 0] hrs sizeEx rfl (by first | kernel_rfl | rfl | simp [Value.oneCell']) ?_)
      (try simp only [Exit.inBlock, Exit.then])
      refine bodyPost_ret (res_cell1 rfl _ _ (w.heap.size + 2) 27 #[.int .i64 0, .int .i64 (t.place : Int), .string ⟨#[]⟩, .complex .f64 0 0, .string ⟨#[]⟩, .string ⟨#[]⟩, .slice none 0 0, .slice none 0 0, .slice none 0 0] (0, 0) _ rfl hd2 Try.underlying27 rfl sizeEx) rfl ?_
      have hE := HE.out
      exact exq_of t 0 [] [] _ _ _ ⟨_, _, _, rfl⟩ ⟨_, _, _, rfl⟩ ⟨_, _, _, rfl⟩ (by rw [hE]; exact hd1) (fun y hy => by rw [hE] at hy; cases hy)

    · have HN : Hid (¬ (t.kids.length ≠ 4 ∨ (kid t 1).kind ≠ 1)) := fun e => e.elim (fun e => e H4.out) (fun e => e (of_decide_eq_true hd))
      clear hd
      obtain ⟨gx, cx, kx, ee, _, qT, q0, q1, q2, q3⟩ := (hTU _ hf1.rq.2).at 1 (by omega)
      simp only [Value.slice.injEq, Option.some.injEq, Addr.mk.injEq, true_and, and_true] at ee
      obtain ⟨rfl, rfl⟩ := ee
      rw [kid_get (t := t) (by omega)] at q0 q1 q2 qT
      simp only [Nat.one_mul] at q0 q1 q2 q3
      obtain ⟨kqa, kqc, rfl⟩ := qT.shape
      clear qT
      by_cases h6 : 6 < (kid t 1).kids.length
      · have hi6 : (6 : Int) < ((kid t 1).kids.length : Int) := by omega
        have HE : Hid (exprP m t = .error (19, t.place)) := by rw [hid_iff, HP.out, if_neg HN.out, if_pos h6]
        have hr := r6refuse rb m none 19 t.place _ hf1.rq.1 (by decide)
        clear HP HN
        go_wp2_with fail
        refine hr.mono ?_
        rintro e w3 ⟨rfl, hq⟩
        have hf2 := hf1.call hlt hq
        clear hr hq t0 t1 t2 t3 q0 q1 q2 q3
        obtain ⟨t0, t1, t2, t3⟩ := tree_cells hf2.tb
        have hp1 : FS rb m w w.heap.size #[.int .i64 (t.kind : Int), .int .i64 (t.place : Int), .string (str t.text), .slice (some ⟨g, 0, none⟩) t.kids.length kc] (some (19, t.place)) #[.int .i64 10, .int .i64 (t.place : Int), .string ⟨#[]⟩, .complex .f64 0 0, .string ⟨#[]⟩, .string ⟨#[]⟩, .slice none 0 0, .slice none 0 0, .slice none 0 0] (w3.setCell ⟨w.heap.size + 1, 0, none⟩ (.int .i64 10)) := hf2.put hlt 0 (.int .i64 10)
        obtain ⟨⟨y0, y1, y2, y3, y4, y5, y6, y7, y8⟩, yf⟩ := nine9 hf2.eb
        obtain ⟨gx, cx, kx, ee, _, cT, c0, c1, c2, c3⟩ := (hTU _ hp1.rq.2).at 1 (by omega)
        simp only [Value.slice.injEq, Option.some.injEq, Addr.mk.injEq, true_and, and_true] at ee
        obtain ⟨rfl, rfl⟩ := ee
        rw [kid_get (t := t) (by omega)] at c0 c1 c2 cT
        simp only [Nat.one_mul] at c0 c1 c2 c3
        obtain ⟨kba, kbc, rfl⟩ := cT.shape
        have hpa := r6params F rb m (some (19, t.place)) (kid t 1) (.slice kba (kid t 1).kids.length kbc) _ hm hp1.rq.1 cT (fun b hb => ⟨by have := (hF b hb).1; have := hp1.lt; have := hp1.lo; omega, (hF b hb).2⟩) (kid_ok htx (by omega)) (by have := kid_nodes (t := t) (i := 1) (by omega); omega)
        unfold trv at hpa
        clear cT
        have hlA := hp1.lt
        go_wp2_with fail
        refine hpa.mono ?_
        rintro e wB ⟨pv, rfl, ⟨pa, pn, pc, rfl⟩, hq, hps⟩
        have hsB := hq.2.size
        have hh1 := hp1.call hlt hq
        have hh2 : FS rb m w w.heap.size #[.int .i64 (t.kind : Int), .int .i64 (t.place : Int), .string (str t.text), .slice (some ⟨g, 0, none⟩) t.kids.length kc] (orR (some (19, t.place)) (seqP ((kid t 1).kids.map (paramP m)))) #[.int .i64 10, .int .i64 (t.place : Int), .string ⟨#[]⟩, .complex .f64 0 0, .string ⟨#[]⟩, .string ⟨#[]⟩, .slice none 0 0, .slice pa pn pc, .slice none 0 0] (wB.setCell ⟨w.heap.size + 1, 7, none⟩ (.slice pa pn pc)) := hh1.put hlt 7 (.slice pa pn pc)
        clear hpa hq t0 t1 t2 t3 c0 c1 c2 c3
        obtain ⟨⟨y0, y1, y2, y3, y4, y5, y6, y7, y8⟩, yf⟩ := nine9 hh1.eb
        obtain ⟨t0, t1, t2, t3⟩ := tree_cells hh1.tb
        obtain ⟨gx, cx, kx, ee, _, dT, d0, d1, d2, d3⟩ := (hTU _ hh2.rq.2).at 2 (by omega)
        simp only [Value.slice.injEq, Option.some.injEq, Addr.mk.injEq, true_and, and_true] at ee
        obtain ⟨rfl, rfl⟩ := ee
        rw [kid_get (t := t) (by omega)] at d0 d1 d2 dT
        simp only [show 2 * 4 = 8 from rfl, show 8 + 1 = 9 from rfl, show 8 + 2 = 10 from rfl, show 8 + 3 = 11 from rfl] at d0 d1 d2 d3
        obtain ⟨kda, kdc, rfl⟩ := dT.shape
        have hkd := r6kind F rb m (orR (some (19, t.place)) (seqP ((kid t 1).kids.map (paramP m)))) (kid t 2) (.slice kda (kid t 2).kids.length kdc) _ hm hh2.rq.1 dT (fun b hb => by have := (hF b hb).1; have := hh2.lt; have := hh2.lo; omega) (kid_ok htx (by omega)) (by have := kid_nodes (t := t) (i := 2) (by omega); omega)
        unfold trv at hkd
        clear dT
        go_wp2_with fail
        refine hkd.mono ?_
        rintro e wC ⟨xx, rfl, hq, hxx⟩
        have hKC := hq.2
        have hsC := hq.2.size
        have hh3 := hh2.call hlt hq
        have hh4 : FS rb m w w.heap.size #[.int .i64 (t.kind : Int), .int .i64 (t.place : Int), .string (str t.text), .slice (some ⟨g, 0, none⟩) t.kids.length kc] (orR (orR (some (19, t.place)) (seqP ((kid t 1).kids.map (paramP m)))) (readR m (kid t 2))) #[.int .i64 10, .int .i64 (t.place : Int), .string ⟨#[]⟩, .complex .f64 0 0, .string ⟨#[]⟩, .string (str xx), .slice none 0 0, .slice pa pn pc, .slice none 0 0] (wC.setCell ⟨w.heap.size + 1, 5, none⟩ (.string (str xx))) := hh3.put hlt 5 (.string (str xx))
        clear hkd hq t0 t1 t2 t3 d0 d1 d2 d3 y0 y1 y2 y3 y4 y5 y6 y7 y8 yf
        obtain ⟨⟨x0, x1, x2, x3, x4, x5, x6, x7, x8⟩, xf⟩ := nine9 hh3.eb
        obtain ⟨t0, t1, t2, t3⟩ := tree_cells hh3.tb
        have hS : S6 F _ (.slice (some ⟨g, 12, none⟩) (t.kids.length - 3) (kc - 3)) (t.kids.drop 3) := (hTU _ hh4.rq.2).s6 3 12 _ (by omega) (.inr ⟨hkc3, rfl⟩)
        have hlz := hh4.lt
        have hxs := r6exprs F rb m (orR (orR (some (19, t.place)) (seqP ((kid t 1).kids.map (paramP m)))) (readR m (kid t 2))) (t.kids.drop 3) _ _ hh4.rq.1 hS (fun b hb => ⟨by have := (hF b hb).1; omega, (hF b hb).2⟩) (by simp; omega) (fun k hk => IH k (List.mem_of_mem_drop hk))
        clear hS
        go_wp2_with fail
        refine hxs.mono ?_
        rintro e w6 ⟨v, rfl, ⟨va, vn, vc, rfl⟩, hq6, hx6⟩
        have hf6 := hh4.call hlt hq6
        have hf7 : FS rb m w w.heap.size #[.int .i64 (t.kind : Int), .int .i64 (t.place : Int), .string (str t.text), .slice (some ⟨g, 0, none⟩) t.kids.length kc] _ #[.int .i64 10, .int .i64 (t.place : Int), .string ⟨#[]⟩, .complex .f64 0 0, .string ⟨#[]⟩, .string (str xx), .slice va vn vc, .slice pa pn pc, .slice none 0 0] (w6.setCell ⟨w.heap.size + 1, 6, none⟩ (.slice va vn vc)) := hf6.put hlt 6 (.slice va vn vc)
        have hs6 := hq6.2.size
        have hK6 := hq6.2
        obtain ⟨⟨z0, z1, z2, z3, z4, z5, z6, z7, z8⟩, zf⟩ := nine9 hf6.eb
        obtain ⟨t0', t1', t2', t3'⟩ := tree_cells hf6.tb
        clear hxs hq6
        obtain ⟨⟨e0, e1, e2, e3, e4, e5, e6, e7, e8⟩, ef⟩ := nine9 hf7.eb
        obtain ⟨hd1, hd2, hd3, hd4⟩ := hf7.done hlt
        have hrs := hf7.rs
        go_wp2_with (refine wpList_store_row rfl 27 (.tmp 6) (.tmp 239) rfl (w.heap.size + 2) #[.int .i64 10, .int .i64 (t.place : Int), .string ⟨#[]⟩, .complex .f64 0 0, .string ⟨#[]⟩, .string (str xx), .slice va vn vc, .slice pa pn pc, .slice none 0 0] rfl rfl 27 #[.int .i64 0, .int .i64 0, .string ⟨#[]⟩, .complex .f64 0 0, .string ⟨#[]⟩, .string ⟨#[]⟩, .slice none 0 0, .slice none 0 0, .slice none 0 0] hrs sizeEx rfl (by first | kernel_rfl | rfl | simp [Value.oneCell']) ?_)
        (try simp only [Exit.inBlock, Exit.then])
        refine bodyPost_ret (res_cell1 rfl _ _ (w.heap.size + 2) 27 #[.int .i64 10, .int .i64 (t.place : Int), .string ⟨#[]⟩, .complex .f64 0 0, .string ⟨#[]⟩, .string (str xx), .slice va vn vc, .slice pa pn pc, .slice none 0 0] (0, 0) _ rfl hd2 Try.underlying27 rfl sizeEx) rfl ?_
        have hE := HE.out
        refine exq_of t 10 [] xx _ _ _ ⟨_, _, _, rfl⟩ ⟨_, _, _, rfl⟩ ⟨_, _, _, rfl⟩ (by rw [hE]; exact hd1) (fun y hy => ?_)
        rw [hE] at hy
        cases hy

      · have hi6 : ¬ (6 : Int) < ((kid t 1).kids.length : Int) := by omega
        have HE : Hid (exprP m t = (seqP ((kid t 1).kids.map (paramP m))).bind (fun ps => (readR m (kid t 2)).bind (fun y => (seqP ((t.kids.drop 3).map (exprP m))).bind (fun ks => .ok ⟨10, t.place, [], 0, 0, [], y, ks, ps, [], []⟩)))) := by rw [hid_iff, HP.out, if_neg HN.out, if_neg h6, seq_drop]
        clear HP HN
        have hp1 : FS rb m w w.heap.size #[.int .i64 (t.kind : Int), .int .i64 (t.place : Int), .string (str t.text), .slice (some ⟨g, 0, none⟩) t.kids.length kc] none #[.int .i64 10, .int .i64 (t.place : Int), .string ⟨#[]⟩, .complex .f64 0 0, .string ⟨#[]⟩, .string ⟨#[]⟩, .slice none 0 0, .slice none 0 0, .slice none 0 0] (w2.setCell ⟨w.heap.size + 1, 0, none⟩ (.int .i64 10)) := hf1.put hlt 0 (.int .i64 10)
        obtain ⟨⟨y0, y1, y2, y3, y4, y5, y6, y7, y8⟩, yf⟩ := nine9 hf1.eb
        obtain ⟨gx, cx, kx, ee, _, cT, c0, c1, c2, c3⟩ := (hTU _ hp1.rq.2).at 1 (by omega)
        simp only [Value.slice.injEq, Option.some.injEq, Addr.mk.injEq, true_and, and_true] at ee
        obtain ⟨rfl, rfl⟩ := ee
        rw [kid_get (t := t) (by omega)] at c0 c1 c2 cT
        simp only [Nat.one_mul] at c0 c1 c2 c3
        obtain ⟨kba, kbc, rfl⟩ := cT.shape
        have hpa := r6params F rb m none (kid t 1) (.slice kba (kid t 1).kids.length kbc) _ hm hp1.rq.1 cT (fun b hb => ⟨by have := (hF b hb).1; have := hp1.lt; have := hp1.lo; omega, (hF b hb).2⟩) (kid_ok htx (by omega)) (by have := kid_nodes (t := t) (i := 1) (by omega); omega)
        unfold trv at hpa
        clear cT
        have hlA := hp1.lt
        go_wp2_with fail
        refine hpa.mono ?_
        rintro e wB ⟨pv, rfl, ⟨pa, pn, pc, rfl⟩, hq, hps⟩
        have hsB := hq.2.size
        have hh1 := hp1.call hlt hq
        have hh2 : FS rb m w w.heap.size #[.int .i64 (t.kind : Int), .int .i64 (t.place : Int), .string (str t.text), .slice (some ⟨g, 0, none⟩) t.kids.length kc] (orR none (seqP ((kid t 1).kids.map (paramP m)))) #[.int .i64 10, .int .i64 (t.place : Int), .string ⟨#[]⟩, .complex .f64 0 0, .string ⟨#[]⟩, .string ⟨#[]⟩, .slice none 0 0, .slice pa pn pc, .slice none 0 0] (wB.setCell ⟨w.heap.size + 1, 7, none⟩ (.slice pa pn pc)) := hh1.put hlt 7 (.slice pa pn pc)
        clear hpa hq t0 t1 t2 t3 c0 c1 c2 c3
        obtain ⟨⟨y0, y1, y2, y3, y4, y5, y6, y7, y8⟩, yf⟩ := nine9 hh1.eb
        obtain ⟨t0, t1, t2, t3⟩ := tree_cells hh1.tb
        obtain ⟨gx, cx, kx, ee, _, dT, d0, d1, d2, d3⟩ := (hTU _ hh2.rq.2).at 2 (by omega)
        simp only [Value.slice.injEq, Option.some.injEq, Addr.mk.injEq, true_and, and_true] at ee
        obtain ⟨rfl, rfl⟩ := ee
        rw [kid_get (t := t) (by omega)] at d0 d1 d2 dT
        simp only [show 2 * 4 = 8 from rfl, show 8 + 1 = 9 from rfl, show 8 + 2 = 10 from rfl, show 8 + 3 = 11 from rfl] at d0 d1 d2 d3
        obtain ⟨kda, kdc, rfl⟩ := dT.shape
        have hkd := r6kind F rb m (orR none (seqP ((kid t 1).kids.map (paramP m)))) (kid t 2) (.slice kda (kid t 2).kids.length kdc) _ hm hh2.rq.1 dT (fun b hb => by have := (hF b hb).1; have := hh2.lt; have := hh2.lo; omega) (kid_ok htx (by omega)) (by have := kid_nodes (t := t) (i := 2) (by omega); omega)
        unfold trv at hkd
        clear dT
        go_wp2_with fail
        refine hkd.mono ?_
        rintro e wC ⟨xx, rfl, hq, hxx⟩
        have hKC := hq.2
        have hsC := hq.2.size
        have hh3 := hh2.call hlt hq
        have hh4 : FS rb m w w.heap.size #[.int .i64 (t.kind : Int), .int .i64 (t.place : Int), .string (str t.text), .slice (some ⟨g, 0, none⟩) t.kids.length kc] (orR (orR none (seqP ((kid t 1).kids.map (paramP m)))) (readR m (kid t 2))) #[.int .i64 10, .int .i64 (t.place : Int), .string ⟨#[]⟩, .complex .f64 0 0, .string ⟨#[]⟩, .string (str xx), .slice none 0 0, .slice pa pn pc, .slice none 0 0] (wC.setCell ⟨w.heap.size + 1, 5, none⟩ (.string (str xx))) := hh3.put hlt 5 (.string (str xx))
        clear hkd hq t0 t1 t2 t3 d0 d1 d2 d3 y0 y1 y2 y3 y4 y5 y6 y7 y8 yf
        obtain ⟨⟨x0, x1, x2, x3, x4, x5, x6, x7, x8⟩, xf⟩ := nine9 hh3.eb
        obtain ⟨t0, t1, t2, t3⟩ := tree_cells hh3.tb
        have hS : S6 F _ (.slice (some ⟨g, 12, none⟩) (t.kids.length - 3) (kc - 3)) (t.kids.drop 3) := (hTU _ hh4.rq.2).s6 3 12 _ (by omega) (.inr ⟨hkc3, rfl⟩)
        have hlz := hh4.lt
        have hxs := r6exprs F rb m (orR (orR none (seqP ((kid t 1).kids.map (paramP m)))) (readR m (kid t 2))) (t.kids.drop 3) _ _ hh4.rq.1 hS (fun b hb => ⟨by have := (hF b hb).1; omega, (hF b hb).2⟩) (by simp; omega) (fun k hk => IH k (List.mem_of_mem_drop hk))
        clear hS
        go_wp2_with fail
        refine hxs.mono ?_
        rintro e w6 ⟨v, rfl, ⟨va, vn, vc, rfl⟩, hq6, hx6⟩
        have hf6 := hh4.call hlt hq6
        have hf7 : FS rb m w w.heap.size #[.int .i64 (t.kind : Int), .int .i64 (t.place : Int), .string (str t.text), .slice (some ⟨g, 0, none⟩) t.kids.length kc] _ #[.int .i64 10, .int .i64 (t.place : Int), .string ⟨#[]⟩, .complex .f64 0 0, .string ⟨#[]⟩, .string (str xx), .slice va vn vc, .slice pa pn pc, .slice none 0 0] (w6.setCell ⟨w.heap.size + 1, 6, none⟩ (.slice va vn vc)) := hf6.put hlt 6 (.slice va vn vc)
        have hs6 := hq6.2.size
        have hK6 := hq6.2
        obtain ⟨⟨z0, z1, z2, z3, z4, z5, z6, z7, z8⟩, zf⟩ := nine9 hf6.eb
        obtain ⟨t0', t1', t2', t3'⟩ := tree_cells hf6.tb
        clear hxs hq6
        obtain ⟨⟨e0, e1, e2, e3, e4, e5, e6, e7, e8⟩, ef⟩ := nine9 hf7.eb
        obtain ⟨hd1, hd2, hd3, hd4⟩ := hf7.done hlt
        have hrs := hf7.rs
        go_wp2_with (refine wpList_store_row rfl 27 (.tmp 6) (.tmp 239) rfl (w.heap.size + 2) #[.int .i64 10, .int .i64 (t.place : Int), .string ⟨#[]⟩, .complex .f64 0 0, .string ⟨#[]⟩, .string (str xx), .slice va vn vc, .slice pa pn pc, .slice none 0 0] rfl rfl 27 #[.int .i64 0, .int .i64 0, .string ⟨#[]⟩, .complex .f64 0 0, .string ⟨#[]⟩, .string ⟨#[]⟩, .slice none 0 0, .slice none 0 0, .slice none 0 0] hrs sizeEx rfl (by first | kernel_rfl | rfl | simp [Value.oneCell']) ?_)
        (try simp only [Exit.inBlock, Exit.then])
        refine bodyPost_ret (res_cell1 rfl _ _ (w.heap.size + 2) 27 #[.int .i64 10, .int .i64 (t.place : Int), .string ⟨#[]⟩, .complex .f64 0 0, .string ⟨#[]⟩, .string (str xx), .slice va vn vc, .slice pa pn pc, .slice none 0 0] (0, 0) _ rfl hd2 Try.underlying27 rfl sizeEx) rfl ?_
        have hE := HE.out
        refine exq_of t 10 [] xx _ _ _ ⟨_, _, _, rfl⟩ ⟨_, _, _, rfl⟩ ⟨_, _, _, rfl⟩ (by rw [hE, ← orR_bind3 (f := fun ps y ks => (⟨10, t.place, [], 0, 0, [], y, ks, ps, [], []⟩ : Ex))]; exact hd1) (fun y hy => ?_)
        rw [hE] at hy
        cases hpp : seqP ((kid t 1).kids.map (paramP m)) with
        | error e => rw [hpp] at hy; cases hy
        | ok ps =>
          rw [hpp] at hy
          cases hrd : readR m (kid t 2) with
          | error e => rw [hrd] at hy; cases hy
          | ok y1 =>
            have hxe := hxx (by rw [hpp]; rfl) y1 hrd
            subst hxe
            rw [hrd] at hy
            cases hs : seqP ((t.kids.drop 3).map (exprP m)) with
            | error e => rw [hs] at hy; cases hy
            | ok ks =>
              rw [hs] at hy
              cases hy
              have hPS := (hps (by simp) ps hpp).frame (G := Fq w ((w6.setCell ⟨w.heap.size + 1, 6, none⟩ (.slice va vn vc)).setRow (w.heap.size + 2) #[.int .i64 10, .int .i64 (t.place : Int), .string ⟨#[]⟩, .complex .f64 0 0, .string ⟨#[]⟩, .string (str xx), .slice va vn vc, .slice pa pn pc, .slice none 0 0])) (w' := (w6.setCell ⟨w.heap.size + 1, 6, none⟩ (.slice va vn vc)).setRow (w.heap.size + 2) #[.int .i64 10, .int .i64 (t.place : Int), .string ⟨#[]⟩, .complex .f64 0 0, .string ⟨#[]⟩, .string (str xx), .slice va vn vc, .slice pa pn pc, .slice none 0 0]) (fun b hb => by
                have hb1 := hb.1
                have hb2 := hb.2
                have n1 : b ≠ w.heap.size + 1 := by omega
                have z1 : (wB.setCell ⟨w.heap.size + 1, 7, none⟩ (.slice pa pn pc)).heap.size = wB.heap.size := by simp [World.setCell]
                have z2 : (wC.setCell ⟨w.heap.size + 1, 5, none⟩ (.string (str xx))).heap.size = wC.heap.size := by simp [World.setCell]
                have e1 : (wB.setCell ⟨w.heap.size + 1, 7, none⟩ (.slice pa pn pc)).heap[b]? = wB.heap[b]? := Below.heap_setCell _ _ _ _ n1
                have e2 := hKC.block b (by omega) (by omega)
                have e3 : (wC.setCell ⟨w.heap.size + 1, 5, none⟩ (.string (str xx))).heap[b]? = wC.heap[b]? := Below.heap_setCell _ _ _ _ n1
                have e4 := hK6.block b (by omega) (by omega)
                have e5 : (w6.setCell ⟨w.heap.size + 1, 6, none⟩ (.slice va vn vc)).heap[b]? = w6.heap[b]? := Below.heap_setCell _ _ _ _ n1
                have e6 := hf7.keeps (e2 := #[.int .i64 10, .int .i64 (t.place : Int), .string ⟨#[]⟩, .complex .f64 0 0, .string ⟨#[]⟩, .string (str xx), .slice va vn vc, .slice pa pn pc, .slice none 0 0]) (u := wB) (b := b) (by omega) (e5.trans (e4.trans (e3.trans (e2.trans e1))))
                refine ⟨⟨by omega, ?_⟩, e6⟩
                rw [hd4]
                have z3 : (w6.setCell ⟨w.heap.size + 1, 6, none⟩ (.slice va vn vc)).heap.size = w6.heap.size := by simp [World.setCell]
                omega)
              refine ⟨ks, ps, [], [], rfl, (hx6 (by rw [hpp, hrd]; rfl) ks hs).frame (fun b hb => ⟨⟨by have := hb.1; omega, by rw [hd4]; have := hb.2; simpa [World.setCell] using this⟩, ?_⟩), hPS, XA.nil _ _⟩
              exact hf7.keeps (by have := hb.1; omega) (Below.heap_setCell _ _ _ _ (show b ≠ w.heap.size + 1 by have := hb.1; omega))

  · have hb4 : ((t.kids.length : Int) != 4) = true := by rw [bne_iff_ne]; omega
    have HE : Hid (exprP m t = .error (12, t.place)) := by rw [hid_iff, HP, if_pos (.inl h4)]
    clear HP
    by_cases hkc : kc = 1
    · subst hkc
      have hf0 := FS.start rb m none w #[.int .i64 (t.kind : Int), .int .i64 (t.place : Int), .string (str t.text), .slice (some ⟨g, 0, none⟩) t.kids.length 1] #[.int .i64 0, .int .i64 (t.place : Int), .string ⟨#[]⟩, .complex .f64 0 0, .string ⟨#[]⟩, .string ⟨#[]⟩, .slice none 0 0, .slice none 0 0, .slice none 0 0] hRI
      obtain ⟨g', cap', kv0, e0, _, hT0, a0, a1, a2, a3⟩ := (hTU _ hf0.rq.2).at 0 hp
      simp only [Value.slice.injEq, Option.some.injEq, Addr.mk.injEq, true_and, and_true] at e0
      obtain ⟨rfl, rfl⟩ := e0
      rw [kid_get (t := t) hp, HH.out] at a2
      simp only [Nat.zero_mul, Nat.zero_add] at a2
      have a2' : (((w.alloc (.cells #[.int .i64 (t.kind : Int), .int .i64 (t.place : Int), .string (str t.text), .slice (some ⟨g, 0, none⟩) t.kids.length 1] 43)).alloc (.cells #[.int .i64 0, .int .i64 (t.place : Int), .string ⟨#[]⟩, .complex .f64 0 0, .string ⟨#[]⟩, .string ⟨#[]⟩, .slice none 0 0, .slice none 0 0, .slice none 0 0] 27)).alloc (.cells #[.int .i64 0, .int .i64 0, .string ⟨#[]⟩, .complex .f64 0 0, .string ⟨#[]⟩, .string ⟨#[]⟩, .slice none 0 0, .slice none 0 0, .slice none 0 0] 27)).cell? ⟨g, 2, none⟩ = some (.string ⟨#[102, 110]⟩) := a2
      obtain ⟨t0, t1, t2, t3⟩ := tree_cells hf0.tb
      clear a0 a1 a3 hT0 a2
      have hlp : (0 : Int) < (t.kids.length : Int) := by omega
      have hr := r6refuse rb m none 12 t.place _ hf0.rq.1 (by decide)
      go_enter Try.func53, Try.ntmps53
      go_wp2_with fail
      generalize (((w.alloc (.cells #[.int .i64 (t.kind : Int), .int .i64 (t.place : Int), .string (str t.text), .slice (some ⟨g, 0, none⟩) t.kids.length 1] 43)).alloc (.cells #[.int .i64 0, .int .i64 (t.place : Int), .string ⟨#[]⟩, .complex .f64 0 0, .string ⟨#[]⟩, .string ⟨#[]⟩, .slice none 0 0, .slice none 0 0, .slice none 0 0] 27)).alloc (.cells #[.int .i64 0, .int .i64 0, .string ⟨#[]⟩, .complex .f64 0 0, .string ⟨#[]⟩, .string ⟨#[]⟩, .slice none 0 0, .slice none 0 0, .slice none 0 0] 27)) = u0 at *
      refine hr.mono ?_
      rintro e w2 ⟨rfl, hq⟩
      have hf1 := hf0.call hlt hq
      clear hr t0 t1 t2 t3
      obtain ⟨t0, t1, t2, t3⟩ := tree_cells hf1.tb
      obtain ⟨⟨e0, e1, e2, e3, e4, e5, e6, e7, e8⟩, ef⟩ := nine9 hf1.eb
      obtain ⟨hd1, hd2, hd3, hd4⟩ := hf1.done hlt
      have hrs := hf1.rs
      go_wp2_with (refine wpList_store_row rfl 27 (.tmp 6) (.tmp 126) rfl (w.heap.size + 2) #[.int .i64 0, .int .i64 (t.place : Int), .string ⟨#[]⟩, .complex .f64 0 0, .string ⟨#[]⟩, .string ⟨#[]⟩, .slice none 0 0, .slice none 0 0, .slice none 0 0] rfl rfl 27 #[.int .i64 0, .int .i64 0, .string ⟨#[]⟩, .complex .f64 0 0, .string ⟨#[]⟩, .string ⟨#[]⟩, .slice none 0 0, .slice none 0 0, .slice none 0 0] hrs sizeEx rfl (by first | kernel_rfl | rfl | simp [Value.oneCell']) ?_)
      (try simp only [Exit.inBlock, Exit.then])
      refine bodyPost_ret (res_cell1 rfl _ _ (w.heap.size + 2) 27 #[.int .i64 0, .int .i64 (t.place : Int), .string ⟨#[]⟩, .complex .f64 0 0, .string ⟨#[]⟩, .string ⟨#[]⟩, .slice none 0 0, .slice none 0 0, .slice none 0 0] (0, 0) _ rfl hd2 Try.underlying27 rfl sizeEx) rfl ?_
      have hE := HE.out
      exact exq_of t 0 [] [] _ _ _ ⟨_, _, _, rfl⟩ ⟨_, _, _, rfl⟩ ⟨_, _, _, rfl⟩ (by rw [hE]; exact hd1) (fun y hy => by rw [hE] at hy; cases hy)

    · have hf0 := FS.start rb m none w #[.int .i64 (t.kind : Int), .int .i64 (t.place : Int), .string (str t.text), .slice (some ⟨g, 0, none⟩) t.kids.length kc] #[.int .i64 0, .int .i64 (t.place : Int), .string ⟨#[]⟩, .complex .f64 0 0, .string ⟨#[]⟩, .string ⟨#[]⟩, .slice none 0 0, .slice none 0 0, .slice none 0 0] hRI
      obtain ⟨g', cap', kv0, e0, _, hT0, a0, a1, a2, a3⟩ := (hTU _ hf0.rq.2).at 0 hp
      simp only [Value.slice.injEq, Option.some.injEq, Addr.mk.injEq, true_and, and_true] at e0
      obtain ⟨rfl, rfl⟩ := e0
      rw [kid_get (t := t) hp, HH.out] at a2
      simp only [Nat.zero_mul, Nat.zero_add] at a2
      have a2' : (((w.alloc (.cells #[.int .i64 (t.kind : Int), .int .i64 (t.place : Int), .string (str t.text), .slice (some ⟨g, 0, none⟩) t.kids.length kc] 43)).alloc (.cells #[.int .i64 0, .int .i64 (t.place : Int), .string ⟨#[]⟩, .complex .f64 0 0, .string ⟨#[]⟩, .string ⟨#[]⟩, .slice none 0 0, .slice none 0 0, .slice none 0 0] 27)).alloc (.cells #[.int .i64 0, .int .i64 0, .string ⟨#[]⟩, .complex .f64 0 0, .string ⟨#[]⟩, .string ⟨#[]⟩, .slice none 0 0, .slice none 0 0, .slice none 0 0] 27)).cell? ⟨g, 2, none⟩ = some (.string ⟨#[102, 110]⟩) := a2
      obtain ⟨t0, t1, t2, t3⟩ := tree_cells hf0.tb
      clear a0 a1 a3 hT0 a2
      have hlp : (0 : Int) < (t.kids.length : Int) := by omega
      have hr := r6refuse rb m none 12 t.place _ hf0.rq.1 (by decide)
      go_enter Try.func53, Try.ntmps53
      go_wp2_with fail
      generalize (((w.alloc (.cells #[.int .i64 (t.kind : Int), .int .i64 (t.place : Int), .string (str t.text), .slice (some ⟨g, 0, none⟩) t.kids.length kc] 43)).alloc (.cells #[.int .i64 0, .int .i64 (t.place : Int), .string ⟨#[]⟩, .complex .f64 0 0, .string ⟨#[]⟩, .string ⟨#[]⟩, .slice none 0 0, .slice none 0 0, .slice none 0 0] 27)).alloc (.cells #[.int .i64 0, .int .i64 0, .string ⟨#[]⟩, .complex .f64 0 0, .string ⟨#[]⟩, .string ⟨#[]⟩, .slice none 0 0, .slice none 0 0, .slice none 0 0] 27)) = u0 at *
      refine hr.mono ?_
      rintro e w2 ⟨rfl, hq⟩
      have hf1 := hf0.call hlt hq
      clear hr t0 t1 t2 t3
      obtain ⟨t0, t1, t2, t3⟩ := tree_cells hf1.tb
      obtain ⟨⟨e0, e1, e2, e3, e4, e5, e6, e7, e8⟩, ef⟩ := nine9 hf1.eb
      obtain ⟨hd1, hd2, hd3, hd4⟩ := hf1.done hlt
      have hrs := hf1.rs
      go_wp2_with (refine wpList_store_row rfl 27 (.tmp 6) (.tmp 126) rfl (w.heap.size + 2) #[.int .i64 0, .int .i64 (t.place : Int), .string ⟨#[]⟩, .complex .f64 0 0, .string ⟨#[]⟩, .string ⟨#[]⟩, .slice none 0 0, .slice none 0 0, .slice none 0 0] rfl rfl 27 #[.int .i64 0, .int .i64 0, .string ⟨#[]⟩, .complex .f64 0 0, .string ⟨#[]⟩, .string ⟨#[]⟩, .slice none 0 0, .slice none 0 0, .slice none 0 0] hrs sizeEx rfl (by first | kernel_rfl | rfl | simp [Value.oneCell']) ?_)
      (try simp only [Exit.inBlock, Exit.then])
      refine bodyPost_ret (res_cell1 rfl _ _ (w.heap.size + 2) 27 #[.int .i64 0, .int .i64 (t.place : Int), .string ⟨#[]⟩, .complex .f64 0 0, .string ⟨#[]⟩, .string ⟨#[]⟩, .slice none 0 0, .slice none 0 0, .slice none 0 0] (0, 0) _ rfl hd2 Try.underlying27 rfl sizeEx) rfl ?_
      have hE := HE.out
      exact exq_of t 0 [] [] _ _ _ ⟨_, _, _, rfl⟩ ⟨_, _, _, rfl⟩ ⟨_, _, _, rfl⟩ (by rw [hE]; exact hd1) (fun y hy => by rw [hE] at hy; cases hy)

end Go.Proofs.Ytcokihblicgbpaa
