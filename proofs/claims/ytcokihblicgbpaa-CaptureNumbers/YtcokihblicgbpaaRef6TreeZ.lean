/-
  The document's own reader of modules: an expression in brackets, its form being read as it should.
-/
import Derived.Test.YtcokihblicgbpaaRef6ExprZ
namespace Go.Proofs.Ytcokihblicgbpaa
open Go.RowKit

theorem FE.laid {rb : Nat} {m : List UInt8} {w : World} {H : Nat} {tc ec : Array Value} {st : Option (Nat × Nat)} {u : World} (h : FE rb m w H tc st ec u) (hrb : rb < w.heap.size) (e2 : Array Value) : RQ rb m st w (u.setRow (H + 1) e2) ∧ (u.setRow (H + 1) e2).heap[H + 1]? = some (.cells e2 27 (0, 0)) ∧ (∀ b, b ≠ H + 1 → (u.setRow (H + 1) e2).heap[b]? = u.heap[b]?) ∧ (u.setRow (H + 1) e2).heap.size = u.heap.size := by
  have h0 := h.lo
  have hb : ∀ b, b ≠ H + 1 → (u.setRow (H + 1) e2).heap[b]? = u.heap[b]? := fun b hb => by
    simp only [World.setRow]
    rw [Array.getElem?_modify, if_neg (fun e => hb e.symm)]
  have hs : (u.setRow (H + 1) e2).heap.size = u.heap.size := by simp [World.setRow]
  refine ⟨⟨⟨(hb rb (by omega)).trans h.rq.1.1, h.rq.1.2⟩, h.rq.2.os, h.rq.2.tape, h.rq.2.output, by rw [hs]; exact h.rq.2.size, fun k hk hn => (hb k (by omega)).trans (h.rq.2.block k hk hn)⟩, ?_, hb, hs⟩
  simp only [World.setRow]
  rw [Array.getElem?_modify, if_pos rfl, h.rs]
  rfl
set_option maxHeartbeats 4000000 in
set_option maxRecDepth 1000000 in
theorem r6tree (m : List UInt8) (t : Tr) (h4 : t.kind ≠ 4) (h3 : t.kind ≠ 3) (hform : t.kind = 1 → 0 < t.kids.length → (kid t 0).kind = 3 → FmAll m t) : ExAll m t := by
  intro F rb kv w hRI hT hF
  have hlt := hRI.lt
  obtain ⟨ka, kc, rfl⟩ := hT.shape
  have hfz := FE.start rb m none w #[.int .i64 (t.kind : Int), .int .i64 (t.place : Int), .string (str t.text), .slice ka t.kids.length kc] #[.int .i64 0, .int .i64 0, .string ⟨#[]⟩, .complex .f64 0 0, .string ⟨#[]⟩, .string ⟨#[]⟩, .slice none 0 0, .slice none 0 0, .slice none 0 0] hRI
  have hze := hfz.eb
  have hf0 := hfz.row hlt #[.int .i64 0, .int .i64 (t.place : Int), .string ⟨#[]⟩, .complex .f64 0 0, .string ⟨#[]⟩, .string ⟨#[]⟩, .slice none 0 0, .slice none 0 0, .slice none 0 0]
  have hadd : w.heap.size + 1 + 1 = w.heap.size + 2 := rfl
  unfold trv
  have hTU : ∀ u, Kept (fun k => k = rb) w u → TL F u (.slice ka t.kids.length kc) t.kids := fun u hu => hT.frame fun g hg => ⟨hg, hu.block g (hF g hg).1 (hF g hg).2⟩
  have HP : Hid (t.kind ≠ 1 ∨ t.kids.length = 0 ∨ (kid t 0).kind ≠ 3 → exprP m t = .error (12, t.place)) := fun hc => by rw [exprP_eq, formP, if_neg h4, if_neg h3, if_pos hc]
  have HFm := hidden hform
  have k4 : ((t.kind : Int) == 4) = false := by rw [beq_eq_false_iff_ne]; omega
  have hat := r6atom t (.slice ka t.kids.length kc) ((((w.alloc (.cells #[.int .i64 (t.kind : Int), .int .i64 (t.place : Int), .string (str t.text), .slice ka t.kids.length kc] 43)).alloc (.cells #[.int .i64 0, .int .i64 0, .string ⟨#[]⟩, .complex .f64 0 0, .string ⟨#[]⟩, .string ⟨#[]⟩, .slice none 0 0, .slice none 0 0, .slice none 0 0] 27)).alloc (.cells #[.int .i64 0, .int .i64 0, .string ⟨#[]⟩, .complex .f64 0 0, .string ⟨#[]⟩, .string ⟨#[]⟩, .slice none 0 0, .slice none 0 0, .slice none 0 0] 27)).setRow (w.heap.size + 2) #[.int .i64 0, .int .i64 (t.place : Int), .string ⟨#[]⟩, .complex .f64 0 0, .string ⟨#[]⟩, .string ⟨#[]⟩, .slice none 0 0, .slice none 0 0, .slice none 0 0])
  rw [decide_eq_false h3] at hat
  unfold trv at hat
  obtain ⟨t0, t1, t2, t3⟩ := tree_cells hf0.tb
  obtain ⟨⟨y0, y1, y2, y3, y4, y5, y6, y7, y8⟩, yf⟩ := nine9 hf0.eb
  clear h4 h3 hform hT
  go_enter Try.func36, Try.ntmps36
  go_wp2_with (refine wpList_store_row rfl 27 (.tmp 5) (.tmp 10) rfl (w.heap.size + 2) #[.int .i64 0, .int .i64 (t.place : Int), .string ⟨#[]⟩, .complex .f64 0 0, .string ⟨#[]⟩, .string ⟨#[]⟩, .slice none 0 0, .slice none 0 0, .slice none 0 0] rfl rfl 27 #[.int .i64 0, .int .i64 0, .string ⟨#[]⟩, .complex .f64 0 0, .string ⟨#[]⟩, .string ⟨#[]⟩, .slice none 0 0, .slice none 0 0, .slice none 0 0] hze sizeEx rfl (by first | kernel_rfl | rfl | simp [Value.oneCell']) ?_)
  generalize ((((w.alloc (.cells #[.int .i64 (t.kind : Int), .int .i64 (t.place : Int), .string (str t.text), .slice ka t.kids.length kc] 43)).alloc (.cells #[.int .i64 0, .int .i64 0, .string ⟨#[]⟩, .complex .f64 0 0, .string ⟨#[]⟩, .string ⟨#[]⟩, .slice none 0 0, .slice none 0 0, .slice none 0 0] 27)).alloc (.cells #[.int .i64 0, .int .i64 0, .string ⟨#[]⟩, .complex .f64 0 0, .string ⟨#[]⟩, .string ⟨#[]⟩, .slice none 0 0, .slice none 0 0, .slice none 0 0] 27)).setRow (w.heap.size + 2) #[.int .i64 0, .int .i64 (t.place : Int), .string ⟨#[]⟩, .complex .f64 0 0, .string ⟨#[]⟩, .string ⟨#[]⟩, .slice none 0 0, .slice none 0 0, .slice none 0 0]) = u0 at *
  refine hat.mono ?_
  rintro e w1 ⟨rfl, hb⟩
  have hf1 := hf0.more hlt hb
  clear hat hb
  clear t0 t1 t2 t3 y0 y1 y2 y3 y4 y5 y6 y7 y8 yf
  obtain ⟨t0, t1, t2, t3⟩ := tree_cells hf1.tb
  obtain ⟨⟨y0, y1, y2, y3, y4, y5, y6, y7, y8⟩, yf⟩ := nine9 hf1.eb
  have hop := r6open t (.slice ka t.kids.length kc) w1
  unfold trv at hop
  go_wp2_with fail
  refine hop.mono ?_
  rintro e w2 ⟨rfl, hb⟩
  have hf2 := hf1.more hlt hb
  clear hop hb
  clear t0 t1 t2 t3 y0 y1 y2 y3 y4 y5 y6 y7 y8 yf
  obtain ⟨t0, t1, t2, t3⟩ := tree_cells hf2.tb
  obtain ⟨⟨y0, y1, y2, y3, y4, y5, y6, y7, y8⟩, yf⟩ := nine9 hf2.eb
  cases hd : decide (t.kind = 1)
  · have HE : Hid (exprP m t = .error (12, t.place)) := HP.out (.inl (of_decide_eq_false hd))
    clear HP HFm hd
    have hr := r6refuse rb m none 12 t.place _ hf2.rq.1 (by decide)
    go_wp2_with fail
    refine hr.mono ?_
    rintro e w3 ⟨rfl, hq⟩
    have hfr := hf2.call hlt hq
    clear hr hq t0 t1 t2 t3 y0 y1 y2 y3 y4 y5 y6 y7 y8 yf
    obtain ⟨⟨e0, e1, e2, e3, e4, e5, e6, e7, e8⟩, ef⟩ := nine9 hfr.eb
    obtain ⟨hd1, hd2, hd3, hd4⟩ := hfr.done hlt
    have hrs := hfr.rs
    go_wp2_with (refine wpList_store_row rfl 27 (.tmp 4) (.tmp 71) rfl (w.heap.size + 1) #[.int .i64 0, .int .i64 (t.place : Int), .string ⟨#[]⟩, .complex .f64 0 0, .string ⟨#[]⟩, .string ⟨#[]⟩, .slice none 0 0, .slice none 0 0, .slice none 0 0] rfl rfl 27 #[.int .i64 0, .int .i64 0, .string ⟨#[]⟩, .complex .f64 0 0, .string ⟨#[]⟩, .string ⟨#[]⟩, .slice none 0 0, .slice none 0 0, .slice none 0 0] hrs sizeEx rfl (by first | kernel_rfl | rfl | simp [Value.oneCell']) ?_)
    (try simp only [Exit.inBlock, Exit.then])
    refine bodyPost_ret (res_cell1 rfl _ _ (w.heap.size + 1) 27 #[.int .i64 0, .int .i64 (t.place : Int), .string ⟨#[]⟩, .complex .f64 0 0, .string ⟨#[]⟩, .string ⟨#[]⟩, .slice none 0 0, .slice none 0 0, .slice none 0 0] (0, 0) _ rfl hd2 Try.underlying27 rfl sizeEx) rfl ?_
    have hE := HE.out
    exact exq_of t 0 [] [] _ _ _ ⟨_, _, _, rfl⟩ ⟨_, _, _, rfl⟩ ⟨_, _, _, rfl⟩ (by rw [hE]; exact hd1) (fun y hy => by rw [hE] at hy; cases hy)

  · have hk1 := hidden (of_decide_eq_true hd)
    clear hd
    by_cases hz : t.kids.length = 0
    · have HE : Hid (exprP m t = .error (12, t.place)) := HP.out (.inr (.inl hz))
      have hzi : ((t.kids.length : Int) == 0) = true := by rw [beq_iff_eq]; omega
      have HZ := hidden hz
      clear HP HFm hz
      have hr := r6refuse rb m none 12 t.place _ hf2.rq.1 (by decide)
      go_wp2_with fail
      refine hr.mono ?_
      rintro e w3 ⟨rfl, hq⟩
      have hfr := hf2.call hlt hq
      clear hr hq t0 t1 t2 t3 y0 y1 y2 y3 y4 y5 y6 y7 y8 yf
      obtain ⟨⟨e0, e1, e2, e3, e4, e5, e6, e7, e8⟩, ef⟩ := nine9 hfr.eb
      obtain ⟨hd1, hd2, hd3, hd4⟩ := hfr.done hlt
      have hrs := hfr.rs
      go_wp2_with (refine wpList_store_row rfl 27 (.tmp 4) (.tmp 71) rfl (w.heap.size + 1) #[.int .i64 0, .int .i64 (t.place : Int), .string ⟨#[]⟩, .complex .f64 0 0, .string ⟨#[]⟩, .string ⟨#[]⟩, .slice none 0 0, .slice none 0 0, .slice none 0 0] rfl rfl 27 #[.int .i64 0, .int .i64 0, .string ⟨#[]⟩, .complex .f64 0 0, .string ⟨#[]⟩, .string ⟨#[]⟩, .slice none 0 0, .slice none 0 0, .slice none 0 0] hrs sizeEx rfl (by first | kernel_rfl | rfl | simp [Value.oneCell']) ?_)
      (try simp only [Exit.inBlock, Exit.then])
      refine bodyPost_ret (res_cell1 rfl _ _ (w.heap.size + 1) 27 #[.int .i64 0, .int .i64 (t.place : Int), .string ⟨#[]⟩, .complex .f64 0 0, .string ⟨#[]⟩, .string ⟨#[]⟩, .slice none 0 0, .slice none 0 0, .slice none 0 0] (0, 0) _ rfl hd2 Try.underlying27 rfl sizeEx) rfl ?_
      have hE := HE.out
      exact exq_of t 0 [] [] _ _ _ ⟨_, _, _, rfl⟩ ⟨_, _, _, rfl⟩ ⟨_, _, _, rfl⟩ (by rw [hE]; exact hd1) (fun y hy => by rw [hE] at hy; cases hy)

    · have hp : 0 < t.kids.length := by omega
      have hzi : ((t.kids.length : Int) == 0) = false := by rw [beq_eq_false_iff_ne]; omega
      have hlp : (0 : Int) < (t.kids.length : Int) := by omega
      obtain ⟨g, cx, kx, ee, _, bT, b0, b1, b2, b3⟩ := (hTU _ hf2.rq.2).at 0 hp
      simp only [Value.slice.injEq, true_and] at ee
      obtain ⟨rfl, rfl⟩ := ee
      rw [kid_get (t := t) hp] at b0 b1 b2 bT
      simp only [Nat.zero_mul, Nat.zero_add] at b0 b1 b2 b3
      obtain ⟨ba, bc, rfl⟩ := bT.shape
      have ha0 := r6atom (kid t 0) (.slice ba (kid t 0).kids.length bc) w2
      unfold trv at ha0
      clear bT hz
      go_wp2_with fail
      refine ha0.mono ?_
      rintro e w3 ⟨rfl, hb⟩
      have hf3 := hf2.more hlt hb
      clear ha0 hb b0 b1 b2 b3
      clear t0 t1 t2 t3 y0 y1 y2 y3 y4 y5 y6 y7 y8 yf
      obtain ⟨t0, t1, t2, t3⟩ := tree_cells hf3.tb
      obtain ⟨⟨y0, y1, y2, y3, y4, y5, y6, y7, y8⟩, yf⟩ := nine9 hf3.eb
      cases hd : decide ((kid t 0).kind = 3)
      · have HE : Hid (exprP m t = .error (12, t.place)) := HP.out (.inr (.inr (of_decide_eq_false hd)))
        clear HP HFm hd
        have hr := r6refuse rb m none 12 t.place _ hf3.rq.1 (by decide)
        go_wp2_with fail
        refine hr.mono ?_
        rintro e w4 ⟨rfl, hq⟩
        have hfr := hf3.call hlt hq
        clear hr hq t0 t1 t2 t3 y0 y1 y2 y3 y4 y5 y6 y7 y8 yf
        obtain ⟨⟨e0, e1, e2, e3, e4, e5, e6, e7, e8⟩, ef⟩ := nine9 hfr.eb
        obtain ⟨hd1, hd2, hd3, hd4⟩ := hfr.done hlt
        have hrs := hfr.rs
        go_wp2_with (refine wpList_store_row rfl 27 (.tmp 4) (.tmp 71) rfl (w.heap.size + 1) #[.int .i64 0, .int .i64 (t.place : Int), .string ⟨#[]⟩, .complex .f64 0 0, .string ⟨#[]⟩, .string ⟨#[]⟩, .slice none 0 0, .slice none 0 0, .slice none 0 0] rfl rfl 27 #[.int .i64 0, .int .i64 0, .string ⟨#[]⟩, .complex .f64 0 0, .string ⟨#[]⟩, .string ⟨#[]⟩, .slice none 0 0, .slice none 0 0, .slice none 0 0] hrs sizeEx rfl (by first | kernel_rfl | rfl | simp [Value.oneCell']) ?_)
        (try simp only [Exit.inBlock, Exit.then])
        refine bodyPost_ret (res_cell1 rfl _ _ (w.heap.size + 1) 27 #[.int .i64 0, .int .i64 (t.place : Int), .string ⟨#[]⟩, .complex .f64 0 0, .string ⟨#[]⟩, .string ⟨#[]⟩, .slice none 0 0, .slice none 0 0, .slice none 0 0] (0, 0) _ rfl hd2 Try.underlying27 rfl sizeEx) rfl ?_
        have hE := HE.out
        exact exq_of t 0 [] [] _ _ _ ⟨_, _, _, rfl⟩ ⟨_, _, _, rfl⟩ ⟨_, _, _, rfl⟩ (by rw [hE]; exact hd1) (fun y hy => by rw [hE] at hy; cases hy)

      · have hfm := HFm.out hk1.out hp (of_decide_eq_true hd) F rb _ w3 hf3.rq.1 (hTU _ hf3.rq.2) (fun b hb => ⟨Nat.lt_of_lt_of_le (hF b hb).1 hf3.rq.2.size, (hF b hb).2⟩)
        unfold trv at hfm
        have hl3 := hf3.lt
        clear HP HFm hd hk1
        go_wp2_with fail
        refine hfm.mono ?_
        rintro e w4 ⟨x, kv1, pv1, av1, rfl, ⟨k1, k2, k3, rfl⟩, ⟨p1, p2, p3, rfl⟩, ⟨q1, q2, q3, rfl⟩, hq, hx⟩
        have hf4 := hf3.call hlt hq
        have hrs := hf4.rs
        obtain ⟨hd1, hd2, hd3, hd4⟩ := hf4.laid hlt #[.int .i64 (x.kind : Int), .int .i64 (x.place : Int), .string (str x.name), .complex .f64 (floatOfInt .f64 x.re) (floatOfInt .f64 x.im), .string (str x.text), .string (str x.ty), .slice k1 k2 k3, .slice p1 p2 p3, .slice q1 q2 q3]
        unfold exv
        clear hfm t0 t1 t2 t3 y0 y1 y2 y3 y4 y5 y6 y7 y8 yf
        go_wp2_with (refine wpList_store_row rfl 27 (.tmp 4) (.tmp 75) rfl (w.heap.size + 1) #[.int .i64 (x.kind : Int), .int .i64 (x.place : Int), .string (str x.name), .complex .f64 (floatOfInt .f64 x.re) (floatOfInt .f64 x.im), .string (str x.text), .string (str x.ty), .slice k1 k2 k3, .slice p1 p2 p3, .slice q1 q2 q3] rfl rfl 27 #[.int .i64 0, .int .i64 0, .string ⟨#[]⟩, .complex .f64 0 0, .string ⟨#[]⟩, .string ⟨#[]⟩, .slice none 0 0, .slice none 0 0, .slice none 0 0] hrs sizeEx rfl (by first | kernel_rfl | rfl | simp [Value.oneCell']) ?_)
        (try simp only [Exit.inBlock, Exit.then])
        refine bodyPost_ret (res_cell1 rfl _ _ (w.heap.size + 1) 27 #[.int .i64 (x.kind : Int), .int .i64 (x.place : Int), .string (str x.name), .complex .f64 (floatOfInt .f64 x.re) (floatOfInt .f64 x.im), .string (str x.text), .string (str x.ty), .slice k1 k2 k3, .slice p1 p2 p3, .slice q1 q2 q3] (0, 0) _ rfl hd2 Try.underlying27 rfl sizeEx) rfl ?_
        refine ⟨x, .slice k1 k2 k3, .slice p1 p2 p3, .slice q1 q2 q3, rfl, ⟨_, _, _, rfl⟩, ⟨_, _, _, rfl⟩, ⟨_, _, _, rfl⟩, hd1, fun y hy => ?_⟩
        obtain ⟨h5, h6⟩ := hx y hy
        exact ⟨h5, h6.frame fun b hb => ⟨⟨by have := hb.1; omega, by rw [hd4]; exact hb.2⟩, hd3 b (by have := hb.1; omega)⟩⟩
end Go.Proofs.Ytcokihblicgbpaa
