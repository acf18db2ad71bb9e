/-
  The document's own reader of modules: a match, the function of that name answering as it should.
-/
import Derived.Test.YtcokihblicgbpaaRef6FormBZ
namespace Go.Proofs.Ytcokihblicgbpaa
open Go.RowKit

theorem FS.laid {rb : Nat} {m : List UInt8} {w : World} {H : Nat} {tc ec : Array Value} {st : Option (Nat × Nat)} {u : World} (h : FS rb m w H tc st ec u) (hrb : rb < w.heap.size) (e2 : Array Value) : RQ rb m st w (u.setRow (H + 2) e2) ∧ (u.setRow (H + 2) e2).heap[H + 2]? = some (.cells e2 27 (0, 0)) ∧ (∀ b, b ≠ H + 2 → (u.setRow (H + 2) e2).heap[b]? = u.heap[b]?) ∧ (u.setRow (H + 2) e2).heap.size = u.heap.size := by
  have h0 := h.lo
  have hb : ∀ b, b ≠ H + 2 → (u.setRow (H + 2) e2).heap[b]? = u.heap[b]? := fun b hb => by
    simp only [World.setRow]
    rw [Array.getElem?_modify, if_neg (fun e => hb e.symm)]
  have hs : (u.setRow (H + 2) e2).heap.size = u.heap.size := by simp [World.setRow]
  refine ⟨⟨⟨(hb rb (by omega)).trans h.rq.1.1, h.rq.1.2⟩, h.rq.2.os, h.rq.2.tape, h.rq.2.output, by rw [hs]; exact h.rq.2.size, fun k hk hn => (hb k (by omega)).trans (h.rq.2.block k hk hn)⟩, ?_, hb, hs⟩
  simp only [World.setRow]
  rw [Array.getElem?_modify, if_pos rfl, h.rs]
  rfl
def MtAll (m : List UInt8) (t : Tr) : Prop := ∀ (F : Nat → Prop) (rb : Nat) (kv : Value) (w : World), RI w rb m none → TL F w kv t.kids → (∀ g, F g → g < w.heap.size ∧ g ≠ rb) → Calls Try.prog 68 #[.pointer (some ⟨rb, 0, none⟩), trv t kv, .agg #[.int .i64 0, .int .i64 (t.place : Int), .string ⟨#[]⟩, .complex .f64 0 0, .string ⟨#[]⟩, .string ⟨#[]⟩, .slice none 0 0, .slice none 0 0, .slice none 0 0]] w (ExQ rb m (exprP m t) w)
set_option maxHeartbeats 4000000 in
set_option maxRecDepth 1000000 in
theorem r6match (m : List UInt8) (t : Tr) (hp : 0 < t.kids.length) (hh : (kid t 0).text = matchK) (hM : MtAll m t) : FmAll m t := by
  intro F rb kv w hRI hT hF
  have hlt := hRI.lt
  obtain ⟨g, kc, kv0, e0, hg, _, _, _, _, _⟩ := hT.at 0 hp
  subst e0
  have hcap := hT.cap
  have hTU : ∀ u, Kept (fun k => k = rb) w u → TL F u (.slice (some ⟨g, 0, none⟩) t.kids.length kc) t.kids := fun u hu => hT.frame fun g hg => ⟨hg, hu.block g (hF g hg).1 (hF g hg).2⟩
  have HH := hidden hh
  clear hh
  unfold trv
  by_cases hkc : kc = 1
  · subst hkc
    have hf0 := FS.start rb m none w #[.int .i64 (t.kind : Int), .int .i64 (t.place : Int), .string (str t.text), .slice (some ⟨g, 0, none⟩) t.kids.length 1] #[.int .i64 0, .int .i64 (t.place : Int), .string ⟨#[]⟩, .complex .f64 0 0, .string ⟨#[]⟩, .string ⟨#[]⟩, .slice none 0 0, .slice none 0 0, .slice none 0 0] hRI
    obtain ⟨g', cap', kv0, e0, _, hT0, a0, a1, a2, a3⟩ := (hTU _ hf0.rq.2).at 0 hp
    simp only [Value.slice.injEq, Option.some.injEq, Addr.mk.injEq, true_and, and_true] at e0
    obtain ⟨rfl, rfl⟩ := e0
    rw [kid_get (t := t) hp, HH.out] at a2
    simp only [Nat.zero_mul, Nat.zero_add] at a2
    have a2' : (((w.alloc (.cells #[.int .i64 (t.kind : Int), .int .i64 (t.place : Int), .string (str t.text), .slice (some ⟨g, 0, none⟩) t.kids.length 1] 43)).alloc (.cells #[.int .i64 0, .int .i64 (t.place : Int), .string ⟨#[]⟩, .complex .f64 0 0, .string ⟨#[]⟩, .string ⟨#[]⟩, .slice none 0 0, .slice none 0 0, .slice none 0 0] 27)).alloc (.cells #[.int .i64 0, .int .i64 0, .string ⟨#[]⟩, .complex .f64 0 0, .string ⟨#[]⟩, .string ⟨#[]⟩, .slice none 0 0, .slice none 0 0, .slice none 0 0] 27)).cell? ⟨g, 2, none⟩ = some (.string ⟨#[109, 97, 116, 99, 104]⟩) := a2
    obtain ⟨t0, t1, t2, t3⟩ := tree_cells hf0.tb
    clear a0 a1 a3 hT0 a2
    have hlp : (0 : Int) < (t.kids.length : Int) := by omega
    have hfm := hM F rb _ _ hf0.rq.1 (hTU _ hf0.rq.2) (fun b hb => ⟨Nat.lt_of_lt_of_le (hF b hb).1 hf0.rq.2.size, (hF b hb).2⟩)
    unfold trv at hfm
    have hl3 := hf0.lt
    go_enter Try.func53, Try.ntmps53
    go_wp2_with fail
    generalize (((w.alloc (.cells #[.int .i64 (t.kind : Int), .int .i64 (t.place : Int), .string (str t.text), .slice (some ⟨g, 0, none⟩) t.kids.length 1] 43)).alloc (.cells #[.int .i64 0, .int .i64 (t.place : Int), .string ⟨#[]⟩, .complex .f64 0 0, .string ⟨#[]⟩, .string ⟨#[]⟩, .slice none 0 0, .slice none 0 0, .slice none 0 0] 27)).alloc (.cells #[.int .i64 0, .int .i64 0, .string ⟨#[]⟩, .complex .f64 0 0, .string ⟨#[]⟩, .string ⟨#[]⟩, .slice none 0 0, .slice none 0 0, .slice none 0 0] 27)) = u0 at *
    refine hfm.mono ?_
    rintro e w4 ⟨x, kv1, pv1, av1, rfl, ⟨k1, k2, k3, rfl⟩, ⟨p1, p2, p3, rfl⟩, ⟨q1, q2, q3, rfl⟩, hq, hx⟩
    have hf4 := hf0.call hlt hq
    have hrs := hf4.rs
    obtain ⟨hd1, hd2, hd3, hd4⟩ := hf4.laid hlt #[.int .i64 (x.kind : Int), .int .i64 (x.place : Int), .string (str x.name), .complex .f64 (floatOfInt .f64 x.re) (floatOfInt .f64 x.im), .string (str x.text), .string (str x.ty), .slice k1 k2 k3, .slice p1 p2 p3, .slice q1 q2 q3]
    unfold exv
    clear hfm t0 t1 t2 t3 a2'
    go_wp2_with (refine wpList_store_row rfl 27 (.tmp 6) (.tmp 108) rfl (w.heap.size + 2) #[.int .i64 (x.kind : Int), .int .i64 (x.place : Int), .string (str x.name), .complex .f64 (floatOfInt .f64 x.re) (floatOfInt .f64 x.im), .string (str x.text), .string (str x.ty), .slice k1 k2 k3, .slice p1 p2 p3, .slice q1 q2 q3] rfl rfl 27 #[.int .i64 0, .int .i64 0, .string ⟨#[]⟩, .complex .f64 0 0, .string ⟨#[]⟩, .string ⟨#[]⟩, .slice none 0 0, .slice none 0 0, .slice none 0 0] hrs sizeEx rfl (by first | kernel_rfl | rfl | simp [Value.oneCell']) ?_)
    (try simp only [Exit.inBlock, Exit.then])
    refine bodyPost_ret (res_cell1 rfl _ _ (w.heap.size + 2) 27 #[.int .i64 (x.kind : Int), .int .i64 (x.place : Int), .string (str x.name), .complex .f64 (floatOfInt .f64 x.re) (floatOfInt .f64 x.im), .string (str x.text), .string (str x.ty), .slice k1 k2 k3, .slice p1 p2 p3, .slice q1 q2 q3] (0, 0) _ rfl hd2 Try.underlying27 rfl sizeEx) rfl ?_
    refine ⟨x, .slice k1 k2 k3, .slice p1 p2 p3, .slice q1 q2 q3, rfl, ⟨_, _, _, rfl⟩, ⟨_, _, _, rfl⟩, ⟨_, _, _, rfl⟩, hd1, fun y hy => ?_⟩
    obtain ⟨h5, h6⟩ := hx y hy
    exact ⟨h5, h6.frame fun b hb => ⟨⟨by have := hb.1; omega, by rw [hd4]; exact hb.2⟩, hd3 b (by have := hb.1; omega)⟩⟩

  · have hf0 := FS.start rb m none w #[.int .i64 (t.kind : Int), .int .i64 (t.place : Int), .string (str t.text), .slice (some ⟨g, 0, none⟩) t.kids.length kc] #[.int .i64 0, .int .i64 (t.place : Int), .string ⟨#[]⟩, .complex .f64 0 0, .string ⟨#[]⟩, .string ⟨#[]⟩, .slice none 0 0, .slice none 0 0, .slice none 0 0] hRI
    obtain ⟨g', cap', kv0, e0, _, hT0, a0, a1, a2, a3⟩ := (hTU _ hf0.rq.2).at 0 hp
    simp only [Value.slice.injEq, Option.some.injEq, Addr.mk.injEq, true_and, and_true] at e0
    obtain ⟨rfl, rfl⟩ := e0
    rw [kid_get (t := t) hp, HH.out] at a2
    simp only [Nat.zero_mul, Nat.zero_add] at a2
    have a2' : (((w.alloc (.cells #[.int .i64 (t.kind : Int), .int .i64 (t.place : Int), .string (str t.text), .slice (some ⟨g, 0, none⟩) t.kids.length kc] 43)).alloc (.cells #[.int .i64 0, .int .i64 (t.place : Int), .string ⟨#[]⟩, .complex .f64 0 0, .string ⟨#[]⟩, .string ⟨#[]⟩, .slice none 0 0, .slice none 0 0, .slice none 0 0] 27)).alloc (.cells #[.int .i64 0, .int .i64 0, .string ⟨#[]⟩, .complex .f64 0 0, .string ⟨#[]⟩, .string ⟨#[]⟩, .slice none 0 0, .slice none 0 0, .slice none 0 0] 27)).cell? ⟨g, 2, none⟩ = some (.string ⟨#[109, 97, 116, 99, 104]⟩) := a2
    obtain ⟨t0, t1, t2, t3⟩ := tree_cells hf0.tb
    clear a0 a1 a3 hT0 a2
    have hlp : (0 : Int) < (t.kids.length : Int) := by omega
    have hfm := hM F rb _ _ hf0.rq.1 (hTU _ hf0.rq.2) (fun b hb => ⟨Nat.lt_of_lt_of_le (hF b hb).1 hf0.rq.2.size, (hF b hb).2⟩)
    unfold trv at hfm
    have hl3 := hf0.lt
    go_enter Try.func53, Try.ntmps53
    go_wp2_with fail
    generalize (((w.alloc (.cells #[.int .i64 (t.kind : Int), .int .i64 (t.place : Int), .string (str t.text), .slice (some ⟨g, 0, none⟩) t.kids.length kc] 43)).alloc (.cells #[.int .i64 0, .int .i64 (t.place : Int), .string ⟨#[]⟩, .complex .f64 0 0, .string ⟨#[]⟩, .string ⟨#[]⟩, .slice none 0 0, .slice none 0 0, .slice none 0 0] 27)).alloc (.cells #[.int .i64 0, .int .i64 0, .string ⟨#[]⟩, .complex .f64 0 0, .string ⟨#[]⟩, .string ⟨#[]⟩, .slice none 0 0, .slice none 0 0, .slice none 0 0] 27)) = u0 at *
    refine hfm.mono ?_
    rintro e w4 ⟨x, kv1, pv1, av1, rfl, ⟨k1, k2, k3, rfl⟩, ⟨p1, p2, p3, rfl⟩, ⟨q1, q2, q3, rfl⟩, hq, hx⟩
    have hf4 := hf0.call hlt hq
    have hrs := hf4.rs
    obtain ⟨hd1, hd2, hd3, hd4⟩ := hf4.laid hlt #[.int .i64 (x.kind : Int), .int .i64 (x.place : Int), .string (str x.name), .complex .f64 (floatOfInt .f64 x.re) (floatOfInt .f64 x.im), .string (str x.text), .string (str x.ty), .slice k1 k2 k3, .slice p1 p2 p3, .slice q1 q2 q3]
    unfold exv
    clear hfm t0 t1 t2 t3 a2'
    go_wp2_with (refine wpList_store_row rfl 27 (.tmp 6) (.tmp 108) rfl (w.heap.size + 2) #[.int .i64 (x.kind : Int), .int .i64 (x.place : Int), .string (str x.name), .complex .f64 (floatOfInt .f64 x.re) (floatOfInt .f64 x.im), .string (str x.text), .string (str x.ty), .slice k1 k2 k3, .slice p1 p2 p3, .slice q1 q2 q3] rfl rfl 27 #[.int .i64 0, .int .i64 0, .string ⟨#[]⟩, .complex .f64 0 0, .string ⟨#[]⟩, .string ⟨#[]⟩, .slice none 0 0, .slice none 0 0, .slice none 0 0] hrs sizeEx rfl (by first | kernel_rfl | rfl | simp [Value.oneCell']) ?_)
    (try simp only [Exit.inBlock, Exit.then])
    refine bodyPost_ret (res_cell1 rfl _ _ (w.heap.size + 2) 27 #[.int .i64 (x.kind : Int), .int .i64 (x.place : Int), .string (str x.name), .complex .f64 (floatOfInt .f64 x.re) (floatOfInt .f64 x.im), .string (str x.text), .string (str x.ty), .slice k1 k2 k3, .slice p1 p2 p3, .slice q1 q2 q3] (0, 0) _ rfl hd2 Try.underlying27 rfl sizeEx) rfl ?_
    refine ⟨x, .slice k1 k2 k3, .slice p1 p2 p3, .slice q1 q2 q3, rfl, ⟨_, _, _, rfl⟩, ⟨_, _, _, rfl⟩, ⟨_, _, _, rfl⟩, hd1, fun y hy => ?_⟩
    obtain ⟨h5, h6⟩ := hx y hy
    exact ⟨h5, h6.frame fun b hb => ⟨⟨by have := hb.1; omega, by rw [hd4]; exact hb.2⟩, hd3 b (by have := hb.1; omega)⟩⟩

/-- An arm, whole (then it can be read), or one that was refused. -/
def cArm : Cel (((List UInt8 × List (List UInt8)) × Ex) × Bool) := fun F w x c => ∃ vv kv pv av, c = .string (str x.1.1.1) :: vv :: exc x.1.2 kv pv av ∧ (∃ a n c, vv = .slice a n c) ∧ (∃ a n c, kv = .slice a n c) ∧ (∃ a n c, pv = .slice a n c) ∧ (∃ a n c, av = .slice a n c) ∧ (x.2 = true → TxR F w vv x.1.1.2 ∧ XI F w kv pv av x.1.2)
theorem cArm_ok : CelOk 11 cArm where
  frame := fun hF h => by
    obtain ⟨vv, kv, pv, av, h1, h0, h2, h3, h4, h5⟩ := h
    exact ⟨vv, kv, pv, av, h1, h0, h2, h3, h4, fun e => ⟨(h5 e).1.frame hF, (h5 e).2.frame hF⟩⟩
  len := fun h => by
    obtain ⟨vv, kv, pv, av, rfl, _⟩ := h
    rfl
  one := fun h u hu => by
    obtain ⟨vv, kv, pv, av, rfl, ⟨a0, n0, c0, rfl⟩, ⟨a1, n1, c1, rfl⟩, ⟨a2, n2, c2, rfl⟩, ⟨a3, n3, c3, rfl⟩, _⟩ := h
    simp only [exc, List.mem_cons, List.not_mem_nil, or_false] at hu
    rcases hu with rfl | rfl | rfl | rfl | rfl | rfl | rfl | rfl | rfl | rfl | rfl <;> rfl
theorem infoArm : (Try.prog.info? 73).map (fun i => (i.zero.map (fun z => z.cells.size), i.size, i.bytes)) = some (some 11, 11, 192) := by kernel_rfl
theorem arm_row {B : Nat} {w : World} {v : Value} {xs : List (((List UInt8 × List (List UInt8)) × Ex) × Bool)} (h : RowG cArm 73 11 B w v xs) (hg : ∀ p ∈ xs, p.2 = true) : XA (fun g => B ≤ g ∧ g < w.heap.size) w v ((xs.map (·.1)).map (·.1)) ((xs.map (·.1)).map (·.2)) := by
  refine ⟨by simp, ?_⟩
  obtain ⟨a, c, rfl⟩ := h.shape
  rcases Nat.eq_zero_or_pos xs.length with h0 | hp
  · have := List.eq_nil_of_length_eq_zero h0
    subst this
    exact .inl ⟨_, _, rfl, rfl⟩
  · obtain ⟨g, cap, c0, e1, _, hg0, _, _⟩ := h.at cArm_ok 0 hp
    simp only [Value.slice.injEq, true_and] at e1
    obtain ⟨rfl, rfl⟩ := e1
    refine .inr ⟨g, 0, c, by simp, hg0, fun j hj => ?_⟩
    have hjl : j < xs.length := by simpa using hj
    obtain ⟨g2, cap2, c2, e2, _, _, hc, hcell⟩ := h.at cArm_ok j hjl
    simp only [Value.slice.injEq, Option.some.injEq, Addr.mk.injEq, and_true, true_and] at e2
    obtain ⟨rfl, rfl⟩ := e2
    obtain ⟨vv, kv, pv, av, rfl, _, _, _, _, hX⟩ := hc
    have hgj := hX (hg _ (List.getElem_mem hjl))
    have ha : ((xs.map (·.1)).map (·.1)).getD j ([], []) = xs[j].1.1 := by simp [hjl]
    rw [ha]
    simp only [List.getElem_map]
    refine ⟨vv, kv, pv, av, hgj.2, hgj.1, fun i u hi => ?_⟩
    rw [Nat.zero_add]
    exact hcell i u hi
/-- Names one behind the other: all are asked, the first refusal stays. -/
theorem names_fold (l : List Tr) : ∀ (st : Option (Nat × Nat)), l.foldl (fun s k => orR s (nameP k)) st = orR st (seqP (l.map nameP)) := by
  induction l with
  | nil => intro st; cases st <;> rfl
  | cons a r ih =>
    intro st
    rw [List.foldl_cons, ih]
    cases st with
    | some e => rfl
    | none =>
      rw [List.map_cons]
      cases h : nameP a with
      | error e => rfl
      | ok x =>
        rw [seqP]
        cases seqP (r.map nameP) <;> rfl
theorem names_ok (l : List Tr) : ∀ vs, seqP (l.map nameP) = .ok vs → vs = l.map (·.text) := by
  induction l with
  | nil =>
    intro vs h
    cases h
    rfl
  | cons a r ih =>
    intro vs h
    rw [List.map_cons] at h
    cases hn : nameP a with
    | error e => rw [hn] at h; cases h
    | ok x =>
      rw [hn, seqP] at h
      cases hs : seqP (r.map nameP) with
      | error e => rw [hs] at h; cases h
      | ok l2 =>
        rw [hs] at h
        cases h
        have hx : x = a.text := by
          unfold nameP at hn
          by_cases hc : valueR a.text = true ∧ isKey a.text = false
          · rw [if_pos hc] at hn
            cases hn
            rfl
          · rw [if_neg hc] at hn
            cases hn
        rw [hx, ih l2 hs]
        rfl
end Go.Proofs.Ytcokihblicgbpaa
