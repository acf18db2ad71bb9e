/-
  The document's own reader of modules: match.
-/
import Derived.Test.YtcokihblicgbpaaRef6FormBZ
import Derived.Deep.LoopGhost
import Derived.Deep.CutBlock
import Derived.Deep.CutRange
import Derived.Deep.DeepCutAuto
import Derived.Test.YtcokihblicgbpaaRef6ArmSZ
namespace Go.Proofs.Ytcokihblicgbpaa
open Go.RowKit

theorem sizeArm : (Try.prog.info? 73).map (·.size) = some 11 := by kernel_rfl
theorem setRow_heap6 (w : World) (g : Nat) (cs old : Array Value) (e : TypeId) (fr : Nat × Nat) (h : w.heap[g]? = some (.cells old e fr)) : (w.setRow g cs).heap[g]? = some (.cells cs e fr) := by
  simp only [World.setRow]
  rw [Array.getElem?_modify, if_pos rfl, h]
  rfl
theorem RQ.row {rb : Nat} {m : List UInt8} {st : Option (Nat × Nat)} {a b : World} (h : RQ rb m st a b) (g : Nat) (cs : Array Value) (hg : a.heap.size ≤ g) (hrb : rb < a.heap.size) : RQ rb m st a (b.setRow g cs) := by
  have hb : ∀ k, k ≠ g → (b.setRow g cs).heap[k]? = b.heap[k]? := fun k hk => by
    simp only [World.setRow]
    rw [Array.getElem?_modify, if_neg (fun e => hk e.symm)]
  have hs : (b.setRow g cs).heap.size = b.heap.size := by simp [World.setRow]
  exact ⟨⟨(hb rb (by omega)).trans h.1.1, h.1.2⟩, h.2.os, h.2.tape, h.2.output, by rw [hs]; exact h.2.size, fun k hk hn => (hb k (by omega)).trans (h.2.block k hk hn)⟩
set_option maxHeartbeats 16000000 in
set_option maxRecDepth 1000000 in
theorem r6mt (m : List UInt8) (t : Tr) (hk1 : t.kind = 1) (hp : 0 < t.kids.length) (hk3 : (kid t 0).kind = 3) (htx : TxOk t) (hh : (kid t 0).text = matchK) (IH : ∀ k : Tr, nodes k < nodes t → TxOk k → ExAll m k) (hnd : nodes t ≤ 8192) : MtAll m t := by
  intro F rb kv w hRI hT hF
  have hkl := kids_lt6 t
  have hlt := hRI.lt
  obtain ⟨g, kc, kv0, e0, hg, _, _, _, _, _⟩ := hT.at 0 hp
  subst e0
  have hcap := hT.cap
  have hTU : ∀ u, Kept (fun k => k = rb) w u → TL F u (.slice (some ⟨g, 0, none⟩) t.kids.length kc) t.kids := fun u hu => hT.frame fun g hg => ⟨hg, hu.block g (hF g hg).1 (hF g hg).2⟩
  have HP := match_is m t hk1 hp hk3 hh
  clear hk1 hk3 hh
  unfold trv
  by_cases h3 : t.kids.length < 3
  · have hi3 : (t.kids.length : Int) < 3 := by omega
    rw [if_pos h3] at HP
    have HE := hidden HP
    clear HP
    have hf0 := FS.start rb m none w #[.int .i64 (t.kind : Int), .int .i64 (t.place : Int), .string (str t.text), .slice (some ⟨g, 0, none⟩) t.kids.length kc] #[.int .i64 0, .int .i64 (t.place : Int), .string ⟨#[]⟩, .complex .f64 0 0, .string ⟨#[]⟩, .string ⟨#[]⟩, .slice none 0 0, .slice none 0 0, .slice none 0 0] hRI
    obtain ⟨t0, t1, t2, t3⟩ := tree_cells hf0.tb
    have hr := r6refuse rb m none 12 t.place _ hf0.rq.1 (by decide)
    go_enter Try.func68, Try.ntmps68
    go_wp2_with fail
    generalize (((w.alloc (.cells #[.int .i64 (t.kind : Int), .int .i64 (t.place : Int), .string (str t.text), .slice (some ⟨g, 0, none⟩) t.kids.length kc] 43)).alloc (.cells #[.int .i64 0, .int .i64 (t.place : Int), .string ⟨#[]⟩, .complex .f64 0 0, .string ⟨#[]⟩, .string ⟨#[]⟩, .slice none 0 0, .slice none 0 0, .slice none 0 0] 27)).alloc (.cells #[.int .i64 0, .int .i64 0, .string ⟨#[]⟩, .complex .f64 0 0, .string ⟨#[]⟩, .string ⟨#[]⟩, .slice none 0 0, .slice none 0 0, .slice none 0 0] 27)) = u0 at *
    refine hr.mono ?_
    rintro e w2 ⟨rfl, hq⟩
    have hf1 := hf0.call hlt hq
    clear hr t0 t1 t2 t3
    obtain ⟨t0, t1, t2, t3⟩ := tree_cells hf1.tb
    obtain ⟨⟨e0, e1, e2, e3, e4, e5, e6, e7, e8⟩, ef⟩ := nine9 hf1.eb
    obtain ⟨hd1, hd2, hd3, hd4⟩ := hf1.done hlt
    have hrs := hf1.rs
    go_wp2_with (refine wpList_store_row rfl 27 (.tmp 6) (.tmp 22) rfl (w.heap.size + 2) #[.int .i64 0, .int .i64 (t.place : Int), .string ⟨#[]⟩, .complex .f64 0 0, .string ⟨#[]⟩, .string ⟨#[]⟩, .slice none 0 0, .slice none 0 0, .slice none 0 0] rfl rfl 27 #[.int .i64 0, .int .i64 0, .string ⟨#[]⟩, .complex .f64 0 0, .string ⟨#[]⟩, .string ⟨#[]⟩, .slice none 0 0, .slice none 0 0, .slice none 0 0] hrs sizeEx rfl (by first | kernel_rfl | rfl | simp [Value.oneCell']) ?_)
    (try simp only [Exit.inBlock, Exit.then])
    refine bodyPost_ret (res_cell1 rfl _ _ (w.heap.size + 2) 27 #[.int .i64 0, .int .i64 (t.place : Int), .string ⟨#[]⟩, .complex .f64 0 0, .string ⟨#[]⟩, .string ⟨#[]⟩, .slice none 0 0, .slice none 0 0, .slice none 0 0] (0, 0) _ rfl hd2 Try.underlying27 rfl sizeEx) rfl ?_
    have hE := HE.out
    exact exq_of t 0 [] [] _ _ _ ⟨_, _, _, rfl⟩ ⟨_, _, _, rfl⟩ ⟨_, _, _, rfl⟩ (by rw [hE]; exact hd1) (fun y hy => by rw [hE] at hy; cases hy)

  · have hi3 : ¬ (t.kids.length : Int) < 3 := by omega
    rw [if_neg h3] at HP
    by_cases h6 : 6 < t.kids.length - 2
    · have hi6 : (6 : Int) < (t.kids.length : Int) - 2 := by omega
      rw [if_pos h6] at HP
      have HE := hidden HP
      clear HP
      have hf0 := FS.start rb m none w #[.int .i64 (t.kind : Int), .int .i64 (t.place : Int), .string (str t.text), .slice (some ⟨g, 0, none⟩) t.kids.length kc] #[.int .i64 0, .int .i64 (t.place : Int), .string ⟨#[]⟩, .complex .f64 0 0, .string ⟨#[]⟩, .string ⟨#[]⟩, .slice none 0 0, .slice none 0 0, .slice none 0 0] hRI
      obtain ⟨t0, t1, t2, t3⟩ := tree_cells hf0.tb
      have hr := r6refuse rb m none 19 t.place _ hf0.rq.1 (by decide)
      go_enter Try.func68, Try.ntmps68
      go_wp2_with fail
      generalize (((w.alloc (.cells #[.int .i64 (t.kind : Int), .int .i64 (t.place : Int), .string (str t.text), .slice (some ⟨g, 0, none⟩) t.kids.length kc] 43)).alloc (.cells #[.int .i64 0, .int .i64 (t.place : Int), .string ⟨#[]⟩, .complex .f64 0 0, .string ⟨#[]⟩, .string ⟨#[]⟩, .slice none 0 0, .slice none 0 0, .slice none 0 0] 27)).alloc (.cells #[.int .i64 0, .int .i64 0, .string ⟨#[]⟩, .complex .f64 0 0, .string ⟨#[]⟩, .string ⟨#[]⟩, .slice none 0 0, .slice none 0 0, .slice none 0 0] 27)) = u0 at *
      refine hr.mono ?_
      rintro e w2 ⟨rfl, hq⟩
      have hf1 := hf0.call hlt hq
      clear hr t0 t1 t2 t3
      obtain ⟨t0, t1, t2, t3⟩ := tree_cells hf1.tb
      obtain ⟨⟨e0, e1, e2, e3, e4, e5, e6, e7, e8⟩, ef⟩ := nine9 hf1.eb
      obtain ⟨hd1, hd2, hd3, hd4⟩ := hf1.done hlt
      have hrs := hf1.rs
      go_wp2_with (refine wpList_store_row rfl 27 (.tmp 6) (.tmp 32) rfl (w.heap.size + 2) #[.int .i64 0, .int .i64 (t.place : Int), .string ⟨#[]⟩, .complex .f64 0 0, .string ⟨#[]⟩, .string ⟨#[]⟩, .slice none 0 0, .slice none 0 0, .slice none 0 0] rfl rfl 27 #[.int .i64 0, .int .i64 0, .string ⟨#[]⟩, .complex .f64 0 0, .string ⟨#[]⟩, .string ⟨#[]⟩, .slice none 0 0, .slice none 0 0, .slice none 0 0] hrs sizeEx rfl (by first | kernel_rfl | rfl | simp [Value.oneCell']) ?_)
      (try simp only [Exit.inBlock, Exit.then])
      refine bodyPost_ret (res_cell1 rfl _ _ (w.heap.size + 2) 27 #[.int .i64 0, .int .i64 (t.place : Int), .string ⟨#[]⟩, .complex .f64 0 0, .string ⟨#[]⟩, .string ⟨#[]⟩, .slice none 0 0, .slice none 0 0, .slice none 0 0] (0, 0) _ rfl hd2 Try.underlying27 rfl sizeEx) rfl ?_
      have hE := HE.out
      exact exq_of t 0 [] [] _ _ _ ⟨_, _, _, rfl⟩ ⟨_, _, _, rfl⟩ ⟨_, _, _, rfl⟩ (by rw [hE]; exact hd1) (fun y hy => by rw [hE] at hy; cases hy)

    · have hi6 : ¬ (6 : Int) < (t.kids.length : Int) - 2 := by omega
      have hkc : ¬ kc = 1 := by omega
      rw [if_neg h6] at HP
      have HE := hidden HP
      clear HP
      have hf5 := FS.start rb m none w #[.int .i64 (t.kind : Int), .int .i64 (t.place : Int), .string (str t.text), .slice (some ⟨g, 0, none⟩) t.kids.length kc] #[.int .i64 9, .int .i64 (t.place : Int), .string ⟨#[]⟩, .complex .f64 0 0, .string ⟨#[]⟩, .string ⟨#[]⟩, .slice none 0 0, .slice none 0 0, .slice none 0 0] hRI
      obtain ⟨t0, t1, t2, t3⟩ := tree_cells hf5.tb
      have hl5 := hf5.lt
      have hS : ∀ u, Kept (fun k => k = rb) w u → S6 F u (.slice (some ⟨g, 4, none⟩) 1 (kc - 1)) [kid t 1] := fun u hu => by
        obtain ⟨g', c', e', hgF, hP⟩ := (hTU u hu).p6 1 (by omega)
        simp only [Value.slice.injEq, Option.some.injEq, Addr.mk.injEq, true_and, and_true] at e'
        obtain ⟨rfl, rfl⟩ := e'
        refine .inr ⟨g, 4, kc - 1, rfl, hgF, fun i hi => ?_⟩
        have : i = 0 := by simp at hi; omega
        subst this
        rw [kid_get (t := t) (by omega)] at hP
        exact hP
      have hxs := r6exprs F rb m none [kid t 1] _ _ hf5.rq.1 (hS _ hf5.rq.2) (fun b hb => ⟨by have := (hF b hb).1; omega, (hF b hb).2⟩) (by simp) (fun k hk => by rw [List.mem_singleton.1 hk]; exact IH _ (kid_nodes (by omega)) (kid_ok htx (by omega)))
      clear hS
      go_enter Try.func68, Try.ntmps68
      go_wp2_with fail
      generalize (((w.alloc (.cells #[.int .i64 (t.kind : Int), .int .i64 (t.place : Int), .string (str t.text), .slice (some ⟨g, 0, none⟩) t.kids.length kc] 43)).alloc (.cells #[.int .i64 9, .int .i64 (t.place : Int), .string ⟨#[]⟩, .complex .f64 0 0, .string ⟨#[]⟩, .string ⟨#[]⟩, .slice none 0 0, .slice none 0 0, .slice none 0 0] 27)).alloc (.cells #[.int .i64 0, .int .i64 0, .string ⟨#[]⟩, .complex .f64 0 0, .string ⟨#[]⟩, .string ⟨#[]⟩, .slice none 0 0, .slice none 0 0, .slice none 0 0] 27)) = u5 at *
      refine hxs.mono ?_
      rintro e w2 ⟨v, rfl, ⟨va, vn, vc, rfl⟩, hq2, hx2⟩
      have hs2 := hq2.2.size
      have hf2 := hf5.call hlt hq2
      have hf3 : FS rb m w w.heap.size #[.int .i64 (t.kind : Int), .int .i64 (t.place : Int), .string (str t.text), .slice (some ⟨g, 0, none⟩) t.kids.length kc] (orR none (seqP ([kid t 1].map (exprP m)))) #[.int .i64 9, .int .i64 (t.place : Int), .string ⟨#[]⟩, .complex .f64 0 0, .string ⟨#[]⟩, .string ⟨#[]⟩, .slice va vn vc, .slice none 0 0, .slice none 0 0] (w2.setCell ⟨w.heap.size + 1, 6, none⟩ (.slice va vn vc)) := hf2.put hlt 6 (.slice va vn vc)
      have hK3 : Kept (fun b => b = rb ∨ b = w.heap.size + 1) w2 (w2.setCell ⟨w.heap.size + 1, 6, none⟩ (.slice va vn vc)) := Kept.setCell (S := fun b => b = rb ∨ b = w.heap.size + 1) (Kept.refl _ w2) (p := ⟨w.heap.size + 1, 6, none⟩) (fun _ => .inr rfl) _
      obtain ⟨⟨y0, y1, y2, y3, y4, y5, y6, y7, y8⟩, yf⟩ := nine9 hf2.eb
      have HR := hidden (Run.start (orR none (seqP ([kid t 1].map (exprP m)))) (armF m) (t.kids.drop 2))
      have HI := hidden IH
      clear hxs hq2 t0 t1 t2 t3 IH hf5
      go_wp2
      go_loopg [7] (t.kids.length - 2) (fun gk i wr => ∃ (k : Nat) (accs : List (((List UInt8 × List (List UInt8)) × Ex) × Bool)) (sk : Option (Nat × Nat)) (aa : Option Addr) (an ac : Nat), gk + k = t.kids.length ∧ 2 ≤ k ∧ i = .int .i64 (k : Int) ∧ Hid (Run (orR none (seqP ([kid t 1].map (exprP m)))) (armF m) (t.kids.drop 2) (k - 2) (accs.map (·.1)) sk) ∧ Hid (sk = none → ∀ p ∈ accs, p.2 = true) ∧ accs.length ≤ k ∧ FS rb m w w.heap.size #[.int .i64 (t.kind : Int), .int .i64 (t.place : Int), .string (str t.text), .slice (some ⟨g, 0, none⟩) t.kids.length kc] sk #[.int .i64 9, .int .i64 (t.place : Int), .string ⟨#[]⟩, .complex .f64 0 0, .string ⟨#[]⟩, .string ⟨#[]⟩, .slice va vn vc, .slice none 0 0, .slice aa an ac] wr ∧ RowG cArm 73 11 w2.heap.size wr (.slice aa an ac) accs ∧ Kept (fun b => b = rb ∨ b = w.heap.size + 1) w2 wr)
      case atStart => exact ⟨2, [], _, none, 0, 0, by omega, Nat.le_refl _, rfl, HR, by simp [Hid], by simp, hf3, RowG.nil _ _ _ _ _, hK3⟩
      case round =>
        obtain ⟨k, accs, sk, aa, an, ac, hg0, hk2, rfl, hrun, hgood, hal, hfw, hrow, hKw⟩ := hrel
        clear HR hf3 hK3 y0 y1 y2 y3 y4 y5 y6 y7 y8 yf
        obtain ⟨t0, t1, t2, t3⟩ := tree_cells hfw.tb
        obtain ⟨r0, r1, r2, _, _⟩ := hfw.rq.1.cells
        by_cases hk : k < t.kids.length
        · have hki : (k : Int) < (t.kids.length : Int) := by omega
          cases sk with
          | some e0 =>
            have hne : (((e0.1 : Nat) : Int) == 0) = false := by have := hfw.rq.1.2 e0 rfl; rw [beq_eq_false_iff_ne]; omega
            simp only [Option.getD_some] at r1 r2
            obtain ⟨sk, hsk0⟩ : ∃ sk : Option (Nat × Nat), sk = some e0 := ⟨_, rfl⟩
            rw [← hsk0] at hrun hfw hgood
            have hfin : (t.kids.drop 2).length ≤ k - 2 ∨ sk ≠ none := .inr (by rw [hsk0]; simp)
            clear hsk0
            have hf1' : sk = orR (orR none (seqP ([kid t 1].map (exprP m)))) (seqP ((t.kids.drop 2).map (armF m))) := (hrun.out.fin hfin).1
            have hf2' := (hrun.out.fin hfin).2
            obtain ⟨⟨e0, e1, e2, e3, e4, e5, e6, e7, e8⟩, ef⟩ := nine9 hfw.eb
            obtain ⟨hd1, hd2, hd3, hd4⟩ := hfw.done hlt
            have hrs := hfw.rs
            go_wp2_with (refine wpList_store_row rfl 27 (.tmp 6) (.tmp 179) rfl (w.heap.size + 2) #[.int .i64 9, .int .i64 (t.place : Int), .string ⟨#[]⟩, .complex .f64 0 0, .string ⟨#[]⟩, .string ⟨#[]⟩, .slice va vn vc, .slice none 0 0, .slice aa an ac] rfl rfl 27 #[.int .i64 0, .int .i64 0, .string ⟨#[]⟩, .complex .f64 0 0, .string ⟨#[]⟩, .string ⟨#[]⟩, .slice none 0 0, .slice none 0 0, .slice none 0 0] hrs sizeEx rfl (by first | kernel_rfl | rfl | simp [Value.oneCell']) ?_)
            (try simp only [Exit.inBlock, Exit.then])
            refine bodyPost_ret (res_cell1 rfl _ _ (w.heap.size + 2) 27 #[.int .i64 9, .int .i64 (t.place : Int), .string ⟨#[]⟩, .complex .f64 0 0, .string ⟨#[]⟩, .string ⟨#[]⟩, .slice va vn vc, .slice none 0 0, .slice aa an ac] (0, 0) _ rfl hd2 Try.underlying27 rfl sizeEx) rfl ?_
            have hE := HE.out
            refine exq_of t 9 [] [] _ _ _ ⟨_, _, _, rfl⟩ ⟨_, _, _, rfl⟩ ⟨_, _, _, rfl⟩ (by rw [hE, ← orR_bind (f := fun (ks : List Ex) (az : List ((List UInt8 × List (List UInt8)) × Ex)) => (⟨9, t.place, [], 0, 0, [], [], ks, [], az.map (·.1), az.map (·.2)⟩ : Ex)), ← hf1']; exact hd1) (fun y hy => ?_)
            rw [hE] at hy
            cases hs : seqP ([kid t 1].map (exprP m)) with
            | error e => rw [hs] at hy; cases hy
            | ok ks =>
              rw [hs] at hy
              cases hz : seqP ((t.kids.drop 2).map (armF m)) with
              | error e => rw [hz] at hy; cases hy
              | ok az =>
                rw [hz] at hy
                cases hy
                have hs1 : (orR none (seqP ([kid t 1].map (exprP m)))) = none := by rw [hs]; rfl
                have hsk : sk = none := by rw [hf1', hs1, hz]; rfl
                have haz := hf2' hs1 az hz
                subst haz
                have hrs := hfw.rs
                have hfl := hfw.lt
                have hsz2 := hKw.size
                have hkeep : ∀ b, w.heap.size + 3 ≤ b → (wr.setRow (w.heap.size + 2) #[.int .i64 9, .int .i64 (t.place : Int), .string ⟨#[]⟩, .complex .f64 0 0, .string ⟨#[]⟩, .string ⟨#[]⟩, .slice va vn vc, .slice none 0 0, .slice aa an ac]).heap[b]? = wr.heap[b]? := fun b hb => hd3 b (by omega)
                refine ⟨ks, [], _, _, rfl, (hx2 (by simp) ks hs).frame (fun b hb => ⟨⟨by have := hb.1; omega, by rw [hd4]; have := hb.2; omega⟩, ?_⟩), TxR2.nil _ _, (arm_row hrow (hgood.out hsk)).frame (fun b hb => ⟨⟨by have := hb.1; omega, by rw [hd4]; exact hb.2⟩, hkeep b (by have := hb.1; omega)⟩)⟩
                rw [hkeep b (by have := hb.1; omega), hKw.block b hb.2 (fun e => by have := hb.1; have := hlt; omega)]

          | none =>
            simp only [Option.getD_none] at r1 r2
            obtain ⟨g', c', pv0, e', _, hTa, q0, q1, q2, q3⟩ := (hTU _ hfw.rq.2).at k hk
            simp only [Value.slice.injEq, Option.some.injEq, Addr.mk.injEq, true_and, and_true] at e'
            obtain ⟨rfl, rfl⟩ := e'
            obtain ⟨pa, pc, rfl⟩ := hTa.shape
            have hkd : k - 2 < (t.kids.drop 2).length := by simp; omega
            have hla : (t.kids.drop 2)[k - 2] = t.kids[k] := by
              rw [List.getElem_drop]
              congr 1
              omega
            have hNX := fun x hx => hidden (hrun.out.next hkd x hx)
            have hBD := fun e he => hidden (hrun.out.bad hkd e he)
            simp only [hla] at hNX hBD
            have hao : TxOk t.kids[k] := ((TxOk_iff t).1 htx).2 _ (List.getElem_mem hk)
            have han : nodes t.kids[k] < nodes t := by have h2 := kid_nodes (t := t) hk; rw [← kid_get hk] at h2; exact h2
            obtain ⟨a, hae⟩ : ∃ a, t.kids[k] = a := ⟨_, rfl⟩
            rw [hae] at hao han hNX hBD hTa q0 q1 q2 q3
            clear hae hla hrun
            have hzr := hfw.lt
            have hbp : Below wr.heap.size wr (wr.alloc (.cells #[.int .i64 (a.kind : Int), .int .i64 (a.place : Int), .string (str a.text), .slice pa a.kids.length pc] 43)) := (Below.refl _ _).alloc (Nat.le_refl _) _
            have hNa := box4_cells wr a (.slice pa a.kids.length pc)
            have hza : wr.heap.size < (wr.alloc (.cells #[.int .i64 (a.kind : Int), .int .i64 (a.place : Int), .string (str a.text), .slice pa a.kids.length pc] 43)).heap.size := by simp
            have hfa := hfw.more hlt hbp
            have hNaU : ∀ u, Kept (fun k => k = rb) (wr.alloc (.cells #[.int .i64 (a.kind : Int), .int .i64 (a.place : Int), .string (str a.text), .slice pa a.kids.length pc] 43)) u → u.heap[wr.heap.size]? = some (.cells #[.int .i64 (a.kind : Int), .int .i64 (a.place : Int), .string (str a.text), .slice pa a.kids.length pc] 43 (0, 0)) := fun u hu => (hu.block wr.heap.size hza (by omega)).trans hNa
            have hTaU : ∀ u, Kept (fun k => k = rb) (wr.alloc (.cells #[.int .i64 (a.kind : Int), .int .i64 (a.place : Int), .string (str a.text), .slice pa a.kids.length pc] 43)) u → TL F u (.slice pa a.kids.length pc) a.kids := fun u hu => (hTa.below hbp (fun b hb => by have := (hF b hb).1; omega)).frame fun b hb => ⟨hb, hu.block b (by have := (hF b hb).1; omega) (hF b hb).2⟩
            have hKa : Kept (fun b => b = rb ∨ b = w.heap.size + 1) w2 (wr.alloc (.cells #[.int .i64 (a.kind : Int), .int .i64 (a.place : Int), .string (str a.text), .slice pa a.kids.length pc] 43)) := hKw.alloc _
            have hrowa := hrow.kept cArm_ok (kb (S := fun _ => False) hbp) (fun _ _ h => h)
            obtain ⟨a0, a1, a2, a3⟩ := tree_cells hNa
            have hop := r6open a (.slice pa a.kids.length pc) (wr.alloc (.cells #[.int .i64 (a.kind : Int), .int .i64 (a.place : Int), .string (str a.text), .slice pa a.kids.length pc] 43))
            unfold trv at hop
            clear hTa
            go_wp2_with fail
            generalize wr.alloc (.cells #[.int .i64 (a.kind : Int), .int .i64 (a.place : Int), .string (str a.text), .slice pa a.kids.length pc] 43) = W1 at *
            refine hop.mono ?_
            rintro e w3 ⟨rfl, hb3⟩
            have k3 : RQ rb m none W1 w3 := RQ.of hfa.rq.1 hb3
            have hf3 := hfa.call hlt k3
            clear hop hb3 a0 a1 a2 a3 t0 t1 t2 t3 r0 r1 r2 q0 q1 q2 q3
            obtain ⟨a0, a1, a2, a3⟩ := tree_cells (hNaU _ k3.2)
            cases hd : decide (a.kind = 1)
            · have hbd := hBD _ (armF_kind (.inl (of_decide_eq_false hd)))
              have hr := r6refuse rb m none 12 a.place _ hf3.rq.1 (by decide)
              clear hNX hBD hd
              go_wp2_with fail
              refine hr.mono ?_
              rintro e wz ⟨rfl, hq⟩
              have hfz := hf3.call hlt hq
              clear hr hq
              obtain ⟨⟨e0, e1, e2, e3, e4, e5, e6, e7, e8⟩, ef⟩ := nine9 hfz.eb
              obtain ⟨hd1, hd2, hd3, hd4⟩ := hfz.done hlt
              have hrs := hfz.rs
              go_wp2_with (refine wpList_store_row rfl 27 (.tmp 6) (.tmp 179) rfl (w.heap.size + 2) #[.int .i64 9, .int .i64 (t.place : Int), .string ⟨#[]⟩, .complex .f64 0 0, .string ⟨#[]⟩, .string ⟨#[]⟩, .slice va vn vc, .slice none 0 0, .slice aa an ac] rfl rfl 27 #[.int .i64 0, .int .i64 0, .string ⟨#[]⟩, .complex .f64 0 0, .string ⟨#[]⟩, .string ⟨#[]⟩, .slice none 0 0, .slice none 0 0, .slice none 0 0] hrs sizeEx rfl (by first | kernel_rfl | rfl | simp [Value.oneCell']) ?_)
              (try simp only [Exit.inBlock, Exit.then])
              refine bodyPost_ret (res_cell1 rfl _ _ (w.heap.size + 2) 27 #[.int .i64 9, .int .i64 (t.place : Int), .string ⟨#[]⟩, .complex .f64 0 0, .string ⟨#[]⟩, .string ⟨#[]⟩, .slice va vn vc, .slice none 0 0, .slice aa an ac] (0, 0) _ rfl hd2 Try.underlying27 rfl sizeEx) rfl ?_
              have hE := HE.out
              refine exq_of t 9 [] [] _ _ _ ⟨_, _, _, rfl⟩ ⟨_, _, _, rfl⟩ ⟨_, _, _, rfl⟩ (by rw [hE, ← orR_bind (f := fun (ks : List Ex) (az : List ((List UInt8 × List (List UInt8)) × Ex)) => (⟨9, t.place, [], 0, 0, [], [], ks, [], az.map (·.1), az.map (·.2)⟩ : Ex)), hbd.out]; exact hd1) (fun y hy => ?_)
              rw [hE] at hy
              have hb9 := hbd.out
              cases hs : seqP ([kid t 1].map (exprP m)) with
              | error e => rw [hs] at hy; cases hy
              | ok ks =>
                rw [hs] at hy hb9
                cases hz : seqP ((t.kids.drop 2).map (armF m)) with
                | error e => rw [hz] at hy; cases hy
                | ok az =>
                  rw [hz] at hb9
                  cases hb9

            · have hak := hidden (of_decide_eq_true hd)
              clear hd
              by_cases hl2 : a.kids.length = 2
              case neg =>
                have hlb : ((a.kids.length : Int) != 2) = true := by rw [bne_iff_ne]; omega
                have hbd := hBD _ (armF_kind (.inr (.inl hl2)))
                have hr := r6refuse rb m none 12 a.place _ hf3.rq.1 (by decide)
                clear hNX hBD 
                go_wp2_with fail
                refine hr.mono ?_
                rintro e wz ⟨rfl, hq⟩
                have hfz := hf3.call hlt hq
                clear hr hq
                obtain ⟨⟨e0, e1, e2, e3, e4, e5, e6, e7, e8⟩, ef⟩ := nine9 hfz.eb
                obtain ⟨hd1, hd2, hd3, hd4⟩ := hfz.done hlt
                have hrs := hfz.rs
                go_wp2_with (refine wpList_store_row rfl 27 (.tmp 6) (.tmp 179) rfl (w.heap.size + 2) #[.int .i64 9, .int .i64 (t.place : Int), .string ⟨#[]⟩, .complex .f64 0 0, .string ⟨#[]⟩, .string ⟨#[]⟩, .slice va vn vc, .slice none 0 0, .slice aa an ac] rfl rfl 27 #[.int .i64 0, .int .i64 0, .string ⟨#[]⟩, .complex .f64 0 0, .string ⟨#[]⟩, .string ⟨#[]⟩, .slice none 0 0, .slice none 0 0, .slice none 0 0] hrs sizeEx rfl (by first | kernel_rfl | rfl | simp [Value.oneCell']) ?_)
                (try simp only [Exit.inBlock, Exit.then])
                refine bodyPost_ret (res_cell1 rfl _ _ (w.heap.size + 2) 27 #[.int .i64 9, .int .i64 (t.place : Int), .string ⟨#[]⟩, .complex .f64 0 0, .string ⟨#[]⟩, .string ⟨#[]⟩, .slice va vn vc, .slice none 0 0, .slice aa an ac] (0, 0) _ rfl hd2 Try.underlying27 rfl sizeEx) rfl ?_
                have hE := HE.out
                refine exq_of t 9 [] [] _ _ _ ⟨_, _, _, rfl⟩ ⟨_, _, _, rfl⟩ ⟨_, _, _, rfl⟩ (by rw [hE, ← orR_bind (f := fun (ks : List Ex) (az : List ((List UInt8 × List (List UInt8)) × Ex)) => (⟨9, t.place, [], 0, 0, [], [], ks, [], az.map (·.1), az.map (·.2)⟩ : Ex)), hbd.out]; exact hd1) (fun y hy => ?_)
                rw [hE] at hy
                have hb9 := hbd.out
                cases hs : seqP ([kid t 1].map (exprP m)) with
                | error e => rw [hs] at hy; cases hy
                | ok ks =>
                  rw [hs] at hy hb9
                  cases hz : seqP ((t.kids.drop 2).map (armF m)) with
                  | error e => rw [hz] at hy; cases hy
                  | ok az =>
                    rw [hz] at hb9
                    cases hb9

              have hlb : ((a.kids.length : Int) != 2) = false := by rw [bne_eq_false_iff_eq]; omega
              have hi0 : (0 : Int) < (a.kids.length : Int) := by omega
              have hi1 : (1 : Int) < (a.kids.length : Int) := by omega
              have ha2 : 2 ≤ a.kids.length := by omega
              have HL := hidden hl2
              clear hl2
              obtain ⟨ga, cga, kx, ee, _, bT, b0, b1, b2, b3⟩ := (hTaU _ k3.2).at 0 (by omega)
              simp only [Value.slice.injEq, true_and] at ee
              obtain ⟨rfl, rfl⟩ := ee
              rw [kid_get (t := a) (by omega)] at b0 b1 b2 bT
              simp only [Nat.zero_mul, Nat.zero_add] at b0 b1 b2 b3
              obtain ⟨p0a, p0c, rfl⟩ := bT.shape
              have hop := r6open (kid a 0) (.slice p0a (kid a 0).kids.length p0c) w3
              unfold trv at hop
              go_wp2_with fail
              refine hop.mono ?_
              rintro e w4 ⟨rfl, hb4⟩
              have k4 : RQ rb m none W1 w4 := k3.more hb4
              have hf4 := hfa.call hlt k4
              have hbT4 : TL F w4 (.slice p0a (kid a 0).kids.length p0c) (kid a 0).kids := bT.below hb4 (fun b hb => by have := (hF b hb).1; have := hf3.lt; omega)
              clear hop a0 a1 a2 a3
              have hc4 := fun j (hj : ∃ v, w3.cell? ⟨ga, j, none⟩ = some v) => hj
              obtain ⟨a0, a1, a2, a3⟩ := tree_cells (hNaU _ k4.2)
              cases hd : decide ((kid a 0).kind = 1)
              · have hbd := hBD _ (armF_kind (.inr (.inr (of_decide_eq_false hd))))
                have hr := r6refuse rb m none 12 a.place _ hf4.rq.1 (by decide)
                clear hNX hBD hd
                go_wp2_with fail
                refine hr.mono ?_
                rintro e wz ⟨rfl, hq⟩
                have hfz := hf4.call hlt hq
                clear hr hq
                obtain ⟨⟨e0, e1, e2, e3, e4, e5, e6, e7, e8⟩, ef⟩ := nine9 hfz.eb
                obtain ⟨hd1, hd2, hd3, hd4⟩ := hfz.done hlt
                have hrs := hfz.rs
                go_wp2_with (refine wpList_store_row rfl 27 (.tmp 6) (.tmp 179) rfl (w.heap.size + 2) #[.int .i64 9, .int .i64 (t.place : Int), .string ⟨#[]⟩, .complex .f64 0 0, .string ⟨#[]⟩, .string ⟨#[]⟩, .slice va vn vc, .slice none 0 0, .slice aa an ac] rfl rfl 27 #[.int .i64 0, .int .i64 0, .string ⟨#[]⟩, .complex .f64 0 0, .string ⟨#[]⟩, .string ⟨#[]⟩, .slice none 0 0, .slice none 0 0, .slice none 0 0] hrs sizeEx rfl (by first | kernel_rfl | rfl | simp [Value.oneCell']) ?_)
                (try simp only [Exit.inBlock, Exit.then])
                refine bodyPost_ret (res_cell1 rfl _ _ (w.heap.size + 2) 27 #[.int .i64 9, .int .i64 (t.place : Int), .string ⟨#[]⟩, .complex .f64 0 0, .string ⟨#[]⟩, .string ⟨#[]⟩, .slice va vn vc, .slice none 0 0, .slice aa an ac] (0, 0) _ rfl hd2 Try.underlying27 rfl sizeEx) rfl ?_
                have hE := HE.out
                refine exq_of t 9 [] [] _ _ _ ⟨_, _, _, rfl⟩ ⟨_, _, _, rfl⟩ ⟨_, _, _, rfl⟩ (by rw [hE, ← orR_bind (f := fun (ks : List Ex) (az : List ((List UInt8 × List (List UInt8)) × Ex)) => (⟨9, t.place, [], 0, 0, [], [], ks, [], az.map (·.1), az.map (·.2)⟩ : Ex)), hbd.out]; exact hd1) (fun y hy => ?_)
                rw [hE] at hy
                have hb9 := hbd.out
                cases hs : seqP ([kid t 1].map (exprP m)) with
                | error e => rw [hs] at hy; cases hy
                | ok ks =>
                  rw [hs] at hy hb9
                  cases hz : seqP ((t.kids.drop 2).map (armF m)) with
                  | error e => rw [hz] at hy; cases hy
                  | ok az =>
                    rw [hz] at hb9
                    cases hb9

              · have hpk := hidden (of_decide_eq_true hd)
                have HN : Hid (¬ (a.kind ≠ 1 ∨ a.kids.length ≠ 2 ∨ (kid a 0).kind ≠ 1)) := fun e => e.elim (fun e => e hak.out) (fun e => e.elim (fun e => e HL.out) (fun e => e hpk.out))
                clear hd b0 b1 b2 b3 bT hc4 hak hpk hbT4
                obtain ⟨gx, cx, kx, ee, _, bT, b0, b1, b2, b3⟩ := (hTaU _ k4.2).at 0 (by omega)
                simp only [Value.slice.injEq, Option.some.injEq, Addr.mk.injEq, true_and, and_true] at ee
                obtain ⟨rfl, rfl⟩ := ee
                rw [kid_get (t := a) (by omega)] at b0 b1 b2 bT
                simp only [Nat.zero_mul, Nat.zero_add] at b0 b1 b2 b3
                obtain ⟨q0a, q0c, rfl⟩ := bT.shape
                have hz4 := hf4.lt
                have hw4 := k4.2.size
                have hbq : Below w4.heap.size w4 (w4.alloc (.cells #[.int .i64 ((kid a 0).kind : Int), .int .i64 ((kid a 0).place : Int), .string (str (kid a 0).text), .slice q0a (kid a 0).kids.length q0c] 43)) := (Below.refl _ _).alloc (Nat.le_refl _) _
                have hNp := box4_cells w4 (kid a 0) (.slice q0a (kid a 0).kids.length q0c)
                have hzp : w4.heap.size < (w4.alloc (.cells #[.int .i64 ((kid a 0).kind : Int), .int .i64 ((kid a 0).place : Int), .string (str (kid a 0).text), .slice q0a (kid a 0).kids.length q0c] 43)).heap.size := by simp
                have k5 : RQ rb m none W1 (w4.alloc (.cells #[.int .i64 ((kid a 0).kind : Int), .int .i64 ((kid a 0).place : Int), .string (str (kid a 0).text), .slice q0a (kid a 0).kids.length q0c] 43)) := k4.more hbq
                have hf5 := hfa.call hlt k5
                have hrl := hfa.rq.1.lt
                have hNpU : ∀ u, Kept (fun k => k = rb) (w4.alloc (.cells #[.int .i64 ((kid a 0).kind : Int), .int .i64 ((kid a 0).place : Int), .string (str (kid a 0).text), .slice q0a (kid a 0).kids.length q0c] 43)) u → u.heap[w4.heap.size]? = some (.cells #[.int .i64 ((kid a 0).kind : Int), .int .i64 ((kid a 0).place : Int), .string (str (kid a 0).text), .slice q0a (kid a 0).kids.length q0c] 43 (0, 0)) := fun u hu => (hu.block w4.heap.size hzp (by omega)).trans hNp
                have hTpU : ∀ u, Kept (fun k => k = rb) (w4.alloc (.cells #[.int .i64 ((kid a 0).kind : Int), .int .i64 ((kid a 0).place : Int), .string (str (kid a 0).text), .slice q0a (kid a 0).kids.length q0c] 43)) u → TL F u (.slice q0a (kid a 0).kids.length q0c) (kid a 0).kids := fun u hu => (bT.below hbq (fun b hb => by have := (hF b hb).1; omega)).frame fun b hb => ⟨hb, hu.block b (by have := (hF b hb).1; omega) (hF b hb).2⟩
                have hpn : (kid a 0).kids.length ≤ 8192 := by have h1 := kids_lt6 (kid a 0); have h2 := kid_nodes (t := a) (i := 0) (by omega); omega
                obtain ⟨p0, p1, p2, p3⟩ := tree_cells hNp
                obtain ⟨x0, x1, x2, x3⟩ := tree_cells (hNaU _ k5.2)
                by_cases h5 : 4 < (kid a 0).kids.length - 1
                · have hi5 : (4 : Int) < ((kid a 0).kids.length : Int) - 1 := by omega
                  have hbd := hBD _ (armF_many HN.out h5)
                  have hr := r6refuse rb m none 19 a.place _ hf5.rq.1 (by decide)
                  clear hNX hBD 
                  go_wp2_with fail
                  refine hr.mono ?_
                  rintro e wz ⟨rfl, hq⟩
                  have hfz := hf5.call hlt hq
                  clear hr hq
                  obtain ⟨⟨e0, e1, e2, e3, e4, e5, e6, e7, e8⟩, ef⟩ := nine9 hfz.eb
                  obtain ⟨hd1, hd2, hd3, hd4⟩ := hfz.done hlt
                  have hrs := hfz.rs
                  go_wp2_with (refine wpList_store_row rfl 27 (.tmp 6) (.tmp 179) rfl (w.heap.size + 2) #[.int .i64 9, .int .i64 (t.place : Int), .string ⟨#[]⟩, .complex .f64 0 0, .string ⟨#[]⟩, .string ⟨#[]⟩, .slice va vn vc, .slice none 0 0, .slice aa an ac] rfl rfl 27 #[.int .i64 0, .int .i64 0, .string ⟨#[]⟩, .complex .f64 0 0, .string ⟨#[]⟩, .string ⟨#[]⟩, .slice none 0 0, .slice none 0 0, .slice none 0 0] hrs sizeEx rfl (by first | kernel_rfl | rfl | simp [Value.oneCell']) ?_)
                  (try simp only [Exit.inBlock, Exit.then])
                  refine bodyPost_ret (res_cell1 rfl _ _ (w.heap.size + 2) 27 #[.int .i64 9, .int .i64 (t.place : Int), .string ⟨#[]⟩, .complex .f64 0 0, .string ⟨#[]⟩, .string ⟨#[]⟩, .slice va vn vc, .slice none 0 0, .slice aa an ac] (0, 0) _ rfl hd2 Try.underlying27 rfl sizeEx) rfl ?_
                  have hE := HE.out
                  refine exq_of t 9 [] [] _ _ _ ⟨_, _, _, rfl⟩ ⟨_, _, _, rfl⟩ ⟨_, _, _, rfl⟩ (by rw [hE, ← orR_bind (f := fun (ks : List Ex) (az : List ((List UInt8 × List (List UInt8)) × Ex)) => (⟨9, t.place, [], 0, 0, [], [], ks, [], az.map (·.1), az.map (·.2)⟩ : Ex)), hbd.out]; exact hd1) (fun y hy => ?_)
                  rw [hE] at hy
                  have hb9 := hbd.out
                  cases hs : seqP ([kid t 1].map (exprP m)) with
                  | error e => rw [hs] at hy; cases hy
                  | ok ks =>
                    rw [hs] at hy hb9
                    cases hz : seqP ((t.kids.drop 2).map (armF m)) with
                    | error e => rw [hz] at hy; cases hy
                    | ok az =>
                      rw [hz] at hb9
                      cases hb9

                · have hi5 : ¬ (4 : Int) < ((kid a 0).kids.length : Int) - 1 := by omega
                  by_cases hn0 : (kid a 0).kids.length = 0
                  · have hin : ¬ (0 : Int) < ((kid a 0).kids.length : Int) := by omega
                    have hbd := hBD _ (armF_word HN.out h5 (.inl hn0))
                    have HZ := hidden hn0
                    have hr := r6refuse rb m none 12 (kid a 0).place _ hf5.rq.1 (by decide)
                    clear hNX hBD hn0
                    go_wp2
                    go_loopg [10, 11] 0 (fun gj o i wb => o = .bool false ∧ wb = (w4.alloc (.cells #[.int .i64 ((kid a 0).kind : Int), .int .i64 ((kid a 0).place : Int), .string (str (kid a 0).text), .slice q0a (kid a 0).kids.length q0c] 43)))
                    case atStart => exact ⟨congrArg Value.bool (decide_eq_false (by have := HZ.out; omega)), rfl⟩
                    case round =>
                      obtain ⟨rfl, rfl⟩ := hrel
                      go_wp2_with fail
                      refine hr.mono ?_
                      rintro e wz ⟨rfl, hq⟩
                      have hfz := hf5.call hlt hq
                      clear hr hq
                      obtain ⟨⟨e0, e1, e2, e3, e4, e5, e6, e7, e8⟩, ef⟩ := nine9 hfz.eb
                      obtain ⟨hd1, hd2, hd3, hd4⟩ := hfz.done hlt
                      have hrs := hfz.rs
                      go_wp2_with (refine wpList_store_row rfl 27 (.tmp 6) (.tmp 179) rfl (w.heap.size + 2) #[.int .i64 9, .int .i64 (t.place : Int), .string ⟨#[]⟩, .complex .f64 0 0, .string ⟨#[]⟩, .string ⟨#[]⟩, .slice va vn vc, .slice none 0 0, .slice aa an ac] rfl rfl 27 #[.int .i64 0, .int .i64 0, .string ⟨#[]⟩, .complex .f64 0 0, .string ⟨#[]⟩, .string ⟨#[]⟩, .slice none 0 0, .slice none 0 0, .slice none 0 0] hrs sizeEx rfl (by first | kernel_rfl | rfl | simp [Value.oneCell']) ?_)
                      (try simp only [Exit.inBlock, Exit.then])
                      refine bodyPost_ret (res_cell1 rfl _ _ (w.heap.size + 2) 27 #[.int .i64 9, .int .i64 (t.place : Int), .string ⟨#[]⟩, .complex .f64 0 0, .string ⟨#[]⟩, .string ⟨#[]⟩, .slice va vn vc, .slice none 0 0, .slice aa an ac] (0, 0) _ rfl hd2 Try.underlying27 rfl sizeEx) rfl ?_
                      have hE := HE.out
                      refine exq_of t 9 [] [] _ _ _ ⟨_, _, _, rfl⟩ ⟨_, _, _, rfl⟩ ⟨_, _, _, rfl⟩ (by rw [hE, ← orR_bind (f := fun (ks : List Ex) (az : List ((List UInt8 × List (List UInt8)) × Ex)) => (⟨9, t.place, [], 0, 0, [], [], ks, [], az.map (·.1), az.map (·.2)⟩ : Ex)), hbd.out]; exact hd1) (fun y hy => ?_)
                      rw [hE] at hy
                      have hb9 := hbd.out
                      cases hs : seqP ([kid t 1].map (exprP m)) with
                      | error e => rw [hs] at hy; cases hy
                      | ok ks =>
                        rw [hs] at hy hb9
                        cases hz : seqP ((t.kids.drop 2).map (armF m)) with
                        | error e => rw [hz] at hy; cases hy
                        | ok az =>
                          rw [hz] at hb9
                          cases hb9

                  · have hin : (0 : Int) < ((kid a 0).kids.length : Int) := by omega
                    have H5 := hidden h5
                    have H0 := hidden hn0
                    clear h5 hn0
                    have hzp5 := hzp
                    go_wp2
                    generalize (w4.alloc (.cells #[.int .i64 ((kid a 0).kind : Int), .int .i64 ((kid a 0).place : Int), .string (str (kid a 0).text), .slice q0a (kid a 0).kids.length q0c] 43)) = W5 at *
                    go_loopg [10, 11] (kid a 0).kids.length (fun gj o i wb => ∃ (j : Nat) (b : Bool), gj + j = (kid a 0).kids.length ∧ o = .bool b ∧ i = .int .i64 (j : Int) ∧ Hid ((kid a 0).kids.all (fun k => decide (k.kind = 3)) = (b && ((kid a 0).kids.drop j).all (fun k => decide (k.kind = 3)))) ∧ Below W5.heap.size W5 wb)
                    case atStart => exact ⟨0, true, by omega, congrArg Value.bool (decide_eq_true (by omega)), rfl, by rw [hid_iff]; rfl, Below.refl _ _⟩
                    case round =>
                      obtain ⟨j, bb, hgj, rfl, rfl, hall, hbb⟩ := hrel
                      rename World => wb
                      have k6 : RQ rb m none W1 wb := k5.more hbb
                      have k6' : RQ rb m none W5 wb := RQ.of hf5.rq.1 hbb
                      have hf6 := hfa.call hlt k6
                      clear p0 p1 p2 p3 x0 x1 x2 x3
                      obtain ⟨p0, p1, p2, p3⟩ := tree_cells (hNpU _ k6'.2)
                      obtain ⟨x0, x1, x2, x3⟩ := tree_cells (hNaU _ k6.2)
                      cases bb
                      · have HW : Hid ((kid a 0).kids.all (fun k => decide (k.kind = 3)) = false) := by rw [hid_iff, hall.out]; rfl
                        have hbd := hBD _ (armF_word HN.out H5.out (.inr HW.out))
                        have hr := r6refuse rb m none 12 (kid a 0).place _ hf6.rq.1 (by decide)
                        clear hNX hBD hall
                        go_wp2_with fail
                        refine hr.mono ?_
                        rintro e wz ⟨rfl, hq⟩
                        have hfz := hf6.call hlt hq
                        clear hr hq
                        obtain ⟨⟨e0, e1, e2, e3, e4, e5, e6, e7, e8⟩, ef⟩ := nine9 hfz.eb
                        obtain ⟨hd1, hd2, hd3, hd4⟩ := hfz.done hlt
                        have hrs := hfz.rs
                        go_wp2_with (refine wpList_store_row rfl 27 (.tmp 6) (.tmp 179) rfl (w.heap.size + 2) #[.int .i64 9, .int .i64 (t.place : Int), .string ⟨#[]⟩, .complex .f64 0 0, .string ⟨#[]⟩, .string ⟨#[]⟩, .slice va vn vc, .slice none 0 0, .slice aa an ac] rfl rfl 27 #[.int .i64 0, .int .i64 0, .string ⟨#[]⟩, .complex .f64 0 0, .string ⟨#[]⟩, .string ⟨#[]⟩, .slice none 0 0, .slice none 0 0, .slice none 0 0] hrs sizeEx rfl (by first | kernel_rfl | rfl | simp [Value.oneCell']) ?_)
                        (try simp only [Exit.inBlock, Exit.then])
                        refine bodyPost_ret (res_cell1 rfl _ _ (w.heap.size + 2) 27 #[.int .i64 9, .int .i64 (t.place : Int), .string ⟨#[]⟩, .complex .f64 0 0, .string ⟨#[]⟩, .string ⟨#[]⟩, .slice va vn vc, .slice none 0 0, .slice aa an ac] (0, 0) _ rfl hd2 Try.underlying27 rfl sizeEx) rfl ?_
                        have hE := HE.out
                        refine exq_of t 9 [] [] _ _ _ ⟨_, _, _, rfl⟩ ⟨_, _, _, rfl⟩ ⟨_, _, _, rfl⟩ (by rw [hE, ← orR_bind (f := fun (ks : List Ex) (az : List ((List UInt8 × List (List UInt8)) × Ex)) => (⟨9, t.place, [], 0, 0, [], [], ks, [], az.map (·.1), az.map (·.2)⟩ : Ex)), hbd.out]; exact hd1) (fun y hy => ?_)
                        rw [hE] at hy
                        have hb9 := hbd.out
                        cases hs : seqP ([kid t 1].map (exprP m)) with
                        | error e => rw [hs] at hy; cases hy
                        | ok ks =>
                          rw [hs] at hy hb9
                          cases hz : seqP ((t.kids.drop 2).map (armF m)) with
                          | error e => rw [hz] at hy; cases hy
                          | ok az =>
                            rw [hz] at hb9
                            cases hb9

                      · by_cases hj : j < (kid a 0).kids.length
                        · have hji : (j : Int) < ((kid a 0).kids.length : Int) := by omega
                          obtain ⟨gp2, cp2, kj, ej, _, cT, c0, c1, c2, c3⟩ := (hTpU _ k6'.2).at j hj
                          simp only [Value.slice.injEq, true_and] at ej
                          obtain ⟨rfl, rfl⟩ := ej
                          obtain ⟨ja, jc, rfl⟩ := cT.shape
                          have hst : ((kid a 0).kids.drop j).all (fun k => decide (k.kind = 3)) = (decide ((kid a 0).kids[j].kind = 3) && ((kid a 0).kids.drop (j + 1)).all (fun k => decide (k.kind = 3))) := by rw [List.drop_eq_getElem_cons hj, List.all_cons]
                          have HA : Hid ((kid a 0).kids.all (fun k => decide (k.kind = 3)) = (decide ((kid a 0).kids[j].kind = 3) && ((kid a 0).kids.drop (j + 1)).all (fun k => decide (k.kind = 3)))) := by rw [hid_iff, hall.out, hst]; rfl
                          have hat := r6atom (kid a 0).kids[j] (.slice ja (kid a 0).kids[j].kids.length jc) wb
                          unfold trv at hat
                          clear hst hall cT
                          generalize (kid a 0).kids[j] = kk at *
                          go_wp2_with fail
                          refine hat.mono ?_
                          rintro e w7 ⟨rfl, hb7⟩
                          have hbb7 := hbb.trans (hb7.mono hbb.size)
                          clear hat hb7 c0 c1 c2 c3
                          go_wp2
                          go_roundg ((kid a 0).kids.length - (j + 1))
                          case measure => omega
                          case rel => exact ⟨j + 1, _, by omega, rfl, by go_num, HA, hbb7⟩
                        · have hji : ¬ (j : Int) < ((kid a 0).kids.length : Int) := by omega
                          have HW : Hid (¬ ((kid a 0).kids.length = 0 ∨ (kid a 0).kids.all (fun k => decide (k.kind = 3)) = false)) := fun e => e.elim (fun e => H0.out e) (fun e => by
                            have h9 := hall.out
                            rw [List.drop_of_length_le (by omega)] at h9
                            rw [h9] at e
                            cases e)
                          clear hall
                          obtain ⟨gp2, cp2, kj, ej, _, cT, c0, c1, c2, c3⟩ := (hTpU _ k6'.2).at 0 (by omega)
                          simp only [Value.slice.injEq, true_and] at ej
                          obtain ⟨rfl, rfl⟩ := ej
                          rw [kid_get (t := kid a 0) (by omega)] at c0 c1 c2 cT
                          simp only [Nat.zero_mul, Nat.zero_add] at c0 c1 c2 c3
                          have hbx : Below wb.heap.size wb (wb.alloc (.cells #[.string ⟨#[]⟩, .slice none 0 0, .int .i64 0, .int .i64 0, .string ⟨#[]⟩, .complex .f64 0 0, .string ⟨#[]⟩, .string ⟨#[]⟩, .slice none 0 0, .slice none 0 0, .slice none 0 0] 73)) := (Below.refl _ _).alloc (Nat.le_refl _) _
                          have hzx := heap_alloc_new wb (.cells #[.string ⟨#[]⟩, .slice none 0 0, .int .i64 0, .int .i64 0, .string ⟨#[]⟩, .complex .f64 0 0, .string ⟨#[]⟩, .string ⟨#[]⟩, .slice none 0 0, .slice none 0 0, .slice none 0 0] 73)
                          have hwb := k6.2.size
                          have hfl := hf6.lt
                          have hrl2 := hfa.rq.1.lt
                          have k7 : RQ rb m none W1 ((wb.alloc (.cells #[.string ⟨#[]⟩, .slice none 0 0, .int .i64 0, .int .i64 0, .string ⟨#[]⟩, .complex .f64 0 0, .string ⟨#[]⟩, .string ⟨#[]⟩, .slice none 0 0, .slice none 0 0, .slice none 0 0] 73)).setRow wb.heap.size #[.string (str (kid (kid a 0) 0).text), .slice none 0 0, .int .i64 0, .int .i64 0, .string ⟨#[]⟩, .complex .f64 0 0, .string ⟨#[]⟩, .string ⟨#[]⟩, .slice none 0 0, .slice none 0 0, .slice none 0 0]) := (k6.more hbx).row wb.heap.size #[.string (str (kid (kid a 0) 0).text), .slice none 0 0, .int .i64 0, .int .i64 0, .string ⟨#[]⟩, .complex .f64 0 0, .string ⟨#[]⟩, .string ⟨#[]⟩, .slice none 0 0, .slice none 0 0, .slice none 0 0] (by omega) (by omega)
                          have k7' : Kept (fun k => k = rb) W5 ((wb.alloc (.cells #[.string ⟨#[]⟩, .slice none 0 0, .int .i64 0, .int .i64 0, .string ⟨#[]⟩, .complex .f64 0 0, .string ⟨#[]⟩, .string ⟨#[]⟩, .slice none 0 0, .slice none 0 0, .slice none 0 0] 73)).setRow wb.heap.size #[.string (str (kid (kid a 0) 0).text), .slice none 0 0, .int .i64 0, .int .i64 0, .string ⟨#[]⟩, .complex .f64 0 0, .string ⟨#[]⟩, .string ⟨#[]⟩, .slice none 0 0, .slice none 0 0, .slice none 0 0]) := ((k6'.more hbx).row wb.heap.size #[.string (str (kid (kid a 0) 0).text), .slice none 0 0, .int .i64 0, .int .i64 0, .string ⟨#[]⟩, .complex .f64 0 0, .string ⟨#[]⟩, .string ⟨#[]⟩, .slice none 0 0, .slice none 0 0, .slice none 0 0] (by have := k6'.2.size; omega) (by have := k6'.2.size; omega)).2
                          have hX7 : ((wb.alloc (.cells #[.string ⟨#[]⟩, .slice none 0 0, .int .i64 0, .int .i64 0, .string ⟨#[]⟩, .complex .f64 0 0, .string ⟨#[]⟩, .string ⟨#[]⟩, .slice none 0 0, .slice none 0 0, .slice none 0 0] 73)).setRow wb.heap.size #[.string (str (kid (kid a 0) 0).text), .slice none 0 0, .int .i64 0, .int .i64 0, .string ⟨#[]⟩, .complex .f64 0 0, .string ⟨#[]⟩, .string ⟨#[]⟩, .slice none 0 0, .slice none 0 0, .slice none 0 0]).heap[wb.heap.size]? = some (.cells #[.string (str (kid (kid a 0) 0).text), .slice none 0 0, .int .i64 0, .int .i64 0, .string ⟨#[]⟩, .complex .f64 0 0, .string ⟨#[]⟩, .string ⟨#[]⟩, .slice none 0 0, .slice none 0 0, .slice none 0 0] 73 (0, 0)) := setRow_heap6 _ _ _ _ _ _ hzx
                          go_upto_region 25 with fail
                          go_cut [12] from 40 to 178 (fun xv wx => xv = .pointer (some ⟨wb.heap.size, 0, none⟩) ∧ RQ rb m none W1 wx ∧ wx.heap[wb.heap.size]? = some (.cells #[.string (str (kid (kid a 0) 0).text), .slice none 0 0, .int .i64 0, .int .i64 0, .string ⟨#[]⟩, .complex .f64 0 0, .string ⟨#[]⟩, .string ⟨#[]⟩, .slice none 0 0, .slice none 0 0, .slice none 0 0] 73 (0, 0)) ∧ Kept (fun k => k = rb) W5 wx)
                          case first =>
                            go_wp2_with (refine wpList_store_row rfl 73 (.tmp 12) (.tmp 124) rfl wb.heap.size #[.string (str (kid (kid a 0) 0).text), .slice none 0 0, .int .i64 0, .int .i64 0, .string ⟨#[]⟩, .complex .f64 0 0, .string ⟨#[]⟩, .string ⟨#[]⟩, .slice none 0 0, .slice none 0 0, .slice none 0 0] rfl rfl 73 #[.string ⟨#[]⟩, .slice none 0 0, .int .i64 0, .int .i64 0, .string ⟨#[]⟩, .complex .f64 0 0, .string ⟨#[]⟩, .string ⟨#[]⟩, .slice none 0 0, .slice none 0 0, .slice none 0 0] hzx sizeArm rfl (by first | kernel_rfl | rfl | simp [Value.oneCell']) ?_)
                            go_meet
                            exact ⟨rfl, k7, hX7, k7'⟩
                          case rest =>
                          obtain ⟨rfl, k7, hX7, k7'⟩ := hcut
                          rename World => u7
                          have hs7 : wb.heap.size < u7.heap.size := (Array.getElem?_eq_some_iff.1 hX7).1
                          clear hbx hzx
                          have cX : u7.cell? ⟨wb.heap.size, 0, none⟩ = some (.string (str (kid (kid a 0) 0).text)) := by rw [cell_of_row _ _ 0 _ _ _ hX7]; rfl
                          have hnl : (kid (kid a 0) 0).text.length ≤ 8192 := ((TxOk_iff _).1 (kid_ok (kid_ok hao (by omega)) (by have := H0.out; omega))).1
                          have hbig := refBig (str (kid (kid a 0) 0).text) u7 (by rw [str_size]; omega)
                          rw [str_data] at hbig
                          have hdot := r6dotted (kid (kid a 0) 0).text true u7 hnl
                          clear cT
                          have hPl : ∀ u, RQ rb m none W1 u → Calls Try.prog 45 #[.pointer (some ⟨rb, 0, none⟩), .int .i64 13, .int .i64 ((kid (kid a 0) 0).place : Int)] u fun e w' => e = .returned (.tuple #[]) ∧ RQ rb m (some (13, (kid (kid a 0) 0).place)) u w' := fun u hu => r6refuse rb m none 13 (kid (kid a 0) 0).place u hu.1 (by decide)
                          have hgl : gp2 < W5.heap.size ∧ gp2 ≠ rb := by
                            obtain ⟨g9, c9, e9, hg9, _⟩ := (hTpU _ (Kept.refl _ W5)).p6 0 (by have := H0.out; omega)
                            simp only [Value.slice.injEq, Option.some.injEq, Addr.mk.injEq, true_and, and_true] at e9
                            obtain ⟨rfl, _⟩ := e9
                            exact ⟨by have := (hF _ hg9).1; have := hf5.lt; omega, (hF _ hg9).2⟩
                          go_upto_region 26 with fail
                          go_cut [134] from 40 to 178 (fun bv wx => bv = .bool (decide (bigR (kid (kid a 0) 0).text = false ∧ dotR true (kid (kid a 0) 0).text = false)) ∧ RQ rb m none W1 wx ∧ wx.heap[wb.heap.size]? = some (.cells #[.string (str (kid (kid a 0) 0).text), .slice none 0 0, .int .i64 0, .int .i64 0, .string ⟨#[]⟩, .complex .f64 0 0, .string ⟨#[]⟩, .string ⟨#[]⟩, .slice none 0 0, .slice none 0 0, .slice none 0 0] 73 (0, 0)) ∧ Kept (fun k => k = rb) W5 wx)
                          case first =>
                            cases hb : bigR (kid (kid a 0) 0).text
                            · rw [hb] at hbig
                              cases hdd : dotR true (kid (kid a 0) 0).text
                              · rw [hdd] at hdot
                                have HBB : Hid (decide (bigR (kid (kid a 0) 0).text = false ∧ dotR true (kid (kid a 0) 0).text = false) = true) := by rw [hid_iff]; simp [hb, hdd]
                                clear hb hdd
                                go_wp2_with fail
                                refine hbig.mono ?_
                                rintro e w8 ⟨rfl, hu⟩
                                obtain rfl := hu.symm
                                clear hu
                                go_wp2_with fail
                                refine hdot.mono ?_
                                rintro e w9 ⟨rfl, hb9⟩
                                go_wp2
                                go_meet
                                exact ⟨by rw [HBB.out], k7.more hb9, (hb9.block _ hs7).trans hX7, k7'.trans (kb (S := fun k => k = rb) hb9) (fun _ _ e => e) (fun _ _ e => e)⟩
                              · rw [hdd] at hdot
                                have HBB : Hid (decide (bigR (kid (kid a 0) 0).text = false ∧ dotR true (kid (kid a 0) 0).text = false) = false) := by rw [hid_iff]; simp [hb, hdd]
                                clear hb hdd
                                go_wp2_with fail
                                refine hbig.mono ?_
                                rintro e w8 ⟨rfl, hu⟩
                                obtain rfl := hu.symm
                                clear hu
                                go_wp2_with fail
                                refine hdot.mono ?_
                                rintro e w9 ⟨rfl, hb9⟩
                                go_wp2
                                go_meet
                                exact ⟨by rw [HBB.out], k7.more hb9, (hb9.block _ hs7).trans hX7, k7'.trans (kb (S := fun k => k = rb) hb9) (fun _ _ e => e) (fun _ _ e => e)⟩
                            · rw [hb] at hbig
                              have HBB : Hid (decide (bigR (kid (kid a 0) 0).text = false ∧ dotR true (kid (kid a 0) 0).text = false) = false) := by rw [hid_iff]; simp [hb]
                              clear hb
                              go_wp2_with fail
                              refine hbig.mono ?_
                              rintro e w8 ⟨rfl, hu⟩
                              obtain rfl := hu.symm
                              clear hu
                              go_wp2
                              go_meet
                              exact ⟨by rw [HBB.out], k7, hX7, k7'⟩
                          case rest =>
                          obtain ⟨rfl, k9, hX9, k9'⟩ := hcut
                          rename World => w9
                          clear k7 k7' hX7 cX hbig hdot hs7
                          have hs9 : wb.heap.size < w9.heap.size := (Array.getElem?_eq_some_iff.1 hX9).1
                          go_upto_if 134 with fail
                          go_cut [] from 40 to 178 (fun wx => RQ rb m (orR none (caseQ6 a)) W1 wx ∧ wx.heap[wb.heap.size]? = some (.cells #[.string (str (kid (kid a 0) 0).text), .slice none 0 0, .int .i64 0, .int .i64 0, .string ⟨#[]⟩, .complex .f64 0 0, .string ⟨#[]⟩, .string ⟨#[]⟩, .slice none 0 0, .slice none 0 0, .slice none 0 0] 73 (0, 0)) ∧ Kept (fun k => k = rb) W5 wx)
                          case first =>
                            by_cases hc : bigR (kid (kid a 0) 0).text = false ∧ dotR true (kid (kid a 0) 0).text = false
                            · have HC : Hid (orR none (caseQ6 a) = some (13, (kid (kid a 0) 0).place)) := by rw [hid_iff, caseQ6, if_pos hc]; rfl
                              rw [decide_eq_true hc]
                              clear hc
                              have p9 := tree_cells ((k9'.block w4.heap.size hzp5 (by omega)).trans (hNpU _ (Kept.refl _ W5)))
                              obtain ⟨p0', p1', p2', p3'⟩ := p9
                              have c1' : w9.cell? ⟨gp2, 1, none⟩ = some (.int .i64 ((kid (kid a 0) 0).place : Int)) := by
                                have h1 := World.cell?_of_block (a := ⟨gp2, 1, none⟩) (k9'.block gp2 hgl.1 hgl.2)
                                have h2 := World.cell?_of_block (a := ⟨gp2, 1, none⟩) (k6'.2.block gp2 hgl.1 hgl.2)
                                rw [h1, ← h2]
                                exact c1
                              go_wp2_with fail
                              refine (hPl _ k9).mono ?_
                              rintro e w10 ⟨rfl, hq10⟩
                              go_wp2
                              go_meet
                              exact ⟨by rw [HC.out]; exact k9.trans hq10, (hq10.2.block wb.heap.size hs9 (by omega)).trans hX9, k9'.trans hq10.2 (fun _ _ e => e) (fun _ _ e => e)⟩
                            · have HC : Hid (orR none (caseQ6 a) = none) := by rw [hid_iff, caseQ6, if_neg hc]; rfl
                              rw [decide_eq_false hc]
                              clear hc
                              go_wp2
                              go_meet
                              exact ⟨by rw [HC.out]; exact k9, hX9, k9'⟩
                          case rest =>
                            obtain ⟨hqx, hbx8, hkx⟩ := hcut
                            rename World => w8
                            have hAX : AX rb m (orR none (caseQ6 a)) W1 W5 wb.heap.size (kid (kid a 0) 0).text (.slice none 0 0) [] w8 := ⟨hqx, hkx, hbx8, World.ownsRow_nil _ _ _ _⟩
                            have hrx : rb < wb.heap.size := by have := hf6.rq.1.lt; omega
                            have h1x : W1.heap.size ≤ wb.heap.size := k6.2.size
                            have h5x : W5.heap.size ≤ wb.heap.size := k6'.2.size
                            have hn0l := hnl
                            clear hqx hbx8 hkx k9 k9' hX9 hPl hs9
                            generalize wb.heap.size = xb at *
                            clear c0 c1 c2 c3 p0 p1 p2 p3 x0 x1 x2 x3
                            go_wp2_with fail
                            go_loopg [13] ((kid a 0).kids.length - 1) (fun gj i wj => ∃ (j : Nat) (na : Option Addr) (nn nc : Nat), gj + j + 1 = (kid a 0).kids.length ∧ i = .int .i64 ((j + 1 : Nat) : Int) ∧ AX rb m (nmS a (orR none (caseQ6 a)) j) W1 W5 xb (kid (kid a 0) 0).text (.slice na nn nc) (nmT a j) wj)
                            case atStart => exact ⟨0, none, 0, 0, by have := H0.out; omega, rfl, hAX⟩
                            case round =>
                              obtain ⟨j, na, nn, nc, hgj, rfl, hA⟩ := hrel
                              rename World => wj
                              obtain ⟨p0, p1, p2, p3⟩ := tree_cells (hNpU _ hA.kp)
                              by_cases hj : j + 1 < (kid a 0).kids.length
                              · have hji : ((j + 1 : Nat) : Int) < ((kid a 0).kids.length : Int) := by omega
                                have hj0 : (0 : Int) ≤ (j : Int) + 1 := by omega
                                have hj1 : (j : Int) + 1 < ((kid a 0).kids.length : Int) := by omega
                                obtain ⟨gp3, cp3, kj, ej, _, cT, c0, c1, c2, c3⟩ := (hTpU _ hA.kp).at (j + 1) hj
                                simp only [Value.slice.injEq, Option.some.injEq, Addr.mk.injEq, true_and, and_true] at ej
                                obtain ⟨rfl, rfl⟩ := ej
                                obtain ⟨ja, jc, rfl⟩ := cT.shape
                                obtain ⟨n1, n2⟩ := nm_next a (orR none (caseQ6 a)) j hj
                                have htl : (kid a 0).kids[j + 1].text.length ≤ 8192 := ((TxOk_iff _).1 (((TxOk_iff _).1 (kid_ok hao (by omega))).2 _ (List.getElem_mem hj))).1
                                have hnm : ∀ u, Below wj.heap.size wj u → Calls Try.prog 60 #[.pointer (some ⟨rb, 0, none⟩), trv (kid a 0).kids[j + 1] (.slice ja (kid a 0).kids[j + 1].kids.length jc)] u fun e w' => e = .returned (.string (str (kid a 0).kids[j + 1].text)) ∧ RQ rb m (orR (nmS a (orR none (caseQ6 a)) j) (nameP (kid a 0).kids[j + 1])) u w' := fun u hu => r6name rb m _ _ _ u (hA.rq.1.below hu) htl
                                unfold trv at hnm
                                have x1 : wj.cell? ⟨xb, 1, none⟩ = some (.slice na nn nc) := by rw [cell_of_row _ _ 1 _ _ _ hA.bx]; rfl
                                have G0 : Below wj.heap.size wj wj.drew := (Below.refl _ _).drew
                                have N1 := hidden n1
                                have N2 := hidden n2
                                have hSl : (nmT a j).length + 1 ≤ 100000 := by have := nmT_len a j; omega
                                clear n1 n2 cT
                                generalize (kid a 0).kids[j + 1] = kk at *
                                try clear HE
                                try clear HI
                                try clear hNX hBD
                                try clear hrowa hKa hgood hrow hKw
                                try clear hfw
                                try clear hTU
                                try clear hTaU hNaU
                                try clear hTpU hNpU
                                try clear hf4 hf5 hf6
                                try clear hx2
                                try clear hRI hT
                                go_wp2_with fail
                                go_region_law (first
                                  | (refine step_textR (by rfl) (.tmp 150) (.tmp 158) (by rfl) (xb + 1) _ (nmT a j) (by rfl) (hA5.row.alloc _) kk.text _ 1 (by rfl) (cells_new _ _ _) hSl hB5 ?_; intro g7 cap7 w7 ho7 hg7; obtain ⟨c7, f7, hA7⟩ := hA5.push hrx h1x h5x ho7 hg7)
                                  | (go_simp; go_at_call 60; refine (hnm _ (by assumption)).mono ?_; rintro e w5 ⟨rfl, hq5⟩; have hA5 := (hA.call hrx (RQ.of hA.rq.1 G0)).call hrx hq5; have c5 : w5.cell? ⟨xb, 1, none⟩ = some (.slice na nn nc) := (by rw [cell_of_row _ _ 1 _ _ _ hA5.bx]; rfl); have c6 : (w5.alloc (.cells #[.string (str kk.text)] 9)).cell? ⟨xb, 1, none⟩ = some (.slice na nn nc) := (World.cell?_of_block (Below.heap_alloc _ _ _ hA5.lt)).trans c5; have hB5 : xb + 1 ≤ (w5.alloc (.cells #[.string (str kk.text)] 9)).heap.size := (by have := hA5.lt; simp; omega)))
                                all_goals (
                                  rw [N1.out, N2.out] at hA7
                                  clear hnm x1 c5 c6 c7 f7 hB5 ho7 hg7 hA5 hq5 hA
                                  go_wp2
                                  go_roundg ((kid a 0).kids.length - (j + 2))
                                  case measure => omega
                                  case rel => exact ⟨j + 1, some ⟨g7, 0, none⟩, (nmT a j).length + 1, cap7, by omega, by go_num, hA7⟩)
                              · have hji : ¬ (((j + 1 : Nat) : Int) < ((kid a 0).kids.length : Int)) := by omega
                                have hji' : ¬ ((j : Int) + 1 < ((kid a 0).kids.length : Int)) := by omega
                                obtain ⟨n1, n2⟩ := nm_all a (orR none (caseQ6 a)) j (by omega)
                                rw [n1, n2] at hA
                                clear n1 n2
                                obtain ⟨st2, hst2⟩ : ∃ st2, orR (orR none (caseQ6 a)) (seqP (((kid a 0).kids.drop 1).map nameP)) = st2 := ⟨_, rfl⟩
                                rw [hst2] at hA
                                have HST2 := hidden hst2
                                clear hst2
                                obtain ⟨r0, r1, r2, _, _⟩ := hA.rq.1.cells
                                have hfA := hfa.call hlt hA.rq
                                have hrlt := hfa.rq.1.lt
                                have hs2w : w.heap.size + 3 ≤ w2.heap.size := by have := hf2.lt; omega
                                have hrowA := hrowa.kept cArm_ok hA.rq.2 (fun b hb e => by omega)
                                have hKA : Kept (fun b => b = rb ∨ b = w.heap.size + 1) w2 wj := hKa.trans hA.rq.2 (fun _ _ e => e) (fun _ _ e => .inl e)
                                have hs2j : w2.heap.size ≤ wj.heap.size := hKA.size
                                have hk8 : accs.length ≤ 8 := by omega
                                cases st2 with
                                | some e0 =>
                                  have hne : (((e0.1 : Nat) : Int) == 0) = false := by have := hA.rq.1.2 e0 rfl; rw [beq_eq_false_iff_ne]; omega
                                  simp only [Option.getD_some] at r1 r2
                                  obtain ⟨hb1, hb2⟩ := arm_bad (m := m) HN.out H5.out HW.out HST2.out
                                  have hnx := hNX ((((kid (kid a 0) 0).text, ((kid a 0).kids.drop 1).map (·.text)), ex0)) (hb2 _)
                                  rw [hb1] at hnx
                                  have hbx := hA.bx
                                  have hcel := fun (F : Nat → Prop) (u : World) => cArm_bad F u (kid (kid a 0) 0).text na nn nc (((kid a 0).kids.drop 1).map (·.text))
                                  unfold armXr at hbx hcel
                                  obtain ⟨x0, x1, x2, x3, x4, x5, x6, x7, x8, x9, x10⟩ := eleven hbx
                                  have hgd : Hid (some e0 = none → ∀ p ∈ accs ++ [((((kid (kid a 0) 0).text, ((kid a 0).kids.drop 1).map (·.text)), ex0), false)], p.2 = true) := fun e => by cases e
                                  clear hb1 hb2 hNX hBD HST2 HN H5 HW H0
                                  generalize ((kid a 0).kids.drop 1).map (·.text) = vs at *
                                  obtain ⟨⟨y0, y1, y2, y3, y4, y5, y6, y7, y8⟩, yf⟩ := nine9 hfA.eb
                                  have hw9 : w2.heap.size ≤ wj.heap.size := hKA.size
                                  obtain ⟨yy, hyy⟩ : ∃ yy : ((List UInt8 × List (List UInt8)) × Ex) × Bool, yy = ((((kid (kid a 0) 0).text, vs), ex0), false) := ⟨_, rfl⟩
                                  have hrowX : ∀ o, RowG cArm 73 11 w2.heap.size (wj.alloc o) (.slice aa an ac) accs := fun o => hrowA.kept cArm_ok (kb (S := fun _ => False) ((Below.refl _ wj).alloc (Nat.le_refl _) _)) (fun _ _ h => h)
                                  have hcelX : ∀ o, cArm (fun g => w2.heap.size ≤ g ∧ g < (wj.alloc o).heap.size ∧ some g ≠ (Value.slice aa an ac).ownBlock) (wj.alloc o) yy [.string (str (kid (kid a 0) 0).text), .slice na nn nc, .int .i64 0, .int .i64 0, .string ⟨#[]⟩, .complex .f64 0 0, .string ⟨#[]⟩, .string ⟨#[]⟩, .slice none 0 0, .slice none 0 0, .slice none 0 0] := fun o => by
                                    rw [hyy]
                                    exact hcel _ _
                                  rw [← hyy] at hgd
                                  have HYY := hidden hyy
                                  have hHX := hidden hcelX
                                  clear hyy hcel hcelX
                                  go_wp2_with (at_builtin; refine append_rowG cArm_ok rfl (.tmp 174) (.tmp 176) 25 rfl Try.underlying25 infoAr (by decide) _ accs rfl (hrowX _) yy _ _ 1 rfl (cells_new _ _ _) (hHX.out _) ?len ?byt ?hB ?next)
                                  case len => unfold maxLen; omega
                                  case byt => omega
                                  case hB => first | omega | (simp; omega)
                                  case next =>
                                    intro g7 cap7 w7 hrow7 hg7
                                    have hF7 := hfA.grown hlt hg7 (fun q hq => by have := (hrowA.block hq).1; omega)
                                    have hF8 : FS rb m w w.heap.size #[.int .i64 (t.kind : Int), .int .i64 (t.place : Int), .string (str t.text), .slice (some ⟨g, 0, none⟩) t.kids.length kc] (some e0) #[.int .i64 9, .int .i64 (t.place : Int), .string ⟨#[]⟩, .complex .f64 0 0, .string ⟨#[]⟩, .string ⟨#[]⟩, .slice va vn vc, .slice none 0 0, .slice (some ⟨g7, 0, none⟩) (accs.length + 1) cap7] (w7.setCell ⟨w.heap.size + 1, 8, none⟩ (.slice (some ⟨g7, 0, none⟩) (accs.length + 1) cap7)) := hF7.put hlt 8 (.slice (some ⟨g7, 0, none⟩) (accs.length + 1) cap7)
                                    have hK8 : Kept (fun b => b = rb ∨ b = w.heap.size + 1) w2 (w7.setCell ⟨w.heap.size + 1, 8, none⟩ (.slice (some ⟨g7, 0, none⟩) (accs.length + 1) cap7)) := ((hKA.alloc _).grown hg7 (fun q hq hq' => by have := (hrowA.block hq).1; omega)).setCell (p := ⟨w.heap.size + 1, 8, none⟩) (fun _ => .inr rfl) _
                                    have hrow8 := hrow7.kept cArm_ok (Kept.setCell (S := fun b => b = w.heap.size + 1) (Kept.refl _ w7) (p := ⟨w.heap.size + 1, 8, none⟩) (fun _ => rfl) (.slice (some ⟨g7, 0, none⟩) (accs.length + 1) cap7)) (fun b hb e => by omega)
                                    clear y0 y1 y2 y3 y4 y5 y6 y7 y8 yf
                                    obtain ⟨⟨y0, y1, y2, y3, y4, y5, y6, y7, y8⟩, yf⟩ := nine9 hF7.eb
                                    have HNX := hnx
                                    clear hnx hrow7 hg7 hF7 hfA hrowA hKA x0 x1 x2 x3 x4 x5 x6 x7 x8 x9 x10 hrowX hHX
                                    go_wp2
                                    go_roundg (t.kids.length - (k + 1))
                                    case measure => omega
                                    case rel => exact ⟨k + 1, accs ++ [yy], (some e0), some ⟨g7, 0, none⟩, accs.length + 1, cap7, by omega, by omega, by go_num, by rw [show k + 1 - 2 = k - 2 + 1 by omega, List.map_append, HYY.out]; exact HNX, hgd, by simp; omega, hF8, hrow8, hK8⟩
                                | none =>
                                  simp only [Option.getD_none] at r1 r2
                                  obtain ⟨gx, cx, kx, ee, _, bT, b0, b1, b2, b3⟩ := (hTaU _ hA.rq.2).at 1 (by omega)
                                  simp only [Value.slice.injEq, Option.some.injEq, Addr.mk.injEq, true_and, and_true] at ee
                                  obtain ⟨rfl, rfl⟩ := ee
                                  rw [kid_get (t := a) (by omega)] at b0 b1 b2 bT
                                  simp only [Nat.one_mul, Nat.reduceAdd] at b0 b1 b2 b3
                                  obtain ⟨ka, kc9, rfl⟩ := bT.shape
                                  obtain ⟨x0, x1, x2, x3⟩ := tree_cells (hNaU _ hA.rq.2)
                                  have hex := HI.out (kid a 1) (by have := kid_nodes (t := a) (i := 1) (by omega); omega) (kid_ok hao (by omega)) F rb _ wj hA.rq.1 bT (fun b hb => ⟨by have := (hF b hb).1; have := hfA.lt; omega, (hF b hb).2⟩)
                                  unfold trv at hex
                                  go_wp2_with fail
                                  refine hex.mono ?_
                                  rintro e w5 ⟨x, kv5, pv5, av5, rfl, ⟨kva, kvn, kvc, rfl⟩, ⟨pva, pvn, pvc, rfl⟩, ⟨ava, avn, avc, rfl⟩, hq5, hx5⟩
                                  have hA5 := hA.call hrx hq5
                                  have hf5x := hfA.call hlt hq5
                                  have hs5 := hq5.2.size
                                  have hxl := hA.lt
                                  have hag := arm_good (m := m) HN.out H5.out HW.out HST2.out
                                  have hnx := hNX ((((kid (kid a 0) 0).text, ((kid a 0).kids.drop 1).map (·.text)), x)) (arm_val HN.out H5.out HW.out x (fun b hb => (hx5 b hb).1))
                                  rw [← hag] at hnx
                                  have hgd : Hid (orR none (exprP m (kid a 1)) = none → ∀ p ∈ accs ++ [((((kid (kid a 0) 0).text, ((kid a 0).kids.drop 1).map (·.text)), x), isOk6 (exprP m (kid a 1)))], p.2 = true) := fun e p hp => by
                                    rcases List.mem_append.1 hp with h | h
                                    · first | exact hgood.out rfl p h | exact hgood.out trivial p h
                                    · rw [List.mem_singleton.1 h]
                                      exact isOk6_none e
                                  have hXI : isOk6 (exprP m (kid a 1)) = true → XI (Fq wj w5) w5 (.slice kva kvn kvc) (.slice pva pvn pvc) (.slice ava avn avc) x := fun e => by
                                    cases hr : exprP m (kid a 1) with
                                    | error e9 => rw [hr] at e; cases e
                                    | ok y => exact (hx5 y hr).1 ▸ (hx5 y hr).2
                                  have hK5 : Kept (fun b => b = rb ∨ b = w.heap.size + 1) w2 w5 := hKA.trans hq5.2 (fun _ _ e => e) (fun _ _ e => .inl e)
                                  have hbx5 := hA5.bx
                                  clear hex hag hx5 hNX hBD HST2 HN H5 HW H0 b0 b1 b2 b3 x0 x1 x2 x3 bT r0 r1 r2
                                  unfold exv
                                  go_upto_region 34 with (refine wpList_part6 rfl 27 (.tmp 172) (.tmp 171) rfl xb 2 (exc x (.slice kva kvn kvc) (.slice pva pvn pvc) (.slice ava avn avc)) rfl rfl (armXr (kid (kid a 0) 0).text (.slice na nn nc)) 73 hbx5 (by show 2 + 9 ≤ 11; omega) sizeEx (by simp [exc, Value.oneCell']) ?_; intro w6 hb6 hk6)
                                  have hbx6 : w6.heap[xb]? = some (.cells #[.string (str (kid (kid a 0) 0).text), .slice na nn nc, .int .i64 (x.kind : Int), .int .i64 (x.place : Int), .string (str x.name), .complex .f64 (floatOfInt .f64 x.re) (floatOfInt .f64 x.im), .string (str x.text), .string (str x.ty), .slice kva kvn kvc, .slice pva pvn pvc, .slice ava avn avc] 73 (0, 0)) := hb6
                                  obtain ⟨x0, x1, x2, x3, x4, x5, x6, x7, x8, x9, x10⟩ := eleven hbx6
                                  have hf6x := hf5x.turn hlt hk6 (by have := hfa.lt; omega)
                                  have K16 : Kept (fun k => k = rb) W1 w6 := hA5.rq.2.trans hk6 (fun _ _ e => e) (fun y hy e => by omega)
                                  have hrow6 := hrowa.kept cArm_ok K16 (fun b hb e => by omega)
                                  have hK6 : Kept (fun b => b = rb ∨ b = w.heap.size + 1) w2 w6 := hK5.trans hk6 (fun _ _ e => e) (fun y hy e => by have := hKa.size; omega)
                                  have hcel := fun (o : Obj) => arm_cel (B := w2.heap.size) (v := .slice aa an ac) (fun g hg => (hrowa.block hg).2) hKa.size h1x hxl hs5 hk6 hA5.row hXI ⟨_, _, _, rfl⟩ ⟨_, _, _, rfl⟩ ⟨_, _, _, rfl⟩ ⟨_, _, _, rfl⟩ (kid (kid a 0) 0).text o
                                  clear hb6 hbx6 hbx5 hk6 hq5 hA5 hf5x hK5 hXI K16
                                  generalize ((kid a 0).kids.drop 1).map (·.text) = vs at *
                                  obtain ⟨⟨y0, y1, y2, y3, y4, y5, y6, y7, y8⟩, yf⟩ := nine9 hf6x.eb
                                  have hw9 : w2.heap.size ≤ w6.heap.size := hK6.size
                                  obtain ⟨yy, hyy⟩ : ∃ yy : ((List UInt8 × List (List UInt8)) × Ex) × Bool, yy = ((((kid (kid a 0) 0).text, vs), x), isOk6 (exprP m (kid a 1))) := ⟨_, rfl⟩
                                  have hrowX : ∀ o, RowG cArm 73 11 w2.heap.size (w6.alloc o) (.slice aa an ac) accs := fun o => hrow6.kept cArm_ok (kb (S := fun _ => False) ((Below.refl _ w6).alloc (Nat.le_refl _) _)) (fun _ _ h => h)
                                  have hcelX : ∀ o, cArm (fun g => w2.heap.size ≤ g ∧ g < (w6.alloc o).heap.size ∧ some g ≠ (Value.slice aa an ac).ownBlock) (w6.alloc o) yy [.string (str (kid (kid a 0) 0).text), .slice na nn nc, .int .i64 (x.kind : Int), .int .i64 (x.place : Int), .string (str x.name), .complex .f64 (floatOfInt .f64 x.re) (floatOfInt .f64 x.im), .string (str x.text), .string (str x.ty), .slice kva kvn kvc, .slice pva pvn pvc, .slice ava avn avc] := fun o => by
                                    rw [hyy]
                                    exact hcel _
                                  rw [← hyy] at hgd
                                  have HYY := hidden hyy
                                  have hHX := hidden hcelX
                                  clear hyy hcel hcelX
                                  go_wp2_with (at_builtin; refine append_rowG cArm_ok rfl (.tmp 174) (.tmp 176) 25 rfl Try.underlying25 infoAr (by decide) _ accs rfl (hrowX _) yy _ _ 1 rfl (cells_new _ _ _) (hHX.out _) ?len ?byt ?hB ?next)
                                  case len => unfold maxLen; omega
                                  case byt => omega
                                  case hB => first | omega | (simp; omega)
                                  case next =>
                                    intro g7 cap7 w7 hrow7 hg7
                                    have hF7 := hf6x.grown hlt hg7 (fun q hq => by have := (hrow6.block hq).1; omega)
                                    have hF8 : FS rb m w w.heap.size #[.int .i64 (t.kind : Int), .int .i64 (t.place : Int), .string (str t.text), .slice (some ⟨g, 0, none⟩) t.kids.length kc] (orR none (exprP m (kid a 1))) #[.int .i64 9, .int .i64 (t.place : Int), .string ⟨#[]⟩, .complex .f64 0 0, .string ⟨#[]⟩, .string ⟨#[]⟩, .slice va vn vc, .slice none 0 0, .slice (some ⟨g7, 0, none⟩) (accs.length + 1) cap7] (w7.setCell ⟨w.heap.size + 1, 8, none⟩ (.slice (some ⟨g7, 0, none⟩) (accs.length + 1) cap7)) := hF7.put hlt 8 (.slice (some ⟨g7, 0, none⟩) (accs.length + 1) cap7)
                                    have hK8 : Kept (fun b => b = rb ∨ b = w.heap.size + 1) w2 (w7.setCell ⟨w.heap.size + 1, 8, none⟩ (.slice (some ⟨g7, 0, none⟩) (accs.length + 1) cap7)) := ((hK6.alloc _).grown hg7 (fun q hq hq' => by have := (hrow6.block hq).1; omega)).setCell (p := ⟨w.heap.size + 1, 8, none⟩) (fun _ => .inr rfl) _
                                    have hrow8 := hrow7.kept cArm_ok (Kept.setCell (S := fun b => b = w.heap.size + 1) (Kept.refl _ w7) (p := ⟨w.heap.size + 1, 8, none⟩) (fun _ => rfl) (.slice (some ⟨g7, 0, none⟩) (accs.length + 1) cap7)) (fun b hb e => by omega)
                                    clear y0 y1 y2 y3 y4 y5 y6 y7 y8 yf
                                    obtain ⟨⟨y0, y1, y2, y3, y4, y5, y6, y7, y8⟩, yf⟩ := nine9 hF7.eb
                                    have HNX := hnx
                                    clear hnx hrow7 hg7 hF7 hf6x hrow6 hK6 x0 x1 x2 x3 x4 x5 x6 x7 x8 x9 x10 hrowX hHX
                                    go_wp2
                                    go_roundg (t.kids.length - (k + 1))
                                    case measure => omega
                                    case rel => exact ⟨k + 1, accs ++ [yy], (orR none (exprP m (kid a 1))), some ⟨g7, 0, none⟩, accs.length + 1, cap7, by omega, by omega, by go_num, by rw [show k + 1 - 2 = k - 2 + 1 by omega, List.map_append, HYY.out]; exact HNX, hgd, by simp; omega, hF8, hrow8, hK8⟩

        · have hki : ¬ (k : Int) < (t.kids.length : Int) := by omega
          have hfin : (t.kids.drop 2).length ≤ k - 2 ∨ sk ≠ none := .inl (by simp; omega)
          have hf1' : sk = orR (orR none (seqP ([kid t 1].map (exprP m)))) (seqP ((t.kids.drop 2).map (armF m))) := (hrun.out.fin hfin).1
          have hf2' := (hrun.out.fin hfin).2
          obtain ⟨⟨e0, e1, e2, e3, e4, e5, e6, e7, e8⟩, ef⟩ := nine9 hfw.eb
          obtain ⟨hd1, hd2, hd3, hd4⟩ := hfw.done hlt
          have hrs := hfw.rs
          go_wp2_with (refine wpList_store_row rfl 27 (.tmp 6) (.tmp 179) rfl (w.heap.size + 2) #[.int .i64 9, .int .i64 (t.place : Int), .string ⟨#[]⟩, .complex .f64 0 0, .string ⟨#[]⟩, .string ⟨#[]⟩, .slice va vn vc, .slice none 0 0, .slice aa an ac] rfl rfl 27 #[.int .i64 0, .int .i64 0, .string ⟨#[]⟩, .complex .f64 0 0, .string ⟨#[]⟩, .string ⟨#[]⟩, .slice none 0 0, .slice none 0 0, .slice none 0 0] hrs sizeEx rfl (by first | kernel_rfl | rfl | simp [Value.oneCell']) ?_)
          (try simp only [Exit.inBlock, Exit.then])
          refine bodyPost_ret (res_cell1 rfl _ _ (w.heap.size + 2) 27 #[.int .i64 9, .int .i64 (t.place : Int), .string ⟨#[]⟩, .complex .f64 0 0, .string ⟨#[]⟩, .string ⟨#[]⟩, .slice va vn vc, .slice none 0 0, .slice aa an ac] (0, 0) _ rfl hd2 Try.underlying27 rfl sizeEx) rfl ?_
          have hE := HE.out
          refine exq_of t 9 [] [] _ _ _ ⟨_, _, _, rfl⟩ ⟨_, _, _, rfl⟩ ⟨_, _, _, rfl⟩ (by rw [hE, ← orR_bind (f := fun (ks : List Ex) (az : List ((List UInt8 × List (List UInt8)) × Ex)) => (⟨9, t.place, [], 0, 0, [], [], ks, [], az.map (·.1), az.map (·.2)⟩ : Ex)), ← hf1']; exact hd1) (fun y hy => ?_)
          rw [hE] at hy
          cases hs : seqP ([kid t 1].map (exprP m)) with
          | error e => rw [hs] at hy; cases hy
          | ok ks =>
            rw [hs] at hy
            cases hz : seqP ((t.kids.drop 2).map (armF m)) with
            | error e => rw [hz] at hy; cases hy
            | ok az =>
              rw [hz] at hy
              cases hy
              have hs1 : (orR none (seqP ([kid t 1].map (exprP m)))) = none := by rw [hs]; rfl
              have hsk : sk = none := by rw [hf1', hs1, hz]; rfl
              have haz := hf2' hs1 az hz
              subst haz
              have hrs := hfw.rs
              have hfl := hfw.lt
              have hsz2 := hKw.size
              have hkeep : ∀ b, w.heap.size + 3 ≤ b → (wr.setRow (w.heap.size + 2) #[.int .i64 9, .int .i64 (t.place : Int), .string ⟨#[]⟩, .complex .f64 0 0, .string ⟨#[]⟩, .string ⟨#[]⟩, .slice va vn vc, .slice none 0 0, .slice aa an ac]).heap[b]? = wr.heap[b]? := fun b hb => hd3 b (by omega)
              refine ⟨ks, [], _, _, rfl, (hx2 (by simp) ks hs).frame (fun b hb => ⟨⟨by have := hb.1; omega, by rw [hd4]; have := hb.2; omega⟩, ?_⟩), TxR2.nil _ _, (arm_row hrow (hgood.out hsk)).frame (fun b hb => ⟨⟨by have := hb.1; omega, by rw [hd4]; exact hb.2⟩, hkeep b (by have := hb.1; omega)⟩)⟩
              rw [hkeep b (by have := hb.1; omega), hKw.block b hb.2 (fun e => by have := hb.1; have := hlt; omega)]

end Go.Proofs.Ytcokihblicgbpaa
