/-
  The document's own reader of modules: parameters.
-/
import Derived.Test.YtcokihblicgbpaaRefBZ
namespace Go.Proofs.Ytcokihblicgbpaa
open Go.RowKit

set_option maxHeartbeats 4000000 in
set_option maxRecDepth 1000000 in
theorem r6params (F : Nat → Prop) (rb : Nat) (m : List UInt8) (st : Option (Nat × Nat)) (t : Tr) (kv : Value) (w : World) (hm : m.length ≤ 140737488351232) (h : RI w rb m st) (hT : TL F w kv t.kids) (hF : ∀ g, F g → g < w.heap.size ∧ g ≠ rb) (htx : TxOk t) (hnd : nodes t ≤ 8192) :
    Calls Try.prog 62 #[.pointer (some ⟨rb, 0, none⟩), trv t kv] w fun e w' => ∃ v, e = .returned v ∧ (∃ a n c, v = .slice a n c) ∧ RQ rb m (orR st (seqP (t.kids.map (paramP m)))) w w' ∧ (st = none → ∀ ps, seqP (t.kids.map (paramP m)) = .ok ps → TxR2 (Fq w w') w' v ps) := by
  obtain ⟨ka, kc, rfl⟩ := hT.shape
  have hb : Below w.heap.size w (w.alloc (.cells #[.int .i64 (t.kind : Int), .int .i64 (t.place : Int), .string (str t.text), .slice ka t.kids.length kc] 43)) := (Below.refl _ w).alloc (Nat.le_refl _) _
  have hN := box4_cells w t (.slice ka t.kids.length kc)
  have hz : w.heap.size < (w.alloc (.cells #[.int .i64 (t.kind : Int), .int .i64 (t.place : Int), .string (str t.text), .slice ka t.kids.length kc] 43)).heap.size := by simp
  have hz1 : (w.alloc (.cells #[.int .i64 (t.kind : Int), .int .i64 (t.place : Int), .string (str t.text), .slice ka t.kids.length kc] 43)).heap.size ≤ w.heap.size + 1 := by simp
  have h0 := RQ.of h hb
  have hlt := h.lt
  have hkl := kids_lt6 t
  have hTU : ∀ u, Kept (fun k => k = rb) w u → TL F u (.slice ka t.kids.length kc) t.kids := fun u hu => hT.frame fun g hg => ⟨hg, hu.block g (hF g hg).1 (hF g hg).2⟩
  have hNU : ∀ u, Kept (fun k => k = rb) (w.alloc (.cells #[.int .i64 (t.kind : Int), .int .i64 (t.place : Int), .string (str t.text), .slice ka t.kids.length kc] 43)) u → u.heap[w.heap.size]? = some (.cells #[.int .i64 (t.kind : Int), .int .i64 (t.place : Int), .string (str t.text), .slice ka t.kids.length kc] 43 (0, 0)) := fun u hu => (hu.block w.heap.size hz (by omega)).trans hN
  have HR := hidden (Run.start st (paramP m) t.kids)
  unfold trv
  clear hT hN
  go_enter Try.func62, Try.ntmps62
  go_wp2
  generalize (w.alloc (.cells #[.int .i64 (t.kind : Int), .int .i64 (t.place : Int), .string (str t.text), .slice ka t.kids.length kc] 43)) = W1 at *
  go_loopg [5, 6] t.kids.length (fun gk o i wr => ∃ (k : Nat) (acc : List (List UInt8 × List UInt8)) (sk : Option (Nat × Nat)), gk + k = t.kids.length ∧ i = .int .i64 (k : Int) ∧ Hid (Run st (paramP m) t.kids k acc sk) ∧ acc.length ≤ k ∧ RowG cPar 40 2 (w.heap.size + 1) wr o acc ∧ RQ rb m sk W1 wr)
  case atStart => exact ⟨0, [], st, by omega, rfl, HR, by simp, RowG.nil _ _ _ _ _, h0.1, Kept.refl _ _⟩
  case round =>
    obtain ⟨k, acc, sk, hg, rfl, hrun, hal, hrow, hq⟩ := hrel
    clear HR
    have hqw : RQ rb m sk w wr := ⟨hq.1, (kb (S := fun k => k = rb) hb).trans hq.2 (fun _ _ e => e) (fun _ _ e => e)⟩
    obtain ⟨t0, t1, t2, t3⟩ := tree_cells (hNU _ hq.2)
    obtain ⟨r0, r1, r2, _, _⟩ := hq.1.cells
    obtain ⟨oa, oc, rfl⟩ := hrow.shape
    have hszr := hq.2.size
    by_cases hk : k < t.kids.length
    · have hki : (k : Int) < (t.kids.length : Int) := by omega
      cases sk with
      | some e0 =>
        have hne : (((e0.1 : Nat) : Int) == 0) = false := by have := hq.1.2 e0 rfl; rw [beq_eq_false_iff_ne]; omega
        obtain ⟨hf1, hf2⟩ := hrun.out.fin (.inr (by simp))
        rw [hf1] at hqw
        have hp2 := par_row hrow
        simp only [Option.getD_some] at r1 r2
        clear hrun hrow
        go_wp2
        go_ret
        exact ⟨_, rfl, ⟨_, _, _, rfl⟩, hqw, fun hs ps hps => by rw [← hf2 hs ps hps]; exact hp2.frame fun g hg => ⟨⟨by omega, hg.2⟩, rfl⟩⟩
      | none =>
        simp only [Option.getD_none] at r1 r2
        obtain ⟨g, cap, pv, e1, hgF, hTp, q0, q1, q2, q3⟩ := (hTU _ hqw.2).at k hk
        simp only [Value.slice.injEq, true_and] at e1
        obtain ⟨rfl, rfl⟩ := e1
        obtain ⟨pa, pc, rfl⟩ := hTp.shape
        have hNX := fun x hx => hidden (hrun.out.next hk x hx)
        have hBD := fun e he => hidden (hrun.out.bad hk e he)
        have hpo := ((TxOk_iff t).1 htx).2 _ (List.getElem_mem hk)
        have hpn : nodes t.kids[k] ≤ 8192 := by have := mem_nodes (List.getElem_mem hk); have h2 := kid_nodes (t := t) hk; rw [← kid_get hk] at h2; omega
        generalize t.kids[k] = p at *
        clear hrun
        have hbp : Below wr.heap.size wr (wr.alloc (.cells #[.int .i64 (p.kind : Int), .int .i64 (p.place : Int), .string (str p.text), .slice pa p.kids.length pc] 43)) := (Below.refl _ _).alloc (Nat.le_refl _) _
        have hNp := box4_cells wr p (.slice pa p.kids.length pc)
        have hzp : wr.heap.size < (wr.alloc (.cells #[.int .i64 (p.kind : Int), .int .i64 (p.place : Int), .string (str p.text), .slice pa p.kids.length pc] 43)).heap.size := by simp
        have h1 : RQ rb m none wr (wr.alloc (.cells #[.int .i64 (p.kind : Int), .int .i64 (p.place : Int), .string (str p.text), .slice pa p.kids.length pc] 43)) := RQ.of hq.1 hbp
        have hrl := hq.1.lt
        have hNPU : ∀ u, Kept (fun k => k = rb) (wr.alloc (.cells #[.int .i64 (p.kind : Int), .int .i64 (p.place : Int), .string (str p.text), .slice pa p.kids.length pc] 43)) u → u.heap[wr.heap.size]? = some (.cells #[.int .i64 (p.kind : Int), .int .i64 (p.place : Int), .string (str p.text), .slice pa p.kids.length pc] 43 (0, 0)) := fun u hu => (hu.block wr.heap.size hzp (by omega)).trans hNp
        have hTPU : ∀ u, Kept (fun k => k = rb) (wr.alloc (.cells #[.int .i64 (p.kind : Int), .int .i64 (p.place : Int), .string (str p.text), .slice pa p.kids.length pc] 43)) u → TL F u (.slice pa p.kids.length pc) p.kids := fun u hu => (hTp.below hbp (fun g hg => Nat.lt_of_lt_of_le (hF g hg).1 hqw.2.size)).frame fun g hg => ⟨hg, hu.block g (by have := (hF g hg).1; have := hqw.2.size; omega) (hF g hg).2⟩
        have hop := r6open p (.slice pa p.kids.length pc) (wr.alloc (.cells #[.int .i64 (p.kind : Int), .int .i64 (p.place : Int), .string (str p.text), .slice pa p.kids.length pc] 43))
        unfold trv at hop
        obtain ⟨p0, p1, p2, p3⟩ := tree_cells hNp
        clear hTp
        go_wp2_with fail
        generalize (wr.alloc (.cells #[.int .i64 (p.kind : Int), .int .i64 (p.place : Int), .string (str p.text), .slice pa p.kids.length pc] 43)) = W2 at *
        refine hop.mono ?_
        rintro e w3 ⟨rfl, hb3⟩
        have h3 : RQ rb m none W2 w3 := RQ.of h1.1 hb3
        cases hd : decide (p.kind = 1)
        · have hpb : paramP m p = .error (12, p.place) := by rw [paramP, if_neg (fun hc => by simp [hc.1] at hd)]
          have hbd := hBD _ hpb
          have hr := r6refuse rb m none 12 p.place w3 h3.1 (by decide)
          obtain ⟨x0, x1, x2, x3⟩ := tree_cells (hNPU _ h3.2)
          clear hNX hBD hpb
          go_wp2_with fail
          refine hr.mono ?_
          rintro e wz ⟨rfl, hqz⟩
          have hfin : RQ rb m (orR st (seqP (t.kids.map (paramP m)))) w wz := by rw [hbd.out]; exact (hqw.trans (h1.trans h3)).trans hqz
          have hno : st = none → ∀ ps, seqP (t.kids.map (paramP m)) = .ok ps → TxR2 (Fq w wz) wz (.slice oa acc.length oc) ps := fun hs ps hps => by
            have hb9 := hbd.out
            rw [hs, hps] at hb9
            cases hb9
          clear hr hqz hbd
          go_wp2
          go_ret
          exact ⟨_, rfl, ⟨_, _, _, rfl⟩, hfin, hno⟩
        · have hk1 := hidden (of_decide_eq_true hd)
          clear hd
          obtain ⟨x0, x1, x2, x3⟩ := tree_cells (hNPU _ h3.2)
          by_cases hl2 : p.kids.length = 2
          case neg =>
            have hlb : ((p.kids.length : Int) != 2) = true := by rw [bne_iff_ne]; omega
            have hpb : paramP m p = .error (12, p.place) := by rw [paramP, if_neg (fun hc => hl2 hc.2.1)]
            have hbd := hBD _ hpb
            have hr := r6refuse rb m none 12 p.place w3 h3.1 (by decide)
            obtain ⟨x0, x1, x2, x3⟩ := tree_cells (hNPU _ h3.2)
            clear hNX hBD hpb
            go_wp2_with fail
            refine hr.mono ?_
            rintro e wz ⟨rfl, hqz⟩
            have hfin : RQ rb m (orR st (seqP (t.kids.map (paramP m)))) w wz := by rw [hbd.out]; exact (hqw.trans (h1.trans h3)).trans hqz
            have hno : st = none → ∀ ps, seqP (t.kids.map (paramP m)) = .ok ps → TxR2 (Fq w wz) wz (.slice oa acc.length oc) ps := fun hs ps hps => by
              have hb9 := hbd.out
              rw [hs, hps] at hb9
              cases hb9
            clear hr hqz hbd
            go_wp2
            go_ret
            exact ⟨_, rfl, ⟨_, _, _, rfl⟩, hfin, hno⟩
          have hlb : ((p.kids.length : Int) != 2) = false := by rw [bne_eq_false_iff_eq]; omega
          obtain ⟨gp, capp, kv0, e0, hgp, hT0, a0, a1, a2, a3⟩ := (hTPU _ h3.2).at 0 (by omega)
          simp only [Value.slice.injEq, true_and] at e0
          obtain ⟨rfl, rfl⟩ := e0
          rw [kid_get (t := p) (by omega)] at a0 a1 a2 hT0
          simp only [Nat.zero_mul, Nat.zero_add] at a0 a1 a2 a3
          obtain ⟨k0a, k0c, rfl⟩ := hT0.shape
          have hlp : (0 : Int) < (p.kids.length : Int) := by omega
          have hlq : (1 : Int) < (p.kids.length : Int) := by omega
          have hat := r6atom (kid p 0) (.slice k0a (kid p 0).kids.length k0c) w3
          unfold trv at hat
          have HL := hidden hl2
          clear hl2
          go_wp2_with fail
          refine hat.mono ?_
          rintro e w4 ⟨rfl, hb4⟩
          have h4 : RQ rb m none W2 w4 := h3.more hb4
          clear x0 x1 x2 x3 hat
          cases hd : decide ((kid p 0).kind = 3)
          · have hpb : paramP m p = .error (12, p.place) := by rw [paramP, if_neg (fun hc => by simp [hc.2.2] at hd)]
            have hbd := hBD _ hpb
            have hr := r6refuse rb m none 12 p.place w4 h4.1 (by decide)
            obtain ⟨x0, x1, x2, x3⟩ := tree_cells (hNPU _ h4.2)
            clear hNX hBD hpb
            go_wp2_with fail
            refine hr.mono ?_
            rintro e wz ⟨rfl, hqz⟩
            have hfin : RQ rb m (orR st (seqP (t.kids.map (paramP m)))) w wz := by rw [hbd.out]; exact (hqw.trans (h1.trans h4)).trans hqz
            have hno : st = none → ∀ ps, seqP (t.kids.map (paramP m)) = .ok ps → TxR2 (Fq w wz) wz (.slice oa acc.length oc) ps := fun hs ps hps => by
              have hb9 := hbd.out
              rw [hs, hps] at hb9
              cases hb9
            clear hr hqz hbd
            go_wp2
            go_ret
            exact ⟨_, rfl, ⟨_, _, _, rfl⟩, hfin, hno⟩
          · have hk3 := hidden (of_decide_eq_true hd)
            clear hd
            obtain ⟨x0, x1, x2, x3⟩ := tree_cells (hNPU _ h4.2)
            obtain ⟨gp2, capp2, kv2, e2, _, hT2, b0, b1, b2, b3⟩ := (hTPU _ h4.2).at 0 (by have := HL.out; omega)
            simp only [Value.slice.injEq, Option.some.injEq, Addr.mk.injEq, true_and, and_true] at e2
            obtain ⟨rfl, rfl⟩ := e2
            rw [kid_get (t := p) (by have := HL.out; omega)] at b0 b1 b2 hT2
            simp only [Nat.zero_mul, Nat.zero_add] at b0 b1 b2 b3
            obtain ⟨n0a, n0c, rfl⟩ := hT2.shape
            have hn := r6name rb m none (kid p 0) (.slice n0a (kid p 0).kids.length n0c) w4 h4.1 ((TxOk_iff _).1 (kid_ok hpo (by have := HL.out; omega))).1
            unfold trv at hn
            clear a0 a1 a2 a3 hT0 hT2
            go_wp2_with fail
            refine hn.mono ?_
            rintro e w5 ⟨rfl, hq5⟩
            have h5 := h4.trans hq5
            clear hn hq5 b0 b1 b2 b3 x0 x1 x2 x3
            obtain ⟨x0, x1, x2, x3⟩ := tree_cells (hNPU _ h5.2)
            obtain ⟨gp2, capp2, kv2, e2, _, hT2, b0, b1, b2, b3⟩ := (hTPU _ h5.2).at 1 (by have := HL.out; omega)
            simp only [Value.slice.injEq, Option.some.injEq, Addr.mk.injEq, true_and, and_true] at e2
            obtain ⟨rfl, rfl⟩ := e2
            rw [kid_get (t := p) (by have := HL.out; omega)] at b0 b1 b2 hT2
            simp only [Nat.one_mul] at b0 b1 b2 b3
            obtain ⟨n1a, n1c, rfl⟩ := hT2.shape
            have hwz5 := (h1.trans h5).2.size
            have hkd := r6kind F rb m _ (kid p 1) (.slice n1a (kid p 1).kids.length n1c) w5 hm h5.1 hT2 (fun g hg => by have := (hF g hg).1; have := hqw.2.size; omega) (kid_ok hpo (by have := HL.out; omega)) (by have := kid_nodes (t := p) (i := 1) (by have := HL.out; omega); omega)
            unfold trv at hkd
            clear hT2
            go_wp2_with fail
            refine hkd.mono ?_
            rintro e w6 ⟨xx, rfl, hq6, hx6⟩
            have h6 := (h1.trans h5).trans hq6
            obtain ⟨hor, hxz⟩ := param_or (m := m) hk1.out HL.out hk3.out
            have hrn := hNX ((kid p 0).text, xx) (hxz xx hx6)
            rw [hor] at h6
            have h7 := h6.more ((Below.refl _ _).alloc (Nat.le_refl _) (.cells #[.string (str (kid p 0).text), .string (str xx)] 40))
            have hrow7 := hrow.kept cPar_ok h7.2 (fun b hb e => by omega)
            have hB7 : w.heap.size + 1 ≤ (w6.alloc (.cells #[.string (str (kid p 0).text), .string (str xx)] 40)).heap.size := by have := h7.2.size; omega
            have hown := fun g hg => (hrow.block (g := g) hg).1
            clear hkd hx6 hxz hor hNX hBD hrow h6 hTPU hNPU hTU b0 b1 b2 b3 x0 x1 x2 x3
            go_wp2_with (at_builtin; refine append_rowG cPar_ok rfl (.tmp 55) (.tmp 64) 24 rfl Try.underlying24 infoPar (by decide) _ acc rfl hrow7 ((kid p 0).text, xx) [.string (str (kid p 0).text), .string (str xx)] _ _ rfl ?src rfl ?len ?byt ?hB ?next)
            case src => exact cells_new _ _ _
            case len => unfold maxLen; omega
            case byt => omega
            case hB => exact hB7
            case next =>
              intro g8 cap8 w8 hrow8 hg8
              have h8 : RQ rb m (orR none (paramP m p)) W1 w8 := (hq.trans h7).grown hg8 (fun k e => by have := hown k e; omega) (by omega)
              clear hg8 hrow7 hown
              go_wp2
              go_roundg (t.kids.length - (k + 1))
              case measure => omega
              case rel => exact ⟨k + 1, acc ++ [((kid p 0).text, xx)], _, by omega, by go_num, hrn, by simp; omega, by simpa using hrow8, h8⟩
    · have hki : ¬ (k : Int) < (t.kids.length : Int) := by omega
      obtain ⟨hf1, hf2⟩ := hrun.out.fin (.inl (by omega))
      rw [hf1] at hqw
      have hp2 := par_row hrow
      clear hrun hrow
      go_wp2
      go_ret
      exact ⟨_, rfl, ⟨_, _, _, rfl⟩, hqw, fun hs ps hps => by rw [← hf2 hs ps hps]; exact hp2.frame fun g hg => ⟨⟨by omega, hg.2⟩, rfl⟩⟩
end Go.Proofs.Ytcokihblicgbpaa
