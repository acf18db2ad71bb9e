/-
  The document's own reader of modules: a row of expressions, each being read as it should.
-/
import Derived.Test.YtcokihblicgbpaaRef6ParZ
namespace Go.Proofs.Ytcokihblicgbpaa
open Go.RowKit

/-- A tree in memory, its Kids in blocks of F. -/
def P6 (F : Nat → Prop) (w : World) (g o : Nat) (t : Tr) : Prop :=
  ∃ kv, TL F w kv t.kids ∧ w.cell? ⟨g, o, none⟩ = some (.int .i64 (t.kind : Int)) ∧ w.cell? ⟨g, o + 1, none⟩ = some (.int .i64 (t.place : Int)) ∧ w.cell? ⟨g, o + 2, none⟩ = some (.string (str t.text)) ∧ w.cell? ⟨g, o + 3, none⟩ = some kv
/-- A part of a row of trees. -/
def S6 (F : Nat → Prop) (w : World) (v : Value) (l : List Tr) : Prop :=
  (∃ a c, v = .slice a 0 c ∧ l = []) ∨ ∃ g o cap, v = .slice (some ⟨g, o, none⟩) l.length cap ∧ F g ∧ ∀ i (h : i < l.length), P6 F w g (o + i * 4) l[i]
theorem S6.shape {F : Nat → Prop} {w : World} {v : Value} {l : List Tr} (h : S6 F w v l) : ∃ a c, v = .slice a l.length c := by
  rcases h with ⟨a, c, rfl, rfl⟩ | ⟨g, o, cap, rfl, _⟩
  · exact ⟨a, c, rfl⟩
  · exact ⟨_, _, rfl⟩
theorem P6.frame {F : Nat → Prop} {w w' : World} {g o : Nat} {t : Tr} (h : P6 F w g o t) (hg : F g) (hF : ∀ b, F b → w'.heap[b]? = w.heap[b]?) : P6 F w' g o t := by
  obtain ⟨kv, h2, h3, h4, h5, h6⟩ := h
  have hc : ∀ j, w'.cell? ⟨g, j, none⟩ = w.cell? ⟨g, j, none⟩ := fun j => World.cell?_of_block (hF g hg)
  exact ⟨kv, h2.frame (fun b hb => ⟨hb, hF b hb⟩), by rw [hc]; exact h3, by rw [hc]; exact h4, by rw [hc]; exact h5, by rw [hc]; exact h6⟩
theorem S6.frame {F : Nat → Prop} {w w' : World} {v : Value} {l : List Tr} (h : S6 F w v l) (hF : ∀ b, F b → w'.heap[b]? = w.heap[b]?) : S6 F w' v l := by
  rcases h with h | ⟨g, o, cap, h1, h2, h3⟩
  · exact .inl h
  · exact .inr ⟨g, o, cap, h1, h2, fun i hi => (h3 i hi).frame h2 hF⟩
theorem TL.p6 {F : Nat → Prop} {w : World} {kv : Value} {l : List Tr} (h : TL F w kv l) (i : Nat) (hi : i < l.length) : ∃ g cap, kv = .slice (some ⟨g, 0, none⟩) l.length cap ∧ F g ∧ P6 F w g (i * 4) l[i] := by
  obtain ⟨g, cap, kv', e1, hg, hT, q0, q1, q2, q3⟩ := h.at i hi
  exact ⟨g, cap, e1, hg, kv', hT, q0, q1, q2, q3⟩
/-- Trees from the low-th on, as a part of the row. -/
theorem TL.s6 {F : Nat → Prop} {w : World} {g n kc : Nat} {l : List Tr} (h : TL F w (.slice (some ⟨g, 0, none⟩) n kc) l) (low o c' : Nat) (hl : low ≤ l.length) (ho : (kc = low ∧ o = 0) ∨ (¬ kc = low ∧ o = low * 4)) : S6 F w (.slice (some ⟨g, o, none⟩) (l.length - low) c') (l.drop low) := by
  have hc := h.cap
  obtain ⟨a, c, e⟩ := h.shape
  simp only [Value.slice.injEq] at e
  obtain ⟨_, rfl, _⟩ := e
  rcases ho with ⟨rfl, rfl⟩ | ⟨_, rfl⟩
  · rw [show l.length - kc = 0 by omega, List.drop_of_length_le hc]
    exact .inl ⟨_, _, rfl, rfl⟩
  · by_cases hlt : low < l.length
    · obtain ⟨g', cap, e, hg, _⟩ := h.p6 low hlt
      simp only [Value.slice.injEq, Option.some.injEq, Addr.mk.injEq, and_true, true_and] at e
      obtain ⟨rfl, rfl⟩ := e
      refine .inr ⟨g, low * 4, c', by rw [List.length_drop], hg, fun i hi => ?_⟩
      rw [List.length_drop] at hi
      obtain ⟨g', cap, e, _, hP⟩ := h.p6 (low + i) (by omega)
      simp only [Value.slice.injEq, Option.some.injEq, Addr.mk.injEq, and_true, true_and] at e
      obtain ⟨rfl, _⟩ := e
      rw [List.getElem_drop, ← Nat.add_mul]
      exact hP
    · rw [show l.length - low = 0 by omega, List.drop_of_length_le (by omega)]
      exact .inl ⟨_, _, rfl, rfl⟩
/-- An expression, whole (then it can be read), or one that was refused. -/
def cEx : Cel (Ex × Bool) := fun F w x c => ∃ kv pv av, c = exc x.1 kv pv av ∧ (∃ a n c, kv = .slice a n c) ∧ (∃ a n c, pv = .slice a n c) ∧ (∃ a n c, av = .slice a n c) ∧ (x.2 = true → XI F w kv pv av x.1)
theorem cEx_ok : CelOk 9 cEx where
  frame := fun hF h => by
    obtain ⟨kv, pv, av, h1, h2, h3, h4, h5⟩ := h
    exact ⟨kv, pv, av, h1, h2, h3, h4, fun e => (h5 e).frame hF⟩
  len := fun h => by
    obtain ⟨kv, pv, av, rfl, _⟩ := h
    rfl
  one := fun h u hu => by
    obtain ⟨kv, pv, av, rfl, ⟨a1, n1, c1, rfl⟩, ⟨a2, n2, c2, rfl⟩, ⟨a3, n3, c3, rfl⟩, _⟩ := h
    simp only [exc, List.mem_cons, List.not_mem_nil, or_false] at hu
    rcases hu with rfl | rfl | rfl | rfl | rfl | rfl | rfl | rfl | rfl <;> rfl
theorem infoEx : (Try.prog.info? 27).map (fun i => (i.zero.map (fun z => z.cells.size), i.size, i.bytes)) = some (some 9, 9, 152) := by kernel_rfl
theorem ex_row {B : Nat} {w : World} {v : Value} {xs : List (Ex × Bool)} (h : RowG cEx 27 9 B w v xs) (hg : ∀ p ∈ xs, p.2 = true) : XK (fun g => B ≤ g ∧ g < w.heap.size) w v (xs.map (·.1)) := by
  obtain ⟨a, c, rfl⟩ := h.shape
  rcases Nat.eq_zero_or_pos xs.length with h0 | hp
  · have := List.eq_nil_of_length_eq_zero h0
    subst this
    exact .inl ⟨_, _, rfl, rfl⟩
  · obtain ⟨g, cap, c0, e1, _, hg0, _, _⟩ := h.at cEx_ok 0 hp
    simp only [Value.slice.injEq, true_and] at e1
    obtain ⟨rfl, rfl⟩ := e1
    refine .inr ⟨g, 0, c, by simp, hg0, fun j hj => ?_⟩
    have hjl : j < xs.length := by simpa using hj
    obtain ⟨g2, cap2, c2, e2, _, _, hc, hcell⟩ := h.at cEx_ok j hjl
    simp only [Value.slice.injEq, Option.some.injEq, Addr.mk.injEq, and_true, true_and] at e2
    obtain ⟨rfl, rfl⟩ := e2
    obtain ⟨kv, pv, av, rfl, _, _, _, hX⟩ := hc
    rw [List.getElem_map]
    refine ⟨kv, pv, av, hX (hg _ (List.getElem_mem hjl)), fun i u hi => ?_⟩
    rw [Nat.zero_add]
    exact hcell i u hi
/-- What is read of a tree, nothing being refused yet. -/
def ExQ (rb : Nat) (m : List UInt8) (r : PR Ex) (w : World) (e : Ending) (w' : World) : Prop :=
  ∃ (x : Ex) (kv pv av : Value), e = .returned (exv x kv pv av) ∧ (∃ a n c, kv = .slice a n c) ∧ (∃ a n c, pv = .slice a n c) ∧ (∃ a n c, av = .slice a n c) ∧ RQ rb m (orR none r) w w' ∧ ∀ y, r = .ok y → x = y ∧ XI (Fq w w') w' kv pv av y
def ExAll (m : List UInt8) (t : Tr) : Prop := ∀ (F : Nat → Prop) (rb : Nat) (kv : Value) (w : World), RI w rb m none → TL F w kv t.kids → (∀ g, F g → g < w.heap.size ∧ g ≠ rb) → Calls Try.prog 36 #[.pointer (some ⟨rb, 0, none⟩), trv t kv] w (ExQ rb m (exprP m t) w)
set_option maxHeartbeats 4000000 in
set_option maxRecDepth 1000000 in
theorem r6exprs (F : Nat → Prop) (rb : Nat) (m : List UInt8) (st : Option (Nat × Nat)) (l : List Tr) (v : Value) (w : World) (h : RI w rb m st) (hT : S6 F w v l) (hF : ∀ g, F g → g < w.heap.size ∧ g ≠ rb) (hl : l.length ≤ 8192) (IH : ∀ t ∈ l, ExAll m t) :
    Calls Try.prog 67 #[.pointer (some ⟨rb, 0, none⟩), v] w fun e w' => ∃ v, e = .returned v ∧ (∃ a n c, v = .slice a n c) ∧ RQ rb m (orR st (seqP (l.map (exprP m)))) w w' ∧ (st = none → ∀ ps, seqP (l.map (exprP m)) = .ok ps → XK (Fq w w') w' v ps) := by
  obtain ⟨ka, kc, rfl⟩ := hT.shape
  have hlt := h.lt
  have hTU : ∀ u, Kept (fun k => k = rb) w u → S6 F u (.slice ka l.length kc) l := fun u hu => hT.frame fun g hg => hu.block g (hF g hg).1 (hF g hg).2
  have HR := hidden (Run.start st (exprP m) l)
  have HI := hidden IH
  clear hT IH
  go_enter Try.func67, Try.ntmps67
  go_wp2
  go_loopg [5, 6] l.length (fun gk o i wr => ∃ (k : Nat) (acc : List (Ex × Bool)) (sk : Option (Nat × Nat)), gk + k = l.length ∧ i = .int .i64 (k : Int) ∧ Hid (Run st (exprP m) l k (acc.map (·.1)) sk) ∧ Hid (sk = none → ∀ p ∈ acc, p.2 = true) ∧ acc.length ≤ k ∧ RowG cEx 27 9 w.heap.size wr o acc ∧ RQ rb m sk w wr)
  case atStart => exact ⟨0, [], st, by omega, rfl, HR, by simp [Hid], by simp, RowG.nil _ _ _ _ _, h, Kept.refl _ _⟩
  case round =>
    obtain ⟨k, acc, sk, hg, rfl, hrun, hgood, hal, hrow, hq⟩ := hrel
    clear HR
    obtain ⟨r0, r1, r2, _, _⟩ := hq.1.cells
    obtain ⟨oa, oc, rfl⟩ := hrow.shape
    have hszr := hq.2.size
    have hend : l.length ≤ k ∨ sk ≠ none → RQ rb m (orR st (seqP (l.map (exprP m)))) w wr ∧ (st = none → ∀ ps, seqP (l.map (exprP m)) = .ok ps → XK (Fq w wr) wr (.slice oa acc.length oc) ps) := fun hc => by
      obtain ⟨hf1, hf2⟩ := hrun.out.fin hc
      refine ⟨by rw [← hf1]; exact hq, fun hs ps hps => ?_⟩
      have hsk : sk = none := by rw [hf1, hs, hps]; rfl
      rw [← hf2 hs ps hps]
      exact ex_row hrow (hgood.out hsk)
    by_cases hk : k < l.length
    · have hki : (k : Int) < (l.length : Int) := by omega
      cases sk with
      | some e0 =>
        have hne : (((e0.1 : Nat) : Int) == 0) = false := by have := hq.1.2 e0 rfl; rw [beq_eq_false_iff_ne]; omega
        obtain ⟨hf1, hf2⟩ := hend (.inr (by simp))
        simp only [Option.getD_some] at r1 r2
        clear hrun hrow hend hgood
        go_wp2
        go_ret
        exact ⟨_, rfl, ⟨_, _, _, rfl⟩, hf1, hf2⟩
      | none =>
        simp only [Option.getD_none] at r1 r2
        rcases hTU _ hq.2 with ⟨a, c, _, rfl⟩ | ⟨g, o, cap, e1, hgF, hP⟩
        · simp at hk
        · simp only [Value.slice.injEq, true_and] at e1
          obtain ⟨rfl, rfl⟩ := e1
          obtain ⟨pv, hTp, q0, q1, q2, q3⟩ := hP k hk
          obtain ⟨pa, pc, rfl⟩ := hTp.shape
          have hNX := fun x hx => hidden (hrun.out.next hk x hx)
          have hx := HI.out _ (List.getElem_mem hk) F rb _ wr hq.1 hTp (fun g hg => ⟨Nat.lt_of_lt_of_le (hF g hg).1 hszr, (hF g hg).2⟩)
          generalize l[k] = p at *
          clear hrun hTp hP hend
          unfold trv at hx
          go_wp2_with fail
          refine hx.mono ?_
          rintro e w6 ⟨x, kv, pv, av, rfl, ⟨ka1, kn1, kc1, rfl⟩, ⟨pa1, pn1, pc1, rfl⟩, ⟨aa1, an1, ac1, rfl⟩, hq6, hx6⟩
          have hrn := hNX x (fun y hy => (hx6 y hy).1)
          obtain ⟨gd, hgd, hgx⟩ : ∃ gd : Bool, (orR none (exprP m p) = none → gd = true) ∧ (gd = true → XI (Fq wr w6) w6 (.slice ka1 kn1 kc1) (.slice pa1 pn1 pc1) (.slice aa1 an1 ac1) x) := by
            cases he : exprP m p with
            | ok y => exact ⟨true, fun _ => rfl, fun _ => by rw [(hx6 y he).1]; exact (hx6 y he).2⟩
            | error e => exact ⟨false, (fun hh => by cases hh), (fun hh => by cases hh)⟩
          have h7 := hq6.more ((Below.refl _ _).alloc (Nat.le_refl _) (.cells (exc x (.slice ka1 kn1 kc1) (.slice pa1 pn1 pc1) (.slice aa1 an1 ac1)).toArray 27))
          have hb7 : Below w6.heap.size w6 (w6.alloc (.cells (exc x (.slice ka1 kn1 kc1) (.slice pa1 pn1 pc1) (.slice aa1 an1 ac1)).toArray 27)) := (Below.refl _ _).alloc (Nat.le_refl _) _
          have hrow7 := hrow.kept cEx_ok h7.2 (fun b hb e => by omega)
          have hB7 : w.heap.size ≤ (w6.alloc (.cells (exc x (.slice ka1 kn1 kc1) (.slice pa1 pn1 pc1) (.slice aa1 an1 ac1)).toArray 27)).heap.size := by have := h7.2.size; omega
          have hown := fun g hg => hrow.block (g := g) hg
          have hcx : cEx (fun g => w.heap.size ≤ g ∧ g < (w6.alloc (.cells (exc x (.slice ka1 kn1 kc1) (.slice pa1 pn1 pc1) (.slice aa1 an1 ac1)).toArray 27)).heap.size ∧ some g ≠ (Value.slice oa acc.length oc).ownBlock) (w6.alloc (.cells (exc x (.slice ka1 kn1 kc1) (.slice pa1 pn1 pc1) (.slice aa1 an1 ac1)).toArray 27)) (x, gd) (exc x (.slice ka1 kn1 kc1) (.slice pa1 pn1 pc1) (.slice aa1 an1 ac1)) := ⟨_, _, _, rfl, ⟨_, _, _, rfl⟩, ⟨_, _, _, rfl⟩, ⟨_, _, _, rfl⟩, fun hh => (hgx hh).frame fun g hg => ⟨⟨by have := hg.1; omega, by have := hg.2; have := hb7.size; omega, fun e => by have := (hown g e.symm).2; have := hg.1; omega⟩, hb7.block g hg.2⟩⟩
          have hgood2 : Hid (orR none (exprP m p) = none → ∀ z ∈ acc ++ [(x, gd)], z.2 = true) := fun hh z hz => by
            rcases List.mem_append.1 hz with hz | hz
            · exact hgood.out (by simp) z hz
            · rw [List.mem_singleton.1 hz]
              exact hgd hh
          have hmap : (acc ++ [(x, gd)]).map (·.1) = acc.map (·.1) ++ [x] := by simp
          rw [← hmap] at hrn
          unfold exv
          unfold exc at h7 hrow7 hB7 hcx
          clear hx hx6 hNX hrow hq6 hTU hgood hgx hgd hmap hb7
          go_wp2_with (at_builtin; refine append_rowG cEx_ok rfl (.tmp 20) (.tmp 27) 23 rfl Try.underlying23 infoEx (by decide) _ acc rfl hrow7 (x, gd) _ _ _ rfl ?src hcx ?len ?byt ?hB ?next)
          case src => exact cells_new _ _ _
          case len => unfold maxLen; omega
          case byt => omega
          case hB => exact hB7
          case next =>
            intro g8 cap8 w8 hrow8 hg8
            have h8 : RQ rb m (orR none (exprP m p)) w w8 := (hq.trans h7).grown hg8 (fun k e => (hown k e).1) hlt
            clear hg8 hrow7 hown hcx
            go_wp2
            go_roundg (l.length - (k + 1))
            case measure => omega
            case rel => exact ⟨k + 1, acc ++ [(x, gd)], _, by omega, by go_num, hrn, hgood2, by simp; omega, by simpa using hrow8, h8⟩
    · have hki : ¬ (k : Int) < (l.length : Int) := by omega
      obtain ⟨hf1, hf2⟩ := hend (.inl (by omega))
      clear hrun hrow hend hgood
      go_wp2
      go_ret
      exact ⟨_, rfl, ⟨_, _, _, rfl⟩, hf1, hf2⟩
end Go.Proofs.Ytcokihblicgbpaa
