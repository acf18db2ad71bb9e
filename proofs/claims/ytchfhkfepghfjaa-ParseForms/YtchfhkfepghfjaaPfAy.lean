/-
  The package's readForm and readArm, whatever stands there; a step of the machine from where the part is still on the stack.
  And: The package's readExpr. The package's readExpr where something is refused already: nothing is read. The package's readExpr: its walk.
-/
import Derived.Test.YtchfhkfepghfjaaPfAv
import Derived.Test.YtchfhkfepghfjaaPfAw
import Derived.Test.YtchfhkfepghfjaaPfAx
import Derived.Deep.LoopGhost
import Derived.Laws.Tables
import Derived.Test.YtchfhkfepghfjaaPfAt
namespace Go.Proofs.Ytchfhkfepghfjaa
open Go.RowKit

theorem readForm (F : Nat → Prop) (rb : Nat) (m : List UInt8) (w : World) (tv : Value) (ps0 : List Pt) (tg tj d : Nat) (t : Tr) (pre post : List Value) (T : Nat) (h : FS F rb m w tv ps0 ⟨tg, tj, t, false, d, pre.length⟩ pre post T) :
    Calls Try.prog 19 #[.pointer (some ⟨rb, 0, none⟩), .pointer (some ⟨tg, tj, none⟩), .pointer (some ⟨d, pre.length, none⟩)] w (FormQ F rb m ps0 ⟨tg, tj, t, false, d, pre.length⟩ pre post T w) := by
  have hk := kindX_top (t := t) rfl
  have hc : kindX t = 0 ∨ kindX t = 1 ∨ kindX t = 2 ∨ kindX t = 3 ∨ kindX t = 4 ∨ kindX t = 5 ∨ kindX t = 6 ∨ kindX t = 7 ∨ kindX t = 8 ∨ kindX t = 9 ∨ kindX t = 10 ∨ kindX t = 11 ∨ kindX t = 12 := by omega
  rcases hc with e | e | e | e | e | e | e | e | e | e | e | e | e
  · exact readForm_0 F rb m w tv ps0 tg tj d t pre post T h e
  · exact readForm_1 F rb m w tv ps0 tg tj d t pre post T h e
  · exact readForm_2 F rb m w tv ps0 tg tj d t pre post T h e
  · exact readForm_3 F rb m w tv ps0 tg tj d t pre post T h e
  · exact readForm_4 F rb m w tv ps0 tg tj d t pre post T h e
  · exact readForm_5 F rb m w tv ps0 tg tj d t pre post T h e
  · exact readForm_6 F rb m w tv ps0 tg tj d t pre post T h e
  · exact readForm_7 F rb m w tv ps0 tg tj d t pre post T h e
  · exact readForm_8 F rb m w tv ps0 tg tj d t pre post T h e
  · exact readForm_9 F rb m w tv ps0 tg tj d t pre post T h e
  · exact readForm_10 F rb m w tv ps0 tg tj d t pre post T h e
  · exact readForm_11 F rb m w tv ps0 tg tj d t pre post T h e
  · exact readForm_12 F rb m w tv ps0 tg tj d t pre post T h e
theorem readArm (F : Nat → Prop) (rb : Nat) (m : List UInt8) (w : World) (tv : Value) (ps0 : List Pt) (tg tj d : Nat) (t : Tr) (pre post : List Value) (T : Nat) (h : FS F rb m w tv ps0 ⟨tg, tj, t, true, d, pre.length⟩ pre post T) :
    Calls Try.prog 18 #[.pointer (some ⟨rb, 0, none⟩), .pointer (some ⟨tg, tj, none⟩), .pointer (some ⟨d, pre.length, none⟩)] w (FormQ F rb m ps0 ⟨tg, tj, t, true, d, pre.length⟩ pre post T w) := by
  by_cases h1 : t.kind = 1
  · by_cases h2 : t.kids.length = 2
    · by_cases h3 : (kid t 0).kind = 1
      · by_cases h4 : 5 < (kid t 0).kids.length
        · exact readArm_d F rb m w tv ps0 tg tj d t pre post T h h1 h2 h3 h4
        · by_cases h5 : (kid t 0).kids.length = 0
          · exact readArm_e F rb m w tv ps0 tg tj d t pre post T h h1 h2 h3 h5
          · cases h6 : atomsX (kid t 0).kids
            · exact readArm_f F rb m w tv ps0 tg tj d t pre post T h h1 h2 h3 (by omega) (by omega) h6
            · exact readArm_ok F rb m w tv ps0 tg tj d t pre post T h h1 h2 h3 (by omega) (by omega) h6
      · exact readArm_c F rb m w tv ps0 tg tj d t pre post T h h1 h2 h3
    · exact readArm_b F rb m w tv ps0 tg tj d t pre post T h h1 h2
  · exact readArm_a F rb m w tv ps0 tg tj d t pre post T h h1
theorem Ev.any {rb d : Nat} {u v : World} (h : Ev rb rb u v) : Ev rb d u v := h.mono (fun _ _ e => by
  rcases e with e | e | e
  · exact .inl e
  · exact .inr (.inl e)
  · exact .inl e)
theorem Kd.lift {rb lo lo' : Nat} {u : World} {z : List Value} {T : Nat} {arm : Bool} {kv : Value} {kg : Nat} {ks : List Tr} {kps : List Pt} (h : Kd rb lo u z T arm kv kg ks kps) (hl : lo' ≤ lo) : Kd rb lo' u z T arm kv kg ks kps := by
  rcases h with h | ⟨c, h1, h2, h3⟩
  · exact .inl h
  · exact .inr ⟨c, h1, Nat.le_trans hl h2, h3⟩
theorem stepX_lift {F : Nat → Prop} {rb : Nat} {m : List UInt8} {u u1 : World} {ps0 : List Pt} {p : Pt} {pre post : List Value} {T : Nat} {u' : World} {tv' : Value} {new : List Pt} (hE : Ev rb rb u u1) (h : StepX F rb m u1 ps0 p pre post T u' tv' new) : StepX F rb m u ps0 p pre post T u' tv' new := by
  have hs := hE.size
  unfold StepX at h ⊢
  split at h
  · rename_i ha
    rw [if_pos ha]
    obtain ⟨c, vs, vv, tg, tj, h1, h2, h3, h4, h5, h6⟩ := h
    exact ⟨c, vs, vv, tg, tj, h1, h2, hE.any.trans h3 (.inl rfl), h4, h5.frame fun g hg => ⟨hg.mono hs, rfl⟩, h6⟩
  · rename_i ha
    rw [if_neg ha]
    obtain ⟨e0, ks, qs, kv, pv, av, kg, ag, kps, aps, h1, h2, h3, h4, h5, h6, h7, h8, h9⟩ := h
    exact ⟨e0, ks, qs, kv, pv, av, kg, ag, kps, aps, h1, h2, hE.any.trans h3 (.inl rfl), h4, h5.frame fun g hg => ⟨⟨hg.1.mono hs, hg.2⟩, rfl⟩, h6.lift hs, h7.lift hs, h8, h9⟩
theorem stepErr_lift {rb : Nat} {m : List UInt8} {u u1 : World} {p : Pt} {pre post : List Value} {T : Nat} {u' : World} {tv' : Value} {e : Nat × Nat} (hE : Ev rb rb u u1) (h : StepErr rb m u1 p pre post T u' tv' e) : StepErr rb m u p pre post T u' tv' e :=
  ⟨h.1, h.2.1, h.2.2.1, hE.any.trans h.2.2.2.1 (.inl rfl), h.2.2.2.2⟩
/-- The topmost part is taken off: what the walk does ahead of the call. -/
theorem MS.take {F : Nat → Prop} {rb : Nat} {m : List UInt8} {u : World} {tv : Value} {ps0 : List Pt} {p : Pt} (h : MS F rb m u tv (ps0 ++ [p])) (hF : ∀ b, F b → b < rb) (hm : m.length ≤ 8192) : ∃ gs cap, tv = .slice (some ⟨gs, 0, none⟩) (ps0.length + 1) cap ∧ ps0.length + 1 ≤ cap ∧ rb < gs ∧
    u.cell? ⟨gs, ps0.length * 3, none⟩ = some (.pointer (some ⟨p.tg, p.tj, none⟩)) ∧ u.cell? ⟨gs, ps0.length * 3 + 1, none⟩ = some (.pointer (if p.arm = true then none else some ⟨p.dg, p.dj, none⟩)) ∧ u.cell? ⟨gs, ps0.length * 3 + 2, none⟩ = some (.pointer (if p.arm = true then some ⟨p.dg, p.dj, none⟩ else none)) ∧
    ∀ o, Ev rb rb u ((u.setCell ⟨rb, 1, none⟩ (.slice (some ⟨gs, 0, none⟩) ps0.length cap)).alloc o) ∧ ∀ pre post T, Dst rb u p pre post T → FS F rb m ((u.setCell ⟨rb, 1, none⟩ (.slice (some ⟨gs, 0, none⟩) ps0.length cap)).alloc o) (.slice (some ⟨gs, 0, none⟩) ps0.length cap) ps0 p pre post T := by
  have ho := h.own
  have hl : (ps0 ++ [p]).length = ps0.length + 1 := by simp
  rw [hl] at ho
  rcases ho.2 with ⟨_, h0⟩ | ⟨gs, cap, cur, rfl, hb, hg, h1, h2, _⟩
  · omega
  have hc : ∀ j, j < 3 → u.cell? ⟨gs, ps0.length * 3 + j, none⟩ = (pcell p)[j]? := by
    intro j hj
    rw [ho.cellAt _ (by omega), pcells_append, pcells_one, List.getElem?_append_right (by rw [pcells_length]; omega), pcells_length, Nat.add_sub_cancel_left]
  refine ⟨gs, cap, rfl, h1, by omega, hc 0 (by decide), hc 1 (by decide), hc 2 (by decide), fun o => ?_⟩
  have hD1 := (h.rd.set_todo (.slice (some ⟨gs, 0, none⟩) ps0.length cap)).new o
  have K1 : Kept (fun k => k = rb) u ((u.setCell ⟨rb, 1, none⟩ (.slice (some ⟨gs, 0, none⟩) ps0.length cap)).alloc o) := ((Kept.refl (fun k => k = rb) u).setCell (p := ⟨rb, 1, none⟩) (fun _ => rfl) _).alloc o
  have hE : Ev rb rb u ((u.setCell ⟨rb, 1, none⟩ (.slice (some ⟨gs, 0, none⟩) ps0.length cap)).alloc o) := K1.mono (fun _ _ e => .inl e)
  refine ⟨hE, fun pre post T hd => ?_⟩
  have hfr := hE.tree hF h.rd.lt (Nat.le_refl _)
  have ho2 : u.ownsRow (rb + 1) 72 3 (.slice (some ⟨gs, 0, none⟩) ps0.length cap) ps0.length (pcells ps0) := by
    rw [pcells_append] at ho
    exact ownsRow_pop (pcells_length ps0) ho
  have hs := h.sum
  rw [List.map_append, List.sum_append] at hs
  refine ⟨hD1, K1.own ho2 (fun g e hr => ?_), fun q hq => ⟨(h.tr q (by simp [hq])).1.frame hfr, (h.tr q (by simp [hq])).2⟩, (h.tr p (by simp)).1.frame hfr, (h.tr p (by simp)).2, by simpa using hs, ?_, hF, hm⟩
  · simp [Value.ownBlock] at e
    omega
  · obtain ⟨d1, d2, d3, d4⟩ := hd
    exact ⟨d1.ev hE d3 (by omega) (by omega), d2, d3, d4⟩
end Go.Proofs.Ytchfhkfepghfjaa

namespace Go.Proofs.Ytchfhkfepghfjaa
open Go.RowKit

theorem sizeX : (Try.prog.info? 36).map (fun i => i.size) = some 9 := by kernel_rfl
/-- It came to its end: the whole is read. -/
def FinX (F : Nat → Prop) (rb : Nat) (m : List UInt8) (t : Tr) (d : Nat) (U0 u : World) (tv : Value) : Prop :=
  ∃ e kv pv av, exprP m t = .ok e ∧ At u d [] (exc e kv pv av) [] 36 ∧ XI (FN U0.heap.size u) u kv pv av e ∧ MS F rb m u tv [] ∧ Ev rb d U0 u
/-- .. or something is refused. -/
def FinErr (rb : Nat) (m : List UInt8) (t : Tr) (d : Nat) (U0 u : World) (tv : Value) (er : Nat × Nat) : Prop :=
  exprP m t = .error er ∧ DIs u rb m tv (some er) ∧ Ow rb u tv ∧ Ev rb d U0 u ∧ ∃ X, NineC X ∧ At u d [] X [] 36
theorem good_start {F : Nat → Prop} {rb : Nat} {m : List UInt8} {t : Tr} {tg tj d : Nat} {U0 : World} {tv : Value} (hM : MS F rb m U0 tv [⟨tg, tj, t, false, d, 0⟩]) (hA : At U0 d [] exz [] 36) (hrd : rb < d) :
    Good F rb m (fun u tv => FinX F rb m t d U0 u tv) (fun u tv er => FinErr rb m t d U0 u tv er) (nodes t) U0 tv [⟨tg, tj, t, false, d, 0⟩] := by
  have := fill F rb m t (fun u tv => FinX F rb m t d U0 u tv) (fun u tv er => FinErr rb m t d U0 u tv er) 0 U0 tv [] tg tj d [] [] 36 hM hA (by decide) hrd (fun u' tv' e kv pv av h1 h2 h3 h4 h5 => ⟨rfl, e, kv, pv, av, h1, h2, h3, h5, h4⟩) (fun u' tv' e h1 h2 h3 h4 h5 => ⟨h1, h2, h3, h4, h5⟩)
  rwa [Nat.zero_add] at this
/-- What readExpr answers. -/
def ExprQ (rb : Nat) (m : List UInt8) (st : Option (Nat × Nat)) (t : Tr) (L : Nat) (w : World) (e : Ending) (w' : World) : Prop :=
  ∃ X tv' n xs, e = .returned (.agg X.toArray) ∧ NineC X ∧ DIs w' rb m tv' (orE st (exprP m t)) ∧ w'.ownsRow (rb + 1) 72 3 tv' n xs ∧ n ≤ L ∧ Ev rb rb w w' ∧
    (st = none → ∀ x, exprP m t = .ok x → n = 0 ∧ ∃ kv pv av, X = exc x kv pv av ∧ XI (FN w.heap.size w') w' kv pv av x)
def zeroL : Array Value := #[.int .i64 0, .int .i64 0, .string ⟨#[]⟩, .complex .f64 0 0, .string ⟨#[]⟩, .string ⟨#[]⟩, .slice none 0 0, .slice none 0 0, .slice none 0 0]
theorem zeroL_exz : zeroL = exz.toArray := by kernel_rfl
theorem at_zero (w : World) : At (w.alloc (.cells zeroL 36)) w.heap.size [] exz [] 36 := by
  rw [zeroL_exz]
  exact at_new w _ _
theorem setRow_kept (w : World) (g : Nat) (cs : Array Value) : Kept (fun b => b = g) w (w.setRow g cs) := by
  refine ⟨rfl, rfl, rfl, ?_, fun k hk hn => ?_⟩
  · simp [World.setRow]
  · simp only [World.setRow, Array.getElem?_modify]
    rw [if_neg (fun e => hn e.symm)]
/-- The end: the whole is copied to where the answer lies. -/
theorem expr_fin {F : Nat → Prop} {rb : Nat} {m : List UInt8} {t : Tr} {w U0 wr : World} {tv : Value} {L : Nat} (hrb : rb < w.heap.size) (hU : Ev rb rb w U0) (hs : w.heap.size + 2 ≤ U0.heap.size) (hL : 20000 ≤ L)
    (h : FinX F rb m t (w.heap.size + 1) U0 wr tv ∨ ∃ er, FinErr rb m t (w.heap.size + 1) U0 wr tv er) : ∃ X, NineC X ∧ At wr (w.heap.size + 1) [] X [] 36 ∧ (At U0 w.heap.size [] exz [] 36 → ExprQ rb m none t L w (.returned (.agg X.toArray)) (wr.setRow w.heap.size X.toArray)) := by
  have hset := setRow_kept wr w.heap.size
  rcases h with ⟨e, kv, pv, av, h1, h2, h3, h4, h5⟩ | ⟨er, h1, h2, ⟨n, xs, h3, h3'⟩, h4, X, h5, h6⟩
  · have hx := (XI_iff _ _ _ _ _ _).1 h3
    obtain ⟨a1, c1, e1⟩ := hx.1.shape
    obtain ⟨a2, c2, e2⟩ := hx.2.1.shape
    obtain ⟨a3, c3, e3⟩ := hx.2.2.shape
    have hn : NineC (exc e kv pv av) := nine_exc (by rw [e1]; rfl) (by rw [e2]; rfl) (by rw [e3]; rfl)
    refine ⟨exc e kv pv av, hn, h2, fun hA => ?_⟩
    have hz := h5.size
    have hU' := hU.size
    have K := hset (exc e kv pv av).toArray
    have hE : Ev rb rb w (wr.setRow w.heap.size (exc e kv pv av).toArray) := by
      have e1 : Ev rb rb w wr := hU.trans h5 (.inr (.inr (by omega)))
      exact Kept.trans e1 K (fun _ _ h => h) (fun x hx h => absurd h (by omega))
    refine ⟨_, tv, 0, [], rfl, hn, ?_, ?_, by omega, hE, fun _ x hxx => ?_⟩
    · rw [h1]
      exact h4.rd.kept K (fun e => by omega)
    · have := h4.own
      simp only [List.length_nil] at this
      refine K.own this (fun g e h => ?_)
      have h7 := (own_pb this g e).2
      have hA' := hA.ev h5 (by decide) (by omega) (by omega)
      rw [h] at h7
      exact hA'.np (by decide) h7
    · rw [h1] at hxx
      cases hxx
      refine ⟨rfl, kv, pv, av, rfl, h3.frame fun g hg => ?_⟩
      have hg1 := hg.1
      have hbk := K.block g hg.2.1 (by omega)
      exact ⟨⟨by omega, Nat.lt_of_lt_of_le hg.2.1 K.size, fun ⟨cur, fz, e⟩ => hg.2.2 ⟨cur, fz, hbk.symm.trans e⟩⟩, hbk⟩
  · refine ⟨X, h5, h6, fun hA => ?_⟩
    have hz := h4.size
    have hU' := hU.size
    have K := hset X.toArray
    have hE : Ev rb rb w (wr.setRow w.heap.size X.toArray) := by
      have e1 : Ev rb rb w wr := hU.trans h4 (.inr (.inr (by omega)))
      exact Kept.trans e1 K (fun _ _ h => h) (fun x hx h => absurd h (by omega))
    refine ⟨_, tv, n, xs, rfl, h5, ?_, ?_, by omega, hE, fun _ x hxx => ?_⟩
    · rw [h1]
      exact h2.kept K (fun e => by omega)
    · refine K.own h3 (fun g e h => ?_)
      have h7 := (own_pb h3 g e).2
      have hA' := hA.ev h4 (by decide) (by omega) (by omega)
      rw [h] at h7
      exact hA'.np (by decide) h7
    · rw [h1] at hxx
      cases hxx
theorem arr9 {X : List Value} (h : NineC X) : (Try.prog.info? 36).map (fun i => i.size) = some X.toArray.size := by
  rw [sizeX, List.size_toArray, h.1]
theorem good_nil {F : Nat → Prop} {rb : Nat} {m : List UInt8} {Fin : World → Value → Prop} {FinE : World → Value → Nat × Nat → Prop} {n : Nat} {u : World} {tv : Value} (h : Good F rb m Fin FinE n u tv []) : Fin u tv := by
  cases n with
  | zero => exact h.2
  | succ n =>
    rcases h with h | ⟨ps0, p, pre, post, T, e, _⟩
    · exact h.2
    · have := congrArg List.length e
      simp at this
theorem good_cons {F : Nat → Prop} {rb : Nat} {m : List UInt8} {Fin : World → Value → Prop} {FinE : World → Value → Nat × Nat → Prop} {n : Nat} {u : World} {tv : Value} {q0 : List Pt} {q : Pt} (h : Good F rb m Fin FinE n u tv (q0 ++ [q])) : ∃ k pre post T, n = k + 1 ∧ Dst rb u q pre post T ∧
      (∀ u' tv' new, StepX F rb m u q0 q pre post T u' tv' new → Good F rb m Fin FinE k u' tv' (q0 ++ new)) ∧ (∀ u' tv' e, StepErr rb m u q pre post T u' tv' e → FinE u' tv' e) := by
  cases n with
  | zero =>
    have := congrArg List.length h.1
    simp at this
  | succ n =>
    rcases h with h | ⟨ps0, p, pre, post, T, e, h1, h2, h3⟩
    · have := congrArg List.length h.1
      simp at this
    · obtain ⟨e1, e2⟩ := List.append_inj' e rfl
      cases e1
      cases e2
      exact ⟨n, pre, post, T, rfl, h1, h2, h3⟩
theorem stepX_ms {F : Nat → Prop} {rb : Nat} {m : List UInt8} {u : World} {ps0 : List Pt} {p : Pt} {pre post : List Value} {T : Nat} {u' : World} {tv' : Value} {new : List Pt} (h : StepX F rb m u ps0 p pre post T u' tv' new) : MS F rb m u' tv' (ps0 ++ new) := by
  unfold StepX at h
  split at h
  · obtain ⟨c, vs, vv, tg, tj, h1, h2, _⟩ := h
    exact h2
  · obtain ⟨e0, ks, qs, kv, pv, av, kg, ag, kps, aps, h1, h2, _⟩ := h
    exact h2
/-- What holds in each round. -/
def RdX (F : Nat → Prop) (rb : Nat) (m : List UInt8) (t : Tr) (d : Nat) (U0 : World) (g : Nat) (wr : World) : Prop :=
  (∃ tv ps, MS F rb m wr tv ps ∧ Good F rb m (fun u tv => FinX F rb m t d U0 u tv) (fun u tv er => FinErr rb m t d U0 u tv er) g wr tv ps) ∨ ∃ tv er, FinErr rb m t d U0 wr tv er
theorem RdX.step {F : Nat → Prop} {rb : Nat} {m : List UInt8} {t : Tr} {d : Nat} {U0 : World} {k : Nat} {wr W w' : World} {q0 : List Pt} {q : Pt} {pre post : List Value} {T : Nat} {e : Ending}
    (h2 : ∀ u' tv' new, StepX F rb m wr q0 q pre post T u' tv' new → Good F rb m (fun u tv => FinX F rb m t d U0 u tv) (fun u tv er => FinErr rb m t d U0 u tv er) k u' tv' (q0 ++ new)) (h3 : ∀ u' tv' e, StepErr rb m wr q pre post T u' tv' e → FinErr rb m t d U0 u' tv' e)
    (hE : Ev rb rb wr W) (hQ : FormQ F rb m q0 q pre post T W e w') : e = .returned (.tuple #[]) ∧ RdX F rb m t d U0 k w' := by
  obtain ⟨he, tv', ⟨new, hn⟩ | ⟨er, her⟩⟩ := hQ
  · have hl := stepX_lift hE hn
    exact ⟨he, .inl ⟨tv', _, stepX_ms hl, h2 _ _ _ hl⟩⟩
  · exact ⟨he, .inr ⟨tv', er, h3 _ _ _ (stepErr_lift hE her)⟩⟩
end Go.Proofs.Ytchfhkfepghfjaa

namespace Go.Proofs.Ytchfhkfepghfjaa
open Go.RowKit

theorem expr_kept {rb : Nat} {m : List UInt8} {t : Tr} {w U0 : World} {tv : Value} {er : Nat × Nat} {n L : Nat} {xs : List Value} (hrb : rb < w.heap.size) (hU : Ev rb rb w U0) (hD : DIs U0 rb m tv (some er)) (hown : U0.ownsRow (rb + 1) 72 3 tv n xs) (hn : n ≤ L) (hA : At U0 w.heap.size [] exz [] 36) :
    ExprQ rb m (some er) t L w (.returned (.agg exz.toArray)) (U0.setRow w.heap.size exz.toArray) := by
  have K := setRow_kept U0 w.heap.size exz.toArray
  have hE : Ev rb rb w (U0.setRow w.heap.size exz.toArray) := Kept.trans hU K (fun _ _ h => h) (fun x hx h => absurd h (by omega))
  refine ⟨_, tv, n, xs, rfl, ⟨rfl, rfl⟩, hD.kept K (fun e => by omega), K.own hown (fun g e h => ?_), hn, hE, fun h => by cases h⟩
  have h7 := (own_pb hown g e).2
  rw [h] at h7
  exact hA.np (by decide) h7
set_option maxHeartbeats 2000000 in
set_option maxRecDepth 1000000 in
theorem readExpr_err (t : Tr) (tg tj : Nat) (w : World) (rb : Nat) (m : List UInt8) (tv : Value) (er : Nat × Nat) (her : er.1 ≠ 0) (n : Nat) (xs : List Value) (h : DIs w rb m tv (some er)) (ho : w.ownsRow (rb + 1) 72 3 tv n xs) (L : Nat) (hn : n ≤ L) (hL : L ≤ 90000) :
    Calls Try.prog 12 #[.pointer (some ⟨rb, 0, none⟩), .pointer (some ⟨tg, tj, none⟩)] w (ExprQ rb m (some er) t (L + 1) w) := by
  have hrb := h.lt
  have hb0 : Below w.heap.size w ((w.alloc (.cells #[.int .i64 0, .int .i64 0, .string ⟨#[]⟩, .complex .f64 0 0, .string ⟨#[]⟩, .string ⟨#[]⟩, .slice none 0 0, .slice none 0 0, .slice none 0 0] 36)).alloc (.cells #[.int .i64 0, .int .i64 0, .string ⟨#[]⟩, .complex .f64 0 0, .string ⟨#[]⟩, .string ⟨#[]⟩, .slice none 0 0, .slice none 0 0, .slice none 0 0] 36)) := ((Below.refl _ _).alloc (Nat.le_refl _) _).alloc (by simp) _
  have hA4 : At ((w.alloc (.cells #[.int .i64 0, .int .i64 0, .string ⟨#[]⟩, .complex .f64 0 0, .string ⟨#[]⟩, .string ⟨#[]⟩, .slice none 0 0, .slice none 0 0, .slice none 0 0] 36)).alloc (.cells #[.int .i64 0, .int .i64 0, .string ⟨#[]⟩, .complex .f64 0 0, .string ⟨#[]⟩, .string ⟨#[]⟩, .slice none 0 0, .slice none 0 0, .slice none 0 0] 36)) w.heap.size [] exz [] 36 := (Below.heap_alloc _ _ _ (by simp)).trans (at_zero w)
  have hA5 : At ((w.alloc (.cells #[.int .i64 0, .int .i64 0, .string ⟨#[]⟩, .complex .f64 0 0, .string ⟨#[]⟩, .string ⟨#[]⟩, .slice none 0 0, .slice none 0 0, .slice none 0 0] 36)).alloc (.cells #[.int .i64 0, .int .i64 0, .string ⟨#[]⟩, .complex .f64 0 0, .string ⟨#[]⟩, .string ⟨#[]⟩, .slice none 0 0, .slice none 0 0, .slice none 0 0] 36)) (w.heap.size + 1) [] exz [] 36 := by
    have := at_zero (w.alloc (.cells #[.int .i64 0, .int .i64 0, .string ⟨#[]⟩, .complex .f64 0 0, .string ⟨#[]⟩, .string ⟨#[]⟩, .slice none 0 0, .slice none 0 0, .slice none 0 0] 36))
    rw [show (w.alloc (.cells #[.int .i64 0, .int .i64 0, .string ⟨#[]⟩, .complex .f64 0 0, .string ⟨#[]⟩, .string ⟨#[]⟩, .slice none 0 0, .slice none 0 0, .slice none 0 0] 36)).heap.size = w.heap.size + 1 by simp] at this
    exact this
  have HS : Hid (((w.alloc (.cells #[.int .i64 0, .int .i64 0, .string ⟨#[]⟩, .complex .f64 0 0, .string ⟨#[]⟩, .string ⟨#[]⟩, .slice none 0 0, .slice none 0 0, .slice none 0 0] 36)).alloc (.cells #[.int .i64 0, .int .i64 0, .string ⟨#[]⟩, .complex .f64 0 0, .string ⟨#[]⟩, .string ⟨#[]⟩, .slice none 0 0, .slice none 0 0, .slice none 0 0] 36)).heap.size = w.heap.size + 2) := by rw [hid_iff]; simp
  have hD0 := h.below hb0 hrb
  have ho0 := owns_below ho hb0
  have hoA := owns_below ho0 ((Below.refl _ _).alloc (Nat.le_refl _) (.cells #[.pointer (some ⟨tg, tj, none⟩), .pointer (some ⟨w.heap.size + 1, 0, none⟩), .pointer none] 72))
  obtain ⟨q0, q1, q2, q3, fz⟩ := h.cells
  have f1 := fz 1
  obtain ⟨ta, tn, tc, htv⟩ : ∃ ta tn tc, tv = .slice ta tn tc := by
    rcases ho.2 with ⟨rfl, _⟩ | ⟨k', cap, cur, rfl, _⟩
    · exact ⟨none, 0, 0, rfl⟩
    · exact ⟨_, _, _, rfl⟩
  subst htv
  clear fz
  go_enter Try.func12, Try.ntmps12
  go_wp2_with (at_builtin; refine append_part rfl (.tmp 12) (.tmp 15) rfl (rb + 1) _ n xs rfl hoA _ _ [.pointer (some ⟨tg, tj, none⟩), .pointer (some ⟨w.heap.size + 1, 0, none⟩), .pointer none] rfl rfl ?src (ptr3_one _ _ _) ?len ?hB ?next)
  case src =>
    have hcn := cells_new ((w.alloc (.cells #[.int .i64 0, .int .i64 0, .string ⟨#[]⟩, .complex .f64 0 0, .string ⟨#[]⟩, .string ⟨#[]⟩, .slice none 0 0, .slice none 0 0, .slice none 0 0] 36)).alloc (.cells #[.int .i64 0, .int .i64 0, .string ⟨#[]⟩, .complex .f64 0 0, .string ⟨#[]⟩, .string ⟨#[]⟩, .slice none 0 0, .slice none 0 0, .slice none 0 0] 36)) [.pointer (some ⟨tg, tj, none⟩), .pointer (some ⟨w.heap.size + 1, 0, none⟩), .pointer none] 72
    rw [HS.out] at hcn
    exact hcn
  case len => omega
  case hB => simp; omega
  case next =>
    intro g cap w' ho' hg'
    obtain ⟨r1, r2, hD2, ho2, hE2⟩ := ev_push (d := rb) hD0 ho0 ho' hg'
    clear hoA ho' hg' q0 q1 q2 q3 f1
    have hU : Ev rb rb w (w'.setCell ⟨rb, 1, none⟩ (.slice (some ⟨g, 0, none⟩) (n + 1) cap)) := Ev.trans (Ev.of_below hb0) hE2 (.inl rfl)
    have hA4U := hA4.ev hE2 (by decide) (by omega) (by omega)
    have hA5U := hA5.ev hE2 (by decide) (by omega) (by omega)
    clear hA4 hA5 hE2 hb0 HS hD0 ho0
    go_wp2
    generalize w'.setCell ⟨rb, 1, none⟩ (.slice (some ⟨g, 0, none⟩) (n + 1) cap) = U0 at *
    clear r1 r2
    have hQ := expr_kept (t := t) (L := L + 1) hrb hU hD2 ho2 (by omega) hA4U
    obtain ⟨q0, q1, q2, q3, fz⟩ := hD2.cells
    have hw : ((whyOf (some er) : Int) == 0) = false := by
      rw [beq_eq_false_iff_ne]
      show ((er.1 : Nat) : Int) ≠ 0
      omega
    have hn1 : (0 : Int) < (n : Int) + 1 := by omega
    have hXA' : U0.heap[w.heap.size + 1]? = some (.cells exz.toArray 36 (0, 0)) := by simpa [At] using hA5U
    have hA4' : U0.heap[w.heap.size]? = some (.cells exz.toArray 36 (0, 0)) := by simpa [At] using hA4U
    have hall : exz.toArray.all (fun v => v.oneCell') = true := by kernel_rfl
    have h9 : (Try.prog.info? 36).map (fun i => i.size) = some exz.toArray.size := sizeX
    have hsz : exz.toArray.size = exz.toArray.size := rfl
    clear hA4U hA5U hD2 ho2 hU fz q0 q3
    generalize (whyOf (some er) : Int) = z at *
    generalize exz.toArray = Xa at *
    go_loopg [] 1 (fun gk wr => wr = U0)
    case atStart => rfl
    case round =>
      subst hrel
      go_wp2_with (first
        | (refine wpList_load_row rfl 36 (.tmp 5) rfl (w.heap.size + 1) rfl 36 Xa (0, 0) _ hXA' Try.underlying36 rfl h9 ?_)
        | (refine wpList_store_row rfl 36 (.tmp 4) (.tmp 69) rfl w.heap.size Xa rfl rfl 36 Xa hA4' h9 hsz hall ?_))
      (try simp only [Exit.inBlock, Exit.then])
      refine bodyPost_ret (results_cell_row rfl _ _ w.heap.size 36 Xa (0, 0) _ rfl (setRow_heap _ w.heap.size _ _ 36 (0, 0) hA4') Try.underlying36 rfl h9) rfl ?_
      exact hQ
end Go.Proofs.Ytchfhkfepghfjaa

namespace Go.Proofs.Ytchfhkfepghfjaa
open Go.RowKit

set_option maxHeartbeats 2000000 in
set_option maxRecDepth 1000000 in
theorem readExpr (F : Nat → Prop) (t : Tr) (tg tj : Nat) (w : World) (rb : Nat) (m : List UInt8) (tv : Value) (h : DIs w rb m tv none) (ho : w.ownsRow (rb + 1) 72 3 tv 0 []) (hT : PT F w tg tj t) (hF : ∀ b, F b → b < rb) (htx : TxOk t) (hnd : nodes t ≤ 20000) (hm : m.length ≤ 8192) (L : Nat) (hL : 20000 ≤ L) :
    Calls Try.prog 12 #[.pointer (some ⟨rb, 0, none⟩), .pointer (some ⟨tg, tj, none⟩)] w (ExprQ rb m none t L w) := by
  have hrb := h.lt
  have hb0 : Below w.heap.size w ((w.alloc (.cells #[.int .i64 0, .int .i64 0, .string ⟨#[]⟩, .complex .f64 0 0, .string ⟨#[]⟩, .string ⟨#[]⟩, .slice none 0 0, .slice none 0 0, .slice none 0 0] 36)).alloc (.cells #[.int .i64 0, .int .i64 0, .string ⟨#[]⟩, .complex .f64 0 0, .string ⟨#[]⟩, .string ⟨#[]⟩, .slice none 0 0, .slice none 0 0, .slice none 0 0] 36)) := ((Below.refl _ _).alloc (Nat.le_refl _) _).alloc (by simp) _
  have hA4 : At ((w.alloc (.cells #[.int .i64 0, .int .i64 0, .string ⟨#[]⟩, .complex .f64 0 0, .string ⟨#[]⟩, .string ⟨#[]⟩, .slice none 0 0, .slice none 0 0, .slice none 0 0] 36)).alloc (.cells #[.int .i64 0, .int .i64 0, .string ⟨#[]⟩, .complex .f64 0 0, .string ⟨#[]⟩, .string ⟨#[]⟩, .slice none 0 0, .slice none 0 0, .slice none 0 0] 36)) w.heap.size [] exz [] 36 := (Below.heap_alloc _ _ _ (by simp)).trans (at_zero w)
  have hA5 : At ((w.alloc (.cells #[.int .i64 0, .int .i64 0, .string ⟨#[]⟩, .complex .f64 0 0, .string ⟨#[]⟩, .string ⟨#[]⟩, .slice none 0 0, .slice none 0 0, .slice none 0 0] 36)).alloc (.cells #[.int .i64 0, .int .i64 0, .string ⟨#[]⟩, .complex .f64 0 0, .string ⟨#[]⟩, .string ⟨#[]⟩, .slice none 0 0, .slice none 0 0, .slice none 0 0] 36)) (w.heap.size + 1) [] exz [] 36 := by
    have := at_zero (w.alloc (.cells #[.int .i64 0, .int .i64 0, .string ⟨#[]⟩, .complex .f64 0 0, .string ⟨#[]⟩, .string ⟨#[]⟩, .slice none 0 0, .slice none 0 0, .slice none 0 0] 36))
    rw [show (w.alloc (.cells #[.int .i64 0, .int .i64 0, .string ⟨#[]⟩, .complex .f64 0 0, .string ⟨#[]⟩, .string ⟨#[]⟩, .slice none 0 0, .slice none 0 0, .slice none 0 0] 36)).heap.size = w.heap.size + 1 by simp] at this
    exact this
  have HS : Hid (((w.alloc (.cells #[.int .i64 0, .int .i64 0, .string ⟨#[]⟩, .complex .f64 0 0, .string ⟨#[]⟩, .string ⟨#[]⟩, .slice none 0 0, .slice none 0 0, .slice none 0 0] 36)).alloc (.cells #[.int .i64 0, .int .i64 0, .string ⟨#[]⟩, .complex .f64 0 0, .string ⟨#[]⟩, .string ⟨#[]⟩, .slice none 0 0, .slice none 0 0, .slice none 0 0] 36)).heap.size = w.heap.size + 2) := by rw [hid_iff]; simp
  have hD0 := h.below hb0 hrb
  have ho0 := owns_below ho hb0
  have hfr0 : ∀ b, F b → ((w.alloc (.cells #[.int .i64 0, .int .i64 0, .string ⟨#[]⟩, .complex .f64 0 0, .string ⟨#[]⟩, .string ⟨#[]⟩, .slice none 0 0, .slice none 0 0, .slice none 0 0] 36)).alloc (.cells #[.int .i64 0, .int .i64 0, .string ⟨#[]⟩, .complex .f64 0 0, .string ⟨#[]⟩, .string ⟨#[]⟩, .slice none 0 0, .slice none 0 0, .slice none 0 0] 36)).heap[b]? = w.heap[b]? := fun b hb => hb0.block b (by have := hF b hb; omega)
  have hoA := owns_below ho0 ((Below.refl _ _).alloc (Nat.le_refl _) (.cells #[.pointer (some ⟨tg, tj, none⟩), .pointer (some ⟨w.heap.size + 1, 0, none⟩), .pointer none] 72))
  obtain ⟨q0, q1, q2, q3, fz⟩ := h.cells
  have f1 := fz 1
  obtain ⟨ta, tn, tc, htv⟩ : ∃ ta tn tc, tv = .slice ta tn tc := by
    rcases ho.2 with ⟨rfl, _⟩ | ⟨k', cap, cur, rfl, _⟩
    · exact ⟨none, 0, 0, rfl⟩
    · exact ⟨_, _, _, rfl⟩
  subst htv
  clear fz
  go_enter Try.func12, Try.ntmps12
  go_wp2_with (at_builtin; refine append_part rfl (.tmp 12) (.tmp 15) rfl (rb + 1) _ 0 [] rfl hoA _ _ [.pointer (some ⟨tg, tj, none⟩), .pointer (some ⟨w.heap.size + 1, 0, none⟩), .pointer none] rfl rfl ?src (ptr3_one _ _ _) ?len ?hB ?next)
  case src =>
    have hcn := cells_new ((w.alloc (.cells #[.int .i64 0, .int .i64 0, .string ⟨#[]⟩, .complex .f64 0 0, .string ⟨#[]⟩, .string ⟨#[]⟩, .slice none 0 0, .slice none 0 0, .slice none 0 0] 36)).alloc (.cells #[.int .i64 0, .int .i64 0, .string ⟨#[]⟩, .complex .f64 0 0, .string ⟨#[]⟩, .string ⟨#[]⟩, .slice none 0 0, .slice none 0 0, .slice none 0 0] 36)) [.pointer (some ⟨tg, tj, none⟩), .pointer (some ⟨w.heap.size + 1, 0, none⟩), .pointer none] 72
    rw [HS.out] at hcn
    exact hcn
  case len => omega
  case hB => simp; omega
  case next =>
    intro g cap w' ho' hg'
    replace ho' : w'.ownsRow (rb + 1) 72 3 (.slice (some ⟨g, 0, none⟩) 1 cap) 1 [.pointer (some ⟨tg, tj, none⟩), .pointer (some ⟨w.heap.size + 1, 0, none⟩), .pointer none] := ho'
    obtain ⟨r1, r2, hD2, ho2, hE2⟩ := ev_push (d := rb) (n := 0) hD0 ho0 ho' hg'
    clear hoA ho' hg' q0 q1 q2 q3 f1
    have hU : Ev rb rb w (w'.setCell ⟨rb, 1, none⟩ (.slice (some ⟨g, 0, none⟩) 1 cap)) := Ev.trans (Ev.of_below hb0) hE2 (.inl rfl)
    have hsU : w.heap.size + 2 ≤ (w'.setCell ⟨rb, 1, none⟩ (.slice (some ⟨g, 0, none⟩) 1 cap)).heap.size := by have := hE2.size; rw [HS.out] at this; exact this
    have hA4U := hA4.ev hE2 (by decide) (by omega) (by omega)
    have hA5U := hA5.ev hE2 (by decide) (by omega) (by omega)
    have hfrU : ∀ b, F b → (w'.setCell ⟨rb, 1, none⟩ (.slice (some ⟨g, 0, none⟩) 1 cap)).heap[b]? = w.heap[b]? := fun b hb => (hE2.tree hF hD0.lt (Nat.le_refl _) b hb).trans (hfr0 b hb)
    have hM : MS F rb m (w'.setCell ⟨rb, 1, none⟩ (.slice (some ⟨g, 0, none⟩) 1 cap)) (.slice (some ⟨g, 0, none⟩) 1 cap) [⟨tg, tj, t, false, w.heap.size + 1, 0⟩] := by
      refine ⟨hD2, ho2, fun q hq => ?_, by simpa using hnd⟩
      simp only [List.mem_singleton] at hq
      subst hq
      exact ⟨hT.frame hfrU, htx⟩
    have hG := (good_start hM hA5U (by omega)).mono hnd
    have hst : RdX F rb m t (w.heap.size + 1) (w'.setCell ⟨rb, 1, none⟩ (.slice (some ⟨g, 0, none⟩) 1 cap)) 20000 (w'.setCell ⟨rb, 1, none⟩ (.slice (some ⟨g, 0, none⟩) 1 cap)) := .inl ⟨_, _, hM, hG⟩
    clear hG hM hA4 hA5 hD2 ho2 hE2 hb0 HS hD0 ho0 hfr0 hA5U hfrU hT
    go_wp2
    generalize w'.setCell ⟨rb, 1, none⟩ (.slice (some ⟨g, 0, none⟩) 1 cap) = U0 at *
    clear r1 r2
    go_loopg [] 20000 (fun gk wr => RdX F rb m t (w.heap.size + 1) U0 gk wr)
    case atStart => exact hst
    case round =>
      clear hst
      rcases hrel with ⟨tvr, ps, hM, hG⟩ | ⟨tvr, er, hX⟩
      · rcases List.eq_nil_or_concat ps with rfl | ⟨q0, q, rfl⟩
        · have hfin := good_nil hG
          obtain ⟨X, hX9, hXA, hQ⟩ := expr_fin (L := L) hrb hU hsU hL (.inl hfin)
          obtain ⟨_, _, _, _, _, _, _, _, hEv⟩ := hfin
          have hA4r := hA4U.ev hEv (by decide) (by omega) (by omega)
          obtain ⟨q0, q1, q2, q3, fz⟩ := hM.rd.cells
          obtain ⟨ta', tc', htv⟩ : ∃ ta tc, tvr = .slice ta 0 tc := by
            rcases hM.own.2 with ⟨rfl, _⟩ | ⟨k', cap, cur, rfl, _⟩
            · exact ⟨none, 0, rfl⟩
            · exact ⟨_, _, rfl⟩
          subst htv
          clear hG hM hEv fz q0 q3
          have hXA' : wr.heap[w.heap.size + 1]? = some (.cells X.toArray 36 (0, 0)) := by simpa [At] using hXA
          have hA4' : wr.heap[w.heap.size]? = some (.cells exz.toArray 36 (0, 0)) := by simpa [At] using hA4r
          have hsz : exz.toArray.size = X.toArray.size := by rw [List.size_toArray, List.size_toArray, hX9.1]; rfl
          have hall : X.toArray.all (fun v => v.oneCell') = true := by simpa using hX9.2
          have h9 := arr9 hX9
          have hQ' := hQ hA4U
          clear hQ hX9 hXA hA4r hA4U
          generalize X.toArray = Xa at *
          go_wp2_with (first
            | (refine wpList_load_row rfl 36 (.tmp 5) rfl (w.heap.size + 1) rfl 36 Xa (0, 0) _ hXA' Try.underlying36 rfl h9 ?_)
            | (refine wpList_store_row rfl 36 (.tmp 4) (.tmp 69) rfl w.heap.size Xa rfl rfl 36 exz.toArray hA4' h9 hsz hall ?_))
          (try simp only [Exit.inBlock, Exit.then])
          refine bodyPost_ret (results_cell_row rfl _ _ w.heap.size 36 Xa (0, 0) _ rfl (setRow_heap wr w.heap.size _ _ 36 (0, 0) hA4') Try.underlying36 rfl h9) rfl ?_
          exact hQ'
        · rw [List.concat_eq_append] at hM hG
          obtain ⟨k, pre, post, T, rfl, hd, h2, h3⟩ := good_cons hG
          obtain ⟨gs, cap2, rfl, hcap, hgs, c0, c1, c2, htk⟩ := hM.take hF hm
          obtain ⟨e0, e1, e2, e3, fz⟩ := hM.rd.cells
          have f1 := fz 1
          have hrl := hM.rd.lt
          have hE3 := htk
          obtain ⟨tg', tj', t', arm, dg, dj⟩ := q
          have hdj : pre.length = dj := hd.2.1
          subst hdj
          have hql : q0.length ≤ 20000 := by
            have h1 := hM.sum
            have h2 := sum_nodes (q0.map (fun p => p.tree))
            rw [List.map_map, List.length_map] at h2
            rw [List.map_append, List.sum_append] at h1
            have h3 : (q0.map (fun p => nodes p.tree)).sum = (q0.map (nodes ∘ fun p => p.tree)).sum := rfl
            omega
          have hi : (q0.length : Int) < (q0.length : Int) + 1 := by omega
          have hi2 : (q0.length : Int) ≤ (cap2 : Int) := by omega
          clear fz hG
          cases arm
          · simp only [Bool.false_eq_true, if_false] at c1 c2
            have hcall := fun o => readForm F rb m _ _ q0 tg' tj' dg t' pre post T ((htk o).2 pre post T hd)
            have hstep := fun o e w9 hq => RdX.step (W := (wr.setCell ⟨rb, 1, none⟩ (.slice (some ⟨gs, 0, none⟩) q0.length cap2)).alloc o) (e := e) (w' := w9) h2 h3 (htk o).1 hq
            clear hd h2 h3 htk hE3 hM
            go_wp2_with fail
            refine (hcall _).mono ?_
            intro e w9 hq
            obtain ⟨rfl, hR⟩ := hstep _ e w9 hq
            clear hq hstep hcall c0 c1 c2 e0 e1 e2 e3 f1
            go_wp2
            go_roundg k
            case measure => omega
            case rel => exact hR
          · simp only [if_true] at c1 c2
            have hcall := fun o => readArm F rb m _ _ q0 tg' tj' dg t' pre post T ((htk o).2 pre post T hd)
            have hstep := fun o e w9 hq => RdX.step (W := (wr.setCell ⟨rb, 1, none⟩ (.slice (some ⟨gs, 0, none⟩) q0.length cap2)).alloc o) (e := e) (w' := w9) h2 h3 (htk o).1 hq
            clear hd h2 h3 htk hE3 hM
            go_wp2_with fail
            refine (hcall _).mono ?_
            intro e w9 hq
            obtain ⟨rfl, hR⟩ := hstep _ e w9 hq
            clear hq hstep hcall c0 c1 c2 e0 e1 e2 e3 f1
            go_wp2
            go_roundg k
            case measure => omega
            case rel => exact hR
      · obtain ⟨X, hX9, hXA, hQ⟩ := expr_fin (F := F) (L := L) hrb hU hsU hL (.inr ⟨er, hX⟩)
        obtain ⟨hex, hD, ⟨n, xs, hown, hn⟩, hEv, _⟩ := hX
        have hne := exprP_err hex
        have hw : ((whyOf (some er) : Int) == 0) = false := by
          rw [beq_eq_false_iff_ne]
          show ((er.1 : Nat) : Int) ≠ 0
          omega
        have hA4r := hA4U.ev hEv (by decide) (by omega) (by omega)
        obtain ⟨q0, q1, q2, q3, fz⟩ := hD.cells
        obtain ⟨ta', tc', htv⟩ : ∃ ta tc, tvr = .slice ta n tc := by
          rcases hown.2 with ⟨rfl, e0⟩ | ⟨k', cap, cur, rfl, _⟩
          · exact ⟨none, 0, by rw [e0]⟩
          · exact ⟨_, _, rfl⟩
        subst htv
        clear hD hown hEv fz q0 q3 hex hne
        generalize (whyOf (some er) : Int) = z at *
        by_cases hn0 : 0 < n
        · have hn1 : (0 : Int) < (n : Int) := by omega
          have hXA' : wr.heap[w.heap.size + 1]? = some (.cells X.toArray 36 (0, 0)) := by simpa [At] using hXA
          have hA4' : wr.heap[w.heap.size]? = some (.cells exz.toArray 36 (0, 0)) := by simpa [At] using hA4r
          have hsz : exz.toArray.size = X.toArray.size := by rw [List.size_toArray, List.size_toArray, hX9.1]; rfl
          have hall : X.toArray.all (fun v => v.oneCell') = true := by simpa using hX9.2
          have h9 := arr9 hX9
          have hQ' := hQ hA4U
          clear hQ hX9 hXA hA4r hA4U
          generalize X.toArray = Xa at *
          go_wp2_with (first
            | (refine wpList_load_row rfl 36 (.tmp 5) rfl (w.heap.size + 1) rfl 36 Xa (0, 0) _ hXA' Try.underlying36 rfl h9 ?_)
            | (refine wpList_store_row rfl 36 (.tmp 4) (.tmp 69) rfl w.heap.size Xa rfl rfl 36 exz.toArray hA4' h9 hsz hall ?_))
          (try simp only [Exit.inBlock, Exit.then])
          refine bodyPost_ret (results_cell_row rfl _ _ w.heap.size 36 Xa (0, 0) _ rfl (setRow_heap wr w.heap.size _ _ 36 (0, 0) hA4') Try.underlying36 rfl h9) rfl ?_
          exact hQ'
        · have hn1 : ¬ (0 : Int) < (n : Int) := by omega
          have hXA' : wr.heap[w.heap.size + 1]? = some (.cells X.toArray 36 (0, 0)) := by simpa [At] using hXA
          have hA4' : wr.heap[w.heap.size]? = some (.cells exz.toArray 36 (0, 0)) := by simpa [At] using hA4r
          have hsz : exz.toArray.size = X.toArray.size := by rw [List.size_toArray, List.size_toArray, hX9.1]; rfl
          have hall : X.toArray.all (fun v => v.oneCell') = true := by simpa using hX9.2
          have h9 := arr9 hX9
          have hQ' := hQ hA4U
          clear hQ hX9 hXA hA4r hA4U
          generalize X.toArray = Xa at *
          go_wp2_with (first
            | (refine wpList_load_row rfl 36 (.tmp 5) rfl (w.heap.size + 1) rfl 36 Xa (0, 0) _ hXA' Try.underlying36 rfl h9 ?_)
            | (refine wpList_store_row rfl 36 (.tmp 4) (.tmp 69) rfl w.heap.size Xa rfl rfl 36 exz.toArray hA4' h9 hsz hall ?_))
          (try simp only [Exit.inBlock, Exit.then])
          refine bodyPost_ret (results_cell_row rfl _ _ w.heap.size 36 Xa (0, 0) _ rfl (setRow_heap wr w.heap.size _ _ 36 (0, 0) hA4') Try.underlying36 rfl h9) rfl ?_
          exact hQ'
end Go.Proofs.Ytchfhkfepghfjaa
