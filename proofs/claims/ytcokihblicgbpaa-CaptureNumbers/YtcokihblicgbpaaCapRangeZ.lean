/-
  A range over a function, from the iterator's own side: what the iterator's call must come to, and what a call of yield comes to, where the body may be told of memory that the iterator has made.
-/
import Derived.RangeFuncNested
import Derived.RangeFuncLeaves
namespace Go.Proofs.Ytcokihblicgbpaa
open Go.RowKit

/-- A loop's record. -/
abbrev recL (fn : FuncId) (tmps : Array Value) (ps : Array Tmp) (assign body : Code) (D : Nat) (st : LoopState) (pe : Option Code) : Obj :=
  .loop { state := st, pending := pe, fn := fn, tmps := tmps, params := ps, assign := assign, body := body, defers := D }
/-- How a round may be left: off its end, or by return. -/
def rndPost (l : Nat) (rc : LoopState → Option Code → Obj) (R : Ending → World → Prop) : Exit → Act → World → Prop
  | .normal, _, W => W.heap[l]? = some (rc .busy none) ∧ R (.returned (.bool true)) (W.putObj l (rc .ready none))
  | .ret, _, W => W.heap[l]? = some (rc .busy none) ∧ R (.returned (.bool false)) (W.putObj l (rc .done (some .ret)))
  | _, _, _ => False
/-- One call of yield. -/
theorem yield_round {F : Fence} {n : Nat} {P : Program} {l D : Nat} {fn : FuncId} {tmps : Array Value} {ps : Array Tmp} {assign body : Code} {args : Array Value} {W : World} {R : Ending → World → Prop}
    (hfn : F.fn fn) (hl : W.heap[l]? = some (recL fn tmps ps assign body D .ready none)) (hps : args.size = ps.size)
    (h : assign.wpIn (F.inRound l) n P (Exit.then (fun a1 W1 => W1.heap[l]? = some (recL fn tmps ps assign body D .ready none) ∧
        body.wpIn (F.inRound l) n P (rndPost l (recL fn tmps ps assign body D) R) a1 (W1.putObj l (recL fn tmps ps assign body D .busy none))) (fun _ _ _ => False))
      { tmps := (ps.zip args).foldl (fun t (p, v) => t.setIfInBounds p v) tmps, defers := [] } W) :
    YieldAt F n P l args W R := by
  refine ⟨fn, _, assign, body, run_yield (P := P) hl hps, roundIn_of_wpIn hfn (wpIn_mono h ?_)⟩
  intro e a1 W1 hp
  cases e with
  | normal =>
    obtain ⟨h1, h2⟩ := hp
    refine ⟨_, run_beginRound h1 rfl, wpIn_mono h2 ?_⟩
    intro e2 a2 W2 hq
    cases e2 with
    | normal => exact ⟨_, _, run_endRound none hq.1, hq.2⟩
    | ret => exact ⟨_, _, run_endRound (some .ret) hq.1, hq.2⟩
    | exit id => exact hq.elim
    | goto t => exact hq.elim
    | panic c => exact hq.elim
    | outgrown => exact hq.elim
  | ret => exact hp.elim
  | exit id => exact hp.elim
  | goto t => exact hp.elim
  | panic c => exact hp.elim
  | outgrown => exact hp.elim
/-- The mark that such a loop leaves among the deferred calls. -/
abbrev markD (D : Nat) : Deferred := { target := .collected D, args := #[] }
/-- The statement, out of the iterator's call. -/
theorem range_own {F : Fence} {n : Nat} {P : Program} {g : Operand} {ps : Array Tmp} {assign body : Code} {Q : Exit → Act → World → Prop} {a : Act} {w : World}
    (hro : F.round = none) (hd : F.depth = none) {gf : Nat} {lb : Array Value} (hg : a.eval g = .func (.func gf) #[] lb) (hFg : F.fn gf) (eg : ∀ args w, (callFunc gf args).run P w = .ok (.enter gf args) w)
    (h : ∀ fn, F.fn fn → CallsIn F (n - 1) P gf (#[.func (.yield (w.heap.size + 1)) #[] #[]] ++ lb) ((w.alloc (.deferred (some []))).alloc (recL fn a.tmps ps assign body w.heap.size .ready none)) fun e W =>
      (∃ v, e = .returned v) ∧ ((W.heap[w.heap.size + 1]? = some (recL fn a.tmps ps assign body w.heap.size .ready none) ∧ Q .normal { a with defers := markD w.heap.size :: a.defers } (W.putObj (w.heap.size + 1) (recL fn a.tmps ps assign body w.heap.size .exhausted none))) ∨
        (W.heap[w.heap.size + 1]? = some (recL fn a.tmps ps assign body w.heap.size .done (some .ret)) ∧ Code.ret.wpIn F n P Q { a with defers := markD w.heap.size :: a.defers } (W.putObj (w.heap.size + 1) (recL fn a.tmps ps assign body w.heap.size .exhausted (some .ret)))))) :
    (Code.rangeFunc g ps assign body).wpIn F n P Q a w := by
  refine wpIn_rangeFunc fun fn hfn => ?_
  have h1 := h fn hfn
  clear h
  obtain ⟨W1, hW1⟩ : ∃ W1, W1 = (w.alloc (.deferred (some []))).alloc (recL fn a.tmps ps assign body w.heap.size .ready none) := ⟨_, rfl⟩
  rw [← hW1] at h1
  have hen : (Instr.enterLoop fn a.tmps ps assign body F.round).run P w = .ok (w.heap.size + 1, [markD w.heap.size]) W1 := by
    rw [hro, hW1]
    exact run_enterLoop_outer fn a.tmps ps assign body
  clear hW1
  have hres : (resolve a.eval (rangeCall g (w.heap.size + 1)) 0).run P W1 = .ok { target := .fn (.func gf) lb, args := #[.func (.yield (w.heap.size + 1)) #[] #[]] } W1 := by
    simp only [resolve, hg]
    simp [go_sem]
  have hle : ∀ f', Target.leads P W1 (.fn (.func gf) lb) #[.func (.yield (w.heap.size + 1)) #[] #[]] = some f' → F.fn f' := by
    intro f' hf'
    simp [Target.leads] at hf'
    subst hf'
    exact hFg
  have hinv : (invoke (.fn (.func gf) lb) #[.func (.yield (w.heap.size + 1)) #[] #[]]).run P W1 = .ok (.enter gf (#[.func (.yield (w.heap.size + 1)) #[] #[]] ++ lb)) W1 := by
    simp [invoke, go_sem, eg]
  have hn : F.depth.isSome = true → 1 ≤ n := fun h => absurd h (by rw [hd]; simp)
  have hfin : CallsIn F (n - 1) P gf (#[.func (.yield (w.heap.size + 1)) #[] #[]] ++ lb) W1 (rangePost F n P (w.heap.size + 1) Q { a with defers := [markD w.heap.size] ++ a.defers }) := by
    refine h1.mono fun e W hq => ?_
    obtain ⟨⟨v, hv⟩, hor⟩ := hq
    rw [hv]
    rcases hor with ⟨g1, g2⟩ | ⟨g1, g2⟩
    · have e1 := run_endLoop (P := P) g1 (by simp)
      exact ⟨none, _, e1, g2⟩
    · have e1 := run_endLoop (P := P) g1 (by simp)
      exact ⟨some .ret, _, e1, g2⟩
  refine ⟨w.heap.size + 1, [markD w.heap.size], W1, { target := .fn (.func gf) lb, args := #[.func (.yield (w.heap.size + 1)) #[] #[]] }, W1, gf, #[.func (.yield (w.heap.size + 1)) #[] #[]] ++ lb, W1, ?_, ?_, ?_, ?_, ?_, ?_⟩
  · exact hen
  · exact hres
  · exact hle
  · exact hinv
  · exact hn
  · exact hfin
end Go.Proofs.Ytcokihblicgbpaa
