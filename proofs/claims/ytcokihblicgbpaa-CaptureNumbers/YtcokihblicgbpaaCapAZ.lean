/-
  Captures: an expression at its place in memory; which names are bound in its parts; the package's boundInKid.
  And: The document's own captures: how many expressions. Captures: what is free, as the document's own goes (names bound, names told) and as the package goes (a count of bindings): the same. Captures: what the reader's expressions are like: a name has no parts, a let has two Kids, as many arms as bodies. The document's own captures: how deep. The document's own captures: how many places.
-/
import Derived.Deep.LoopGhost
import Derived.Test.YtcokihblicgbpaaParAZ
import Derived.Test.YtcokihblicgbpaaRefBZ
import Derived.Deep.RegionHeld3
namespace Go.Proofs.Ytcokihblicgbpaa
open Go.RowKit

/-- Names that e binds in its k-th Kid. -/
def bindN (e : Ex) (k : Nat) : List (List UInt8) := if e.kind = 4 ∧ k + 1 = e.kids.length then [e.name] else if e.kind = 10 then e.params.map (·.1) else []
/-- An expression at a place. -/
structure EA (F : Nat → Prop) (w : World) (b o : Nat) (e : Ex) (kv pv av : Value) : Prop where
  fb : F b
  xi : XI F w kv pv av e
  ce : ∀ j u, (exc e kv pv av)[j]? = some u → w.cell? ⟨b, o + j, none⟩ = some u
theorem EA.frame {F G : Nat → Prop} {w w' : World} {b o : Nat} {e : Ex} {kv pv av : Value} (hF : ∀ g, F g → G g ∧ w'.heap[g]? = w.heap[g]?) (h : EA F w b o e kv pv av) : EA G w' b o e kv pv av :=
  ⟨(hF b h.fb).1, XI.frame hF _ h.xi, fun j u hj => (World.cell?_of_block (a := ⟨b, o + j, none⟩) (hF b h.fb).2).trans (h.ce j u hj)⟩
theorem EA.below {F : Nat → Prop} {w w' : World} {b o : Nat} {e : Ex} {kv pv av : Value} {n : Nat} (h : EA F w b o e kv pv av) (k : Below n w w') (hF : ∀ g, F g → g < n) : EA F w' b o e kv pv av := h.frame fun g hg => ⟨hg, k.block g (hF g hg)⟩
/-- A row of texts that is being filled. -/
def NmR (u : World) (d n : Nat) (ns : List (List UInt8)) : Prop :=
  ∃ cur : Array Value, u.heap[d]? = some (.cells cur 9 (0, 0)) ∧ cur.size = n ∧ (∀ (i : Nat) (x : List UInt8), ns[i]? = some x → cur[i]? = some (Value.string (str x))) ∧ ∀ i, i < n → ∃ x : ByteArray, cur[i]? = some (Value.string x)
theorem NmR.kept {u u' : World} {d n : Nat} {ns : List (List UInt8)} (h : NmR u d n ns) (e : u'.heap[d]? = u.heap[d]?) : NmR u' d n ns := by
  obtain ⟨cur, h1, h2⟩ := h
  exact ⟨cur, e.trans h1, h2⟩
theorem NmR.lt {u : World} {d n : Nat} {ns : List (List UInt8)} (h : NmR u d n ns) : d < u.heap.size := by
  obtain ⟨cur, h1, h2⟩ := h
  exact (Array.getElem?_eq_some_iff.1 h1).1
theorem NmR.cell {u : World} {d n : Nat} {ns : List (List UInt8)} (h : NmR u d n ns) (j : Nat) (hj : j < n) : (∃ x, u.cell? ⟨d, j, none⟩ = some (.string x)) ∧ u.frozen? ⟨d, j, none⟩ = false := by
  obtain ⟨cur, h1, h2, h3, h4⟩ := h
  obtain ⟨x, hx⟩ := h4 j hj
  exact ⟨⟨x, by rw [cell_of_row _ _ j _ _ _ h1]; exact hx⟩, frozen_of_row u d j _ _ h1⟩
theorem NmR.put {u : World} {d n : Nat} {ns : List (List UInt8)} (h : NmR u d n ns) {j : Nat} (hl : ns.length = j) (hj : j < n) (x : List UInt8) : NmR (u.setCell ⟨d, j, none⟩ (.string (str x))) d n (ns ++ [x]) := by
  obtain ⟨cur, h1, h2, h3, h4⟩ := h
  refine ⟨cur.setIfInBounds j (.string (str x)), heap_setCell_same u d j _ _ _ h1, by simpa using h2, fun i y hi => ?_, fun i hi => ?_⟩
  · rw [Array.getElem?_setIfInBounds]
    by_cases e : j = i
    · subst e
      rw [if_pos rfl, if_pos (by omega)]
      rw [List.getElem?_append_right (by omega), hl, Nat.sub_self] at hi
      simp at hi
      rw [hi]
    · rw [if_neg e]
      refine h3 i y ?_
      have hil := (List.getElem?_eq_some_iff.1 hi).1
      rw [List.length_append] at hil
      simp at hil
      rwa [List.getElem?_append_left (by omega)] at hi
  · rw [Array.getElem?_setIfInBounds]
    by_cases e : j = i
    · rw [if_pos e, if_pos (by omega)]
      exact ⟨_, rfl⟩
    · rw [if_neg e]
      exact h4 i hi
theorem NmR.start (w : World) (n : Nat) : NmR (w.alloc (.cells (zeros strz n).toArray 9)) w.heap.size n [] := by
  have hl : (zeros strz n).length = n := by rw [zeros_length]; simp [strz]
  refine ⟨(zeros strz n).toArray, heap_alloc_new w _, by simpa using hl, fun i x h => by simp at h, fun i hi => ⟨str [], ?_⟩⟩
  rw [List.getElem?_toArray, zeros_get strz (by decide) n i (by simpa [strz] using hi)]
  simp [strz, Nat.mod_one]
theorem NmR.txr {u : World} {d n : Nat} {ns : List (List UInt8)} (h : NmR u d n ns) (hl : ns.length = n) (F : Nat → Prop) (hF : F d) : TxR F u (.slice (some ⟨d, 0, none⟩) n n) ns := by
  obtain ⟨cur, h1, h2, h3, h4⟩ := h
  refine .inr ⟨d, 0, n, by rw [hl], hF, fun j x hj => ?_⟩
  rw [Nat.zero_add, cell_of_row _ _ j _ _ _ h1]
  exact h3 j x hj
/-- What boundInKid answers. -/
def BndE (e : Ex) (k : Nat) (w : World) (r : Ending) (w' : World) : Prop := ∃ v, r = .returned v ∧ (∃ a n c, v = .slice a n c) ∧ TxR (Fq w w') w' v (bindN e k) ∧ Below w.heap.size w w'
set_option maxHeartbeats 2000000 in
set_option maxRecDepth 1000000 in
theorem boundInKid (F : Nat → Prop) (e : Ex) (b o k : Nat) (kv pv av : Value) (w : World) (hE : EA F w b o e kv pv av) (hF : ∀ g, F g → g < w.heap.size) (hkl : e.kids.length ≤ 20000) (hpl : e.params.length ≤ 20000) :
    Calls Try.prog 41 #[.pointer (some ⟨b, o, none⟩), .int .i64 (k : Int)] w (BndE e k w) := by
  obtain ⟨hX1, hX2, _⟩ := (XI_iff _ _ _ _ _ _).1 hE.xi
  obtain ⟨ka, kc, rfl⟩ := hX1.shape
  obtain ⟨pa, pc, rfl⟩ := hX2.shape
  have e0 : w.cell? ⟨b, o, none⟩ = some (.int .i64 (e.kind : Int)) := hE.ce 0 _ rfl
  have e2 : w.cell? ⟨b, o + 2, none⟩ = some (.string (str e.name)) := hE.ce 2 _ rfl
  have e6 : w.cell? ⟨b, o + 6, none⟩ = some (.slice ka e.kids.length kc) := hE.ce 6 _ rfl
  have e7 : w.cell? ⟨b, o + 7, none⟩ = some (.slice pa e.params.length pc) := hE.ce 7 _ rfl
  have hbl : b < w.heap.size := hF b hE.fb
  by_cases h4 : e.kind = 4
  · have t4 : ((e.kind : Int) == 4) = true := by rw [beq_iff_eq]; omega
    have t10 : ((e.kind : Int) == 10) = false := by rw [beq_eq_false_iff_ne]; omega
    by_cases hl : k + 1 = e.kids.length
    · have tk : ((k : Int) == (e.kids.length : Int) - 1) = true := by rw [beq_iff_eq]; omega
      have HB : Hid (bindN e k = [e.name]) := by rw [hid_iff, bindN, if_pos ⟨h4, hl⟩]
      have hb1 : Below w.heap.size w (w.alloc (.cells #[.string (str e.name)] 9)) := (Below.refl _ w).alloc (Nat.le_refl _) _
      have hn := heap_alloc_new w (.cells #[.string (str e.name)] 9)
      have hsz : w.heap.size < (w.alloc (.cells #[.string (str e.name)] 9)).heap.size := by simp
      clear h4 hl hE hX1 hX2
      go_enter Try.func41, Try.ntmps41
      go_wp2
      go_ret
      refine ⟨_, rfl, ⟨_, _, _, rfl⟩, ?_, hb1⟩
      rw [HB.out]
      refine .inr ⟨w.heap.size, 0, 1, rfl, ⟨Nat.le_refl _, hsz⟩, fun j x hj => ?_⟩
      have hj0 : j = 0 := by have := (List.getElem?_eq_some_iff.1 hj).1; simp at this; exact this
      subst hj0
      simp at hj
      subst hj
      rw [cell_of_row _ _ 0 _ _ _ hn]
      rfl
    · have tk : ((k : Int) == (e.kids.length : Int) - 1) = false := by rw [beq_eq_false_iff_ne]; omega
      have HB : Hid (bindN e k = []) := by rw [hid_iff, bindN, if_neg (fun h => hl h.2), if_neg (by omega)]
      clear h4 hl hE hX1 hX2
      go_enter Try.func41, Try.ntmps41
      go_wp2
      go_ret
      exact ⟨_, rfl, ⟨_, _, _, rfl⟩, by rw [HB.out]; exact .inl ⟨_, _, rfl, rfl⟩, Below.refl _ _⟩
  · have t4 : ((e.kind : Int) == 4) = false := by rw [beq_eq_false_iff_ne]; omega
    by_cases h10 : e.kind = 10
    · have t10 : ((e.kind : Int) == 10) = true := by rw [beq_iff_eq]; omega
      have HB : Hid (bindN e k = e.params.map (·.1)) := by rw [hid_iff, bindN, if_neg (fun h => h4 h.1), if_pos h10]
      have hmk := mk_S w e.params.length hpl
      have hb1 : Below w.heap.size w (w.alloc (.cells (zeros strz e.params.length).toArray 9)) := (Below.refl _ w).alloc (Nat.le_refl _) _
      have hN1 := NmR.start w e.params.length
      have c7 : (w.alloc (.cells (zeros strz e.params.length).toArray 9)).cell? ⟨b, o + 7, none⟩ = some (.slice pa e.params.length pc) := (hb1.cell (p := ⟨b, o + 7, none⟩) hbl).trans e7
      have hPU : ∀ u, Below w.heap.size w u → TxR2 F u (.slice pa e.params.length pc) e.params := fun u hu => hX2.frame fun g hg => ⟨hg, hu.block g (hF g hg)⟩
      have hsz : w.heap.size < (w.alloc (.cells (zeros strz e.params.length).toArray 9)).heap.size := by simp
      clear h4 h10 hE hX1 hX2
      go_enter Try.func41, Try.ntmps41
      go_wp2
      generalize (w.alloc (.cells (zeros strz e.params.length).toArray 9)) = W1 at *
      go_loopg [46] e.params.length (fun gk i wr => ∃ j : Nat, gk + j = e.params.length ∧ i = .int .i64 (j : Int) ∧ NmR wr w.heap.size e.params.length ((e.params.take j).map (·.1)) ∧ Below w.heap.size w wr)
      case atStart => exact ⟨0, by omega, rfl, hN1, hb1⟩
      case round =>
        obtain ⟨j, hgj, rfl, hNr, hBr⟩ := hrel
        by_cases hj : j < e.params.length
        · have hji : (j : Int) < (e.params.length : Int) := by omega
          rcases hPU _ hBr with ⟨a', c', e1, e2'⟩ | ⟨pg, po, cap, e1, hpg, hpc⟩
          · rw [e2'] at hj
            simp at hj
          · simp only [Value.slice.injEq, true_and] at e1
            obtain ⟨rfl, rfl⟩ := e1
            obtain ⟨q0, q1⟩ := hpc j e.params[j] (List.getElem?_eq_getElem hj)
            have q1' : wr.cell? ⟨pg, po + j * 2 + 1, none⟩ = some (.string (str e.params[j].2)) := by rw [Nat.add_assoc]; exact q1
            have hS : Hid ((e.params.take j).map (·.1) ++ [e.params[j].1] = (e.params.take (j + 1)).map (·.1)) := by rw [hid_iff, List.take_succ_eq_append_getElem hj, List.map_append]; rfl
            have hlj : Hid (((e.params.take j).map (·.1)).length = j) := by rw [hid_iff, List.length_map, List.length_take]; omega
            generalize e.params[j] = pp at *
            have hA : ∀ oo, NmR (wr.alloc oo) w.heap.size e.params.length ((e.params.take j).map (·.1)) := fun oo => hNr.kept (Below.heap_alloc _ _ _ hNr.lt)
            obtain ⟨⟨xo, cx⟩, fx⟩ := (hA (.cells #[.string (str pp.1), .string (str pp.2)] 40)).cell j hj
            have hn2 := (hA (.cells #[.string (str pp.1), .string (str pp.2)] 40)).put hlj.out hj pp.1
            rw [hS.out] at hn2
            have hb2 : Below w.heap.size w ((wr.alloc (.cells #[.string (str pp.1), .string (str pp.2)] 40)).setCell ⟨w.heap.size, j, none⟩ (.string (str pp.1))) := (hBr.alloc hBr.size _).setCell (p := ⟨w.heap.size, j, none⟩) (Nat.le_refl _) _
            clear hpc hA hNr hPU
            go_wp2
            go_roundg (e.params.length - (j + 1))
            case measure => omega
            case rel => exact ⟨j + 1, by omega, by go_num, hn2, hb2⟩
        · have hji : ¬ (j : Int) < (e.params.length : Int) := by omega
          have hje : j = e.params.length := by omega
          rw [List.take_of_length_le (by omega)] at hNr
          have hlw := hNr.lt
          have htx := hNr.txr (by simp) (Fq w wr) ⟨Nat.le_refl _, hlw⟩
          clear hje hPU hNr
          go_wp2
          go_ret
          exact ⟨_, rfl, ⟨_, _, _, rfl⟩, by rw [HB.out]; exact htx, hBr⟩
    · have t10 : ((e.kind : Int) == 10) = false := by rw [beq_eq_false_iff_ne]; omega
      have HB : Hid (bindN e k = []) := by rw [hid_iff, bindN, if_neg (fun h => h4 h.1), if_neg h10]
      clear h4 h10 hE hX1 hX2
      go_enter Try.func41, Try.ntmps41
      go_wp2
      go_ret
      exact ⟨_, rfl, ⟨_, _, _, rfl⟩, by rw [HB.out]; exact .inl ⟨_, _, rfl, rfl⟩, Below.refl _ _⟩
end Go.Proofs.Ytcokihblicgbpaa

namespace Go.Proofs.Ytcokihblicgbpaa
open Go.RowKit

def cntX : Ex → Nat
  | ⟨_, _, _, _, _, _, _, kids, _, _, bods⟩ => 1 + (kids.attach.map fun k => cntX k.1).sum + (bods.attach.map fun k => cntX k.1).sum
termination_by e => SizeOf.sizeOf e
decreasing_by
  all_goals
    have := List.sizeOf_lt_of_mem k.2
    simp
    omega
theorem cntX_eq (e : Ex) : cntX e = 1 + (e.kids.map cntX).sum + (e.bods.map cntX).sum := by
  obtain ⟨a, b, c, d, e, f, g, l, i, j, m⟩ := e
  rw [cntX]
  simp
theorem cntX_pos (e : Ex) : 1 ≤ cntX e := by rw [cntX_eq]; omega
theorem sum_len (l : List Ex) : l.length ≤ (l.map cntX).sum := by
  induction l with
  | nil => simp
  | cons x r ih =>
    have := cntX_pos x
    simp
    omega
theorem sum_take (l : List Ex) (k : Nat) (h : k < l.length) (f : Ex → Nat) : ((l.take (k + 1)).map f).sum = ((l.take k).map f).sum + f l[k] := by
  rw [List.take_succ_eq_append_getElem h]
  simp only [List.map_append, List.sum_append, List.map_cons, List.map_nil, List.sum_cons, List.sum_nil, Nat.add_zero]
theorem sum_take_le (l : List Ex) (k : Nat) (f : Ex → Nat) : ((l.take k).map f).sum ≤ (l.map f).sum := by
  have h := congrArg (fun z => (List.map f z).sum) (List.take_append_drop k l)
  simp only [List.map_append, List.sum_append] at h
  omega
/-- An arm's body. -/
theorem XA.at2 {F : Nat → Prop} {w : World} {v : Value} {ars : List (List UInt8 × List (List UInt8))} {l : List Ex} (h : XA F w v ars l) (i : Nat) (hi : i < l.length) : ∃ g o cap vv k' p' a', v = .slice (some ⟨g, o, none⟩) l.length cap ∧ F g ∧ XI F w k' p' a' l[i] ∧ TxR F w vv (ars.getD i ([], [])).2 ∧ w.cell? ⟨g, o + (i * 11 + 1), none⟩ = some vv ∧
    w.cell? ⟨g, o + (i * 11 + 2), none⟩ = some (.int .i64 (l[i].kind : Int)) ∧ w.cell? ⟨g, o + (i * 11 + 3), none⟩ = some (.int .i64 (l[i].place : Int)) ∧ w.cell? ⟨g, o + (i * 11 + 4), none⟩ = some (.string (str l[i].name)) ∧
    w.cell? ⟨g, o + (i * 11 + 5), none⟩ = some (.complex .f64 (floatOfInt .f64 l[i].re) (floatOfInt .f64 l[i].im)) ∧ w.cell? ⟨g, o + (i * 11 + 6), none⟩ = some (.string (str l[i].text)) ∧ w.cell? ⟨g, o + (i * 11 + 7), none⟩ = some (.string (str l[i].ty)) ∧
    w.cell? ⟨g, o + (i * 11 + 8), none⟩ = some k' ∧ w.cell? ⟨g, o + (i * 11 + 9), none⟩ = some p' ∧ w.cell? ⟨g, o + (i * 11 + 10), none⟩ = some a' := by
  rcases h.2 with ⟨a, c, rfl, rfl⟩ | ⟨g, o, cap, rfl, hg, h⟩
  · simp at hi
  · obtain ⟨vv, k', p', a', h1, hv, h2⟩ := h i hi
    exact ⟨g, o, cap, vv, k', p', a', rfl, hg, h1, hv, h2 1 _ rfl, h2 2 _ rfl, h2 3 _ rfl, h2 4 _ rfl, h2 5 _ rfl, h2 6 _ rfl, h2 7 _ rfl, h2 8 _ rfl, h2 9 _ rfl, h2 10 _ rfl⟩
theorem XI.shapes {F : Nat → Prop} {w : World} {kv pv av : Value} {e : Ex} (h : XI F w kv pv av e) : (∃ a c, kv = .slice a e.kids.length c) ∧ (∃ a c, pv = .slice a e.params.length c) ∧ ∃ a c, av = .slice a e.bods.length c := by
  rw [XI_iff] at h
  exact ⟨h.1.shape, h.2.1.shape, h.2.2.shape⟩
/-- The call's own box of the expression. -/
structure CX (w wr : World) (kind : Int) (kv pv av : Value) : Prop where
  be : Below w.heap.size w wr
  lt : w.heap.size < wr.heap.size
  c0 : wr.cell? ⟨w.heap.size, 0, none⟩ = some (.int .i64 kind)
  c6 : wr.cell? ⟨w.heap.size, 6, none⟩ = some kv
  c7 : wr.cell? ⟨w.heap.size, 7, none⟩ = some pv
  c8 : wr.cell? ⟨w.heap.size, 8, none⟩ = some av
theorem CX.step {w wr w9 : World} {kind : Int} {kv pv av : Value} (h : CX w wr kind kv pv av) (hb : Below wr.heap.size wr w9) : CX w w9 kind kv pv av := by
  have e := hb.block _ h.lt
  exact ⟨h.be.trans (hb.mono (Nat.le_of_lt h.lt)), Nat.lt_of_lt_of_le h.lt hb.size, (World.cell?_of_block (a := ⟨w.heap.size, 0, none⟩) e).trans h.c0, (World.cell?_of_block (a := ⟨w.heap.size, 6, none⟩) e).trans h.c6, (World.cell?_of_block (a := ⟨w.heap.size, 7, none⟩) e).trans h.c7, (World.cell?_of_block (a := ⟨w.heap.size, 8, none⟩) e).trans h.c8⟩
theorem CX.start (w : World) (e : Ex) (kv pv av : Value) : CX w (w.alloc (.cells (exc e kv pv av).toArray 27)) (e.kind : Int) kv pv av := by
  have hn := heap_alloc_new w (.cells (exc e kv pv av).toArray 27)
  exact ⟨(Below.refl _ w).alloc (Nat.le_refl _) _, by simp, by rw [cell_of_row _ _ 0 _ _ _ hn]; rfl, by rw [cell_of_row _ _ 6 _ _ _ hn]; rfl, by rw [cell_of_row _ _ 7 _ _ _ hn]; rfl, by rw [cell_of_row _ _ 8 _ _ _ hn]; rfl⟩
/-- A number is answered. -/
def NatE (n : Nat) (w : World) (r : Ending) (w' : World) : Prop := r = .returned (.int .i64 (n : Int)) ∧ Below w.heap.size w w'
set_option maxHeartbeats 2000000 in
set_option maxRecDepth 1000000 in
theorem ref11Count (e : Ex) : ∀ (F : Nat → Prop) (kv pv av : Value) (w : World), XI F w kv pv av e → (∀ g, F g → g < w.heap.size) → cntX e ≤ 4611686018427387904 →
    Calls Try.prog 17 #[exv e kv pv av] w (NatE (cntX e) w) := by
  induction e using ex_ind with
  | h e ih1 ih2 =>
    intro F kv pv av w hX hF hn
    have hS := CX.start w e kv pv av
    have HN : Hid (cntX e = 1 + (e.kids.map cntX).sum + (e.bods.map cntX).sum) := cntX_eq e
    have hb1 : 1 + (e.kids.map cntX).sum + (e.bods.map cntX).sum ≤ 4611686018427387904 := by rw [← HN.out]; exact hn
    have hl1 := sum_len e.kids
    have hl2 := sum_len e.bods
    rw [XI_iff] at hX
    obtain ⟨hK, hP, hA⟩ := hX
    obtain ⟨ka, kc, rfl⟩ := hK.shape
    obtain ⟨aa, ac, rfl⟩ := hA.shape
    have hKU : ∀ u, Below w.heap.size w u → XK F u (.slice ka e.kids.length kc) e.kids := fun u hu => hK.frame fun g hg => ⟨hg, hu.block g (hF g hg)⟩
    have hAU : ∀ u, Below w.heap.size w u → XA F u (.slice aa e.bods.length ac) e.arms e.bods := fun u hu => hA.frame fun g hg => ⟨hg, hu.block g (hF g hg)⟩
    have HKU := hidden hKU
    have HAU := hidden hAU
    have HI1 := hidden ih1
    have HI2 := hidden ih2
    have HS : Hid (NatE (cntX e) w = NatE (1 + (e.kids.map cntX).sum + (e.bods.map cntX).sum) w) := by rw [hid_iff, ← HN.out]
    rw [HS.out]
    unfold exc at hS
    unfold exv
    clear hK hA hP hKU hAU ih1 ih2 HS HN hn
    go_enter Try.func17, Try.ntmps17
    go_wp2_with fail
    go_loopg [3, 4] e.kids.length (fun g n i wr => ∃ (k : Nat), g + k = e.kids.length ∧ i = .int .i64 (k : Int) ∧ n = .int .i64 ((1 + ((e.kids.take k).map cntX).sum : Nat) : Int) ∧ CX w wr (e.kind : Int) (.slice ka e.kids.length kc) pv (.slice aa e.bods.length ac))
    case atStart => exact ⟨0, by simp, rfl, by simp, hS⟩
    case round =>
      obtain ⟨k, hg, rfl, rfl, hC⟩ := hrel
      clear hS
      have x6 := hC.c6
      have x8 := hC.c8
      by_cases hk : k < e.kids.length
      · obtain ⟨g, o, cap, k', p', a', e1, hgF, hXk, q0, q1, q2, q3, q4, q5, q6, q7, q8⟩ := (HKU.out _ hC.be).at k hk
        simp only [Value.slice.injEq, true_and] at e1
        obtain ⟨rfl, rfl⟩ := e1
        obtain ⟨⟨y1, y2, rfl⟩, ⟨y3, y4, rfl⟩, ⟨y5, y6, rfl⟩⟩ := hXk.shapes
        have hki : (k : Int) < (e.kids.length : Int) := by omega
        have hst := sum_take e.kids k hk cntX
        have hsl := sum_take_le e.kids (k + 1) cntX
        have hcall := HI1.out _ (List.getElem_mem hk) F _ _ _ wr hXk (fun g hg => Nat.lt_of_lt_of_le (hF g hg) hC.be.size) (by omega)
        unfold exv at hcall
        simp only [← Nat.add_assoc] at q1 q2 q3 q4 q5 q6 q7 q8
        have HT := hidden hst
        generalize e.kids[k] = x at *
        generalize cntX x = m at *
        generalize ((e.kids.take k).map cntX).sum = n0 at *
        have hb2 : n0 + m + 1 ≤ 4611686018427387904 := by omega
        clear HKU HAU HI1 HI2 hst hsl hXk
        go_wp2_with fail
        refine hcall.mono ?_
        rintro r w9 ⟨rfl, hb9⟩
        have hC9 := hC.step hb9
        clear hcall hC x6 x8
        go_wp2
        go_roundg (e.kids.length - (k + 1))
        case measure => omega
        case rel => exact ⟨k + 1, by omega, by go_num, by rw [HT.out]; go_num, hC9⟩
      · have hki : ¬ (k : Int) < (e.kids.length : Int) := by omega
        rw [List.take_of_length_le (by omega)]
        have hb3 : 1 + (e.kids.map cntX).sum + (e.bods.map cntX).sum ≤ 4611686018427387904 := hb1
        generalize (e.kids.map cntX).sum = n1 at *
        clear HKU HI1 hg
        go_wp2_with fail
        go_loopg [3, 5] e.bods.length (fun g n i wr2 => ∃ (k : Nat), g + k = e.bods.length ∧ i = .int .i64 (k : Int) ∧ n = .int .i64 ((1 + n1 + ((e.bods.take k).map cntX).sum : Nat) : Int) ∧ CX w wr2 (e.kind : Int) (.slice ka e.kids.length kc) pv (.slice aa e.bods.length ac))
        case atStart => exact ⟨0, by simp, rfl, by simp, hC⟩
        case round =>
          obtain ⟨j, hg2, rfl, rfl, hC2⟩ := hrel
          clear hC x6 x8
          have x8 := hC2.c8
          by_cases hj : j < e.bods.length
          · obtain ⟨g, o, cap, vv, k', p', a', e1, hgF, hXk, _, qv, q0, q1, q2, q3, q4, q5, q6, q7, q8⟩ := (HAU.out _ hC2.be).at2 j hj
            simp only [Value.slice.injEq, true_and] at e1
            obtain ⟨rfl, rfl⟩ := e1
            obtain ⟨⟨y1, y2, rfl⟩, ⟨y3, y4, rfl⟩, ⟨y5, y6, rfl⟩⟩ := hXk.shapes
            have hji : (j : Int) < (e.bods.length : Int) := by omega
            have hst := sum_take e.bods j hj cntX
            have hsl := sum_take_le e.bods (j + 1) cntX
            have hcall := HI2.out _ (List.getElem_mem hj) F _ _ _ _ hXk (fun g hg => Nat.lt_of_lt_of_le (hF g hg) hC2.be.size) (by omega)
            unfold exv at hcall
            simp only [← Nat.add_assoc] at q0 q1 q2 q3 q4 q5 q6 q7 q8
            have HT := hidden hst
            generalize e.bods[j] = x at *
            generalize cntX x = m at *
            generalize ((e.bods.take j).map cntX).sum = n0 at *
            have hb2 : 1 + n1 + n0 + m ≤ 4611686018427387904 := by omega
            clear HAU HI2 hst hsl hXk
            go_wp2_with fail
            refine hcall.mono ?_
            rintro r w9 ⟨rfl, hb9⟩
            have hC9 := hC2.step hb9
            clear hcall hC2 x8
            go_wp2
            go_roundg (e.bods.length - (j + 1))
            case measure => omega
            case rel => exact ⟨j + 1, by omega, by go_num, by rw [HT.out]; go_num, hC9⟩
          · have hji : ¬ (j : Int) < (e.bods.length : Int) := by omega
            rw [List.take_of_length_le (by omega)]
            clear HAU HI2 hg2
            go_wp2
            go_ret
            exact ⟨rfl, hC2.be⟩
end Go.Proofs.Ytcokihblicgbpaa

namespace Go.Proofs.Ytcokihblicgbpaa

/-- Names that are bound in the i-th of n Kids. -/
def bindR (kind : Nat) (name : List UInt8) (params : List (List UInt8 × List UInt8)) (n i : Nat) : List (List UInt8) := if kind = 4 ∧ i + 1 = n ∧ 0 < i then [name] else if kind = 10 then params.map (·.1) else []
def noDot (s : List UInt8) : Bool := s.all fun c => c != 46
def freeX : Ex → List (List UInt8) → List (List UInt8) → List (List UInt8)
  | ⟨kind, _, name, _, _, _, _, kids, params, arms, bods⟩, bound, out =>
    if kind = 3 ∧ noDot name = true ∧ bound.contains name = false ∧ out.contains name = false then out ++ [name]
    else bods.attach.zipIdx.foldl (fun o p => freeX p.1.1 (bound ++ (arms.getD p.2 ([], [])).2) o) (kids.attach.zipIdx.foldl (fun o p => freeX p.1.1 (bound ++ bindR kind name params kids.length p.2) o) out)
termination_by e => SizeOf.sizeOf e
decreasing_by
  all_goals
    have := List.sizeOf_lt_of_mem p.1.2
    simp
    omega
theorem fold_att {β : Type} (l : List Ex) (f : Ex → Nat → β → β) (z : β) : l.attach.zipIdx.foldl (fun o p => f p.1.1 p.2 o) z = l.zipIdx.foldl (fun o p => f p.1 p.2 o) z := by
  have h : l.zipIdx = l.attach.zipIdx.map (fun p => (p.1.1, p.2)) := by
    conv => lhs; rw [← List.attach_map_subtype_val l]
    rw [List.zipIdx_map]
    rfl
  rw [h, List.foldl_map]
theorem freeX_eq (e : Ex) (bound out : List (List UInt8)) : freeX e bound out = if e.kind = 3 ∧ noDot e.name = true ∧ bound.contains e.name = false ∧ out.contains e.name = false then out ++ [e.name]
    else e.bods.zipIdx.foldl (fun o p => freeX p.1 (bound ++ (e.arms.getD p.2 ([], [])).2) o) (e.kids.zipIdx.foldl (fun o p => freeX p.1 (bound ++ bindR e.kind e.name e.params e.kids.length p.2) o) out) := by
  obtain ⟨a, b, c, d, e, f, g, l, i, j, m⟩ := e
  rw [freeX]
  rw [fold_att m (fun e k o => freeX e (bound ++ (j.getD k ([], [])).2) o), fold_att l (fun e k o => freeX e (bound ++ bindR a c i l.length k) o)]
/-- As the package goes: what is told, and how many bindings of a name are seen. -/
abbrev LkS := List (List UInt8) × (List UInt8 → Nat)
def incs (c : List UInt8 → Nat) (ns : List (List UInt8)) : List UInt8 → Nat := fun n => c n + ns.count n
def decs (c : List UInt8 → Nat) (ns : List (List UInt8)) : List UInt8 → Nat := fun n => c n - ns.count n
def lookX : Ex → LkS → LkS
  | ⟨kind, _, name, _, _, _, _, kids, params, arms, bods⟩, st =>
    let st1 := if kind = 3 ∧ st.2 name = 0 ∧ noDot name = true then (st.1 ++ [name], incs st.2 [name]) else st
    let st2 := kids.attach.zipIdx.foldl (fun s p => let ns := bindR kind name params kids.length p.2; let r := lookX p.1.1 (s.1, incs s.2 ns); (r.1, decs r.2 ns)) st1
    bods.attach.zipIdx.foldl (fun s p => let ns := (arms.getD p.2 ([], [])).2; let r := lookX p.1.1 (s.1, incs s.2 ns); (r.1, decs r.2 ns)) st2
termination_by e => SizeOf.sizeOf e
decreasing_by
  all_goals
    have := List.sizeOf_lt_of_mem p.1.2
    simp
    omega
def inN (ns : List (List UInt8)) (s : LkS) (e : Ex) : LkS := ((lookX e (s.1, incs s.2 ns)).1, decs (lookX e (s.1, incs s.2 ns)).2 ns)
theorem lookX_eq (e : Ex) (st : LkS) : lookX e st = e.bods.zipIdx.foldl (fun s p => inN (e.arms.getD p.2 ([], [])).2 s p.1) (e.kids.zipIdx.foldl (fun s p => inN (bindR e.kind e.name e.params e.kids.length p.2) s p.1) (if e.kind = 3 ∧ st.2 e.name = 0 ∧ noDot e.name = true then (st.1 ++ [e.name], incs st.2 [e.name]) else st)) := by
  obtain ⟨a, b, c, d, e, f, g, l, i, j, m⟩ := e
  rw [lookX]
  rw [← fold_att m (fun e k s => inN (j.getD k ([], [])).2 s e), ← fold_att l (fun e k s => inN (bindR a c i l.length k) s e)]
  rfl
/-- The count that belongs to what is bound and told. -/
def cntOf (bound out : List (List UInt8)) : List UInt8 → Nat := fun n => bound.count n + if n ∈ out then 1 else 0
theorem cnt_in (bound out ns : List (List UInt8)) : incs (cntOf bound out) ns = cntOf (bound ++ ns) out := by
  funext n
  simp only [incs, cntOf, List.count_append]
  omega
theorem cnt_out (bound out ns : List (List UInt8)) : decs (cntOf (bound ++ ns) out) ns = cntOf bound out := by
  funext n
  simp only [decs, cntOf, List.count_append]
  omega
/-- A name has no parts. -/
def VarLeaf : Ex → Prop
  | ⟨kind, _, _, _, _, _, _, kids, _, _, bods⟩ => (kind = 3 → kids = [] ∧ bods = []) ∧ (∀ k ∈ kids.attach, VarLeaf k.1) ∧ ∀ k ∈ bods.attach, VarLeaf k.1
termination_by e => SizeOf.sizeOf e
decreasing_by
  all_goals
    have := List.sizeOf_lt_of_mem k.2
    simp
    omega
theorem VarLeaf_iff (e : Ex) : VarLeaf e ↔ (e.kind = 3 → e.kids = [] ∧ e.bods = []) ∧ (∀ k ∈ e.kids, VarLeaf k) ∧ ∀ k ∈ e.bods, VarLeaf k := by
  obtain ⟨a, b, c, d, e, f, g, l, i, j, m⟩ := e
  rw [VarLeaf]
  simp
theorem fold_look (l : List (Ex × Nat)) (ns : Nat → List (List UInt8)) (bound : List (List UInt8)) (h : ∀ p ∈ l, ∀ b o, lookX p.1 (o, cntOf b o) = (freeX p.1 b o, cntOf b (freeX p.1 b o))) : ∀ out, l.foldl (fun s p => inN (ns p.2) s p.1) (out, cntOf bound out) = (l.foldl (fun o p => freeX p.1 (bound ++ ns p.2) o) out, cntOf bound (l.foldl (fun o p => freeX p.1 (bound ++ ns p.2) o) out)) := by
  induction l with
  | nil => exact fun out => rfl
  | cons p r ih =>
    intro out
    rw [List.foldl_cons, List.foldl_cons]
    have e : inN (ns p.2) (out, cntOf bound out) p.1 = (freeX p.1 (bound ++ ns p.2) out, cntOf bound (freeX p.1 (bound ++ ns p.2) out)) := by
      unfold inN
      simp only []
      rw [cnt_in, h p (by simp) (bound ++ ns p.2) out]
      simp only []
      rw [cnt_out]
    rw [e]
    exact ih (fun q hq => h q (by simp [hq])) _
theorem look_free (e : Ex) : VarLeaf e → ∀ bound out, lookX e (out, cntOf bound out) = (freeX e bound out, cntOf bound (freeX e bound out)) := by
  induction e using ex_ind with
  | h e ih1 ih2 =>
    intro hv bound out
    obtain ⟨h1, h2, h3⟩ := (VarLeaf_iff e).1 hv
    rw [lookX_eq, freeX_eq]
    have k1 : ∀ p ∈ e.kids.zipIdx, ∀ b o, lookX p.1 (o, cntOf b o) = (freeX p.1 b o, cntOf b (freeX p.1 b o)) := fun p hp b o => by
      have hm : p.1 ∈ e.kids := List.fst_mem_of_mem_zipIdx hp
      exact ih1 _ hm (h2 _ hm) b o
    have k2 : ∀ p ∈ e.bods.zipIdx, ∀ b o, lookX p.1 (o, cntOf b o) = (freeX p.1 b o, cntOf b (freeX p.1 b o)) := fun p hp b o => by
      have hm : p.1 ∈ e.bods := List.fst_mem_of_mem_zipIdx hp
      exact ih2 _ hm (h3 _ hm) b o
    have hc : cntOf bound out e.name = 0 ↔ bound.contains e.name = false ∧ out.contains e.name = false := by
      simp only [cntOf, List.contains_eq_mem, decide_eq_false_iff_not, Nat.add_eq_zero_iff, List.count_eq_zero]
      by_cases ho : e.name ∈ out <;> simp [ho]
    by_cases h : e.kind = 3 ∧ noDot e.name = true ∧ bound.contains e.name = false ∧ out.contains e.name = false
    · obtain ⟨q1, q2, q3, q4⟩ := h
      rw [if_pos ⟨q1, hc.2 ⟨q3, q4⟩, q2⟩, if_pos ⟨q1, q2, q3, q4⟩]
      obtain ⟨e1, e2⟩ := h1 q1
      rw [e1, e2]
      simp only [List.zipIdx_nil, List.foldl_nil, Prod.mk.injEq, true_and]
      funext n
      have q4' : e.name ∉ out := by simpa using q4
      by_cases hn : n = e.name
      · subst hn
        simp [incs, cntOf, q4']
      · have hn' : ¬ e.name = n := fun h => hn h.symm
        simp [incs, cntOf, hn, hn']
    · rw [if_neg (fun g => h ⟨g.1, g.2.2, hc.1 g.2.1⟩), if_neg h]
      rw [fold_look e.kids.zipIdx (fun i => bindR e.kind e.name e.params e.kids.length i) bound k1, fold_look e.bods.zipIdx (fun i => (e.arms.getD i ([], [])).2) bound k2]
end Go.Proofs.Ytcokihblicgbpaa

namespace Go.Proofs.Ytcokihblicgbpaa

/-- Something holds of an expression and of all its parts. -/
def AllX (P : Ex → Prop) : Ex → Prop
  | ⟨a, b, c, d, e, f, g, kids, i, j, bods⟩ => P ⟨a, b, c, d, e, f, g, kids, i, j, bods⟩ ∧ (∀ k ∈ kids.attach, AllX P k.1) ∧ ∀ k ∈ bods.attach, AllX P k.1
termination_by e => SizeOf.sizeOf e
decreasing_by
  all_goals
    have := List.sizeOf_lt_of_mem k.2
    simp
    omega
theorem AllX_iff (P : Ex → Prop) (e : Ex) : AllX P e ↔ P e ∧ (∀ k ∈ e.kids, AllX P k) ∧ ∀ k ∈ e.bods, AllX P k := by
  obtain ⟨a, b, c, d, e, f, g, l, i, j, m⟩ := e
  rw [AllX]
  simp
def ShP (e : Ex) : Prop := (e.kind = 3 → e.kids = [] ∧ e.bods = []) ∧ (e.kind = 4 → e.kids.length = 2 ∧ e.bods = []) ∧ e.arms.length = e.bods.length ∧ (e.kind = 1 ∨ e.kind = 2 → e.kids = [] ∧ e.bods = [])
theorem seq_mem {α β : Type} (f : β → PR α) : ∀ {l : List β} {xs : List α}, seqP (l.map f) = .ok xs → xs.length = l.length ∧ ∀ y ∈ xs, ∃ x ∈ l, f x = .ok y
  | [], xs, h => by
    rw [List.map_nil, seqP] at h
    cases h
    simp
  | x :: r, xs, h => by
    rw [List.map_cons] at h
    cases hx : f x with
    | error e =>
      rw [hx, seqP] at h
      cases h
    | ok y =>
      rw [hx, seqP] at h
      cases hr : seqP (r.map f) with
      | error e =>
        rw [hr] at h
        cases h
      | ok ys =>
        rw [hr] at h
        cases h
        obtain ⟨h1, h2⟩ := seq_mem f hr
        refine ⟨by simp [h1], fun z hz => ?_⟩
        rcases List.mem_cons.1 hz with rfl | hz
        · exact ⟨x, by simp, hx⟩
        · obtain ⟨q, hq, hz⟩ := h2 z hz
          exact ⟨q, by simp [hq], hz⟩
theorem bind_is {α β : Type} {r : PR α} {f : α → PR β} {y : β} (h : r.bind f = .ok y) : ∃ x, r = .ok x ∧ f x = .ok y := by
  cases r with
  | error e => cases h
  | ok x => exact ⟨x, rfl, h⟩
theorem kid_memC {t : Tr} {i : Nat} (h : i < t.kids.length) : kid t i ∈ t.kids := by
  rw [kid, List.getD_eq_getElem?_getD, List.getElem?_eq_getElem h]
  exact List.getElem_mem h
theorem kindH_ge {h : List UInt8} {n k : Nat} : (kindH h n k = 4 → n = 4) ∧ (kindH h n k = 9 → 3 ≤ n) ∧ kindH h n k ≠ 3 := by
  unfold kindH
  repeat' split
  all_goals simp_all
/-- What a shape is like. -/
theorem shape_like {m : List UInt8} {t : Tr} {r : Shape} (h : shapeP m t = .ok r) : (∀ x ∈ r.2.1, x ∈ t.kids) ∧ (∀ x ∈ r.2.2, x ∈ t.kids) ∧ (r.1.kind = 3 → r.2.1 = [] ∧ r.2.2 = []) ∧ (r.1.kind = 4 → r.2.1.length = 2 ∧ r.2.2 = []) ∧ (r.1.kind = 1 ∨ r.1.kind = 2 → r.2.1 = [] ∧ r.2.2 = []) := by
  have hd : ∀ n, ∀ x ∈ t.kids.drop n, x ∈ t.kids := fun n x hx => List.mem_of_mem_drop hx
  have hk4 : kindX t = 4 → t.kids.length = 4 := fun hk => by
    unfold kindX kindO at hk
    repeat' split at hk
    all_goals first | exact kindH_ge.1 hk | simp at hk
  have hk9 : kindX t = 9 → 3 ≤ t.kids.length := fun hk => by
    unfold kindX kindO at hk
    repeat' split at hk
    all_goals first | exact kindH_ge.2.1 hk | simp at hk
  unfold shapeP at h
  split at h
  · cases h
  split at h
  · cases h
  generalize kindX t = k at *
  unfold shapeK at h
  split at h
  · cases h; simp
  split at h
  · cases h; simp
  split at h
  · cases h; simp [exK]
  split at h
  · rename_i h4
    obtain ⟨x, _, h⟩ := bind_is h
    cases h
    have := hk4 h4
    exact ⟨hd 2, by simp, by simp [exK], by simp [exK, this], by simp [exK]⟩
  split at h
  · cases h
    exact ⟨hd 1, by simp, by simp [exK], by simp [exK], by simp [exK]⟩
  split at h
  · obtain ⟨x, _, h⟩ := bind_is h
    cases h
    exact ⟨hd 2, by simp, by simp, by simp, by simp⟩
  split at h
  · rename_i h9
    cases h
    have := hk9 h9
    exact ⟨fun x hx => by rw [List.mem_singleton.1 hx]; exact kid_memC (by omega), hd 2, by simp [exK], by simp [exK], by simp [exK]⟩
  split at h
  · obtain ⟨x, _, h⟩ := bind_is h
    obtain ⟨y, _, h⟩ := bind_is h
    cases h
    exact ⟨hd 3, by simp, by simp, by simp, by simp⟩
  split at h
  · cases h
    exact ⟨hd 1, by simp, by simp [exK], by simp [exK], by simp [exK]⟩
  · rename_i h1 h2 h3 h4 _ _ _ _ _
    cases h
    exact ⟨hd 1, by simp, fun h => absurd h (by simpa [exK] using h3), fun h => absurd h (by simpa [exK] using h4), fun h => by
      rcases h with h | h
      · exact absurd h (by simpa [exK] using h1)
      · exact absurd h (by simpa [exK] using h2)⟩
theorem expr_all (m : List UInt8) (t : Tr) : (∀ e, exprP m t = .ok e → AllX ShP e) ∧ ∀ k ∈ t.kids, ∀ e, exprP m k = .ok e → AllX ShP e := by
  induction t using tr_ind with
  | h t ih =>
    refine ⟨fun e he => ?_, fun k hk => (ih k hk).1⟩
    rw [expr_shape] at he
    obtain ⟨r, hr, he⟩ := bind_is he
    obtain ⟨h1, h2, h3, h4, h5⟩ := shape_like hr
    unfold restP at he
    obtain ⟨ks, hks, he⟩ := bind_is he
    obtain ⟨az, haz, he⟩ := bind_is he
    cases he
    obtain ⟨l1, m1⟩ := seq_mem _ hks
    obtain ⟨l2, m2⟩ := seq_mem _ haz
    rw [AllX_iff]
    refine ⟨⟨fun hk => ?_, fun hk => ?_, by simp [fillX], fun hk => ?_⟩, fun k hk => ?_, fun k hk => ?_⟩
    · obtain ⟨e1, e2⟩ := h3 hk
      rw [e1] at l1
      rw [e2] at l2
      simp [fillX, List.eq_nil_of_length_eq_zero l1, List.eq_nil_of_length_eq_zero l2]
    · obtain ⟨e1, e2⟩ := h4 hk
      rw [e2] at l2
      simp [fillX, l1, e1, List.eq_nil_of_length_eq_zero l2]
    · obtain ⟨e1, e2⟩ := h5 hk
      rw [e1] at l1
      rw [e2] at l2
      simp [fillX, List.eq_nil_of_length_eq_zero l1, List.eq_nil_of_length_eq_zero l2]
    · obtain ⟨x, hx, e⟩ := m1 k hk
      exact (ih x (h1 x hx)).1 k e
    · obtain ⟨z, hz, rfl⟩ := List.mem_map.1 hk
      obtain ⟨a, ha, e⟩ := m2 z hz
      unfold armX armP at e
      split at e
      · cases e
      rename_i hn
      split at e
      · cases e
      split at e
      · cases e
      split at e
      · cases e
      obtain ⟨vs, _, e⟩ := bind_is e
      obtain ⟨b, hb, e⟩ := bind_is e
      cases e
      exact (ih a (h2 a ha)).2 _ (kid_memC (by omega)) b hb
theorem all_leaf (e : Ex) : AllX ShP e → VarLeaf e := by
  induction e using ex_ind with
  | h e ih1 ih2 =>
    intro h
    obtain ⟨h1, h2, h3⟩ := (AllX_iff _ _).1 h
    exact (VarLeaf_iff e).2 ⟨h1.1, fun k hk => ih1 k hk (h2 k hk), fun k hk => ih2 k hk (h3 k hk)⟩
end Go.Proofs.Ytcokihblicgbpaa

namespace Go.Proofs.Ytcokihblicgbpaa
open Go.RowKit

def depX : Ex → Nat
  | ⟨_, _, _, _, _, _, _, kids, _, _, bods⟩ => (bods.attach.map fun k => depX k.1).foldl max ((kids.attach.map fun k => depX k.1).foldl max 0) + 1
termination_by e => SizeOf.sizeOf e
decreasing_by
  all_goals
    have := List.sizeOf_lt_of_mem k.2
    simp
    omega
theorem depX_eq (e : Ex) : depX e = (e.bods.map depX).foldl max ((e.kids.map depX).foldl max 0) + 1 := by
  obtain ⟨a, b, c, d, e, f, g, l, i, j, m⟩ := e
  rw [depX]
  simp only [List.attach_map_val]
theorem max_take (l : List Ex) (k : Nat) (h : k < l.length) (f : Ex → Nat) (z : Nat) : ((l.take (k + 1)).map f).foldl max z = max (((l.take k).map f).foldl max z) (f l[k]) := by
  rw [List.take_succ_eq_append_getElem h]
  simp only [List.map_append, List.foldl_append, List.map_cons, List.map_nil, List.foldl_cons, List.foldl_nil]
theorem max_sum (l : List Nat) (z : Nat) : l.foldl max z ≤ z + l.sum := by
  induction l generalizing z with
  | nil => simp
  | cons x r ih =>
    have := ih (max z x)
    simp only [List.foldl_cons, List.sum_cons]
    omega
theorem sum_mono (l : List Ex) (f g : Ex → Nat) (h : ∀ k ∈ l, f k ≤ g k) : (l.map f).sum ≤ (l.map g).sum := by
  induction l with
  | nil => simp
  | cons x r ih =>
    have h1 := h x (by simp)
    have h2 := ih fun k hk => h k (by simp [hk])
    simp only [List.map_cons, List.sum_cons]
    omega
theorem depX_le (e : Ex) : depX e ≤ cntX e := by
  induction e using ex_ind with
  | h e ih1 ih2 =>
    rw [depX_eq, cntX_eq]
    have h1 := max_sum (e.kids.map depX) 0
    have h2 := max_sum (e.bods.map depX) ((e.kids.map depX).foldl max 0)
    have h3 := sum_mono e.kids depX cntX ih1
    have h4 := sum_mono e.bods depX cntX ih2
    omega
set_option maxRecDepth 1000000 in
theorem ref11Most (a b : Nat) (w : World) : Calls Try.prog 31 #[.int .i64 (a : Int), .int .i64 (b : Int)] w fun r w' => r = .returned (.int .i64 ((max a b : Nat) : Int)) ∧ w' = w := by
  by_cases h : b < a
  · have hi : (b : Int) < (a : Int) := by omega
    have hm : max a b = a := by omega
    rw [hm]
    clear hm h
    go_enter Try.func31, Try.ntmps31
    go_wp2
    go_ret
    exact ⟨rfl, rfl⟩
  · have hi : ¬ (b : Int) < (a : Int) := by omega
    have hm : max a b = b := by omega
    rw [hm]
    clear hm h
    go_enter Try.func31, Try.ntmps31
    go_wp2
    go_ret
    exact ⟨rfl, rfl⟩
set_option maxHeartbeats 2000000 in
set_option maxRecDepth 1000000 in
theorem ref11Depth (e : Ex) : ∀ (F : Nat → Prop) (kv pv av : Value) (w : World), XI F w kv pv av e → (∀ g, F g → g < w.heap.size) → cntX e ≤ 4611686018427387904 →
    Calls Try.prog 16 #[exv e kv pv av] w (NatE (depX e) w) := by
  induction e using ex_ind with
  | h e ih1 ih2 =>
    intro F kv pv av w hX hF hn
    have hS := CX.start w e kv pv av
    have hb1 : 1 + (e.kids.map cntX).sum + (e.bods.map cntX).sum ≤ 4611686018427387904 := by rw [← cntX_eq]; exact hn
    have hb9 : (e.bods.map depX).foldl max ((e.kids.map depX).foldl max 0) + 1 ≤ 4611686018427387904 := by rw [← depX_eq]; have := depX_le e; omega
    have hl1 := sum_len e.kids
    have hl2 := sum_len e.bods
    rw [XI_iff] at hX
    obtain ⟨hK, hP, hA⟩ := hX
    obtain ⟨ka, kc, rfl⟩ := hK.shape
    obtain ⟨aa, ac, rfl⟩ := hA.shape
    have hKU : ∀ u, Below w.heap.size w u → XK F u (.slice ka e.kids.length kc) e.kids := fun u hu => hK.frame fun g hg => ⟨hg, hu.block g (hF g hg)⟩
    have hAU : ∀ u, Below w.heap.size w u → XA F u (.slice aa e.bods.length ac) e.arms e.bods := fun u hu => hA.frame fun g hg => ⟨hg, hu.block g (hF g hg)⟩
    have HKU := hidden hKU
    have HAU := hidden hAU
    have HI1 := hidden ih1
    have HI2 := hidden ih2
    rw [depX_eq]
    unfold exc at hS
    unfold exv
    clear hK hA hP hKU hAU ih1 ih2 hn
    go_enter Try.func16, Try.ntmps16
    go_wp2_with fail
    go_loopg [3, 4] e.kids.length (fun g n i wr => ∃ (k : Nat), g + k = e.kids.length ∧ i = .int .i64 (k : Int) ∧ n = .int .i64 ((((e.kids.take k).map depX).foldl max 0 : Nat) : Int) ∧ CX w wr (e.kind : Int) (.slice ka e.kids.length kc) pv (.slice aa e.bods.length ac))
    case atStart => exact ⟨0, by simp, rfl, by simp, hS⟩
    case round =>
      obtain ⟨k, hg, rfl, rfl, hC⟩ := hrel
      clear hS
      have x6 := hC.c6
      have x8 := hC.c8
      by_cases hk : k < e.kids.length
      · obtain ⟨g, o, cap, k', p', a', e1, hgF, hXk, q0, q1, q2, q3, q4, q5, q6, q7, q8⟩ := (HKU.out _ hC.be).at k hk
        simp only [Value.slice.injEq, true_and] at e1
        obtain ⟨rfl, rfl⟩ := e1
        obtain ⟨⟨y1, y2, rfl⟩, ⟨y3, y4, rfl⟩, ⟨y5, y6, rfl⟩⟩ := hXk.shapes
        have hki : (k : Int) < (e.kids.length : Int) := by omega
        have hst := sum_take e.kids k hk cntX
        have hsl := sum_take_le e.kids (k + 1) cntX
        have hcall := HI1.out _ (List.getElem_mem hk) F _ _ _ wr hXk (fun g hg => Nat.lt_of_lt_of_le (hF g hg) hC.be.size) (by omega)
        unfold exv at hcall
        simp only [← Nat.add_assoc] at q1 q2 q3 q4 q5 q6 q7 q8
        have HT := hidden (max_take e.kids k hk depX 0)
        clear hst hsl
        generalize e.kids[k] = x at *
        generalize depX x = m at *
        generalize ((e.kids.take k).map depX).foldl max 0 = n0 at *
        clear HKU HAU HI1 HI2 hXk
        go_wp2_with fail
        refine hcall.mono ?_
        rintro r w9 ⟨rfl, hb9⟩
        have hC9 := hC.step hb9
        clear hcall hC x6 x8
        go_wp2_with fail
        refine (ref11Most n0 m w9).mono ?_
        rintro r w10 ⟨rfl, hw10⟩
        obtain rfl := hw10.symm
        go_wp2
        go_roundg (e.kids.length - (k + 1))
        case measure => omega
        case rel => exact ⟨k + 1, by omega, by go_num, by rw [HT.out], hC9⟩
      · have hki : ¬ (k : Int) < (e.kids.length : Int) := by omega
        rw [List.take_of_length_le (by omega)]
        generalize (e.kids.map depX).foldl max 0 = n1 at *
        clear HKU HI1 hg
        go_wp2_with fail
        go_loopg [3, 5] e.bods.length (fun g n i wr2 => ∃ (k : Nat), g + k = e.bods.length ∧ i = .int .i64 (k : Int) ∧ n = .int .i64 ((((e.bods.take k).map depX).foldl max n1 : Nat) : Int) ∧ CX w wr2 (e.kind : Int) (.slice ka e.kids.length kc) pv (.slice aa e.bods.length ac))
        case atStart => exact ⟨0, by simp, rfl, by simp, hC⟩
        case round =>
          obtain ⟨j, hg2, rfl, rfl, hC2⟩ := hrel
          clear hC x6 x8
          have x8 := hC2.c8
          by_cases hj : j < e.bods.length
          · obtain ⟨g, o, cap, vv, k', p', a', e1, hgF, hXk, _, qv, q0, q1, q2, q3, q4, q5, q6, q7, q8⟩ := (HAU.out _ hC2.be).at2 j hj
            simp only [Value.slice.injEq, true_and] at e1
            obtain ⟨rfl, rfl⟩ := e1
            obtain ⟨⟨y1, y2, rfl⟩, ⟨y3, y4, rfl⟩, ⟨y5, y6, rfl⟩⟩ := hXk.shapes
            have hji : (j : Int) < (e.bods.length : Int) := by omega
            have hst := sum_take e.bods j hj cntX
            have hsl := sum_take_le e.bods (j + 1) cntX
            have hcall := HI2.out _ (List.getElem_mem hj) F _ _ _ _ hXk (fun g hg => Nat.lt_of_lt_of_le (hF g hg) hC2.be.size) (by omega)
            unfold exv at hcall
            simp only [← Nat.add_assoc] at q0 q1 q2 q3 q4 q5 q6 q7 q8
            have HT := hidden (max_take e.bods j hj depX n1)
            clear hst hsl
            generalize e.bods[j] = x at *
            generalize depX x = m at *
            generalize ((e.bods.take j).map depX).foldl max n1 = n0 at *
            clear HAU HI2 hXk
            go_wp2_with fail
            refine hcall.mono ?_
            rintro r w9 ⟨rfl, hb9⟩
            have hC9 := hC2.step hb9
            clear hcall hC2 x8
            go_wp2_with fail
            refine (ref11Most n0 m w9).mono ?_
            rintro r w10 ⟨rfl, hw10⟩
            obtain rfl := hw10.symm
            go_wp2
            go_roundg (e.bods.length - (j + 1))
            case measure => omega
            case rel => exact ⟨j + 1, by omega, by go_num, by rw [HT.out], hC9⟩
          · have hji : ¬ (j : Int) < (e.bods.length : Int) := by omega
            rw [List.take_of_length_le (by omega)]
            generalize (e.bods.map depX).foldl max n1 = n2 at *
            clear HAU HI2 hg2
            go_wp2
            go_ret
            exact ⟨rfl, hC2.be⟩
end Go.Proofs.Ytcokihblicgbpaa

namespace Go.Proofs.Ytcokihblicgbpaa
open Go.RowKit

def adjL (kind n i : Nat) : Nat := if kind = 4 ∧ i + 1 = n ∧ 0 < i then 1 else 0
def kidL (kind : Nat) (l : List Nat) : List Nat := l.mapIdx fun i x => x + adjL kind l.length i
def armL (arms : List (List UInt8 × List (List UInt8))) (l : List Nat) : List Nat := l.mapIdx fun i x => (arms.getD i ([], [])).2.length + x
def locX : Ex → Nat
  | ⟨kind, _, _, _, _, _, _, kids, _, arms, bods⟩ => if kind = 10 then 0 else (armL arms (bods.attach.map fun k => locX k.1)).foldl max ((kidL kind (kids.attach.map fun k => locX k.1)).foldl max 0)
termination_by e => SizeOf.sizeOf e
decreasing_by
  all_goals
    have := List.sizeOf_lt_of_mem k.2
    simp
    omega
theorem locX_eq (e : Ex) : locX e = if e.kind = 10 then 0 else (armL e.arms (e.bods.map locX)).foldl max ((kidL e.kind (e.kids.map locX)).foldl max 0) := by
  obtain ⟨a, b, c, d, e, f, g, l, i, j, m⟩ := e
  rw [locX]
  simp only [List.attach_map_val]
theorem maxN_take (l : List Nat) (k : Nat) (h : k < l.length) (z : Nat) : (l.take (k + 1)).foldl max z = max ((l.take k).foldl max z) l[k] := by
  rw [List.take_succ_eq_append_getElem h]
  simp only [List.foldl_append, List.foldl_cons, List.foldl_nil]
theorem maxN_ge (l : List Nat) (z : Nat) : z ≤ l.foldl max z ∧ ∀ x ∈ l, x ≤ l.foldl max z := by
  induction l generalizing z with
  | nil => simp
  | cons y r ih =>
    obtain ⟨h1, h2⟩ := ih (max z y)
    rw [List.foldl_cons]
    refine ⟨by omega, fun x hx => ?_⟩
    rcases List.mem_cons.1 hx with rfl | hx
    · omega
    · exact h2 x hx
theorem CX.drew {w wr : World} {kind : Int} {kv pv av : Value} (h : CX w wr kind kv pv av) : CX w wr.drew kind kv pv av := ⟨h.be.drew, h.lt, h.c0, h.c6, h.c7, h.c8⟩
theorem kidL_len (kind : Nat) (l : List Nat) : (kidL kind l).length = l.length := by simp [kidL]
theorem armL_len (arms : List (List UInt8 × List (List UInt8))) (l : List Nat) : (armL arms l).length = l.length := by simp [armL]
theorem kidL_at (kind : Nat) (l : List Ex) (k : Nat) (h : k < l.length) (h' : k < (kidL kind (l.map locX)).length) : (kidL kind (l.map locX))[k] = locX l[k] + adjL kind l.length k := by simp [kidL]
theorem armL_at (arms : List (List UInt8 × List (List UInt8))) (l : List Ex) (k : Nat) (h : k < l.length) (h' : k < (armL arms (l.map locX)).length) : (armL arms (l.map locX))[k] = (arms.getD k ([], [])).2.length + locX l[k] := by simp [armL]
set_option maxHeartbeats 2000000 in
set_option maxRecDepth 1000000 in
theorem ref11Locals (e : Ex) : ∀ (F : Nat → Prop) (kv pv av : Value) (w : World), XI F w kv pv av e → (∀ g, F g → g < w.heap.size) → cntX e ≤ 4611686018427387904 → locX e ≤ 4611686018427387904 →
    Calls Try.prog 15 #[exv e kv pv av] w (NatE (locX e) w) := by
  induction e using ex_ind with
  | h e ih1 ih2 =>
    intro F kv pv av w hX hF hn hn2
    have hS := CX.start w e kv pv av
    have hb1 : 1 + (e.kids.map cntX).sum + (e.bods.map cntX).sum ≤ 4611686018427387904 := by rw [← cntX_eq]; exact hn
    have hl1 := sum_len e.kids
    have hl2 := sum_len e.bods
    rw [XI_iff] at hX
    obtain ⟨hK, hP, hA⟩ := hX
    obtain ⟨ka, kc, rfl⟩ := hK.shape
    obtain ⟨aa, ac, rfl⟩ := hA.shape
    have hKU : ∀ u, Below w.heap.size w u → XK F u (.slice ka e.kids.length kc) e.kids := fun u hu => hK.frame fun g hg => ⟨hg, hu.block g (hF g hg)⟩
    have hAU : ∀ u, Below w.heap.size w u → XA F u (.slice aa e.bods.length ac) e.arms e.bods := fun u hu => hA.frame fun g hg => ⟨hg, hu.block g (hF g hg)⟩
    have HKU := hidden hKU
    have HAU := hidden hAU
    have HI1 := hidden ih1
    have HI2 := hidden ih2
    rw [locX_eq] at hn2 ⊢
    unfold exc at hS
    unfold exv
    clear hK hA hP hKU hAU ih1 ih2 hn
    have y0 := hS.c0
    by_cases hlm : e.kind = 10
    · rw [if_pos hlm]
      have t10 : ((e.kind : Int) == 10) = true := by rw [beq_iff_eq]; omega
      have hbe := hS.be
      clear HKU HAU HI1 HI2 hS hlm hn2
      go_enter Try.func15, Try.ntmps15
      go_wp2
      go_ret
      exact ⟨rfl, hbe⟩
    rw [if_neg hlm] at hn2 ⊢
    have t10 : ((e.kind : Int) == 10) = false := by rw [beq_eq_false_iff_ne]; omega
    clear hlm
    have hlk := kidL_len e.kind (e.kids.map locX)
    have hla := armL_len e.arms (e.bods.map locX)
    rw [List.length_map] at hlk hla
    have HKA := hidden (kidL_at e.kind e.kids)
    have HAA := hidden (armL_at e.arms e.bods)
    generalize kidL e.kind (e.kids.map locX) = KL at *
    generalize armL e.arms (e.bods.map locX) = AL at *
    have HG1 := hidden (maxN_ge KL 0)
    have HG2 := hidden (maxN_ge AL (KL.foldl max 0))
    go_enter Try.func15, Try.ntmps15
    go_wp2_with fail
    clear t10
    go_loopg [3, 4] e.kids.length (fun g n i wr => ∃ (k : Nat), g + k = e.kids.length ∧ i = .int .i64 (k : Int) ∧ n = .int .i64 (((KL.take k).foldl max 0 : Nat) : Int) ∧ CX w wr (e.kind : Int) (.slice ka e.kids.length kc) pv (.slice aa e.bods.length ac))
    case atStart => exact ⟨0, by simp, rfl, by simp, hS⟩
    case round =>
      obtain ⟨k, hg, rfl, rfl, hC⟩ := hrel
      clear hS y0
      have x0 := hC.c0
      have x6 := hC.c6
      have x8 := hC.c8
      by_cases hk : k < e.kids.length
      · obtain ⟨g, o, cap, k', p', a', e1, hgF, hXk, q0, q1, q2, q3, q4, q5, q6, q7, q8⟩ := (HKU.out _ hC.be).at k hk
        simp only [Value.slice.injEq, true_and] at e1
        obtain ⟨rfl, rfl⟩ := e1
        obtain ⟨⟨y1, y2, rfl⟩, ⟨y3, y4, rfl⟩, ⟨y5, y6, rfl⟩⟩ := hXk.shapes
        have hki : (k : Int) < (e.kids.length : Int) := by omega
        have hst := sum_take e.kids k hk cntX
        have hsl := sum_take_le e.kids (k + 1) cntX
        have hkk : k < KL.length := by omega
        have hat := HKA.out k hk hkk
        have hle : KL[k] ≤ 4611686018427387904 := by
          have h1 := HG1.out.2 _ (List.getElem_mem hkk)
          have h2 := HG2.out.1
          omega
        rw [hat] at hle
        have HT := hidden ((maxN_take KL k hkk 0).trans (by rw [hat]))
        have hcall := HI1.out _ (List.getElem_mem hk) F _ _ _ wr hXk (fun g hg => Nat.lt_of_lt_of_le (hF g hg) hC.be.size) (by omega) (by omega)
        unfold exv at hcall
        simp only [← Nat.add_assoc] at q1 q2 q3 q4 q5 q6 q7 q8
        clear hst hsl hat
        generalize e.kids[k] = x at *
        generalize locX x = m at *
        generalize (KL.take k).foldl max 0 = n0 at *
        clear HKU HAU HI1 HI2 HKA HAA HG1 HG2 hXk
        have hm1 : m + 1 ≤ 4611686018427387905 := by omega
        go_wp2_with fail
        refine hcall.mono ?_
        rintro r w9 ⟨rfl, hb9⟩
        have hC9 := hC.step hb9
        have z0 := hC9.c0
        have z6 := hC9.c6
        clear hcall hC x6 x8 x0 q0 q1 q2 q3 q4 q5 q6 q7 q8
        by_cases h4 : e.kind = 4
        · have t4 : ((e.kind : Int) == 4) = true := by rw [beq_iff_eq]; omega
          by_cases hl : k + 1 = e.kids.length
          · by_cases hp : 0 < k
            · have ha : adjL e.kind e.kids.length k = 1 := if_pos ⟨h4, hl, hp⟩
              have tk : ((k : Int) == (e.kids.length : Int) - 1) = true := by rw [beq_iff_eq]; omega
              have hpi : (0 : Int) < (k : Int) := by omega
              rw [ha] at HT hle
              clear ha h4
              clear hl
              go_wp2_with fail
              refine (ref11Most n0 (m + 1) w9).mono ?_
              rintro r w10 ⟨rfl, hw10⟩
              obtain rfl := hw10.symm
              go_wp2
              go_roundg (e.kids.length - (k + 1))
              case measure => omega
              case rel => exact ⟨k + 1, by omega, by go_num, (by rw [HT.out]; all_goals rfl), hC9⟩
            · have ha : adjL e.kind e.kids.length k = 0 := if_neg (fun h => hp h.2.2)
              have tk : ((k : Int) == (e.kids.length : Int) - 1) = true := by rw [beq_iff_eq]; omega
              have hpi : ¬ (0 : Int) < (k : Int) := by omega
              rw [ha, Nat.add_zero] at HT
              clear ha h4
              clear hl
              go_wp2_with fail
              refine (ref11Most n0 (m) w9).mono ?_
              rintro r w10 ⟨rfl, hw10⟩
              obtain rfl := hw10.symm
              go_wp2
              go_roundg (e.kids.length - (k + 1))
              case measure => omega
              case rel => exact ⟨k + 1, by omega, by go_num, (by rw [HT.out]; all_goals rfl), hC9⟩
          · have ha : adjL e.kind e.kids.length k = 0 := if_neg (fun h => hl h.2.1)
            have tk : ((k : Int) == (e.kids.length : Int) - 1) = false := by rw [beq_eq_false_iff_ne]; omega
            rw [ha, Nat.add_zero] at HT
            clear ha h4
            go_wp2_with fail
            refine (ref11Most n0 (m) w9).mono ?_
            rintro r w10 ⟨rfl, hw10⟩
            obtain rfl := hw10.symm
            go_wp2
            go_roundg (e.kids.length - (k + 1))
            case measure => omega
            case rel => exact ⟨k + 1, by omega, by go_num, (by rw [HT.out]; all_goals rfl), hC9⟩
        · have ha : adjL e.kind e.kids.length k = 0 := if_neg (fun h => h4 h.1)
          have t4 : ((e.kind : Int) == 4) = false := by rw [beq_eq_false_iff_ne]; omega
          rw [ha, Nat.add_zero] at HT
          clear ha h4
          go_wp2_with fail
          refine (ref11Most n0 (m) w9).mono ?_
          rintro r w10 ⟨rfl, hw10⟩
          obtain rfl := hw10.symm
          go_wp2
          go_roundg (e.kids.length - (k + 1))
          case measure => omega
          case rel => exact ⟨k + 1, by omega, by go_num, (by rw [HT.out]; all_goals rfl), hC9⟩
      · have hki : ¬ (k : Int) < (e.kids.length : Int) := by omega
        rw [List.take_of_length_le (by omega)]
        generalize KL.foldl max 0 = n1 at *
        clear HKU HI1 hg HKA HG1
        go_wp2_with fail
        go_loopg [3, 6] e.bods.length (fun g n i wr2 => ∃ (k : Nat), g + k = e.bods.length ∧ i = .int .i64 (k : Int) ∧ n = .int .i64 (((AL.take k).foldl max n1 : Nat) : Int) ∧ CX w wr2 (e.kind : Int) (.slice ka e.kids.length kc) pv (.slice aa e.bods.length ac))
        case atStart => exact ⟨0, by simp, rfl, by simp, hC⟩
        case round =>
          obtain ⟨j, hg2, rfl, rfl, hC2⟩ := hrel
          clear hC x6 x8 x0
          have x8 := hC2.c8
          by_cases hj : j < e.bods.length
          · obtain ⟨g, o, cap, vv, k', p', a', e1, hgF, hXk, hvv, qv, q0, q1, q2, q3, q4, q5, q6, q7, q8⟩ := (HAU.out _ hC2.be).at2 j hj
            simp only [Value.slice.injEq, true_and] at e1
            obtain ⟨rfl, rfl⟩ := e1
            obtain ⟨⟨y1, y2, rfl⟩, ⟨y3, y4, rfl⟩, ⟨y5, y6, rfl⟩⟩ := hXk.shapes
            obtain ⟨va, vc, rfl⟩ := hvv.shape
            have hji : (j : Int) < (e.bods.length : Int) := by omega
            have hj0 : (0 : Int) ≤ (j : Int) := by omega
            have hst := sum_take e.bods j hj cntX
            have hsl := sum_take_le e.bods (j + 1) cntX
            have hjj : j < AL.length := by omega
            have hat := HAA.out j hj hjj
            have hle : AL[j] ≤ 4611686018427387904 := by
              have h1 := HG2.out.2 _ (List.getElem_mem hjj)
              omega
            rw [hat] at hle
            have HT := hidden ((maxN_take AL j hjj n1).trans (by rw [hat]))
            have hcall := HI2.out _ (List.getElem_mem hj) F _ _ _ wr.drew (XI.frame (w := wr) (w' := wr.drew) (fun g hg => ⟨hg, rfl⟩) _ hXk) (fun g hg => Nat.lt_of_lt_of_le (hF g hg) hC2.be.size) (by omega) (by omega)
            unfold exv at hcall
            simp only [← Nat.add_assoc] at qv q0 q1 q2 q3 q4 q5 q6 q7 q8
            clear hst hsl hat
            generalize e.bods[j] = x at *
            generalize locX x = m at *
            generalize ((e.arms.getD j ([], [])).2.length) = vn at *
            generalize (AL.take j).foldl max n1 = n0 at *
            have hwr : IntKind.i64.wrap ((vn : Int) + (m : Int)) = (vn : Int) + (m : Int) := by rw [IntKind.wrap_i64]; omega
            have hcast : ((vn : Int) + (m : Int)) = ((vn + m : Nat) : Int) := by omega
            clear HAU HI2 HAA HG2 hXk
            have HC := hidden hC2
            clear hC2
            have hgl : g < wr.heap.size := Nat.lt_of_lt_of_le (hF g hgF) HC.out.be.size
            have HSS : Hid (∀ u : World, (∀ b, b < wr.heap.size → u.heap[b]? = wr.heap[b]?) → (fun (u : World) => u.cell? ⟨w.heap.size, 8, none⟩ = some (.slice (some ⟨g, o, none⟩) e.bods.length ac) ∧ u.cell? ⟨g, o + j * 11 + 1, none⟩ = some (.slice va vn vc) ∧ u.cell? ⟨g, o + j * 11 + 2, none⟩ = some (.int .i64 (x.kind : Int)) ∧ u.cell? ⟨g, o + j * 11 + 3, none⟩ = some (.int .i64 (x.place : Int)) ∧ u.cell? ⟨g, o + j * 11 + 4, none⟩ = some (.string (str x.name)) ∧ u.cell? ⟨g, o + j * 11 + 5, none⟩ = some (.complex .f64 (floatOfInt .f64 x.re) (floatOfInt .f64 x.im)) ∧ u.cell? ⟨g, o + j * 11 + 6, none⟩ = some (.string (str x.text)) ∧ u.cell? ⟨g, o + j * 11 + 7, none⟩ = some (.string (str x.ty)) ∧ u.cell? ⟨g, o + j * 11 + 8, none⟩ = some (.slice y1 x.kids.length y2) ∧ u.cell? ⟨g, o + j * 11 + 9, none⟩ = some (.slice y3 x.params.length y4) ∧ u.cell? ⟨g, o + j * 11 + 10, none⟩ = some (.slice y5 x.bods.length y6)) u) := fun u hu => by
              have t1 : ∀ q v, wr.cell? ⟨g, q, none⟩ = some v → u.cell? ⟨g, q, none⟩ = some v := fun q v h => (World.cell?_of_block (a := ⟨g, q, none⟩) (hu g hgl)).trans h
              exact ⟨(World.cell?_of_block (a := ⟨w.heap.size, 8, none⟩) (hu _ HC.out.lt)).trans x8, t1 _ _ qv, t1 _ _ q0, t1 _ _ q1, t1 _ _ q2, t1 _ _ q3, t1 _ _ q4, t1 _ _ q5, t1 _ _ q6, t1 _ _ q7, t1 _ _ q8⟩
            have hmost : Hid (∀ u : World, Calls Try.prog 31 #[.int .i64 (n0 : Int), .int .i64 ((vn : Int) + (m : Int))] u fun r w' => r = .returned (.int .i64 ((max n0 (vn + m) : Nat) : Int)) ∧ w' = u) := fun u => by
              rw [hcast]
              exact ref11Most n0 (vn + m) u
            clear hcast
            go_wp2_with fail
            go_region_held3 (fun (u : World) => u.cell? ⟨w.heap.size, 8, none⟩ = some (.slice (some ⟨g, o, none⟩) e.bods.length ac) ∧ u.cell? ⟨g, o + j * 11 + 1, none⟩ = some (.slice va vn vc) ∧ u.cell? ⟨g, o + j * 11 + 2, none⟩ = some (.int .i64 (x.kind : Int)) ∧ u.cell? ⟨g, o + j * 11 + 3, none⟩ = some (.int .i64 (x.place : Int)) ∧ u.cell? ⟨g, o + j * 11 + 4, none⟩ = some (.string (str x.name)) ∧ u.cell? ⟨g, o + j * 11 + 5, none⟩ = some (.complex .f64 (floatOfInt .f64 x.re) (floatOfInt .f64 x.im)) ∧ u.cell? ⟨g, o + j * 11 + 6, none⟩ = some (.string (str x.text)) ∧ u.cell? ⟨g, o + j * 11 + 7, none⟩ = some (.string (str x.ty)) ∧ u.cell? ⟨g, o + j * 11 + 8, none⟩ = some (.slice y1 x.kids.length y2) ∧ u.cell? ⟨g, o + j * 11 + 9, none⟩ = some (.slice y3 x.params.length y4) ∧ u.cell? ⟨g, o + j * 11 + 10, none⟩ = some (.slice y5 x.bods.length y6)) (first | assumption | exact HSS.out _ (fun _ _ => rfl)) (first
              | (go_at_call 15; refine hcall.mono ?_; rintro r w9 ⟨rfl, hb9⟩; have hC9 := HC.out.drew.step hb9; have hK9 := HSS.out w9 (fun b hb => hb9.block b hb); clear hcall)
              | (go_at_call 31; refine (hmost.out _).mono ?_; rintro r w10 ⟨rfl, hw10⟩; obtain rfl := hw10.symm))
            all_goals (
              go_wp2
              go_roundg (e.bods.length - (j + 1))
              case measure => omega
              case rel => exact ⟨j + 1, by omega, by go_num, (by rw [HT.out]; all_goals rfl), hC9⟩)
          · have hji : ¬ (j : Int) < (e.bods.length : Int) := by omega
            rw [List.take_of_length_le (by omega)]
            generalize AL.foldl max n1 = n2 at *
            have hbe := hC2.be
            clear HAU HI2 hg2
            go_wp2
            go_ret
            exact ⟨rfl, hbe⟩
end Go.Proofs.Ytcokihblicgbpaa
