/-
  Several states that wait for a place, while they are joined: memory's side.
  And: verify's firstState: no stack; the parameters, and what is unset behind them. Rows of structs that a call makes, whatever they hold: one put behind the others; rows of instructions.
-/
import Derived.Test.YtdeckknfolaaeaaGreatDoorG27
import Derived.Test.YtdeckknfolaaeaaGreatDoorG28
import Derived.Test.YtdeckknfolaaeaaGreatDoorG23
import Derived.Laws.CopyOwn
import Derived.Deep.OwnRows
import Derived.Deep.AppendLies
import Derived.Test.YtdeckknfolaaeaaGreatDoorG26
namespace Go.Proofs.YtdeckknfolaaeaaGreatDoor
open Go.RowKit Go.Maps

/-- Locals joined up to the k-th. -/
def midL (a b : List (List UInt8)) (k : Nat) : List (List UInt8) := (joinL a b).take k ++ a.drop k
theorem join_len' (a b : List (List UInt8)) : (joinL a b).length = a.length := by simp [joinL]
theorem join_at (a b : List (List UInt8)) (k : Nat) (hk : k < a.length) : (joinL a b)[k]? = some (if (b[k]?).getD a[k] = a[k] then a[k] else []) := by
  unfold joinL
  rw [List.getElem?_map, List.getElem?_zipIdx, List.getElem?_eq_getElem hk]
  simp
theorem mid_zero (a b : List (List UInt8)) : midL a b 0 = a := by simp [midL]
theorem mid_all (a b : List (List UInt8)) {k : Nat} (h : a.length ≤ k) : midL a b k = joinL a b := by
  unfold midL
  rw [List.drop_eq_nil_of_le h, List.take_of_length_le (by rw [join_len']; exact h), List.append_nil]
theorem mid_len (a b : List (List UInt8)) {k : Nat} (h : k ≤ a.length) : (midL a b k).length = a.length := by
  unfold midL
  rw [List.length_append, List.length_take, List.length_drop, join_len']
  omega
theorem mid_at (a b : List (List UInt8)) {k : Nat} (h : k < a.length) : (midL a b k)[k]? = some a[k] := by
  unfold midL
  rw [List.getElem?_append_right (by rw [List.length_take]; omega), List.length_take, join_len', Nat.min_eq_left (Nat.le_of_lt h), Nat.sub_self, List.getElem?_drop, Nat.add_zero, List.getElem?_eq_getElem h]
theorem mid_next (a b : List (List UInt8)) {k : Nat} (h : k < a.length) : midL a b (k + 1) = (joinL a b).take k ++ (if (b[k]?).getD a[k] = a[k] then a[k] else []) :: a.drop (k + 1) := by
  have hj := join_at a b k h
  have hk : k < (joinL a b).length := by rw [join_len']; exact h
  rw [List.getElem?_eq_getElem hk, Option.some.injEq] at hj
  unfold midL
  rw [List.take_succ_eq_append_getElem hk, hj, List.append_assoc, List.singleton_append]
theorem mid_same (a b : List (List UInt8)) {k : Nat} (h : k < a.length) (hb : k < b.length) (e : b[k] = a[k]) : midL a b (k + 1) = midL a b k := by
  rw [mid_next a b h, List.getElem?_eq_getElem hb, Option.getD_some, if_pos e]
  unfold midL
  rw [← List.drop_eq_getElem_cons h]
theorem mid_set (a b : List (List UInt8)) {k : Nat} (h : k < a.length) (hb : k < b.length) (e : b[k] ≠ a[k]) : midL a b (k + 1) = (midL a b k).set k [] := by
  rw [mid_next a b h, List.getElem?_eq_getElem hb, Option.getD_some, if_neg e]
  unfold midL
  have hl : ((joinL a b).take k).length = k := by rw [List.length_take, join_len']; omega
  rw [List.drop_eq_getElem_cons h, List.set_append_right _ _ (by omega), hl, Nat.sub_self, List.set_cons_zero]
theorem flat2 : ∀ (qs : List (St × Value × Value)) (j : Nat) (h : j < qs.length), (qs.flatMap fun q => [q.2.1, q.2.2])[j * 2]? = some qs[j].2.1 ∧ (qs.flatMap fun q => [q.2.1, q.2.2])[j * 2 + 1]? = some qs[j].2.2
  | q :: r, 0, _ => ⟨rfl, rfl⟩
  | q :: r, j + 1, h => by
    have ih := flat2 r j (by simpa using h)
    rw [show (j + 1) * 2 = (j * 2) + 1 + 1 by omega]
    simpa [List.flatMap_cons] using ih
theorem flat2_len (qs : List (St × Value × Value)) : (qs.flatMap fun q => [q.2.1, q.2.2]).length = qs.length * 2 := flat_len qs
/-- While states are joined: the walk with what is joined so far, and those that still wait. -/
structure ArrR (col : Nat → Tag) (w : World) (wb : Nat) (u : ObV) (m res : List UInt8) (sy : Value) (mb n : Nat) (ps : List Int) (p : Int) (wt : List (Int × St)) (st : St) (sv lv rv : Value) (qs : List (St × Value × Value)) : Prop where
  vw : VwR col w wb u m res sy mb n ps p ⟨st, wt⟩ sv lv
  row : w.ownsRow 0 95 2 rv qs.length (qs.flatMap fun q => [q.2.1, q.2.2])
  tag : ∀ g, rv.ownBlock = some g → col g = (1, p, 0)
  rest : ∀ (j : Nat) q, 1 ≤ j → qs[j]? = some q → SkR col (2, p, j) w q.2.1 q.1.stack ∧ LcR col (3, p, j) w q.2.2 q.1.locals
theorem ArrR.kept {col col' : Nat → Tag} {S : Tag → Prop} {w w' : World} {wb : Nat} {u : ObV} {m res : List UInt8} {sy : Value} {mb n : Nat} {ps : List Int} {p : Int} {wt : List (Int × St)} {st : St} {sv lv rv : Value} {qs : List (St × Value × Value)} (h : ArrR col w wb u m res sy mb n ps p wt st sv lv rv qs) (K : Kc col S w w') (hA : Agr w.heap.size col col') (hS : ∀ t, S t → t.1 = 9 ∨ t.1 = 0) : ArrR col' w' wb u m res sy mb n ps p wt st sv lv rv qs := by
  have no : ∀ t : Tag, 1 ≤ t.1 → t.1 ≤ 3 → ¬ S t := fun t h1 h3 hs => by
    rcases hS t hs with e | e <;> omega
  exact ⟨h.vw.kept K hA hS, owns_same h.row fun g hg => K.block g (h.row.lt g hg).2 (by show ¬ S (col g); rw [h.tag g hg]; exact no (1, p, 0) (Nat.le_refl 1) (by simp)), fun g hg => (hA g (h.row.lt g hg).2).trans (h.tag g hg), fun j q hj hq => ⟨(h.rest j q hj hq).1.kept K hA (no _ (by simp) (by simp)), (h.rest j q hj hq).2.kept K hA (no _ (by simp) (by simp))⟩⟩
theorem ArrR.put {col : Nat → Tag} {w : World} {wb : Nat} {u : ObV} {m res : List UInt8} {sy : Value} {mb n : Nat} {ps : List Int} {p : Int} {wt : List (Int × St)} {stk lo : List (List UInt8)} {sv rv : Value} {b o c : Nat} {qs : List (St × Value × Value)} (h : ArrR col w wb u m res sy mb n ps p wt ⟨stk, lo⟩ sv (.slice (some ⟨b, o, none⟩) lo.length c) rv qs) (k : Nat) (hk : k < lo.length) :
    o = 0 ∧ w.frozen? ⟨b, k, none⟩ = false ∧ ArrR col (w.setCell ⟨b, k, none⟩ (.string ⟨#[]⟩)) wb u m res sy mb n ps p wt ⟨stk, lo.set k []⟩ sv (.slice (some ⟨b, o, none⟩) lo.length c) rv qs ∧ Kc col ownT w (w.setCell ⟨b, k, none⟩ (.string ⟨#[]⟩)) := by
  obtain ⟨rfl, h1, h2, h3⟩ := h.vw.locs.put k hk []
  have e : (⟨#[]⟩ : ByteArray) = str [] := rfl
  rw [e]
  refine ⟨rfl, h1, ⟨⟨h.vw.base.kept h3 (Agr.refl _ _) fun t ht => by rw [ht]; exact ⟨by simp, .inl (Int.le_refl _)⟩, h.vw.stack.kept h3 (Agr.refl _ _) (by simp), h2⟩, owns_same h.row fun g hg => h3.block g (h.row.lt g hg).2 (by show ¬ (col g = _); rw [h.tag g hg]; simp), h.tag, fun j q hj hq => ⟨(h.rest j q hj hq).1.kept h3 (Agr.refl _ _) (by simp), (h.rest j q hj hq).2.kept h3 (Agr.refl _ _) (fun e => by
      simp only [Prod.mk.injEq, true_and] at e
      omega)⟩⟩, h3.mono fun t ht => by rw [ht]; simp [ownT]⟩
/-- The cells of the j-th that waits. -/
theorem ArrR.at {col : Nat → Tag} {w : World} {wb : Nat} {u : ObV} {m res : List UInt8} {sy : Value} {mb n : Nat} {ps : List Int} {p : Int} {wt : List (Int × St)} {st : St} {sv lv : Value} {g cap : Nat} {qs : List (St × Value × Value)} (h : ArrR col w wb u m res sy mb n ps p wt st sv lv (.slice (some ⟨g, 0, none⟩) qs.length cap) qs) (j : Nat) (hj : j < qs.length) :
    w.cell? ⟨g, j * 2, none⟩ = some qs[j].2.1 ∧ w.cell? ⟨g, j * 2 + 1, none⟩ = some qs[j].2.2 := by
  have hl := flat2_len qs
  have h2 := flat2 qs j hj
  refine ⟨?_, ?_⟩
  · rw [h.row.cellAt (j * 2) (by omega)]
    exact h2.1
  · rw [h.row.cellAt (j * 2 + 1) (by omega)]
    exact h2.2
theorem ArrR.next {col : Nat → Tag} {w : World} {wb : Nat} {u : ObV} {m res : List UInt8} {sy : Value} {mb n : Nat} {ps : List Int} {p : Int} {wt : List (Int × St)} {st : St} {sv lv : Value} {g cap : Nat} {q0 : St × Value × Value} {qr : List (St × Value × Value)} (h : ArrR col w wb u m res sy mb n ps p wt st sv lv (.slice (some ⟨g, 0, none⟩) (qr.length + 1) cap) (q0 :: qr)) (k : Nat) (q : St × Value × Value) (hq : qr[k]? = some q) :
    w.cell? ⟨g, 2 + k * 2, none⟩ = some q.2.1 ∧ w.cell? ⟨g, 2 + k * 2 + 1, none⟩ = some q.2.2 := by
  obtain ⟨hk, he⟩ := List.getElem?_eq_some_iff.1 hq
  have hk' : k + 1 < (q0 :: qr).length := by rw [List.length_cons]; omega
  have h1 := ArrR.at (qs := q0 :: qr) h (k + 1) hk'
  have h2 : (q0 :: qr)[k + 1] = q := by rw [List.getElem_cons_succ]; exact he
  rw [h2, show (k + 1) * 2 = 2 + k * 2 by omega] at h1
  exact h1
end Go.Proofs.YtdeckknfolaaeaaGreatDoor

namespace Go.Proofs.YtdeckknfolaaeaaGreatDoor
open Go.RowKit Go.Maps

def firstN (f : Fn) : Nat := (min (max f.locals 0) 256).toNat
/-- The first locals. -/
def firstL (f : Fn) : List (List UInt8) := splice (List.replicate (firstN f) []) 0 (f.params.take (firstN f))
theorem sizeStr : (Tryz.prog.info? 9).map (·.size) = some 1 := by kernel_rfl
theorem sizeSt : (Tryz.prog.info? 95).map (·.size) = some 2 := by kernel_rfl
theorem splice_sc (n : Nat) (ps : List (List UInt8)) : splice (List.replicate n (Value.string ⟨#[]⟩)) 0 (sc ps) = sc (splice (List.replicate n []) 0 ps) := by
  have e : (⟨#[]⟩ : ByteArray) = str [] := rfl
  simp [splice, sc, List.map_replicate, e]
theorem made_is (n : Nat) : madeCells #[Value.string ⟨#[]⟩] n = (List.replicate n (Value.string ⟨#[]⟩)).toArray := by
  apply Array.ext
  · simp [madeCells]
  · intro i h1 h2
    simp [madeCells, Nat.mod_one]
set_option maxRecDepth 1000000 in
set_option maxHeartbeats 2000000 in
theorem vfirst (f : Fn) (pv kv : Value) (w : World) (hp : StrRow w pv f.params) (hkv : ∃ a n c, kv = .slice a n c) :
    Calls Tryz.prog 32 #[.agg #[.string (str f.name), pv, .int .i64 f.caps, .string (str f.res), .int .i64 f.locals, kv]] w fun e w' => ∃ lv, e = .returned (.agg #[.slice none 0 0, lv]) ∧ w'.ownsRow w.heap.size 9 1 lv (firstL f).length (sc (firstL f)) ∧ Below w.heap.size w w' := by
  obtain ⟨ka, kn, kc, rfl⟩ := hkv
  obtain ⟨pa, pc, rfl⟩ := hp.shape
  have hLz : min (max f.locals 0) 256 = ((firstN f : Nat) : Int) := by unfold firstN; omega
  have hL256 : firstN f ≤ 256 := by unfold firstN; omega
  have hlen : (firstL f).length = firstN f := by rw [firstL, length_splice _ _ _ (by simp; omega)]; simp
  have HF : Hid (firstL f = splice (List.replicate (firstN f) []) 0 (f.params.take (firstN f))) := rfl
  have hmk := run_make_row' (P := Tryz.prog) 25 9 (.string ⟨#[]⟩) 16 Tryz.underlying25 (by kernel_rfl) rfl .i64 .i64 (firstN f) (by omega) (by omega)
  have hb2 : Below w.heap.size w ((w.alloc (.cells #[.string (str f.name), .slice pa f.params.length pc, .int .i64 f.caps, .string (str f.res), .int .i64 f.locals, .slice ka kn kc] 63)).alloc (.cells #[.slice none 0 0, .slice none 0 0] 95)) := ((Below.refl _ w).alloc (Nat.le_refl _) _).alloc (by simp) _
  have hrb : ((w.alloc (.cells #[.string (str f.name), .slice pa f.params.length pc, .int .i64 f.caps, .string (str f.res), .int .i64 f.locals, .slice ka kn kc] 63)).alloc (.cells #[.slice none 0 0, .slice none 0 0] 95)).heap[w.heap.size + 1]? = some (.cells #[.slice none 0 0, .slice none 0 0] 95 (0, 0)) := by
    have := World.alloc_heap_new (w.alloc (.cells #[.string (str f.name), .slice pa f.params.length pc, .int .i64 f.caps, .string (str f.res), .int .i64 f.locals, .slice ka kn kc] 63)) (.cells #[.slice none 0 0, .slice none 0 0] 95)
    rw [World.size_alloc] at this
    exact this
  have hfb : ((w.alloc (.cells #[.string (str f.name), .slice pa f.params.length pc, .int .i64 f.caps, .string (str f.res), .int .i64 f.locals, .slice ka kn kc] 63)).alloc (.cells #[.slice none 0 0, .slice none 0 0] 95)).heap[w.heap.size]? = some (.cells #[.string (str f.name), .slice pa f.params.length pc, .int .i64 f.caps, .string (str f.res), .int .i64 f.locals, .slice ka kn kc] 63 (0, 0)) := (Below.heap_alloc _ _ _ (by simp)).trans (World.alloc_heap_new w _)
  have hsz : ((w.alloc (.cells #[.string (str f.name), .slice pa f.params.length pc, .int .i64 f.caps, .string (str f.res), .int .i64 f.locals, .slice ka kn kc] 63)).alloc (.cells #[.slice none 0 0, .slice none 0 0] 95)).heap.size = w.heap.size + 2 := by simp
  generalize hW : (w.alloc (.cells #[.string (str f.name), .slice pa f.params.length pc, .int .i64 f.caps, .string (str f.res), .int .i64 f.locals, .slice ka kn kc] 63)).alloc (.cells #[.slice none 0 0, .slice none 0 0] 95) = W at *
  have x4 : W.cell? ⟨w.heap.size, 4, none⟩ = some (.int .i64 f.locals) := by rw [cell_of_row _ _ 4 _ _ _ hfb]; rfl
  have hmW := hmk W
  have hbM : Below w.heap.size w (W.alloc (.cells (madeCells #[.string ⟨#[]⟩] (firstN f)) 9)) := hb2.alloc hb2.size _
  have x1 : (W.alloc (.cells (madeCells #[.string ⟨#[]⟩] (firstN f)) 9)).cell? ⟨w.heap.size, 1, none⟩ = some (.slice pa f.params.length pc) := cell_more (by rw [cell_of_row _ _ 1 _ _ _ hfb]; rfl) _
  have hrM : (W.alloc (.cells (madeCells #[.string ⟨#[]⟩] (firstN f)) 9)).heap[w.heap.size + 1]? = some (.cells #[.slice none 0 0, .slice none 0 0] 95 (0, 0)) := (Below.heap_alloc _ _ _ (by omega)).trans hrb
  have hnM : (W.alloc (.cells (madeCells #[.string ⟨#[]⟩] (firstN f)) 9)).heap[W.heap.size]? = some (.cells (madeCells #[.string ⟨#[]⟩] (firstN f)) 9 (0, 0)) := World.alloc_heap_new W _
  rw [made_is] at *
  generalize hWM : W.alloc (.cells (List.replicate (firstN f) (Value.string ⟨#[]⟩)).toArray 9) = WM at *
  have hpM := hp.below hbM
  have hszM : WM.heap.size = w.heap.size + 3 := by rw [← hWM, World.size_alloc]; omega
  have HS := hidden hszM
  have HW := hidden hsz
  have HLN := hidden hlen
  rw [hsz] at hmW hnM
  clear hmk hp hWM hfb hrb hb2 hlen
  generalize hfn : firstN f = L at *
  go_enter Tryz.func32, Tryz.ntmps32
  have hn' : (sc (f.params.take L)).length = Nat.min f.params.length L := by rw [sc_length, List.length_take]; exact Nat.min_comm _ _
  have hfit : 0 + (sc (f.params.take L)).length ≤ (List.replicate L (Value.string ⟨#[]⟩)).length := by rw [sc_length, List.length_take, List.length_replicate]; omega
  have h1c : ∀ v ∈ sc (f.params.take L), v.oneCell' = true := fun v hv => by
    simp only [sc, List.mem_map] at hv
    obtain ⟨q, _, rfl⟩ := hv
    rfl
  have hpos : 0 < (sc (f.params.take L)).length → (some ⟨w.heap.size + 2, 0, none⟩ : Option Addr) = some ⟨w.heap.size + 2, 0, none⟩ ∧ ∃ ad, pa = some ad ∧ ∀ j v, (sc (f.params.take L))[j]? = some v → WM.cell? (ad.add j) = some v := fun h0 => by
    refine ⟨rfl, ?_⟩
    rw [sc_length, List.length_take] at h0
    rcases hpM with ⟨e, _⟩ | ⟨b, o, c, e, _, _, hc⟩
    · rw [e] at h0; simp at h0
    · simp only [Value.slice.injEq] at e
      refine ⟨_, e.1, fun j v hj => ?_⟩
      simp only [sc, List.getElem?_map, Option.map_eq_some_iff] at hj
      obtain ⟨q, hq, rfl⟩ := hj
      rw [List.getElem?_take] at hq
      split at hq
      · rw [add_noneV]; exact hc j q hq
      · cases hq
  obtain ⟨PC, hPC⟩ : ∃ PC, PC = sc (f.params.take L) := ⟨_, rfl⟩
  rw [← hPC] at hn' hfit h1c hpos
  have HPC := hidden hPC
  clear hPC hpM
  go_wp2_with (first
    | (refine wpList_copy_splice rfl (.tmp 9) (.tmp 11) 25 25 rfl 9 Tryz.underlying25 sizeStr _ _ _ _ _ _ rfl rfl (w.heap.size + 2) 0 (List.replicate L (Value.string ⟨#[]⟩)) 9 hnM PC hn' hpos hfit h1c (w.heap.size + 2) WM (Below.refl _ WM) (Nat.le_refl _) ?_; intro w2 hr2 hb2; have hrb2 := (hb2.block (w.heap.size + 1) (by omega)).trans hrM; skip)
    | (refine wpList_store_row rfl 95 (.tmp 2) (.tmp 14) rfl (w.heap.size + 1) #[.slice none 0 0, .slice (some ⟨w.heap.size + 2, 0, none⟩) L L] rfl rfl 95 #[.slice none 0 0, .slice none 0 0] hrb2 sizeSt rfl (by kernel_rfl) ?_))
  (try simp only [Exit.inBlock, Exit.then])
  have hrb3 := (hb2.block (w.heap.size + 1) (by omega)).trans hrM
  refine bodyPost_ret (results_cell_row rfl _ _ (w.heap.size + 1) 95 #[.slice none 0 0, .slice (some ⟨w.heap.size + 2, 0, none⟩) L L] (0, 0) _ rfl (setRow_heap _ (w.heap.size + 1) _ _ 95 (0, 0) hrb3) Tryz.underlying95 rfl sizeSt) rfl ?_
  have e1 : splice (List.replicate L (Value.string ⟨#[]⟩)) 0 PC = sc (firstL f) := by rw [HPC.out, HF.out, splice_sc]
  have hlL := HLN.out
  have hb3 : Below w.heap.size w w2 := hbM.trans (hb2.mono (by omega))
  refine ⟨_, rfl, ⟨by rw [sc_length]; simp, .inr ⟨w.heap.size + 2, L, (sc (firstL f)).toArray, by rw [hlL], by omega, ?_, by omega, by unfold maxLen; omega, by simp [sc_length, hlL], by rw [Nat.mul_one]; exact List.take_of_length_le (by rw [sc_length]; exact Nat.le_refl _)⟩⟩, below_setRow hb3 (by omega) _⟩
  rw [setRow_other _ _ _ _ (by omega), ← e1]
  exact hr2.out
end Go.Proofs.YtdeckknfolaaeaaGreatDoor

namespace Go.Proofs.YtdeckknfolaaeaaGreatDoor.Wire
open Go.RowKit

theorem info_z {P : Program} {e : TypeId} {n size bytes : Nat} (h : (P.info? e).map (fun i => (i.zero.map (fun z => z.cells.size), i.size, i.bytes)) = some (some n, size, bytes)) :
    ∃ i z, P.info? e = some i ∧ i.zero = some z ∧ i.size = size ∧ i.bytes = bytes ∧ z.cells.size = n := by
  obtain ⟨i, hi, hzz⟩ := Option.map_eq_some_iff.1 h
  simp only [Prod.mk.injEq] at hzz
  obtain ⟨z, hz, hn⟩ := Option.map_eq_some_iff.1 hzz.1
  exact ⟨i, z, hi, hz, hzz.2.1, hzz.2.2, hn⟩
theorem Kept.own {S : Nat → Prop} {w w' : World} {B e size n : Nat} {v : Value} {xs : List Value} (k : Kept S w w') (h : w.ownsRow B e size v n xs) (hg : ∀ g, v.ownBlock = some g → ¬ S g) : w'.ownsRow B e size v n xs := by
  refine ⟨h.1, ?_⟩
  rcases h.2 with hn | ⟨g, cap, cur, rfl, hb, hgg, rest⟩
  · exact .inl hn
  · exact .inr ⟨g, cap, cur, rfl, hb, (k.block g (Array.getElem?_eq_some_iff.1 hgg).1 (hg g rfl)).trans hgg, rest⟩
theorem add_at (g j : Nat) : (⟨g, 0, none⟩ : Addr).add j = ⟨g, j, none⟩ := by
  unfold Addr.add
  split
  · rename_i h
    subst h
    rfl
  · simp
theorem cells_new (w : World) (xs : List Value) (t : TypeId) : ∀ j u, xs[j]? = some u → (w.alloc (.cells xs.toArray t)).cell? ((⟨w.heap.size, 0, none⟩ : Addr).add j) = some u := by
  intro j u hj
  rw [add_at]
  simpa using hj
/-- What one of a row is by its cells, what it holds lying in blocks of F. -/
abbrev Cel (α : Type) : Type := (Nat → Prop) → World → α → List Value → Prop
structure CelOk {α : Type} (sz : Nat) (C : Cel α) : Prop where
  frame : ∀ {F G : Nat → Prop} {w w' : World} {x : α} {c : List Value}, (∀ g, F g → G g ∧ w'.heap[g]? = w.heap[g]?) → C F w x c → C G w' x c
  len : ∀ {F : Nat → Prop} {w : World} {x : α} {c : List Value}, C F w x c → c.length = sz
  one : ∀ {F : Nat → Prop} {w : World} {x : α} {c : List Value}, C F w x c → ∀ u ∈ c, u.oneCell' = true
/-- They lie in a row of the call's own; what they hold lies from B on, apart from it. -/
def RowG {α : Type} (C : Cel α) (ty sz B : Nat) (w : World) (v : Value) (xs : List α) : Prop :=
  ∃ ps : List (α × List Value), ps.map (·.1) = xs ∧ w.ownsRow B ty sz v xs.length (ps.flatMap (·.2)) ∧ ∀ p ∈ ps, C (fun g => B ≤ g ∧ g < w.heap.size ∧ some g ≠ v.ownBlock) w p.1 p.2
theorem RowG.nil {α : Type} (C : Cel α) (ty sz B : Nat) (w : World) : RowG C ty sz B w (.slice none 0 0) [] := ⟨[], rfl, World.ownsRow_nil _ _ _ _, by simp⟩
theorem RowG.block {α : Type} {C : Cel α} {ty sz B : Nat} {w : World} {v : Value} {xs : List α} (h : RowG C ty sz B w v xs) {g : Nat} (hg : v.ownBlock = some g) : B ≤ g ∧ g < w.heap.size := by
  obtain ⟨ps, h1, h2, h3⟩ := h
  rcases h2.2 with ⟨rfl, _⟩ | ⟨g', cap, cur, rfl, hb, hgg, _⟩
  · cases hg
  · simp only [Value.ownBlock, Option.some.injEq] at hg
    subst hg
    exact ⟨hb, (Array.getElem?_eq_some_iff.1 hgg).1⟩
theorem RowG.shape {α : Type} {C : Cel α} {ty sz B : Nat} {w : World} {v : Value} {xs : List α} (h : RowG C ty sz B w v xs) : ∃ a c, v = .slice a xs.length c := by
  obtain ⟨ps, h1, h2, h3⟩ := h
  rcases h2.2 with ⟨rfl, hn⟩ | ⟨g, cap, cur, rfl, _⟩
  · exact ⟨none, 0, by rw [hn]⟩
  · exact ⟨_, _, rfl⟩
/-- Whoever turns blocks below B alone leaves it as it is. -/
theorem RowG.kept {α : Type} {C : Cel α} {ty sz B : Nat} (hC : CelOk sz C) {S : Nat → Prop} {w w' : World} {v : Value} {xs : List α} (h : RowG C ty sz B w v xs) (k : Kept S w w') (hS : ∀ b, B ≤ b → ¬ S b) : RowG C ty sz B w' v xs := by
  obtain ⟨ps, h1, h2, h3⟩ := h
  exact ⟨ps, h1, k.own h2 (fun g hg => hS g (RowG.block (C := C) ⟨ps, h1, h2, h3⟩ hg).1), fun p hp => hC.frame (fun g hg => ⟨⟨hg.1, Nat.lt_of_lt_of_le hg.2.1 k.size, hg.2.2⟩, k.block g hg.2.1 (hS g hg.1)⟩) (h3 p hp)⟩
theorem flat_at {α : Type} {sz : Nat} : ∀ (ps : List (α × List Value)), (∀ p ∈ ps, p.2.length = sz) → ∀ (j : Nat) (h : j < ps.length) (i : Nat), i < sz → (ps.flatMap (·.2))[j * sz + i]? = ps[j].2[i]?
  | p :: r, hl, 0, _, i, hi => by
    rw [Nat.zero_mul, Nat.zero_add, List.flatMap_cons, List.getElem?_append_left (by rw [hl p (by simp)]; exact hi)]
    rfl
  | p :: r, hl, j + 1, h, i, hi => by
    have h0 := hl p (by simp)
    have := flat_at r (fun q hq => hl q (by simp [hq])) j (by simpa using h) i hi
    rw [List.flatMap_cons, List.getElem?_append_right (by rw [h0, Nat.succ_mul]; omega), h0, show (j + 1) * sz + i - sz = j * sz + i by rw [Nat.succ_mul]; omega]
    simpa using this
/-- One of the row, as it can be read. -/
theorem RowG.at {α : Type} {C : Cel α} {ty sz B : Nat} (hC : CelOk sz C) {w : World} {v : Value} {xs : List α} (h : RowG C ty sz B w v xs) (j : Nat) (hj : j < xs.length) :
    ∃ g cap c, v = .slice (some ⟨g, 0, none⟩) xs.length cap ∧ xs.length ≤ cap ∧ (B ≤ g ∧ g < w.heap.size) ∧ C (fun g => B ≤ g ∧ g < w.heap.size) w xs[j] c ∧ ∀ i u, c[i]? = some u → w.cell? ⟨g, j * sz + i, none⟩ = some u := by
  obtain ⟨ps, rfl, h2, h3⟩ := h
  rcases h2.2 with ⟨rfl, hn⟩ | ⟨g, cap, cur, rfl, hb, hg, hl, _⟩
  · omega
  · have hjl : j < ps.length := by simpa using hj
    have hlen : ∀ p ∈ ps, p.2.length = sz := fun p hp => hC.len (h3 p hp)
    refine ⟨g, cap, ps[j].2, rfl, hl, ⟨hb, (Array.getElem?_eq_some_iff.1 hg).1⟩, ?_, fun i u hi => ?_⟩
    · rw [List.getElem_map]
      exact hC.frame (fun g' hg' => ⟨⟨hg'.1, hg'.2.1⟩, rfl⟩) (h3 _ (List.getElem_mem hjl))
    · have hil : i < sz := by
        have := (List.getElem?_eq_some_iff.1 hi).1
        rwa [hlen _ (List.getElem_mem hjl)] at this
      have hm : j * sz + i < (ps.map (·.1)).length * sz := by
        have h5 : (j + 1) * sz ≤ ps.length * sz := Nat.mul_le_mul_right sz hjl
        rw [Nat.succ_mul] at h5
        simp only [List.length_map]
        omega
      rw [h2.cellAt _ hm, flat_at ps hlen j hjl i hil]
      exact hi
theorem rowG_more {α : Type} {C : Cel α} {ty sz B : Nat} (hC : CelOk sz C) {w w' : World} {v : Value} {xs : List α} {x : α} {c : List Value} {g cap : Nat} (hT : C (fun g => B ≤ g ∧ g < w.heap.size ∧ some g ≠ v.ownBlock) w x c)
    {ps : List (α × List Value)} (h1 : ps.map (·.1) = xs) (h3 : ∀ p ∈ ps, C (fun g => B ≤ g ∧ g < w.heap.size ∧ some g ≠ v.ownBlock) w p.1 p.2) (q1 : w'.ownsRow B ty sz (.slice (some ⟨g, 0, none⟩) (xs.length + 1) cap) (xs.length + 1) (ps.flatMap (·.2) ++ c)) (q2 : w.grownBy w' v.ownBlock) (q3 : v.ownBlock = some g ∨ g = w.heap.size) :
    RowG C ty sz B w' (.slice (some ⟨g, 0, none⟩) (xs.length + 1) cap) (xs ++ [x]) := by
  refine ⟨ps ++ [(x, c)], by simp [h1], ?_, fun p hp => ?_⟩
  · rw [List.flatMap_append]
    simpa using q1
  · have key : ∀ (y : α) (d : List Value), C (fun g => B ≤ g ∧ g < w.heap.size ∧ some g ≠ v.ownBlock) w y d → C (fun g' => B ≤ g' ∧ g' < w'.heap.size ∧ some g' ≠ (Value.slice (some ⟨g, 0, none⟩) (xs.length + 1) cap).ownBlock) w' y d := fun y d ht => hC.frame (fun g' hg' => by
      refine ⟨⟨hg'.1, Nat.lt_of_lt_of_le hg'.2.1 q2.size, fun e => ?_⟩, q2.block g' hg'.2.1 hg'.2.2⟩
      simp only [Value.ownBlock, Option.some.injEq] at e
      subst e
      rcases q3 with q3 | q3
      · exact hg'.2.2 q3.symm
      · have := hg'.2.1
        omega) ht
    rcases List.mem_append.1 hp with hp | hp
    · exact key _ _ (h3 p hp)
    · rw [List.mem_singleton.1 hp]
      exact key _ _ hT
theorem append_rowG {P : Program} {α : Type} {C : Cel α} {E sz bytes B : Nat} (hC : CelOk sz C) {w : World} {ops : Array Oper} {rest : List Oper} {o : Oper} {a : Act} {Q : Exit → Act → World → Prop} (hgd : o.guard = none) (s x : Operand) (T : TypeId)
    (ho : o.op = .call { callee := .builtin .append, args := #[s, x], argTypes := #[T, T] }) (ht : P.underlying T = some (.slice E)) (hi : (P.info? E).map (fun i => (i.zero.map (fun z => z.cells.size), i.size, i.bytes)) = some (some sz, sz, bytes)) (hsz : 0 < sz)
    (v : Value) (xs : List α) (hs : a.eval s = v) (hI : RowG C E sz B w v xs) (y : α) (c : List Value) (ad : Addr) (cp : Nat) (hx : a.eval x = .slice (some ad) 1 cp)
    (hnews : ∀ j u, c[j]? = some u → w.cell? (ad.add j) = some u) (hT : C (fun g => B ≤ g ∧ g < w.heap.size ∧ some g ≠ v.ownBlock) w y c) (hlen : xs.length + 1 ≤ maxLen) (hby : (xs.length + 1) * bytes ≤ 140737488355328) (hB : B ≤ w.heap.size)
    (h : ∀ g cap w', RowG C E sz B w' (.slice (some ⟨g, 0, none⟩) (xs.length + 1) cap) (xs ++ [y]) → w.grownBy w' v.ownBlock → wpList P ops Q rest (a.put o.dst (.slice (some ⟨g, 0, none⟩) (xs.length + 1) cap)) w') :
    wpList P ops Q (o :: rest) a w := by
  obtain ⟨i, z, hi, hz, h1, h2, h3⟩ := info_z hi
  obtain ⟨ps, p1, p2, p3⟩ := id hI
  exact wpList_append_lies w hgd s x T ho B E i z sz bytes ht hi hz h1 h2 h3 hsz v _ _ hs p2 ad 1 cp c hx (by rw [hC.len hT, Nat.one_mul]) hnews (hC.one hT) (by decide) hlen hby hB w.heap.size rfl (fun g cap w' q1 q2 q3 _ => h g cap w' (rowG_more hC hT p1 p3 q1 q2 q3) q2)
theorem step_rowG {P : Program} {α : Type} {C : Cel α} {E sz bytes B : Nat} (hC : CelOk sz C) {w : World} {ops : Array Oper} {o : Oper} {a : Act} {K : Act → World → Prop} {Q : Exit → Act → World → Prop} {Z : Prop} (hgd : o.guard = none) (s x : Operand) (T : TypeId)
    (ho : o.op = .call { callee := .builtin .append, args := #[s, x], argTypes := #[T, T] }) (ht : P.underlying T = some (.slice E)) (hi : (P.info? E).map (fun i => (i.zero.map (fun z => z.cells.size), i.size, i.bytes)) = some (some sz, sz, bytes)) (hsz : 0 < sz)
    (v : Value) (xs : List α) (hs : a.eval s = v) (hI : RowG C E sz B w v xs) (y : α) (c : List Value) (ad : Addr) (cp : Nat) (hx : a.eval x = .slice (some ad) 1 cp)
    (hnews : ∀ j u, c[j]? = some u → w.cell? (ad.add j) = some u) (hT : C (fun g => B ≤ g ∧ g < w.heap.size ∧ some g ≠ v.ownBlock) w y c) (hlen : xs.length + 1 ≤ maxLen) (hby : (xs.length + 1) * bytes ≤ 140737488355328) (hB : B ≤ w.heap.size)
    (h : ∀ g cap w', RowG C E sz B w' (.slice (some ⟨g, 0, none⟩) (xs.length + 1) cap) (xs ++ [y]) → w.grownBy w' v.ownBlock → K (a.put o.dst (.slice (some ⟨g, 0, none⟩) (xs.length + 1) cap)) w') :
    if Region.wanted o (yielded ops a.tmps) = true then Oper.wp P o a w K Q else Z := by
  obtain ⟨i, z, hi, hz, h1, h2, h3⟩ := info_z hi
  obtain ⟨ps, p1, p2, p3⟩ := id hI
  exact step_append_lies w hgd s x T ho B E i z sz bytes ht hi hz h1 h2 h3 hsz v _ _ hs p2 ad 1 cp c hx (by rw [hC.len hT, Nat.one_mul]) hnews (hC.one hT) (by decide) hlen hby hB w.heap.size rfl (fun g cap w' q1 q2 q3 _ => h g cap w' (rowG_more hC hT p1 p3 q1 q2 q3) q2)
/-- An instruction's cells. -/
def cIns : Cel Ins := fun F w i c => ∃ tv, c = (insC i tv).toList ∧ IwR F w tv i.tos
theorem cIns_ok : CelOk 7 cIns where
  frame := fun hF ⟨tv, h1, h2⟩ => ⟨tv, h1, h2.frame hF⟩
  len := fun ⟨tv, h1, _⟩ => by rw [h1]; rfl
  one := fun ⟨tv, h1, h2⟩ u hu => by
    have := h2.one
    rw [h1] at hu
    simp only [insC, List.mem_cons, List.not_mem_nil, or_false] at hu
    rcases hu with rfl | rfl | rfl | rfl | rfl | rfl | rfl
    all_goals first | rfl | exact this
theorem infoIns : (Tryz.prog.info? 144).map (fun i => (i.zero.map (fun z => z.cells.size), i.size, i.bytes)) = some (some 7, 7, 88) := by kernel_rfl
end Go.Proofs.YtdeckknfolaaeaaGreatDoor.Wire
