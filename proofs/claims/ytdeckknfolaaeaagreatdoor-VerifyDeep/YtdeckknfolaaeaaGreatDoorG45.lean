/-
  Right of any object that memory can hold: the refusal and its number, as the chapter says.
  And: verify's ownItems, of an object that has functions and exports alone.
-/
import Derived.Test.YtdeckknfolaaeaaGreatDoorG36
import Derived.Test.YtdeckknfolaaeaaGreatDoorG37
import Derived.Test.YtdeckknfolaaeaaGreatDoorG38
import Derived.Test.YtdeckknfolaaeaaGreatDoorG39
import Derived.Test.YtdeckknfolaaeaaGreatDoorG42
import Derived.Test.YtdeckknfolaaeaaGreatDoorG44
import Derived.Test.YtdeckknfolaaeaaGreatDoorG33
import Derived.Test.YtdeckknfolaaeaaGreatDoorG34
import Derived.Test.YtdeckknfolaaeaaGreatDoorG18
namespace Go.Proofs.YtdeckknfolaaeaaGreatDoor
open Go.RowKit

theorem fun_small {gs : List Gl} {ah : List Fn} {f : Fn} (h : funO gs ah f = 0) : f.params.length ≤ 24 ∧ (joinR (f.params.drop (cutO f))).length ≤ 10000 ∧ f.res.length ≤ 200 := by
  unfold funO at h
  by_cases h1 : f.name ≠ [] ∧ valueR f.name = false
  · rw [if_pos h1] at h
    cases h
  rw [if_neg h1] at h
  by_cases h2 : f.name ≠ [] ∧ (ah.any (fun d => decide (d.name = f.name)) = true ∨ gs.any (fun d => decide (d.name = f.name)) = true)
  · rw [if_pos h2] at h
    cases h
  rw [if_neg h2] at h
  cases h3 : countsO f
  · rw [if_pos h3] at h
    cases h
  rw [if_neg (by rw [h3]; simp)] at h
  by_cases h4 : rightR f.res = false ∨ f.params.all rightR = false ∨ rightR (signO f) = false
  · rw [if_pos h4] at h
    cases h
  have hr : rightR f.res = true := by cases hh : rightR f.res with | false => exact absurd (.inl hh) h4 | true => rfl
  have hp : f.params.all rightR = true := by cases hh : f.params.all rightR with | false => exact absurd (.inr (.inl hh)) h4 | true => rfl
  have hl : f.params.length ≤ 24 := by
    simp only [countsO, Bool.and_eq_true, decide_eq_true_eq] at h3
    omega
  have hj := join_len 200 (f.params.drop (cutO f)) (fun p hp' => rightR_len (List.all_eq_true.1 hp p (List.mem_of_mem_drop hp')))
  have hd : (f.params.drop (cutO f)).length ≤ 24 := by rw [List.length_drop]; omega
  have := Nat.mul_le_mul_left 201 hd
  exact ⟨hl, by omega, rightR_len hr⟩
theorem funs_small {o : Ob} (h : (scanO (elemO o 3) 0 (lenO o 3)).1 = 0) : ∀ f ∈ o.funs, f.params.length ≤ 1000000 ∧ (joinR (f.params.drop (cutO f))).length ≤ 1000000000 ∧ f.res.length ≤ 1000000000 := by
  intro f hf
  obtain ⟨i, hi, rfl⟩ := List.getElem_of_mem hf
  have h1 := scanO_all _ _ h i (by omega) (by show i < 0 + o.funs.length; omega)
  have h2 : funO o.globals (o.funs.take i) o.funs[i] = 0 := by
    rw [← h1, elemO, List.getElem?_eq_getElem hi]
  obtain ⟨a, b, c⟩ := fun_small h2
  exact ⟨by omega, by omega, by omega⟩
theorem NamedO.n {o : Ob} {q : List UInt8} {w : World} {e : Ending} {w' : World} (h : NamedO o q w e w') : NamedN o q w e w' := by
  obtain ⟨x, cv, h1, h2, h3, h4⟩ := h
  obtain ⟨ca, cc, rfl⟩ := h3.shape
  exact ⟨x, ca, x.cases.length, cc, h1, h4⟩
set_option maxHeartbeats 1000000 in
set_option maxRecDepth 1000000 in
theorem onamed_nil (F : Nat → Prop) (u : ObV) (o : Ob) (w : World) (h : ObR F w u o) : Calls Tryz.prog 87 #[obv u o.mod, .string (str [])] w (NamedN o [] w) := by
  have HO : Hid (ownO o [] = none) := by rw [hid_iff, ownO, if_pos rfl]
  unfold NamedN
  generalize ownO o [] = ow at *
  obtain ⟨a1, c1, e1⟩ := h.types.shape
  obtain ⟨a2, c2, e2⟩ := h.texts.1.shape
  obtain ⟨a3, c3, e3⟩ := h.globals.shape
  obtain ⟨a4, c4, e4⟩ := h.funs.shape
  obtain ⟨a5, c5, e5⟩ := h.exports.1.shape
  obtain ⟨a6, c6, e6⟩ := h.symbols.shape
  obtain ⟨a7, c7, e7⟩ := h.relocs.shape
  clear h
  obtain ⟨tv, xv, gv, fv, ev, sv, rv⟩ := u
  unfold obv
  simp only at *
  subst e1 e2 e3 e4 e5 e6 e7
  generalize o.types.length = n1 at *
  generalize o.texts.length = n2 at *
  generalize o.globals.length = n3 at *
  generalize o.funs.length = n4 at *
  generalize o.exports.length = n5 at *
  generalize o.symbols.length = n6 at *
  generalize o.relocs.length = n7 at *
  generalize o.mod = m at *
  have hnn : (str []).toList.isEmpty = true := by rw [nil_text]; rfl
  have hnq : (str []).toList = [] := by rw [← List.isEmpty_iff]; exact hnn
  generalize hW : w.alloc (.cells #[.string (str m), .slice a1 n1 c1, .slice a2 n2 c2, .slice a3 n3 c3, .slice a4 n4 c4, .slice a5 n5 c5, .slice a6 n6 c6, .slice a7 n7 c7] 31) = W0 at *
  have hb0 : Below w.heap.size w W0 := by rw [← hW]; exact (Below.refl _ _).alloc (Nat.le_refl _) _
  have hs0 : W0.heap.size = w.heap.size + 1 := by rw [← hW]; simp
  have hN1 := heap_alloc_new W0 (.cells #[.int .i64 0, .string ⟨#[]⟩, .string ⟨#[]⟩, .slice none 0 0] 47)
  have hb1 : Below w.heap.size w (W0.alloc (.cells #[.int .i64 0, .string ⟨#[]⟩, .string ⟨#[]⟩, .slice none 0 0] 47)) := below_trans hb0 ((Below.refl _ _).alloc (Nat.le_refl _) _)
  rw [hs0] at hN1
  go_enter Tryz.func87, Tryz.ntmps87
  go_wp2
  (try simp only [Exit.inBlock, Exit.then])
  refine bodyPost_ret (res7 rfl _ _ (w.heap.size + 1) 47 #[.int .i64 0, .string ⟨#[]⟩, .string ⟨#[]⟩, .slice none 0 0] (0, 0) _ rfl hN1 Tryz.underlying47 rfl sizeIt) rfl ?_
  exact ⟨⟨0, [], [], []⟩, none, 0, 0, by rw [HO.out]; rfl, hb1⟩
theorem right14 (F : Nat → Prop) (u : ObV) (o : Ob) (w : World) (h : ObR F w u o) (hF : ∀ g, F g → g < w.heap.size) (hok : ObOk o) : Calls Tryz.prog 18 #[obv u o.mod] w (TwoB (rightO o) w) := by
  refine rightOs F u o w h hF hok.mod (fun _ hmn j k hj hk hpre v hv => ?_)
  have hO := h.below hv hF
  have hFv : ∀ g, F g → g < v.heap.size := fun g hg => Nat.lt_of_lt_of_le (hF g hg) hv.size
  simp only [manyO, Bool.or_eq_false_iff, decide_eq_false_iff_not] at hmn
  have h48 : o.funs.length ≤ 48 := by omega
  rcases j with _ | _ | _ | _ | _ | _ | _ | j
  · exact typeAt F u o v hO hFv hok k hk
  · exact textAt F u o v hO k hk
  · exact globalAt F u o v hO hFv hok k hk
  · exact funAt F u o v hO hFv hok k hk
  · refine exportAt F u o v hO hFv hok k hk (fun V hV => ?_)
    have hOV := hO.below hV hFv
    have hFV : ∀ g, F g → g < V.heap.size := fun g hg => Nat.lt_of_lt_of_le (hFv g hg) hV.size
    by_cases hq : o.exports[k] = []
    · rw [hq]
      exact onamed_nil F u o V hOV
    · exact (onamed F u o o.exports[k] V hOV hFV hok hq (hok.exports _ (List.getElem_mem hk)) (funs_small (hpre 3 (by omega))) (by omega)).mono fun e w' hh => hh.n
  · exact symbolAt F u o v hO hFv hok h48 k hk
  · exact relocAt F u o v hO hFv hok k hk
  · omega
end Go.Proofs.YtdeckknfolaaeaaGreatDoor

namespace Go.Proofs.YtdeckknfolaaeaaGreatDoor
open Go.RowKit Go.Maps

def obS (m : List UInt8) (fs : List Fn) (es : List (List UInt8)) : Ob := ⟨m, [], [], [], fs, es, [], []⟩
def ovS (fv ev : Value) : ObV := ⟨.slice none 0 0, .slice none 0 0, .slice none 0 0, fv, ev, .slice none 0 0, .slice none 0 0⟩
/-- Functions whose sign can be told. -/
def FsOk (fs : List Fn) : Prop := fs.length ≤ 1000 ∧ ∀ f ∈ fs, FnOk f ∧ f.params.length ≤ 1000000 ∧ (joinR (f.params.drop (cutO f))).length ≤ 1000000000 ∧ f.res.length ≤ 1000000000
def itS (f : Fn) : It := ⟨3, f.name, signO f, []⟩
set_option maxRecDepth 1000000 in
theorem cloneI0 (w : World) : Calls Tryz.prog 92 #[.slice none 0 0] w fun e w' => e = .returned (.slice none 0 0) ∧ w' = w := by
  have q27 : ∀ (w : World) (a : Option Addr) (n c n' c' : Nat), (binOp .eql 24 (.slice a n c) (.slice none n' c')).run Tryz.prog w = .ok (.bool a.isNone) w := fun w a n c n' c' => Lib.run_eql_slice_nil w _ _ a n c n' c' Tryz.underlying24
  go_enter Tryz.func92, Tryz.ntmps92
  go_wp2
  go_ret
  exact ⟨rfl, rfl⟩
theorem sizeIf15 : (Tryz.prog.info? 51).map (·.size) = some 2 := by kernel_rfl
/-- A function of a row: its cells, and what they hold. -/
theorem fn_at {F : Nat → Prop} {w : World} {fv : Value} {fs : List Fn} (h : FnR F w fv fs) (k : Nat) (hk : k < fs.length) : ∃ g o cap pv kv, fv = .slice (some ⟨g, o, none⟩) fs.length cap ∧ F g ∧ TxC F w pv fs[k].params ∧ ByR F w kv fs[k].code ∧ w.cell? ⟨g, o + k * 6, none⟩ = some (.string (str fs[k].name)) ∧ w.cell? ⟨g, o + k * 6 + 1, none⟩ = some pv ∧ w.cell? ⟨g, o + k * 6 + 2, none⟩ = some (.int .i64 fs[k].caps) ∧ w.cell? ⟨g, o + k * 6 + 3, none⟩ = some (.string (str fs[k].res)) ∧ w.cell? ⟨g, o + k * 6 + 4, none⟩ = some (.int .i64 fs[k].locals) ∧ w.cell? ⟨g, o + k * 6 + 5, none⟩ = some kv := by
  obtain ⟨g, o, cap, cs, e, _, hg, ⟨pv, kv, rfl, hp, hkv⟩, hc⟩ := h.at k hk
  exact ⟨g, o, cap, pv, kv, e, hg, hp, hkv, hc 0 _ rfl, hc 1 _ rfl, hc 2 _ rfl, hc 3 _ rfl, hc 4 _ rfl, hc 5 _ rfl⟩
theorem step_itemV {w : World} {ops : Array Oper} {o : Oper} {a : Act} {K : Act → World → Prop} {Q : Exit → Act → World → Prop} {E : Prop} (hgd : o.guard = none) (s x : Operand)
    (ho : o.op = .call { callee := .builtin .append, args := #[s, x], argTypes := #[24, 24] })
    (B : Nat) (v : Value) (xs : List It) (hs : a.eval s = v) (hI : ItI B w v xs) (c : It) (fv : Value) (ad : Addr) (cp : Nat) (hx : a.eval x = .slice (some ad) 1 cp)
    (hnews : ∀ j u, ([.int .i64 c.kind, .string (str c.name), .string (str c.ty), fv] : List Value)[j]? = some u → w.cell? (ad.add j) = some u) (hT : CsR (fun g => B ≤ g ∧ g < w.heap.size ∧ some g ≠ v.ownBlock) w fv c.cases) (hlen : xs.length + 1 ≤ 1000000) (hB : B ≤ w.heap.size)
    (h : ∀ g cap w', ItI B w' (.slice (some ⟨g, 0, none⟩) (xs.length + 1) cap) (xs ++ [c]) → w.grownBy w' v.ownBlock → K (a.put o.dst (.slice (some ⟨g, 0, none⟩) (xs.length + 1) cap)) w') :
    if Region.wanted o (yielded ops a.tmps) = true then Oper.wp Tryz.prog o a w K Q else E := by
  obtain ⟨i, z, hi, hz, h1, h2, h3⟩ := info_z infoIt5
  obtain ⟨ps, rfl, p2, p3⟩ := hI
  refine step_append_lies w hgd s x 24 ho B 47 i z 4 64 Tryz.underlying24 hi hz h1 h2 h3 (by decide) v _ (rowJ ps) hs p2 ad 1 cp [.int .i64 c.kind, .string (str c.name), .string (str c.ty), fv] hx rfl hnews (fun u hu => ?_) (by decide) (by unfold maxLen; omega) (by omega) hB w.heap.size rfl ?_
  · simp only [List.mem_cons, List.not_mem_nil, or_false] at hu
    rcases hu with rfl | rfl | rfl | rfl
    · rfl
    · rfl
    · rfl
    · exact hT.one
  · intro g cap w' q1 q2 q3 q4
    refine h g cap w' ⟨ps ++ [(c, fv)], by simp, by rw [rowJ_snoc]; simpa using q1, fun p hp => ?_⟩ q2
    have key : ∀ fv' (xs : List Cs), CsR (fun g => B ≤ g ∧ g < w.heap.size ∧ some g ≠ v.ownBlock) w fv' xs → CsR (fun g' => B ≤ g' ∧ g' < w'.heap.size ∧ some g' ≠ (Value.slice (some ⟨g, 0, none⟩) ((ps.map (·.1)).length + 1) cap).ownBlock) w' fv' xs := fun fv' xs ht => ht.frame fun g' hg' => by
      refine ⟨⟨hg'.1, Nat.lt_of_lt_of_le hg'.2.1 q2.size, fun e => ?_⟩, q2.block g' hg'.2.1 hg'.2.2⟩
      simp only [Value.ownBlock, Option.some.injEq] at e
      subst e
      rcases q3 with q3 | q3
      · exact hg'.2.2 q3.symm
      · have := hg'.2.1
        omega
    rcases List.mem_append.1 hp with hp | hp
    · exact key _ _ (p3 p hp)
    · rw [List.mem_singleton.1 hp]
      exact key _ _ hT
set_option maxRecDepth 1000000 in
set_option maxHeartbeats 4000000 in
theorem vown (F : Nat → Prop) (m : List UInt8) (fs : List Fn) (fv : Value) (ea : Option Addr) (en ec : Nat) (w : World) (hf : FnR F w fv fs) (hF : ∀ g, F g → g < w.heap.size) (hok : FsOk fs) :
    Calls Tryz.prog 42 #[obv (ovS fv (.slice ea en ec)) m] w fun e w' => ∃ v, e = .returned (.agg #[.string (str m), v]) ∧ ItI w.heap.size w' v (fs.map itS) ∧ Below w.heap.size w w' := by
  obtain ⟨fa, fc, rfl⟩ := hf.shape
  unfold obv ovS
  simp only
  have hb2 : Below w.heap.size w ((w.alloc (.cells #[.string (str m), .slice none 0 0, .slice none 0 0, .slice none 0 0, .slice fa fs.length fc, .slice ea en ec, .slice none 0 0, .slice none 0 0] 31)).alloc (.cells #[.string ⟨#[]⟩, .slice none 0 0] 51)) := ((Below.refl _ w).alloc (Nat.le_refl _) _).alloc (by simp) _
  have hx0 : ((w.alloc (.cells #[.string (str m), .slice none 0 0, .slice none 0 0, .slice none 0 0, .slice fa fs.length fc, .slice ea en ec, .slice none 0 0, .slice none 0 0] 31)).alloc (.cells #[.string ⟨#[]⟩, .slice none 0 0] 51)).heap[w.heap.size]? = some (.cells #[.string (str m), .slice none 0 0, .slice none 0 0, .slice none 0 0, .slice fa fs.length fc, .slice ea en ec, .slice none 0 0, .slice none 0 0] 31 (0, 0)) := (Below.heap_alloc _ _ _ (by simp)).trans (World.alloc_heap_new w _)
  have hx1 : ((w.alloc (.cells #[.string (str m), .slice none 0 0, .slice none 0 0, .slice none 0 0, .slice fa fs.length fc, .slice ea en ec, .slice none 0 0, .slice none 0 0] 31)).alloc (.cells #[.string ⟨#[]⟩, .slice none 0 0] 51)).heap[w.heap.size + 1]? = some (.cells #[.string ⟨#[]⟩, .slice none 0 0] 51 (0, 0)) := by
    have := World.alloc_heap_new (w.alloc (.cells #[.string (str m), .slice none 0 0, .slice none 0 0, .slice none 0 0, .slice fa fs.length fc, .slice ea en ec, .slice none 0 0, .slice none 0 0] 31)) (.cells #[.string ⟨#[]⟩, .slice none 0 0] 51)
    rw [World.size_alloc] at this
    exact this
  have hz : ((w.alloc (.cells #[.string (str m), .slice none 0 0, .slice none 0 0, .slice none 0 0, .slice fa fs.length fc, .slice ea en ec, .slice none 0 0, .slice none 0 0] 31)).alloc (.cells #[.string ⟨#[]⟩, .slice none 0 0] 51)).heap.size = w.heap.size + 2 := by simp
  generalize hW : (w.alloc (.cells #[.string (str m), .slice none 0 0, .slice none 0 0, .slice none 0 0, .slice fa fs.length fc, .slice ea en ec, .slice none 0 0, .slice none 0 0] 31)).alloc (.cells #[.string ⟨#[]⟩, .slice none 0 0] 51) = W at *
  have HC : Hid (∀ x, Below (w.heap.size + 2) W x → x.cell? ⟨w.heap.size, 0, none⟩ = some (.string (str m)) ∧ x.cell? ⟨w.heap.size, 1, none⟩ = some (.slice none 0 0) ∧ x.cell? ⟨w.heap.size, 3, none⟩ = some (.slice none 0 0) ∧ x.cell? ⟨w.heap.size, 4, none⟩ = some (.slice fa fs.length fc)) := fun x hx => by
    have hh := (hx.block w.heap.size (by omega)).trans hx0
    exact ⟨by rw [cell_of_row _ _ 0 _ _ _ hh]; rfl, by rw [cell_of_row _ _ 1 _ _ _ hh]; rfl, by rw [cell_of_row _ _ 3 _ _ _ hh]; rfl, by rw [cell_of_row _ _ 4 _ _ _ hh]; rfl⟩
  have HX1 := hidden hx1
  have HB2 := hidden hb2
  have HOK := hidden hok
  have HLN : Hid (fs.length ≤ 1000) := hok.1
  obtain ⟨c0, c1, c3, c4⟩ := HC.out W (Below.refl _ _)
  have HF := hidden hf
  clear hb2 hx0 hx1 hok hf
  go_enter Tryz.func42, Tryz.ntmps42
  go_wp2_with fail
  refine (cloneI0 W).mono ?_
  rintro e w2 ⟨rfl, hw2⟩
  obtain rfl := hw2.symm
  go_wp2_with fail
  go_loopg [3, 14] 0 (fun gk v i wr => gk = 0 ∧ v = .slice none 0 0 ∧ i = .int .i64 0 ∧ wr = W)
  case atStart => exact ⟨rfl, rfl, rfl, rfl⟩
  case round =>
    obtain ⟨-, rfl, rfl, hw0⟩ := hrel
    obtain rfl := hw0.symm
    go_wp2_with fail
    go_loopg [3, 30] fs.length (fun gk v i wr => ∃ (k : Nat), gk + k = fs.length ∧ i = .int .i64 (k : Int) ∧ ItI (w.heap.size + 2) wr v ((fs.take k).map itS) ∧ Below (w.heap.size + 2) W wr)
    case atStart => exact ⟨0, by omega, rfl, ItI.nil _ _, Below.refl _ _⟩
    case round =>
      obtain ⟨k, hgk, rfl, hI, hB⟩ := hrel
      rename World => wr
      have HG := hidden hgk
      have hzr := hB.size
      clear c0 c1 c3 c4 hgk
      obtain ⟨c0, c1, c3, c4⟩ := HC.out wr hB
      have hkl : k ≤ fs.length := by have := HG.out; omega
      have hlt : ((fs.take k).map itS).length = k := by rw [List.length_map, List.length_take]; omega
      obtain ⟨va, vc, hv⟩ := hI.shape
      rw [hlt] at hv
      subst hv
      have HLT := hidden hlt
      clear hlt
      have hBw : Below w.heap.size w wr := HB2.out.trans (hB.mono (by omega))
      by_cases hk : k < fs.length
      · have hki : (k : Int) < ((fs.length : Nat) : Int) := by omega
        obtain ⟨gf, of, cap, pv, kv, e1, hgF, hpv, hkv, q0, q1, q2, q3, q4, q5⟩ := fn_at (HF.out.below cFn_stay hBw hF) k hk
        simp only [Value.slice.injEq, true_and] at e1
        obtain ⟨rfl, rfl⟩ := e1
        have hko := HOK.out.2 _ (List.getElem_mem hk)
        have htk : (fs.take (k + 1)).map itS = (fs.take k).map itS ++ [itS fs[k]] := by rw [List.take_succ_eq_append_getElem hk, List.map_append]; rfl
        have HTK := hidden htk
        generalize fs[k] = f at *
        obtain ⟨pa, pc, rfl⟩ := hpv.1.shape
        obtain ⟨ka, kc, rfl⟩ := hkv.shape
        have hb4 : Below wr.heap.size wr (wr.alloc (.cells #[.string (str f.name), .slice pa f.params.length pc, .int .i64 f.caps, .string (str f.res), .int .i64 f.locals, .slice ka f.code.length kc] 63)) := (Below.refl _ wr).alloc (Nat.le_refl _) _
        have hx4 := World.alloc_heap_new wr (.cells #[.string (str f.name), .slice pa f.params.length pc, .int .i64 f.caps, .string (str f.res), .int .i64 f.locals, .slice ka f.code.length kc] 63)
        have hz4 : (wr.alloc (.cells #[.string (str f.name), .slice pa f.params.length pc, .int .i64 f.caps, .string (str f.res), .int .i64 f.locals, .slice ka f.code.length kc] 63)).heap.size = wr.heap.size + 1 := by simp
        go_wp2_with fail
        generalize wr.alloc (.cells #[.string (str f.name), .slice pa f.params.length pc, .int .i64 f.caps, .string (str f.res), .int .i64 f.locals, .slice ka f.code.length kc] 63) = w4 at *
        have HC4 : Hid (∀ x : World, x.heap[wr.heap.size]? = w4.heap[wr.heap.size]? → x.cell? ⟨wr.heap.size, 0, none⟩ = some (.string (str f.name)) ∧ x.cell? ⟨wr.heap.size, 1, none⟩ = some (.slice pa f.params.length pc) ∧ x.cell? ⟨wr.heap.size, 2, none⟩ = some (.int .i64 f.caps) ∧ x.cell? ⟨wr.heap.size, 3, none⟩ = some (.string (str f.res)) ∧ x.cell? ⟨wr.heap.size, 4, none⟩ = some (.int .i64 f.locals) ∧ x.cell? ⟨wr.heap.size, 5, none⟩ = some (.slice ka f.code.length kc)) := fun x hx => by
          have hh := hx.trans hx4
          exact ⟨by rw [cell_of_row _ _ 0 _ _ _ hh]; rfl, by rw [cell_of_row _ _ 1 _ _ _ hh]; rfl, by rw [cell_of_row _ _ 2 _ _ _ hh]; rfl, by rw [cell_of_row _ _ 3 _ _ _ hh]; rfl, by rw [cell_of_row _ _ 4 _ _ _ hh]; rfl, by rw [cell_of_row _ _ 5 _ _ _ hh]; rfl⟩
        have G0 : w4.drew.heap[wr.heap.size]? = w4.heap[wr.heap.size]? := rfl
        have hb4d : Below wr.heap.size wr w4.drew := hb4.drew
        have hwr4 : wr.heap.size ≤ w4.drew.heap.size := hb4d.size
        have hsg := osign F f (.slice pa f.params.length pc) (.slice ka f.code.length kc) w4.drew ⟨hpv.1.below hb4d (fun g hg => by have := hF g hg; have := hBw.size; omega), hpv.2⟩ (fun g hg => by have := hF g hg; have := hBw.size; omega) hko.1 hko.2.1 hko.2.2.1 hko.2.2.2
        unfold TextB fnv at hsg
        refine wp_region_held (S := fun x => x.heap[wr.heap.size]? = w4.heap[wr.heap.size]?) (by kernel_rfl) ?_
        show wpAnyH Tryz.prog .any _ _ _ _ _ _ w4.drew
        refine wpAnyH_take (i := 0) (v := .slice va k vc) rfl (by kernel_rfl) (by kernel_rfl) (by kernel_rfl) (fun _ _ _ h => h) (.inl ⟨by rfl, fun x hx => by go_simp⟩) G0 ?_
        show wpAnyH Tryz.prog .any _ _ _ _ _ (Act.put _ (some 34) (.slice va k vc)) _
        simp only [Act.put, List.setIfInBounds_toArray, List.set_cons_zero, List.set_cons_succ]
        refine wpAnyH_take (i := 1) (v := .pointer (some ⟨wr.heap.size, 0, none⟩)) rfl (by kernel_rfl) (by kernel_rfl) (by kernel_rfl) (fun _ _ _ h => h) (.inl ⟨by rfl, fun x hx => by go_simp⟩) G0 ?_
        show wpAnyH Tryz.prog .any _ _ _ _ _ (Act.put _ (some 35) (.pointer (some ⟨wr.heap.size, 0, none⟩))) _
        simp only [Act.put, List.setIfInBounds_toArray, List.set_cons_zero, List.set_cons_succ]
        refine wpAnyH_take (i := 2) (v := .string (str f.name)) rfl (by kernel_rfl) (by kernel_rfl) (by kernel_rfl) (fun _ _ _ h => h) (.inl ⟨by rfl, fun x hx => by obtain ⟨z0, z1, z2, z3, z4, z5⟩ := HC4.out x hx; go_simp⟩) G0 ?_
        show wpAnyH Tryz.prog .any _ _ _ _ _ (Act.put _ (some 36) (.string (str f.name))) _
        simp only [Act.put, List.setIfInBounds_toArray, List.set_cons_zero, List.set_cons_succ]
        refine wpAnyH_take (i := 3) (v := .agg #[.string (str f.name), .slice pa f.params.length pc, .int .i64 f.caps, .string (str f.res), .int .i64 f.locals, .slice ka f.code.length kc]) rfl (by kernel_rfl) (by kernel_rfl) (by kernel_rfl) (fun _ _ _ h => h) (.inl ⟨by rfl, fun x hx => by obtain ⟨z0, z1, z2, z3, z4, z5⟩ := HC4.out x hx; go_simp⟩) G0 ?_
        show wpAnyH Tryz.prog .any _ _ _ _ _ (Act.put _ (some 37) (.agg #[.string (str f.name), .slice pa f.params.length pc, .int .i64 f.caps, .string (str f.res), .int .i64 f.locals, .slice ka f.code.length kc])) _
        simp only [Act.put, List.setIfInBounds_toArray, List.set_cons_zero, List.set_cons_succ]
        refine wpAnyH_ready (rs := [4]) (by kernel_rfl) (by simp) ?_
        refine AllReadyH.cons rfl (fun K hK => ?_) AllReadyH.nil
        go_simp
        refine hsg.mono ?_
        rintro e w5 ⟨rfl, hb5⟩
        have B5 : Below w4.heap.size w4 w5 := (below_drew (Below.refl _ w4)).trans (hb5.mono (Nat.le_refl _))
        have G5 : w5.heap[wr.heap.size]? = w4.heap[wr.heap.size]? := B5.block _ (by omega)
        refine hK.out _ _ G5 (fun _ => ?_)
        clear hK K
        refine wpAnyH_take (i := 5) (v := .agg #[.int .i64 3, .string (str f.name), .string (str (signO f)), .slice none 0 0]) rfl (by kernel_rfl) (by kernel_rfl) (by kernel_rfl) (fun _ _ _ h => h) (.inl ⟨by rfl, fun x hx => by go_simp⟩) G5 ?_
        show wpAnyH Tryz.prog .any _ _ _ _ _ (Act.put _ (some 39) (.agg #[.int .i64 3, .string (str f.name), .string (str (signO f)), .slice none 0 0])) _
        simp only [Act.put, List.setIfInBounds_toArray, List.set_cons_zero, List.set_cons_succ]
        refine wpAnyH_ready (rs := [6]) (by kernel_rfl) (by simp) ?_
        refine AllReadyH.cons rfl (fun K hK => ?_) AllReadyH.nil
        go_simp
        have hz5 := B5.size
        have B6 : Below w4.heap.size w4 (w5.alloc (.cells #[.int .i64 3, .string (str f.name), .string (str (signO f)), .slice none 0 0] 47)) := B5.alloc B5.size _
        have G6 := B6.block wr.heap.size (by omega)
        refine hK.out _ _ G6 (fun _ => ?_)
        clear hK K
        refine wpAnyH_ready (rs := [7]) (by kernel_rfl) (by simp) ?_
        refine AllReadyH.cons rfl (fun K hK => ?_) AllReadyH.nil
        have hb46 : Below wr.heap.size wr (w5.alloc (.cells #[.int .i64 3, .string (str f.name), .string (str (signO f)), .slice none 0 0] 47)) := hb4.trans (B6.mono (by omega))
        have hI6 : ItI (w.heap.size + 2) (w5.alloc (.cells #[.int .i64 3, .string (str f.name), .string (str (signO f)), .slice none 0 0] 47)) (.slice va k vc) ((fs.take k).map itS) := hI.wkept (wkept_below hb46) (fun _ _ h => h)
        refine step_itemV rfl (.tmp 34) (.tmp 40) rfl (w.heap.size + 2) (.slice va k vc) ((fs.take k).map itS) rfl hI6 (itS f) (.slice none 0 0) ⟨w5.heap.size, 0, none⟩ 1 rfl (cells_new w5 [.int .i64 3, .string (str f.name), .string (str (signO f)), .slice none 0 0] 47) (.inl ⟨none, 0, rfl, rfl⟩) (by rw [HLT.out]; have := HLN.out; omega) (by have := B6.size; omega) ?_
        intro g2 cap2 w7 hI7 hg7
        rw [HLT.out, ← HTK.out] at hI7
        rw [HLT.out]
        have hK67 : ∀ b, b < wr.heap.size → (Value.slice va k vc).ownBlock ≠ some b → w7.heap[b]? = wr.heap[b]? := fun b hb hn => (hg7.block b (by have := hb46.size; omega) (fun e => hn e.symm)).trans (hb46.block b hb)
        have G7 : w7.heap[wr.heap.size]? = w4.heap[wr.heap.size]? := (hg7.block _ (by have := B6.size; omega) (fun e => by have := (hI.block e.symm).2; omega)).trans G6
        refine hK.out _ _ G7 (fun _ => ?_)
        clear hK K
        have HB7 : Hid (Below (w.heap.size + 2) W w7) := ⟨hg7.os.trans (hb46.os.trans hB.os), hg7.tape.trans (hb46.tape.trans hB.tape), hg7.output.trans (hb46.output.trans hB.output), Nat.le_trans hB.size (Nat.le_trans hb46.size hg7.size), fun b hb => (hK67 b (by omega) (fun e => by have := (hI.block e).1; omega)).trans (hB.block b hb)⟩
        have HI7 := hidden hI7
        clear hI7 hg7 hK67 hI hB hsg q0 q1 q2 q3 q4 q5 hb4 hx4 hb46 hI6 hpv hkv
        refine wpAnyH_take (i := 8) (v := .slice (some ⟨g2, 0, none⟩) (k + 1) cap2) rfl (by kernel_rfl) (by kernel_rfl) (by kernel_rfl) (fun _ _ _ h => h) (.inl ⟨by rfl, fun x hx => by go_simp⟩) (by assumption) ?_
        show wpAnyH Tryz.prog .any _ _ _ _ _ (Act.put _ (some 3) (.slice (some ⟨g2, 0, none⟩) (k + 1) cap2)) _
        simp only [Act.put, List.setIfInBounds_toArray]
        refine wpAnyH_done (by kernel_rfl) ?_ _
        have hln : fs.length ≤ 1000 := HLN.out
        go_wp2
        go_roundg (fs.length - (k + 1))
        case measure => have := HG.out; omega
        case rel => exact ⟨k + 1, by have := HG.out; omega, by go_num, HI7.out, HB7.out⟩
      · have hke : k = fs.length := by omega
        have hki : ¬ (k : Int) < ((fs.length : Nat) : Int) := by omega
        rw [hke, List.take_of_length_le (Nat.le_refl _)] at hI
        have HI := hidden hI
        have HX := hidden ((hB.block (w.heap.size + 1) (by omega)).trans HX1.out)
        have HBw := hidden hBw
        clear hI hBw hB
        have hx := HX.out
        have hs2 := setRow_heap wr (w.heap.size + 1) _ #[.string (str m), .slice va fs.length vc] 51 (0, 0) hx
        have HB3 : Hid (ItI w.heap.size (wr.setRow (w.heap.size + 1) #[.string (str m), .slice va fs.length vc]) (.slice va fs.length vc) (fs.map itS) ∧ Below w.heap.size w (wr.setRow (w.heap.size + 1) #[.string (str m), .slice va fs.length vc])) := by
          refine ⟨?_, below_setRow HBw.out (by omega) _⟩
          obtain ⟨ps, h1, h2, h3⟩ := HI.out.wkept (Wire.kept_setRow wr (w.heap.size + 1) #[.string (str m), .slice va fs.length vc]) (fun b hb e => by omega)
          exact ⟨ps, h1, owns_mono h2 (by omega), fun p hp => (h3 p hp).frame fun g hg => ⟨⟨by have := hg.1; omega, hg.2⟩, rfl⟩⟩
        go_wp2_with (refine wpList_store_row rfl 51 (.tmp 2) (.tmp 46) rfl (w.heap.size + 1) #[.string (str m), .slice va fs.length vc] rfl rfl 51 #[.string ⟨#[]⟩, .slice none 0 0] hx sizeIf15 rfl (by kernel_rfl) ?_)
        (try simp only [Exit.inBlock, Exit.then])
        refine bodyPost_ret (results_cell_row rfl _ _ (w.heap.size + 1) 51 #[.string (str m), .slice va fs.length vc] (0, 0) _ rfl hs2 Tryz.underlying51 rfl sizeIf15) rfl ?_
        exact ⟨_, rfl, HB3.out.1, HB3.out.2⟩
end Go.Proofs.YtdeckknfolaaeaaGreatDoor
