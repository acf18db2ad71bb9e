/-
  verify's checkTypes, of an object that has functions and exports alone, whose signs name no type.
  And: verify's Object, of an object that has functions and exports alone, whose code names nothing. The statements' small objects: what must hold of a code, as a test that can be reckoned.
-/
import Derived.Test.YtdeckknfolaaeaaGreatDoorG45
import Derived.Test.YtdeckknfolaaeaaGreatDoorG09
namespace Go.Proofs.YtdeckknfolaaeaaGreatDoor
open Go.RowKit Go.Maps

set_option maxRecDepth 1000000 in
set_option maxHeartbeats 2000000 in
theorem vknown (m : List UInt8) (fa ea : Option Addr) (fn fc en ec : Nat) (w : World) :
    Calls Tryz.prog 44 #[.agg #[.string (str m), .slice none 0 0, .slice none 0 0, .slice none 0 0, .slice fa fn fc, .slice ea en ec, .slice none 0 0, .slice none 0 0]] w fun e w' => e = .returned (.map (some (w.heap.size + 1))) ∧ Below w.heap.size w w' := by
  have hmm := @run_makeMap Tryz.prog
  have hb1 : Below w.heap.size w ((w.alloc (.cells #[.string (str m), .slice none 0 0, .slice none 0 0, .slice none 0 0, .slice fa fn fc, .slice ea en ec, .slice none 0 0, .slice none 0 0] 31)).alloc (.map #[] 0)) := ((Below.refl _ w).alloc (Nat.le_refl _) _).alloc (by simp) _
  have HB := hidden hb1
  clear hb1
  go_enter Tryz.func44, Tryz.ntmps44
  go_wp2_with fail
  go_loopg [12] 0 (fun g i wr => g = 0 ∧ i = .int .i64 0 ∧ wr = (w.alloc (.cells #[.string (str m), .slice none 0 0, .slice none 0 0, .slice none 0 0, .slice fa fn fc, .slice ea en ec, .slice none 0 0, .slice none 0 0] 31)).alloc (.map #[] 0))
  case atStart => exact ⟨rfl, rfl, rfl⟩
  case round =>
    obtain ⟨-, rfl, hw0⟩ := hrel
    subst hw0
    go_wp2_with fail
    go_loopg [25] 0 (fun g i wr => g = 0 ∧ i = .int .i64 0 ∧ wr = (w.alloc (.cells #[.string (str m), .slice none 0 0, .slice none 0 0, .slice none 0 0, .slice fa fn fc, .slice ea en ec, .slice none 0 0, .slice none 0 0] 31)).alloc (.map #[] 0))
    case atStart => exact ⟨rfl, rfl, rfl⟩
    case round =>
      obtain ⟨-, rfl, hw0⟩ := hrel
      subst hw0
      go_wp2
      go_ret
      exact ⟨rfl, HB.out⟩
set_option maxRecDepth 1000000 in
theorem index0 (a : Option Addr) (c : Nat) (f : Value) (w : World) : Calls Tryz.prog 168 #[.slice a 0 c, f] w fun e w' => e = .returned (.int .i64 (-1)) ∧ w' = w := by
  go_enter Tryz.func168, Tryz.ntmps168
  go_wp2_with fail
  go_loopg [8] 0 (fun g i wr => g = 0 ∧ i = .int .i64 0 ∧ wr = w)
  case atStart => exact ⟨rfl, rfl, rfl⟩
  case round =>
    obtain ⟨-, rfl, hw0⟩ := hrel
    subst hw0
    go_wp2
    go_ret
    exact ⟨rfl, rfl⟩
set_option maxRecDepth 1000000 in
theorem contains0 (a : Option Addr) (c : Nat) (f : Value) (w : World) : Calls Tryz.prog 98 #[.slice a 0 c, f] w fun e w' => e = .returned (.bool false) ∧ w' = w := by
  go_enter Tryz.func98, Tryz.ntmps98
  go_wp2_with fail
  refine (index0 a c f w).mono ?_
  rintro e w1 ⟨rfl, hw1⟩
  obtain rfl := hw1.symm
  go_wp2
  go_ret
  exact ⟨rfl, rfl⟩
set_option maxRecDepth 1000000 in
set_option maxHeartbeats 2000000 in
theorem vall0 (mb : Option Nat) (t : List UInt8) (w : World) (h : namesR t = []) : Calls Tryz.prog 45 #[.map mb, .string (str t)] w fun e w' => e = .returned (.bool true) ∧ Below w.heap.size w w' := by
  have hn := fun u => namesOf (str t) u
  unfold NamesE at hn
  rw [str_data, h] at hn
  have hb1 : Below w.heap.size w (w.alloc (.cells #[.map mb] 110)) := (Below.refl _ w).alloc (Nat.le_refl _) _
  go_enter Tryz.func45, Tryz.ntmps45
  go_wp2_with fail
  refine (hn _).mono ?_
  rintro e w2 ⟨v, rfl, hv, hb2⟩
  obtain ⟨a, c, rfl⟩ := hv.shape
  have HB : Hid (Below w.heap.size w w2) := hb1.trans (hb2.mono hb1.size)
  clear hb2 hb1 hn hv
  simp only [List.length_nil]
  go_wp2_with fail
  refine (contains0 a c _ _).mono ?_
  rintro e w3 ⟨rfl, hw3⟩
  obtain rfl := hw3.symm
  go_wp2
  go_ret
  exact ⟨rfl, HB.out⟩
theorem sizeFn15 : (Tryz.prog.info? 63).map (·.size) = some 6 := by kernel_rfl
set_option maxRecDepth 1000000 in
set_option maxHeartbeats 4000000 in
theorem vtypes (F : Nat → Prop) (m : List UInt8) (fs : List Fn) (fv : Value) (ea : Option Addr) (en ec : Nat) (w : World) (hf : FnR F w fv fs) (hF : ∀ g, F g → g < w.heap.size) (hok : FsOk fs) (hnm : ∀ f ∈ fs, namesR (signO f) = []) :
    Calls Tryz.prog 20 #[obv (ovS fv (.slice ea en ec)) m] w fun e w' => e = .returned (.tuple #[.int .i64 0, .int .i64 0]) ∧ Below w.heap.size w w' := by
  obtain ⟨fa, fc, rfl⟩ := hf.shape
  unfold obv ovS
  simp only
  have hb1 : Below w.heap.size w (w.alloc (.cells #[.string (str m), .slice none 0 0, .slice none 0 0, .slice none 0 0, .slice fa fs.length fc, .slice ea en ec, .slice none 0 0, .slice none 0 0] 31)) := (Below.refl _ w).alloc (Nat.le_refl _) _
  have hx1 := World.alloc_heap_new w (.cells #[.string (str m), .slice none 0 0, .slice none 0 0, .slice none 0 0, .slice fa fs.length fc, .slice ea en ec, .slice none 0 0, .slice none 0 0] 31)
  have hz1 : (w.alloc (.cells #[.string (str m), .slice none 0 0, .slice none 0 0, .slice none 0 0, .slice fa fs.length fc, .slice ea en ec, .slice none 0 0, .slice none 0 0] 31)).heap.size = w.heap.size + 1 := by simp
  generalize hW : w.alloc (.cells #[.string (str m), .slice none 0 0, .slice none 0 0, .slice none 0 0, .slice fa fs.length fc, .slice ea en ec, .slice none 0 0, .slice none 0 0] 31) = W at *
  have HX : Hid (∀ x, Below W.heap.size W x → x.heap[w.heap.size]? = some (.cells #[.string (str m), .slice none 0 0, .slice none 0 0, .slice none 0 0, .slice fa fs.length fc, .slice ea en ec, .slice none 0 0, .slice none 0 0] 31 (0, 0))) := fun x hx => (hx.block w.heap.size (by omega)).trans hx1
  have HC : Hid (∀ x, Below W.heap.size W x → x.cell? ⟨w.heap.size, 2, none⟩ = some (.slice none 0 0) ∧ x.cell? ⟨w.heap.size, 3, none⟩ = some (.slice none 0 0) ∧ x.cell? ⟨w.heap.size, 4, none⟩ = some (.slice fa fs.length fc)) := fun x hx => by
    have hh := HX.out x hx
    exact ⟨by rw [cell_of_row _ _ 2 _ _ _ hh]; rfl, by rw [cell_of_row _ _ 3 _ _ _ hh]; rfl, by rw [cell_of_row _ _ 4 _ _ _ hh]; rfl⟩
  have HB1 := hidden hb1
  have HOK := hidden hok
  have HNM := hidden hnm
  have HLN : Hid (fs.length ≤ 1000) := hok.1
  have HF := hidden hf
  have hkn := vknown m fa ea fs.length fc en ec W
  have hx := HX.out W (Below.refl _ _)
  clear hb1 hx1 hok hf hnm
  go_enter Tryz.func20, Tryz.ntmps20
  go_wp2_with (refine wpList_load_row rfl 31 (.tmp 1) rfl w.heap.size rfl 31 #[.string (str m), .slice none 0 0, .slice none 0 0, .slice none 0 0, .slice fa fs.length fc, .slice ea en ec, .slice none 0 0, .slice none 0 0] (0, 0) _ hx Tryz.underlying31 rfl sizeOb15 ?_)
  refine hkn.mono ?_
  rintro e w2 ⟨rfl, hb2⟩
  have HB2 := hidden hb2
  obtain ⟨c2, c3, c4⟩ := HC.out w2 hb2
  clear hkn hx hb2
  go_wp2_with fail
  go_loopg [17] 0 (fun gk i wr => gk = 0 ∧ i = .int .i64 0 ∧ wr = w2)
  case atStart => exact ⟨rfl, rfl, rfl⟩
  case round =>
    obtain ⟨-, rfl, hw0⟩ := hrel
    obtain rfl := hw0.symm
    go_wp2_with fail
    go_loopg [31] 0 (fun gk i wr => gk = 0 ∧ i = .int .i64 0 ∧ wr = w2)
    case atStart => exact ⟨rfl, rfl, rfl⟩
    case round =>
      obtain ⟨-, rfl, hw1⟩ := hrel
      obtain rfl := hw1.symm
      go_wp2_with fail
      go_loopg [65] fs.length (fun gk i wr => ∃ (k : Nat), gk + k = fs.length ∧ i = .int .i64 (k : Int) ∧ Below W.heap.size W wr)
      case atStart => exact ⟨0, by omega, rfl, HB2.out⟩
      case round =>
        obtain ⟨k, hgk, rfl, hB⟩ := hrel
        rename World => wr
        have HG := hidden hgk
        have hzr := hB.size
        have hln : fs.length ≤ 1000 := HLN.out
        clear c2 c3 c4 hgk
        obtain ⟨c2, c3, c4⟩ := HC.out wr hB
        have hBw : Below w.heap.size w wr := HB1.out.trans (hB.mono (by omega))
        by_cases hk : k < fs.length
        · have hki : (k : Int) < ((fs.length : Nat) : Int) := by omega
          obtain ⟨gf, of, cap, pv, kv, e1, hgF, hpv, hkv, q0, q1, q2, q3, q4, q5⟩ := fn_at (HF.out.below cFn_stay hBw hF) k hk
          simp only [Value.slice.injEq, true_and] at e1
          obtain ⟨rfl, rfl⟩ := e1
          have hko := HOK.out.2 _ (List.getElem_mem hk)
          have hno := HNM.out _ (List.getElem_mem hk)
          generalize fs[k] = f at *
          obtain ⟨pa, pc, rfl⟩ := hpv.1.shape
          obtain ⟨ka, kc, rfl⟩ := hkv.shape
          have hb4 : Below wr.heap.size wr (wr.alloc (.cells #[.string (str f.name), .slice pa f.params.length pc, .int .i64 f.caps, .string (str f.res), .int .i64 f.locals, .slice ka f.code.length kc] 63)) := (Below.refl _ wr).alloc (Nat.le_refl _) _
          have hx4 := World.alloc_heap_new wr (.cells #[.string (str f.name), .slice pa f.params.length pc, .int .i64 f.caps, .string (str f.res), .int .i64 f.locals, .slice ka f.code.length kc] 63)
          have hsg := osign F f (.slice pa f.params.length pc) (.slice ka f.code.length kc) (wr.alloc (.cells #[.string (str f.name), .slice pa f.params.length pc, .int .i64 f.caps, .string (str f.res), .int .i64 f.locals, .slice ka f.code.length kc] 63)) ⟨hpv.1.below hb4 (fun g hg => by have := hF g hg; have := hBw.size; omega), hpv.2⟩ (fun g hg => by have := hF g hg; have := hBw.size; have := hb4.size; omega) hko.1 hko.2.1 hko.2.2.1 hko.2.2.2
          unfold TextB fnv at hsg
          have hall := fun u => vall0 (some (w.heap.size + 1 + 1)) (signO f) u hno
          have HB4 : Hid (Below W.heap.size W (wr.alloc (.cells #[.string (str f.name), .slice pa f.params.length pc, .int .i64 f.caps, .string (str f.res), .int .i64 f.locals, .slice ka f.code.length kc] 63))) := hB.trans (hb4.mono hzr)
          clear hpv hkv hB hb4
          go_wp2_with (refine wpList_load_row rfl 63 (.tmp 11) rfl wr.heap.size rfl 63 #[.string (str f.name), .slice pa f.params.length pc, .int .i64 f.caps, .string (str f.res), .int .i64 f.locals, .slice ka f.code.length kc] (0, 0) _ hx4 Tryz.underlying63 rfl sizeFn15 ?_)
          refine hsg.mono ?_
          rintro e w5 ⟨rfl, hb5⟩
          have HB5 : Hid (Below W.heap.size W w5) := HB4.out.trans (hb5.mono HB4.out.size)
          clear hsg hb5 hx4 q0 q1 q2 q3 q4 q5
          go_wp2_with fail
          refine (hall w5).mono ?_
          rintro e w6 ⟨rfl, hb6⟩
          have HB6 : Hid (Below W.heap.size W w6) := HB5.out.trans (hb6.mono HB5.out.size)
          clear hall hb6
          go_wp2
          go_roundg (fs.length - (k + 1))
          case measure => have := HG.out; omega
          case rel => exact ⟨k + 1, by have := HG.out; omega, by go_num, HB6.out⟩
        · have hki : ¬ (k : Int) < ((fs.length : Nat) : Int) := by omega
          have HBw := hidden hBw
          clear hBw hB
          go_wp2
          go_ret2
          exact ⟨rfl, HBw.out⟩
end Go.Proofs.YtdeckknfolaaeaaGreatDoor

namespace Go.Proofs.YtdeckknfolaaeaaGreatDoor
open Go.RowKit Go.Maps

theorem infoIf15 : (Tryz.prog.info? 51).map (fun i => (i.zero.map (fun z => z.cells.size), i.size, i.bytes)) = some (some 2, 2, 40) := by kernel_rfl
set_option maxRecDepth 1000000 in
set_option maxHeartbeats 4000000 in
theorem vsyms (F : Nat → Prop) (m : List UInt8) (fs : List Fn) (fv : Value) (ea : Option Addr) (en ec : Nat) (la : Option Addr) (lc : Nat) (w : World) (hf : FnR F w fv fs) (hF : ∀ g, F g → g < w.heap.size) (hok : FsOk fs) :
    Calls Tryz.prog 19 #[obv (ovS fv (.slice ea en ec)) m, .slice la 0 lc] w fun e w' => e = .returned (.tuple #[.int .i64 0, .int .i64 0]) ∧ Below w.heap.size w w' := by
  obtain ⟨fa, fc, rfl⟩ := hf.shape
  have hb1 : Below w.heap.size w (w.alloc (.cells #[.string (str m), .slice none 0 0, .slice none 0 0, .slice none 0 0, .slice fa fs.length fc, .slice ea en ec, .slice none 0 0, .slice none 0 0] 31)) := (Below.refl _ w).alloc (Nat.le_refl _) _
  have hx1 := World.alloc_heap_new w (.cells #[.string (str m), .slice none 0 0, .slice none 0 0, .slice none 0 0, .slice fa fs.length fc, .slice ea en ec, .slice none 0 0, .slice none 0 0] 31)
  have hz1 : (w.alloc (.cells #[.string (str m), .slice none 0 0, .slice none 0 0, .slice none 0 0, .slice fa fs.length fc, .slice ea en ec, .slice none 0 0, .slice none 0 0] 31)).heap.size = w.heap.size + 1 := by simp
  have how := vown F m fs (.slice fa fs.length fc) ea en ec (w.alloc (.cells #[.string (str m), .slice none 0 0, .slice none 0 0, .slice none 0 0, .slice fa fs.length fc, .slice ea en ec, .slice none 0 0, .slice none 0 0] 31)) (hf.below cFn_stay hb1 hF) (fun g hg => by have := hF g hg; omega) hok
  unfold obv ovS at how ⊢
  simp only at how ⊢
  generalize hW : w.alloc (.cells #[.string (str m), .slice none 0 0, .slice none 0 0, .slice none 0 0, .slice fa fs.length fc, .slice ea en ec, .slice none 0 0, .slice none 0 0] 31) = W at *
  have HX : Hid (∀ x, Below W.heap.size W x → x.cell? ⟨w.heap.size, 6, none⟩ = some (.slice none 0 0)) := fun x hx => by
    rw [cell_of_row _ _ 6 _ _ _ ((hx.block w.heap.size (by omega)).trans hx1)]
    rfl
  have HB1 := hidden hb1
  clear hb1 hf hok
  go_enter Tryz.func19, Tryz.ntmps19
  go_wp2_with (refine wpList_load_row rfl 31 (.tmp 2) rfl w.heap.size rfl 31 #[.string (str m), .slice none 0 0, .slice none 0 0, .slice none 0 0, .slice fa fs.length fc, .slice ea en ec, .slice none 0 0, .slice none 0 0] (0, 0) _ hx1 Tryz.underlying31 rfl sizeOb15 ?_)
  refine how.mono ?_
  rintro e w2 ⟨v, rfl, hI, hb2⟩
  obtain ⟨va, vc, hv⟩ := hI.shape
  rw [List.length_map] at hv
  subst hv
  have hb3 : Below W.heap.size W (w2.alloc (.cells #[.string (str m), .slice va fs.length vc] 51)) := hb2.alloc hb2.size _
  have HB3 := hidden hb3
  have c6 := HX.out _ hb3
  obtain ⟨i, z, hi, hz, h1, h2, h3⟩ := info_z infoIf15
  have hown : (w2.alloc (.cells #[.string (str m), .slice va fs.length vc] 51)).ownsRow 0 51 2 (.slice (some ⟨w2.heap.size, 0, none⟩) 1 1) 1 [.string (str m), .slice va fs.length vc] := ⟨rfl, .inr ⟨w2.heap.size, 1, #[.string (str m), .slice va fs.length vc], rfl, Nat.zero_le _, World.alloc_heap_new w2 _, Nat.le_refl _, by unfold maxLen; omega, rfl, rfl⟩⟩
  have happ := fun ty => run_append_zero (P := Tryz.prog) 0 52 ty 51 i 2 Tryz.underlying52 hi (.slice (some ⟨w2.heap.size, 0, none⟩) 1 1) 1 _ hown la lc
  clear how hx1 hb2 hI hb3 hown
  go_wp2_with (at_builtin; refine append_run rfl (.tmp 12) (.tmp 13) _ _ rfl _ _ _ _ rfl rfl happ ?_)
  go_loopg [18] 0 (fun gk i wr => gk = 0 ∧ i = .int .i64 0 ∧ Below W.heap.size W wr)
  case atStart => exact ⟨rfl, rfl, HB3.out⟩
  case round =>
    obtain ⟨-, rfl, hb⟩ := hrel
    rename World => wr
    have HB : Hid (Below w.heap.size w wr) := HB1.out.trans (hb.mono (by omega))
    clear hb
    go_wp2
    go_ret2
    exact ⟨rfl, HB.out⟩
/-- What verify answers for such an object: the refusal, 0, and its place. -/
def objV (oth : Wire.Ins → Wk → Nat × Wk) (f : Fn) : Nat × Int := if (funV oth f).1 = 0 then (0, 0) else funV oth f
/-- An object with one function. -/
structure OneOk (m : List UInt8) (f : Fn) (es : List (List UInt8)) : Prop where
  right : rightO (obS m [f] es) = (0, 0)
  ok : FsOk [f]
  nm : namesR (signO f) = []
  tm : Tk m
  te : ∀ x ∈ es, Tk x
  le : es.length ≤ 1000
  ne : f.code ≠ []
  len : f.code.length ≤ 140737488355328
  good : (codeD f).1.1 = 0 → Wire.refsR (codeD f).2 = [] ∧ FitI (codeD f).2
theorem obR_s {F : Nat → Prop} {w : World} {m : List UInt8} {fs : List Fn} {fv ev : Value} {es : List (List UInt8)} (hf : FnR F w fv fs) (he : TxC F w ev es) : ObR F w (ovS fv ev) (obS m fs es) :=
  ⟨ItR.nil _ _, ⟨TxR.nil _ _, by rintro a n c hh; simp only [ovS, Value.slice.injEq] at hh; omega⟩, RwR.nil _ _ _ _, hf, he, RwR.nil _ _ _ _, RwR.nil _ _ _ _⟩
/-- Three numbers. -/
def ThreeI (p : Nat × Int) (w : World) (e : Ending) (w' : World) : Prop := e = .returned (.tuple #[.int .i64 (p.1 : Int), .int .i64 0, .int .i64 p.2]) ∧ Below w.heap.size w w'
set_option maxRecDepth 1000000 in
set_option maxHeartbeats 4000000 in
theorem vobject (F : Nat → Prop) (oth : Wire.Ins → Wk → Nat × Wk) (m : List UInt8) (f : Fn) (es : List (List UInt8)) (fv ev : Value) (la : Option Addr) (lc : Nat) (w : World) (hf : FnR F w fv [f]) (he : TxC F w ev es) (hF : ∀ g, F g → g < w.heap.size) (hok : OneOk m f es) :
    Calls Tryz.prog 10 #[obv (ovS fv ev) m, .slice la 0 lc] w (ThreeI (objV oth f) w) := by
  obtain ⟨fa, fc, rfl⟩ := hf.shape
  obtain ⟨ea, ec, rfl⟩ := he.1.shape
  have hOb : ∀ x, Below w.heap.size w x → ObR F x (ovS (.slice fa 1 fc) (.slice ea es.length ec)) (obS m [f] es) := fun x hx => obR_s (hf.below cFn_stay hx hF) ⟨he.1.below hx hF, he.2⟩
  have hObOk : ObOk (obS m [f] es) := ⟨hok.tm, by simp [obS], by simp [obS], by simp [obS], by simp [obS], by simp [obS], by simp [obS], by simp [obS], fun x hx => (hok.ok.2 x hx).1, by have := hok.le; show es.length ≤ _; omega, hok.te, by simp [obS], by simp [obS], by simp [obS], by simp [obS]⟩
  have hR : ∀ x, Below w.heap.size w x → Calls Tryz.prog 18 #[obv (ovS (.slice fa 1 fc) (.slice ea es.length ec)) m] x (TwoB (0, 0) x) := fun x hx => by
    have := right14 F _ _ x (hOb x hx) (fun g hg => Nat.lt_of_lt_of_le (hF g hg) hx.size) hObOk
    rw [hok.right] at this
    exact this
  have hS := fun x (hx : Below w.heap.size w x) => vsyms F m [f] (.slice fa 1 fc) ea es.length ec la lc x (hf.below cFn_stay hx hF) (fun g hg => Nat.lt_of_lt_of_le (hF g hg) hx.size) hok.ok
  have hT := fun x (hx : Below w.heap.size w x) => vtypes F m [f] (.slice fa 1 fc) ea es.length ec x (hf.below cFn_stay hx hF) (fun g hg => Nat.lt_of_lt_of_le (hF g hg) hx.size) hok.ok (by simpa using hok.nm)
  have hFn := fun x (hx : Below w.heap.size w x) => vfun F _ _ 0 (by simp [obS]) x (hOb x hx) (fun g hg => Nat.lt_of_lt_of_le (hF g hg) hx.size) rfl hok.ne hok.len oth hok.good
  have HV : Hid (objV oth f = if (funV oth f).1 = 0 then (0, 0) else funV oth f) := rfl
  have e0 : (obS m [f] es).funs[0]'(by simp [obS]) = f := rfl
  rw [e0] at hFn
  generalize objV oth f = OV at *
  generalize funV oth f = FV at *
  unfold TwoB at hR
  unfold TwoI at hFn
  simp only [obv, ovS, obS] at hR hS hT hFn ⊢
  have hb1 : Below w.heap.size w (w.alloc (.cells #[.string (str m), .slice none 0 0, .slice none 0 0, .slice none 0 0, .slice fa 1 fc, .slice ea es.length ec, .slice none 0 0, .slice none 0 0] 31)) := (Below.refl _ w).alloc (Nat.le_refl _) _
  have hx1 := World.alloc_heap_new w (.cells #[.string (str m), .slice none 0 0, .slice none 0 0, .slice none 0 0, .slice fa 1 fc, .slice ea es.length ec, .slice none 0 0, .slice none 0 0] 31)
  have hz1 : (w.alloc (.cells #[.string (str m), .slice none 0 0, .slice none 0 0, .slice none 0 0, .slice fa 1 fc, .slice ea es.length ec, .slice none 0 0, .slice none 0 0] 31)).heap.size = w.heap.size + 1 := by simp
  have hr1 : Calls Tryz.prog 18 #[.agg #[.string (str m), .slice none 0 0, .slice none 0 0, .slice none 0 0, .slice fa 1 fc, .slice ea es.length ec, .slice none 0 0, .slice none 0 0]] _ (fun e w' => e = .returned (.tuple #[.int .i64 0, .int .i64 0]) ∧ Below _ _ w') := hR _ hb1
  generalize hW : w.alloc (.cells #[.string (str m), .slice none 0 0, .slice none 0 0, .slice none 0 0, .slice fa 1 fc, .slice ea es.length ec, .slice none 0 0, .slice none 0 0] 31) = W at *
  have HX : Hid (∀ x, Below W.heap.size W x → x.heap[w.heap.size]? = some (.cells #[.string (str m), .slice none 0 0, .slice none 0 0, .slice none 0 0, .slice fa 1 fc, .slice ea es.length ec, .slice none 0 0, .slice none 0 0] 31 (0, 0))) := fun x hx => (hx.block w.heap.size (by omega)).trans hx1
  have HW : Hid (∀ x, Below W.heap.size W x → Below w.heap.size w x) := fun x hx => hb1.trans (hx.mono (by omega))
  have HSy := hidden hS
  have HTy := hidden hT
  have HFn := hidden hFn
  have hx := HX.out W (Below.refl _ _)
  clear hS hT hFn hR hOb hObOk hx1 hb1 hok hf he
  go_enter Tryz.func10, Tryz.ntmps10
  go_wp2_with (refine wpList_load_row rfl 31 (.tmp 2) rfl w.heap.size rfl 31 #[.string (str m), .slice none 0 0, .slice none 0 0, .slice none 0 0, .slice fa 1 fc, .slice ea es.length ec, .slice none 0 0, .slice none 0 0] (0, 0) _ hx Tryz.underlying31 rfl sizeOb15 ?_)
  refine hr1.mono ?_
  rintro e w2 ⟨rfl, hb2⟩
  have HB2 := hidden hb2
  have hs2 := HSy.out w2 (HW.out w2 hb2)
  clear hr1 hb2 hx
  have hx := HX.out w2 HB2.out
  go_wp2_with (refine wpList_load_row rfl 31 (.tmp 2) rfl w.heap.size rfl 31 #[.string (str m), .slice none 0 0, .slice none 0 0, .slice none 0 0, .slice fa 1 fc, .slice ea es.length ec, .slice none 0 0, .slice none 0 0] (0, 0) _ hx Tryz.underlying31 rfl sizeOb15 ?_)
  refine hs2.mono ?_
  rintro e w3 ⟨rfl, hb3⟩
  have HB3 : Hid (Below W.heap.size W w3) := HB2.out.trans (hb3.mono HB2.out.size)
  have ht3 := HTy.out w3 (HW.out w3 HB3.out)
  clear hs2 hb3 hx
  have hx := HX.out w3 HB3.out
  go_wp2_with (refine wpList_load_row rfl 31 (.tmp 2) rfl w.heap.size rfl 31 #[.string (str m), .slice none 0 0, .slice none 0 0, .slice none 0 0, .slice fa 1 fc, .slice ea es.length ec, .slice none 0 0, .slice none 0 0] (0, 0) _ hx Tryz.underlying31 rfl sizeOb15 ?_)
  refine ht3.mono ?_
  rintro e w4 ⟨rfl, hb4⟩
  have HB4 : Hid (Below W.heap.size W w4) := HB3.out.trans (hb4.mono HB3.out.size)
  clear ht3 hb4 hx
  have hx4 := HX.out w4 HB4.out
  have c4 : w4.cell? ⟨w.heap.size, 4, none⟩ = some (.slice fa 1 fc) := by rw [cell_of_row _ _ 4 _ _ _ hx4]; rfl
  clear hx4
  go_wp2_with fail
  go_loopg [47] 1 (fun gk i wr => Below W.heap.size W wr ∧ ((gk = 1 ∧ i = .int .i64 0) ∨ (gk = 0 ∧ i = .int .i64 1 ∧ Hid (FV.1 = 0))))
  case atStart => exact ⟨HB4.out, .inl ⟨rfl, rfl⟩⟩
  case round =>
    obtain ⟨hB, hk⟩ := hrel
    rename World => wr
    have HB := hidden hB
    clear hB c4
    rcases hk with ⟨rfl, rfl⟩ | ⟨rfl, rfl, h0⟩
    · have hfn := HFn.out wr (HW.out wr HB.out)
      have hx := HX.out wr HB.out
      go_wp2_with (refine wpList_load_row rfl 31 (.tmp 2) rfl w.heap.size rfl 31 #[.string (str m), .slice none 0 0, .slice none 0 0, .slice none 0 0, .slice fa 1 fc, .slice ea es.length ec, .slice none 0 0, .slice none 0 0] (0, 0) _ hx Tryz.underlying31 rfl sizeOb15 ?_)
      refine hfn.mono ?_
      rintro e w5 ⟨rfl, hb5⟩
      have HB5 : Hid (Below W.heap.size W w5) := HB.out.trans (hb5.mono HB.out.size)
      clear hfn hb5 hx
      by_cases hz : FV.1 = 0
      · have hzi : ((FV.1 : Nat) : Int) = 0 := by omega
        rw [hzi]
        have HZ := hidden hz
        clear hz hzi
        go_wp2
        go_roundg 0
        case measure => omega
        case rel => exact ⟨HB5.out, .inr ⟨rfl, by go_num, HZ⟩⟩
      · have hzi : ¬ ((FV.1 : Nat) : Int) = 0 := by omega
        have HR : Hid (OV = FV) := by rw [hid_iff, HV.out, if_neg hz]
        clear hz
        go_wp2
        go_ret3
        exact ⟨by rw [HR.out]; rfl, HW.out _ HB5.out⟩
    · have HR : Hid (OV = (0, 0)) := by rw [hid_iff, HV.out, if_pos h0.out]
      go_wp2
      go_ret3
      exact ⟨by rw [HR.out]; rfl, HW.out _ HB.out⟩
end Go.Proofs.YtdeckknfolaaeaaGreatDoor

namespace Go.Proofs.YtdeckknfolaaeaaGreatDoor
open Go.RowKit Go.Maps

/-- A function f of that result, locals and code. -/
def fS (res : List UInt8) (loc : Int) (code : List UInt8) : Fn := ⟨[102], [], 0, res, loc, code⟩
def oth0 : Wire.Ins → Wk → Nat × Wk := fun _ k => (0, k)
def easyB (op a : Int) : Bool := decide (op = 1 ∨ op = 2 ∨ op = 3 ∨ op = 4 ∨ op = 5 ∨ op = 6 ∨ (op = 7 ∧ a ≠ 7 ∧ a ≠ 9 ∧ a ≠ 10 ∧ a ≠ 11 ∧ a ≠ 12) ∨ op = 15)
def ascB : List Wire.Ins → Bool
  | [] => true
  | i :: r => r.all (fun j => decide (i.pl < j.pl)) && ascB r
def insB (i : Wire.Ins) : Bool :=
  decide (0 ≤ i.pl ∧ i.pl ≤ 1000000) && (i.tos.all (fun p => decide (i.pl < p ∧ p ≤ 1000000)) && (decide (i.tos.length ≤ 1000) && (decide (0 ≤ i.a ∧ i.a ≤ 255) && (easyB i.op i.a && (decide (¬ (i.op = 5 ∨ i.op = 6)) || !i.tos.isEmpty)))))
def headB : List Wire.Ins → Bool
  | [] => true
  | i :: _ => decide (i.pl = 0)
def fitB (is : List Wire.Ins) : Bool := headB is && (ascB is && (is.all insB && decide (is.length ≤ 2048)))
theorem asc_at : ∀ (is : List Wire.Ins), ascB is = true → ∀ (j k : Nat) (hk : k < is.length) (hjk : j < k), (is[j]'(by omega)).pl < is[k].pl
  | i :: r, h, 0, k + 1, hk, _ => by
    simp only [ascB, Bool.and_eq_true] at h
    have hk' : k < r.length := by simpa using hk
    have := List.all_eq_true.1 h.1 (r[k]'hk') (List.getElem_mem _)
    simpa using this
  | i :: r, h, j + 1, k + 1, hk, hjk => by
    simp only [ascB, Bool.and_eq_true] at h
    have := asc_at r h.2 j k (by simpa using hk) (by omega)
    simpa using this
theorem fit_of {is : List Wire.Ins} (h : fitB is = true) : FitI is := by
  simp only [fitB, Bool.and_eq_true, decide_eq_true_eq] at h
  obtain ⟨h1, h2, h3, h4⟩ := h
  have hi : ∀ i ∈ is, insB i = true := List.all_eq_true.1 h3
  have hx : ∀ i ∈ is, (0 ≤ i.pl ∧ i.pl ≤ 1000000) ∧ (∀ p ∈ i.tos, i.pl < p ∧ p ≤ 1000000) ∧ i.tos.length ≤ 1000 ∧ (0 ≤ i.a ∧ i.a ≤ 255) ∧ easyOp i.op i.a ∧ (i.op = 5 ∨ i.op = 6 → i.tos ≠ []) := fun i hm => by
    have := hi i hm
    simp only [insB, Bool.and_eq_true, Bool.or_eq_true, Bool.not_eq_true', decide_eq_true_eq] at this
    obtain ⟨a1, a2, a3, a4, a5, a6⟩ := this
    refine ⟨a1, fun p hp => of_decide_eq_true (List.all_eq_true.1 a2 p hp), a3, a4, (by simp only [easyB, decide_eq_true_eq] at a5; exact a5), fun ho he => ?_⟩
    rcases a6 with a6 | a6
    · exact a6 ho
    · rw [he] at a6
      cases a6
  refine ⟨fun h0 => ?_, asc_at is h2, fun i hm => (hx i hm).1, fun i hm => (hx i hm).2.1, fun i hm => (hx i hm).2.2.1, fun i hm => (hx i hm).2.2.2.1, fun i hm => (hx i hm).2.2.2.2.1, fun i hm => (hx i hm).2.2.2.2.2, h4⟩
  cases is with
  | nil => simp at h0
  | cons i r => simpa [headB] using h1
/-- A code may be walked here, and the object is let by ahead of it. -/
def okL (res : List UInt8) (loc : Int) (code : List UInt8) : Bool :=
  decide (rightO (obS [109] [fS res loc code] [[102]]) = (0, 0)) && (decide (namesR (signO (fS res loc code)) = []) && (!code.isEmpty && (decide (code.length ≤ 2048) && (decide ((codeD (fS res loc code)).1.1 ≠ 0) || (decide (Wire.refsR (codeD (fS res loc code)).2 = []) && fitB (codeD (fS res loc code)).2)))))
theorem one_ok {res : List UInt8} {loc : Int} {code : List UInt8} (hr : res.length ≤ 100) (hl : 0 ≤ loc ∧ loc ≤ 100) (h : okL res loc code = true) : OneOk [109] (fS res loc code) [[102]] := by
  simp only [okL, Bool.and_eq_true, Bool.or_eq_true, Bool.not_eq_true', decide_eq_true_eq] at h
  obtain ⟨h1, h2, h3, h4, h5⟩ := h
  have hne : code ≠ [] := fun e => by rw [e] at h3; cases h3
  refine ⟨h1, ⟨by simp, fun f hf => ?_⟩, h2, by simp [Tk], fun x hx => ?_, by simp, hne, by show code.length ≤ _; omega, fun h0 => ?_⟩
  · rw [List.mem_singleton] at hf
    subst hf
    refine ⟨⟨by simp [fS, Tk], by simp [fS], by simp [fS], ⟨by simp [fS], by simp [fS]⟩, by show Tk res; unfold Tk; omega, ⟨by show _ ≤ loc; omega, by show loc ≤ _; omega⟩, by show code.length ≤ _; omega⟩, by simp [fS], ?_, by show res.length ≤ _; omega⟩
    have e : (fS res loc code).params.drop (cutO (fS res loc code)) = [] := by simp [fS]
    rw [e]
    show (joinR []).length ≤ 1000000000
    exact of_decide_eq_true (by kernel_rfl)
  · rw [List.mem_singleton] at hx
    subst hx
    simp [Tk]
  · rcases h5 with h5 | h5
    · exact absurd h0 h5
    · exact ⟨h5.1, fit_of h5.2⟩
theorem known_a : okL numT 1 [1, 2, 0, 15] = true := by kernel_rfl
theorem known_b : okL bytesT 1 [1, 2, 0, 15] = true := by kernel_rfl
theorem known_c : okL numT 1 [3, 0, 15] = true := by kernel_rfl
theorem known_va : objV oth0 (fS numT 1 [1, 2, 0, 15]) = (0, 0) := by kernel_rfl
theorem known_vb : objV oth0 (fS bytesT 1 [1, 2, 0, 15]) = (17, 3) := by kernel_rfl
theorem known_vc : objV oth0 (fS numT 1 [3, 0, 15]) = (21, 0) := by kernel_rfl
end Go.Proofs.YtdeckknfolaaeaaGreatDoor
