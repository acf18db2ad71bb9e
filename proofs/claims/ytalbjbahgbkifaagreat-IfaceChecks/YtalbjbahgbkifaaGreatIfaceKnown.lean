/-
  The package's Of where nothing is defined; the statements' 'known': some of chapter 7's runs.
-/
import Derived.Deep.LoopGhost
import Derived.Laws.Rows
import Derived.Laws.Tables
import Derived.Test.YtalbjbahgbkifaaGreatIfaceEncode
import Derived.Test.YtalbjbahgbkifaaGreatWireStr
import Derived.Test.YtalbjbahgbkifaaGreatLexSplit
namespace Go.Proofs.YtalbjbahgbkifaaGreat
open Go.RowKit

theorem res7 {P : Program} {fn : Func} {p u : Tmp} {ty : TypeId} (h : fn.results = #[.cell p ty, .tmp u]) (tmps : Array Value) (w : World) (g : Nat) (t : TypeId) (cs : Array Value) (fr : Nat × Nat) (d : TypeDesc)
    (hp : tmps.getD p undef = .pointer (some ⟨g, 0, none⟩)) (hg : w.heap[g]? = some (.cells cs t fr))
    (hu : P.underlying ty = some d) (hd : (match d with | .struct _ | .array _ _ => true | _ => false) = true) (hi : (P.info? ty).map (·.size) = some cs.size) :
    (results fn tmps).run P w = .ok (.tuple #[.agg cs, tmps.getD u undef]) w := by
  have hp' : tmps[p]?.getD undef = .pointer (some ⟨g, 0, none⟩) := by simpa using hp
  simp [results, h, hp', asAddr, run_loadVar_row w g t ty cs fr d hg hu hd hi]
theorem sizeIt : (Tryz.prog.info? 34).map (·.size) = some 4 := by kernel_rfl
theorem sizeIf : (Tryz.prog.info? 24).map (·.size) = some 2 := by kernel_rfl
def NoneE (w : World) (e : Ending) (w' : World) : Prop := e = .returned (.tuple #[.agg #[.int .i64 0, .string ⟨#[]⟩, .string ⟨#[]⟩, .slice none 0 0], .bool false]) ∧ Below w.heap.size w w'
theorem setRow_below (w : World) (g : Nat) (cs : Array Value) : Below g w (w.setRow g cs) := by
  refine ⟨rfl, rfl, rfl, by simp [World.setRow], fun k hk => ?_⟩
  simp only [World.setRow]
  rw [Array.getElem?_modify, if_neg (by omega)]
set_option maxHeartbeats 2000000 in
set_option maxRecDepth 1000000 in
theorem defined_none (nm n : List UInt8) (eb : Nat) (w : World) : Calls Tryz.prog 82 #[.agg #[.string (str nm), .slice none 0 0, .slice (some ⟨eb, 0, none⟩) 1 1, .slice none 0 0, .slice none 0 0, .slice none 0 0], .string (str n)] w (NoneE w) := by
  have hb : Below w.heap.size w ((w.alloc (.cells #[.string (str nm), .slice none 0 0, .slice (some ⟨eb, 0, none⟩) 1 1, .slice none 0 0, .slice none 0 0, .slice none 0 0] 90)).alloc (.cells #[.int .i64 0, .string ⟨#[]⟩, .string ⟨#[]⟩, .slice none 0 0] 34)) := ((Below.refl _ _).alloc (Nat.le_refl _) _).alloc (by simp) _
  have hN : ((w.alloc (.cells #[.string (str nm), .slice none 0 0, .slice (some ⟨eb, 0, none⟩) 1 1, .slice none 0 0, .slice none 0 0, .slice none 0 0] 90)).alloc (.cells #[.int .i64 0, .string ⟨#[]⟩, .string ⟨#[]⟩, .slice none 0 0] 34)).heap[w.heap.size + 1]? = some (.cells #[.int .i64 0, .string ⟨#[]⟩, .string ⟨#[]⟩, .slice none 0 0] 34 (0, 0)) := by
    have := heap_alloc_new (w.alloc (.cells #[.string (str nm), .slice none 0 0, .slice (some ⟨eb, 0, none⟩) 1 1, .slice none 0 0, .slice none 0 0, .slice none 0 0] 90)) (.cells #[.int .i64 0, .string ⟨#[]⟩, .string ⟨#[]⟩, .slice none 0 0] 34)
    rw [show (w.alloc (.cells #[.string (str nm), .slice none 0 0, .slice (some ⟨eb, 0, none⟩) 1 1, .slice none 0 0, .slice none 0 0, .slice none 0 0] 90)).heap.size = w.heap.size + 1 by simp] at this
    exact this
  have hM : ((w.alloc (.cells #[.string (str nm), .slice none 0 0, .slice (some ⟨eb, 0, none⟩) 1 1, .slice none 0 0, .slice none 0 0, .slice none 0 0] 90)).alloc (.cells #[.int .i64 0, .string ⟨#[]⟩, .string ⟨#[]⟩, .slice none 0 0] 34)).heap[w.heap.size]? = some (.cells #[.string (str nm), .slice none 0 0, .slice (some ⟨eb, 0, none⟩) 1 1, .slice none 0 0, .slice none 0 0, .slice none 0 0] 90 (0, 0)) := (Below.heap_alloc _ _ _ (by simp)).trans (heap_alloc_new w (.cells #[.string (str nm), .slice none 0 0, .slice (some ⟨eb, 0, none⟩) 1 1, .slice none 0 0, .slice none 0 0, .slice none 0 0] 90))
  have c5 : ((w.alloc (.cells #[.string (str nm), .slice none 0 0, .slice (some ⟨eb, 0, none⟩) 1 1, .slice none 0 0, .slice none 0 0, .slice none 0 0] 90)).alloc (.cells #[.int .i64 0, .string ⟨#[]⟩, .string ⟨#[]⟩, .slice none 0 0] 34)).cell? ⟨w.heap.size, 5, none⟩ = some (.slice none 0 0) := by rw [cell_of_row _ _ 5 _ _ _ hM]; rfl
  have c4 : ((w.alloc (.cells #[.string (str nm), .slice none 0 0, .slice (some ⟨eb, 0, none⟩) 1 1, .slice none 0 0, .slice none 0 0, .slice none 0 0] 90)).alloc (.cells #[.int .i64 0, .string ⟨#[]⟩, .string ⟨#[]⟩, .slice none 0 0] 34)).cell? ⟨w.heap.size, 4, none⟩ = some (.slice none 0 0) := by rw [cell_of_row _ _ 4 _ _ _ hM]; rfl
  have c3 : ((w.alloc (.cells #[.string (str nm), .slice none 0 0, .slice (some ⟨eb, 0, none⟩) 1 1, .slice none 0 0, .slice none 0 0, .slice none 0 0] 90)).alloc (.cells #[.int .i64 0, .string ⟨#[]⟩, .string ⟨#[]⟩, .slice none 0 0] 34)).cell? ⟨w.heap.size, 3, none⟩ = some (.slice none 0 0) := by rw [cell_of_row _ _ 3 _ _ _ hM]; rfl
  clear hM
  go_enter Tryz.func82, Tryz.ntmps82
  go_wp2
  generalize (w.alloc (.cells #[.string (str nm), .slice none 0 0, .slice (some ⟨eb, 0, none⟩) 1 1, .slice none 0 0, .slice none 0 0, .slice none 0 0] 90)).alloc (.cells #[.int .i64 0, .string ⟨#[]⟩, .string ⟨#[]⟩, .slice none 0 0] 34) = w0 at *
  go_loopg [15] 1 (fun gk i wr => i = .int .i64 0 ∧ wr = w0)
  case atStart => exact ⟨rfl, rfl⟩
  case round =>
    obtain ⟨rfl, rfl⟩ := hrel
    go_wp2
    rename World => w1
    go_loopg [32] 1 (fun gk i wr => i = .int .i64 0 ∧ wr = w1)
    case atStart => exact ⟨rfl, rfl⟩
    case round =>
      obtain ⟨rfl, rfl⟩ := hrel
      go_wp2
      rename World => w2
      go_loopg [50] 1 (fun gk i wr => i = .int .i64 0 ∧ wr = w2)
      case atStart => exact ⟨rfl, rfl⟩
      case round =>
        obtain ⟨rfl, rfl⟩ := hrel
        rename World => w3
        clear c3 c4 c5
        have hb2 := hb.trans ((setRow_below w3 (w.heap.size + 1) #[.int .i64 0, .string ⟨#[]⟩, .string ⟨#[]⟩, .slice none 0 0]).mono (by omega))
        go_wp2_with (refine wpList_store_row rfl 34 (.tmp 4) (.tmp 65) rfl (w.heap.size + 1) #[.int .i64 0, .string ⟨#[]⟩, .string ⟨#[]⟩, .slice none 0 0] rfl rfl 34 #[.int .i64 0, .string ⟨#[]⟩, .string ⟨#[]⟩, .slice none 0 0] hN sizeIt rfl (by kernel_rfl) ?_)
        (try simp only [Exit.inBlock, Exit.then])
        refine bodyPost_ret (res7 rfl _ _ (w.heap.size + 1) 34 #[.int .i64 0, .string ⟨#[]⟩, .string ⟨#[]⟩, .slice none 0 0] (0, 0) _ rfl (setRow_heap w3 (w.heap.size + 1) _ _ 34 (0, 0) hN) Tryz.underlying34 rfl sizeIt) rfl ?_
        exact ⟨rfl, hb2⟩
def OfNone (w : World) (e : Ending) (w' : World) : Prop := e = .returned (.tuple #[.agg #[.string ⟨#[]⟩, .slice none 0 0], .int .i64 16]) ∧ Below w.heap.size w w'
theorem sizeMo : (Tryz.prog.info? 90).map (fun i => i.size) = some 6 := by kernel_rfl
set_option maxHeartbeats 4000000 in
set_option maxRecDepth 1000000 in
theorem of_none (nm n : List UInt8) (eb : Nat) (w : World) (hE : w.cell? ⟨eb, 0, none⟩ = some (.string (str n))) (hl : nm.length ≤ 8192) : Calls Tryz.prog 50 #[.agg #[.string (str nm), .slice none 0 0, .slice (some ⟨eb, 0, none⟩) 1 1, .slice none 0 0, .slice none 0 0, .slice none 0 0]] w (OfNone w) := by
  have hel : eb < w.heap.size := World.block_lt_of_cell? w _ hE
  have hb0 : Below w.heap.size w ((w.alloc (.cells #[.string (str nm), .slice none 0 0, .slice (some ⟨eb, 0, none⟩) 1 1, .slice none 0 0, .slice none 0 0, .slice none 0 0] 90)).alloc (.cells #[.string ⟨#[]⟩, .slice none 0 0] 24)) := ((Below.refl _ _).alloc (Nat.le_refl _) _).alloc (by simp) _
  have hN : ((w.alloc (.cells #[.string (str nm), .slice none 0 0, .slice (some ⟨eb, 0, none⟩) 1 1, .slice none 0 0, .slice none 0 0, .slice none 0 0] 90)).alloc (.cells #[.string ⟨#[]⟩, .slice none 0 0] 24)).heap[w.heap.size + 1]? = some (.cells #[.string ⟨#[]⟩, .slice none 0 0] 24 (0, 0)) := by
    have := heap_alloc_new (w.alloc (.cells #[.string (str nm), .slice none 0 0, .slice (some ⟨eb, 0, none⟩) 1 1, .slice none 0 0, .slice none 0 0, .slice none 0 0] 90)) (.cells #[.string ⟨#[]⟩, .slice none 0 0] 24)
    rw [show (w.alloc (.cells #[.string (str nm), .slice none 0 0, .slice (some ⟨eb, 0, none⟩) 1 1, .slice none 0 0, .slice none 0 0, .slice none 0 0] 90)).heap.size = w.heap.size + 1 by simp] at this
    exact this
  have hM : ((w.alloc (.cells #[.string (str nm), .slice none 0 0, .slice (some ⟨eb, 0, none⟩) 1 1, .slice none 0 0, .slice none 0 0, .slice none 0 0] 90)).alloc (.cells #[.string ⟨#[]⟩, .slice none 0 0] 24)).heap[w.heap.size]? = some (.cells #[.string (str nm), .slice none 0 0, .slice (some ⟨eb, 0, none⟩) 1 1, .slice none 0 0, .slice none 0 0, .slice none 0 0] 90 (0, 0)) := (Below.heap_alloc _ _ _ (by simp)).trans (heap_alloc_new w (.cells #[.string (str nm), .slice none 0 0, .slice (some ⟨eb, 0, none⟩) 1 1, .slice none 0 0, .slice none 0 0, .slice none 0 0] 90))
  have hsz : ((w.alloc (.cells #[.string (str nm), .slice none 0 0, .slice (some ⟨eb, 0, none⟩) 1 1, .slice none 0 0, .slice none 0 0, .slice none 0 0] 90)).alloc (.cells #[.string ⟨#[]⟩, .slice none 0 0] 24)).heap.size = w.heap.size + 2 := by simp
  have hcl := fun u => sClone (str nm) u (by rw [str_size]; exact hl)
  have HSZ := hidden hsz
  clear hsz hl
  go_enter Tryz.func50, Tryz.ntmps50
  go_wp2_with fail
  generalize (w.alloc (.cells #[.string (str nm), .slice none 0 0, .slice (some ⟨eb, 0, none⟩) 1 1, .slice none 0 0, .slice none 0 0, .slice none 0 0] 90)).alloc (.cells #[.string ⟨#[]⟩, .slice none 0 0] 24) = w0 at *
  refine (hcl _).mono ?_
  rintro e w1 ⟨rfl, hb1⟩
  have hs1 := hb1.size
  have hz := HSZ.out
  have hb2 : Below w1.heap.size w1 (w1.alloc (.cells #[.string (str nm), .slice none 0 0] 24)) := (Below.refl _ _).alloc (Nat.le_refl _) _
  have hN2 := (hb2.block (w.heap.size + 1) (by omega)).trans ((hb1.block _ (by omega)).trans hN)
  have hM2 := (hb2.block w.heap.size (by omega)).trans ((hb1.block _ (by omega)).trans hM)
  have hE2 := (World.cell?_of_block (a := ⟨eb, 0, none⟩) ((hb2.block eb (by omega)).trans ((hb1.block eb (by omega)).trans (hb0.block eb hel)))).trans hE
  have hbw : Below w.heap.size w (w1.alloc (.cells #[.string (str nm), .slice none 0 0] 24)) := (hb0.trans (hb1.mono (by omega))).trans (hb2.mono (by omega))
  have c2 : (w1.alloc (.cells #[.string (str nm), .slice none 0 0] 24)).cell? ⟨w.heap.size, 2, none⟩ = some (.slice (some ⟨eb, 0, none⟩) 1 1) := by rw [cell_of_row _ _ 2 _ _ _ hM2]; rfl
  have hsz2 : w.heap.size + 2 ≤ (w1.alloc (.cells #[.string (str nm), .slice none 0 0] 24)).heap.size := by simp; omega
  have HZ2 := hidden hsz2
  clear hcl hN hM hE hb0 hb1 hb2 hs1 hz HSZ hsz2
  go_wp2
  generalize w1.alloc (.cells #[.string (str nm), .slice none 0 0] 24) = w2 at *
  clear c2
  go_loopg [17] 1 (fun gk i wr => i = .int .i64 0 ∧ wr = w2)
  case atStart => exact ⟨rfl, rfl⟩
  case round =>
    obtain ⟨rfl, rfl⟩ := hrel
    rename World => w2
    have hdf := defined_none nm n eb w2
    go_wp2_with (refine wpList_load_row rfl 90 (.tmp 1) rfl w.heap.size rfl 90 #[.string (str nm), .slice none 0 0, .slice (some ⟨eb, 0, none⟩) 1 1, .slice none 0 0, .slice none 0 0, .slice none 0 0] (0, 0) _ hM2 Tryz.underlying90 rfl sizeMo ?_)
    refine hdf.mono ?_
    rintro e w3 ⟨rfl, hb3⟩
    have hz2 := HZ2.out
    have hs3 := hb3.size
    have hb4 : Below w3.heap.size w3 (w3.alloc (.cells #[.int .i64 0, .string ⟨#[]⟩, .string ⟨#[]⟩, .slice none 0 0] 34)) := (Below.refl _ _).alloc (Nat.le_refl _) _
    have hN4 := (hb4.block (w.heap.size + 1) (by omega)).trans ((hb3.block _ (by omega)).trans hN2)
    have hb5 : Below w.heap.size w (w3.alloc (.cells #[.int .i64 0, .string ⟨#[]⟩, .string ⟨#[]⟩, .slice none 0 0] 34)) := (hbw.trans (hb3.mono (by omega))).trans (hb4.mono (by omega))
    have hb6 := hb5.trans ((setRow_below (w3.alloc (.cells #[.int .i64 0, .string ⟨#[]⟩, .string ⟨#[]⟩, .slice none 0 0] 34)) (w.heap.size + 1) #[.string ⟨#[]⟩, .slice none 0 0]).mono (by omega))
    clear hdf hb3 hb4 hM2 hN2 hE2 hbw hb5 hz2 hs3
    go_wp2_with (refine wpList_store_row rfl 24 (.tmp 2) (.tmp 30) rfl (w.heap.size + 1) #[.string ⟨#[]⟩, .slice none 0 0] rfl rfl 24 #[.string ⟨#[]⟩, .slice none 0 0] hN4 sizeIf rfl (by kernel_rfl) ?_)
    (try simp only [Exit.inBlock, Exit.then])
    refine bodyPost_ret (res7 rfl _ _ (w.heap.size + 1) 24 #[.string ⟨#[]⟩, .slice none 0 0] (0, 0) _ rfl (setRow_heap _ (w.heap.size + 1) _ _ 24 (0, 0) hN4) Tryz.underlying24 rfl sizeIf) rfl ?_
    exact ⟨rfl, hb6⟩
def KnownI (w : World) (e : Ending) (w' : World) : Prop := e = .returned (.bool true) ∧ Below w.heap.size w w'
theorem k_bytes : ifaceB [109] [] = [1, 109, 0] := by decide
theorem k_right : rightI [109] [] = 0 := by decide
theorem k_str : Wire.toStr [1, 109, 0] = ⟨#[1, 109, 0]⟩ := by kernel_rfl
set_option maxHeartbeats 4000000 in
set_option maxRecDepth 1000000 in
theorem known7 (w : World) : Calls Tryz.prog 17 #[] w (KnownI w) := by
  have he := encode7 (fun _ => False) [109] (.slice none 0 0) [] w (ItR.nil _ _) (fun _ h => h.elim) (by unfold Tk; simp) (fun x hx => by simp at hx)
  have he' : Calls Tryz.prog 5 #[.agg #[.string ⟨#[109]⟩, .slice none 0 0]] w fun e w' => ∃ v g, e = .returned (.tuple #[v, .int .i64 0]) ∧ Wire.Row w' g v [1, 109, 0] ∧ w.heap.size ≤ g ∧ Below w.heap.size w w' := by
    refine he.mono ?_
    rintro e w' ⟨⟨_, v, g, h1, h2, h3⟩ | ⟨h1, _⟩, hb⟩
    · rw [k_bytes] at h2
      exact ⟨v, g, h1, h2, h3, hb⟩
    · exact absurd k_right h1
  clear he
  go_enter Tryz.func17, Tryz.ntmps17
  go_wp2_with fail
  refine he'.mono ?_
  rintro e w1 ⟨v, g, rfl, hr1, hg1, hb1⟩
  clear he'
  obtain ⟨cap, rfl⟩ : ∃ cap, v = .slice (some ⟨g, 0, none⟩) 3 cap := by
    rcases hr1.shape with ⟨_, h⟩ | ⟨cap, h, _⟩
    · cases h
    · exact ⟨cap, h⟩
  have hgl : g < w1.heap.size := hr1.lt (k := g) rfl
  have hb2 : Below w1.heap.size w1 (w1.alloc (.cells #[.string ⟨#[102]⟩] 9)) := (Below.refl _ _).alloc (Nat.le_refl _) _
  have hc2 := cells_new w1 [.string (str [102])] 9 0 _ rfl
  rw [add_at] at hc2
  have hof : Calls Tryz.prog 50 #[.agg #[.string ⟨#[109]⟩, .slice none 0 0, .slice (some ⟨w1.heap.size, 0, none⟩) 1 1, .slice none 0 0, .slice none 0 0, .slice none 0 0]] (w1.alloc (.cells #[.string ⟨#[102]⟩] 9)) (OfNone (w1.alloc (.cells #[.string ⟨#[102]⟩] 9))) := of_none [109] [102] w1.heap.size _ hc2 (by simp)
  have hr2 : Wire.Row (w1.alloc (.cells #[.string ⟨#[102]⟩] 9)) g (.slice (some ⟨g, 0, none⟩) 3 cap) [1, 109, 0] := hr1.alloc _
  have HGL : Hid (g < (w1.alloc (.cells #[.string ⟨#[102]⟩] 9)).heap.size) := by rw [hid_iff]; simp; omega
  have hb3 : Below w.heap.size w (w1.alloc (.cells #[.string ⟨#[102]⟩] 9)) := hb1.trans (hb2.mono (by have := hb1.size; omega))
  clear hc2 hr1 hb1 hb2 hgl
  go_wp2_with fail
  generalize w1.alloc (.cells #[.string ⟨#[102]⟩] 9) = w2 at *
  refine hof.mono ?_
  rintro e w3 ⟨rfl, hb4⟩
  have hgl := HGL.out
  have hr3 : Wire.Row w3 g (.slice (some ⟨g, 0, none⟩) 3 cap) [1, 109, 0] := hr2.kept (S := fun k => w2.heap.size ≤ k) ⟨hb4.os, hb4.tape, hb4.output, hb4.size, fun k hk hn => hb4.block k hk⟩ (fun _ h => by omega)
  have hr4 := hr3.alloc (.cells #[.string ⟨#[]⟩, .slice none 0 0] 24)
  have hst := hr4.rd.string
  rw [k_str] at hst
  have hb5 : Below w.heap.size w (w3.alloc (.cells #[.string ⟨#[]⟩, .slice none 0 0] 24)) := (hb3.trans (hb4.mono (by have := hb3.size; omega))).alloc (by have := hb3.size; have := hb4.size; omega) _
  clear hr2 hr3 hr4 hb3 hb4 hof HGL hgl
  go_wp2
  go_ret
  exact ⟨rfl, hb5⟩
end Go.Proofs.YtalbjbahgbkifaaGreat
