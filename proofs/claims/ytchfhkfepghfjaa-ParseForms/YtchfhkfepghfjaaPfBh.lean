/-
  The statements' 'known': some of chapter 6's runs.
-/
import Derived.Test.YtchfhkfepghfjaaPfBf
import Derived.Test.YtchfhkfepghfjaaPfBg
namespace Go.Proofs.Ytchfhkfepghfjaa
open Go.RowKit

def KnownP (w : World) (e : Ending) (w' : World) : Prop := e = .returned (.bool true) ∧ Below w.heap.size w w'
def kT1 : Tr := ⟨1, 0, [], [lfP 1 [97, 100, 100], lfP 5 [120], lfP 7 [50, 105]], ⟨2, 9, []⟩⟩
def kF : Tr := ⟨1, 10, [], [lfP 11 [102, 117, 110], lfP 15 [102], ⟨1, 17, [], [], ⟨2, 18, []⟩⟩, lfP 20 [110, 117, 109], lfP 24 [49]], ⟨2, 25, []⟩⟩
def kT2 : Tr := ⟨1, 0, [], [lfP 1 [109, 111, 100, 117, 108, 101], lfP 8 [109], kF], ⟨2, 26, []⟩⟩
def kT3 : Tr := ⟨1, 0, [], [lfP 1 [109, 111, 100, 117, 108, 101], lfP 8 [77]], ⟨2, 9, []⟩⟩
theorem k_parse1 : parseR [40, 97, 100, 100, 32, 120, 32, 50, 105, 41] = .ok kT1 := by kernel_rfl
theorem k_parse2 : parseR [40, 109, 111, 100, 117, 108, 101, 32, 109, 32, 40, 102, 117, 110, 32, 102, 32, 40, 41, 32, 110, 117, 109, 32, 49, 41, 41] = .ok kT2 := by kernel_rfl
theorem k_parse3 : parseR [40, 109, 111, 100, 117, 108, 101, 32, 77, 41] = .ok kT3 := by kernel_rfl
def kX : Ex := ⟨6, 0, [97, 100, 100], 0, 0, [], [], [⟨3, 5, [120], 0, 0, [], [], [], [], [], []⟩, ⟨1, 7, [], 0, 2, [], [], [], [], [], []⟩], [], [], []⟩
theorem ex_num (m x : List UInt8) (p : Nat) (a b : Int) (hn : numP x = some (a, b)) : exprP m (lfP p x) = .ok ⟨1, p, [], a, b, [], [], [], [], [], []⟩ := by
  rw [exprP_eq, formP, if_neg (show ¬ (lfP p x).kind = 4 from by simp [lfP]), if_pos (show (lfP p x).kind = 3 from rfl)]
  have ht : (lfP p x).text = x := rfl
  rw [ht, hn]
  rfl
theorem k_expr : exprP [109] kT1 = .ok kX := by
  rw [exprP_eq, formP, if_neg (by simp [kT1]), if_neg (by simp [kT1]), if_neg (by rintro (h | h | h); exact h rfl; simp [kT1] at h; exact h rfl)]
  have h0 : (kid kT1 0).text = [97, 100, 100] := rfl
  rw [h0, headP, if_neg (by decide), if_neg (by decide), if_neg (by decide), if_neg (by decide), if_neg (by decide), if_neg (by decide), if_pos (by decide)]
  have hd : (kT1.kids.map (exprP [109])).drop 1 = [exprP [109] (lfP 5 [120]), exprP [109] (lfP 7 [50, 105])] := rfl
  rw [hd, ex_var [109] [120] 5 (by kernel_rfl) (by decide), ex_num [109] [50, 105] 7 0 2 (by kernel_rfl)]
  rfl
theorem k_item : itemX kF = funK := by decide
theorem k_fun : funP [109] kF = .ok ([102], [], [110, 117, 109], ⟨1, 24, [], 1, 0, [], [], [], [], [], []⟩) := by
  unfold funP
  rw [if_neg (by decide)]
  have h1 : kid kF 1 = lfP 15 [102] := rfl
  have h2 : (kid kF 2).kids = [] := rfl
  have h3 : kid kF 3 = lfP 20 [110, 117, 109] := rfl
  have h4 : kid kF 4 = lfP 24 [49] := rfl
  rw [h1, h2, h3, h4, ex_num [109] [49] 24 1 0 (by kernel_rfl), show readR [109] (lfP 20 [110, 117, 109]) = .ok [110, 117, 109] from by rw [readR_eq, show partsT (lfP 20 [110, 117, 109]) = [] from rfl]; kernel_rfl]
  rfl
theorem k_tx1 : TxOk kT1 ∧ nodes kT1 ≤ 20000 := by constructor <;> simp [kT1, lfP, TxOk, nodes]
theorem k_tx2 : TxOk kT2 ∧ nodes kT2 ≤ 20000 := by constructor <;> simp [kT2, kF, lfP, TxOk, nodes]
theorem k_tx3 : TxOk kT3 := by simp [kT3, lfP, TxOk]
theorem own_first {B T sz n : Nat} {u : World} {x v : Value} {xs : List Value} (h : u.ownsRow B T sz x (n + 1) xs) (hv : xs[0]? = some v) : ∃ g cap, x = .slice (some ⟨g, 0, none⟩) (n + 1) cap ∧ B ≤ g ∧ g < u.heap.size ∧ u.cell? ⟨g, 0, none⟩ = some v := by
  rcases h.2 with ⟨_, h0⟩ | ⟨g, cap, cur, rfl, hb, hg, _⟩
  · cases h0
  · refine ⟨g, cap, rfl, hb, (Array.getElem?_eq_some_iff.1 hg).1, ?_⟩
    have := h.cells (g := g) rfl 0 v hv
    rwa [add_at] at this
theorem k_two : floatOfInt .f64 2 = 4611686018427387904 := by kernel_rfl
theorem k_zero : floatOfInt .f64 0 = 0 := by kernel_rfl
/-- The expression of the run in memory. -/
theorem k_mem {F : Nat → Prop} {w : World} {kv pv av : Value} (h : XI F w kv pv av kX) : ∃ g o cap, kv = .slice (some ⟨g, o, none⟩) 2 cap ∧ F g ∧ w.cell? ⟨g, o + 9 + 3, none⟩ = some (.complex .f64 0 4611686018427387904) := by
  obtain ⟨h1, _, _⟩ := (XI_iff F w kv pv av kX).1 h
  obtain ⟨g, o, cap, k', p', a', e1, hF, _, hc⟩ := h1.at 1 (by decide)
  obtain ⟨_, _, _, h3, _⟩ := hc
  refine ⟨g, o, cap, e1, hF, ?_⟩
  rw [show o + 9 + 3 = o + (1 * 9 + 3) by omega, h3]
  show some (Value.complex .f64 (floatOfInt .f64 0) (floatOfInt .f64 2)) = _
  rw [k_zero, k_two]
theorem expr_new (w : World) (X : Array Value) : ((w.alloc (.cells #[.int .i64 0, .int .i64 0, .string ⟨#[]⟩, .complex .f64 0 0, .string ⟨#[]⟩, .string ⟨#[]⟩, .slice none 0 0, .slice none 0 0, .slice none 0 0] 36)).setRow w.heap.size X).heap[w.heap.size]? = some (.cells X 36 (0, 0)) ∧ Below w.heap.size w ((w.alloc (.cells #[.int .i64 0, .int .i64 0, .string ⟨#[]⟩, .complex .f64 0 0, .string ⟨#[]⟩, .string ⟨#[]⟩, .slice none 0 0, .slice none 0 0, .slice none 0 0] 36)).setRow w.heap.size X) ∧ w.heap.size < ((w.alloc (.cells #[.int .i64 0, .int .i64 0, .string ⟨#[]⟩, .complex .f64 0 0, .string ⟨#[]⟩, .string ⟨#[]⟩, .slice none 0 0, .slice none 0 0, .slice none 0 0] 36)).setRow w.heap.size X).heap.size ∧ (w.alloc (.cells #[.int .i64 0, .int .i64 0, .string ⟨#[]⟩, .complex .f64 0 0, .string ⟨#[]⟩, .string ⟨#[]⟩, .slice none 0 0, .slice none 0 0, .slice none 0 0] 36)).heap[w.heap.size]? = some (.cells exz.toArray 36 (0, 0)) := by
  have h8 := at_zero w
  unfold At at h8
  rw [List.nil_append, List.append_nil] at h8
  have K := setRow_kept (w.alloc (.cells #[.int .i64 0, .int .i64 0, .string ⟨#[]⟩, .complex .f64 0 0, .string ⟨#[]⟩, .string ⟨#[]⟩, .slice none 0 0, .slice none 0 0, .slice none 0 0] 36)) w.heap.size X
  have hr := setRow_heap _ w.heap.size _ X 36 (0, 0) h8
  exact ⟨hr, ((Below.refl _ _).alloc (Nat.le_refl _) _).trans (K.below (by simp) (fun k hk e => by omega)), (Array.getElem?_eq_some_iff.1 hr).1, h8⟩
set_option maxHeartbeats 4000000 in
set_option maxRecDepth 1000000 in
theorem known6 (w : World) : Calls Try.prog 7 #[] w (KnownP w) := by
  have h1 : ∀ u, Calls Try.prog 5 #[.string ⟨#[40, 97, 100, 100, 32, 120, 32, 50, 105, 41]⟩] u (PE (.ok kT1) u) := by
    intro u
    have := parse ⟨#[40, 97, 100, 100, 32, 120, 32, 50, 105, 41]⟩ u
    rwa [show parseR (ByteArray.data ⟨#[40, 97, 100, 100, 32, 120, 32, 50, 105, 41]⟩).toList = .ok kT1 from k_parse1] at this
  have h3 : ∀ u, Calls Try.prog 13 #[.string ⟨#[40, 109, 111, 100, 117, 108, 101, 32, 109, 32, 40, 102, 117, 110, 32, 102, 32, 40, 41, 32, 110, 117, 109, 32, 49, 41, 41]⟩] u (ModuleF [109] kT2 1 u) := fun u => module_funs ⟨#[40, 109, 111, 100, 117, 108, 101, 32, 109, 32, 40, 102, 117, 110, 32, 102, 32, 40, 41, 32, 110, 117, 109, 32, 49, 41, 41]⟩ u kT2 k_parse2 k_tx2.1 k_tx2.2 rfl rfl [109] rfl (by decide) 0 rfl (by omega) (fun i hi => by
    obtain rfl : i = 0 := by omega
    exact ⟨k_item, _, k_fun⟩)
  have h4 : ∀ u, Calls Try.prog 13 #[.string ⟨#[40, 109, 111, 100, 117, 108, 101, 32, 77, 41]⟩] u (ModuleN 13 8 u) := fun u => module_bad ⟨#[40, 109, 111, 100, 117, 108, 101, 32, 77, 41]⟩ u kT3 k_parse3 k_tx3 rfl rfl [77] rfl (by decide) rfl 8 rfl
  go_enter Try.func7, Try.ntmps7
  go_wp2_with fail
  refine (h1 _).mono ?_
  rintro e w1 ⟨⟨kv, rfl, ht⟩, hb1⟩
  obtain ⟨ka, kc, rfl⟩ := ht.shape
  clear h1
  have hF1 : ∀ g, (w.heap.size ≤ g ∧ g < w1.heap.size) → g < w1.heap.size := fun g hg => hg.2
  have hb2 : Below w1.heap.size w1 (w1.alloc (.cells #[.int .i64 (kT1.kind : Int), .int .i64 (kT1.place : Int), .string (str kT1.text), .slice ka kT1.kids.length kc] 27)) := (Below.refl _ _).alloc (Nat.le_refl _) _
  have ht2 := ht.below hb2 hF1
  have hb3 := below_trans hb1 hb2
  have hex := exprOf (fun g => w.heap.size ≤ g ∧ g < w1.heap.size) kT1 (.slice ka kT1.kids.length kc) [109] _ (fun g hg => by simp; omega) ht2 k_tx1.1 k_tx1.2 (by decide)
  rw [k_expr] at hex
  unfold trv at hex ⊢
  clear ht hb1 hb2 ht2 hF1
  go_wp2_with fail
  refine hex.mono ?_
  rintro e w3 ⟨⟨kv, pv, av, rfl, hx⟩, hb4⟩
  obtain ⟨g, o, cap, rfl, hg, hc⟩ := k_mem hx
  have hb5 := below_trans hb3 hb4
  obtain ⟨a1, c1, rfl⟩ := ((XI_iff _ _ _ _ _ _).1 hx).2.1.shape
  obtain ⟨a2, c2, rfl⟩ := ((XI_iff _ _ _ _ _ _).1 hx).2.2.shape
  have hgl := hg.2
  rw [show (exc kX (.slice (some ⟨g, o, none⟩) 2 cap) (.slice a1 kX.params.length c1) (.slice a2 kX.bods.length c2)).toArray = #[.int .i64 6, .int .i64 0, .string ⟨#[97, 100, 100]⟩, .complex .f64 0 0, .string ⟨#[]⟩, .string ⟨#[]⟩, .slice (some ⟨g, o, none⟩) 2 cap, .slice a1 0 c1, .slice a2 0 c2] from by
    simp only [exc, kX, k_zero]; rfl]
  clear hb3 hb4 hx hg hex
  obtain ⟨hX6, hb6, hs6, h8⟩ := expr_new w3 #[.int .i64 6, .int .i64 0, .string ⟨#[97, 100, 100]⟩, .complex .f64 0 0, .string ⟨#[]⟩, .string ⟨#[]⟩, .slice (some ⟨g, o, none⟩) 2 cap, .slice a1 0 c1, .slice a2 0 c2]
  have hb7 := below_trans hb5 hb6
  have hc6 := (World.cell?_of_block (a := ⟨g, o + 9 + 3, none⟩) (hb6.block g hgl)).trans hc
  have h9 : (Try.prog.info? 36).map (fun i => i.size) = some (#[.int .i64 6, .int .i64 0, .string ⟨#[97, 100, 100]⟩, .complex .f64 0 0, .string ⟨#[]⟩, .string ⟨#[]⟩, .slice (some ⟨g, o, none⟩) 2 cap, .slice a1 0 c1, .slice a2 0 c2] : Array Value).size := sizeX
  have hall : (#[.int .i64 6, .int .i64 0, .string ⟨#[97, 100, 100]⟩, .complex .f64 0 0, .string ⟨#[]⟩, .string ⟨#[]⟩, .slice (some ⟨g, o, none⟩) 2 cap, .slice a1 0 c1, .slice a2 0 c2] : Array Value).all (fun v => v.oneCell') = true := by first | kernel_rfl | rfl | simp [Value.oneCell']
  have HG : Hid (g < ((w3.alloc (.cells #[.int .i64 0, .int .i64 0, .string ⟨#[]⟩, .complex .f64 0 0, .string ⟨#[]⟩, .string ⟨#[]⟩, .slice none 0 0, .slice none 0 0, .slice none 0 0] 36)).setRow w3.heap.size #[.int .i64 6, .int .i64 0, .string ⟨#[97, 100, 100]⟩, .complex .f64 0 0, .string ⟨#[]⟩, .string ⟨#[]⟩, .slice (some ⟨g, o, none⟩) 2 cap, .slice a1 0 c1, .slice a2 0 c2]).heap.size ∧ w3.heap.size < ((w3.alloc (.cells #[.int .i64 0, .int .i64 0, .string ⟨#[]⟩, .complex .f64 0 0, .string ⟨#[]⟩, .string ⟨#[]⟩, .slice none 0 0, .slice none 0 0, .slice none 0 0] 36)).setRow w3.heap.size #[.int .i64 6, .int .i64 0, .string ⟨#[97, 100, 100]⟩, .complex .f64 0 0, .string ⟨#[]⟩, .string ⟨#[]⟩, .slice (some ⟨g, o, none⟩) 2 cap, .slice a1 0 c1, .slice a2 0 c2]).heap.size) := by rw [hid_iff]; omega
  clear hc hb5 hb6 hs6
  go_wp2_with (refine wpList_store_row rfl 36 (.tmp 4) (.tmp 21) rfl w3.heap.size #[.int .i64 6, .int .i64 0, .string ⟨#[97, 100, 100]⟩, .complex .f64 0 0, .string ⟨#[]⟩, .string ⟨#[]⟩, .slice (some ⟨g, o, none⟩) 2 cap, .slice a1 0 c1, .slice a2 0 c2] rfl rfl 36 exz.toArray h8 h9 rfl hall ?_; generalize (w3.alloc (.cells #[.int .i64 0, .int .i64 0, .string ⟨#[]⟩, .complex .f64 0 0, .string ⟨#[]⟩, .string ⟨#[]⟩, .slice none 0 0, .slice none 0 0, .slice none 0 0] 36)).setRow w3.heap.size #[.int .i64 6, .int .i64 0, .string ⟨#[97, 100, 100]⟩, .complex .f64 0 0, .string ⟨#[]⟩, .string ⟨#[]⟩, .slice (some ⟨g, o, none⟩) 2 cap, .slice a1 0 c1, .slice a2 0 c2] = w4 at *)
  refine (h3 w4).mono ?_
  rintro e w5 ⟨fv, xs, rfl, hof, hN, hb8⟩
  obtain ⟨c, hc1, hc2⟩ := hN 0 (by omega)
  have e1 : c.1 = [102] := by
    rw [show kid kT2 (0 + 2) = kF from rfl, k_fun] at hc1
    cases hc1
    rfl
  rw [e1] at hc2
  obtain ⟨fg, fcap, hfv, hfg, hfl, hfc⟩ := own_first hof hc2
  subst hfv
  have hb9 := below_trans hb7 hb8
  have hgs := HG.out
  have hX8 := (hb8.block _ hgs.2).trans hX6
  have hc8 := (World.cell?_of_block (a := ⟨g, o + 9 + 3, none⟩) (hb8.block g hgs.1)).trans hc6
  have hsz := hb8.size
  have HG2 : Hid (g < w5.heap.size ∧ w3.heap.size < w5.heap.size ∧ fg < w5.heap.size) := by rw [hid_iff]; omega
  clear h3 hX6 hc6 hb7 hb8 hof hN hc1 hc2 e1 HG hgs hsz
  have hb10 : Below w5.heap.size w5 (w5.alloc (.cells #[.string (str [109]), .slice none 0 0, .slice none 0 0, .slice none 0 0, .slice none 0 0, .slice (some ⟨fg, 0, none⟩) 1 fcap] 59)) := (Below.refl _ _).alloc (Nat.le_refl _) _
  go_wp2_with fail
  refine (h4 _).mono ?_
  rintro e w7 ⟨rfl, hb11⟩
  have hb12 := below_trans (below_trans hb9 hb10) hb11
  obtain ⟨s1, s2, s3⟩ := HG2.out
  have hM7 : w7.heap[w5.heap.size]? = some (.cells #[.string (str [109]), .slice none 0 0, .slice none 0 0, .slice none 0 0, .slice none 0 0, .slice (some ⟨fg, 0, none⟩) 1 fcap] 59 (0, 0)) := (hb11.block _ (by simp)).trans (heap_alloc_new w5 _)
  have hX9 := (hb11.block _ (by simp; omega)).trans ((hb10.block _ s2).trans hX8)
  have hc9 := (World.cell?_of_block (a := ⟨g, o + 9 + 3, none⟩) ((hb11.block g (by simp; omega)).trans (hb10.block g s1))).trans hc8
  have hf9 := (World.cell?_of_block (a := ⟨fg, 0, none⟩) ((hb11.block fg (by simp; omega)).trans (hb10.block fg s3))).trans hfc
  have x0 : w7.cell? ⟨w3.heap.size, 0, none⟩ = some (.int .i64 6) := by rw [cell_of_row w7 _ 0 _ _ _ hX9]; rfl
  have x2 : w7.cell? ⟨w3.heap.size, 2, none⟩ = some (.string ⟨#[97, 100, 100]⟩) := by rw [cell_of_row w7 _ 2 _ _ _ hX9]; rfl
  have x6 : w7.cell? ⟨w3.heap.size, 6, none⟩ = some (.slice (some ⟨g, o, none⟩) 2 cap) := by rw [cell_of_row w7 _ 6 _ _ _ hX9]; rfl
  have y5 : w7.cell? ⟨w5.heap.size, 5, none⟩ = some (.slice (some ⟨fg, 0, none⟩) 1 fcap) := by rw [cell_of_row w7 _ 5 _ _ _ hM7]; rfl
  have hb13 : Below w.heap.size w (w7.alloc (.cells #[.string ⟨#[]⟩, .slice none 0 0, .slice none 0 0, .slice none 0 0, .slice none 0 0, .slice none 0 0] 59)) := hb12.alloc (by have := hb12.size; omega) _
  have SZ : w3.heap.size < w7.heap.size ∧ w5.heap.size < w7.heap.size ∧ g < w7.heap.size ∧ fg < w7.heap.size := by
    have := hb11.size
    simp at this
    omega
  obtain ⟨z1, z2, z3, z4⟩ := SZ
  have hf9' : w7.cell? ⟨fg, 0, none⟩ = some (.string ⟨#[102]⟩) := hf9
  clear hX8 hc8 hb9 hb10 hb11 hb12 hM7 hX9 hfc hf9 HG2 h4 s1 s2 s3
  go_wp2
  go_ret
  exact ⟨rfl, hb13⟩
end Go.Proofs.Ytchfhkfepghfjaa
