/-
  The package's defined, where a module has consts alone, their bodies all alike.
-/
import Derived.Test.YtfddnaeldpafmaaIfaceFind2
namespace Go.Proofs.Ytfddnaeldpafmaa
open Go.RowKit

/-- Consts in a row, each a name and a type, the bodies' cells being b2 to b10. -/
def KdR (F : Nat → Prop) (w : World) (b2 b3 b4 b5 b6 b7 b8 b9 b10 : Value) (v : Value) (ks : List (List UInt8 × List UInt8)) : Prop :=
  (∃ a c, v = .slice a 0 c ∧ ks = []) ∨ ∃ g o cap, v = .slice (some ⟨g, o, none⟩) ks.length cap ∧ F g ∧ ∀ (j : Nat) x, ks[j]? = some x → w.cell? ⟨g, o + j * 11, none⟩ = some (.string (str x.1)) ∧ w.cell? ⟨g, o + j * 11 + 1, none⟩ = some (.string (str x.2)) ∧ w.cell? ⟨g, o + j * 11 + 2, none⟩ = some b2 ∧ w.cell? ⟨g, o + j * 11 + 3, none⟩ = some b3 ∧ w.cell? ⟨g, o + j * 11 + 4, none⟩ = some b4 ∧ w.cell? ⟨g, o + j * 11 + 5, none⟩ = some b5 ∧ w.cell? ⟨g, o + j * 11 + 6, none⟩ = some b6 ∧ w.cell? ⟨g, o + j * 11 + 7, none⟩ = some b7 ∧ w.cell? ⟨g, o + j * 11 + 8, none⟩ = some b8 ∧ w.cell? ⟨g, o + j * 11 + 9, none⟩ = some b9 ∧ w.cell? ⟨g, o + j * 11 + 10, none⟩ = some b10
theorem KdR.below {F : Nat → Prop} {H : Nat} {w w' : World} {b2 b3 b4 b5 b6 b7 b8 b9 b10 v : Value} {ks : List (List UInt8 × List UInt8)} (h : KdR F w b2 b3 b4 b5 b6 b7 b8 b9 b10 v ks) (hb : Below H w w') (hF : ∀ g, F g → g < H) : KdR F w' b2 b3 b4 b5 b6 b7 b8 b9 b10 v ks := by
  rcases h with h | ⟨g, o, cap, h1, h2, h3⟩
  · exact .inl h
  · refine .inr ⟨g, o, cap, h1, h2, fun j x hj => ?_⟩
    obtain ⟨q0, q1, q2, q3, q4, q5, q6, q7, q8, q9, q10⟩ := h3 j x hj
    have hq := hb.block g (hF g h2)
    exact ⟨(World.cell?_of_block hq).trans q0, (World.cell?_of_block hq).trans q1, (World.cell?_of_block hq).trans q2, (World.cell?_of_block hq).trans q3, (World.cell?_of_block hq).trans q4, (World.cell?_of_block hq).trans q5, (World.cell?_of_block hq).trans q6, (World.cell?_of_block hq).trans q7, (World.cell?_of_block hq).trans q8, (World.cell?_of_block hq).trans q9, (World.cell?_of_block hq).trans q10⟩
theorem KdR.at {F : Nat → Prop} {w : World} {b2 b3 b4 b5 b6 b7 b8 b9 b10 v : Value} {ks : List (List UInt8 × List UInt8)} (h : KdR F w b2 b3 b4 b5 b6 b7 b8 b9 b10 v ks) (j : Nat) (hj : j < ks.length) : ∃ g o cap, v = .slice (some ⟨g, o, none⟩) ks.length cap ∧ F g ∧ w.cell? ⟨g, o + j * 11, none⟩ = some (.string (str ks[j].1)) ∧ w.cell? ⟨g, o + j * 11 + 1, none⟩ = some (.string (str ks[j].2)) ∧ w.cell? ⟨g, o + j * 11 + 2, none⟩ = some b2 ∧ w.cell? ⟨g, o + j * 11 + 3, none⟩ = some b3 ∧ w.cell? ⟨g, o + j * 11 + 4, none⟩ = some b4 ∧ w.cell? ⟨g, o + j * 11 + 5, none⟩ = some b5 ∧ w.cell? ⟨g, o + j * 11 + 6, none⟩ = some b6 ∧ w.cell? ⟨g, o + j * 11 + 7, none⟩ = some b7 ∧ w.cell? ⟨g, o + j * 11 + 8, none⟩ = some b8 ∧ w.cell? ⟨g, o + j * 11 + 9, none⟩ = some b9 ∧ w.cell? ⟨g, o + j * 11 + 10, none⟩ = some b10 := by
  rcases h with ⟨a, c, rfl, rfl⟩ | ⟨g, o, cap, rfl, hg, h⟩
  · simp at hj
  · exact ⟨g, o, cap, rfl, hg, h j _ (List.getElem?_eq_getElem hj)⟩
theorem KdR.shape {F : Nat → Prop} {w : World} {b2 b3 b4 b5 b6 b7 b8 b9 b10 v : Value} {ks : List (List UInt8 × List UInt8)} (h : KdR F w b2 b3 b4 b5 b6 b7 b8 b9 b10 v ks) : ∃ a c, v = .slice a ks.length c := by
  rcases h with ⟨a, c, rfl, rfl⟩ | ⟨g, o, cap, rfl, _⟩
  · exact ⟨a, c, rfl⟩
  · exact ⟨_, _, rfl⟩
theorem sizeCd : (Try.prog.info? 36).map (·.size) = some 11 := by kernel_rfl
theorem row_new (w : World) (old cs : Array Value) (t : TypeId) : Below w.heap.size w ((w.alloc (.cells old t)).setRow w.heap.size cs) ∧ ((w.alloc (.cells old t)).setRow w.heap.size cs).heap[w.heap.size]? = some (.cells cs t (0, 0)) :=
  ⟨((Below.refl _ w).alloc (Nat.le_refl _) _).trans (setRow_below _ _ _), setRow_heap _ _ _ _ t (0, 0) (World.alloc_heap_new w _)⟩
def findK (ks : List (List UInt8 × List UInt8)) (q : List UInt8) : Option (List UInt8 × List UInt8) := ks.find? (fun x => decide (x.1 = q))
theorem findK_at (ks : List (List UInt8 × List UInt8)) (q : List UInt8) (k : Nat) (h : k < ks.length) : findK (ks.drop k) q = if ks[k].1 = q then some ks[k] else findK (ks.drop (k + 1)) q := by
  rw [List.drop_eq_getElem_cons h, findK, List.find?_cons]
  by_cases e : ks[k].1 = q
  · simp [e]
  · simp [e, findK]
def kIt (x : List UInt8 × List UInt8) : It := ⟨2, x.1, x.2, []⟩
def DefE (ks : List (List UInt8 × List UInt8)) (q : List UInt8) (w : World) (e : Ending) (w' : World) : Prop := e = .returned (.tuple #[itv (((findK ks q).map kIt).getD it0) (.slice none 0 0), .bool (findK ks q).isSome]) ∧ Below w.heap.size w w'
set_option maxHeartbeats 1000000 in
set_option maxRecDepth 1000000 in
theorem definedK (F : Nat → Prop) (nm : List UInt8) (ea : Option Addr) (en ec : Nat) (ka : Option Addr) (kc : Nat) (ks : List (List UInt8 × List UInt8)) (b2 b3 b4 b5 b6 b7 b8 b9 b10 : Value) (hone : ∀ cn ct : List UInt8, (#[.string (str cn), .string (str ct), b2, b3, b4, b5, b6, b7, b8, b9, b10] : Array Value).all (·.oneCell') = true) (q : List UInt8) (w : World)
    (h : KdR F w b2 b3 b4 b5 b6 b7 b8 b9 b10 (.slice ka ks.length kc) ks) (hF : ∀ g, F g → g < w.heap.size) (hok : ∀ x ∈ ks, Tk x.1 ∧ Tk x.2) (hq : Tk q) (hl : ks.length ≤ 1000000) :
    Calls Try.prog 9 #[.agg #[.string (str nm), .slice none 0 0, .slice ea en ec, .slice none 0 0, .slice ka ks.length kc, .slice none 0 0], .string (str q)] w (DefE ks q w) := by
  have hb0 : Below w.heap.size w ((w.alloc (.cells #[.string (str nm), .slice none 0 0, .slice ea en ec, .slice none 0 0, .slice ka ks.length kc, .slice none 0 0] 28)).alloc (.cells #[.int .i64 0, .string ⟨#[]⟩, .string ⟨#[]⟩, .slice none 0 0] 47)) := ((Below.refl _ _).alloc (Nat.le_refl _) _).alloc (by simp) _
  have hSz : ∀ u, Below (w.heap.size + 2) ((w.alloc (.cells #[.string (str nm), .slice none 0 0, .slice ea en ec, .slice none 0 0, .slice ka ks.length kc, .slice none 0 0] 28)).alloc (.cells #[.int .i64 0, .string ⟨#[]⟩, .string ⟨#[]⟩, .slice none 0 0] 47)) u → w.heap.size + 2 ≤ u.heap.size := fun u hu => by have := hu.size; simpa using this
  have hN : ∀ u, Below (w.heap.size + 2) ((w.alloc (.cells #[.string (str nm), .slice none 0 0, .slice ea en ec, .slice none 0 0, .slice ka ks.length kc, .slice none 0 0] 28)).alloc (.cells #[.int .i64 0, .string ⟨#[]⟩, .string ⟨#[]⟩, .slice none 0 0] 47)) u → Below w.heap.size w u := fun u hu => hb0.trans (hu.mono (by omega))
  have hR : ∀ u, Below (w.heap.size + 2) ((w.alloc (.cells #[.string (str nm), .slice none 0 0, .slice ea en ec, .slice none 0 0, .slice ka ks.length kc, .slice none 0 0] 28)).alloc (.cells #[.int .i64 0, .string ⟨#[]⟩, .string ⟨#[]⟩, .slice none 0 0] 47)) u → u.heap[w.heap.size + 1]? = some (.cells #[.int .i64 0, .string ⟨#[]⟩, .string ⟨#[]⟩, .slice none 0 0] 47 (0, 0)) := fun u hu => (hu.block _ (by omega)).trans (by have := World.alloc_heap_new (w.alloc (.cells #[.string (str nm), .slice none 0 0, .slice ea en ec, .slice none 0 0, .slice ka ks.length kc, .slice none 0 0] 28)) (.cells #[.int .i64 0, .string ⟨#[]⟩, .string ⟨#[]⟩, .slice none 0 0] 47); simpa using this)
  have hS : ∀ u, Below (w.heap.size + 2) ((w.alloc (.cells #[.string (str nm), .slice none 0 0, .slice ea en ec, .slice none 0 0, .slice ka ks.length kc, .slice none 0 0] 28)).alloc (.cells #[.int .i64 0, .string ⟨#[]⟩, .string ⟨#[]⟩, .slice none 0 0] 47)) u → u.cell? ⟨w.heap.size, 3, none⟩ = some (.slice none 0 0) ∧ u.cell? ⟨w.heap.size, 4, none⟩ = some (.slice ka ks.length kc) ∧ u.cell? ⟨w.heap.size, 5, none⟩ = some (.slice none 0 0) := fun u hu => by
    have k1 : u.heap[w.heap.size]? = some (.cells #[.string (str nm), .slice none 0 0, .slice ea en ec, .slice none 0 0, .slice ka ks.length kc, .slice none 0 0] 28 (0, 0)) := (hu.block _ (by omega)).trans ((Below.heap_alloc _ _ _ (by simp)).trans (World.alloc_heap_new w _))
    exact ⟨by rw [cell_of_row u _ 3 _ _ _ k1]; rfl, by rw [cell_of_row u _ 4 _ _ _ k1]; rfl, by rw [cell_of_row u _ 5 _ _ _ k1]; rfl⟩
  have hK : ∀ u, Below (w.heap.size + 2) ((w.alloc (.cells #[.string (str nm), .slice none 0 0, .slice ea en ec, .slice none 0 0, .slice ka ks.length kc, .slice none 0 0] 28)).alloc (.cells #[.int .i64 0, .string ⟨#[]⟩, .string ⟨#[]⟩, .slice none 0 0] 47)) u → KdR F u b2 b3 b4 b5 b6 b7 b8 b9 b10 (.slice ka ks.length kc) ks := fun u hu => h.below (hN u hu) hF
  have hnext : ∀ u u', Below (w.heap.size + 2) ((w.alloc (.cells #[.string (str nm), .slice none 0 0, .slice ea en ec, .slice none 0 0, .slice ka ks.length kc, .slice none 0 0] 28)).alloc (.cells #[.int .i64 0, .string ⟨#[]⟩, .string ⟨#[]⟩, .slice none 0 0] 47)) u → Below u.heap.size u u' → Below (w.heap.size + 2) ((w.alloc (.cells #[.string (str nm), .slice none 0 0, .slice ea en ec, .slice none 0 0, .slice ka ks.length kc, .slice none 0 0] 28)).alloc (.cells #[.int .i64 0, .string ⟨#[]⟩, .string ⟨#[]⟩, .slice none 0 0] 47)) u' := fun u u' hu h => hu.trans (h.mono (hSz u hu))
  have G0 : Below (w.heap.size + 2) ((w.alloc (.cells #[.string (str nm), .slice none 0 0, .slice ea en ec, .slice none 0 0, .slice ka ks.length kc, .slice none 0 0] 28)).alloc (.cells #[.int .i64 0, .string ⟨#[]⟩, .string ⟨#[]⟩, .slice none 0 0] 47)) ((w.alloc (.cells #[.string (str nm), .slice none 0 0, .slice ea en ec, .slice none 0 0, .slice ka ks.length kc, .slice none 0 0] 28)).alloc (.cells #[.int .i64 0, .string ⟨#[]⟩, .string ⟨#[]⟩, .slice none 0 0] 47)) := Below.refl _ _
  obtain ⟨d3, d4, d5⟩ := hS _ G0
  clear h hb0
  go_enter Try.func9, Try.ntmps9
  go_wp2
  generalize hW : ((w.alloc (.cells #[.string (str nm), .slice none 0 0, .slice ea en ec, .slice none 0 0, .slice ka ks.length kc, .slice none 0 0] 28)).alloc (.cells #[.int .i64 0, .string ⟨#[]⟩, .string ⟨#[]⟩, .slice none 0 0] 47)) = W2 at *
  clear hW
  go_loopg [15] 1 (fun gk i wr => i = .int .i64 0 ∧ wr = W2)
  case atStart => exact ⟨rfl, rfl⟩
  case round =>
    obtain ⟨rfl, rfl⟩ := hrel
    go_wp2
    rename World => W2
    go_loopg [32] ks.length (fun g i wr => ∃ (k : Nat), g + k = ks.length ∧ i = .int .i64 (k : Int) ∧ Hid (findK ks q = findK (ks.drop k) q) ∧ Below (w.heap.size + 2) W2 wr)
    case atStart => exact ⟨0, by simp, rfl, by simp [Hid], G0⟩
    case round =>
      obtain ⟨k, hg, rfl, hqq, Gr⟩ := hrel
      clear d3 d4 d5
      obtain ⟨d3, d4, d5⟩ := hS _ Gr
      by_cases hk : k < ks.length
      · obtain ⟨bk, o, c, e1, hgF, q0, q1, q2, q3, q4, q5, q6, q7, q8, q9, q10⟩ := (hK _ Gr).at k hk
        simp only [Value.slice.injEq, true_and] at e1
        obtain ⟨rfl, rfl⟩ := e1
        have hki : (k : Int) < (ks.length : Int) := by omega
        have hx := hok _ (List.getElem_mem hk)
        have HQ := hqq.out
        rw [findK_at ks q k hk] at HQ
        clear hqq hok
        generalize ks[k] = x at *
        obtain ⟨cn, ct⟩ := x
        simp only at q0 q1 HQ hx
        have he := eq_is cn q
        obtain ⟨hba, hro⟩ := row_new wr #[.string ⟨#[]⟩, .string ⟨#[]⟩, .int .i64 0, .int .i64 0, .string ⟨#[]⟩, .complex .f64 0 0, .string ⟨#[]⟩, .string ⟨#[]⟩, .slice none 0 0, .slice none 0 0, .slice none 0 0] #[.string (str cn), .string (str ct), b2, b3, b4, b5, b6, b7, b8, b9, b10] 36
        have hc0 : ((wr.alloc (.cells #[.string ⟨#[]⟩, .string ⟨#[]⟩, .int .i64 0, .int .i64 0, .string ⟨#[]⟩, .complex .f64 0 0, .string ⟨#[]⟩, .string ⟨#[]⟩, .slice none 0 0, .slice none 0 0, .slice none 0 0] 36)).setRow wr.heap.size #[.string (str cn), .string (str ct), b2, b3, b4, b5, b6, b7, b8, b9, b10]).cell? ⟨wr.heap.size, 0, none⟩ = some (.string (str cn)) := by rw [cell_of_row _ _ 0 _ _ _ hro]; rfl
        have hc1 : ((wr.alloc (.cells #[.string ⟨#[]⟩, .string ⟨#[]⟩, .int .i64 0, .int .i64 0, .string ⟨#[]⟩, .complex .f64 0 0, .string ⟨#[]⟩, .string ⟨#[]⟩, .slice none 0 0, .slice none 0 0, .slice none 0 0] 36)).setRow wr.heap.size #[.string (str cn), .string (str ct), b2, b3, b4, b5, b6, b7, b8, b9, b10]).cell? ⟨wr.heap.size, 1, none⟩ = some (.string (str ct)) := by rw [cell_of_row _ _ 1 _ _ _ hro]; rfl
        have Ga := hnext _ _ Gr hba
        have hlt : wr.heap.size < ((wr.alloc (.cells #[.string ⟨#[]⟩, .string ⟨#[]⟩, .int .i64 0, .int .i64 0, .string ⟨#[]⟩, .complex .f64 0 0, .string ⟨#[]⟩, .string ⟨#[]⟩, .slice none 0 0, .slice none 0 0, .slice none 0 0] 36)).setRow wr.heap.size #[.string (str cn), .string (str ct), b2, b3, b4, b5, b6, b7, b8, b9, b10]).heap.size := (Array.getElem?_eq_some_iff.1 hro).1
        by_cases hn : cn = q
        · have HN : Hid (cn = q) := hn
          rw [decide_eq_true hn] at he
          rw [if_pos hn] at HQ
          replace HQ := hidden HQ
          have hS1 : ∀ u, Below ((wr.alloc (.cells #[.string ⟨#[]⟩, .string ⟨#[]⟩, .int .i64 0, .int .i64 0, .string ⟨#[]⟩, .complex .f64 0 0, .string ⟨#[]⟩, .string ⟨#[]⟩, .slice none 0 0, .slice none 0 0, .slice none 0 0] 36)).setRow wr.heap.size #[.string (str cn), .string (str ct), b2, b3, b4, b5, b6, b7, b8, b9, b10]).heap.size ((wr.alloc (.cells #[.string ⟨#[]⟩, .string ⟨#[]⟩, .int .i64 0, .int .i64 0, .string ⟨#[]⟩, .complex .f64 0 0, .string ⟨#[]⟩, .string ⟨#[]⟩, .slice none 0 0, .slice none 0 0, .slice none 0 0] 36)).setRow wr.heap.size #[.string (str cn), .string (str ct), b2, b3, b4, b5, b6, b7, b8, b9, b10]) u → u.cell? ⟨wr.heap.size, 1, none⟩ = some (.string (str ct)) := fun u hu => (hu.cell (p := ⟨wr.heap.size, 1, none⟩) hlt).trans hc1
          have hR1 : ∀ u, Below ((wr.alloc (.cells #[.string ⟨#[]⟩, .string ⟨#[]⟩, .int .i64 0, .int .i64 0, .string ⟨#[]⟩, .complex .f64 0 0, .string ⟨#[]⟩, .string ⟨#[]⟩, .slice none 0 0, .slice none 0 0, .slice none 0 0] 36)).setRow wr.heap.size #[.string (str cn), .string (str ct), b2, b3, b4, b5, b6, b7, b8, b9, b10]).heap.size ((wr.alloc (.cells #[.string ⟨#[]⟩, .string ⟨#[]⟩, .int .i64 0, .int .i64 0, .string ⟨#[]⟩, .complex .f64 0 0, .string ⟨#[]⟩, .string ⟨#[]⟩, .slice none 0 0, .slice none 0 0, .slice none 0 0] 36)).setRow wr.heap.size #[.string (str cn), .string (str ct), b2, b3, b4, b5, b6, b7, b8, b9, b10]) u → u.heap[w.heap.size + 1]? = some (.cells #[.int .i64 0, .string ⟨#[]⟩, .string ⟨#[]⟩, .slice none 0 0] 47 (0, 0)) := fun u hu => hR _ (hnext _ _ Ga hu)
          have hN1 : ∀ u, Below ((wr.alloc (.cells #[.string ⟨#[]⟩, .string ⟨#[]⟩, .int .i64 0, .int .i64 0, .string ⟨#[]⟩, .complex .f64 0 0, .string ⟨#[]⟩, .string ⟨#[]⟩, .slice none 0 0, .slice none 0 0, .slice none 0 0] 36)).setRow wr.heap.size #[.string (str cn), .string (str ct), b2, b3, b4, b5, b6, b7, b8, b9, b10]).heap.size ((wr.alloc (.cells #[.string ⟨#[]⟩, .string ⟨#[]⟩, .int .i64 0, .int .i64 0, .string ⟨#[]⟩, .complex .f64 0 0, .string ⟨#[]⟩, .string ⟨#[]⟩, .slice none 0 0, .slice none 0 0, .slice none 0 0] 36)).setRow wr.heap.size #[.string (str cn), .string (str ct), b2, b3, b4, b5, b6, b7, b8, b9, b10]) u → Below w.heap.size w u := fun u hu => hN _ (hnext _ _ Ga hu)
          have hsr := hSz _ Gr
          have hS4 : ∀ u a0 a1 a2 a3, Below ((wr.alloc (.cells #[.string ⟨#[]⟩, .string ⟨#[]⟩, .int .i64 0, .int .i64 0, .string ⟨#[]⟩, .complex .f64 0 0, .string ⟨#[]⟩, .string ⟨#[]⟩, .slice none 0 0, .slice none 0 0, .slice none 0 0] 36)).setRow wr.heap.size #[.string (str cn), .string (str ct), b2, b3, b4, b5, b6, b7, b8, b9, b10]).heap.size ((wr.alloc (.cells #[.string ⟨#[]⟩, .string ⟨#[]⟩, .int .i64 0, .int .i64 0, .string ⟨#[]⟩, .complex .f64 0 0, .string ⟨#[]⟩, .string ⟨#[]⟩, .slice none 0 0, .slice none 0 0, .slice none 0 0] 36)).setRow wr.heap.size #[.string (str cn), .string (str ct), b2, b3, b4, b5, b6, b7, b8, b9, b10]) u → ((((u.setCell ⟨w.heap.size + 1, 0, none⟩ a0).setCell ⟨w.heap.size + 1, 1, none⟩ a1).setCell ⟨w.heap.size + 1, 2, none⟩ a2).setCell ⟨w.heap.size + 1, 3, none⟩ a3).cell? ⟨wr.heap.size, 1, none⟩ = some (.string (str ct)) := fun u a0 a1 a2 a3 hu => (World.cell?_of_block (a := ⟨wr.heap.size, 1, none⟩) (box4_block u _ _ (by show wr.heap.size ≠ _; omega) _ _ _ _)).trans (hS1 u hu)
          have hnx2 : ∀ u u', Below ((wr.alloc (.cells #[.string ⟨#[]⟩, .string ⟨#[]⟩, .int .i64 0, .int .i64 0, .string ⟨#[]⟩, .complex .f64 0 0, .string ⟨#[]⟩, .string ⟨#[]⟩, .slice none 0 0, .slice none 0 0, .slice none 0 0] 36)).setRow wr.heap.size #[.string (str cn), .string (str ct), b2, b3, b4, b5, b6, b7, b8, b9, b10]).heap.size ((wr.alloc (.cells #[.string ⟨#[]⟩, .string ⟨#[]⟩, .int .i64 0, .int .i64 0, .string ⟨#[]⟩, .complex .f64 0 0, .string ⟨#[]⟩, .string ⟨#[]⟩, .slice none 0 0, .slice none 0 0, .slice none 0 0] 36)).setRow wr.heap.size #[.string (str cn), .string (str ct), b2, b3, b4, b5, b6, b7, b8, b9, b10]) u → Below u.heap.size u u' → Below ((wr.alloc (.cells #[.string ⟨#[]⟩, .string ⟨#[]⟩, .int .i64 0, .int .i64 0, .string ⟨#[]⟩, .complex .f64 0 0, .string ⟨#[]⟩, .string ⟨#[]⟩, .slice none 0 0, .slice none 0 0, .slice none 0 0] 36)).setRow wr.heap.size #[.string (str cn), .string (str ct), b2, b3, b4, b5, b6, b7, b8, b9, b10]).heap.size ((wr.alloc (.cells #[.string ⟨#[]⟩, .string ⟨#[]⟩, .int .i64 0, .int .i64 0, .string ⟨#[]⟩, .complex .f64 0 0, .string ⟨#[]⟩, .string ⟨#[]⟩, .slice none 0 0, .slice none 0 0, .slice none 0 0] 36)).setRow wr.heap.size #[.string (str cn), .string (str ct), b2, b3, b4, b5, b6, b7, b8, b9, b10]) u' := fun u u' hu h => hu.trans (h.mono hu.size)
          have K0 : Below ((wr.alloc (.cells #[.string ⟨#[]⟩, .string ⟨#[]⟩, .int .i64 0, .int .i64 0, .string ⟨#[]⟩, .complex .f64 0 0, .string ⟨#[]⟩, .string ⟨#[]⟩, .slice none 0 0, .slice none 0 0, .slice none 0 0] 36)).setRow wr.heap.size #[.string (str cn), .string (str ct), b2, b3, b4, b5, b6, b7, b8, b9, b10]).heap.size ((wr.alloc (.cells #[.string ⟨#[]⟩, .string ⟨#[]⟩, .int .i64 0, .int .i64 0, .string ⟨#[]⟩, .complex .f64 0 0, .string ⟨#[]⟩, .string ⟨#[]⟩, .slice none 0 0, .slice none 0 0, .slice none 0 0] 36)).setRow wr.heap.size #[.string (str cn), .string (str ct), b2, b3, b4, b5, b6, b7, b8, b9, b10]) ((wr.alloc (.cells #[.string ⟨#[]⟩, .string ⟨#[]⟩, .int .i64 0, .int .i64 0, .string ⟨#[]⟩, .complex .f64 0 0, .string ⟨#[]⟩, .string ⟨#[]⟩, .slice none 0 0, .slice none 0 0, .slice none 0 0] 36)).setRow wr.heap.size #[.string (str cn), .string (str ct), b2, b3, b4, b5, b6, b7, b8, b9, b10]).drew := (Below.refl _ _).drew
          clear hn hS hK hR hN hnext hSz hba hro hlt Ga
          go_wp2_with (refine wpList_store_row rfl 36 (.tmp 9) (.tmp 35) rfl wr.heap.size #[.string (str cn), .string (str ct), b2, b3, b4, b5, b6, b7, b8, b9, b10] rfl rfl 36 _ (World.alloc_heap_new wr _) sizeCd rfl (hone cn ct) ?_)
          generalize ((wr.alloc (.cells #[.string ⟨#[]⟩, .string ⟨#[]⟩, .int .i64 0, .int .i64 0, .string ⟨#[]⟩, .complex .f64 0 0, .string ⟨#[]⟩, .string ⟨#[]⟩, .slice none 0 0, .slice none 0 0, .slice none 0 0] 36)).setRow wr.heap.size #[.string (str cn), .string (str ct), b2, b3, b4, b5, b6, b7, b8, b9, b10]) = W3 at *
          have s1 := hS1 _ K0
          have hr := hR1 _ K0
          obtain ⟨r0, r1, r2, r3, rf0, rf1, rf2, rf3⟩ := four4 hr
          clear hc0 hc1 d3 d4 d5 q0 q1 q2 q3 q4 q5 q6 q7 q8 q9 q10
          go_region_held3 (fun u => u.cell? ⟨wr.heap.size, 1, none⟩ = some (.string (str ct))) (first | go_keep | exact hS1 _ (by assumption) | exact hS4 _ _ _ _ _ (by assumption)) (first
            | (go_at_call_of 8 (str q); refine (sCloneT q _ hq).mono ?_; rintro e wa ⟨rfl, hb5⟩; have Gx := hnx2 _ _ (by assumption) hb5; have s1 := hS1 _ Gx; have hr := hR1 _ Gx; obtain ⟨r0, r1, r2, r3, rf0, rf1, rf2, rf3⟩ := four4 hr; clear hb5)
            | (go_at_call_of 8 (str ct); refine (sCloneT ct _ hx.2).mono ?_; rintro e wb ⟨rfl, hb6⟩; have Gy := hnx2 _ _ (by assumption) hb6; have s1 := hS1 _ Gy; have hr := hR1 _ Gy; obtain ⟨r0, r1, r2, r3, rf0, rf1, rf2, rf3⟩ := four4 hr; clear hb6))
          all_goals (
            go_wp2
            (try simp only [Exit.inBlock, Exit.then])
            refine bodyPost_ret (res7 rfl _ _ (w.heap.size + 1) 47 _ (0, 0) _ rfl (box4_set hr _ _ _ _) Try.underlying47 rfl sizeIt) rfl ?_
            exact ⟨by rw [HQ.out, HN.out]; rfl, box4_below (hN1 _ (by assumption)) (by omega) _ _ _ _⟩)
        · rw [decide_eq_false hn] at he
          rw [if_neg hn] at HQ
          replace HQ := hidden HQ
          clear hn hS hK hR hN hnext hSz hro hlt
          go_wp2_with (refine wpList_store_row rfl 36 (.tmp 9) (.tmp 35) rfl wr.heap.size #[.string (str cn), .string (str ct), b2, b3, b4, b5, b6, b7, b8, b9, b10] rfl rfl 36 _ (World.alloc_heap_new wr _) sizeCd rfl (hone cn ct) ?_)
          go_roundg (ks.length - (k + 1))
          case measure => omega
          case rel => exact ⟨k + 1, by omega, by go_num, HQ, Ga⟩
      · have hki : ¬ (k : Int) < (ks.length : Int) := by omega
        have HX : Hid (findK ks q = none) := by
          rw [hid_iff, hqq.out, List.drop_of_length_le (by omega)]
          rfl
        have hr := hR _ Gr
        have hbw := (hN _ Gr).trans ((setRow_below wr (w.heap.size + 1) #[.int .i64 0, .string ⟨#[]⟩, .string ⟨#[]⟩, .slice none 0 0]).mono (by omega))
        clear hqq hK hS hok
        go_wp2
        rename World => W5
        go_loopg [50] 1 (fun gk i wr => i = .int .i64 0 ∧ wr = W5)
        case atStart => exact ⟨rfl, rfl⟩
        case round =>
          obtain ⟨rfl, rfl⟩ := hrel
          rename World => W6
          clear d3 d4 d5
          go_wp2_with (refine wpList_store_row rfl 47 (.tmp 4) (.tmp 65) rfl (w.heap.size + 1) #[.int .i64 0, .string ⟨#[]⟩, .string ⟨#[]⟩, .slice none 0 0] rfl rfl 47 #[.int .i64 0, .string ⟨#[]⟩, .string ⟨#[]⟩, .slice none 0 0] hr sizeIt rfl (by kernel_rfl) ?_)
          (try simp only [Exit.inBlock, Exit.then])
          refine bodyPost_ret (res7 rfl _ _ (w.heap.size + 1) 47 #[.int .i64 0, .string ⟨#[]⟩, .string ⟨#[]⟩, .slice none 0 0] (0, 0) _ rfl (setRow_heap W6 (w.heap.size + 1) _ _ 47 (0, 0) hr) Try.underlying47 rfl sizeIt) rfl ?_
          exact ⟨by rw [HX.out]; rfl, hbw⟩
end Go.Proofs.Ytfddnaeldpafmaa
