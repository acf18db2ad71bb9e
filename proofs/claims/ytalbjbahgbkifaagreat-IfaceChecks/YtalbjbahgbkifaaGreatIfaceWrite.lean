/-
  The Writer beside blocks that stay; the package's writeItem.
-/
import Derived.Deep.LoopGhost
import Derived.Test.YtalbjbahgbkifaaGreatIfaceBytes
import Derived.Test.YtalbjbahgbkifaaGreatIfaceMem
import Derived.Test.YtalbjbahgbkifaaGreatWireWriter
namespace Go.Proofs.YtalbjbahgbkifaaGreat
open Go.RowKit

theorem keep_of {S : Nat → Prop} {w w' : World} (h : Wire.Kept S w w') : Kept S w w' := ⟨h.os, h.tape, h.output, h.size, h.block⟩
/-- A Writer at b that has written l; its blocks are none of D. -/
def WB (D : Nat → Prop) (w : World) (b : Nat) (l : List Nat) : Prop := ∃ g, Wire.WIs w b g l ∧ ¬ D b ∧ ¬ D g
def WP (D : Nat → Prop) (w : World) (b : Nat) (l : List Nat) (e : Ending) (w' : World) : Prop := e = .returned (.tuple #[]) ∧ WB D w' b l ∧ Kept (fun k => ¬ D k) w w'
theorem WB.of {D : Nat → Prop} {w w' : World} {b g g' : Nat} {l : List Nat} (hD : ∀ k, D k → k < w.heap.size) (hb : ¬ D b) (hg : ¬ D g) (h : Wire.WIs w' b g' l) (hg' : g' = g ∨ w.heap.size ≤ g') (hk : Wire.Kept (fun k => k = b ∨ k = g) w w') : WP D w b l (.returned (.tuple #[])) w' := by
  refine ⟨rfl, ⟨g', h, hb, fun hd => ?_⟩, (keep_of hk).mono (fun x _ hx => ?_)⟩
  · rcases hg' with rfl | hg'
    · exact hg hd
    · have := hD g' hd
      omega
  · rcases hx with rfl | rfl
    · exact hb
    · exact hg
theorem wText7 (D : Nat → Prop) (x : List UInt8) (b : Nat) (l : List Nat) (w : World) (hD : ∀ k, D k → k < w.heap.size) (hl : l.length + x.length + 10 ≤ 140737488355328) (hw : WB D w b l) :
    Calls Tryz.prog 25 #[.pointer (some ⟨b, 0, none⟩), .string (str x)] w (WP D w b (l ++ txtB x)) := by
  obtain ⟨g, h, hb, hg⟩ := hw
  refine (Wire.wtext (str x) b g l w (by rw [str_size]; exact hl) h).mono ?_
  rintro e w' ⟨rfl, g', h1, h2, h3⟩
  rw [str_size, str_data, List.append_assoc] at h1
  exact WB.of hD hb hg h1 h2 h3
theorem wNum7 (D : Nat → Prop) (n : Nat) (b : Nat) (l : List Nat) (w : World) (hD : ∀ k, D k → k < w.heap.size) (hn : n < 18446744073709551616) (hl : l.length + 10 ≤ 140737488355328) (hw : WB D w b l) :
    Calls Tryz.prog 26 #[.pointer (some ⟨b, 0, none⟩), .int .u64 n] w (WP D w b (l ++ Wire.enc n)) := by
  obtain ⟨g, h, hb, hg⟩ := hw
  refine (Wire.wnumber n b g l w hn hl h).mono ?_
  rintro e w' ⟨rfl, g', h1, h2, h3⟩
  exact WB.of hD hb hg h1 h2 h3
/-- One block more stays. -/
def Dx (D : Nat → Prop) (d k : Nat) : Prop := D k ∨ k = d
theorem WB.new {D : Nat → Prop} {w : World} {b : Nat} {l : List Nat} (h : WB D w b l) (o : Obj) : WB (Dx D w.heap.size) (w.alloc o) b l := by
  obtain ⟨g, h1, hb, hg⟩ := h
  have l1 := h1.lt
  have l2 := h1.gt
  exact ⟨g, h1.kept ((Wire.Kept.refl (fun _ => False) w).alloc o) (fun h => h) (fun h => h), fun h => by rcases h with h | h; exact hb h; omega, fun h => by rcases h with h | h; exact hg h; omega⟩
theorem WB.less {D E : Nat → Prop} {w : World} {b : Nat} {l : List Nat} (h : WB D w b l) (hE : ∀ k, E k → D k) : WB E w b l := by
  obtain ⟨g, h1, hb, hg⟩ := h
  exact ⟨g, h1, fun h => hb (hE _ h), fun h => hg (hE _ h)⟩
theorem Dx.lt {D : Nat → Prop} {w : World} (hD : ∀ k, D k → k < w.heap.size) (o : Obj) : ∀ k, Dx D w.heap.size k → k < (w.alloc o).heap.size := by
  intro k hk
  simp
  rcases hk with h | h
  · have := hD k h
    omega
  · omega
theorem Dx.kept {D : Nat → Prop} {w w' : World} {o : Obj} (h : Kept (fun k => ¬ Dx D w.heap.size k) (w.alloc o) w') (hD : ∀ k, D k → k < w.heap.size) : Kept (fun k => ¬ D k) w w' := by
  refine ⟨h.os, h.tape, h.output, by have := h.size; simp at this; omega, fun k hk hn => ?_⟩
  have hd : D k := Classical.not_not.1 hn
  rw [h.block k (by simp; omega) (fun hh => hh (.inl hd)), Below.heap_alloc _ _ _ (hD k hd)]
theorem keep_trans {D : Nat → Prop} {a b c : World} (h : Kept (fun k => ¬ D k) a b) (k : Kept (fun k => ¬ D k) b c) : Kept (fun k => ¬ D k) a c := h.trans k (fun _ _ h => h) (fun _ _ h => h)
theorem keep_blk {D : Nat → Prop} {w w' : World} (h : Kept (fun k => ¬ D k) w w') {d : Nat} (hd : D d) (hl : d < w.heap.size) : w'.heap[d]? = w.heap[d]? := h.block d hl (fun hn => hn hd)
theorem TxR.keep {F D : Nat → Prop} {w w' : World} {v : Value} {xs : List (List UInt8)} (h : TxR F w v xs) (k : Kept (fun k => ¬ D k) w w') (hF : ∀ g, F g → D g) (hD : ∀ g, D g → g < w.heap.size) : TxR F w' v xs := h.frame fun g hg => ⟨hg, keep_blk k (hF g hg) (hD g (hF g hg))⟩
theorem CsR.keep {F D : Nat → Prop} {w w' : World} {v : Value} {xs : List Cs} (h : CsR F w v xs) (k : Kept (fun k => ¬ D k) w w') (hF : ∀ g, F g → D g) (hD : ∀ g, D g → g < w.heap.size) : CsR F w' v xs := h.frame fun g hg => ⟨hg, keep_blk k (hF g hg) (hD g (hF g hg))⟩
theorem ItR.keep {F D : Nat → Prop} {w w' : World} {v : Value} {xs : List It} (h : ItR F w v xs) (k : Kept (fun k => ¬ D k) w w') (hF : ∀ g, F g → D g) (hD : ∀ g, D g → g < w.heap.size) : ItR F w' v xs := h.frame fun g hg => ⟨hg, keep_blk k (hF g hg) (hD g (hF g hg))⟩
theorem keep_lt {D : Nat → Prop} {w w' : World} (k : Kept (fun k => ¬ D k) w w') (hD : ∀ g, D g → g < w.heap.size) : ∀ g, D g → g < w'.heap.size := fun g hg => Nat.lt_of_lt_of_le (hD g hg) k.size
theorem box2 {w : World} {d : Nat} {x0 x1 : Value} {T : Nat} (h : w.heap[d]? = some (.cells #[x0, x1] T (0, 0))) : w.cell? ⟨d, 0, none⟩ = some x0 ∧ w.cell? ⟨d, 1, none⟩ = some x1 := ⟨by rw [cell_of_row w d 0 _ _ _ h]; rfl, by rw [cell_of_row w d 1 _ _ _ h]; rfl⟩
theorem box4 {w : World} {d : Nat} {x0 x1 x2 x3 : Value} {T : Nat} (h : w.heap[d]? = some (.cells #[x0, x1, x2, x3] T (0, 0))) : w.cell? ⟨d, 0, none⟩ = some x0 ∧ w.cell? ⟨d, 1, none⟩ = some x1 ∧ w.cell? ⟨d, 2, none⟩ = some x2 ∧ w.cell? ⟨d, 3, none⟩ = some x3 := ⟨by rw [cell_of_row w d 0 _ _ _ h]; rfl, by rw [cell_of_row w d 1 _ _ _ h]; rfl, by rw [cell_of_row w d 2 _ _ _ h]; rfl, by rw [cell_of_row w d 3 _ _ _ h]; rfl⟩
theorem u64_small (n : Nat) (h : n < 18446744073709551616) : IntKind.u64.wrap (n : Int) = (n : Int) := by rw [IntKind.wrap_u64]; omega
set_option maxHeartbeats 8000000 in
set_option maxRecDepth 1000000 in
theorem writeItem (D F : Nat → Prop) (x : It) (cv : Value) (b : Nat) (l : List Nat) (w : World) (hD : ∀ k, D k → k < w.heap.size) (hF : ∀ g, F g → D g) (h : CsR F w cv x.cases) (hk : 1 ≤ x.kind ∧ x.kind ≤ 3) (hl : l.length + (itemB x).length + 20 ≤ 140737488355328) (hcl : x.cases.length ≤ 3518437208883) (hco : ∀ c ∈ x.cases, CsOk c) (hw : WB D w b l) :
    Calls Tryz.prog 27 #[.pointer (some ⟨b, 0, none⟩), itv x cv] w (WP D w b (l ++ itemB x)) := by
  obtain ⟨kd, nm, ty, cs⟩ := x
  obtain ⟨ca, cc, rfl⟩ := h.shape
  unfold itv
  simp only at hk h hcl hco ⊢
  obtain ⟨kn, rfl⟩ : ∃ kn : Nat, kd = (kn : Int) := ⟨kd.toNat, by omega⟩
  have hwA := hw.new (.cells #[.int .i64 (kn : Int), .string (str nm), .string (str ty), .slice ca cs.length cc] 34)
  have hDA := Dx.lt hD (.cells #[.int .i64 (kn : Int), .string (str nm), .string (str ty), .slice ca cs.length cc] 34)
  have hN := heap_alloc_new w (.cells #[.int .i64 (kn : Int), .string (str nm), .string (str ty), .slice ca cs.length cc] 34)
  have hcA : CsR F (w.alloc (.cells #[.int .i64 (kn : Int), .string (str nm), .string (str ty), .slice ca cs.length cc] 34)) (.slice ca cs.length cc) cs := h.frame fun g hg => ⟨hg, Below.heap_alloc _ _ _ (hD g (hF g hg))⟩
  have hFA : ∀ g, F g → Dx D w.heap.size g := fun g hg => .inl (hF g hg)
  have hdA : Dx D w.heap.size w.heap.size := .inr rfl
  have HK : Hid (∀ w' l', WB (Dx D w.heap.size) w' b l' → Kept (fun k => ¬ Dx D w.heap.size k) (w.alloc (.cells #[.int .i64 (kn : Int), .string (str nm), .string (str ty), .slice ca cs.length cc] 34)) w' → l' = l ++ itemB ⟨(kn : Int), nm, ty, cs⟩ → WP D w b (l ++ itemB ⟨(kn : Int), nm, ty, cs⟩) (.returned (.tuple #[])) w') := by
    rw [hid_iff]
    rintro w' l' h1 h2 rfl
    exact ⟨rfl, h1.less (fun k hk => .inl hk), Dx.kept h2 hD⟩
  have hb1 : itemB ⟨(kn : Int), nm, ty, cs⟩ = Wire.enc kn ++ (txtB nm ++ (if (kn : Int) = 1 then Wire.enc cs.length ++ casesB cs else txtB ty)) := rfl
  have HB := hidden hb1
  have e0 := Wire.enc_ten kn (by omega)
  have e1 := Wire.enc_ten cs.length (by omega)
  rw [hb1] at hl
  clear hb1 h hw
  generalize Dx D w.heap.size = E at *
  have k0 : Kept (fun k => ¬ E k) (w.alloc (.cells #[.int .i64 (kn : Int), .string (str nm), .string (str ty), .slice ca cs.length cc] 34)) (w.alloc (.cells #[.int .i64 (kn : Int), .string (str nm), .string (str ty), .slice ca cs.length cc] 34)) := Kept.refl _ _
  have hlA : w.heap.size < (w.alloc (.cells #[.int .i64 (kn : Int), .string (str nm), .string (str ty), .slice ca cs.length cc] 34)).heap.size := by simp
  obtain ⟨c0, c1, c2, c3⟩ := box4 hN
  have t1 := txtB_ge nm
  have hku : IntKind.u64.wrap (kn : Int) = (kn : Int) := u64_small kn (by omega)
  have hcu : IntKind.u64.wrap (cs.length : Int) = (cs.length : Int) := u64_small _ (by omega)
  have hn1 := wNum7 E kn b l _ hDA (by omega) (by omega) hwA
  go_enter Tryz.func27, Tryz.ntmps27
  go_wp2_with fail
  generalize w.alloc (.cells #[.int .i64 (kn : Int), .string (str nm), .string (str ty), .slice ca cs.length cc] 34) = w0 at *
  refine hn1.mono ?_
  rintro e w1 ⟨rfl, hw1, k1⟩
  have hD1 := keep_lt k1 hDA
  have hN1 := (keep_blk k1 hdA hlA).trans hN
  obtain ⟨d0, d1, d2, d3⟩ := box4 hN1
  simp only [List.length_append] at hl
  have ht1 := wText7 E nm b (l ++ Wire.enc kn) w1 hD1 (by simp only [List.length_append]; omega) hw1
  clear hn1 c0 c1 c2 c3 hwA
  go_wp2_with fail
  refine ht1.mono ?_
  rintro e w2 ⟨rfl, hw2, k2'⟩
  have k2 := keep_trans k1 k2'
  have hD2 := keep_lt k2 hDA
  have hN2 := (keep_blk k2 hdA hlA).trans hN
  have hc2 := hcA.keep k2 hFA hDA
  obtain ⟨d0, d1, d2, d3⟩ := box4 hN2
  clear ht1 hN1 hw1 k1 k2' hD1
  by_cases hk1 : kn = 1
  · have hkb : ((kn : Int) != 1) = false := by simp; omega
    rw [if_pos (show (kn : Int) = 1 by omega)] at hl
    simp only [List.length_append] at hl
    have hn2 := wNum7 E cs.length b (l ++ Wire.enc kn ++ txtB nm) w2 hD2 (by omega) (by simp only [List.length_append]; omega) hw2
    have HI : Hid (itemB ⟨(kn : Int), nm, ty, cs⟩ = Wire.enc kn ++ (txtB nm ++ (Wire.enc cs.length ++ casesB cs))) := by rw [hid_iff, HB.out, if_pos (by omega)]
    go_wp2_with fail
    refine hn2.mono ?_
    rintro e w3 ⟨rfl, hw3, k3'⟩
    have k3 := keep_trans k2 k3'
    have hD3 := keep_lt k3 hDA
    have hN3 := (keep_blk k3 hdA hlA).trans hN
    have hc3 := hcA.keep k3 hFA hDA
    obtain ⟨d0, d1, d2, d3⟩ := box4 hN3
    have HC3 := hidden hc3
    clear hn2 hN2 hw2 k2 k3' hD2 hc2 hc3 hk1 hkb
    go_wp2
    clear d0 d1 d2 d3
    go_loopg [33] cs.length (fun gj i wr => ∃ (j : Nat), gj + j = cs.length ∧ i = .int .i64 (j : Int) ∧ WB E wr b (l ++ Wire.enc kn ++ txtB nm ++ Wire.enc cs.length ++ casesB (cs.take j)) ∧ Kept (fun k => ¬ E k) w0 wr)
    case atStart => exact ⟨0, by omega, rfl, by simpa [casesB] using hw3, k3⟩
    case round =>
      clear hw3 k3 hD3 hN3
      obtain ⟨j, hgj, rfl, hwj, kj⟩ := hrel
      rename World => wo
      have hDj := keep_lt kj hDA
      by_cases hj : j < cs.length
      · have hji : (j : Int) < (cs.length : Int) := by omega
        obtain ⟨g, o, cap, fv, e2, _, hFg, hT, q0, q1⟩ := (hcA.keep kj hFA hDA).at j hj
        simp only [Value.slice.injEq, true_and] at e2
        obtain ⟨rfl, rfl⟩ := e2
        obtain ⟨_, hfl, hfk⟩ := hco _ (List.getElem_mem hj)
        obtain ⟨fa, fc, rfl⟩ := hT.shape
        have hat := casesB_at cs j hj
        have hle := casesB_le cs (j + 1)
        rw [hat, List.length_append] at hle
        have HAT := hidden hat
        rcases hcj : cs[j] with ⟨n, fs⟩
        rw [hcj] at q0 q1 hT hfl hfk hle HAT
        simp only at q0 q1 hT hfl hfk
        have hcb : caseB (n, fs) = txtB n ++ (Wire.enc fs.length ++ fieldsB fs) := rfl
        rw [hcb, List.length_append, List.length_append] at hle
        rw [hcb] at HAT
        have t2 := txtB_ge n
        have e3 := Wire.enc_ten fs.length (by omega)
        have e4 := Wire.enc_pos fs.length
        have hfu : IntKind.u64.wrap (fs.length : Int) = (fs.length : Int) := u64_small _ (by omega)
        have hwB := hwj.new (.cells #[.string (str n), .slice fa fs.length fc] 81)
        have hDB := Dx.lt hDj (.cells #[.string (str n), .slice fa fs.length fc] 81)
        have hNB := heap_alloc_new wo (.cells #[.string (str n), .slice fa fs.length fc] 81)
        have hTB : TxR F (wo.alloc (.cells #[.string (str n), .slice fa fs.length fc] 81)) (.slice fa fs.length fc) fs := hT.frame fun g hg => ⟨hg, Below.heap_alloc _ _ _ (hDj g (hFA g hg))⟩
        have hFB : ∀ g, F g → Dx E wo.heap.size g := fun g hg => .inl (hFA g hg)
        have hdB : Dx E wo.heap.size wo.heap.size := .inr rfl
        have hlB : wo.heap.size < (wo.alloc (.cells #[.string (str n), .slice fa fs.length fc] 81)).heap.size := by simp
        have HN : Hid (∀ w' l', WB (Dx E wo.heap.size) w' b l' → Kept (fun k => ¬ Dx E wo.heap.size k) (wo.alloc (.cells #[.string (str n), .slice fa fs.length fc] 81)) w' → WB E w' b l' ∧ Kept (fun k => ¬ E k) w0 w') := by
          rw [hid_iff]
          intro w' l' h1 h2
          exact ⟨h1.less (fun k hk => .inl hk), keep_trans kj (Dx.kept h2 hDj)⟩
        have g0 : Kept (fun k => ¬ Dx E wo.heap.size k) (wo.alloc (.cells #[.string (str n), .slice fa fs.length fc] 81)) (wo.alloc (.cells #[.string (str n), .slice fa fs.length fc] 81)) := Kept.refl _ _
        generalize Dx E wo.heap.size = G at *
        obtain ⟨b0, b1⟩ := box2 hNB
        generalize hL : l ++ Wire.enc kn ++ txtB nm ++ Wire.enc cs.length ++ casesB (cs.take j) = L at *
        have hLl : L.length + (txtB n).length + (Wire.enc fs.length).length + (fieldsB fs).length + 20 ≤ 140737488355328 := by
          rw [← hL]
          simp only [List.length_append]
          omega
        have HL := hidden hL
        clear hL
        have ht := wText7 G n b L _ hDB (by omega) hwB
        clear hwj kj hcj hat hcb
        go_wp2_with fail
        generalize wo.alloc (.cells #[.string (str n), .slice fa fs.length fc] 81) = w4 at *
        refine ht.mono ?_
        rintro e w5 ⟨rfl, hw5, k5⟩
        have hD5 := keep_lt k5 hDB
        have hN5 := (keep_blk k5 hdB hlB).trans hNB
        obtain ⟨b0, b1⟩ := box2 hN5
        have hn := wNum7 G fs.length b (L ++ txtB n) w5 hD5 (by omega) (by simp only [List.length_append]; omega) hw5
        clear ht hwB q0 q1
        go_wp2_with fail
        refine hn.mono ?_
        rintro e w6 ⟨rfl, hw6, k6'⟩
        have k6 := keep_trans k5 k6'
        have hN6 := (keep_blk k6 hdB hlB).trans hNB
        obtain ⟨b0, b1⟩ := box2 hN6
        have HT6 : Hid (∀ u, Kept (fun k => ¬ G k) w4 u → TxR F u (.slice fa fs.length fc) fs) := by
          rw [hid_iff]
          intro u hu
          exact hTB.keep hu hFB hDB
        clear hn hw5 k5 k6' hD5 hN5 hT hTB
        go_wp2
        clear b0 b1
        go_loopg [50] fs.length (fun gi i wr => ∃ (q : Nat), gi + q = fs.length ∧ i = .int .i64 (q : Int) ∧ WB G wr b (L ++ txtB n ++ Wire.enc fs.length ++ fieldsB (fs.take q)) ∧ Kept (fun k => ¬ G k) w4 wr)
        case atStart => exact ⟨0, by omega, rfl, by simpa [fieldsB] using hw6, k6⟩
        case round =>
          clear hw6 k6 hN6
          obtain ⟨q, hgq, rfl, hwq, kq⟩ := hrel
          by_cases hq : q < fs.length
          · have hqi : (q : Int) < (fs.length : Int) := by omega
            obtain ⟨g', o', cap', e5, _, q2⟩ := (HT6.out wr kq).at q hq
            simp only [Value.slice.injEq, true_and] at e5
            obtain ⟨rfl, rfl⟩ := e5
            have hfa := fieldsB_at fs q hq
            have hfe := fieldsB_le fs (q + 1)
            rw [hfa, List.length_append] at hfe
            have t3 := txtB_ge fs[q]
            have HFA : Hid (L ++ txtB n ++ Wire.enc fs.length ++ fieldsB (fs.take q) ++ txtB fs[q] = L ++ txtB n ++ Wire.enc fs.length ++ fieldsB (fs.take (q + 1))) := by rw [hid_iff, hfa]; simp only [List.append_assoc]
            have ht := wText7 G fs[q] b _ wr (keep_lt kq hDB) (by simp only [List.length_append]; omega) hwq
            clear hwq hfa
            generalize fs[q] = z at *
            go_wp2_with fail
            refine ht.mono ?_
            rintro e w7 ⟨rfl, hw7, k7⟩
            rw [HFA.out] at hw7
            have k8 := keep_trans kq k7
            clear ht k7 kq
            go_wp2
            go_roundg (fs.length - (q + 1))
            case measure => omega
            case rel => exact ⟨q + 1, by omega, by go_num, hw7, k8⟩
          · have hqi : ¬ (q : Int) < (fs.length : Int) := by omega
            obtain ⟨h1, h2⟩ := HN.out _ _ hwq kq
            rw [List.take_of_length_le (by omega)] at h1
            have h3 : WB E wr b (l ++ Wire.enc kn ++ txtB nm ++ Wire.enc cs.length ++ casesB (cs.take (j + 1))) := by
              rw [HAT.out]
              have := HL.out
              rw [← this] at h1
              simpa only [List.append_assoc] using h1
            clear hwq kq h1
            go_wp2
            go_roundg (cs.length - (j + 1))
            case measure => omega
            case rel => exact ⟨j + 1, by omega, by go_num, h3, h2⟩
      · have hji : ¬ (j : Int) < (cs.length : Int) := by omega
        rw [List.take_of_length_le (by omega)] at hwj
        have hQ := HK.out _ _ hwj kj (by rw [HI.out]; simp only [List.append_assoc])
        clear hwj kj
        go_wp2
        go_end0
        exact hQ
  · have hkb : ((kn : Int) != 1) = true := by simp; omega
    rw [if_neg (show ¬ (kn : Int) = 1 by omega)] at hl
    have t3 := txtB_ge ty
    have hn2 := wText7 E ty b (l ++ Wire.enc kn ++ txtB nm) w2 hD2 (by simp only [List.length_append]; omega) hw2
    have HI : Hid (itemB ⟨(kn : Int), nm, ty, cs⟩ = Wire.enc kn ++ (txtB nm ++ txtB ty)) := by rw [hid_iff, HB.out, if_neg (by omega)]
    go_wp2_with fail
    refine hn2.mono ?_
    rintro e w3 ⟨rfl, hw3, k3'⟩
    have k3 := keep_trans k2 k3'
    have hQ := HK.out _ _ hw3 k3 (by rw [HI.out]; simp only [List.append_assoc])
    clear hn2 hN2 hw2 k2 k3' hD2 hc2 hw3 k3
    go_wp2
    go_end0
    exact hQ
end Go.Proofs.YtalbjbahgbkifaaGreat
