/-
  Object's writer: a global, a function, a symbol, a relocation.
-/
import Derived.Test.YtfjppbpicmniaaaGreatDoorG39
import Derived.Test.YtfjppbpicmniaaaGreatDoorG15
namespace Go.Proofs.YtfjppbpicmniaaaGreatDoor
open Go.RowKit

theorem byR_src {F : Nat → Prop} {w : World} {v : Value} {l : List UInt8} (h : ByR F w v l) {t e : TypeId} (ht : Tryz.prog.underlying t = some (.slice e)) : Src Tryz.prog 1 t v (l.map UInt8.toNat).length (Wire.bs (l.map UInt8.toNat)) w := by
  rcases h with ⟨a, c, rfl, rfl⟩ | ⟨g, o, cap, rfl, _, _, h3⟩
  · cases a with
    | none => exact Src.ofNil w ht c
    | some a => exact Src.ofSlice w ht a 0 c _ (by simp [Wire.bs]) (by simp [Wire.bs]) (Wire.bs_one _)
  · have e : (.slice (some ⟨g, o, none⟩) l.length cap : Value) = .slice (some ⟨g, o, none⟩) (l.map UInt8.toNat).length cap := by simp
    rw [e]
    refine Src.ofSlice w ht ⟨g, o, none⟩ _ cap _ (by rw [Wire.bs_length]; omega) (fun j u hu => ?_) (Wire.bs_one _)
    rw [Wire.bs, List.getElem?_map, List.getElem?_map] at hu
    cases hx : l[j]? with
    | none => rw [hx] at hu; cases hu
    | some x =>
      rw [hx] at hu
      simp only [Option.map_some, Option.some.injEq] at hu
      subst hu
      have := h3 j x hx
      unfold Addr.add
      split
      · rename_i e
        subst e
        simpa using this
      · exact this
set_option maxHeartbeats 400000 in
set_option maxRecDepth 1000000 in
theorem oraw (v0 : Value) (l0 : List Nat) (b g : Nat) (l : List Nat) (w : World) (hl : l.length + l0.length ≤ 140737488355328) (hw : Wire.WIs w b g l) (hr : Src Tryz.prog 1 42 v0 l0.length (Wire.bs l0) w) :
    Calls Tryz.prog 148 #[.pointer (some ⟨b, 0, none⟩), v0] w fun e w' => e = .returned (.tuple #[]) ∧ ∃ g', Wire.WIs w' b g' (l ++ l0) ∧ (g' = g ∨ w.heap.size ≤ g') ∧ Wire.Kept (fun k => k = b ∨ k = g) w w' := by
  obtain ⟨v, hb, hv, hvb, hgs⟩ := hw
  have hc0 := hb.cell 0
  simp only [List.getElem?_toArray, List.getElem?_cons_zero] at hc0
  go_enter Tryz.func148, Tryz.ntmps148
  go_wp2_with (at_builtin; refine Wire.wpList_append_row _ rfl (.tmp 8) (.tmp 9) 42 42 rfl Tryz.underlying42 Wire.Tryz.info5 v g l rfl hv _ l0.length l0 rfl ?src ?len ?next)
  case src => exact hr
  case len => exact hl
  case next =>
    intro v' w2 g2 hv' hg2 hat hgr hnil
    obtain ⟨hb1, hw2, hg3, hk2⟩ := Wire.WIs.step hb hv hvb hgs hgr hv' hat hg2 (Or.inl rfl) (Wire.Kept.refl _ w)
    have hc1 := hb1.cell 0
    have hf1 := hb1.frozen 0
    simp only [List.getElem?_toArray, List.getElem?_cons_zero] at hc1
    obtain ⟨a', n', c', rfl⟩ : ∃ a n c, v' = .slice a n c := by
      obtain ⟨a, c, h⟩ := hv'.rd.shape
      exact ⟨a, _, c, h⟩
    clear hnil hat hgr
    go_wp2
    go_end0
    exact ⟨rfl, g2, hw2, hg3, hk2⟩
theorem wRaw7 (D F : Nat → Prop) (v : Value) (x : List UInt8) (b : Nat) (l : List Nat) (w : World) (hD : ∀ k, D k → k < w.heap.size) (hr : ByR F w v x) (hl : l.length + x.length ≤ 140737488355328) (hw : WB D w b l) :
    Calls Tryz.prog 148 #[.pointer (some ⟨b, 0, none⟩), v] w (WP D w b (l ++ x.map UInt8.toNat)) := by
  obtain ⟨g, h, hb, hg⟩ := hw
  refine (oraw v (x.map UInt8.toNat) b g l w (by simpa using hl) h (byR_src hr Tryz.underlying42)).mono ?_
  rintro e w' ⟨rfl, g', h1, h2, h3⟩
  exact WB.of hD hb hg h1 h2 h3
set_option maxHeartbeats 4000000 in
set_option maxRecDepth 1000000 in
theorem oglobal (D F : Nat → Prop) (nm ty : List UInt8) (fn : Nat) (b : Nat) (l : List Nat) (w : World) (hD : ∀ k, D k → k < w.heap.size) (hF : ∀ g, F g → D g) (hfn : fn ≤ 65535) (hl : l.length + ((txtB nm ++ (txtB ty ++ Wire.enc fn))).length + 30 ≤ 140737488355328) (hw : WB D w b l) :
    Calls Tryz.prog 97 #[wrv b, .agg #[.string (str nm), .string (str ty), .int .i64 (fn : Int)]] w (WP D w b (l ++ (txtB nm ++ (txtB ty ++ Wire.enc fn)))) := by
  have hwA := hw.new (.cells #[.pointer (some ⟨b, 0, none⟩)] 97)
  have hDA := Dx.lt hD (.cells #[.pointer (some ⟨b, 0, none⟩)] 97)
  have hNA := heap_alloc_new w (.cells #[.pointer (some ⟨b, 0, none⟩)] 97)
  have hKA : ∀ w', Kept (fun k => ¬ Dx D w.heap.size k) (w.alloc (.cells #[.pointer (some ⟨b, 0, none⟩)] 97)) w' → Kept (fun k => ¬ D k) w w' := fun w' h => Dx.kept h hD
  generalize hWA : w.alloc (.cells #[.pointer (some ⟨b, 0, none⟩)] 97) = wA at *
  have hsA : wA.heap.size = w.heap.size + 1 := by rw [← hWA]; simp
  have hwB := hwA.new (.cells #[.string (str nm), .string (str ty), .int .i64 (fn : Int)] 74)
  have hDB := Dx.lt hDA (.cells #[.string (str nm), .string (str ty), .int .i64 (fn : Int)] 74)
  have hNB := heap_alloc_new wA (.cells #[.string (str nm), .string (str ty), .int .i64 (fn : Int)] 74)
  have hKB : ∀ w', Kept (fun k => ¬ Dx (Dx D w.heap.size) wA.heap.size k) (wA.alloc (.cells #[.string (str nm), .string (str ty), .int .i64 (fn : Int)] 74)) w' → Kept (fun k => ¬ D k) w w' := fun w' h => hKA w' (Dx.kept h hDA)
  have hNA' : (wA.alloc (.cells #[.string (str nm), .string (str ty), .int .i64 (fn : Int)] 74)).heap[w.heap.size]? = some (.cells #[.pointer (some ⟨b, 0, none⟩)] 97 (0, 0)) := (Below.heap_alloc _ _ _ (by omega)).trans hNA
  generalize hWB : wA.alloc (.cells #[.string (str nm), .string (str ty), .int .i64 (fn : Int)] 74) = wB at *
  have hsB : wB.heap.size = w.heap.size + 2 := by rw [← hWB]; simp; omega
  rw [hsA] at hNB
  have e1 : Dx (Dx D w.heap.size) wA.heap.size w.heap.size := .inl (.inr rfl)
  have e2 : Dx (Dx D w.heap.size) wA.heap.size (w.heap.size + 1) := .inr hsA.symm
  have hFE : ∀ g, F g → Dx (Dx D w.heap.size) wA.heap.size g := fun g hg => .inl (.inl (hF g hg))
  have hless : ∀ w' l, WB (Dx (Dx D w.heap.size) wA.heap.size) w' b l → WB D w' b l := fun w' l h => h.less (fun k hk => .inl (.inl hk))
  generalize Dx (Dx D w.heap.size) wA.heap.size = E at *
  have HB : Hid (∀ u, Kept (fun k => ¬ E k) wB u → (∀ k, E k → k < u.heap.size) ∧ u.cell? ⟨w.heap.size, 0, none⟩ = some (.pointer (some ⟨b, 0, none⟩)) ∧ u.cell? ⟨w.heap.size + 1, 0, none⟩ = some (.string (str nm)) ∧ u.cell? ⟨w.heap.size + 1, 1, none⟩ = some (.string (str ty)) ∧ u.cell? ⟨w.heap.size + 1, 2, none⟩ = some (.int .i64 (fn : Int))) := by
    rw [hid_iff]
    intro u hu
    have n0 := (keep_blk hu e1 (by omega)).trans hNA'
    have n1 := (keep_blk hu e2 (by omega)).trans hNB
    exact ⟨keep_lt hu hDB, by rw [cell_of_row u _ 0 _ _ _ n0]; rfl, by rw [cell_of_row u _ 0 _ _ _ n1]; rfl, by rw [cell_of_row u _ 1 _ _ _ n1]; rfl, by rw [cell_of_row u _ 2 _ _ _ n1]; rfl⟩
  have HKB := hidden hKB
  have HLS := hidden hless
  have HFE := hidden hFE
  have BIG : l.length + ((txtB nm ++ (txtB ty ++ Wire.enc fn))).length + 30 ≤ 140737488355328 := hl
  clear hKA hKB hless hNA hNA' hNB hwA hDA hl hw hFE e1 e2 hD hF
  have k0 : Kept (fun k => ¬ E k) wB wB := Kept.refl _ _
  unfold wrv
  go_enter Tryz.func97, Tryz.ntmps97
  obtain ⟨hD0, p0, q0_0, -, -⟩ := HB.out _ k0
  have g0 := wText7 E nm b l wB hD0 (by have t := txtB_ge nm; (try simp only [List.length_append] at BIG ⊢); omega) hwB
  unfold wrv at g0
  clear  hD0
  go_wp2_with fail
  refine (g0).mono ?_
  rintro e u0 ⟨rfl, x0, y0'⟩
  have y0 := keep_trans k0 y0'
  clear g0 p0 q0_0 hwB k0 y0'
  obtain ⟨hD1, p1, -, q1_1, -⟩ := HB.out _ y0
  have g1 := wText7 E ty b (l ++ txtB nm) u0 hD1 (by have t := txtB_ge ty; (try simp only [List.length_append] at BIG ⊢); omega) x0
  unfold wrv at g1
  clear  hD1
  go_wp2_with fail
  refine (g1).mono ?_
  rintro e u1 ⟨rfl, x1, y1'⟩
  have y1 := keep_trans y0 y1'
  clear g1 p1 q1_1 x0 y0 y1'
  obtain ⟨hD2, p2, -, -, q2_2⟩ := HB.out _ y1
  have g2 := onum E fn b ((l ++ txtB nm) ++ txtB ty) u1 hD2 (by omega) (by (try simp only [List.length_append] at BIG ⊢); omega) x1
  unfold wrv at g2
  clear  hD2
  go_wp2_with fail
  refine (g2).mono ?_
  rintro e u2 ⟨rfl, x2, y2'⟩
  have y2 := keep_trans y1 y2'
  clear g2 p2 q2_2 x1 y1 y2'
  have hK := HKB.out _ y2
  have hW := HLS.out _ _ x2
  simp only [List.append_assoc] at hW
  clear x2 y2 HKB HLS HB HFE BIG
  go_wp2
  go_end0
  exact ⟨rfl, hW, hK⟩
set_option maxHeartbeats 4000000 in
set_option maxRecDepth 1000000 in
theorem oreloc (D F : Nat → Prop) (fn pl sy : Nat) (b : Nat) (l : List Nat) (w : World) (hD : ∀ k, D k → k < w.heap.size) (hF : ∀ g, F g → D g) (h1 : fn ≤ 65535) (h2 : pl ≤ 65535) (h3 : sy ≤ 65535) (hl : l.length + ((Wire.enc fn ++ (Wire.enc pl ++ Wire.enc sy))).length + 30 ≤ 140737488355328) (hw : WB D w b l) :
    Calls Tryz.prog 103 #[wrv b, .agg #[.int .i64 (fn : Int), .int .i64 (pl : Int), .int .i64 (sy : Int)]] w (WP D w b (l ++ (Wire.enc fn ++ (Wire.enc pl ++ Wire.enc sy)))) := by
  have hwA := hw.new (.cells #[.pointer (some ⟨b, 0, none⟩)] 97)
  have hDA := Dx.lt hD (.cells #[.pointer (some ⟨b, 0, none⟩)] 97)
  have hNA := heap_alloc_new w (.cells #[.pointer (some ⟨b, 0, none⟩)] 97)
  have hKA : ∀ w', Kept (fun k => ¬ Dx D w.heap.size k) (w.alloc (.cells #[.pointer (some ⟨b, 0, none⟩)] 97)) w' → Kept (fun k => ¬ D k) w w' := fun w' h => Dx.kept h hD
  generalize hWA : w.alloc (.cells #[.pointer (some ⟨b, 0, none⟩)] 97) = wA at *
  have hsA : wA.heap.size = w.heap.size + 1 := by rw [← hWA]; simp
  have hwB := hwA.new (.cells #[.int .i64 (fn : Int), .int .i64 (pl : Int), .int .i64 (sy : Int)] 83)
  have hDB := Dx.lt hDA (.cells #[.int .i64 (fn : Int), .int .i64 (pl : Int), .int .i64 (sy : Int)] 83)
  have hNB := heap_alloc_new wA (.cells #[.int .i64 (fn : Int), .int .i64 (pl : Int), .int .i64 (sy : Int)] 83)
  have hKB : ∀ w', Kept (fun k => ¬ Dx (Dx D w.heap.size) wA.heap.size k) (wA.alloc (.cells #[.int .i64 (fn : Int), .int .i64 (pl : Int), .int .i64 (sy : Int)] 83)) w' → Kept (fun k => ¬ D k) w w' := fun w' h => hKA w' (Dx.kept h hDA)
  have hNA' : (wA.alloc (.cells #[.int .i64 (fn : Int), .int .i64 (pl : Int), .int .i64 (sy : Int)] 83)).heap[w.heap.size]? = some (.cells #[.pointer (some ⟨b, 0, none⟩)] 97 (0, 0)) := (Below.heap_alloc _ _ _ (by omega)).trans hNA
  generalize hWB : wA.alloc (.cells #[.int .i64 (fn : Int), .int .i64 (pl : Int), .int .i64 (sy : Int)] 83) = wB at *
  have hsB : wB.heap.size = w.heap.size + 2 := by rw [← hWB]; simp; omega
  rw [hsA] at hNB
  have e1 : Dx (Dx D w.heap.size) wA.heap.size w.heap.size := .inl (.inr rfl)
  have e2 : Dx (Dx D w.heap.size) wA.heap.size (w.heap.size + 1) := .inr hsA.symm
  have hFE : ∀ g, F g → Dx (Dx D w.heap.size) wA.heap.size g := fun g hg => .inl (.inl (hF g hg))
  have hless : ∀ w' l, WB (Dx (Dx D w.heap.size) wA.heap.size) w' b l → WB D w' b l := fun w' l h => h.less (fun k hk => .inl (.inl hk))
  generalize Dx (Dx D w.heap.size) wA.heap.size = E at *
  have HB : Hid (∀ u, Kept (fun k => ¬ E k) wB u → (∀ k, E k → k < u.heap.size) ∧ u.cell? ⟨w.heap.size, 0, none⟩ = some (.pointer (some ⟨b, 0, none⟩)) ∧ u.cell? ⟨w.heap.size + 1, 0, none⟩ = some (.int .i64 (fn : Int)) ∧ u.cell? ⟨w.heap.size + 1, 1, none⟩ = some (.int .i64 (pl : Int)) ∧ u.cell? ⟨w.heap.size + 1, 2, none⟩ = some (.int .i64 (sy : Int))) := by
    rw [hid_iff]
    intro u hu
    have n0 := (keep_blk hu e1 (by omega)).trans hNA'
    have n1 := (keep_blk hu e2 (by omega)).trans hNB
    exact ⟨keep_lt hu hDB, by rw [cell_of_row u _ 0 _ _ _ n0]; rfl, by rw [cell_of_row u _ 0 _ _ _ n1]; rfl, by rw [cell_of_row u _ 1 _ _ _ n1]; rfl, by rw [cell_of_row u _ 2 _ _ _ n1]; rfl⟩
  have HKB := hidden hKB
  have HLS := hidden hless
  have HFE := hidden hFE
  have BIG : l.length + ((Wire.enc fn ++ (Wire.enc pl ++ Wire.enc sy))).length + 30 ≤ 140737488355328 := hl
  clear hKA hKB hless hNA hNA' hNB hwA hDA hl hw hFE e1 e2 hD hF
  have k0 : Kept (fun k => ¬ E k) wB wB := Kept.refl _ _
  unfold wrv
  go_enter Tryz.func103, Tryz.ntmps103
  obtain ⟨hD0, p0, q0_0, -, -⟩ := HB.out _ k0
  have g0 := onum E fn b l wB hD0 (by omega) (by (try simp only [List.length_append] at BIG ⊢); omega) hwB
  unfold wrv at g0
  clear  hD0
  go_wp2_with fail
  refine (g0).mono ?_
  rintro e u0 ⟨rfl, x0, y0'⟩
  have y0 := keep_trans k0 y0'
  clear g0 p0 q0_0 hwB k0 y0'
  obtain ⟨hD1, p1, -, q1_1, -⟩ := HB.out _ y0
  have g1 := onum E pl b (l ++ Wire.enc fn) u0 hD1 (by omega) (by (try simp only [List.length_append] at BIG ⊢); omega) x0
  unfold wrv at g1
  clear  hD1
  go_wp2_with fail
  refine (g1).mono ?_
  rintro e u1 ⟨rfl, x1, y1'⟩
  have y1 := keep_trans y0 y1'
  clear g1 p1 q1_1 x0 y0 y1'
  obtain ⟨hD2, p2, -, -, q2_2⟩ := HB.out _ y1
  have g2 := onum E sy b ((l ++ Wire.enc fn) ++ Wire.enc pl) u1 hD2 (by omega) (by (try simp only [List.length_append] at BIG ⊢); omega) x1
  unfold wrv at g2
  clear  hD2
  go_wp2_with fail
  refine (g2).mono ?_
  rintro e u2 ⟨rfl, x2, y2'⟩
  have y2 := keep_trans y1 y2'
  clear g2 p2 q2_2 x1 y1 y2'
  have hK := HKB.out _ y2
  have hW := HLS.out _ _ x2
  simp only [List.append_assoc] at hW
  clear x2 y2 HKB HLS HB HFE BIG
  go_wp2
  go_end0
  exact ⟨rfl, hW, hK⟩
set_option maxHeartbeats 4000000 in
set_option maxRecDepth 1000000 in
theorem osymbol (D F : Nat → Prop) (md : List UInt8) (kn : Nat) (nm ty : List UInt8) (cs : List Cs) (ca : Option Addr) (cc : Nat) (b : Nat) (l : List Nat) (w : World) (hD : ∀ k, D k → k < w.heap.size) (hF : ∀ g, F g → D g) (pr : CsR F w (.slice ca cs.length cc) cs) (hkn : kn ≤ 65535) (hn : cs.length ≤ 65535) (hok : ∀ c ∈ cs, CsS c) (hl : l.length + ((txtB md ++ itBy kn nm ty cs)).length + 30 ≤ 140737488355328) (hw : WB D w b l) :
    Calls Tryz.prog 101 #[wrv b, .agg #[.string (str md), .int .i64 (kn : Int), .string (str nm), .string (str ty), .slice ca cs.length cc]] w (WP D w b (l ++ (txtB md ++ itBy kn nm ty cs))) := by
  have hwA := hw.new (.cells #[.pointer (some ⟨b, 0, none⟩)] 97)
  have hDA := Dx.lt hD (.cells #[.pointer (some ⟨b, 0, none⟩)] 97)
  have hNA := heap_alloc_new w (.cells #[.pointer (some ⟨b, 0, none⟩)] 97)
  have hKA : ∀ w', Kept (fun k => ¬ Dx D w.heap.size k) (w.alloc (.cells #[.pointer (some ⟨b, 0, none⟩)] 97)) w' → Kept (fun k => ¬ D k) w w' := fun w' h => Dx.kept h hD
  have prA : CsR F (w.alloc (.cells #[.pointer (some ⟨b, 0, none⟩)] 97)) (.slice ca cs.length cc) cs := pr.frame fun g hg => ⟨hg, Below.heap_alloc _ _ _ (hD g (hF g hg))⟩
  generalize hWA : w.alloc (.cells #[.pointer (some ⟨b, 0, none⟩)] 97) = wA at *
  have hsA : wA.heap.size = w.heap.size + 1 := by rw [← hWA]; simp
  have hwB := hwA.new (.cells #[.string (str md), .int .i64 (kn : Int), .string (str nm), .string (str ty), .slice ca cs.length cc] 80)
  have hDB := Dx.lt hDA (.cells #[.string (str md), .int .i64 (kn : Int), .string (str nm), .string (str ty), .slice ca cs.length cc] 80)
  have hNB := heap_alloc_new wA (.cells #[.string (str md), .int .i64 (kn : Int), .string (str nm), .string (str ty), .slice ca cs.length cc] 80)
  have hKB : ∀ w', Kept (fun k => ¬ Dx (Dx D w.heap.size) wA.heap.size k) (wA.alloc (.cells #[.string (str md), .int .i64 (kn : Int), .string (str nm), .string (str ty), .slice ca cs.length cc] 80)) w' → Kept (fun k => ¬ D k) w w' := fun w' h => hKA w' (Dx.kept h hDA)
  have hNA' : (wA.alloc (.cells #[.string (str md), .int .i64 (kn : Int), .string (str nm), .string (str ty), .slice ca cs.length cc] 80)).heap[w.heap.size]? = some (.cells #[.pointer (some ⟨b, 0, none⟩)] 97 (0, 0)) := (Below.heap_alloc _ _ _ (by omega)).trans hNA
  have prB : CsR F (wA.alloc (.cells #[.string (str md), .int .i64 (kn : Int), .string (str nm), .string (str ty), .slice ca cs.length cc] 80)) (.slice ca cs.length cc) cs := prA.frame fun g hg => ⟨hg, Below.heap_alloc _ _ _ (by have := hD g (hF g hg); omega)⟩
  generalize hWB : wA.alloc (.cells #[.string (str md), .int .i64 (kn : Int), .string (str nm), .string (str ty), .slice ca cs.length cc] 80) = wB at *
  have hsB : wB.heap.size = w.heap.size + 2 := by rw [← hWB]; simp; omega
  rw [hsA] at hNB
  have e1 : Dx (Dx D w.heap.size) wA.heap.size w.heap.size := .inl (.inr rfl)
  have e2 : Dx (Dx D w.heap.size) wA.heap.size (w.heap.size + 1) := .inr hsA.symm
  have hFE : ∀ g, F g → Dx (Dx D w.heap.size) wA.heap.size g := fun g hg => .inl (.inl (hF g hg))
  have hless : ∀ w' l, WB (Dx (Dx D w.heap.size) wA.heap.size) w' b l → WB D w' b l := fun w' l h => h.less (fun k hk => .inl (.inl hk))
  generalize Dx (Dx D w.heap.size) wA.heap.size = E at *
  have HB : Hid (∀ u, Kept (fun k => ¬ E k) wB u → (∀ k, E k → k < u.heap.size) ∧ u.cell? ⟨w.heap.size, 0, none⟩ = some (.pointer (some ⟨b, 0, none⟩)) ∧ u.cell? ⟨w.heap.size + 1, 0, none⟩ = some (.string (str md)) ∧ u.cell? ⟨w.heap.size + 1, 1, none⟩ = some (.int .i64 (kn : Int)) ∧ u.cell? ⟨w.heap.size + 1, 2, none⟩ = some (.string (str nm)) ∧ u.cell? ⟨w.heap.size + 1, 3, none⟩ = some (.string (str ty)) ∧ u.cell? ⟨w.heap.size + 1, 4, none⟩ = some (.slice ca cs.length cc)) := by
    rw [hid_iff]
    intro u hu
    have n0 := (keep_blk hu e1 (by omega)).trans hNA'
    have n1 := (keep_blk hu e2 (by omega)).trans hNB
    exact ⟨keep_lt hu hDB, by rw [cell_of_row u _ 0 _ _ _ n0]; rfl, by rw [cell_of_row u _ 0 _ _ _ n1]; rfl, by rw [cell_of_row u _ 1 _ _ _ n1]; rfl, by rw [cell_of_row u _ 2 _ _ _ n1]; rfl, by rw [cell_of_row u _ 3 _ _ _ n1]; rfl, by rw [cell_of_row u _ 4 _ _ _ n1]; rfl⟩
  have prU : Hid (∀ u, Kept (fun k => ¬ E k) wB u → CsR F u (.slice ca cs.length cc) cs) := by
    rw [hid_iff]
    exact fun u hu => prB.frame fun g hg => ⟨hg, keep_blk hu (hFE g hg) (hDB g (hFE g hg))⟩
  have HKB := hidden hKB
  have HLS := hidden hless
  have HFE := hidden hFE
  have BIG : l.length + ((txtB md ++ itBy kn nm ty cs)).length + 30 ≤ 140737488355328 := hl
  clear hKA hKB hless hNA hNA' hNB hwA hDA hl hw hFE e1 e2 hD hF pr prA prB
  have k0 : Kept (fun k => ¬ E k) wB wB := Kept.refl _ _
  unfold wrv
  go_enter Tryz.func101, Tryz.ntmps101
  obtain ⟨hD0, p0, q0_0, -, -, -, -⟩ := HB.out _ k0
  have pr0 := prU.out _ k0
  have g0 := wText7 E md b l wB hD0 (by have t := txtB_ge md; (try simp only [List.length_append] at BIG ⊢); omega) hwB
  unfold wrv at g0
  clear pr0 hD0
  go_wp2_with fail
  refine (g0).mono ?_
  rintro e u0 ⟨rfl, x0, y0'⟩
  have y0 := keep_trans k0 y0'
  clear g0 p0 q0_0 hwB k0 y0'
  obtain ⟨hD1, p1, -, q1_1, q1_2, q1_3, q1_4⟩ := HB.out _ y0
  have pr1 := prU.out _ y0
  have g1 := oitem E F kn nm ty cs ca cc b (l ++ txtB md) u0 hD1 HFE.out pr1 hkn hn hok (by (try simp only [List.length_append] at BIG ⊢); omega) x0
  unfold wrv at g1
  clear pr1 hD1
  go_wp2_with fail
  refine (g1).mono ?_
  rintro e u1 ⟨rfl, x1, y1'⟩
  have y1 := keep_trans y0 y1'
  clear g1 p1 q1_1 q1_2 q1_3 q1_4 x0 y0 y1'
  have hK := HKB.out _ y1
  have hW := HLS.out _ _ x1
  simp only [List.append_assoc] at hW
  clear x1 y1 HKB HLS HB HFE prU BIG
  go_wp2
  go_end0
  exact ⟨rfl, hW, hK⟩
set_option maxHeartbeats 4000000 in
set_option maxRecDepth 1000000 in
theorem ofun (D F : Nat → Prop) (nm : List UInt8) (ps : List (List UInt8)) (cn : Nat) (rs : List UInt8) (ln : Nat) (kd : List UInt8) (pa ka : Option Addr) (pc kc : Nat) (b : Nat) (l : List Nat) (w : World) (hD : ∀ k, D k → k < w.heap.size) (hF : ∀ g, F g → D g) (pr : TxR F w (.slice pa ps.length pc) ps) (kr : ByR F w (.slice ka kd.length kc) kd) (hn : ps.length ≤ 65535) (hcn : cn ≤ 65535) (hln : ln ≤ 65535) (hkd : kd.length ≤ 65535) (hl : l.length + ((txtB nm ++ (lsB txtB ps ++ (Wire.enc cn ++ (txtB rs ++ (Wire.enc ln ++ (Wire.enc kd.length ++ kd.map UInt8.toNat))))))).length + 30 ≤ 140737488355328) (hw : WB D w b l) :
    Calls Tryz.prog 99 #[wrv b, .agg #[.string (str nm), .slice pa ps.length pc, .int .i64 (cn : Int), .string (str rs), .int .i64 (ln : Int), .slice ka kd.length kc]] w (WP D w b (l ++ (txtB nm ++ (lsB txtB ps ++ (Wire.enc cn ++ (txtB rs ++ (Wire.enc ln ++ (Wire.enc kd.length ++ kd.map UInt8.toNat)))))))) := by
  have hwA := hw.new (.cells #[.pointer (some ⟨b, 0, none⟩)] 97)
  have hDA := Dx.lt hD (.cells #[.pointer (some ⟨b, 0, none⟩)] 97)
  have hNA := heap_alloc_new w (.cells #[.pointer (some ⟨b, 0, none⟩)] 97)
  have hKA : ∀ w', Kept (fun k => ¬ Dx D w.heap.size k) (w.alloc (.cells #[.pointer (some ⟨b, 0, none⟩)] 97)) w' → Kept (fun k => ¬ D k) w w' := fun w' h => Dx.kept h hD
  have prA : TxR F (w.alloc (.cells #[.pointer (some ⟨b, 0, none⟩)] 97)) (.slice pa ps.length pc) ps := pr.frame fun g hg => ⟨hg, Below.heap_alloc _ _ _ (hD g (hF g hg))⟩
  have krA : ByR F (w.alloc (.cells #[.pointer (some ⟨b, 0, none⟩)] 97)) (.slice ka kd.length kc) kd := kr.frame fun g hg => ⟨hg, Below.heap_alloc _ _ _ (hD g (hF g hg))⟩
  generalize hWA : w.alloc (.cells #[.pointer (some ⟨b, 0, none⟩)] 97) = wA at *
  have hsA : wA.heap.size = w.heap.size + 1 := by rw [← hWA]; simp
  have hwB := hwA.new (.cells #[.string (str nm), .slice pa ps.length pc, .int .i64 (cn : Int), .string (str rs), .int .i64 (ln : Int), .slice ka kd.length kc] 52)
  have hDB := Dx.lt hDA (.cells #[.string (str nm), .slice pa ps.length pc, .int .i64 (cn : Int), .string (str rs), .int .i64 (ln : Int), .slice ka kd.length kc] 52)
  have hNB := heap_alloc_new wA (.cells #[.string (str nm), .slice pa ps.length pc, .int .i64 (cn : Int), .string (str rs), .int .i64 (ln : Int), .slice ka kd.length kc] 52)
  have hKB : ∀ w', Kept (fun k => ¬ Dx (Dx D w.heap.size) wA.heap.size k) (wA.alloc (.cells #[.string (str nm), .slice pa ps.length pc, .int .i64 (cn : Int), .string (str rs), .int .i64 (ln : Int), .slice ka kd.length kc] 52)) w' → Kept (fun k => ¬ D k) w w' := fun w' h => hKA w' (Dx.kept h hDA)
  have hNA' : (wA.alloc (.cells #[.string (str nm), .slice pa ps.length pc, .int .i64 (cn : Int), .string (str rs), .int .i64 (ln : Int), .slice ka kd.length kc] 52)).heap[w.heap.size]? = some (.cells #[.pointer (some ⟨b, 0, none⟩)] 97 (0, 0)) := (Below.heap_alloc _ _ _ (by omega)).trans hNA
  have prB : TxR F (wA.alloc (.cells #[.string (str nm), .slice pa ps.length pc, .int .i64 (cn : Int), .string (str rs), .int .i64 (ln : Int), .slice ka kd.length kc] 52)) (.slice pa ps.length pc) ps := prA.frame fun g hg => ⟨hg, Below.heap_alloc _ _ _ (by have := hD g (hF g hg); omega)⟩
  have krB : ByR F (wA.alloc (.cells #[.string (str nm), .slice pa ps.length pc, .int .i64 (cn : Int), .string (str rs), .int .i64 (ln : Int), .slice ka kd.length kc] 52)) (.slice ka kd.length kc) kd := krA.frame fun g hg => ⟨hg, Below.heap_alloc _ _ _ (by have := hD g (hF g hg); omega)⟩
  generalize hWB : wA.alloc (.cells #[.string (str nm), .slice pa ps.length pc, .int .i64 (cn : Int), .string (str rs), .int .i64 (ln : Int), .slice ka kd.length kc] 52) = wB at *
  have hsB : wB.heap.size = w.heap.size + 2 := by rw [← hWB]; simp; omega
  rw [hsA] at hNB
  have e1 : Dx (Dx D w.heap.size) wA.heap.size w.heap.size := .inl (.inr rfl)
  have e2 : Dx (Dx D w.heap.size) wA.heap.size (w.heap.size + 1) := .inr hsA.symm
  have hFE : ∀ g, F g → Dx (Dx D w.heap.size) wA.heap.size g := fun g hg => .inl (.inl (hF g hg))
  have hless : ∀ w' l, WB (Dx (Dx D w.heap.size) wA.heap.size) w' b l → WB D w' b l := fun w' l h => h.less (fun k hk => .inl (.inl hk))
  generalize Dx (Dx D w.heap.size) wA.heap.size = E at *
  have HB : Hid (∀ u, Kept (fun k => ¬ E k) wB u → (∀ k, E k → k < u.heap.size) ∧ u.cell? ⟨w.heap.size, 0, none⟩ = some (.pointer (some ⟨b, 0, none⟩)) ∧ u.cell? ⟨w.heap.size + 1, 0, none⟩ = some (.string (str nm)) ∧ u.cell? ⟨w.heap.size + 1, 1, none⟩ = some (.slice pa ps.length pc) ∧ u.cell? ⟨w.heap.size + 1, 2, none⟩ = some (.int .i64 (cn : Int)) ∧ u.cell? ⟨w.heap.size + 1, 3, none⟩ = some (.string (str rs)) ∧ u.cell? ⟨w.heap.size + 1, 4, none⟩ = some (.int .i64 (ln : Int)) ∧ u.cell? ⟨w.heap.size + 1, 5, none⟩ = some (.slice ka kd.length kc)) := by
    rw [hid_iff]
    intro u hu
    have n0 := (keep_blk hu e1 (by omega)).trans hNA'
    have n1 := (keep_blk hu e2 (by omega)).trans hNB
    exact ⟨keep_lt hu hDB, by rw [cell_of_row u _ 0 _ _ _ n0]; rfl, by rw [cell_of_row u _ 0 _ _ _ n1]; rfl, by rw [cell_of_row u _ 1 _ _ _ n1]; rfl, by rw [cell_of_row u _ 2 _ _ _ n1]; rfl, by rw [cell_of_row u _ 3 _ _ _ n1]; rfl, by rw [cell_of_row u _ 4 _ _ _ n1]; rfl, by rw [cell_of_row u _ 5 _ _ _ n1]; rfl⟩
  have prU : Hid (∀ u, Kept (fun k => ¬ E k) wB u → TxR F u (.slice pa ps.length pc) ps) := by
    rw [hid_iff]
    exact fun u hu => prB.frame fun g hg => ⟨hg, keep_blk hu (hFE g hg) (hDB g (hFE g hg))⟩
  have krU : Hid (∀ u, Kept (fun k => ¬ E k) wB u → ByR F u (.slice ka kd.length kc) kd) := by
    rw [hid_iff]
    exact fun u hu => krB.frame fun g hg => ⟨hg, keep_blk hu (hFE g hg) (hDB g (hFE g hg))⟩
  have HKB := hidden hKB
  have HLS := hidden hless
  have HFE := hidden hFE
  have BIG : l.length + ((txtB nm ++ (lsB txtB ps ++ (Wire.enc cn ++ (txtB rs ++ (Wire.enc ln ++ (Wire.enc kd.length ++ kd.map UInt8.toNat))))))).length + 30 ≤ 140737488355328 := hl
  clear hKA hKB hless hNA hNA' hNB hwA hDA hl hw hFE e1 e2 hD hF pr prA prB kr krA krB
  have k0 : Kept (fun k => ¬ E k) wB wB := Kept.refl _ _
  unfold wrv
  go_enter Tryz.func99, Tryz.ntmps99
  obtain ⟨hD0, p0, q0_0, -, -, -, -, -⟩ := HB.out _ k0
  have pr0 := prU.out _ k0
  have kr0 := krU.out _ k0
  have g0 := wText7 E nm b l wB hD0 (by have t := txtB_ge nm; (try simp only [List.length_append] at BIG ⊢); omega) hwB
  unfold wrv at g0
  clear pr0 kr0 hD0
  go_wp2_with fail
  refine (g0).mono ?_
  rintro e u0 ⟨rfl, x0, y0'⟩
  have y0 := keep_trans k0 y0'
  clear g0 p0 q0_0 hwB k0 y0'
  obtain ⟨hD1, p1, -, q1_1, -, -, -, -⟩ := HB.out _ y0
  have pr1 := prU.out _ y0
  have kr1 := krU.out _ y0
  have g1 := wlistT E F (.slice pa ps.length pc) ps b (l ++ txtB nm) u0 hD1 HFE.out pr1 hn (fun _ _ => trivial) (by (try simp only [List.length_append] at BIG ⊢); omega) x0
  unfold wrv at g1
  clear pr1 kr1 hD1
  go_wp2_with fail
  refine (g1).mono ?_
  rintro e u1 ⟨rfl, x1, y1'⟩
  have y1 := keep_trans y0 y1'
  clear g1 p1 q1_1 x0 y0 y1'
  obtain ⟨hD2, p2, -, -, q2_2, -, -, -⟩ := HB.out _ y1
  have pr2 := prU.out _ y1
  have kr2 := krU.out _ y1
  have g2 := onum E cn b ((l ++ txtB nm) ++ lsB txtB ps) u1 hD2 (by omega) (by (try simp only [List.length_append] at BIG ⊢); omega) x1
  unfold wrv at g2
  clear pr2 kr2 hD2
  go_wp2_with fail
  refine (g2).mono ?_
  rintro e u2 ⟨rfl, x2, y2'⟩
  have y2 := keep_trans y1 y2'
  clear g2 p2 q2_2 x1 y1 y2'
  obtain ⟨hD3, p3, -, -, -, q3_3, -, -⟩ := HB.out _ y2
  have pr3 := prU.out _ y2
  have kr3 := krU.out _ y2
  have g3 := wText7 E rs b (((l ++ txtB nm) ++ lsB txtB ps) ++ Wire.enc cn) u2 hD3 (by have t := txtB_ge rs; (try simp only [List.length_append] at BIG ⊢); omega) x2
  unfold wrv at g3
  clear pr3 kr3 hD3
  go_wp2_with fail
  refine (g3).mono ?_
  rintro e u3 ⟨rfl, x3, y3'⟩
  have y3 := keep_trans y2 y3'
  clear g3 p3 q3_3 x2 y2 y3'
  obtain ⟨hD4, p4, -, -, -, -, q4_4, -⟩ := HB.out _ y3
  have pr4 := prU.out _ y3
  have kr4 := krU.out _ y3
  have g4 := onum E ln b ((((l ++ txtB nm) ++ lsB txtB ps) ++ Wire.enc cn) ++ txtB rs) u3 hD4 (by omega) (by (try simp only [List.length_append] at BIG ⊢); omega) x3
  unfold wrv at g4
  clear pr4 kr4 hD4
  go_wp2_with fail
  refine (g4).mono ?_
  rintro e u4 ⟨rfl, x4, y4'⟩
  have y4 := keep_trans y3 y4'
  clear g4 p4 q4_4 x3 y3 y4'
  obtain ⟨hD5, p5, -, -, -, -, -, q5_5⟩ := HB.out _ y4
  have pr5 := prU.out _ y4
  have kr5 := krU.out _ y4
  have g5 := onum E kd.length b (((((l ++ txtB nm) ++ lsB txtB ps) ++ Wire.enc cn) ++ txtB rs) ++ Wire.enc ln) u4 hD5 (by omega) (by (try simp only [List.length_append] at BIG ⊢); omega) x4
  unfold wrv at g5
  clear pr5 kr5 hD5
  go_wp2_with fail
  refine (g5).mono ?_
  rintro e u5 ⟨rfl, x5, y5'⟩
  have y5 := keep_trans y4 y5'
  clear g5 p5 q5_5 x4 y4 y5'
  obtain ⟨hD6, p6, -, -, -, -, -, q6_5⟩ := HB.out _ y5
  have pr6 := prU.out _ y5
  have kr6 := krU.out _ y5
  have g6 := wRaw7 E F (.slice ka kd.length kc) kd b ((((((l ++ txtB nm) ++ lsB txtB ps) ++ Wire.enc cn) ++ txtB rs) ++ Wire.enc ln) ++ Wire.enc kd.length) u5 hD6 kr6 (by (try simp only [List.length_append, List.length_map] at BIG ⊢); omega) x5
  unfold wrv at g6
  clear pr6 kr6 hD6
  go_wp2_with fail
  refine (g6).mono ?_
  rintro e u6 ⟨rfl, x6, y6'⟩
  have y6 := keep_trans y5 y6'
  clear g6 p6 q6_5 x5 y5 y6'
  have hK := HKB.out _ y6
  have hW := HLS.out _ _ x6
  simp only [List.append_assoc] at hW
  clear x6 y6 HKB HLS HB HFE prU krU BIG
  go_wp2
  go_end0
  exact ⟨rfl, hW, hK⟩
end Go.Proofs.YtfjppbpicmniaaaGreatDoor
