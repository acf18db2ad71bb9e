/-
  Object's writer: lists of texts, cases, lists of cases, items.
-/
import Derived.Test.YtfjppbpicmniaaaGreatDoorG38
import Derived.Test.YtfjppbpicmniaaaGreatDoorG18
namespace Go.Proofs.YtfjppbpicmniaaaGreatDoor
open Go.RowKit

theorem flat_take {α : Type} (E : α → List Nat) (xs : List α) (k : Nat) (h : k < xs.length) : (xs.take (k + 1)).flatMap E = (xs.take k).flatMap E ++ E xs[k] := by
  rw [List.take_succ_eq_append_getElem h, List.flatMap_append, List.flatMap_cons, List.flatMap_nil, List.append_nil]
theorem flat_le {α : Type} (E : α → List Nat) (xs : List α) (k : Nat) : ((xs.take k).flatMap E).length ≤ (xs.flatMap E).length := by
  have h : xs.flatMap E = (xs.take k).flatMap E ++ (xs.drop k).flatMap E := by rw [← List.flatMap_append, List.take_append_drop]
  rw [h, List.length_append]
  omega
set_option maxHeartbeats 4000000 in
set_option maxRecDepth 1000000 in
theorem wlistT (D F : Nat → Prop) (v : Value) (xs : List (List UInt8)) (b : Nat) (l : List Nat) (w : World) (hD : ∀ k, D k → k < w.heap.size) (hF : ∀ g, F g → D g) (hr : TxR F w v xs) (hn : xs.length ≤ 65535) (_hok : ∀ x ∈ xs, (fun _ => True) x) (hl : l.length + (lsB txtB xs).length + 30 ≤ 140737488355328) (hw : WB D w b l) :
    Calls Tryz.prog 95 #[wrv b, v, .func (.func 92) #[.pointer (some ⟨b, 0, none⟩)] #[]] w (WP D w b (l ++ lsB txtB xs)) := by
  have hwA := hw.new (.cells #[.pointer (some ⟨b, 0, none⟩)] 97)
  have hDA := Dx.lt hD (.cells #[.pointer (some ⟨b, 0, none⟩)] 97)
  have hrA : TxR F (w.alloc (.cells #[.pointer (some ⟨b, 0, none⟩)] 97)) v xs := hr.frame fun g hg => ⟨hg, Below.heap_alloc _ _ _ (hD g (hF g hg))⟩
  have hFE : ∀ g, F g → Dx D w.heap.size g := fun g hg => .inl (hF g hg)
  have HK : Hid (∀ w' l', WB (Dx D w.heap.size) w' b l' → Kept (fun k => ¬ Dx D w.heap.size k) (w.alloc (.cells #[.pointer (some ⟨b, 0, none⟩)] 97)) w' → l' = l ++ lsB txtB xs → WP D w b (l ++ lsB txtB xs) (.returned (.tuple #[])) w') := by
    rw [hid_iff]
    rintro w' l' h1 h2 rfl
    exact ⟨rfl, h1.less (fun k hk => .inl hk), Dx.kept h2 hD⟩
  have hlB : (lsB txtB xs).length = (Wire.enc xs.length).length + (xs.flatMap txtB).length := by simp [lsB]
  have he0 := Wire.enc_ten xs.length (by omega)
  obtain ⟨va, vc, rfl⟩ := hr.shape
  generalize Dx D w.heap.size = E at *
  have hn1 := onum E xs.length b l _ hDA (by omega) (by omega) hwA
  unfold wrv at *
  clear hwA hr hF hD hw
  go_enter Tryz.func95, Tryz.ntmps95
  go_wp2_with fail
  generalize w.alloc (.cells #[.pointer (some ⟨b, 0, none⟩)] 97) = wA at *
  refine hn1.mono ?_
  rintro e w1 ⟨rfl, hw1, k1⟩
  clear hn1
  have HRU : Hid (∀ u, Kept (fun k => ¬ E k) wA u → TxR F u (.slice va xs.length vc) xs) := by
    rw [hid_iff]
    exact fun u hu => hrA.frame fun g hg => ⟨hg, keep_blk hu (hFE g hg) (hDA g (hFE g hg))⟩
  clear hrA
  go_wp2
  go_loopg [14] xs.length (fun g i wr => ∃ (k : Nat), g + k = xs.length ∧ i = .int .i64 (k : Int) ∧ WB E wr b (l ++ Wire.enc xs.length ++ (xs.take k).flatMap txtB) ∧ Kept (fun k => ¬ E k) wA wr)
  case atStart => exact ⟨0, by omega, rfl, by simpa using hw1, k1⟩
  case round =>
    obtain ⟨k, hg, rfl, hwr, kr⟩ := hrel
    have hDr := keep_lt kr hDA
    by_cases hk : k < xs.length
    · have hki : (k : Int) < (xs.length : Int) := by omega
      have hrow := HRU.out _ kr
      have hst : (xs.take (k + 1)).flatMap txtB = (xs.take k).flatMap txtB ++ txtB xs[k] := flat_take _ xs k hk
      have hsz := flat_le txtB xs (k + 1)
      obtain ⟨gq, oq, cq, e1, _, q0⟩ := hrow.at k hk
      simp only [Value.slice.injEq, true_and] at e1
      obtain ⟨rfl, rfl⟩ := e1
      rw [hst] at hsz
      simp only [List.length_append] at hsz
      clear hrow
      generalize xs[k] = x at *
      have t := txtB_ge x
      have g0 := wText7 E x b _ wr hDr (by simp only [List.length_append]; omega) hwr
      clear hwr
      go_wp2_with fail
      refine g0.mono ?_
      rintro e w2 ⟨rfl, hw2, k2⟩
      clear g0
      go_wp2
      go_roundg (xs.length - (k + 1))
      case measure => omega
      case rel => exact ⟨k + 1, by omega, by go_num, by rw [hst, ← List.append_assoc]; exact hw2, keep_trans kr k2⟩
    · have hki : ¬ (k : Int) < (xs.length : Int) := by omega
      have hQ := HK.out _ _ hwr kr (by rw [List.take_of_length_le (by omega), List.append_assoc]; rfl)
      clear hwr kr HK HRU
      go_wp2
      go_end0
      exact hQ

set_option maxHeartbeats 4000000 in
set_option maxRecDepth 1000000 in
theorem ocase (D F : Nat → Prop) (nm : List UInt8) (fs : List (List UInt8)) (fa : Option Addr) (fc : Nat) (b : Nat) (l : List Nat) (w : World) (hD : ∀ k, D k → k < w.heap.size) (hF : ∀ g, F g → D g) (pr : TxR F w (.slice fa fs.length fc) fs) (hn : fs.length ≤ 65535) (hl : l.length + ((txtB nm ++ lsB txtB fs)).length + 30 ≤ 140737488355328) (hw : WB D w b l) :
    Calls Tryz.prog 147 #[wrv b, .agg #[.string (str nm), .slice fa fs.length fc]] w (WP D w b (l ++ (txtB nm ++ lsB txtB fs))) := by
  have hwA := hw.new (.cells #[.pointer (some ⟨b, 0, none⟩)] 97)
  have hDA := Dx.lt hD (.cells #[.pointer (some ⟨b, 0, none⟩)] 97)
  have hNA := heap_alloc_new w (.cells #[.pointer (some ⟨b, 0, none⟩)] 97)
  have hKA : ∀ w', Kept (fun k => ¬ Dx D w.heap.size k) (w.alloc (.cells #[.pointer (some ⟨b, 0, none⟩)] 97)) w' → Kept (fun k => ¬ D k) w w' := fun w' h => Dx.kept h hD
  have prA : TxR F (w.alloc (.cells #[.pointer (some ⟨b, 0, none⟩)] 97)) (.slice fa fs.length fc) fs := pr.frame fun g hg => ⟨hg, Below.heap_alloc _ _ _ (hD g (hF g hg))⟩
  generalize hWA : w.alloc (.cells #[.pointer (some ⟨b, 0, none⟩)] 97) = wA at *
  have hsA : wA.heap.size = w.heap.size + 1 := by rw [← hWA]; simp
  have hwB := hwA.new (.cells #[.string (str nm), .slice fa fs.length fc] 204)
  have hDB := Dx.lt hDA (.cells #[.string (str nm), .slice fa fs.length fc] 204)
  have hNB := heap_alloc_new wA (.cells #[.string (str nm), .slice fa fs.length fc] 204)
  have hKB : ∀ w', Kept (fun k => ¬ Dx (Dx D w.heap.size) wA.heap.size k) (wA.alloc (.cells #[.string (str nm), .slice fa fs.length fc] 204)) w' → Kept (fun k => ¬ D k) w w' := fun w' h => hKA w' (Dx.kept h hDA)
  have hNA' : (wA.alloc (.cells #[.string (str nm), .slice fa fs.length fc] 204)).heap[w.heap.size]? = some (.cells #[.pointer (some ⟨b, 0, none⟩)] 97 (0, 0)) := (Below.heap_alloc _ _ _ (by omega)).trans hNA
  have prB : TxR F (wA.alloc (.cells #[.string (str nm), .slice fa fs.length fc] 204)) (.slice fa fs.length fc) fs := prA.frame fun g hg => ⟨hg, Below.heap_alloc _ _ _ (by have := hD g (hF g hg); omega)⟩
  generalize hWB : wA.alloc (.cells #[.string (str nm), .slice fa fs.length fc] 204) = wB at *
  have hsB : wB.heap.size = w.heap.size + 2 := by rw [← hWB]; simp; omega
  rw [hsA] at hNB
  have e1 : Dx (Dx D w.heap.size) wA.heap.size w.heap.size := .inl (.inr rfl)
  have e2 : Dx (Dx D w.heap.size) wA.heap.size (w.heap.size + 1) := .inr hsA.symm
  have hFE : ∀ g, F g → Dx (Dx D w.heap.size) wA.heap.size g := fun g hg => .inl (.inl (hF g hg))
  have hless : ∀ w' l, WB (Dx (Dx D w.heap.size) wA.heap.size) w' b l → WB D w' b l := fun w' l h => h.less (fun k hk => .inl (.inl hk))
  generalize Dx (Dx D w.heap.size) wA.heap.size = E at *
  have HB : Hid (∀ u, Kept (fun k => ¬ E k) wB u → (∀ k, E k → k < u.heap.size) ∧ u.cell? ⟨w.heap.size, 0, none⟩ = some (.pointer (some ⟨b, 0, none⟩)) ∧ u.cell? ⟨w.heap.size + 1, 0, none⟩ = some (.string (str nm)) ∧ u.cell? ⟨w.heap.size + 1, 1, none⟩ = some (.slice fa fs.length fc)) := by
    rw [hid_iff]
    intro u hu
    have n0 := (keep_blk hu e1 (by omega)).trans hNA'
    have n1 := (keep_blk hu e2 (by omega)).trans hNB
    exact ⟨keep_lt hu hDB, by rw [cell_of_row u _ 0 _ _ _ n0]; rfl, by rw [cell_of_row u _ 0 _ _ _ n1]; rfl, by rw [cell_of_row u _ 1 _ _ _ n1]; rfl⟩
  have prU : Hid (∀ u, Kept (fun k => ¬ E k) wB u → TxR F u (.slice fa fs.length fc) fs) := by
    rw [hid_iff]
    exact fun u hu => prB.frame fun g hg => ⟨hg, keep_blk hu (hFE g hg) (hDB g (hFE g hg))⟩
  have HKB := hidden hKB
  have HLS := hidden hless
  have HFE := hidden hFE
  have BIG : l.length + ((txtB nm ++ lsB txtB fs)).length + 30 ≤ 140737488355328 := hl
  clear hKA hKB hless hNA hNA' hNB hwA hDA hl hw hFE e1 e2 hD hF pr prA prB
  have k0 : Kept (fun k => ¬ E k) wB wB := Kept.refl _ _
  unfold wrv
  go_enter Tryz.func147, Tryz.ntmps147
  obtain ⟨hD0, p0, q0_0, -⟩ := HB.out _ k0
  have pr0 := prU.out _ k0
  have g0 := wText7 E nm b l wB hD0 (by have t := txtB_ge nm; (try simp only [List.length_append] at BIG ⊢); omega) hwB
  unfold wrv at g0
  clear pr0 hD0
  go_wp2_with fail
  refine (g0).mono ?_
  rintro e u0 ⟨rfl, x0, y0'⟩
  have y0 := keep_trans k0 y0'
  clear g0 p0 q0_0 hwB k0 y0'
  obtain ⟨hD1, p1, -, q1_1⟩ := HB.out _ y0
  have pr1 := prU.out _ y0
  have g1 := wlistT E F (.slice fa fs.length fc) fs b (l ++ txtB nm) u0 hD1 HFE.out pr1 hn (fun _ _ => trivial) (by (try simp only [List.length_append] at BIG ⊢); omega) x0
  unfold wrv at g1
  clear pr1 hD1
  go_wp2_with fail
  refine (g1).mono ?_
  rintro e u1 ⟨rfl, x1, y1'⟩
  have y1 := keep_trans y0 y1'
  clear g1 p1 q1_1 x0 y0 y1'
  have hK := HKB.out _ y1
  have hW := HLS.out _ _ x1
  simp only [List.append_assoc] at hW
  clear x1 y1 HKB HLS HB HFE prU BIG
  go_wp2
  go_end0
  exact ⟨rfl, hW, hK⟩
set_option maxHeartbeats 4000000 in
set_option maxRecDepth 1000000 in
theorem wlistC (D F : Nat → Prop) (v : Value) (xs : List Cs) (b : Nat) (l : List Nat) (w : World) (hD : ∀ k, D k → k < w.heap.size) (hF : ∀ g, F g → D g) (hr : CsR F w v xs) (hn : xs.length ≤ 65535) (hok : ∀ x ∈ xs, CsS x) (hl : l.length + (lsB caseB xs).length + 30 ≤ 140737488355328) (hw : WB D w b l) :
    Calls Tryz.prog 146 #[wrv b, v, .func (.func 147) #[wrv b] #[]] w (WP D w b (l ++ lsB caseB xs)) := by
  have hwA := hw.new (.cells #[.pointer (some ⟨b, 0, none⟩)] 97)
  have hDA := Dx.lt hD (.cells #[.pointer (some ⟨b, 0, none⟩)] 97)
  have hrA : CsR F (w.alloc (.cells #[.pointer (some ⟨b, 0, none⟩)] 97)) v xs := hr.frame fun g hg => ⟨hg, Below.heap_alloc _ _ _ (hD g (hF g hg))⟩
  have hFE : ∀ g, F g → Dx D w.heap.size g := fun g hg => .inl (hF g hg)
  have HK : Hid (∀ w' l', WB (Dx D w.heap.size) w' b l' → Kept (fun k => ¬ Dx D w.heap.size k) (w.alloc (.cells #[.pointer (some ⟨b, 0, none⟩)] 97)) w' → l' = l ++ lsB caseB xs → WP D w b (l ++ lsB caseB xs) (.returned (.tuple #[])) w') := by
    rw [hid_iff]
    rintro w' l' h1 h2 rfl
    exact ⟨rfl, h1.less (fun k hk => .inl hk), Dx.kept h2 hD⟩
  have hlB : (lsB caseB xs).length = (Wire.enc xs.length).length + (xs.flatMap caseB).length := by simp [lsB]
  have he0 := Wire.enc_ten xs.length (by omega)
  obtain ⟨va, vc, rfl⟩ := hr.shape
  generalize Dx D w.heap.size = E at *
  have hn1 := onum E xs.length b l _ hDA (by omega) (by omega) hwA
  unfold wrv at *
  clear hwA hr hF hD hw
  go_enter Tryz.func146, Tryz.ntmps146
  go_wp2_with fail
  generalize w.alloc (.cells #[.pointer (some ⟨b, 0, none⟩)] 97) = wA at *
  refine hn1.mono ?_
  rintro e w1 ⟨rfl, hw1, k1⟩
  clear hn1
  have HRU : Hid (∀ u, Kept (fun k => ¬ E k) wA u → CsR F u (.slice va xs.length vc) xs) := by
    rw [hid_iff]
    exact fun u hu => hrA.frame fun g hg => ⟨hg, keep_blk hu (hFE g hg) (hDA g (hFE g hg))⟩
  clear hrA
  go_wp2
  go_loopg [14] xs.length (fun g i wr => ∃ (k : Nat), g + k = xs.length ∧ i = .int .i64 (k : Int) ∧ WB E wr b (l ++ Wire.enc xs.length ++ (xs.take k).flatMap caseB) ∧ Kept (fun k => ¬ E k) wA wr)
  case atStart => exact ⟨0, by omega, rfl, by simpa using hw1, k1⟩
  case round =>
    obtain ⟨k, hg, rfl, hwr, kr⟩ := hrel
    have hDr := keep_lt kr hDA
    by_cases hk : k < xs.length
    · have hki : (k : Int) < (xs.length : Int) := by omega
      have hrow := HRU.out _ kr
      have hst : (xs.take (k + 1)).flatMap caseB = (xs.take k).flatMap caseB ++ caseB xs[k] := flat_take _ xs k hk
      have hsz := flat_le caseB xs (k + 1)
      have hox := hok _ (List.getElem_mem hk)
      obtain ⟨gq, oq, cq, fv, e1, e2, e2', hT, q00, q01⟩ := hrow.at k hk
      simp only [Value.slice.injEq, true_and] at e1
      obtain ⟨rfl, rfl⟩ := e1
      have hcell : True := trivial
      generalize xs[k] = x at *
      obtain ⟨nm, fs⟩ := x
      simp only at hT q00 q01 hox
      obtain ⟨fa, fc, rfl⟩ := hT.shape
      have hcb : caseB (nm, fs) = txtB nm ++ lsB txtB fs := by unfold caseB lsB; rw [fieldsB_flat]
      rw [hcb] at hst
      rw [hst] at hsz
      simp only [List.length_append] at hsz
      have q0 := q00
      have q1 := q01
      clear hrow hcell
      have hwx := (hwr.new (.cells #[.string (str nm), .slice fa fs.length fc] 204)).less (E := E) (fun k hk => .inl hk)
      have kx : Kept (fun k => ¬ E k) wr (wr.alloc (.cells #[.string (str nm), .slice fa fs.length fc] 204)) := ⟨rfl, rfl, rfl, by simp, fun z hz _ => Below.heap_alloc _ _ _ hz⟩
      have hDx := keep_lt kx hDr
      have g0 := ocase E F nm fs fa fc b _ _ hDx hFE (hT.frame fun g hg => ⟨hg, Below.heap_alloc _ _ _ (hDr g (hFE g hg))⟩) (by have h9 : fs.length ≤ 4 := hox.2.1; omega) (by simp only [List.length_append] at hsz ⊢; omega) hwx
      unfold wrv at g0
      clear hwr hwx
      go_wp2_with fail
      refine g0.mono ?_
      rintro e w2 ⟨rfl, hw2, k2⟩
      have kk := keep_trans (keep_trans kr kx) k2
      clear g0 k2 kx hDx q0 q1
      go_wp2
      go_roundg (xs.length - (k + 1))
      case measure => omega
      case rel => exact ⟨k + 1, by omega, by go_num, by rw [hst, ← List.append_assoc]; exact hw2, kk⟩
    · have hki : ¬ (k : Int) < (xs.length : Int) := by omega
      have hQ := HK.out _ _ hwr kr (by rw [List.take_of_length_le (by omega), List.append_assoc]; rfl)
      clear hwr kr HK HRU
      go_wp2
      go_end0
      exact hQ

set_option maxHeartbeats 4000000 in
set_option maxRecDepth 1000000 in
theorem oitemK (D F : Nat → Prop) (kn : Nat) (nm ty : List UInt8) (cs : List Cs) (ca : Option Addr) (cc : Nat) (b : Nat) (l : List Nat) (w : World) (hD : ∀ k, D k → k < w.heap.size) (hF : ∀ g, F g → D g) (pr : CsR F w (.slice ca cs.length cc) cs) (hki : (((kn : Nat) : Int) == (1 : Int)) = true) (hkn : kn ≤ 65535) (hn : cs.length ≤ 65535) (hok : ∀ c ∈ cs, CsS c) (hl : l.length + ((Wire.enc kn ++ (txtB nm ++ lsB caseB cs))).length + 30 ≤ 140737488355328) (hw : WB D w b l) :
    Calls Tryz.prog 94 #[wrv b, .agg #[.int .i64 (kn : Int), .string (str nm), .string (str ty), .slice ca cs.length cc]] w (WP D w b (l ++ (Wire.enc kn ++ (txtB nm ++ lsB caseB cs)))) := by
  have hwA := hw.new (.cells #[.pointer (some ⟨b, 0, none⟩)] 97)
  have hDA := Dx.lt hD (.cells #[.pointer (some ⟨b, 0, none⟩)] 97)
  have hNA := heap_alloc_new w (.cells #[.pointer (some ⟨b, 0, none⟩)] 97)
  have hKA : ∀ w', Kept (fun k => ¬ Dx D w.heap.size k) (w.alloc (.cells #[.pointer (some ⟨b, 0, none⟩)] 97)) w' → Kept (fun k => ¬ D k) w w' := fun w' h => Dx.kept h hD
  have prA : CsR F (w.alloc (.cells #[.pointer (some ⟨b, 0, none⟩)] 97)) (.slice ca cs.length cc) cs := pr.frame fun g hg => ⟨hg, Below.heap_alloc _ _ _ (hD g (hF g hg))⟩
  generalize hWA : w.alloc (.cells #[.pointer (some ⟨b, 0, none⟩)] 97) = wA at *
  have hsA : wA.heap.size = w.heap.size + 1 := by rw [← hWA]; simp
  have hwB := hwA.new (.cells #[.int .i64 (kn : Int), .string (str nm), .string (str ty), .slice ca cs.length cc] 78)
  have hDB := Dx.lt hDA (.cells #[.int .i64 (kn : Int), .string (str nm), .string (str ty), .slice ca cs.length cc] 78)
  have hNB := heap_alloc_new wA (.cells #[.int .i64 (kn : Int), .string (str nm), .string (str ty), .slice ca cs.length cc] 78)
  have hKB : ∀ w', Kept (fun k => ¬ Dx (Dx D w.heap.size) wA.heap.size k) (wA.alloc (.cells #[.int .i64 (kn : Int), .string (str nm), .string (str ty), .slice ca cs.length cc] 78)) w' → Kept (fun k => ¬ D k) w w' := fun w' h => hKA w' (Dx.kept h hDA)
  have hNA' : (wA.alloc (.cells #[.int .i64 (kn : Int), .string (str nm), .string (str ty), .slice ca cs.length cc] 78)).heap[w.heap.size]? = some (.cells #[.pointer (some ⟨b, 0, none⟩)] 97 (0, 0)) := (Below.heap_alloc _ _ _ (by omega)).trans hNA
  have prB : CsR F (wA.alloc (.cells #[.int .i64 (kn : Int), .string (str nm), .string (str ty), .slice ca cs.length cc] 78)) (.slice ca cs.length cc) cs := prA.frame fun g hg => ⟨hg, Below.heap_alloc _ _ _ (by have := hD g (hF g hg); omega)⟩
  generalize hWB : wA.alloc (.cells #[.int .i64 (kn : Int), .string (str nm), .string (str ty), .slice ca cs.length cc] 78) = wB at *
  have hsB : wB.heap.size = w.heap.size + 2 := by rw [← hWB]; simp; omega
  rw [hsA] at hNB
  have e1 : Dx (Dx D w.heap.size) wA.heap.size w.heap.size := .inl (.inr rfl)
  have e2 : Dx (Dx D w.heap.size) wA.heap.size (w.heap.size + 1) := .inr hsA.symm
  have hFE : ∀ g, F g → Dx (Dx D w.heap.size) wA.heap.size g := fun g hg => .inl (.inl (hF g hg))
  have hless : ∀ w' l, WB (Dx (Dx D w.heap.size) wA.heap.size) w' b l → WB D w' b l := fun w' l h => h.less (fun k hk => .inl (.inl hk))
  generalize Dx (Dx D w.heap.size) wA.heap.size = E at *
  have HB : Hid (∀ u, Kept (fun k => ¬ E k) wB u → (∀ k, E k → k < u.heap.size) ∧ u.cell? ⟨w.heap.size, 0, none⟩ = some (.pointer (some ⟨b, 0, none⟩)) ∧ u.cell? ⟨w.heap.size + 1, 0, none⟩ = some (.int .i64 (kn : Int)) ∧ u.cell? ⟨w.heap.size + 1, 1, none⟩ = some (.string (str nm)) ∧ u.cell? ⟨w.heap.size + 1, 2, none⟩ = some (.string (str ty)) ∧ u.cell? ⟨w.heap.size + 1, 3, none⟩ = some (.slice ca cs.length cc)) := by
    rw [hid_iff]
    intro u hu
    have n0 := (keep_blk hu e1 (by omega)).trans hNA'
    have n1 := (keep_blk hu e2 (by omega)).trans hNB
    exact ⟨keep_lt hu hDB, by rw [cell_of_row u _ 0 _ _ _ n0]; rfl, by rw [cell_of_row u _ 0 _ _ _ n1]; rfl, by rw [cell_of_row u _ 1 _ _ _ n1]; rfl, by rw [cell_of_row u _ 2 _ _ _ n1]; rfl, by rw [cell_of_row u _ 3 _ _ _ n1]; rfl⟩
  have prU : Hid (∀ u, Kept (fun k => ¬ E k) wB u → CsR F u (.slice ca cs.length cc) cs) := by
    rw [hid_iff]
    exact fun u hu => prB.frame fun g hg => ⟨hg, keep_blk hu (hFE g hg) (hDB g (hFE g hg))⟩
  have HKB := hidden hKB
  have HLS := hidden hless
  have HFE := hidden hFE
  have BIG : l.length + ((Wire.enc kn ++ (txtB nm ++ lsB caseB cs))).length + 30 ≤ 140737488355328 := hl
  clear hKA hKB hless hNA hNA' hNB hwA hDA hl hw hFE e1 e2 hD hF pr prA prB
  have k0 : Kept (fun k => ¬ E k) wB wB := Kept.refl _ _
  unfold wrv
  go_enter Tryz.func94, Tryz.ntmps94
  obtain ⟨hD0, p0, q0_0, -, -, -⟩ := HB.out _ k0
  have pr0 := prU.out _ k0
  have g0 := onum E kn b l wB hD0 (by omega) (by (try simp only [List.length_append] at BIG ⊢); omega) hwB
  unfold wrv at g0
  clear pr0 hD0
  go_wp2_with fail
  refine (g0).mono ?_
  rintro e u0 ⟨rfl, x0, y0'⟩
  have y0 := keep_trans k0 y0'
  clear g0 p0 q0_0 hwB k0 y0'
  obtain ⟨hD1, p1, -, q1_1, -, -⟩ := HB.out _ y0
  have pr1 := prU.out _ y0
  have g1 := wText7 E nm b (l ++ Wire.enc kn) u0 hD1 (by have t := txtB_ge nm; (try simp only [List.length_append] at BIG ⊢); omega) x0
  unfold wrv at g1
  clear pr1 hD1
  go_wp2_with fail
  refine (g1).mono ?_
  rintro e u1 ⟨rfl, x1, y1'⟩
  have y1 := keep_trans y0 y1'
  clear g1 p1 q1_1 x0 y0 y1'
  obtain ⟨hD2, p2, q2_0, -, -, q2_3⟩ := HB.out _ y1
  have pr2 := prU.out _ y1
  have g2 := wlistC E F (.slice ca cs.length cc) cs b ((l ++ Wire.enc kn) ++ txtB nm) u1 hD2 HFE.out pr2 hn hok (by (try simp only [List.length_append] at BIG ⊢); omega) x1
  unfold wrv at g2
  clear pr2 hD2
  go_wp2_with fail
  refine (g2).mono ?_
  rintro e u2 ⟨rfl, x2, y2'⟩
  have y2 := keep_trans y1 y2'
  clear g2 p2 q2_0 q2_3 x1 y1 y2'
  have hK := HKB.out _ y2
  have hW := HLS.out _ _ x2
  simp only [List.append_assoc] at hW
  clear x2 y2 HKB HLS HB HFE prU BIG
  go_wp2
  go_end0
  exact ⟨rfl, hW, hK⟩
set_option maxHeartbeats 4000000 in
set_option maxRecDepth 1000000 in
theorem oitemV (D F : Nat → Prop) (kn : Nat) (nm ty : List UInt8) (cs : List Cs) (ca : Option Addr) (cc : Nat) (b : Nat) (l : List Nat) (w : World) (hD : ∀ k, D k → k < w.heap.size) (hF : ∀ g, F g → D g) (pr : CsR F w (.slice ca cs.length cc) cs) (hki : (((kn : Nat) : Int) == (1 : Int)) = false) (hkn : kn ≤ 65535) (hl : l.length + ((Wire.enc kn ++ (txtB nm ++ txtB ty))).length + 30 ≤ 140737488355328) (hw : WB D w b l) :
    Calls Tryz.prog 94 #[wrv b, .agg #[.int .i64 (kn : Int), .string (str nm), .string (str ty), .slice ca cs.length cc]] w (WP D w b (l ++ (Wire.enc kn ++ (txtB nm ++ txtB ty)))) := by
  have hwA := hw.new (.cells #[.pointer (some ⟨b, 0, none⟩)] 97)
  have hDA := Dx.lt hD (.cells #[.pointer (some ⟨b, 0, none⟩)] 97)
  have hNA := heap_alloc_new w (.cells #[.pointer (some ⟨b, 0, none⟩)] 97)
  have hKA : ∀ w', Kept (fun k => ¬ Dx D w.heap.size k) (w.alloc (.cells #[.pointer (some ⟨b, 0, none⟩)] 97)) w' → Kept (fun k => ¬ D k) w w' := fun w' h => Dx.kept h hD
  have prA : CsR F (w.alloc (.cells #[.pointer (some ⟨b, 0, none⟩)] 97)) (.slice ca cs.length cc) cs := pr.frame fun g hg => ⟨hg, Below.heap_alloc _ _ _ (hD g (hF g hg))⟩
  generalize hWA : w.alloc (.cells #[.pointer (some ⟨b, 0, none⟩)] 97) = wA at *
  have hsA : wA.heap.size = w.heap.size + 1 := by rw [← hWA]; simp
  have hwB := hwA.new (.cells #[.int .i64 (kn : Int), .string (str nm), .string (str ty), .slice ca cs.length cc] 78)
  have hDB := Dx.lt hDA (.cells #[.int .i64 (kn : Int), .string (str nm), .string (str ty), .slice ca cs.length cc] 78)
  have hNB := heap_alloc_new wA (.cells #[.int .i64 (kn : Int), .string (str nm), .string (str ty), .slice ca cs.length cc] 78)
  have hKB : ∀ w', Kept (fun k => ¬ Dx (Dx D w.heap.size) wA.heap.size k) (wA.alloc (.cells #[.int .i64 (kn : Int), .string (str nm), .string (str ty), .slice ca cs.length cc] 78)) w' → Kept (fun k => ¬ D k) w w' := fun w' h => hKA w' (Dx.kept h hDA)
  have hNA' : (wA.alloc (.cells #[.int .i64 (kn : Int), .string (str nm), .string (str ty), .slice ca cs.length cc] 78)).heap[w.heap.size]? = some (.cells #[.pointer (some ⟨b, 0, none⟩)] 97 (0, 0)) := (Below.heap_alloc _ _ _ (by omega)).trans hNA
  have prB : CsR F (wA.alloc (.cells #[.int .i64 (kn : Int), .string (str nm), .string (str ty), .slice ca cs.length cc] 78)) (.slice ca cs.length cc) cs := prA.frame fun g hg => ⟨hg, Below.heap_alloc _ _ _ (by have := hD g (hF g hg); omega)⟩
  generalize hWB : wA.alloc (.cells #[.int .i64 (kn : Int), .string (str nm), .string (str ty), .slice ca cs.length cc] 78) = wB at *
  have hsB : wB.heap.size = w.heap.size + 2 := by rw [← hWB]; simp; omega
  rw [hsA] at hNB
  have e1 : Dx (Dx D w.heap.size) wA.heap.size w.heap.size := .inl (.inr rfl)
  have e2 : Dx (Dx D w.heap.size) wA.heap.size (w.heap.size + 1) := .inr hsA.symm
  have hFE : ∀ g, F g → Dx (Dx D w.heap.size) wA.heap.size g := fun g hg => .inl (.inl (hF g hg))
  have hless : ∀ w' l, WB (Dx (Dx D w.heap.size) wA.heap.size) w' b l → WB D w' b l := fun w' l h => h.less (fun k hk => .inl (.inl hk))
  generalize Dx (Dx D w.heap.size) wA.heap.size = E at *
  have HB : Hid (∀ u, Kept (fun k => ¬ E k) wB u → (∀ k, E k → k < u.heap.size) ∧ u.cell? ⟨w.heap.size, 0, none⟩ = some (.pointer (some ⟨b, 0, none⟩)) ∧ u.cell? ⟨w.heap.size + 1, 0, none⟩ = some (.int .i64 (kn : Int)) ∧ u.cell? ⟨w.heap.size + 1, 1, none⟩ = some (.string (str nm)) ∧ u.cell? ⟨w.heap.size + 1, 2, none⟩ = some (.string (str ty)) ∧ u.cell? ⟨w.heap.size + 1, 3, none⟩ = some (.slice ca cs.length cc)) := by
    rw [hid_iff]
    intro u hu
    have n0 := (keep_blk hu e1 (by omega)).trans hNA'
    have n1 := (keep_blk hu e2 (by omega)).trans hNB
    exact ⟨keep_lt hu hDB, by rw [cell_of_row u _ 0 _ _ _ n0]; rfl, by rw [cell_of_row u _ 0 _ _ _ n1]; rfl, by rw [cell_of_row u _ 1 _ _ _ n1]; rfl, by rw [cell_of_row u _ 2 _ _ _ n1]; rfl, by rw [cell_of_row u _ 3 _ _ _ n1]; rfl⟩
  have prU : Hid (∀ u, Kept (fun k => ¬ E k) wB u → CsR F u (.slice ca cs.length cc) cs) := by
    rw [hid_iff]
    exact fun u hu => prB.frame fun g hg => ⟨hg, keep_blk hu (hFE g hg) (hDB g (hFE g hg))⟩
  have HKB := hidden hKB
  have HLS := hidden hless
  have HFE := hidden hFE
  have BIG : l.length + ((Wire.enc kn ++ (txtB nm ++ txtB ty))).length + 30 ≤ 140737488355328 := hl
  clear hKA hKB hless hNA hNA' hNB hwA hDA hl hw hFE e1 e2 hD hF pr prA prB
  have k0 : Kept (fun k => ¬ E k) wB wB := Kept.refl _ _
  unfold wrv
  go_enter Tryz.func94, Tryz.ntmps94
  obtain ⟨hD0, p0, q0_0, -, -, -⟩ := HB.out _ k0
  have pr0 := prU.out _ k0
  have g0 := onum E kn b l wB hD0 (by omega) (by (try simp only [List.length_append] at BIG ⊢); omega) hwB
  unfold wrv at g0
  clear pr0 hD0
  go_wp2_with fail
  refine (g0).mono ?_
  rintro e u0 ⟨rfl, x0, y0'⟩
  have y0 := keep_trans k0 y0'
  clear g0 p0 q0_0 hwB k0 y0'
  obtain ⟨hD1, p1, -, q1_1, -, -⟩ := HB.out _ y0
  have pr1 := prU.out _ y0
  have g1 := wText7 E nm b (l ++ Wire.enc kn) u0 hD1 (by have t := txtB_ge nm; (try simp only [List.length_append] at BIG ⊢); omega) x0
  unfold wrv at g1
  clear pr1 hD1
  go_wp2_with fail
  refine (g1).mono ?_
  rintro e u1 ⟨rfl, x1, y1'⟩
  have y1 := keep_trans y0 y1'
  clear g1 p1 q1_1 x0 y0 y1'
  obtain ⟨hD2, p2, q2_0, -, q2_2, -⟩ := HB.out _ y1
  have pr2 := prU.out _ y1
  have g2 := wText7 E ty b ((l ++ Wire.enc kn) ++ txtB nm) u1 hD2 (by have t := txtB_ge ty; (try simp only [List.length_append] at BIG ⊢); omega) x1
  unfold wrv at g2
  clear pr2 hD2
  go_wp2_with fail
  refine (g2).mono ?_
  rintro e u2 ⟨rfl, x2, y2'⟩
  have y2 := keep_trans y1 y2'
  clear g2 p2 q2_0 q2_2 x1 y1 y2'
  have hK := HKB.out _ y2
  have hW := HLS.out _ _ x2
  simp only [List.append_assoc] at hW
  clear x2 y2 HKB HLS HB HFE prU BIG
  go_wp2
  go_end0
  exact ⟨rfl, hW, hK⟩
/-- An item's bytes. -/
def itBy (kn : Nat) (nm ty : List UInt8) (cs : List Cs) : List Nat := Wire.enc kn ++ (txtB nm ++ (if (kn : Int) = 1 then lsB caseB cs else txtB ty))
theorem itBy_is (kn : Nat) (nm ty : List UInt8) (cs : List Cs) : itemB ⟨(kn : Int), nm, ty, cs⟩ = itBy kn nm ty cs := by
  unfold itemB itBy lsB
  rw [casesB_flat]
  rfl
theorem oitem (D F : Nat → Prop) (kn : Nat) (nm ty : List UInt8) (cs : List Cs) (ca : Option Addr) (cc : Nat) (b : Nat) (l : List Nat) (w : World) (hD : ∀ k, D k → k < w.heap.size) (hF : ∀ g, F g → D g) (pr : CsR F w (.slice ca cs.length cc) cs) (hkn : kn ≤ 65535) (hn : cs.length ≤ 65535) (hok : ∀ c ∈ cs, CsS c) (hl : l.length + (itBy kn nm ty cs).length + 30 ≤ 140737488355328) (hw : WB D w b l) :
    Calls Tryz.prog 94 #[wrv b, .agg #[.int .i64 (kn : Int), .string (str nm), .string (str ty), .slice ca cs.length cc]] w (WP D w b (l ++ itBy kn nm ty cs)) := by
  unfold itBy at *
  by_cases hk : kn = 1
  · have hk' : (kn : Int) = 1 := by omega
    rw [if_pos hk'] at hl ⊢
    exact oitemK D F kn nm ty cs ca cc b l w hD hF pr (by rw [hk]; rfl) hkn hn hok hl hw
  · have hk' : ¬ (kn : Int) = 1 := by omega
    rw [if_neg hk'] at hl ⊢
    exact oitemV D F kn nm ty cs ca cc b l w hD hF pr (by rw [beq_eq_false_iff_ne]; exact hk') hkn hl hw
end Go.Proofs.YtfjppbpicmniaaaGreatDoor
