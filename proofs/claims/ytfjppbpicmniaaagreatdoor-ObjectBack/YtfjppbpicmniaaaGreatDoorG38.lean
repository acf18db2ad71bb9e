/-
  What Encode and Right answer of an object that has a name alone; the law's known.
-/
import Derived.Test.YtfjppbpicmniaaaGreatDoorG27
import Derived.Test.YtfjppbpicmniaaaGreatDoorG19
import Derived.Test.YtfjppbpicmniaaaGreatDoorG22
import Derived.Test.YtfjppbpicmniaaaGreatDoorG16
namespace Go.Proofs.YtfjppbpicmniaaaGreatDoor
open Go.RowKit

def wrv (b : Nat) : Value := .agg #[.pointer (some ⟨b, 0, none⟩)]
theorem box1 {w : World} {d : Nat} {x0 : Value} {T : Nat} (h : w.heap[d]? = some (.cells #[x0] T (0, 0))) : w.cell? ⟨d, 0, none⟩ = some x0 := by rw [cell_of_row w d 0 _ _ _ h]; rfl
set_option maxHeartbeats 1000000 in
set_option maxRecDepth 1000000 in
theorem onum (D : Nat → Prop) (n : Nat) (b : Nat) (l : List Nat) (w : World) (hD : ∀ k, D k → k < w.heap.size) (hn : n < 9223372036854775808) (hl : l.length + 10 ≤ 140737488355328) (hw : WB D w b l) :
    Calls Tryz.prog 145 #[wrv b, .int .i64 (n : Int)] w (WP D w b (l ++ Wire.enc n)) := by
  unfold wrv
  have hwA := hw.new (.cells #[.pointer (some ⟨b, 0, none⟩)] 97)
  have hDA := Dx.lt hD (.cells #[.pointer (some ⟨b, 0, none⟩)] 97)
  have hn1 := wNum7 (Dx D w.heap.size) n b l _ hDA (by omega) hl hwA
  have HK : Hid (∀ w', WB (Dx D w.heap.size) w' b (l ++ Wire.enc n) → Kept (fun k => ¬ Dx D w.heap.size k) (w.alloc (.cells #[.pointer (some ⟨b, 0, none⟩)] 97)) w' → WP D w b (l ++ Wire.enc n) (.returned (.tuple #[])) w') := by
    rw [hid_iff]
    rintro w' h1 h2
    exact ⟨rfl, h1.less (fun k hk => .inl hk), Dx.kept h2 hD⟩
  have hku : IntKind.u64.wrap (n : Int) = (n : Int) := u64_small n (by omega)
  clear hwA hDA hw
  go_enter Tryz.func145, Tryz.ntmps145
  go_wp2_with fail
  refine hn1.mono ?_
  rintro e w1 ⟨rfl, h1, k1⟩
  have hQ := HK.out _ h1 k1
  clear hn1 h1 k1 HK
  go_wp2
  go_end0
  exact hQ
set_option maxHeartbeats 1000000 in
set_option maxRecDepth 1000000 in
theorem olistI (D : Nat → Prop) (fv : Value) (b : Nat) (l : List Nat) (w : World) (hD : ∀ k, D k → k < w.heap.size) (hl : l.length + 10 ≤ 140737488355328) (hw : WB D w b l) :
    Calls Tryz.prog 93 #[wrv b, .slice none 0 0, fv] w (WP D w b (l ++ Wire.enc 0)) := by
  have hwA := hw.new (.cells #[.pointer (some ⟨b, 0, none⟩)] 97)
  have hDA := Dx.lt hD (.cells #[.pointer (some ⟨b, 0, none⟩)] 97)
  have hn1 := onum (Dx D w.heap.size) 0 b l _ hDA (by omega) hl hwA
  unfold wrv at *
  have HK : Hid (∀ w', WB (Dx D w.heap.size) w' b (l ++ Wire.enc 0) → Kept (fun k => ¬ Dx D w.heap.size k) (w.alloc (.cells #[.pointer (some ⟨b, 0, none⟩)] 97)) w' → WP D w b (l ++ Wire.enc 0) (.returned (.tuple #[])) w') := by
    rw [hid_iff]
    rintro w' h1 h2
    exact ⟨rfl, h1.less (fun k hk => .inl hk), Dx.kept h2 hD⟩
  clear hwA hDA hw
  go_enter Tryz.func93, Tryz.ntmps93
  go_wp2_with fail
  refine hn1.mono ?_
  rintro e w1 ⟨rfl, h1, k1⟩
  have hQ := HK.out _ h1 k1
  clear hn1 h1 k1 HK
  go_wp2
  go_loopg [14] 0 (fun g i wr => g = 0 ∧ i = .int .i64 0 ∧ wr = w1)
  case atStart => exact ⟨rfl, rfl, rfl⟩
  case round =>
    obtain ⟨rfl, rfl, rfl⟩ := hrel
    go_wp2
    go_end0
    exact hQ
set_option maxHeartbeats 1000000 in
set_option maxRecDepth 1000000 in
theorem olistT (D : Nat → Prop) (fv : Value) (b : Nat) (l : List Nat) (w : World) (hD : ∀ k, D k → k < w.heap.size) (hl : l.length + 10 ≤ 140737488355328) (hw : WB D w b l) :
    Calls Tryz.prog 95 #[wrv b, .slice none 0 0, fv] w (WP D w b (l ++ Wire.enc 0)) := by
  have hwA := hw.new (.cells #[.pointer (some ⟨b, 0, none⟩)] 97)
  have hDA := Dx.lt hD (.cells #[.pointer (some ⟨b, 0, none⟩)] 97)
  have hn1 := onum (Dx D w.heap.size) 0 b l _ hDA (by omega) hl hwA
  unfold wrv at *
  have HK : Hid (∀ w', WB (Dx D w.heap.size) w' b (l ++ Wire.enc 0) → Kept (fun k => ¬ Dx D w.heap.size k) (w.alloc (.cells #[.pointer (some ⟨b, 0, none⟩)] 97)) w' → WP D w b (l ++ Wire.enc 0) (.returned (.tuple #[])) w') := by
    rw [hid_iff]
    rintro w' h1 h2
    exact ⟨rfl, h1.less (fun k hk => .inl hk), Dx.kept h2 hD⟩
  clear hwA hDA hw
  go_enter Tryz.func95, Tryz.ntmps95
  go_wp2_with fail
  refine hn1.mono ?_
  rintro e w1 ⟨rfl, h1, k1⟩
  have hQ := HK.out _ h1 k1
  clear hn1 h1 k1 HK
  go_wp2
  go_loopg [14] 0 (fun g i wr => g = 0 ∧ i = .int .i64 0 ∧ wr = w1)
  case atStart => exact ⟨rfl, rfl, rfl⟩
  case round =>
    obtain ⟨rfl, rfl, rfl⟩ := hrel
    go_wp2
    go_end0
    exact hQ
set_option maxHeartbeats 1000000 in
set_option maxRecDepth 1000000 in
theorem olistG (D : Nat → Prop) (fv : Value) (b : Nat) (l : List Nat) (w : World) (hD : ∀ k, D k → k < w.heap.size) (hl : l.length + 10 ≤ 140737488355328) (hw : WB D w b l) :
    Calls Tryz.prog 96 #[wrv b, .slice none 0 0, fv] w (WP D w b (l ++ Wire.enc 0)) := by
  have hwA := hw.new (.cells #[.pointer (some ⟨b, 0, none⟩)] 97)
  have hDA := Dx.lt hD (.cells #[.pointer (some ⟨b, 0, none⟩)] 97)
  have hn1 := onum (Dx D w.heap.size) 0 b l _ hDA (by omega) hl hwA
  unfold wrv at *
  have HK : Hid (∀ w', WB (Dx D w.heap.size) w' b (l ++ Wire.enc 0) → Kept (fun k => ¬ Dx D w.heap.size k) (w.alloc (.cells #[.pointer (some ⟨b, 0, none⟩)] 97)) w' → WP D w b (l ++ Wire.enc 0) (.returned (.tuple #[])) w') := by
    rw [hid_iff]
    rintro w' h1 h2
    exact ⟨rfl, h1.less (fun k hk => .inl hk), Dx.kept h2 hD⟩
  clear hwA hDA hw
  go_enter Tryz.func96, Tryz.ntmps96
  go_wp2_with fail
  refine hn1.mono ?_
  rintro e w1 ⟨rfl, h1, k1⟩
  have hQ := HK.out _ h1 k1
  clear hn1 h1 k1 HK
  go_wp2
  go_loopg [14] 0 (fun g i wr => g = 0 ∧ i = .int .i64 0 ∧ wr = w1)
  case atStart => exact ⟨rfl, rfl, rfl⟩
  case round =>
    obtain ⟨rfl, rfl, rfl⟩ := hrel
    go_wp2
    go_end0
    exact hQ
set_option maxHeartbeats 1000000 in
set_option maxRecDepth 1000000 in
theorem olistF (D : Nat → Prop) (fv : Value) (b : Nat) (l : List Nat) (w : World) (hD : ∀ k, D k → k < w.heap.size) (hl : l.length + 10 ≤ 140737488355328) (hw : WB D w b l) :
    Calls Tryz.prog 98 #[wrv b, .slice none 0 0, fv] w (WP D w b (l ++ Wire.enc 0)) := by
  have hwA := hw.new (.cells #[.pointer (some ⟨b, 0, none⟩)] 97)
  have hDA := Dx.lt hD (.cells #[.pointer (some ⟨b, 0, none⟩)] 97)
  have hn1 := onum (Dx D w.heap.size) 0 b l _ hDA (by omega) hl hwA
  unfold wrv at *
  have HK : Hid (∀ w', WB (Dx D w.heap.size) w' b (l ++ Wire.enc 0) → Kept (fun k => ¬ Dx D w.heap.size k) (w.alloc (.cells #[.pointer (some ⟨b, 0, none⟩)] 97)) w' → WP D w b (l ++ Wire.enc 0) (.returned (.tuple #[])) w') := by
    rw [hid_iff]
    rintro w' h1 h2
    exact ⟨rfl, h1.less (fun k hk => .inl hk), Dx.kept h2 hD⟩
  clear hwA hDA hw
  go_enter Tryz.func98, Tryz.ntmps98
  go_wp2_with fail
  refine hn1.mono ?_
  rintro e w1 ⟨rfl, h1, k1⟩
  have hQ := HK.out _ h1 k1
  clear hn1 h1 k1 HK
  go_wp2
  go_loopg [14] 0 (fun g i wr => g = 0 ∧ i = .int .i64 0 ∧ wr = w1)
  case atStart => exact ⟨rfl, rfl, rfl⟩
  case round =>
    obtain ⟨rfl, rfl, rfl⟩ := hrel
    go_wp2
    go_end0
    exact hQ
set_option maxHeartbeats 1000000 in
set_option maxRecDepth 1000000 in
theorem olistS (D : Nat → Prop) (fv : Value) (b : Nat) (l : List Nat) (w : World) (hD : ∀ k, D k → k < w.heap.size) (hl : l.length + 10 ≤ 140737488355328) (hw : WB D w b l) :
    Calls Tryz.prog 100 #[wrv b, .slice none 0 0, fv] w (WP D w b (l ++ Wire.enc 0)) := by
  have hwA := hw.new (.cells #[.pointer (some ⟨b, 0, none⟩)] 97)
  have hDA := Dx.lt hD (.cells #[.pointer (some ⟨b, 0, none⟩)] 97)
  have hn1 := onum (Dx D w.heap.size) 0 b l _ hDA (by omega) hl hwA
  unfold wrv at *
  have HK : Hid (∀ w', WB (Dx D w.heap.size) w' b (l ++ Wire.enc 0) → Kept (fun k => ¬ Dx D w.heap.size k) (w.alloc (.cells #[.pointer (some ⟨b, 0, none⟩)] 97)) w' → WP D w b (l ++ Wire.enc 0) (.returned (.tuple #[])) w') := by
    rw [hid_iff]
    rintro w' h1 h2
    exact ⟨rfl, h1.less (fun k hk => .inl hk), Dx.kept h2 hD⟩
  clear hwA hDA hw
  go_enter Tryz.func100, Tryz.ntmps100
  go_wp2_with fail
  refine hn1.mono ?_
  rintro e w1 ⟨rfl, h1, k1⟩
  have hQ := HK.out _ h1 k1
  clear hn1 h1 k1 HK
  go_wp2
  go_loopg [14] 0 (fun g i wr => g = 0 ∧ i = .int .i64 0 ∧ wr = w1)
  case atStart => exact ⟨rfl, rfl, rfl⟩
  case round =>
    obtain ⟨rfl, rfl, rfl⟩ := hrel
    go_wp2
    go_end0
    exact hQ
set_option maxHeartbeats 1000000 in
set_option maxRecDepth 1000000 in
theorem olistR (D : Nat → Prop) (fv : Value) (b : Nat) (l : List Nat) (w : World) (hD : ∀ k, D k → k < w.heap.size) (hl : l.length + 10 ≤ 140737488355328) (hw : WB D w b l) :
    Calls Tryz.prog 102 #[wrv b, .slice none 0 0, fv] w (WP D w b (l ++ Wire.enc 0)) := by
  have hwA := hw.new (.cells #[.pointer (some ⟨b, 0, none⟩)] 97)
  have hDA := Dx.lt hD (.cells #[.pointer (some ⟨b, 0, none⟩)] 97)
  have hn1 := onum (Dx D w.heap.size) 0 b l _ hDA (by omega) hl hwA
  unfold wrv at *
  have HK : Hid (∀ w', WB (Dx D w.heap.size) w' b (l ++ Wire.enc 0) → Kept (fun k => ¬ Dx D w.heap.size k) (w.alloc (.cells #[.pointer (some ⟨b, 0, none⟩)] 97)) w' → WP D w b (l ++ Wire.enc 0) (.returned (.tuple #[])) w') := by
    rw [hid_iff]
    rintro w' h1 h2
    exact ⟨rfl, h1.less (fun k hk => .inl hk), Dx.kept h2 hD⟩
  clear hwA hDA hw
  go_enter Tryz.func102, Tryz.ntmps102
  go_wp2_with fail
  refine hn1.mono ?_
  rintro e w1 ⟨rfl, h1, k1⟩
  have hQ := HK.out _ h1 k1
  clear hn1 h1 k1 HK
  go_wp2
  go_loopg [14] 0 (fun g i wr => g = 0 ∧ i = .int .i64 0 ∧ wr = w1)
  case atStart => exact ⟨rfl, rfl, rfl⟩
  case round =>
    obtain ⟨rfl, rfl, rfl⟩ := hrel
    go_wp2
    go_end0
    exact hQ
set_option maxHeartbeats 4000000 in
set_option maxRecDepth 1000000 in
theorem oobj0 (D : Nat → Prop) (m : List UInt8) (b : Nat) (w : World) (hD : ∀ k, D k → k < w.heap.size) (hm : m.length ≤ 1000) (hw : WB D w b []) :
    Calls Tryz.prog 41 #[wrv b, .agg #[.string (str m), .slice none 0 0, .slice none 0 0, .slice none 0 0, .slice none 0 0, .slice none 0 0, .slice none 0 0, .slice none 0 0]] w (WP D w b (txtB m ++ [0, 0, 0, 0, 0, 0, 0])) := by
  have hwA := hw.new (.cells #[.pointer (some ⟨b, 0, none⟩)] 97)
  have hDA := Dx.lt hD (.cells #[.pointer (some ⟨b, 0, none⟩)] 97)
  have hNA := heap_alloc_new w (.cells #[.pointer (some ⟨b, 0, none⟩)] 97)
  have hKA : ∀ w', Kept (fun k => ¬ Dx D w.heap.size k) (w.alloc (.cells #[.pointer (some ⟨b, 0, none⟩)] 97)) w' → Kept (fun k => ¬ D k) w w' := fun w' h => Dx.kept h hD
  generalize hWA : w.alloc (.cells #[.pointer (some ⟨b, 0, none⟩)] 97) = wA at *
  have hsA : wA.heap.size = w.heap.size + 1 := by rw [← hWA]; simp
  have hwB := hwA.new (.cells #[.string (str m), .slice none 0 0, .slice none 0 0, .slice none 0 0, .slice none 0 0, .slice none 0 0, .slice none 0 0, .slice none 0 0] 29)
  have hDB := Dx.lt hDA (.cells #[.string (str m), .slice none 0 0, .slice none 0 0, .slice none 0 0, .slice none 0 0, .slice none 0 0, .slice none 0 0, .slice none 0 0] 29)
  have hNB := heap_alloc_new wA (.cells #[.string (str m), .slice none 0 0, .slice none 0 0, .slice none 0 0, .slice none 0 0, .slice none 0 0, .slice none 0 0, .slice none 0 0] 29)
  have hKB : ∀ w', Kept (fun k => ¬ Dx (Dx D w.heap.size) wA.heap.size k) (wA.alloc (.cells #[.string (str m), .slice none 0 0, .slice none 0 0, .slice none 0 0, .slice none 0 0, .slice none 0 0, .slice none 0 0, .slice none 0 0] 29)) w' → Kept (fun k => ¬ D k) w w' := fun w' h => hKA w' (Dx.kept h hDA)
  have hNA' : (wA.alloc (.cells #[.string (str m), .slice none 0 0, .slice none 0 0, .slice none 0 0, .slice none 0 0, .slice none 0 0, .slice none 0 0, .slice none 0 0] 29)).heap[w.heap.size]? = some (.cells #[.pointer (some ⟨b, 0, none⟩)] 97 (0, 0)) := (Below.heap_alloc _ _ _ (by omega)).trans hNA
  have hle : ∀ k, Dx (Dx D w.heap.size) wA.heap.size k → Dx (Dx D w.heap.size) wA.heap.size k := fun _ h => h
  generalize hWB : wA.alloc (.cells #[.string (str m), .slice none 0 0, .slice none 0 0, .slice none 0 0, .slice none 0 0, .slice none 0 0, .slice none 0 0, .slice none 0 0] 29) = wB at *
  have hsB : wB.heap.size = w.heap.size + 2 := by rw [← hWB]; simp; omega
  rw [hsA] at hNB
  have e1 : Dx (Dx D w.heap.size) wA.heap.size w.heap.size := .inl (.inr rfl)
  have e2 : Dx (Dx D w.heap.size) wA.heap.size (w.heap.size + 1) := .inr hsA.symm
  have hless : ∀ w' l, WB (Dx (Dx D w.heap.size) wA.heap.size) w' b l → WB D w' b l := fun w' l h => h.less (fun k hk => .inl (.inl hk))
  generalize Dx (Dx D w.heap.size) wA.heap.size = E at *
  have HB : Hid (∀ u, Kept (fun k => ¬ E k) wB u → (∀ k, E k → k < u.heap.size) ∧ u.cell? ⟨w.heap.size, 0, none⟩ = some (.pointer (some ⟨b, 0, none⟩)) ∧ u.cell? ⟨w.heap.size + 1, 0, none⟩ = some (.string (str m)) ∧ u.cell? ⟨w.heap.size + 1, 1, none⟩ = some (.slice none 0 0) ∧ u.cell? ⟨w.heap.size + 1, 2, none⟩ = some (.slice none 0 0) ∧ u.cell? ⟨w.heap.size + 1, 3, none⟩ = some (.slice none 0 0) ∧ u.cell? ⟨w.heap.size + 1, 4, none⟩ = some (.slice none 0 0) ∧ u.cell? ⟨w.heap.size + 1, 5, none⟩ = some (.slice none 0 0) ∧ u.cell? ⟨w.heap.size + 1, 6, none⟩ = some (.slice none 0 0) ∧ u.cell? ⟨w.heap.size + 1, 7, none⟩ = some (.slice none 0 0)) := by
    rw [hid_iff]
    intro u hu
    have n0 := (keep_blk hu e1 (by omega)).trans hNA'
    have n1 := (keep_blk hu e2 (by omega)).trans hNB
    exact ⟨keep_lt hu hDB, by rw [cell_of_row u _ 0 _ _ _ n0]; rfl, by rw [cell_of_row u _ 0 _ _ _ n1]; rfl, by rw [cell_of_row u _ 1 _ _ _ n1]; rfl, by rw [cell_of_row u _ 2 _ _ _ n1]; rfl, by rw [cell_of_row u _ 3 _ _ _ n1]; rfl, by rw [cell_of_row u _ 4 _ _ _ n1]; rfl, by rw [cell_of_row u _ 5 _ _ _ n1]; rfl, by rw [cell_of_row u _ 6 _ _ _ n1]; rfl, by rw [cell_of_row u _ 7 _ _ _ n1]; rfl⟩
  have hz : Wire.enc 0 = [0] := rfl
  have tl : (txtB m).length ≤ 1010 := Nat.le_trans (txtB_len m (by omega)) (by omega)
  have k0 : Kept (fun k => ¬ E k) wB wB := Kept.refl _ _
  obtain ⟨hD0, p0, q0, -, -, -, -, -, -, -⟩ := HB.out _ k0
  have h1 := wText7 E m b [] wB hD0 (by simp; omega) hwB
  have HKB := hidden hKB
  have HLS := hidden hless
  clear hKA hKB hless hle hNA hNA' hNB hwA hwB hDA hDB hw
  unfold wrv at *
  go_enter Tryz.func41, Tryz.ntmps41
  go_wp2_with fail
  refine h1.mono ?_
  rintro e v1 ⟨rfl, w1, k1⟩
  rw [List.nil_append] at w1
  clear h1 p0 q0
  obtain ⟨hD1, p1, -, q1, -, -, -, -, -, -⟩ := HB.out _ k1
  have g1 := fun fv => olistI E fv b (txtB m) v1 hD1 (by (try simp only [List.length_append, List.length_cons, List.length_nil]); omega) w1
  unfold wrv at g1
  go_wp2_with fail
  refine (g1 _).mono ?_
  rintro e u1 ⟨rfl, x1, y1'⟩
  have y1 := keep_trans k1 y1'
  rw [hz] at x1
  clear g1 p1 q1 w1 k1 y1'
  obtain ⟨hD2, p2, -, -, q2, -, -, -, -, -⟩ := HB.out _ y1
  have g2 := fun fv => olistT E fv b ((txtB m) ++ [0]) u1 hD2 (by (try simp only [List.length_append, List.length_cons, List.length_nil]); omega) x1
  unfold wrv at g2
  go_wp2_with fail
  refine (g2 _).mono ?_
  rintro e u2 ⟨rfl, x2, y2'⟩
  have y2 := keep_trans y1 y2'
  rw [hz] at x2
  clear g2 p2 q2 x1 y1 y2'
  obtain ⟨hD3, p3, -, -, -, q3, -, -, -, -⟩ := HB.out _ y2
  have g3 := fun fv => olistG E fv b ((txtB m) ++ [0] ++ [0]) u2 hD3 (by (try simp only [List.length_append, List.length_cons, List.length_nil]); omega) x2
  unfold wrv at g3
  go_wp2_with fail
  refine (g3 _).mono ?_
  rintro e u3 ⟨rfl, x3, y3'⟩
  have y3 := keep_trans y2 y3'
  rw [hz] at x3
  clear g3 p3 q3 x2 y2 y3'
  obtain ⟨hD4, p4, -, -, -, -, q4, -, -, -⟩ := HB.out _ y3
  have g4 := fun fv => olistF E fv b ((txtB m) ++ [0] ++ [0] ++ [0]) u3 hD4 (by (try simp only [List.length_append, List.length_cons, List.length_nil]); omega) x3
  unfold wrv at g4
  go_wp2_with fail
  refine (g4 _).mono ?_
  rintro e u4 ⟨rfl, x4, y4'⟩
  have y4 := keep_trans y3 y4'
  rw [hz] at x4
  clear g4 p4 q4 x3 y3 y4'
  obtain ⟨hD5, p5, -, -, -, -, -, q5, -, -⟩ := HB.out _ y4
  have g5 := fun fv => olistT E fv b ((txtB m) ++ [0] ++ [0] ++ [0] ++ [0]) u4 hD5 (by (try simp only [List.length_append, List.length_cons, List.length_nil]); omega) x4
  unfold wrv at g5
  go_wp2_with fail
  refine (g5 _).mono ?_
  rintro e u5 ⟨rfl, x5, y5'⟩
  have y5 := keep_trans y4 y5'
  rw [hz] at x5
  clear g5 p5 q5 x4 y4 y5'
  obtain ⟨hD6, p6, -, -, -, -, -, -, q6, -⟩ := HB.out _ y5
  have g6 := fun fv => olistS E fv b ((txtB m) ++ [0] ++ [0] ++ [0] ++ [0] ++ [0]) u5 hD6 (by (try simp only [List.length_append, List.length_cons, List.length_nil]); omega) x5
  unfold wrv at g6
  go_wp2_with fail
  refine (g6 _).mono ?_
  rintro e u6 ⟨rfl, x6, y6'⟩
  have y6 := keep_trans y5 y6'
  rw [hz] at x6
  clear g6 p6 q6 x5 y5 y6'
  obtain ⟨hD7, p7, -, -, -, -, -, -, -, q7⟩ := HB.out _ y6
  have g7 := fun fv => olistR E fv b ((txtB m) ++ [0] ++ [0] ++ [0] ++ [0] ++ [0] ++ [0]) u6 hD7 (by (try simp only [List.length_append, List.length_cons, List.length_nil]); omega) x6
  unfold wrv at g7
  go_wp2_with fail
  refine (g7 _).mono ?_
  rintro e u7 ⟨rfl, x7, y7'⟩
  have y7 := keep_trans y6 y7'
  rw [hz] at x7
  clear g7 p7 q7 x6 y6 y7'
  have hK := HKB.out _ y7
  have hW := HLS.out _ _ x7
  simp only [List.append_assoc, List.cons_append, List.nil_append] at hW
  clear x7 y7 HKB HLS HB
  go_wp2
  go_end0
  exact ⟨rfl, hW, hK⟩
def ob0 (m : List UInt8) : Ob := ⟨m, [], [], [], [], [], [], []⟩
def obV0 : ObV := ⟨.slice none 0 0, .slice none 0 0, .slice none 0 0, .slice none 0 0, .slice none 0 0, .slice none 0 0, .slice none 0 0⟩
theorem obR0 (F : Nat → Prop) (m : List UInt8) (w : World) : ObR F w obV0 (ob0 m) :=
  ⟨ItR.nil _ _, ⟨TxR.nil _ _, by rintro a n c h; simp only [obV0, Value.slice.injEq] at h; omega⟩, RwR.nil _ _ _ _, RwR.nil _ _ _ _, ⟨TxR.nil _ _, by rintro a n c h; simp only [obV0, Value.slice.injEq] at h; omega⟩, RwR.nil _ _ _ _, RwR.nil _ _ _ _⟩
theorem elO0 (m : List UInt8) (w : World) : ElO obV0 (ob0 m) w := by
  intro j k hj hk
  rcases j with _ | _ | _ | _ | _ | _ | _ | j <;> simp [lenO, ob0] at hk
theorem right0 (m : List UInt8) (w : World) (hm : Tk m) : Calls Tryz.prog 7 #[obv obV0 m] w (TwoB (rightO (ob0 m)) w) := rightOb (fun _ => False) obV0 (ob0 m) w (obR0 _ _ _) (fun _ h => h.elim) hm (fun _ _ => elO0 m w)
theorem rightO_m : rightO (ob0 [109]) = (0, 0) := by decide
theorem rightO_M : rightO (ob0 [77]) = (13, 0) := by decide
set_option maxHeartbeats 2000000 in
set_option maxRecDepth 1000000 in
theorem oenc0 (m : List UInt8) (w : World) (hm : m.length ≤ 1000) (hr : rightO (ob0 m) = (0, 0)) : Calls Tryz.prog 9 #[obv obV0 m] w fun e w' => ∃ v g, e = .returned (.tuple #[v, .int .i64 0]) ∧ Wire.Row w' g v (txtB m ++ [0, 0, 0, 0, 0, 0, 0]) ∧ w.heap.size ≤ g ∧ Below w.heap.size w w' := by
  have hR := fun u => right0 m u (by unfold Tk; omega)
  rw [hr] at hR
  unfold TwoB at hR
  unfold obv obV0 at *
  simp only at hR ⊢
  generalize hW : w.alloc (.cells #[.string (str m), .slice none 0 0, .slice none 0 0, .slice none 0 0, .slice none 0 0, .slice none 0 0, .slice none 0 0, .slice none 0 0] 29) = w0 at *
  have hb0 : Below w.heap.size w w0 := by rw [← hW]; exact (Below.refl _ _).alloc (Nat.le_refl _) _
  have hs0 : w0.heap.size = w.heap.size + 1 := by rw [← hW]; simp
  have hN := heap_alloc_new w (.cells #[.string (str m), .slice none 0 0, .slice none 0 0, .slice none 0 0, .slice none 0 0, .slice none 0 0, .slice none 0 0, .slice none 0 0] 29)
  rw [hW] at hN
  have HC : ∀ u : World, u.heap[w.heap.size]? = w0.heap[w.heap.size]? → u.cell? ⟨w.heap.size, 0, none⟩ = some (.string (str m)) ∧ u.cell? ⟨w.heap.size, 1, none⟩ = some (.slice none 0 0) ∧ u.cell? ⟨w.heap.size, 2, none⟩ = some (.slice none 0 0) ∧ u.cell? ⟨w.heap.size, 3, none⟩ = some (.slice none 0 0) ∧ u.cell? ⟨w.heap.size, 4, none⟩ = some (.slice none 0 0) ∧ u.cell? ⟨w.heap.size, 5, none⟩ = some (.slice none 0 0) ∧ u.cell? ⟨w.heap.size, 6, none⟩ = some (.slice none 0 0) ∧ u.cell? ⟨w.heap.size, 7, none⟩ = some (.slice none 0 0) := by
    intro u hu
    have n1 := hu.trans hN
    exact ⟨by rw [cell_of_row u _ 0 _ _ _ n1]; rfl, by rw [cell_of_row u _ 1 _ _ _ n1]; rfl, by rw [cell_of_row u _ 2 _ _ _ n1]; rfl, by rw [cell_of_row u _ 3 _ _ _ n1]; rfl, by rw [cell_of_row u _ 4 _ _ _ n1]; rfl, by rw [cell_of_row u _ 5 _ _ _ n1]; rfl, by rw [cell_of_row u _ 6 _ _ _ n1]; rfl, by rw [cell_of_row u _ 7 _ _ _ n1]; rfl⟩
  have HCh := hidden HC
  obtain ⟨z0, z1, z2, z3, z4, z5, z6, z7⟩ := HC w0 rfl
  clear HC
  go_enter Tryz.func9, Tryz.ntmps9
  go_wp2_with fail
  refine (hR _).mono ?_
  rintro e w1 ⟨rfl, hb1⟩
  have hs1 := hb1.size
  clear z0 z1 z2 z3 z4 z5 z6 z7
  go_wp2_with fail
  refine (Wire.newwriter w1).mono ?_
  rintro e w2 ⟨b, rfl, hW2, hbb, hk2⟩
  have hk2' := keep_of hk2
  have hw2 : WB (fun k => k < w1.heap.size) w2 b [] := ⟨b, hW2, by omega, by omega⟩
  have hD2 : ∀ k, k < w1.heap.size → k < w2.heap.size := fun k hk => Nat.lt_of_lt_of_le hk hk2'.size
  have hB2 : Kept (fun k => ¬ k < w1.heap.size) w1 w2 := hk2'.mono (fun _ _ h => h.elim)
  have hw3 := hw2.new (.cells #[.pointer (some ⟨b, 0, none⟩)] 97)
  have hD3 := Dx.lt hD2 (.cells #[.pointer (some ⟨b, 0, none⟩)] 97)
  have hN3 := heap_alloc_new w2 (.cells #[.pointer (some ⟨b, 0, none⟩)] 97)
  have hK3 : ∀ w', Kept (fun k => ¬ Dx (fun k => k < w1.heap.size) w2.heap.size k) (w2.alloc (.cells #[.pointer (some ⟨b, 0, none⟩)] 97)) w' → Kept (fun k => ¬ k < w1.heap.size) w2 w' := fun w' h => Dx.kept h hD2
  have hO3 := oobj0 (Dx (fun k => k < w1.heap.size) w2.heap.size) m b _ hD3 hm hw3
  unfold wrv at hO3
  have hob3 : (w2.alloc (.cells #[.pointer (some ⟨b, 0, none⟩)] 97)).heap[w.heap.size]? = w0.heap[w.heap.size]? := (Below.heap_alloc _ _ _ (by have := hD2 w.heap.size (by omega); omega)).trans ((hB2.block _ (by omega) (fun h => h (by omega))).trans (hb1.block _ (by omega)))
  obtain ⟨z0, z1, z2, z3, z4, z5, z6, z7⟩ := HCh.out _ hob3
  have p3 := box1 hN3
  generalize hW3 : w2.alloc (.cells #[.pointer (some ⟨b, 0, none⟩)] 97) = w3 at *
  have hs3 : w3.heap.size = w2.heap.size + 1 := by rw [← hW3]; simp
  clear hw2 hw3 hD3 hW2 hk2 hk2' hob3
  go_wp2_with fail
  refine hO3.mono ?_
  rintro e w4 ⟨rfl, hw4, k4⟩
  have hN4 := (keep_blk k4 (show Dx (fun k => k < w1.heap.size) w2.heap.size w2.heap.size from .inr rfl) (by omega)).trans hN3
  have p4 := box1 hN4
  have k5 := hK3 _ k4
  have hbo : Below w.heap.size w w4 := by
    have k : Kept (fun k => ¬ k < w1.heap.size) w1 w4 := keep_trans hB2 k5
    exact (below_trans hb0 hb1).trans (k.below (by omega) (fun x hx h => h (by omega)))
  obtain ⟨g, hWj, hbj, hgj⟩ := hw4
  have tl : (txtB m).length ≤ 1010 := Nat.le_trans (txtB_len m (by omega)) (by omega)
  have hd := Wire.wdone b g _ w4 (by simp only [List.length_append, List.length_cons, List.length_nil]; omega) hWj
  clear z0 z1 z2 z3 z4 z5 z6 z7 p3 hO3 hWj k4 k5 hK3
  go_wp2_with fail
  refine hd.mono ?_
  rintro e w5 ⟨v', g', rfl, hr5, hg5, hk5⟩
  have hb6 : Below w.heap.size w w5 := hbo.trans ((keep_of hk5).below (by have := hbo.size; omega) (fun _ _ h => h))
  have hsz5 := hbo.size
  have hlen : (txtB m ++ [0, 0, 0, 0, 0, 0, 0]).length ≤ 1017 := by simp only [List.length_append, List.length_cons, List.length_nil]; omega
  have HQ : Hid (∃ v g, Ending.returned (.tuple #[v', .int .i64 0]) = .returned (.tuple #[v, .int .i64 0]) ∧ Wire.Row w5 g v (txtB m ++ [0, 0, 0, 0, 0, 0, 0]) ∧ w.heap.size ≤ g ∧ Below w.heap.size w w5) := ⟨v', g', rfl, hr5, by omega, hb6⟩
  obtain ⟨va', vc', hv'⟩ : ∃ a c, v' = .slice a (txtB m ++ [0, 0, 0, 0, 0, 0, 0]).length c := by
    rcases hr5.shape with ⟨rfl, h⟩ | ⟨cap, rfl, _⟩
    · exact ⟨none, 0, by rw [h]; rfl⟩
    · exact ⟨_, _, rfl⟩
  subst hv'
  generalize (txtB m ++ [0, 0, 0, 0, 0, 0, 0]).length = nb at *
  have hni : ¬ (8192 : Int) < (nb : Int) := by omega
  clear hd hr5 hk5 hb6 p4
  go_wp2
  go_ret2
  exact HQ.out
theorem k14_bytes : txtB [109] ++ [0, 0, 0, 0, 0, 0, 0] = [1, 109, 0, 0, 0, 0, 0, 0, 0] := rfl
theorem k14_str : Wire.toStr [1, 109, 0, 0, 0, 0, 0, 0, 0] = ⟨#[1, 109, 0, 0, 0, 0, 0, 0, 0]⟩ := by rw [Wire.toStr_eq]; rfl
set_option maxHeartbeats 2000000 in
set_option maxRecDepth 1000000 in
theorem known14 (w : World) : Calls Tryz.prog 17 #[] w (BoolB true w) := by
  have he := oenc0 [109] w (by simp) rightO_m
  rw [k14_bytes] at he
  have hM := fun u => right0 [77] u (by unfold Tk; simp)
  rw [rightO_M] at hM
  unfold TwoB at hM
  unfold obv obV0 at *
  simp only at he hM
  go_enter Tryz.func17, Tryz.ntmps17
  go_wp2_with fail
  refine he.mono ?_
  rintro e w1 ⟨v, g, rfl, hr1, hg1, hb1⟩
  clear he
  obtain ⟨cap, rfl⟩ : ∃ cap, v = .slice (some ⟨g, 0, none⟩) 9 cap := by
    rcases hr1.shape with ⟨_, h⟩ | ⟨cap, h, _⟩
    · cases h
    · exact ⟨cap, h⟩
  have hgl : g < w1.heap.size := hr1.lt (k := g) rfl
  go_wp2_with fail
  refine (hM _).mono ?_
  rintro e w3 ⟨rfl, hb4⟩
  have hr3 : Wire.Row w3 g (.slice (some ⟨g, 0, none⟩) 9 cap) [1, 109, 0, 0, 0, 0, 0, 0, 0] := hr1.kept (S := fun k => w1.heap.size ≤ k) ⟨hb4.os, hb4.tape, hb4.output, hb4.size, fun k hk hn => hb4.block k hk⟩ (fun _ h => by omega)
  have hst := hr3.rd.string
  rw [k14_str] at hst
  have hb5 := below_trans hb1 hb4
  clear hr1 hr3 hb1 hb4 hgl hM
  go_wp2
  go_ret
  exact ⟨rfl, hb5⟩
end Go.Proofs.YtfjppbpicmniaaaGreatDoor
