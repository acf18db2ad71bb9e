/-
  The package's Encode.
-/
import Derived.Test.YtalbjbahgbkifaaGreatIfaceWrite
import Derived.Test.YtalbjbahgbkifaaGreatIfaceRight
namespace Go.Proofs.YtalbjbahgbkifaaGreat
open Go.RowKit

/-- What Encode answers. -/
def EncE (m : List UInt8) (l : List It) (w : World) (e : Ending) (w' : World) : Prop :=
  ((rightI m l = 0 ∧ ∃ v g, e = .returned (.tuple #[v, .int .i64 0]) ∧ Wire.Row w' g v (ifaceB m l) ∧ w.heap.size ≤ g) ∨ (rightI m l ≠ 0 ∧ e = .returned (.tuple #[.slice none 0 0, .int .i64 (rightI m l : Int)]))) ∧ Below w.heap.size w w'
set_option maxHeartbeats 8000000 in
set_option maxRecDepth 1000000 in
theorem encode7 (F : Nat → Prop) (m : List UInt8) (v : Value) (l : List It) (w : World) (h : ItR F w v l) (hF : ∀ g, F g → g < w.heap.size) (hm : Tk m) (hok : ∀ x ∈ l, ItOk x) : Calls Tryz.prog 5 #[.agg #[.string (str m), v]] w (EncE m l w) := by
  obtain ⟨va, vc, rfl⟩ := h.shape
  have hb0 : Below w.heap.size w (w.alloc (.cells #[.string (str m), .slice va l.length vc] 24)) := (Below.refl _ _).alloc (Nat.le_refl _) _
  have hN := heap_alloc_new w (.cells #[.string (str m), .slice va l.length vc] 24)
  have hI0 : ItR F (w.alloc (.cells #[.string (str m), .slice va l.length vc] 24)) (.slice va l.length vc) l := h.below hb0 hF
  have hF0 : ∀ g, F g → g < (w.alloc (.cells #[.string (str m), .slice va l.length vc] 24)).heap.size := fun g hg => by have := hF g hg; simp; omega
  have hs0 : w.heap.size < (w.alloc (.cells #[.string (str m), .slice va l.length vc] 24)).heap.size := by simp
  have hR := right7 F m (.slice va l.length vc) l _ hI0 hF0 hm hok
  by_cases hz : rightI m l = 0
  · rw [hz] at hR
    obtain ⟨hsh, hml, hll, hit⟩ := right_short hz
    have hlu : IntKind.u64.wrap (l.length : Int) = (l.length : Int) := u64_small _ (by omega)
    have HQ : Hid (∀ v g w', Wire.Row w' g v (ifaceB m l) → w.heap.size ≤ g → Below w.heap.size w w' → EncE m l w (.returned (.tuple #[v, .int .i64 0])) w') := by
      rw [hid_iff]
      intro v g w' h1 h2 h3
      exact ⟨.inl ⟨hz, v, g, rfl, h1, h2⟩, h3⟩
    have HIF : Hid (ifaceB m l = txtB m ++ (Wire.enc l.length ++ itemsB l)) := rfl
    rw [HIF.out] at hsh
    simp only [List.length_append] at hsh
    have HO : Hid (∀ x ∈ l, ItOk x) := hok
    have HT : Hid (∀ x ∈ l, ∃ q, itemE q x = 0) := hit
    have t1 := txtB_ge m
    clear h hz hok hit hm
    go_enter Tryz.func5, Tryz.ntmps5
    go_wp2_with fail
    generalize w.alloc (.cells #[.string (str m), .slice va l.length vc] 24) = w0 at *
    refine hR.mono ?_
    rintro e w1 ⟨rfl, hb1⟩
    have hN1 := (hb1.block _ hs0).trans hN
    obtain ⟨c0, c1⟩ := box2 hN1
    have hsz1 := hb1.size
    clear hR
    go_wp2_with fail
    refine (Wire.newwriter w1).mono ?_
    rintro e w2 ⟨b, rfl, hW2, hbb, hk2⟩
    have hk2' := keep_of hk2
    have hw2 : WB (fun k => k < w1.heap.size) w2 b [] := ⟨b, hW2, by omega, by omega⟩
    have hD2 : ∀ k, k < w1.heap.size → k < w2.heap.size := fun k hk => Nat.lt_of_lt_of_le hk hk2'.size
    have hB2 : Kept (fun k => ¬ k < w1.heap.size) w1 w2 := hk2'.mono (fun _ _ h => h.elim)
    have hN2 := (hB2.block _ (by omega) (by omega)).trans hN1
    obtain ⟨c0, c1⟩ := box2 hN2
    have hI2 : ItR F w2 (.slice va l.length vc) l := (hI0.below hb1 hF0).frame fun g hg => ⟨hg, hB2.block g (by have := hF0 g hg; omega) (by have := hF0 g hg; omega)⟩
    have hFD : ∀ g, F g → g < w1.heap.size := fun g hg => Nat.lt_of_lt_of_le (hF0 g hg) hsz1
    have HBW : Hid (∀ u, Kept (fun k => ¬ k < w1.heap.size) w2 u → Below w.heap.size w u) := by
      rw [hid_iff]
      intro u hu
      have k : Kept (fun k => ¬ k < w1.heap.size) w1 u := keep_trans hB2 hu
      exact (below_trans hb0 hb1).trans (k.below (by omega) (fun x hx h => h (by omega)))
    have ht := wText7 (fun k => k < w1.heap.size) m b [] w2 hD2 (by simp; omega) hw2
    clear hW2 hk2 hk2' hb1 hN1 hI0
    go_wp2_with fail
    refine ht.mono ?_
    rintro e w3 ⟨rfl, hw3, k3⟩
    have hD3 := keep_lt k3 hD2
    have hN3 := (keep_blk k3 (show w.heap.size < w1.heap.size by omega) (by have := hB2.size; omega)).trans hN2
    obtain ⟨c0, c1⟩ := box2 hN3
    have hn := wNum7 (fun k => k < w1.heap.size) l.length b ([] ++ txtB m) w3 hD3 (by omega) (by simp; omega) hw3
    clear ht hw2
    go_wp2_with fail
    refine hn.mono ?_
    rintro e w4 ⟨rfl, hw4, k4'⟩
    have k4 := keep_trans k3 k4'
    have hN4 := (keep_blk k4 (show w.heap.size < w1.heap.size by omega) (by have := hB2.size; omega)).trans hN2
    obtain ⟨c0, c1⟩ := box2 hN4
    clear hn hw3 k3 k4' hD3 hN3
    have HI2 := hidden hI2
    clear hI2
    go_wp2
    clear c0 c1 hN4
    go_loopg [27] l.length (fun gj i wr => ∃ (j : Nat), gj + j = l.length ∧ i = .int .i64 (j : Int) ∧ WB (fun k => k < w1.heap.size) wr b (txtB m ++ Wire.enc l.length ++ itemsB (l.take j)) ∧ Kept (fun k => ¬ k < w1.heap.size) w2 wr)
    case atStart => exact ⟨0, by omega, rfl, by simpa [itemsB] using hw4, k4⟩
    case round =>
      clear hw4 k4
      obtain ⟨j, hgj, rfl, hwj, kj⟩ := hrel
      rename World => wo
      have hDj := keep_lt kj hD2
      by_cases hj : j < l.length
      · have hji : (j : Int) < (l.length : Int) := by omega
        obtain ⟨g, o, cap, cv, e2, hFg, hC, q0, q1, q2, q3⟩ := (HI2.out.keep kj hFD hD2).at j hj
        simp only [Value.slice.injEq, true_and] at e2
        obtain ⟨rfl, rfl⟩ := e2
        obtain ⟨_, _, _, _, hcl, hco⟩ := HO.out _ (List.getElem_mem hj)
        obtain ⟨q, hq⟩ := HT.out _ (List.getElem_mem hj)
        have hk3 := kind_three (item_kind hq).1
        obtain ⟨ca, cc, rfl⟩ := hC.shape
        have hat := itemsB_at l j hj
        have hle := itemsB_le l (j + 1)
        rw [hat, List.length_append] at hle
        have HAT := hidden hat
        rcases hx : l[j] with ⟨kd, nm, ty, cs⟩
        rw [hx] at q0 q1 q2 q3 hC hcl hco hk3 hle HAT
        simp only at q0 q1 q2 q3 hC hcl hco hk3
        have hwB := hwj.new (.cells #[.int .i64 kd, .string (str nm), .string (str ty), .slice ca cs.length cc] 34)
        have hDB := Dx.lt hDj (.cells #[.int .i64 kd, .string (str nm), .string (str ty), .slice ca cs.length cc] 34)
        have hCB : CsR F (wo.alloc (.cells #[.int .i64 kd, .string (str nm), .string (str ty), .slice ca cs.length cc] 34)) (.slice ca cs.length cc) cs := hC.frame fun g hg => ⟨hg, Below.heap_alloc _ _ _ (hDj g (hFD g hg))⟩
        have hwi := writeItem (Dx (fun k => k < w1.heap.size) wo.heap.size) F ⟨kd, nm, ty, cs⟩ (.slice ca cs.length cc) b _ _ hDB (fun g hg => .inl (hFD g hg)) hCB hk3 (by simp only [List.length_append]; omega) hcl hco hwB
        unfold itv at hwi
        simp only at hwi
        have HX : Hid (∀ w', WB (Dx (fun k => k < w1.heap.size) wo.heap.size) w' b (txtB m ++ Wire.enc l.length ++ itemsB (l.take j) ++ itemB ⟨kd, nm, ty, cs⟩) → Kept (fun k => ¬ Dx (fun k => k < w1.heap.size) wo.heap.size k) (wo.alloc (.cells #[.int .i64 kd, .string (str nm), .string (str ty), .slice ca cs.length cc] 34)) w' → WB (fun k => k < w1.heap.size) w' b (txtB m ++ Wire.enc l.length ++ itemsB (l.take (j + 1))) ∧ Kept (fun k => ¬ k < w1.heap.size) w2 w') := by
          rw [hid_iff]
          intro w' h1 h2
          refine ⟨?_, keep_trans kj (Dx.kept h2 hDj)⟩
          rw [HAT.out]
          rw [List.append_assoc] at h1
          exact h1.less (fun k hk => .inl hk)
        clear hwj kj hC hCB hx hat hwB hq
        go_wp2_with fail
        refine hwi.mono ?_
        rintro e w5 ⟨rfl, hw5, k5⟩
        obtain ⟨h1, h2⟩ := HX.out _ hw5 k5
        clear hwi hw5 k5 q0 q1 q2 q3
        go_wp2
        go_roundg (l.length - (j + 1))
        case measure => omega
        case rel => exact ⟨j + 1, by omega, by go_num, h1, h2⟩
      · have hji : ¬ (j : Int) < (l.length : Int) := by omega
        rw [List.take_of_length_le (by omega)] at hwj
        obtain ⟨g, hWj, hbj, hgj'⟩ := hwj
        have hbo := HBW.out _ kj
        have hd := Wire.wdone b g _ wo (by simp only [List.length_append]; omega) hWj
        clear hWj
        go_wp2_with fail
        refine hd.mono ?_
        rintro e w5 ⟨v', g', rfl, hr5, hg5, hk5⟩
        have hb6 : Below w.heap.size w w5 := hbo.trans ((keep_of hk5).below (by have := hbo.size; omega) (fun _ _ h => h))
        have hsz5 := hbo.size
        have hQ := HQ.out v' g' w5 (by rw [HIF.out, ← List.append_assoc]; exact hr5) (by omega) hb6
        obtain ⟨va', vn', vc', hv'⟩ : ∃ a n c, v' = .slice a n c := by
          rcases hr5.shape with ⟨rfl, _⟩ | ⟨cap, rfl, _⟩
          · exact ⟨_, _, _, rfl⟩
          · exact ⟨_, _, _, rfl⟩
        subst hv'
        clear hd hr5 hk5 hb6
        go_wp2
        go_ret2
        exact hQ
  · have hQ : ∀ w', Below w.heap.size w w' → EncE m l w (.returned (.tuple #[.slice none 0 0, .int .i64 (rightI m l : Int)])) w' := fun w' hb => ⟨.inr ⟨hz, rfl⟩, hb⟩
    have HQ := hidden hQ
    generalize rightI m l = y at *
    have hyn : ((y : Int) != 0) = true := by simp; omega
    clear h hok hm hz hQ hI0
    go_enter Tryz.func5, Tryz.ntmps5
    go_wp2_with fail
    refine hR.mono ?_
    rintro e w1 ⟨rfl, hb1⟩
    have hq := HQ.out _ (below_trans hb0 hb1)
    clear hR HQ
    go_wp2
    go_ret2
    exact hq
end Go.Proofs.YtalbjbahgbkifaaGreat
