/-
  The package's Right.
  And: rightAlone, tooMany, rightCounts, allTypes, isSame, isAhead of the package object.
-/
import Derived.Deep.CutRange
import Derived.Test.YtdeckknfolaaeaaGreatDoorG04
import Derived.Test.YtdeckknfolaaeaaGreatDoorG18
import Derived.Deep.RegionHeld3
import Derived.Deep.LoopGhost
namespace Go.Proofs.YtdeckknfolaaeaaGreatDoor
open Go.RowKit

theorem iE1 {p : Option (List UInt8)} {kd : Int} {nm ty : List UInt8} {cs : List Cs} (h : kindE kd = false) : itemE p ⟨kd, nm, ty, cs⟩ = 12 := if_pos h
theorem iE2 {p : Option (List UInt8)} {kd : Int} {nm ty : List UInt8} {cs : List Cs} (h : kindE kd = true) (hn : namedE ⟨kd, nm, ty, cs⟩ = false) : itemE p ⟨kd, nm, ty, cs⟩ = 13 := by
  unfold itemE
  rw [if_neg (by rw [h]; simp), if_pos hn]
theorem iE3 {p : Option (List UInt8)} {kd : Int} {nm ty : List UInt8} {cs : List Cs} (h : kindE kd = true) (hn : namedE ⟨kd, nm, ty, cs⟩ = true) (hp : p.any (fun q => decide (nm ≤ q)) = true) : itemE p ⟨kd, nm, ty, cs⟩ = 13 := by
  unfold itemE
  rw [if_neg (by rw [h]; simp), if_neg (by rw [hn]; simp), if_pos hp]
theorem iE4 {p : Option (List UInt8)} {kd : Int} {nm ty : List UInt8} {cs : List Cs} (h : kindE kd = true) (hn : namedE ⟨kd, nm, ty, cs⟩ = true) (hp : p.any (fun q => decide (nm ≤ q)) = false) (hk : kd ≠ 1) : itemE p ⟨kd, nm, ty, cs⟩ = valueE ⟨kd, nm, ty, cs⟩ := by
  unfold itemE
  rw [if_neg (by rw [h]; simp), if_neg (by rw [hn]; simp), if_neg (by rw [hp]; simp), if_pos hk]
theorem iE5 {p : Option (List UInt8)} {kd : Int} {nm ty : List UInt8} {cs : List Cs} (h : kindE kd = true) (hn : namedE ⟨kd, nm, ty, cs⟩ = true) (hp : p.any (fun q => decide (nm ≤ q)) = false) (hk : kd = 1) : itemE p ⟨kd, nm, ty, cs⟩ = if ty ≠ [] then 12 else if cs.length = 0 then 12 else if 6 < cs.length then 12 else casesE [] cs := by
  unfold itemE
  rw [if_neg (by rw [h]; simp), if_neg (by rw [hn]; simp), if_neg (by rw [hp]; simp), if_neg (fun h => h hk)]
  rfl
theorem leq_is (a b : List UInt8) : (Op.bytesLess (str a).toList (str b).toList || (str a).toList == (str b).toList) = decide (a ≤ b) := by
  rw [less_is, eq_is, Bool.eq_iff_iff, Bool.or_eq_true, decide_eq_true_iff, decide_eq_true_iff, decide_eq_true_iff, str_lt_iff]
  constructor
  · rintro (h | rfl)
    · exact h.1
    · exact List.le_refl _
  · intro h
    by_cases he : a = b
    · exact .inr he
    · exact .inl ⟨h, he⟩
theorem nil_text (ty : List UInt8) : (str ty).toList.isEmpty = decide (ty = []) := by
  rw [Lib.toList_data, str_data]
  cases ty <;> simp
set_option maxHeartbeats 8000000 in
set_option maxRecDepth 1000000 in
theorem right7 (F : Nat → Prop) (m : List UInt8) (v : Value) (l : List It) (w : World) (h : ItR F w v l) (hF : ∀ g, F g → g < w.heap.size) (hm : Tk m) (hok : ∀ x ∈ l, ItOk x) : Calls Tryz.prog 155 #[.agg #[.string (str m), v]] w (NumB (rightI m l) w) := by
  obtain ⟨va, vc, rfl⟩ := h.shape
  have hb0 : Below w.heap.size w (w.alloc (.cells #[.string (str m), .slice va l.length vc] 51)) := (Below.refl _ _).alloc (Nat.le_refl _) _
  have hN := heap_alloc_new w (.cells #[.string (str m), .slice va l.length vc] 51)
  have HI : Hid (ItR F (w.alloc (.cells #[.string (str m), .slice va l.length vc] 51)) (.slice va l.length vc) l) := h.below hb0 hF
  have hF0 : ∀ g, F g → g < (w.alloc (.cells #[.string (str m), .slice va l.length vc] 51)).heap.size := fun g hg => by have := hF g hg; simp; omega
  have hs0 : w.heap.size < (w.alloc (.cells #[.string (str m), .slice va l.length vc] 51)).heap.size := by simp
  have hV := fun u => value (str m) u (by rw [str_size]; unfold Tk at hm; omega)
  rw [str_data] at hV
  have HO : Hid (∀ x ∈ l, ItOk x) := hok
  clear h hm hok
  go_enter Tryz.func155, Tryz.ntmps155
  go_wp2_with fail
  refine wp_scope_labels (fun _ _ _ => False) (fun _ _ _ => 0) ?_ (fun _ _ _ h => h.elim)
  intro hz
  clear hz
  go_wp2_with fail
  generalize w.alloc (.cells #[.string (str m), .slice va l.length vc] 51) = w0 at *
  have c1 : w0.cell? ⟨w.heap.size, 1, none⟩ = some (.slice va l.length vc) := by rw [cell_of_row w0 _ 1 _ _ _ hN]; rfl
  refine (hV _).mono ?_
  rintro e w1 ⟨rfl, hw1⟩
  obtain rfl := hw1.symm
  cases hv : valueR m
  · have HR : Hid (rightI m l = 13) := by rw [hid_iff, rightI, if_pos hv]
    clear hv hV
    go_wp2
    show bodyPost Tryz.prog Tryz.f155 (NumB (rightI m l) w) Exit.ret _ _
    go_ret
    exact ⟨by rw [HR.out]; rfl, hb0⟩
  · by_cases h32 : 32 < l.length
    · have HR : Hid (rightI m l = 4) := by rw [hid_iff, rightI, if_neg (by rw [hv]; simp), if_pos h32]
      have h32i : (32 : Int) < (l.length : Int) := by omega
      clear hv hV
      go_wp2
      show bodyPost Tryz.prog Tryz.f155 (NumB (rightI m l) w) Exit.ret _ _
      go_ret
      exact ⟨by rw [HR.out]; rfl, hb0⟩
    · have HR : Hid (rightI m l = itemsE none l) := by rw [hid_iff, rightI, if_neg (by rw [hv]; simp), if_neg h32]
      have h32i : ¬ (32 : Int) < (l.length : Int) := by omega
      clear hv hV
      go_wp2
      rename_i hK
      refine wp_label (hK _ _ ?_)
      go_wp2
      clear c1
      go_loopg [18, 3] l.length (fun g i s wr => ∃ (k : Nat), g + k = l.length ∧ i = .int .i64 (k : Int) ∧ s = .int .i64 0 ∧ Hid (itemsE none l = itemsE (prevI l k) (l.drop k)) ∧ Below w0.heap.size w0 wr)
      case atStart => exact ⟨0, by omega, rfl, rfl, rfl, Below.refl _ _⟩
      case round =>
        obtain ⟨k, hg, rfl, rfl, hq, hbl⟩ := hrel
        rename World => wo
        have hbw := below_trans hb0 hbl
        by_cases hk : k < l.length
        · obtain ⟨g, o, cap, cv, e1, hFg, hC, q0, q1, q2, q3⟩ := (HI.out.below hbl hF0).at k hk
          simp only [Value.slice.injEq, true_and] at e1
          obtain ⟨rfl, rfl⟩ := e1
          have hki : (k : Int) < (l.length : Int) := by omega
          obtain ⟨ca, cc, rfl⟩ := hC.shape
          have hxo := HO.out _ (List.getElem_mem hk)
          have hat := itemsE_at l k hk
          have HP : Hid (∀ j, k = j + 1 → ∃ p, (prevI l k).any (fun q => decide (l[k].name ≤ q)) = decide (l[k].name ≤ p) ∧ wo.cell? ⟨g, o + j * 4 + 1, none⟩ = some (.string (str p))) := by
            rw [hid_iff]
            rintro j rfl
            obtain ⟨g', o', cap', cv', e1, _, _, _, q1', _⟩ := (HI.out.below hbl hF0).at j (by omega)
            simp only [Value.slice.injEq, Option.some.injEq, Addr.mk.injEq, and_true, true_and] at e1
            obtain ⟨⟨rfl, rfl⟩, _⟩ := e1
            have hj : j < l.length := by omega
            refine ⟨l[j].name, ?_, q1'⟩
            simp [prevI, hj]
          have HZ : Hid (k = 0 → (prevI l k).any (fun q => decide (l[k].name ≤ q)) = false) := by
            rw [hid_iff]
            rintro rfl
            rfl
          rcases hx : l[k] with ⟨kd, nm, ty, cs⟩
          rw [hx] at q0 q1 q2 q3 hC hxo hat HP HZ
          simp only at q0 q1 q2 q3 hC HP HZ
          obtain ⟨_, _, hnm, hty, hcl, hco⟩ := hxo
          simp only at hnm hty hcl hco
          have HT : Hid (∀ y, itemE (prevI l k) ⟨kd, nm, ty, cs⟩ = y → y ≠ 0 → rightI m l = y) := by
            rw [hid_iff]
            intro y hy hy0
            rw [HR.out, hq.out, hat, hy, if_neg hy0]
          have HX : Hid (itemE (prevI l k) ⟨kd, nm, ty, cs⟩ = 0 → Hid (itemsE none l = itemsE (prevI l (k + 1)) (l.drop (k + 1)))) := by
            rw [hid_iff]
            intro hy
            rw [hid_iff, hq.out, hat, if_pos hy]
          obtain ⟨pv, hpv⟩ : ∃ pv, (prevI l k).any (fun q => decide (nm ≤ q)) = pv := ⟨_, rfl⟩
          rw [hpv] at HP HZ
          have HPV := hidden hpv
          clear hx hat hq hpv
          have hb2 : Below wo.heap.size wo (wo.alloc (.cells #[.int .i64 kd, .string (str nm), .string (str ty), .slice ca cs.length cc] 47)) := (Below.refl _ _).alloc (Nat.le_refl _) _
          have hN2 := heap_alloc_new wo (.cells #[.int .i64 kd, .string (str nm), .string (str ty), .slice ca cs.length cc] 47)
          have hsz2 := hbl.size
          have HC0 : ∀ u, Below (wo.alloc (.cells #[.int .i64 kd, .string (str nm), .string (str ty), .slice ca cs.length cc] 47)).heap.size (wo.alloc (.cells #[.int .i64 kd, .string (str nm), .string (str ty), .slice ca cs.length cc] 47)) u → u.cell? ⟨wo.heap.size, 0, none⟩ = some (.int .i64 kd) ∧ u.cell? ⟨wo.heap.size, 1, none⟩ = some (.string (str nm)) ∧ u.cell? ⟨wo.heap.size, 2, none⟩ = some (.string (str ty)) ∧ u.cell? ⟨wo.heap.size, 3, none⟩ = some (.slice ca cs.length cc) ∧ u.cell? ⟨w.heap.size, 1, none⟩ = some (.slice (some ⟨g, o, none⟩) l.length vc) ∧ Below wo.heap.size wo u ∧ Below w.heap.size w u := by
            intro u hu
            have hn := (hu.block wo.heap.size (by simp)).trans hN2
            have hn1 := (hu.block w.heap.size (by simp; omega)).trans ((hb2.block _ (by omega)).trans ((hbl.block _ hs0).trans hN))
            have hbu : Below wo.heap.size wo u := below_trans hb2 hu
            exact ⟨by rw [cell_of_row u _ 0 _ _ _ hn]; rfl, by rw [cell_of_row u _ 1 _ _ _ hn]; rfl, by rw [cell_of_row u _ 2 _ _ _ hn]; rfl, by rw [cell_of_row u _ 3 _ _ _ hn]; rfl, by rw [cell_of_row u _ 1 _ _ _ hn1]; rfl, hbu, below_trans hbw hbu⟩
          have HC := hidden HC0
          obtain ⟨_, _, _, _, _, hbz, hbz'⟩ := HC0 _ (Below.refl _ _)
          have hKd := fun u => isKind kd u
          have hNm := isNamed ⟨kd, nm, ty, cs⟩ (.slice ca cs.length cc) (wo.alloc (.cells #[.int .i64 kd, .string (str nm), .string (str ty), .slice ca cs.length cc] 47)) hnm
          unfold itv at hNm
          simp only at hNm
          clear HC0 hN2 hb2
          go_wp2_with fail
          refine (hKd _).mono ?_
          rintro e w2 ⟨rfl, hw2⟩
          obtain rfl := hw2.symm
          clear q0 q1 q2 q3 hKd
          cases hkd : kindE kd
          · have HKD := hidden hkd
            clear HX HP HZ HC hNm hkd
            go_wp2
            show bodyPost Tryz.prog Tryz.f155 (NumB (rightI m l) w) Exit.ret _ _
            go_ret
            exact ⟨by rw [HT.out 12 (iE1 HKD.out) (by decide)]; rfl, hbz'⟩
          · have HKD := hidden hkd
            go_wp2_with fail
            generalize wo.alloc (.cells #[.int .i64 kd, .string (str nm), .string (str ty), .slice ca cs.length cc] 47) = w2 at *
            refine hNm.mono ?_
            rintro e w3 ⟨rfl, hb3⟩
            obtain ⟨y0, y1, y2, y3, y4, hb4, hb5⟩ := HC.out w3 hb3
            clear hNm hkd
            cases hnd : namedE ⟨kd, nm, ty, cs⟩
            · have HND := hidden hnd
              clear HX HP HZ HC hnd
              go_wp2
              show bodyPost Tryz.prog Tryz.f155 (NumB (rightI m l) w) Exit.ret _ _
              go_ret
              exact ⟨by rw [HT.out 13 (iE2 HKD.out HND.out) (by decide)]; rfl, hb5⟩
            · have HND := hidden hnd
              clear hnd
              go_upto_region 18 with fail
              go_cut [41] from 45 to 58 (fun c wx => c = .bool pv ∧ ∃ n, wx = w3.drewN n)
              case first =>
                cases k with
                | zero =>
                  have hz := HZ.out rfl
                  subst hz
                  clear HT HX HP HZ HC
                  go_region
                  all_goals (
                    go_wp2_with fail
                    go_meet
                    exact ⟨rfl, 1, rfl⟩)
                | succ j =>
                  obtain ⟨p, hp1, hp2⟩ := HP.out j rfl
                  have hp3 := (World.cell?_of_block (a := ⟨g, o + j * 4 + 1, none⟩) (hb4.block g (World.block_lt_of_cell? wo _ hp2))).trans hp2
                  have hle := leq_is nm p
                  rw [← hp1] at hle
                  have hj1 : IntKind.i64.wrap (((j + 1 : Nat) : Int) - 1) = (j : Int) := by rw [IntKind.wrap_i64]; omega
                  have hj2 : (j : Int) < (l.length : Int) := by omega
                  have hj3 : (0 : Int) < ((j + 1 : Nat) : Int) := by omega
                  clear HT HX HP HZ HC hp1 hp2
                  go_region
                  all_goals (
                    go_wp2_with fail
                    go_meet
                    exact ⟨rfl, 1, rfl⟩)
              case rest =>
                obtain ⟨rfl, n, rfl⟩ := hcut
                have hb5' := below_drewN hb5 n
                have hb3' : Below w2.heap.size w2 (w3.drewN n) := below_drewN hb3 n
                clear y0 y1 y2 y3 y4 hb4 hb5 HP HZ
                generalize w3.drewN n = w4 at *
                obtain ⟨y0, y1, y2, y3, y4, hb4, hb5⟩ := HC.out w4 hb3'
                clear hb3 hb3' hb5'
                cases pv
                · by_cases hk1 : kd = 1
                  · subst hk1
                    by_cases hty0 : ty = []
                    · have hne := nil_text ty
                      rw [decide_eq_true hty0] at hne
                      have HTY := hidden hty0
                      clear hty0
                      by_cases hc0 : cs.length = 0
                      · have hci : ((cs.length : Nat) : Int) = 0 := by omega
                        have hcb : (((cs.length : Nat) : Int) == 0) = true := by simp [hc0]
                        go_wp2
                        show bodyPost Tryz.prog Tryz.f155 (NumB (rightI m l) w) Exit.ret _ _
                        go_ret
                        exact ⟨by rw [HT.out 12 (by rw [iE5 HKD.out HND.out HPV.out rfl, if_neg (fun h => h HTY.out), if_pos hc0]) (by decide)]; rfl, hb5⟩
                      · have hcb : (((cs.length : Nat) : Int) == 0) = false := by rw [beq_eq_false_iff_ne]; omega
                        by_cases h6 : 6 < cs.length
                        · have h6i : (6 : Int) < (cs.length : Int) := by omega
                          go_wp2
                          show bodyPost Tryz.prog Tryz.f155 (NumB (rightI m l) w) Exit.ret _ _
                          go_ret
                          exact ⟨by rw [HT.out 12 (by rw [iE5 HKD.out HND.out HPV.out rfl, if_neg (fun h => h HTY.out), if_neg hc0, if_pos h6]) (by decide)]; rfl, hb5⟩
                        · have h6i : ¬ (6 : Int) < (cs.length : Int) := by omega
                          have hCk : ∀ u, Below w4.heap.size w4 u → CsR F u (.slice ca cs.length cc) cs := fun u hu => hC.below (below_trans hb4 hu) (fun g hg => Nat.lt_of_lt_of_le (hF0 g hg) hsz2)
                          have hFk : ∀ g, F g → g < w4.heap.size := fun g hg => Nat.lt_of_lt_of_le (hF0 g hg) (Nat.le_trans hsz2 hb4.size)
                          have HCK := hidden hCk
                          have HQ : Hid (∀ u, Below w4.heap.size w4 u → u.cell? ⟨wo.heap.size, 3, none⟩ = some (.slice ca cs.length cc)) := fun u hu => (World.cell?_of_block (a := ⟨wo.heap.size, 3, none⟩) (hu.block wo.heap.size (World.block_lt_of_cell? w4 _ y3))).trans y3
                          have HTc : Hid (∀ y, casesE [] cs = y → y ≠ 0 → rightI m l = y) := by
                            rw [hid_iff]
                            intro y hy hy0
                            exact HT.out y (by rw [iE5 HKD.out HND.out HPV.out rfl, if_neg (fun h => h HTY.out), if_neg hc0, if_neg h6]; exact hy) hy0
                          have HXc : Hid (casesE [] cs = 0 → Hid (itemsE none l = itemsE (prevI l (k + 1)) (l.drop (k + 1)))) := by
                            rw [hid_iff]
                            intro hy
                            exact HX.out (by rw [iE5 HKD.out HND.out HPV.out rfl, if_neg (fun h => h HTY.out), if_neg hc0, if_neg h6]; exact hy)
                          clear HT HX hCk hC HC
                          go_wp2
                          clear y0 y1 y2 y3 y4
                          go_loopg [26, 3] cs.length (fun gj i s wr => ∃ (j : Nat), gj + j = cs.length ∧ i = .int .i64 (j : Int) ∧ s = .int .i64 0 ∧ Hid (casesE [] cs = casesE (cs.take j) (cs.drop j)) ∧ Below w4.heap.size w4 wr)
                          case atStart => exact ⟨0, by omega, rfl, rfl, by rw [hid_iff]; rfl, Below.refl _ _⟩
                          case round =>
                            obtain ⟨j, hgj, rfl, rfl, hqj, hbj⟩ := hrel
                            have hbwj := below_trans hb5 hbj
                            by_cases hj : j < cs.length
                            · have hji : (j : Int) < (cs.length : Int) := by omega
                              have z3 := HQ.out wr hbj
                              have hrc := rightCase F _ cs j wr (HCK.out wr hbj) (fun g hg => Nat.lt_of_lt_of_le (hFk g hg) hbj.size) hcl hco hj
                              have hca := casesE_at cs j hj
                              by_cases hz : caseE (cs.take j) cs[j] = 0
                              · rw [hz] at hrc
                                have HJ : Hid (casesE [] cs = casesE (cs.take (j + 1)) (cs.drop (j + 1))) := by rw [hid_iff, hqj.out, hca, if_pos hz]
                                clear hqj hca hz
                                go_wp2_with fail
                                refine hrc.mono ?_
                                rintro e w5 ⟨rfl, hb6⟩
                                have hb7 := below_trans hbj hb6
                                go_wp2
                                go_roundg (cs.length - (j + 1))
                                case measure => omega
                                case rel => exact ⟨j + 1, by omega, by go_num, rfl, HJ, hb7⟩
                              · have HJ : Hid (rightI m l = caseE (cs.take j) cs[j]) := HTc.out _ (by rw [hqj.out, hca, if_neg hz]) hz
                                generalize caseE (cs.take j) cs[j] = y at *
                                have hyn : ((y : Int) != 0) = true := by simp; omega
                                clear hqj hca hz
                                go_wp2_with fail
                                refine hrc.mono ?_
                                rintro e w5 ⟨rfl, hb6⟩
                                have hb7 := below_trans hbwj hb6
                                go_wp2
                                show bodyPost Tryz.prog Tryz.f155 (NumB (rightI m l) w) Exit.ret _ _
                                go_ret
                                exact ⟨(by rw [HJ.out]; first | done | rfl), hb7⟩
                            · have hji : ¬ (j : Int) < (cs.length : Int) := by omega
                              have HZZ : Hid (casesE [] cs = 0) := by
                                rw [hid_iff, hqj.out, List.drop_of_length_le (by omega)]
                                rfl
                              have hb8 : Below w0.heap.size w0 wr := below_trans hbl (below_trans hb4 hbj)
                              clear hqj
                              go_wp2
                              go_roundg (l.length - (k + 1))
                              case measure => omega
                              case rel => exact ⟨k + 1, by omega, by go_num, rfl, HXc.out (HZZ.out), hb8⟩
                    · have hne := nil_text ty
                      rw [decide_eq_false hty0] at hne
                      go_wp2
                      show bodyPost Tryz.prog Tryz.f155 (NumB (rightI m l) w) Exit.ret _ _
                      go_ret
                      exact ⟨by rw [HT.out 12 (by rw [iE5 HKD.out HND.out HPV.out rfl, if_pos hty0]) (by decide)]; rfl, hb5⟩
                  · have hkn : (kd != 1) = true := by simp [hk1]
                    have hrv := rightValue F ⟨kd, nm, ty, cs⟩ (.slice ca cs.length cc) w4 (hC.below hb4 (fun g hg => Nat.lt_of_lt_of_le (hF0 g hg) hsz2)) hty
                    unfold itv at hrv
                    simp only at hrv
                    by_cases hz : valueE ⟨kd, nm, ty, cs⟩ = 0
                    · rw [hz] at hrv
                      have HJ := HX.out (by rw [iE4 HKD.out HND.out HPV.out hk1]; exact hz)
                      clear HT HX HC hz hC
                      go_wp2_with fail
                      refine hrv.mono ?_
                      rintro e w5 ⟨rfl, hb6⟩
                      have hb7 : Below w0.heap.size w0 w5 := below_trans hbl (below_trans hb4 hb6)
                      go_wp2
                      go_roundg (l.length - (k + 1))
                      case measure => omega
                      case rel => exact ⟨k + 1, by omega, by go_num, rfl, HJ, hb7⟩
                    · have HJ : Hid (rightI m l = valueE ⟨kd, nm, ty, cs⟩) := HT.out _ (iE4 HKD.out HND.out HPV.out hk1) hz
                      generalize valueE ⟨kd, nm, ty, cs⟩ = y at *
                      have hyn : ((y : Int) != 0) = true := by simp; omega
                      clear HT HX HC hz hC
                      go_wp2_with fail
                      refine hrv.mono ?_
                      rintro e w5 ⟨rfl, hb6⟩
                      have hb7 := below_trans hb5 hb6
                      go_wp2
                      show bodyPost Tryz.prog Tryz.f155 (NumB (rightI m l) w) Exit.ret _ _
                      go_ret
                      exact ⟨(by rw [HJ.out]; first | done | rfl), hb7⟩
                · go_wp2
                  show bodyPost Tryz.prog Tryz.f155 (NumB (rightI m l) w) Exit.ret _ _
                  go_ret
                  exact ⟨by rw [HT.out 13 (iE3 HKD.out HND.out HPV.out) (by decide)]; rfl, hb5⟩
        · have hki : ¬ (k : Int) < (l.length : Int) := by omega
          have HZ : Hid (rightI m l = 0) := by
            rw [hid_iff, HR.out, hq.out, List.drop_of_length_le (by omega)]
            rfl
          clear hq
          go_wp2
          show bodyPost Tryz.prog Tryz.f155 (NumB (rightI m l) w) Exit.ret _ _
          go_ret
          exact ⟨(by rw [HZ.out]; first | done | rfl), hbw⟩
end Go.Proofs.YtdeckknfolaaeaaGreatDoor

namespace Go.Proofs.YtdeckknfolaaeaaGreatDoor
open Go.RowKit

set_option maxHeartbeats 2000000 in
set_option maxRecDepth 1000000 in
theorem oallTypes (F : Nat → Prop) (v : Value) (xs : List (List UInt8)) (w : World) (h : TxR F w v xs) (hF : ∀ g, F g → g < w.heap.size) (hl : xs.length ≤ 8796093022208) : Calls Tryz.prog 86 #[v] w (BoolB (xs.all rightR) w) := by
  obtain ⟨va, vc, rfl⟩ := h.shape
  have H := hidden h
  clear h
  go_enter Tryz.func86, Tryz.ntmps86
  go_wp2
  go_loopg [7] xs.length (fun g i wr => ∃ (k : Nat), g + k = xs.length ∧ i = .int .i64 (k : Int) ∧ Hid ((xs.take k).all rightR = true) ∧ Below w.heap.size w wr)
  case atStart => exact ⟨0, by omega, rfl, by rw [hid_iff]; rfl, Below.refl _ _⟩
  case round =>
    obtain ⟨k, hg, rfl, hq, hbl⟩ := hrel
    by_cases hk : k < xs.length
    · obtain ⟨g, o, cap, e1, hFg, q⟩ := (H.out.below hbl hF).at k hk
      simp only [Value.slice.injEq, true_and] at e1
      obtain ⟨rfl, rfl⟩ := e1
      have hki : (k : Int) < (xs.length : Int) := by omega
      have hr := fun u => right (str xs[k]) u
      rw [str_data] at hr
      cases hb : rightR xs[k]
      · rw [hb] at hr
        have HF : Hid (xs.all rightR = false) := all_not hk hb
        generalize xs[k] = x at *
        clear hq hb
        go_wp2_with fail
        refine (hr _).mono ?_
        rintro e w1 ⟨rfl, hb1⟩
        go_wp2
        go_ret
        exact ⟨(by rw [HF.out]; first | done | rfl), below_trans hbl hb1⟩
      · rw [hb] at hr
        have HQ : Hid ((xs.take (k + 1)).all rightR = true) := all_next hk hq.out hb
        generalize xs[k] = x at *
        clear hq hb
        go_wp2_with fail
        refine (hr _).mono ?_
        rintro e w1 ⟨rfl, hb1⟩
        have hb2 := below_trans hbl hb1
        go_wp2
        go_roundg (xs.length - (k + 1))
        case measure => omega
        case rel => exact ⟨k + 1, by omega, by go_num, HQ, hb2⟩
    · have hki : ¬ (k : Int) < (xs.length : Int) := by omega
      have HA : Hid (xs.all rightR = true) := by
        have := hq.out
        rwa [List.take_of_length_le (by omega)] at this
      clear hq
      go_wp2
      go_ret
      exact ⟨(by rw [HA.out]; first | done | rfl), hbl⟩

def obv (u : ObV) (m : List UInt8) : Value := .agg #[.string (str m), u.t, u.x, u.g, u.f, u.e, u.s, u.r]
set_option maxHeartbeats 1000000 in
set_option maxRecDepth 1000000 in
theorem rightAlone (F : Nat → Prop) (m : List UInt8) (x : It) (cv : Value) (w : World) (h : CsR F w cv x.cases) (hF : ∀ g, F g → g < w.heap.size) (hm : Tk m) (hx : ItOk x) : Calls Tryz.prog 78 #[.string (str m), itv x cv] w (NumB (rightI m [x]) w) := by
  obtain ⟨kd, nm, ty, cs⟩ := x
  unfold itv
  simp only at *
  obtain ⟨ca, cc, rfl⟩ := h.shape
  have hb0 : Below w.heap.size w ((w.alloc (.cells #[.int .i64 kd, .string (str nm), .string (str ty), .slice ca cs.length cc] 47)).alloc (.cells #[.int .i64 kd, .string (str nm), .string (str ty), .slice ca cs.length cc] 47)) := ((Below.refl _ _).alloc (Nat.le_refl _) _).alloc (by simp) _
  have hN := heap_alloc_new (w.alloc (.cells #[.int .i64 kd, .string (str nm), .string (str ty), .slice ca cs.length cc] 47)) (.cells #[.int .i64 kd, .string (str nm), .string (str ty), .slice ca cs.length cc] 47)
  have hsz : ((w.alloc (.cells #[.int .i64 kd, .string (str nm), .string (str ty), .slice ca cs.length cc] 47)).alloc (.cells #[.int .i64 kd, .string (str nm), .string (str ty), .slice ca cs.length cc] 47)).heap.size = w.heap.size + 2 := by simp
  have hR : ∀ W, W = (w.alloc (.cells #[.int .i64 kd, .string (str nm), .string (str ty), .slice ca cs.length cc] 47)).alloc (.cells #[.int .i64 kd, .string (str nm), .string (str ty), .slice ca cs.length cc] 47) → Calls Tryz.prog 155 #[.agg #[.string (str m), .slice (some ⟨w.heap.size + 1, 0, none⟩) 1 1]] W (NumB (rightI m [⟨kd, nm, ty, cs⟩]) W) := by
    rintro W rfl
    have he : (w.alloc (.cells #[.int .i64 kd, .string (str nm), .string (str ty), .slice ca cs.length cc] 47)).heap.size = w.heap.size + 1 := by simp
    rw [he] at hN
    refine right7 (fun g => F g ∨ g = w.heap.size + 1) m _ [⟨kd, nm, ty, cs⟩] _ (.inr ⟨w.heap.size + 1, 0, 1, rfl, by simp, .inr rfl, fun j x hj => ?_⟩) (fun g hg => ?_) hm (by simpa using hx)
    · obtain ⟨hj1, rfl⟩ := List.getElem?_eq_some_iff.1 hj
      obtain rfl : j = 0 := by simpa using hj1
      simp only [Nat.zero_mul, Nat.add_zero, Nat.zero_add, List.getElem_cons_zero]
      refine ⟨.slice ca cs.length cc, h.frame fun g hg => ⟨.inl hg, hb0.block g (hF g hg)⟩, ?_, ?_, ?_, ?_⟩
      · rw [cell_of_row _ _ 0 _ _ _ hN]; rfl
      · rw [cell_of_row _ _ 1 _ _ _ hN]; rfl
      · rw [cell_of_row _ _ 2 _ _ _ hN]; rfl
      · rw [cell_of_row _ _ 3 _ _ _ hN]; rfl
    · rw [hsz]
      rcases hg with hg | rfl
      · have := hF g hg; omega
      · omega
  generalize rightI m [⟨kd, nm, ty, cs⟩] = r at *
  clear h hN hx
  go_enter Tryz.func78, Tryz.ntmps78
  go_wp2_with (go_at_call 155; refine (hR _ rfl).mono ?_; rintro e w2 ⟨rfl, hb2⟩)
  go_ret
  exact ⟨rfl, below_trans hb0 hb2⟩
set_option maxHeartbeats 1000000 in
set_option maxRecDepth 1000000 in
theorem otooMany (F : Nat → Prop) (u : ObV) (o : Ob) (w : World) (h : ObR F w u o) : Calls Tryz.prog 34 #[obv u o.mod] w (BoolB (manyO o) w) := by
  obtain ⟨m, ts, xs, gs, fs, es, ss, rs⟩ := o
  obtain ⟨tv, xv, gv, fv, ev, sv, rv⟩ := u
  obtain ⟨h1, h2, h3, h4, h5, h6, h7⟩ := h
  unfold obv
  simp only at *
  obtain ⟨a1, c1, rfl⟩ := h1.shape
  obtain ⟨a2, c2, rfl⟩ := h2.1.shape
  obtain ⟨a3, c3, rfl⟩ := h3.shape
  obtain ⟨a4, c4, rfl⟩ := h4.shape
  obtain ⟨a5, c5, rfl⟩ := h5.1.shape
  obtain ⟨a6, c6, rfl⟩ := h6.shape
  obtain ⟨a7, c7, rfl⟩ := h7.shape
  have hb0 : Below w.heap.size w (w.alloc (.cells #[.string (str m), .slice a1 ts.length c1, .slice a2 xs.length c2, .slice a3 gs.length c3, .slice a4 fs.length c4, .slice a5 es.length c5, .slice a6 ss.length c6, .slice a7 rs.length c7] 31)) := (Below.refl _ _).alloc (Nat.le_refl _) _
  have HM : Hid (manyO ⟨m, ts, xs, gs, fs, es, ss, rs⟩ = (decide (32 < ts.length) || (decide (32 < xs.length) || (decide (32 < gs.length) || (decide (32 < es.length) || (decide (48 < fs.length) || (decide (96 < ss.length) || decide (384 < rs.length)))))))) := rfl
  clear h1 h2 h3 h4 h5 h6 h7
  generalize ts.length = n1 at *
  generalize xs.length = n2 at *
  generalize gs.length = n3 at *
  generalize fs.length = n4 at *
  generalize es.length = n5 at *
  generalize ss.length = n6 at *
  generalize rs.length = n7 at *
  go_enter Tryz.func34, Tryz.ntmps34
  by_cases pn1 : 32 < n1
  · have pn1i : (32 : Int) < (n1 : Int) := by omega
    have HV : Hid (manyO ⟨m, ts, xs, gs, fs, es, ss, rs⟩ = true) := by rw [hid_iff, HM.out]; simp [pn1]
    clear HM  pn1
    go_wp2
    go_ret
    exact ⟨(by rw [HV.out]; first | done | rfl), hb0⟩
  have pn1i : ¬ (32 : Int) < (n1 : Int) := by omega
  by_cases pn2 : 32 < n2
  · have pn2i : (32 : Int) < (n2 : Int) := by omega
    have HV : Hid (manyO ⟨m, ts, xs, gs, fs, es, ss, rs⟩ = true) := by rw [hid_iff, HM.out]; simp [pn2]
    clear HM pn1 pn2
    go_wp2
    go_ret
    exact ⟨(by rw [HV.out]; first | done | rfl), hb0⟩
  have pn2i : ¬ (32 : Int) < (n2 : Int) := by omega
  by_cases pn3 : 32 < n3
  · have pn3i : (32 : Int) < (n3 : Int) := by omega
    have HV : Hid (manyO ⟨m, ts, xs, gs, fs, es, ss, rs⟩ = true) := by rw [hid_iff, HM.out]; simp [pn3]
    clear HM pn1 pn2 pn3
    go_wp2
    go_ret
    exact ⟨(by rw [HV.out]; first | done | rfl), hb0⟩
  have pn3i : ¬ (32 : Int) < (n3 : Int) := by omega
  by_cases pn5 : 32 < n5
  · have pn5i : (32 : Int) < (n5 : Int) := by omega
    have HV : Hid (manyO ⟨m, ts, xs, gs, fs, es, ss, rs⟩ = true) := by rw [hid_iff, HM.out]; simp [pn5]
    clear HM pn1 pn2 pn3 pn5
    go_wp2
    go_ret
    exact ⟨(by rw [HV.out]; first | done | rfl), hb0⟩
  have pn5i : ¬ (32 : Int) < (n5 : Int) := by omega
  by_cases pn4 : 48 < n4
  · have pn4i : (48 : Int) < (n4 : Int) := by omega
    have HV : Hid (manyO ⟨m, ts, xs, gs, fs, es, ss, rs⟩ = true) := by rw [hid_iff, HM.out]; simp [pn4]
    clear HM pn1 pn2 pn3 pn5 pn4
    go_wp2
    go_ret
    exact ⟨(by rw [HV.out]; first | done | rfl), hb0⟩
  have pn4i : ¬ (48 : Int) < (n4 : Int) := by omega
  by_cases pn6 : 96 < n6
  · have pn6i : (96 : Int) < (n6 : Int) := by omega
    have HV : Hid (manyO ⟨m, ts, xs, gs, fs, es, ss, rs⟩ = true) := by rw [hid_iff, HM.out]; simp [pn6]
    clear HM pn1 pn2 pn3 pn5 pn4 pn6
    go_wp2
    go_ret
    exact ⟨(by rw [HV.out]; first | done | rfl), hb0⟩
  have pn6i : ¬ (96 : Int) < (n6 : Int) := by omega
  by_cases pn7 : 384 < n7
  · have pn7i : (384 : Int) < (n7 : Int) := by omega
    have HV : Hid (manyO ⟨m, ts, xs, gs, fs, es, ss, rs⟩ = true) := by rw [hid_iff, HM.out]; simp [pn7]
    clear HM pn1 pn2 pn3 pn5 pn4 pn6 pn7
    go_wp2
    go_ret
    exact ⟨(by rw [HV.out]; first | done | rfl), hb0⟩
  have pn7i : ¬ (384 : Int) < (n7 : Int) := by omega
  have HV : Hid (manyO ⟨m, ts, xs, gs, fs, es, ss, rs⟩ = false) := by rw [hid_iff, HM.out]; simp [pn1, pn2, pn3, pn5, pn4, pn6, pn7]
  clear HM pn1 pn2 pn3 pn5 pn4 pn6 pn7
  go_wp2
  go_ret
  exact ⟨(by rw [HV.out]; first | done | rfl), hb0⟩
set_option maxHeartbeats 1000000 in
set_option maxRecDepth 1000000 in
theorem ocounts (f : Fn) (pv kv : Value) (w : World) (hp : ∃ a c, pv = .slice a f.params.length c) (hok : FnOk f) : Calls Tryz.prog 85 #[fnv f pv kv] w (BoolB (countsO f) w) := by
  obtain ⟨a, c, rfl⟩ := hp
  obtain ⟨nm, ps, cp, rs, lc, cd⟩ := f
  obtain ⟨_, hl, _, ⟨hc1, hc2⟩, _, _, _⟩ := hok
  unfold fnv
  simp only at *
  have hb0 : Below w.heap.size w (w.alloc (.cells #[.string (str nm), .slice a ps.length c, .int .i64 cp, .string (str rs), .int .i64 lc, kv] 63)) := (Below.refl _ _).alloc (Nat.le_refl _) _
  have HM : Hid (countsO ⟨nm, ps, cp, rs, lc, cd⟩ = (decide (0 ≤ cp) && (decide (cp ≤ ps.length) && (decide ((ps.length : Int) - cp ≤ 6) && (decide ((ps.length : Int) ≤ lc) && (decide (lc ≤ 24) && (decide (nm = []) || decide (cp = 0)))))))) := rfl
  have he := nil_text nm
  generalize ps.length = n at *
  go_enter Tryz.func85, Tryz.ntmps85
  by_cases p1 : 0 ≤ cp
  case neg =>
    have HV : Hid (countsO ⟨nm, ps, cp, rs, lc, cd⟩ = false) := by rw [hid_iff, HM.out]; simp [p1]
    clear HM he
    go_wp2
    go_ret
    exact ⟨(by rw [HV.out]; first | done | rfl), hb0⟩
  by_cases p2 : cp ≤ (n : Int)
  case neg =>
    have HV : Hid (countsO ⟨nm, ps, cp, rs, lc, cd⟩ = false) := by rw [hid_iff, HM.out]; simp [p2]
    clear HM he
    go_wp2
    go_ret
    exact ⟨(by rw [HV.out]; first | done | rfl), hb0⟩
  by_cases p3 : (n : Int) - cp ≤ 6
  case neg =>
    have HV : Hid (countsO ⟨nm, ps, cp, rs, lc, cd⟩ = false) := by rw [hid_iff, HM.out]; simp [p3]
    clear HM he
    go_wp2
    go_ret
    exact ⟨(by rw [HV.out]; first | done | rfl), hb0⟩
  by_cases p4 : (n : Int) ≤ lc
  case neg =>
    have HV : Hid (countsO ⟨nm, ps, cp, rs, lc, cd⟩ = false) := by rw [hid_iff, HM.out]; simp [p4]
    clear HM he
    go_wp2
    go_ret
    exact ⟨(by rw [HV.out]; first | done | rfl), hb0⟩
  by_cases p5 : lc ≤ 24
  case neg =>
    have HV : Hid (countsO ⟨nm, ps, cp, rs, lc, cd⟩ = false) := by rw [hid_iff, HM.out]; simp [p5]
    clear HM he
    go_wp2
    go_ret
    exact ⟨(by rw [HV.out]; first | done | rfl), hb0⟩
  by_cases pn : nm = []
  · have HV : Hid (countsO ⟨nm, ps, cp, rs, lc, cd⟩ = true) := by rw [hid_iff, HM.out]; simp [p1, p2, p3, p4, p5, pn]
    have h1 : (str nm).toList = [] := by rw [← List.isEmpty_iff, he, decide_eq_true pn]
    rw [decide_eq_true pn] at he
    clear HM pn
    go_wp2
    go_ret
    exact ⟨(by rw [HV.out]; first | done | rfl), hb0⟩
  rw [decide_eq_false pn] at he
  have h1 : ¬ (str nm).toList = [] := by
    intro h
    rw [h] at he
    cases he
  by_cases pz : cp = 0
  · subst pz
    have HV : Hid (countsO ⟨nm, ps, 0, rs, lc, cd⟩ = true) := by rw [hid_iff, HM.out]; simp; omega
    clear HM pn
    go_wp2
    go_ret
    exact ⟨(by rw [HV.out]; first | done | rfl), hb0⟩
  have HV : Hid (countsO ⟨nm, ps, cp, rs, lc, cd⟩ = false) := by rw [hid_iff, HM.out]; simp [pn, pz]
  have hz : (cp == 0) = false := by simp [pz]
  clear HM pn
  go_wp2
  go_ret
  exact ⟨(by rw [HV.out]; first | done | rfl), hb0⟩
end Go.Proofs.YtdeckknfolaaeaaGreatDoor
