/-
  The walk of the law VerifyDeep.
-/
import Derived.Test.YtdeckknfolaaeaaGreatDoorG47
import Derived.Test.YtdeckknfolaaeaaGreatDoorVerDeepDZ
import Derived.BigQuiet
import Derived.Deep.QuietTactic
namespace Go.Proofs.YtdeckknfolaaeaaGreatDoor
open Go.RowKit Go.Maps

def BoolD (w : World) (e : Ending) (w' : World) : Prop := e = .returned (.bool true) ∧ Below w.heap.size w w'
set_option maxRecDepth 1000000 in
set_option maxHeartbeats 4000000 in
theorem deep_walk (hAt : ∀ n, n < 61 → deepOk n = true) (n0 : Int) (h0 : -9223372036854775808 ≤ n0) (h1 : n0 ≤ 9223372036854775807) (w : World) : Calls Tryz.prog 7 #[.int .i64 n0] w (BoolD w) := by
  have hwi := withinQ n0 60 h0 h1 (by omega) w
  obtain ⟨m, hm, hml⟩ : ∃ m : Nat, n0 % ((60 : Nat) + 1 : Int) = (m : Int) ∧ m < 61 := ⟨(n0 % 61).toNat, by omega, by omega⟩
  rw [hm] at hwi
  unfold Pu at hwi
  clear hm h0 h1
  go_enter Tryz.func7, Tryz.ntmps7
  go_wp2_with fail
  refine hwi.mono ?_
  rintro e w2 ⟨rfl, hw2⟩
  obtain rfl := hw2.symm
  clear hwi
  go_wp2_with fail
  go_loopg [3, 4] (m + 1) (fun gk v i wr => ∃ (k : Nat), gk + k = m + 1 ∧ i = .int .i64 (k : Int) ∧ wr.ownsRow w.heap.size 5 1 v (3 * k) (bc (deepP k)) ∧ Below w.heap.size w wr)
  case atStart => exact ⟨0, rfl, rfl, World.ownsRow_nil _ _ _ _, Below.refl _ _⟩
  case round =>
    obtain ⟨k, hgk, rfl, hO, hB⟩ := hrel
    rename World => wr
    have HG := hidden hgk
    have HO := hidden hO
    have hlen := deepP_len k
    have HB := hidden hB
    have hz := hB.size
    clear hO hB hgk
    by_cases hk : k < m + 1
    · have hki : (k : Int) < 1 + (m : Int) := by omega
      have hb3 : Below wr.heap.size wr (wr.alloc (.cells #[.int .u8 1, .int .u8 2, .int .u8 0] 5)) := (Below.refl _ wr).alloc (Nat.le_refl _) _
      have HB3 := hidden hb3
      have HL := hidden hlen
      clear hlen hb3
      go_wp2_with (at_builtin; refine append_bytes rfl (.tmp 20) (.tmp 21) rfl w.heap.size _ (deepP k) rfl (by rw [HL.out]; exact HO.out.alloc _) ⟨wr.heap.size, 0, none⟩ 3 [1, 2, 0] (by simp) rfl (cells_new wr (bc [1, 2, 0]) 5) (by rw [HL.out]; simp; omega) (by simp; omega) ?_)
      intro ad' c' w5 ho5 hg5
      have hlk : (deepP k).length + 3 = 3 * (k + 1) := by rw [deepP_len]; omega
      have ho6 : w5.ownsRow w.heap.size 5 1 (.slice (some ad') (3 * (k + 1)) c') (3 * (k + 1)) (bc (deepP (k + 1))) := by
        rw [deepP_next, ← hlk]
        simpa using ho5
      rw [hlk]
      have HB5 : Hid (Below w.heap.size w w5) := below_grown (HO.out.alloc _) (by rw [World.size_alloc]; omega) (HB.out.trans (HB3.out.mono hz)) hg5
      have HO5 := hidden ho6
      clear ho5 hg5 hlk ho6
      obtain ⟨LL, hLL⟩ : ∃ LL, LL = 3 * (k + 1) := ⟨_, rfl⟩
      rw [← hLL] at HO5 ⊢
      have HLL := hidden hLL
      clear hLL
      go_wp2
      go_roundg (m + 1 - (k + 1))
      case measure => have := HG.out; omega
      case rel => exact ⟨k + 1, by have := HG.out; omega, by go_num, by rw [← HLL.out]; exact HO5.out, HB5.out⟩
    · have hki : ¬ (k : Int) < 1 + (m : Int) := by omega
      have hke : k = m + 1 := by have := HG.out; omega
      clear hlen
      go_wp2_with fail
      go_loopg [3, 5] m (fun gk v i wq => ∃ (j : Nat), gk + j = m ∧ i = .int .i64 ((j : Int) + 1) ∧ wq.ownsRow w.heap.size 5 1 v (3 * (m + 1) + 2 * j) (bc (deepP (m + 1) ++ deepQ j)) ∧ Below w.heap.size w wq)
      case atStart => exact ⟨0, rfl, rfl, by subst hke; simpa [deepQ] using HO.out, HB.out⟩
      case round =>
        obtain ⟨j, hgj, rfl, hO, hB⟩ := hrel
        rename World => wq
        have HGJ := hidden hgj
        have HO := hidden hO
        have HB := hidden hB
        have hz := hB.size
        clear hO hB hgj
        obtain ⟨cd, hcd⟩ : ∃ cd, cd = deepP (m + 1) ++ deepQ j := ⟨_, rfl⟩
        have hcl : cd.length = 3 * (m + 1) + 2 * j := by rw [hcd, List.length_append, deepP_len, deepQ_len]
        rw [← hcd] at HO
        have HCD := hidden hcd
        clear hcd
        by_cases hj : j < m
        · have hji : (j : Int) + 1 < 1 + (m : Int) := by omega
          have hb3 : Below wq.heap.size wq (wq.alloc (.cells #[.int .u8 7, .int .u8 0] 5)) := (Below.refl _ wq).alloc (Nat.le_refl _) _
          have HB3 := hidden hb3
          have HL := hidden hcl
          clear hcl hb3
          go_wp2_with (at_builtin; refine append_bytes rfl (.tmp 28) (.tmp 29) rfl w.heap.size _ cd rfl (by rw [HL.out]; exact HO.out.alloc _) ⟨wq.heap.size, 0, none⟩ 2 [7, 0] (by simp) rfl (cells_new wq (bc [7, 0]) 5) (by rw [HL.out]; simp; omega) (by simp; omega) ?_)
          intro ad' c' w5 ho5 hg5
          have hnx : cd ++ [7, 0] = deepP (m + 1) ++ deepQ (j + 1) := by rw [HCD.out, deepQ_next, List.append_assoc]
          have hlk : cd.length + 2 = 3 * (m + 1) + 2 * (j + 1) := by rw [HL.out]; omega
          have ho6 : w5.ownsRow w.heap.size 5 1 (.slice (some ad') (3 * (m + 1) + 2 * (j + 1)) c') (3 * (m + 1) + 2 * (j + 1)) (bc (deepP (m + 1) ++ deepQ (j + 1))) := by
            rw [← hnx, ← hlk]
            simpa using ho5
          rw [hlk]
          have HB5 : Hid (Below w.heap.size w w5) := below_grown (HO.out.alloc _) (by rw [World.size_alloc]; omega) (HB.out.trans (HB3.out.mono hz)) hg5
          have HO5 := hidden ho6
          clear ho5 hg5 hlk hnx ho6
          obtain ⟨LL, hLL⟩ : ∃ LL, LL = 3 * (m + 1) + 2 * (j + 1) := ⟨_, rfl⟩
          rw [← hLL] at HO5 ⊢
          have HLL := hidden hLL
          clear hLL
          go_wp2
          go_roundg (m - (j + 1))
          case measure => have := HGJ.out; omega
          case rel => exact ⟨j + 1, by have := HGJ.out; omega, by go_num, by rw [← HLL.out]; exact HO5.out, HB5.out⟩
        · have hji : ¬ (j : Int) + 1 < 1 + (m : Int) := by omega
          have hje : j = m := by have := HGJ.out; omega
          have HKN := hidden (fun u => known15 u)
          have hok := hAt m hml
          simp only [deepOk, Bool.and_eq_true, Bool.or_eq_true, decide_eq_true_eq] at hok
          obtain ⟨hk1, hk2, hk3⟩ := hok
          have HK1 := hidden hk1
          have HK2 := hidden hk2
          have HK3 := hidden hk3
          clear hk1 hk2 hk3
          have hcd2 : cd = deepP (m + 1) ++ deepQ m := by rw [HCD.out, hje]
          obtain ⟨L0, hL0⟩ : ∃ L0, L0 = 3 * (m + 1) + 2 * m := ⟨_, rfl⟩
          have hcl2 : cd.length = L0 := by rw [hcl, hje, hL0]
          have hO2 : wq.ownsRow w.heap.size 5 1 u3 L0 (bc cd) := by
            have := HO.out
            rw [hje, ← hL0] at this
            exact this
          have hL1 : L0 ≤ 1000 := by omega
          have hpos : 0 < L0 := by omega
          have HO2 := hidden hO2
          have HCL := hidden hcl2
          have HC2 := hidden hcd2
          have HL0 := hidden hL0
          have hb3 : Below wq.heap.size wq (wq.alloc (.cells #[.int .u8 15] 5)) := (Below.refl _ wq).alloc (Nat.le_refl _) _
          have HB3 := hidden hb3
          clear hcd2 hcl2 hO2 hcl hb3 hL0
          go_wp2_with (at_builtin; refine append_bytes rfl (.tmp 31) (.tmp 32) rfl w.heap.size _ cd rfl (by rw [HCL.out]; exact HO2.out.alloc _) ⟨wq.heap.size, 0, none⟩ 1 [15] (by simp) rfl (cells_new wq (bc [15]) 5) (by rw [HCL.out]; simp; omega) (by simp; omega) ?_)
          intro ad' c' w5 ho5 hg5
          have hlk : cd.length + 1 = L0 + 1 := by rw [HCL.out]
          have ho6 : w5.ownsRow w.heap.size 5 1 (.slice (some ad') (L0 + 1) c') (L0 + 1) (bc (deepB (m + 1))) := by
            have e : deepB (m + 1) = cd ++ [15] := by rw [HC2.out]; rfl
            rw [e, ← hlk]
            simpa using ho5
          rw [hlk]
          have HB5 : Hid (Below w.heap.size w w5) := below_grown (HO2.out.alloc _) (by rw [World.size_alloc]; omega) (HB.out.trans (HB3.out.mono hz)) hg5
          have HO6 := hidden ho6
          have hdl : (deepB (m + 1)).length = L0 + 1 := by
            have := ho6.1
            simpa [bc] using this
          have HDL := hidden hdl
          have hsm := vsmall ⟨#[110, 117, 109]⟩ (some ad') (L0 + 1) c' w5
          unfold SmE at hsm
          clear ho5 hg5 hlk ho6 hdl
          go_wp2_with fail
          refine hsm.mono ?_
          rintro e w6 ⟨fb, eb, rfl, h1, h2, -, h4, h5, h6⟩
          have HB6 : Hid (Below w.heap.size w w6) := HB5.out.trans (h6.mono HB5.out.size)
          have hO6 : w6.ownsRow w.heap.size 5 1 (.slice (some ad') (L0 + 1) c') (L0 + 1) (bc (deepB (m + 1))) := owns_same HO6.out fun g hg => h6.block g (HO6.out.lt g hg).2
          have hrun := vrun (F := fun g => w.heap.size ≤ g ∧ g < w6.heap.size) (res := numT) (code := deepB (m + 1)) h4 h5 rfl ⟨by have := HB5.out.size; omega, (Array.getElem?_eq_some_iff.1 h4).1⟩ ⟨by have := HB5.out.size; omega, (Array.getElem?_eq_some_iff.1 h5).1⟩ (byR_own (B := w.heap.size) (by rw [HDL.out]; exact hO6) (fun g h1 h2 => ⟨h1, h2⟩)) (fun g hg => hg.2) (by decide) (by omega) HK1.out HK2.out
          have HO7 := hidden hO6
          clear hsm h1 h2 h4 h5 h6 hO6
          by_cases h48 : m < 48
          · rw [if_pos h48] at hrun
            have hrun' : Calls Tryz.prog 10 #[smV fb eb, .slice none 0 0] w6 fun e w' => e = .returned (.tuple #[.int .i64 0, .int .i64 0, .int .i64 0]) ∧ Below w6.heap.size w6 w' := hrun
            have hgt : ¬ ((48 : Int) < 1 + (m : Int)) := by omega
            clear hrun
            go_wp2_with fail
            refine hrun'.mono ?_
            rintro e w7 ⟨rfl, hb7⟩
            have HB7 : Hid (Below w.heap.size w w7) := HB6.out.trans (hb7.mono HB6.out.size)
            have hO7 : w7.ownsRow w.heap.size 5 1 (.slice (some ad') (L0 + 1) c') (L0 + 1) (bc (deepB (m + 1))) := owns_same HO7.out fun g hg => hb7.block g (HO7.out.lt g hg).2
            have HO8 := hidden hO7
            clear hrun' hb7 hO7
            have hz7 := HB7.out.size
            have hcap : (L0 : Int) ≤ (c' : Int) := by
              rcases HO8.out.2 with ⟨e, _⟩ | ⟨g, cp, cur, e, _, _, hh, _⟩
              · cases e
              · simp only [Value.slice.injEq] at e
                omega
            obtain ⟨nw, hnw⟩ : ∃ nw, nw = deepP (m + 1) ++ deepQ m := ⟨_, rfl⟩
            have hnl : nw.length = L0 := by rw [hnw, List.length_append, deepP_len, deepQ_len, HL0.out]
            have HNW := hidden hnw
            have HNL := hidden hnl
            have hcells : ∀ (x : World), Below w7.heap.size w7 x → ∀ j u, (bc nw)[j]? = some u → x.cell? (ad'.add j) = some u := fun x hx j u hj => by
              have hjl : j < nw.length := by
                have := (List.getElem?_eq_some_iff.1 hj).1
                simpa [bc] using this
              have hO9 : x.ownsRow w.heap.size 5 1 (.slice (some ad') (L0 + 1) c') (L0 + 1) (bc (deepB (m + 1))) := owns_same HO8.out fun g hg => hx.block g (HO8.out.lt g hg).2
              rcases owns_shape hO9 with ⟨e, _⟩ | ⟨g, cp, e, _, _, hc⟩
              · cases e
              · simp only [Value.slice.injEq, Option.some.injEq, true_and] at e
                obtain ⟨rfl, -⟩ := e
                refine hc j u ?_
                have e : deepB (m + 1) = nw ++ [15] := by rw [HNW.out]; rfl
                rw [e]
                simp only [bc, List.map_append]
                rw [List.getElem?_append_left (by rw [List.length_map]; exact hjl)]
                exact hj
            have HCE := hidden hcells
            have hown0 : (w7.alloc (.cells #[] 5)).ownsRow w7.heap.size 5 1 (.slice (some ⟨w7.heap.size, 0, none⟩) 0 0) 0 (bc []) := ⟨rfl, .inr ⟨w7.heap.size, 0, #[], rfl, Nat.le_refl _, World.alloc_heap_new w7 _, Nat.le_refl _, by unfold maxLen; omega, rfl, rfl⟩⟩
            have HOW0 := hidden hown0
            have hnn : nw ≠ [] := fun e => by rw [e] at hnl; simp at hnl; omega
            have HNN := hidden hnn
            clear hnw hnl hcells hown0 hnn
            go_wp2_with (at_builtin; refine append_bytes rfl (.tmp 53) (.tmp 58) rfl w7.heap.size _ [] rfl HOW0.out ad' c' nw HNN.out (by rw [HNL.out]; rfl) (HCE.out _ ((Below.refl _ w7).alloc (Nat.le_refl _) _)) (by rw [HNL.out]; simp; omega) (by simp) ?_)
            intro ad2 c2 w8 ho8 hg8
            have hlk : nw.length = L0 := HNL.out
            have hb8 : Below w7.heap.size w7 w8 := below_grown HOW0.out (by rw [World.size_alloc]; omega) ((Below.refl _ w7).alloc (Nat.le_refl _) _) hg8
            have HB8 := hidden hb8
            have ho8' : w8.ownsRow w7.heap.size 5 1 (.slice (some ad2) nw.length c2) nw.length (bc nw) := by simpa using ho8
            have HO9 := hidden ho8'
            have hb9 : Below w8.heap.size w8 (w8.alloc (.cells #[.int .u8 7, .int .u8 0, .int .u8 15] 5)) := (Below.refl _ w8).alloc (Nat.le_refl _) _
            have HB9 := hidden hb9
            clear ho8 hg8 hb8 ho8' hb9 hlk
            go_wp2_with (at_builtin; refine append_bytes rfl (.tmp 59) (.tmp 60) rfl w7.heap.size _ nw rfl (HO9.out.alloc _) ⟨w8.heap.size, 0, none⟩ 3 [7, 0, 15] (by simp) rfl (cells_new w8 (bc [7, 0, 15]) 5) (by rw [HNL.out]; simp; omega) (by have := HB8.out.size; simp; omega) ?_)
            intro ad3 c3 w9 ho9 hg9
            have hlk : nw.length + 3 = L0 + 3 := by rw [HNL.out]
            have ho10 : w9.ownsRow w7.heap.size 5 1 (.slice (some ad3) (L0 + 3) c3) (L0 + 3) (bc (deepT (m + 1))) := by
              have e : deepT (m + 1) = nw ++ [7, 0, 15] := by rw [HNW.out]; rfl
              rw [e, ← hlk]
              simpa using ho9
            rw [hlk]
            have hb10 : Below w7.heap.size w7 w9 := below_grown (HO9.out.alloc _) (by rw [World.size_alloc]; have := HB8.out.size; omega) (HB8.out.trans (HB9.out.mono HB8.out.size)) hg9
            have HB10 := hidden hb10
            have HO10 := hidden ho10
            have hdl3 : (deepT (m + 1)).length = L0 + 3 := by
              have := ho10.1
              simpa [bc] using this
            have HDL3 := hidden hdl3
            have hsm := vsmall ⟨#[110, 117, 109]⟩ (some ad3) (L0 + 3) c3 w9
            unfold SmE at hsm
            clear ho9 hg9 hlk ho10 hdl3 hb10
            go_wp2_with fail
            refine hsm.mono ?_
            rintro e w10 ⟨fb2, eb2, rfl, h1, h2, -, h4, h5, h6⟩
            have HB11 : Hid (Below w7.heap.size w7 w10) := HB10.out.trans (h6.mono HB10.out.size)
            have hO11 : w10.ownsRow w7.heap.size 5 1 (.slice (some ad3) (L0 + 3) c3) (L0 + 3) (bc (deepT (m + 1))) := owns_same HO10.out fun g hg => h6.block g (HO10.out.lt g hg).2
            have hk3 := HK3.out.resolve_left (by omega)
            obtain ⟨q, hq⟩ : ∃ q, q = objV oth0 (fS numT 1 (deepT (m + 1))) := ⟨_, rfl⟩
            have hrun2 := vrun (F := fun g => w7.heap.size ≤ g ∧ g < w10.heap.size) (res := numT) (code := deepT (m + 1)) (r := q) h4 h5 rfl ⟨by have := HB10.out.size; omega, (Array.getElem?_eq_some_iff.1 h4).1⟩ ⟨by have := HB10.out.size; omega, (Array.getElem?_eq_some_iff.1 h5).1⟩ (byR_own (B := w7.heap.size) (by rw [HDL3.out]; exact hO11) (fun g h1 h2 => ⟨h1, h2⟩)) (fun g hg => hg.2) (by decide) (by omega) hk3.1 hq.symm
            have hq1 : q.1 = 20 := by rw [hq]; exact hk3.2
            unfold ThreeI at hrun2
            rw [hq1] at hrun2
            clear hsm h1 h2 h4 h5 h6 hO11 hk3 hq hq1
            go_wp2_with fail
            refine hrun2.mono ?_
            rintro e w11 ⟨rfl, hb12⟩
            have HB12 : Hid (Below w.heap.size w w11) := HB7.out.trans ((HB11.out.trans (hb12.mono HB11.out.size)).mono hz7)
            clear hrun2 hb12
            generalize q.2 = q2
            go_wp2_with (go_at_call 13; refine (HKN.out _).mono ?_; rintro e w12 ⟨rfl, hb13⟩)
            go_ret
            exact ⟨rfl, HB12.out.trans (hb13.mono HB12.out.size)⟩
          · rw [if_neg h48] at hrun
            have hrun' : Calls Tryz.prog 10 #[smV fb eb, .slice none 0 0] w6 fun e w' => e = .returned (.tuple #[.int .i64 20, .int .i64 0, .int .i64 144]) ∧ Below w6.heap.size w6 w' := hrun
            have hgt : (48 : Int) < 1 + (m : Int) := by omega
            clear hrun
            go_wp2_with fail
            refine hrun'.mono ?_
            rintro e w7 ⟨rfl, hb7⟩
            have HB7 : Hid (Below w.heap.size w w7) := HB6.out.trans (hb7.mono HB6.out.size)
            clear hrun' hb7
            go_wp2_with (go_at_call 13; refine (HKN.out _).mono ?_; rintro e w8 ⟨rfl, hb8⟩)
            go_ret
            exact ⟨rfl, HB7.out.trans (hb8.mono HB7.out.size)⟩
end Go.Proofs.YtdeckknfolaaeaaGreatDoor
