/-
  Encode, where what formed and writeHead answer of the instructions is known, and none that may be written goes anywhere.
-/
import Derived.Test.YtbhcmhbicbhgmaaCodeForm
import Derived.Test.YtbhcmhbicbhgmaaCodeHead
import Derived.Test.YtbhcmhbicbhgmaaCodeDec
namespace Go.Proofs.Ytbhcmhbicbhgmaa.Wire
open Go.RowKit

set_option maxHeartbeats 1000000 in
set_option maxRecDepth 1000000 in
theorem cappend (v : Value) (a : Option Addr) (n c : Nat) (hv : v = .slice a n c) (bh : Int) (ta : Option Addr) (tc : Nat) (w : World) : Calls Try.prog 25 #[v, .int .i64 bh, .slice ta 0 tc] w fun e w' => e = .returned v ∧ w' = w := by
  subst hv
  go_enter Try.func25, Try.ntmps25
  go_wp2
  go_loopg [0, 11] 0 (fun gk ov i wr => gk = 0 ∧ ov = .slice a n c ∧ i = .int .i64 0 ∧ wr = w)
  case atStart => exact ⟨rfl, rfl, rfl, rfl⟩
  case round =>
    obtain ⟨_, rfl, rfl, rfl⟩ := hrel
    go_wp2
    go_ret
    exact ⟨rfl, rfl⟩
/-- What Encode leaves. -/
def EncE (R : Nat × List Nat) (w : World) (e : Ending) (w' : World) : Prop :=
  ∃ v g, e = .returned (.tuple #[v, .int .i64 (R.1 : Nat)]) ∧ Row w' g v R.2 ∧ w.heap.size ≤ g ∧ Kept (fun _ => False) w w'
/-- What must be known of each of them. -/
structure EOk (i : Ins) : Prop where
  form : FC i
  head : formR i = true → WC i
  long : (headR i).length ≤ 300
  ways : i.tos = [] ∨ (i.tos.length ≤ 10 ∧ ∀ e : Nat, reachR ((e + (headR i).length + 2 * i.tos.length : Nat) : Int) i.tos = false)

set_option maxHeartbeats 2000000 in
set_option maxRecDepth 1000000 in
theorem cencode (F : Nat → Prop) (v : Value) (l : List Ins) (w : World) (hR : InsR F w v l) (hF : ∀ g, F g → g < w.heap.size) (hl : l.length ≤ 1000) (hok : ∀ i ∈ l, EOk i) : Calls Try.prog 8 #[v] w (EncE (encodeR l) w) := by
  obtain ⟨va, vc, rfl⟩ := hR.shape
  go_enter Try.func8, Try.ntmps8
  go_wp2
  go_loopg [4, 5, 12] l.length (fun gk ov ev i wr => ∃ (k e g : Nat) (out : List Nat), gk + k = l.length ∧ i = .int .i64 k ∧ ev = .int .i64 e ∧ e ≤ k * 320 ∧ Row wr g ov out ∧ w.heap.size ≤ g ∧ out.length ≤ k * 320 ∧ (e ≤ 2048 → out.length ≤ e) ∧ Kept (fun _ => False) w wr ∧ finE out (encR (l.drop k) e) = encodeR l)
  case atStart => exact ⟨0, 0, w.heap.size, [], rfl, rfl, rfl, Nat.le_refl _, Row.nil _ _, Nat.le_refl _, Nat.le_refl _, fun _ => Nat.zero_le _, Kept.refl _ _, rfl⟩
  case round =>
    obtain ⟨k, e, g, out, hgk, rfl, rfl, he, hO, hg, hol, hol2, hK, hE⟩ := hrel
    have hzr := hK.size
    by_cases hk : k < l.length
    · have hRr := hR.kept hK (fun g hg => ⟨hF g hg, fun h => h⟩)
      obtain ⟨ga, o, cap, tv, hv, hcap, hT, q0, q1, q2, q3, q4, q5, q6⟩ := hRr.at k hk
      simp only [Value.slice.injEq, true_and] at hv
      obtain ⟨rfl, rfl⟩ := hv
      have hX := hok l[k] (List.getElem_mem hk)
      rw [List.drop_eq_getElem_cons hk] at hE
      generalize l[k] = X at *
      have HE := hidden hE
      clear hE
      obtain ⟨hbx, K4⟩ := box_new wr X tv
      have h1c := insC_one hT
      have hzz := zIns_heap wr
      have hT4 : IwR F ((wr.alloc (.cells #[.int .i64 0, .int .i64 0, .int .i64 0, .int .i64 0, .complex .f64 0 0, .string ⟨#[]⟩, .slice none 0 0] 34)).setRow wr.heap.size (insC X tv)) tv X.tos := hT.frame fun z hz => ⟨hz, K4.block z (by have := hF z hz; omega) (fun h => h)⟩
      have hO4 := hO.kept K4 (fun _ h => h)
      have hK4 := hK.trans K4 (fun _ _ h => h) (fun _ _ h => h)
      have hz4 := K4.size
      obtain ⟨c0, c1, c2, c3, c4, c5, c6⟩ := hbx.cells
      have hfc := hX.form F tv _ hT4
      obtain ⟨oa, oc, rfl⟩ := hO.rd.shape
      have HGK := hidden hgk
      have HOW : Hid (∀ z, (Value.slice oa out.length oc).ownBlock = some z → z < wr.heap.size ∧ z = g) := fun z hz => ⟨hO.lt hz, by rcases hO.2 with h | h <;> rw [h] at hz <;> simp at hz; exact hz.symm⟩
      clear hgk hRr
      go_wp2_with (refine wpList_store_row rfl 34 (.tmp 7) (.tmp 15) rfl wr.heap.size (insC X tv) rfl rfl 34 #[.int .i64 0, .int .i64 0, .int .i64 0, .int .i64 0, .complex .f64 0 0, .string ⟨#[]⟩, .slice none 0 0] hzz sizeIns rfl h1c ?_)
      clear hzz q0 q1 q2 q3 q4 q5 q6 hT hO hK
      generalize (wr.alloc (.cells #[.int .i64 0, .int .i64 0, .int .i64 0, .int .i64 0, .complex .f64 0 0, .string ⟨#[]⟩, .slice none 0 0] 34)).setRow wr.heap.size (insC X tv) = W4 at *
      refine hfc.mono ?_
      rintro e0 w5 ⟨rfl, K5⟩
      clear hfc c0 c1 c2 c3 c4 c5 c6
      by_cases hf : formR X = true
      · rw [hf]
        have hbx5 := hbx.kept K5 (fun h => h)
        have hO5 := hO4.kept K5 (fun _ h => h)
        have hK5 := hK4.trans K5 (fun _ _ h => h) (fun _ _ h => h)
        have hz5 := K5.size
        have hT5 : IwR F w5 tv X.tos := hT4.frame fun z hz => ⟨hz, K5.block z (by have := hF z hz; omega) (fun h => h)⟩
        obtain ⟨c0, c1, c2, c3, c4, c5, c6⟩ := hbx5.cells
        have hhc := hX.head hf F tv w5 hT5
        have hlong := hX.long
        have hways := hX.ways
        obtain ⟨tca, tcc, rfl⟩ := hT5.shape
        clear hT4 hO4 hK4 hbx hX
        go_wp2_with fail
        refine hhc.mono ?_
        rintro e0 w6 ⟨hv6, g6, rfl, hH6, hg6, K6⟩
        have hbx6 := hbx5.kept K6 (fun h => h)
        have hO6 := hO5.kept K6 (fun _ h => h)
        have hK6 := hK5.trans K6 (fun _ _ h => h) (fun _ _ h => h)
        have hz6 := K6.size
        have hT6 : IwR F w6 (.slice tca X.tos.length tcc) X.tos := hT5.frame fun z hz => ⟨hz, K6.block z (by have := hF z hz; omega) (fun h => h)⟩
        obtain ⟨d0, d1, d2, d3, d4, d5, d6⟩ := hbx6.cells
        obtain ⟨ha6, hc6, rfl⟩ := hH6.rd.shape
        have hto10 : X.tos.length ≤ 10 := by
          rcases hways with h | h
          · rw [h]; exact Nat.zero_le _
          · exact h.1
        have hrc : ∀ bh : Int, bh = ((e + (headR X).length + 2 * X.tos.length : Nat) : Int) → Calls Try.prog 24 #[.int .i64 bh, .slice tca X.tos.length tcc] w6 fun e0 w' => e0 = .returned (.bool (reachR ((e + (headR X).length + 2 * X.tos.length : Nat) : Int) X.tos)) ∧ w' = w6 := fun bh hb => by
          subst hb
          exact creaches F _ _ X.tos w6 (by omega) (by omega) (by omega) hT6
        have HRC := hidden hrc
        clear hhc hT5 hO5 hK5 hbx5 c0 c1 c2 c3 c4 c5 c6 hrc
        by_cases hpe : X.pl = (e : Int)
        · rcases hways with hnil | ⟨_, hno⟩
          · have hrt : reachR ((e + (headR X).length + 2 * X.tos.length : Nat) : Int) X.tos = true := by rw [hnil]; rfl
            rw [hrt] at HRC
            have hnx := finE_next X (l.drop (k + 1)) out e hf hpe hrt
            have hlg := fun h => finE_long X (l.drop (k + 1)) out out e hf hpe hrt h
            rw [hnil] at hnx hlg HRC d6 hT6
            simp only [List.flatMap_nil, List.append_nil, List.length_nil, Nat.mul_zero, Nat.add_zero] at hnx hlg HRC d6
            have HNX := hidden hnx
            have HLG := hidden hlg
            clear hnx hlg hnil hrt hto10
            go_wp2_with fail
            refine (HRC.out _ (by omega)).mono ?_
            rintro e0 w7 ⟨rfl, rfl⟩
            clear HRC
            by_cases hbig : 2048 < e + (headR X).length
            · have HL := hidden (HLG.out hbig)
              clear HNX HLG
              go_wp2
              go_roundg (l.length - (k + 1))
              case measure => have := HGK.out; omega
              case rel => exact ⟨k + 1, e + (headR X).length, g, out, by omega, by go_num, by go_num, by omega, hO6, hg, by omega, fun h => by omega, hK6, by rw [← HL.out]; exact HE.out⟩
            · clear HLG
              have hob := hol2 (by omega)
              have HE6 : Hid (∀ u, Kept (fun z => (Value.slice oa out.length oc).ownBlock = some z) w7 u → u.cell? ⟨wr.heap.size, 6, none⟩ = some (.slice tca 0 tcc)) := fun u ku => ku.cell d6 (fun h => by have h2 : wr.heap.size < wr.heap.size := (HOW.out _ h).1; omega)
              go_wp2_with (at_builtin; refine wpList_append_row _ rfl (.tmp 44) (.tmp 45) 28 28 rfl Try.underlying28 Try.info5 _ g out rfl hO6 _ (headR X).length (headR X) rfl ?src ?len ?next)
              case src => exact hH6.rd.src Try.underlying28
              case len => omega
              case next =>
                intro v' w8 g1 hv' hg1 hat hgr hnl
                have K8 : Kept (fun z => (Value.slice oa out.length oc).ownBlock = some z) w7 w8 := (Kept.refl _ w7).grown hgr (fun k e _ => e)
                have hK8 := hK6.trans K8 (fun _ _ h => h) (fun x hx h => by have := HOW.out _ h; omega)
                have e6 : w8.cell? ⟨wr.heap.size, 6, none⟩ = some (.slice tca 0 tcc) := by
                  exact HE6.out w8 K8
                have hg8 : w.heap.size ≤ g1 := by
                  have := hK6.size
                  omega
                obtain ⟨va8, n8, vc8, rfl⟩ : ∃ a n c, v' = .slice a n c := by
                  obtain ⟨a, c, h⟩ := hv'.rd.shape
                  exact ⟨a, _, c, h⟩
                have hca := cappend (.slice va8 n8 vc8) va8 _ vc8 rfl ((e : Int) + (headR X).length) tca tcc w8
                clear hnl hat hgr d0 d1 d2 d3 d4 d5 d6 hO6 hH6
                go_wp2_with fail
                refine hca.mono ?_
                rintro e0 w9 ⟨rfl, rfl⟩
                go_wp2
                go_roundg (l.length - (k + 1))
                case measure => have := HGK.out; omega
                case rel => exact ⟨k + 1, e + (headR X).length, g1, out ++ headR X, by omega, by go_num, by go_num, by omega, hv', hg8, by rw [List.length_append]; omega, fun h => by rw [List.length_append]; omega, hK8, by rw [← HNX.out]; exact HE.out⟩
          · have HX := hidden (finE_jump X (l.drop (k + 1)) out e hf (.inr (hno e)))
            rw [hno e] at HRC
            clear hno
            go_wp2_with fail
            refine (HRC.out _ (by omega)).mono ?_
            rintro e0 w7 ⟨rfl, rfl⟩
            go_wp2
            go_ret2
            rw [← HE.out, HX.out]
            exact ⟨_, w.heap.size, rfl, Row.nil _ _, Nat.le_refl _, hK6⟩
        · have HX := hidden (finE_jump X (l.drop (k + 1)) out e hf (.inl hpe))
          go_wp2
          go_ret2
          rw [← HE.out, HX.out]
          exact ⟨_, w.heap.size, rfl, Row.nil _ _, Nat.le_refl _, hK6⟩
      · rw [Bool.not_eq_true] at hf
        rw [hf]
        have HX := hidden (finE_form X (l.drop (k + 1)) out e hf)
        go_wp2
        go_ret2
        rw [← HE.out, HX.out]
        exact ⟨_, w.heap.size, rfl, Row.nil _ _, Nat.le_refl _, hK4.trans K5 (fun _ _ h => h) (fun _ _ h => h)⟩
    · have hkn : l.drop k = [] := List.drop_eq_nil_of_le (by omega)
      rw [hkn, finE_end] at hE
      have HE := hidden hE
      clear hE
      obtain ⟨oa, oc, rfl⟩ := hO.rd.shape
      have hk2 : l.length ≤ k := by omega
      by_cases hlong : 2048 < e
      · have HL : Hid ((if 2048 < e then (3, []) else (0, out)) = ((3, []) : Nat × List Nat)) := by unfold Hid; rw [if_pos hlong]
        go_wp2
        go_ret2
        rw [← HE.out, HL.out]
        exact ⟨_, w.heap.size, rfl, Row.nil _ _, Nat.le_refl _, hK⟩
      · have HL : Hid ((if 2048 < e then (3, []) else (0, out)) = ((0, out) : Nat × List Nat)) := by unfold Hid; rw [if_neg hlong]
        go_wp2
        go_ret2
        rw [← HE.out, HL.out]
        exact ⟨_, g, rfl, hO, hg, hK⟩
end Go.Proofs.Ytbhcmhbicbhgmaa.Wire
