/-
  The Writer's methods: what each call does.
-/
import Derived.Test.YtcjddbponknnoaaGreatDoorChecked
import Derived.Test.YtcjddbponknnoaaGreatDoorWireBase
import Derived.Lib.SliceRun
namespace Go.Proofs.YtcjddbponknnoaaGreatDoor.Wire
open Go.RowKit
theorem Tryz.info5 : (Tryz.prog.info? 5).map (fun i => (i.zero, i.size, i.bytes)) = some (some (.int .u8 0), 1, 1) := by kernel_rfl

set_option maxHeartbeats 400000 in
set_option maxRecDepth 1000000 in
theorem wnumber (n b g : Nat) (l : List Nat) (w : World) (hn : n < 18446744073709551616) (hl : l.length + 10 ≤ 140737488355328) (hw : WIs w b g l) :
    Calls Tryz.prog 145 #[.pointer (some ⟨b, 0, none⟩), .int .u64 n] w fun e w' => e = .returned (.tuple #[]) ∧ ∃ g', WIs w' b g' (l ++ enc n) ∧ (g' = g ∨ w.heap.size ≤ g') ∧ Kept (fun k => k = b ∨ k = g) w w' := by
  go_enter Tryz.func145, Tryz.ntmps145
  refine wp_scope_via 0 (fun a' w' => ∃ (m g' : Nat) (l' : List Nat) (u4 u5 u6 u7 u8 u9 u10 u11 u12 u13 u14 u15 u16 u17 u18 u19 : Value), a' = { tmps := #[.pointer (some ⟨b, 0, none⟩), .int .u64 m, undef, undef, u4, u5, u6, u7, u8, u9, u10, u11, u12, u13, u14, u15, u16, u17, u18, u19, undef, undef, undef, undef, undef, undef, undef, undef, undef, undef, undef], defers := [] } ∧ m ≤ n ∧ l' ++ enc m = l ++ enc n ∧ WIs w' b g' l' ∧ (g' = g ∨ w.heap.size ≤ g') ∧ Kept (fun k => k = b ∨ k = g) w w') (fun a' _ => (intOf (a'.tmps.getD 1 undef)).toNat) rfl ?_ ?_
  · intro hp
    exact wp_seq (wp_label (hp _ _ ⟨n, g, l, _, _, _, _, _, _, _, _, _, _, _, _, _, _, _, _, rfl, Nat.le_refl _, rfl, hw, Or.inl rfl, Kept.refl _ _⟩))
  · rintro a' w' ⟨m, g', l', u4, u5, u6, u7, u8, u9, u10, u11, u12, u13, u14, u15, u16, u17, u18, u19, rfl, hm, he, ⟨v, hb, hv, hvb, hgs⟩, hg, hk⟩
    have hc0 := hb.cell 0
    have hf0 := hb.frozen 0
    simp only [List.getElem?_toArray, List.getElem?_cons_zero] at hc0
    have hll : l'.length + 1 ≤ 140737488355328 := by
      have e1 := congrArg List.length he
      have e2 := enc_pos m
      have e3 := enc_ten n hn
      simp only [List.length_append] at e1
      omega
    have HE : Hid (l' ++ enc m = l ++ enc n) := he
    clear he
    by_cases hlt : 128 ≤ m
    · go_wp2_with (at_builtin; refine wpList_append_row _ rfl (.tmp 10) (.tmp 14) 42 42 rfl Tryz.underlying42 Tryz.info5 v g' l' rfl (hv.alloc _) _ 1 [m % 128 + 128] rfl ?src ?len ?next)
      case src =>
        refine Src.ofSlice _ Tryz.underlying42 _ 1 1 _ rfl ?_ (bs_one _)
        simp only [bs, List.map_cons, List.map_nil, ← low_byte]
        exact cell_one_new _ _ _
      case len => simpa using hll
      case next =>
        intro v' w1 g1 hv' hg1 hat hgr hnil
        obtain ⟨hb1, hw2, hg2, hk2⟩ := WIs.step (hb.alloc _) (hv.alloc _) hvb (by simp; omega) hgr hv' (by simpa using hat) (by simpa using hg1) hg (hk.alloc _)
        have hc1 := hb1.cell 0
        have hf1 := hb1.frozen 0
        simp only [List.getElem?_toArray, List.getElem?_cons_zero] at hc1
        obtain ⟨cap, rfl⟩ : ∃ cap, v' = .slice (some ⟨g1, 0, none⟩) (l'.length + 1) cap := by
          rcases hv'.shape with ⟨h, _⟩ | ⟨cap, h, _⟩
          · exact absurd h hnil
          · exact ⟨cap, by simpa using h⟩
        clear hnil hat hgr
        go_wp2
        rw [show (m : Int) / 128 = ((m / 128 : Nat) : Int) from by omega]
        refine wp_goto ⟨rfl, ⟨m / 128, g1, _, _, _, _, _, _, _, _, _, _, _, _, _, _, _, _, _, rfl, by omega, ?_, hw2, hg2, hk2⟩, ?_⟩
        · rw [← HE.out, enc_big hlt, List.append_assoc]; rfl
        · simp [intOf]; omega
    · go_wp2_with (at_builtin; refine wpList_append_row _ rfl (.tmp 24) (.tmp 27) 42 42 rfl Tryz.underlying42 Tryz.info5 v g' l' rfl (hv.alloc _) _ 1 [m] rfl ?src ?len ?next)
      case src =>
        refine Src.ofSlice _ Tryz.underlying42 _ 1 1 _ rfl ?_ (bs_one _)
        simp only [bs, List.map_cons, List.map_nil]
        exact cell_one_new _ _ _
      case len => simpa using hll
      case next =>
        intro v' w1 g1 hv' hg1 hat hgr hnil
        obtain ⟨hb1, hw2, hg2, hk2⟩ := WIs.step (hb.alloc _) (hv.alloc _) hvb (by simp; omega) hgr hv' (by simpa using hat) (by simpa using hg1) hg (hk.alloc _)
        have hc1 := hb1.cell 0
        have hf1 := hb1.frozen 0
        simp only [List.getElem?_toArray, List.getElem?_cons_zero] at hc1
        obtain ⟨cap, rfl⟩ : ∃ cap, v' = .slice (some ⟨g1, 0, none⟩) (l'.length + 1) cap := by
          rcases hv'.shape with ⟨h, _⟩ | ⟨cap, h, _⟩
          · exact absurd h hnil
          · exact ⟨cap, by simpa using h⟩
        clear hnil hat hgr
        go_wp2
        simp only [Exit.jump]
        go_end0
        refine ⟨rfl, g1, ?_, hg2, hk2⟩
        rw [← HE.out, enc_small (by omega)]
        exact hw2

theorem newwriter (w : World) : Calls Tryz.prog 41 #[] w fun e w' => ∃ b, e = .returned (.pointer (some ⟨b, 0, none⟩)) ∧ WIs w' b b [] ∧ w.heap.size ≤ b ∧ Kept (fun _ => False) w w' := by
  go_enter Tryz.func41, Tryz.ntmps41
  go_wp2
  go_ret
  exact ⟨w.heap.size, rfl, ⟨.slice none 0 0, ⟨150, heap_alloc_new w _⟩, Row.nil _ _, by simp [Value.ownBlock], by simp⟩, Nat.le_refl _, (Kept.refl _ w).alloc _⟩

set_option maxHeartbeats 400000 in
set_option maxRecDepth 1000000 in
theorem clone (v : Value) (b : Nat) (l : List Nat) (w : World) (hl : l.length ≤ 140737488355328) (hv : Rd w b v l) :
    Calls Tryz.prog 105 #[v] w fun e w' => ∃ v' g, e = .returned v' ∧ Row w' g v' l ∧ w.heap.size ≤ g ∧ Kept (fun _ => False) w w' := by
  have q24 : ∀ (w : World) (a : Option Addr) (n c n' c' : Nat), (binOp .eql 42 (.slice a n c) (.slice none n' c')).run Tryz.prog w = .ok (.bool a.isNone) w := fun w a n c n' c' => Lib.run_eql_slice_nil w 42 5 a n c n' c' Tryz.underlying42
  rcases hv with ⟨rfl, rfl⟩ | ⟨a, cap, rfl, h2, h3⟩
  · go_enter Tryz.func105, Tryz.ntmps105
    go_wp2
    go_ret
    exact ⟨_, w.heap.size, rfl, Row.nil _ _, Nat.le_refl _, Kept.refl _ _⟩
  · have hrow := Row.lit w [] (by simp)
    go_enter Tryz.func105, Tryz.ntmps105
    go_wp2_with (at_builtin; refine wpList_append_row _ rfl (.tmp 5) (.tmp 6) 42 42 rfl Tryz.underlying42 Tryz.info5 _ _ [] rfl hrow _ l.length l rfl ?src ?len ?next)
    case src => exact (Rd.alloc (.inr ⟨a, cap, rfl, h2, h3⟩) _).src Tryz.underlying42
    case len => simpa using hl
    case next =>
      intro v' w1 g1 hv' hg1 hat hgr hnil
      have hk : Kept (fun _ => False) w w1 := ((Kept.refl _ w).alloc _).grown hgr (by intro k hk h; simp [Value.ownBlock] at hk; omega)
      obtain ⟨cap', rfl⟩ : ∃ cap', v' = .slice (some ⟨g1, 0, none⟩) l.length cap' := by
        rcases hv'.shape with ⟨h, _⟩ | ⟨cap', h, _⟩
        · exact absurd h hnil
        · exact ⟨cap', h⟩
      clear hnil hat hgr
      go_wp2
      go_ret
      exact ⟨_, g1, rfl, hv', by omega, hk⟩

set_option maxHeartbeats 400000 in
set_option maxRecDepth 1000000 in
theorem wdone (b g : Nat) (l : List Nat) (w : World) (hl : l.length ≤ 140737488355328) (hw : WIs w b g l) :
    Calls Tryz.prog 43 #[.pointer (some ⟨b, 0, none⟩)] w fun e w' => ∃ v' g', e = .returned v' ∧ Row w' g' v' l ∧ w.heap.size ≤ g' ∧ Kept (fun _ => False) w w' := by
  obtain ⟨v, hb, hv, hvb, hgs⟩ := hw
  have hc0 := hb.cell 0
  simp only [List.getElem?_toArray, List.getElem?_cons_zero] at hc0
  go_enter Tryz.func43, Tryz.ntmps43
  go_wp2_with fail
  refine (clone v g l _ hl hv.rd).mono ?_
  rintro e w' ⟨v', g', rfl, h1, h2, h3⟩
  obtain ⟨a', c', rfl⟩ := h1.rd.shape
  go_wp2
  go_ret
  exact ⟨_, g', rfl, h1, h2, h3⟩

set_option maxHeartbeats 400000 in
set_option maxRecDepth 1000000 in
theorem wtext (s : ByteArray) (b g : Nat) (l : List Nat) (w : World) (hl : l.length + s.size + 10 ≤ 140737488355328) (hw : WIs w b g l) :
    Calls Tryz.prog 93 #[.pointer (some ⟨b, 0, none⟩), .string s] w fun e w' => e = .returned (.tuple #[]) ∧ ∃ g', WIs w' b g' (l ++ enc s.size ++ s.data.toList.map UInt8.toNat) ∧ (g' = g ∨ w.heap.size ≤ g') ∧ Kept (fun k => k = b ∨ k = g) w w' := by
  have hsz : s.size ≤ 140737488355328 := by omega
  have hten := enc_ten s.size (by omega)
  go_enter Tryz.func93, Tryz.ntmps93
  go_wp2_with fail
  refine (wnumber s.size b g l _ (by omega) (by omega) hw).mono ?_
  rintro e w1 ⟨rfl, g1, ⟨v, hb, hv, hvb, hgs⟩, hg1, hk1⟩
  have hc0 := hb.cell 0
  simp only [List.getElem?_toArray, List.getElem?_cons_zero] at hc0
  go_wp2_with (at_builtin; refine wpList_append_row _ rfl (.tmp 13) (.tmp 14) 42 9 rfl Tryz.underlying42 Tryz.info5 v g1 (l ++ enc s.size) rfl hv _ s.size (s.data.toList.map UInt8.toNat) rfl ?src ?len ?next)
  case src =>
    have e : bs (s.data.toList.map UInt8.toNat) = byteCells s := by simp [bs, byteCells]
    rw [e]
    exact Src.ofString w1 Tryz.underlying9 s
  case len => simp; have : s.data.size = s.size := rfl; omega
  case next =>
    intro v' w2 g2 hv' hg2 hat hgr hnil
    obtain ⟨hb1, hw2, hg3, hk2⟩ := WIs.step hb hv hvb hgs hgr hv' hat hg2 hg1 hk1
    have hc1 := hb1.cell 0
    have hf1 := hb1.frozen 0
    simp only [List.getElem?_toArray, List.getElem?_cons_zero] at hc1
    obtain ⟨a', n', c', rfl⟩ : ∃ a n c, v' = .slice a n c := by
      obtain ⟨a, c, h⟩ := hv'.rd.shape
      exact ⟨a, _, c, h⟩
    clear hnil hat hgr
    go_wp2
    go_end0
    rw [List.append_assoc]
    exact ⟨rfl, g2, hw2, hg3, hk2⟩

set_option maxHeartbeats 400000 in
set_option maxRecDepth 1000000 in
theorem wraw (v0 : Value) (b0 : Nat) (l0 : List Nat) (b g : Nat) (l : List Nat) (w : World) (hl : l.length + l0.length ≤ 140737488355328) (hw : WIs w b g l) (hr : Rd w b0 v0 l0) :
    Calls Tryz.prog 149 #[.pointer (some ⟨b, 0, none⟩), v0] w fun e w' => e = .returned (.tuple #[]) ∧ ∃ g', WIs w' b g' (l ++ l0) ∧ (g' = g ∨ w.heap.size ≤ g') ∧ Kept (fun k => k = b ∨ k = g) w w' := by
  obtain ⟨v, hb, hv, hvb, hgs⟩ := hw
  have hc0 := hb.cell 0
  simp only [List.getElem?_toArray, List.getElem?_cons_zero] at hc0
  go_enter Tryz.func149, Tryz.ntmps149
  go_wp2_with (at_builtin; refine wpList_append_row _ rfl (.tmp 8) (.tmp 9) 42 42 rfl Tryz.underlying42 Tryz.info5 v g l rfl hv _ l0.length l0 rfl ?src ?len ?next)
  case src => exact hr.src Tryz.underlying42
  case len => exact hl
  case next =>
    intro v' w2 g2 hv' hg2 hat hgr hnil
    obtain ⟨hb1, hw2, hg3, hk2⟩ := WIs.step hb hv hvb hgs hgr hv' hat hg2 (Or.inl rfl) (Kept.refl _ w)
    have hc1 := hb1.cell 0
    have hf1 := hb1.frozen 0
    simp only [List.getElem?_toArray, List.getElem?_cons_zero] at hc1
    obtain ⟨a', n', c', rfl⟩ : ∃ a n c, v' = .slice a n c := by
      obtain ⟨a, c, h⟩ := hv'.rd.shape
      exact ⟨a, _, c, h⟩
    clear hnil hat hgr
    go_wp2
    go_end0
    exact ⟨rfl, g2, hw2, hg3, hk2⟩
end Go.Proofs.YtcjddbponknnoaaGreatDoor.Wire
