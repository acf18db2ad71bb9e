/-
  The reference's writers: what each call does.
-/
import Derived.Test.YtbheccioeiemfaaMath
import Derived.Deep.LoopGhost
namespace Go.Proofs.Ytbheccioeiemfaa
open Go.RowKit

set_option maxHeartbeats 800000 in
set_option maxRecDepth 1000000 in
theorem refnumber (v : Value) (b0 : Nat) (l : List Nat) (n : Nat) (w : World) (hl : l.length + 10 ≤ 140737488355328) (hn : n < 18446744073709551616) (hv : Rd w b0 v l) :
    Calls Try.prog 20 #[v, .int .u64 n] w fun e w' => ∃ v' g, e = .returned v' ∧ Row w' g v' (l ++ enc n) ∧ w.heap.size ≤ g ∧ Kept (fun _ => False) w w' := by
  have hrow := Row.lit w [] (by simp)
  have hten := enc_ten n hn
  obtain ⟨ao, c0, hsh⟩ := hv.shape
  subst hsh
  go_enter Try.func20, Try.ntmps20
  go_wp2_with (at_builtin; refine wpList_append_row _ rfl (.tmp 6) (.tmp 7) 24 24 rfl Try.underlying24 Try.info5 _ _ [] rfl hrow _ l.length l rfl ?src ?len ?next)
  case src => exact (hv.alloc _).src Try.underlying24
  case len => simp; omega
  case next =>
    intro v1 w1 g1 hv1 hg1 hat hgr hnil
    have hk1 : Kept (fun _ => False) w w1 := ((Kept.refl _ w).alloc _).grown hgr (by intro k hk h; simp [Value.ownBlock] at hk; omega)
    obtain ⟨c1, rfl⟩ : ∃ c, v1 = .slice (some ⟨g1, 0, none⟩) l.length c := by
      rcases hv1.shape with ⟨h, _⟩ | ⟨c, h, _⟩
      · exact absurd h hnil
      · exact ⟨c, h⟩
    have hgz : w.heap.size ≤ g1 := by omega
    clear hnil hat hgr hg1 hv hrow
    go_wp2
    go_loopg [1, 5] n (fun gk i o wr => ∃ (c g : Nat) (l' : List Nat), gk ≤ n ∧ i = .int .u64 gk ∧ o = .slice (some ⟨g, 0, none⟩) l'.length c ∧ Hid (l' ++ enc gk = l ++ enc n) ∧ Row wr g o l' ∧ w.heap.size ≤ g ∧ Kept (fun _ => False) w wr)
    case atStart => exact ⟨c1, g1, l, Nat.le_refl _, rfl, rfl, rfl, hv1, hgz, hk1⟩
    case round =>
      obtain ⟨c, g, l', hgn, rfl, rfl, HE, hr, hg, hK⟩ := hrel
      clear hv1 hgz hk1
      have hll : l'.length + 1 ≤ 140737488355328 := by
        have e1 := congrArg List.length HE.out
        have e2 := enc_pos gk
        simp only [List.length_append] at e1
        omega
      by_cases hlt : 128 ≤ gk
      · go_wp2_with (at_builtin; refine wpList_append_row _ rfl (.tmp 11) (.tmp 16) 24 24 rfl Try.underlying24 Try.info5 _ g l' rfl (hr.alloc _) _ 1 [gk % 128 + 128] rfl ?src ?len ?next)
        case src =>
          refine Src.ofSlice _ Try.underlying24 _ 1 1 _ rfl ?_ (bs_one _)
          simp only [bs, List.map_cons, List.map_nil]
          rw [show ((gk % 128 + 128 : Nat) : Int) = (gk : Int) % 128 + 128 by omega]
          exact cell_one_new _ _ _
        case len => simpa using hll
        case next =>
          intro v2 w2 g2 hv2 hg2 hat hgr hnil
          have hK2 : Kept (fun _ => False) w w2 := (hK.alloc _).grown hgr (by intro k hk h; simp [Value.ownBlock] at hk; omega)
          have hsz := hK.size
          obtain ⟨c2, rfl⟩ : ∃ c, v2 = .slice (some ⟨g2, 0, none⟩) (l'.length + 1) c := by
            rcases hv2.shape with ⟨h, _⟩ | ⟨c, h, _⟩
            · exact absurd h hnil
            · exact ⟨c, by simpa using h⟩
          have hgz2 : w.heap.size ≤ g2 := by omega
          clear hnil hat hgr hg2
          go_wp2
          go_roundg (gk / 128)
          case measure => omega
          case rel =>
            refine ⟨c2, g2, l' ++ [gk % 128 + 128], by omega, by go_num, by simp, ?_, ?_, hgz2, hK2⟩
            · show _ = _
              rw [← HE.out, enc_big hlt, List.append_assoc]; rfl
            · simpa using hv2
      · go_wp2_with (at_builtin; refine wpList_append_row _ rfl (.tmp 20) (.tmp 23) 24 24 rfl Try.underlying24 Try.info5 _ g l' rfl (hr.alloc _) _ 1 [gk] rfl ?src ?len ?next)
        case src =>
          refine Src.ofSlice _ Try.underlying24 _ 1 1 _ rfl ?_ (bs_one _)
          simp only [bs, List.map_cons, List.map_nil]
          exact cell_one_new _ _ _
        case len => simpa using hll
        case next =>
          intro v2 w2 g2 hv2 hg2 hat hgr hnil
          have hK2 : Kept (fun _ => False) w w2 := (hK.alloc _).grown hgr (by intro k hk h; simp [Value.ownBlock] at hk; omega)
          have hsz := hK.size
          obtain ⟨c2, rfl⟩ : ∃ c, v2 = .slice (some ⟨g2, 0, none⟩) (l'.length + 1) c := by
            rcases hv2.shape with ⟨h, _⟩ | ⟨c, h, _⟩
            · exact absurd h hnil
            · exact ⟨c, by simpa using h⟩
          have hgz2 : w.heap.size ≤ g2 := by omega
          clear hnil hat hgr hg2
          go_wp2
          go_ret
          refine ⟨_, g2, rfl, ?_, hgz2, hK2⟩
          rw [← HE.out, enc_small (by omega)]
          exact hv2

set_option maxHeartbeats 400000 in
set_option maxRecDepth 1000000 in
theorem refsigned (v : Value) (b0 : Nat) (l : List Nat) (n : Int) (w : World) (hl : l.length + 10 ≤ 140737488355328) (h0 : -9223372036854775808 ≤ n) (h1 : n < 9223372036854775808) (hv : Rd w b0 v l) :
    Calls Try.prog 22 #[v, .int .i64 n] w fun e w' => ∃ v' g, e = .returned v' ∧ Row w' g v' (l ++ enc (zig n)) ∧ w.heap.size ≤ g ∧ Kept (fun _ => False) w w' := by
  have hz := zig_lt n h0 h1
  have hcall := refnumber v b0 l (zig n) w hl hz hv
  by_cases hn : n < 0
  · have E : Hid ((-(n + 1)) * 2 + 1 = (zig n : Int)) := by unfold Hid zig; rw [if_pos hn]; omega
    go_enter Try.func22, Try.ntmps22
    go_wp2_with fail
    rw [E.out]
    refine hcall.mono ?_
    rintro e w' ⟨v', g, rfl, hr, hg, hk⟩
    obtain ⟨a', n', c', rfl⟩ : ∃ a n c, v' = .slice a n c := by
      obtain ⟨a, c, h⟩ := hr.rd.shape
      exact ⟨a, _, c, h⟩
    go_wp2
    go_ret
    exact ⟨_, g, rfl, hr, hg, hk⟩
  · have E : Hid (n * 2 = (zig n : Int)) := by unfold Hid zig; rw [if_neg hn]; omega
    go_enter Try.func22, Try.ntmps22
    go_wp2_with fail
    rw [E.out]
    refine hcall.mono ?_
    rintro e w' ⟨v', g, rfl, hr, hg, hk⟩
    obtain ⟨a', n', c', rfl⟩ : ∃ a n c, v' = .slice a n c := by
      obtain ⟨a, c, h⟩ := hr.rd.shape
      exact ⟨a, _, c, h⟩
    go_wp2
    go_ret
    exact ⟨_, g, rfl, hr, hg, hk⟩

set_option maxHeartbeats 400000 in
set_option maxRecDepth 1000000 in
theorem reftext (v : Value) (b0 : Nat) (l : List Nat) (s : ByteArray) (w : World) (hl : l.length + s.size + 10 ≤ 140737488355328) (hv : Rd w b0 v l) :
    Calls Try.prog 24 #[v, .string s] w fun e w' => ∃ v' g, e = .returned v' ∧ Row w' g v' (l ++ enc s.size ++ s.data.toList.map UInt8.toNat) ∧ w.heap.size ≤ g ∧ Kept (fun _ => False) w w' := by
  have hten := enc_ten s.size (by omega)
  have hsz : s.size ≤ 140737488355328 := by omega
  go_enter Try.func24, Try.ntmps24
  go_wp2_with fail
  refine (refnumber v b0 l s.size w (by omega) (by omega) hv).mono ?_
  rintro e w1 ⟨v1, g1, rfl, h1, hg1, hk1⟩
  have hsz1 := hk1.size
  go_wp2_with (at_builtin; refine wpList_append_row _ rfl (.tmp 9) (.tmp 10) 24 9 rfl Try.underlying24 Try.info5 v1 g1 (l ++ enc s.size) rfl h1 _ s.size (s.data.toList.map UInt8.toNat) rfl ?src ?len ?next)
  case src =>
    have e : bs (s.data.toList.map UInt8.toNat) = byteCells s := by simp [bs, byteCells]
    rw [e]
    exact Src.ofString w1 Try.underlying9 s
  case len => simp; have : s.data.size = s.size := rfl; omega
  case next =>
    intro v2 w2 g2 hv2 hg2 hat hgr hnil
    have hK2 : Kept (fun _ => False) w w2 := hk1.grown hgr (by
      intro k hk h
      rcases h1.2 with e | e
      · rw [e] at hk; simp at hk
      · rw [e] at hk; simp at hk; omega)
    obtain ⟨a2, n2, c2, rfl⟩ : ∃ a n c, v2 = .slice a n c := by
      obtain ⟨a, c, h⟩ := hv2.rd.shape
      exact ⟨a, _, c, h⟩
    clear hnil hat hgr
    go_wp2
    go_ret
    refine ⟨_, g2, rfl, ?_, by omega, hK2⟩
    rw [List.append_assoc]
    simpa using hv2
end Go.Proofs.Ytbheccioeiemfaa
