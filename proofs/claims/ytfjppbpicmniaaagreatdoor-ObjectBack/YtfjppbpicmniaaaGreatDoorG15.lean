/-
  'number', the inner reader of one number: what the call answers.
  And: The Writer's methods: what each call does.
-/
import Derived.Test.YtfjppbpicmniaaaGreatDoorChecked
import Derived.Test.YtfjppbpicmniaaaGreatDoorG12
import Derived.Lib.SliceRun
namespace Go.Proofs.YtfjppbpicmniaaaGreatDoor.Wire
open Go.RowKit

/-- What a number's bytes tell, from byte k on, with what was told before: the number, its size, the refusal. -/
def decF (l : List Nat) : Nat → Nat → Nat → Nat × Nat × Nat
  | 0, _, _ => (0, 0, 12)
  | f + 1, k, acc => match l[k]? with
    | none => (0, 0, 10)
    | some x => if 128 ≤ x then decF l f (k + 1) (acc + x % 128 * 2 ^ (7 * k)) else if (x = 0 ∧ 0 < k) ∨ (1 < x ∧ k = 9) then (0, 0, 12) else (acc + x * 2 ^ (7 * k), k + 1, 0)
def dec (l : List Nat) (k acc : Nat) : Nat × Nat × Nat := decF l (10 - k) k acc

theorem dec_end {l : List Nat} {k acc : Nat} (hk : 10 ≤ k) : dec l k acc = (0, 0, 12) := by
  rw [dec, show 10 - k = 0 by omega, decF]
theorem dec_none {l : List Nat} {k acc : Nat} (hk : k < 10) (hx : l[k]? = none) : dec l k acc = (0, 0, 10) := by
  rw [dec, show 10 - k = (10 - (k + 1)) + 1 by omega, decF, hx]
theorem dec_on {l : List Nat} {k acc x : Nat} (hk : k < 10) (hx : l[k]? = some x) (h : 128 ≤ x) : dec l k acc = dec l (k + 1) (acc + x % 128 * 2 ^ (7 * k)) := by
  rw [dec, show 10 - k = (10 - (k + 1)) + 1 by omega, decF, hx]
  simp only [if_pos h]
  rfl
theorem dec_bad {l : List Nat} {k acc x : Nat} (hk : k < 10) (hx : l[k]? = some x) (h : x < 128) (hb : (x = 0 ∧ 0 < k) ∨ (1 < x ∧ k = 9)) : dec l k acc = (0, 0, 12) := by
  rw [dec, show 10 - k = (10 - (k + 1)) + 1 by omega, decF, hx]
  simp only [if_neg (show ¬ 128 ≤ x by omega), if_pos hb]
theorem dec_ok {l : List Nat} {k acc x : Nat} (hk : k < 10) (hx : l[k]? = some x) (h : x < 128) (hb : ¬ ((x = 0 ∧ 0 < k) ∨ (1 < x ∧ k = 9))) : dec l k acc = (acc + x * 2 ^ (7 * k), k + 1, 0) := by
  rw [dec, show 10 - k = (10 - (k + 1)) + 1 by omega, decF, hx]
  simp only [if_neg (show ¬ 128 ≤ x by omega), if_neg hb]
theorem or_val {k acc x : Nat} (hk : k < 9 ∨ (k = 9 ∧ x ≤ 1)) (hacc : acc < 2 ^ (7 * k)) :
    bits .or .u64 (acc : Int) (IntKind.u64.wrap ((x : Int) % 128 * 2 ^ (7 * k))) = ((acc + x % 128 * 2 ^ (7 * k) : Nat) : Int) ∧ acc + x % 128 * 2 ^ (7 * k) < 2 ^ (7 * (k + 1)) := by
  have hm : x % 128 < 128 := Nat.mod_lt _ (by omega)
  have hp : x % 128 * 2 ^ (7 * k) < 18446744073709551616 := by
    rcases hk with h | ⟨rfl, h⟩
    · have h1 : 2 ^ (7 * k) ≤ 2 ^ 56 := Nat.pow_le_pow_right (by omega) (by omega)
      have h2 : x % 128 * 2 ^ (7 * k) ≤ 127 * 2 ^ 56 := Nat.mul_le_mul (by omega) h1
      exact Nat.lt_of_le_of_lt h2 (by decide)
    · have h1 : x % 128 ≤ 1 := by omega
      have h2 : x % 128 * 2 ^ (7 * 9) ≤ 1 * 2 ^ (7 * 9) := Nat.mul_le_mul_right _ h1
      exact Nat.lt_of_le_of_lt h2 (by decide)
  have e1 : (x : Int) % 128 * 2 ^ (7 * k) = ((x % 128 * 2 ^ (7 * k) : Nat) : Int) := by
    rw [Int.natCast_mul, Int.natCast_pow]; rfl
  have hlt : acc + x % 128 * 2 ^ (7 * k) < 2 ^ (7 * (k + 1)) := by
    have e2 : 2 ^ (7 * (k + 1)) = 128 * 2 ^ (7 * k) := by rw [Nat.mul_add, Nat.pow_add]; omega
    have h4 : x % 128 * 2 ^ (7 * k) ≤ 127 * 2 ^ (7 * k) := Nat.mul_le_mul_right _ (by omega)
    omega
  refine ⟨?_, hlt⟩
  have ha : acc < 18446744073709551616 := by
    have h1 : 2 ^ (7 * k) ≤ 2 ^ 63 := Nat.pow_le_pow_right (by omega) (by omega)
    exact Nat.lt_of_lt_of_le hacc (Nat.le_trans h1 (by decide))
  rw [e1, IntKind.wrap_u64, Int.emod_eq_of_lt (by omega) (by omega), u64_or_nat _ _ ha hp, Nat.or_comm, nat_join (7 * k) _ acc (by simp) hacc, Nat.add_comm]
theorem top_bit (x : Nat) (hx : x < 256) : bits .andNot .u8 (x : Int) 128 = ((x % 128 : Nat) : Int) ∧ bits .and .u8 (x : Int) 128 = if 128 ≤ x then 128 else 0 := by
  have h1 : bits .andNot .u8 (x : Int) 128 = ((x &&& 127 : Nat) : Int) := u8_andNot_nat x 128 hx (by omega)
  have h2 : bits .and .u8 (x : Int) 128 = ((x &&& 128 : Nat) : Int) := u8_and_nat x 128 hx (by omega)
  have h3 : x &&& 127 = x % 128 := Nat.and_two_pow_sub_one_eq_mod x 7
  have h4 : x &&& 128 = x / 128 % 2 * 128 := nat_bit 7 x
  rw [h1, h2, h3, h4]
  refine ⟨rfl, ?_⟩
  split <;> omega

theorem dec_bounds (l : List Nat) : ∀ (f k acc : Nat), 10 - k ≤ f → acc < 2 ^ (7 * k) → ((dec l k acc).2.2 = 0 ∧ 0 < (dec l k acc).2.1 ∧ (dec l k acc).2.1 ≤ l.length ∧ (dec l k acc).2.1 ≤ 10 ∧ (dec l k acc).1 < 18446744073709551616) ∨ dec l k acc = (0, 0, 10) ∨ dec l k acc = (0, 0, 12)
  | 0, k, acc, hf, ha => by
    right; right
    exact dec_end (by omega)
  | f + 1, k, acc, hf, ha => by
    by_cases hk : k < 10
    · cases hx : l[k]? with
      | none => right; left; exact dec_none hk hx
      | some x =>
        have hlt : k < l.length := (List.getElem?_eq_some_iff.1 hx).1
        by_cases h1 : 128 ≤ x
        · rw [dec_on hk hx h1]
          refine dec_bounds l f (k + 1) _ (by omega) ?_
          have hm : x % 128 < 128 := Nat.mod_lt _ (by omega)
          have e2 : 2 ^ (7 * (k + 1)) = 128 * 2 ^ (7 * k) := by rw [Nat.mul_add, Nat.pow_add]; omega
          have h4 : x % 128 * 2 ^ (7 * k) ≤ 127 * 2 ^ (7 * k) := Nat.mul_le_mul_right _ (by omega)
          omega
        · by_cases h2 : (x = 0 ∧ 0 < k) ∨ (1 < x ∧ k = 9)
          · right; right; exact dec_bad hk hx (by omega) h2
          · left
            rw [dec_ok hk hx (by omega) h2]
            refine ⟨rfl, Nat.succ_pos k, hlt, hk, ?_⟩
            have hm : x % 128 = x := by omega
            have hv := (or_val (k := k) (acc := acc) (x := x) (by omega) ha).1
            rw [hm] at hv
            show acc + x * 2 ^ (7 * k) < 18446744073709551616
            have hw : ∀ a b : Int, 0 ≤ bits .or .u64 a b ∧ bits .or .u64 a b < 18446744073709551616 := by
              intro a b
              have : bits .or .u64 a b = IntKind.u64.wrap ((BitVec.ofInt 64 a ||| BitVec.ofInt 64 b).toNat : Int) := rfl
              rw [this, IntKind.wrap_u64]
              omega
            have := hw acc (IntKind.u64.wrap ((x : Int) % 128 * 2 ^ (7 * k)))
            omega
    · right; right
      exact dec_end (by omega)

/-- A slice that can be read, byte by byte. -/
def Sl (w : World) (v : Value) (l : List Nat) : Prop :=
  (l = [] ∧ ∃ ao cap, v = .slice ao 0 cap) ∨ ∃ b off cap, v = .slice (some ⟨b, off, none⟩) l.length cap ∧ ∀ j, j < l.length → w.cell? ⟨b, off + j, none⟩ = some (.int .u8 ((l.getD j 0 : Nat) : Int))

set_option maxHeartbeats 400000 in
set_option maxRecDepth 1000000 in
theorem number_any (v : Value) (l : List Nat) (w : World) (hl : l.length ≤ 140737488355328) (h256 : ∀ x ∈ l, x < 256) (hv : Sl w v l) :
    Calls Tryz.prog 208 #[v] w fun e w' => e = .returned (.tuple #[.int .u64 (dec l 0 0).1, .int .i64 (dec l 0 0).2.1, .int .i64 (dec l 0 0).2.2]) ∧ w' = w := by
  obtain ⟨ao, cap, rfl⟩ : ∃ ao cap, v = .slice ao l.length cap := by
    rcases hv with ⟨rfl, ao, cap, rfl⟩ | ⟨b, off, cap, rfl, _⟩
    · exact ⟨ao, cap, rfl⟩
    · exact ⟨_, cap, rfl⟩
  go_enter Tryz.func208, Tryz.ntmps208
  go_wp2
  refine wp_scope_via 0 (fun a' w' => w' = w ∧ ∃ (k acc : Nat) (n : Int) (u5 u6 u7 u8 u9 u10 u11 u12 u13 u14 u15 u16 u17 u18 u19 u20 u21 u22 u23 u24 u25 u26 u27 u28 : Value), a' = { tmps := #[.slice ao l.length cap, undef, .int .u64 n, .int .i64 k, .int .i64 0, u5, u6, u7, u8, u9, u10, u11, u12, u13, u14, u15, u16, u17, u18, u19, u20, u21, u22, u23, u24, u25, u26, u27, u28, undef, undef, undef, undef, undef, undef, undef, undef, undef, undef, undef, undef, undef, undef, undef, undef], defers := [] } ∧ k ≤ 10 ∧ k ≤ l.length ∧ dec l k acc = dec l 0 0 ∧ (k < 10 → n = acc ∧ acc < 2 ^ (7 * k))) (fun a' _ => 10 - (intOf (a'.tmps.getD 3 undef)).toNat) rfl ?_ ?_
  · intro hp
    go_wp2
    rename_i K hK
    exact wp_label (hK _ _ (hp _ _ ⟨rfl, 0, 0, 0, _, _, _, _, _, _, _, _, _, _, _, _, _, _, _, _, _, _, _, _, _, _, _, _, rfl, by omega, by omega, rfl, fun _ => ⟨rfl, by decide⟩⟩))
  · rintro a' w' ⟨rfl, k, acc, n, u5, u6, u7, u8, u9, u10, u11, u12, u13, u14, u15, u16, u17, u18, u19, u20, u21, u22, u23, u24, u25, u26, u27, u28, rfl, hk, hkl, hd, hn⟩
    have HD : Hid (dec l k acc = dec l 0 0) := hd
    clear hd
    by_cases h10 : k = 10
    · subst h10
      go_wp2
      simp only [Exit.jump]
      go_ret3
      rw [← HD.out, dec_end (by omega)]
      exact ⟨rfl, rfl⟩
    · obtain ⟨rfl, hacc⟩ := hn (by omega)
      clear hn
      by_cases hkn : k = l.length
      · go_wp2
        simp only [Exit.jump]
        go_ret3
        rw [← HD.out, dec_none (by omega) (List.getElem?_eq_none (by omega))]
        exact ⟨rfl, rfl⟩
      · have hlt : k < l.length := by omega
        obtain ⟨b, off, rfl, hc⟩ : ∃ b off, ao = some ⟨b, off, none⟩ ∧ w'.cell? ⟨b, off + k, none⟩ = some (.int .u8 ((l.getD k 0 : Nat) : Int)) := by
          rcases hv with ⟨rfl, _⟩ | ⟨b, off, cap', h, hc⟩
          · simp at hlt
          · simp only [Value.slice.injEq] at h
            exact ⟨b, off, h.1, hc k hlt⟩
        have hx : l.getD k 0 < 256 := h256 _ (by simp [hlt])
        have hxe : l[k]? = some (l.getD k 0) := by simp [hlt]
        generalize l.getD k 0 = x at hc hx hxe
        obtain ⟨ha, hb⟩ := top_bit x hx
        by_cases h128 : 128 ≤ x
        · rw [if_pos h128] at hb
          go_wp2
          refine wp_goto ⟨rfl, ⟨rfl, k + 1, acc + x % 128 * 2 ^ (7 * k), _, _, _, _, _, _, _, _, _, _, _, _, _, _, _, _, _, _, _, _, _, _, _, _, _, rfl, by omega, by omega, ?_, ?_⟩, ?_⟩
          · rw [← HD.out, dec_on (by omega) hxe h128]
          · intro h9
            exact or_val (by omega) hacc
          · simp [intOf]; omega
        · rw [if_neg h128] at hb
          by_cases hbad : (x = 0 ∧ 0 < k) ∨ (1 < x ∧ k = 9)
          · have hdec := dec_bad (acc := acc) (show k < 10 by omega) hxe (by omega) hbad
            have HB : Hid (dec l k acc = (0, 0, 12)) := hdec
            clear hdec
            have hbad' : (x ≤ 0 ∧ 0 < k) ∨ (1 < x ∧ 9 ≤ k) := by omega
            clear hbad
            rcases hbad' with ⟨h0, h1⟩ | ⟨h0, h1⟩
            · go_wp2
              simp only [Exit.jump]
              go_ret3
              rw [← HD.out, HB.out]
              exact ⟨rfl, rfl⟩
            · go_wp2
              simp only [Exit.jump]
              go_ret3
              rw [← HD.out, HB.out]
              exact ⟨rfl, rfl⟩
          · have HB : Hid (dec l k acc = (acc + x * 2 ^ (7 * k), k + 1, 0)) := dec_ok (acc := acc) (show k < 10 by omega) hxe (by omega) hbad
            have HV : Hid (bits .or .u64 (acc : Int) (IntKind.u64.wrap ((x : Int) % 128 * 2 ^ (7 * k))) = ((acc + x % 128 * 2 ^ (7 * k) : Nat) : Int)) := (or_val (x := x) (by omega) hacc).1
            have hxm : x % 128 = x := by omega
            have HX : Hid (x % 128 = x) := hxm
            clear hxm
            by_cases h0 : x ≤ 0
            · have hk0 : k ≤ 0 := by omega
              have HB0 : Hid (dec l k acc = (acc, k + 1, 0)) := by
                have e : x = 0 := by omega
                have h := HB.out
                rw [e, Nat.zero_mul, Nat.add_zero] at h
                exact h
              have HV0 : Hid (bits .or .u64 (acc : Int) 0 = (acc : Int)) := by
                have hk0' : k = 0 := by omega
                subst hk0'
                have h := u64_or_nat acc 0 (by omega) (by omega)
                rw [Nat.or_zero] at h
                exact h
              clear hbad HB HV
              go_wp2
              simp only [Exit.jump]
              go_ret3
              rw [← HD.out, HB0.out, HV0.out]
              exact ⟨rfl, rfl⟩
            · have h0' : 0 < x := by omega
              by_cases h1 : 1 < x
              · have hk9 : k < 9 := by omega
                go_wp2
                simp only [Exit.jump]
                go_ret3
                rw [← HD.out, HB.out, HV.out, HX.out]
                exact ⟨rfl, rfl⟩
              · go_wp2
                simp only [Exit.jump]
                go_ret3
                rw [← HD.out, HB.out, HV.out, HX.out]
                exact ⟨rfl, rfl⟩
end Go.Proofs.YtfjppbpicmniaaaGreatDoor.Wire

namespace Go.Proofs.YtfjppbpicmniaaaGreatDoor.Wire
open Go.RowKit
theorem Tryz.info5 : (Tryz.prog.info? 5).map (fun i => (i.zero, i.size, i.bytes)) = some (some (.int .u8 0), 1, 1) := by kernel_rfl

set_option maxHeartbeats 400000 in
set_option maxRecDepth 1000000 in
theorem wnumber (n b g : Nat) (l : List Nat) (w : World) (hn : n < 18446744073709551616) (hl : l.length + 10 ≤ 140737488355328) (hw : WIs w b g l) :
    Calls Tryz.prog 144 #[.pointer (some ⟨b, 0, none⟩), .int .u64 n] w fun e w' => e = .returned (.tuple #[]) ∧ ∃ g', WIs w' b g' (l ++ enc n) ∧ (g' = g ∨ w.heap.size ≤ g') ∧ Kept (fun k => k = b ∨ k = g) w w' := by
  go_enter Tryz.func144, Tryz.ntmps144
  refine wp_scope_via 0 (fun a' w' => ∃ (m g' : Nat) (l' : List Nat) (u4 u5 u6 u7 u8 u9 u10 u11 u12 u13 u14 u15 u16 u17 u18 u19 : Value), a' = { tmps := #[.pointer (some ⟨b, 0, none⟩), .int .u64 m, undef, undef, u4, u5, u6, u7, u8, u9, u10, u11, u12, u13, u14, u15, u16, u17, u18, u19, undef, undef, undef, undef, undef, undef, undef, undef, undef, undef, undef], defers := [] } ∧ m ≤ n ∧ l' ++ enc m = l ++ enc n ∧ WIs w' b g' l' ∧ (g' = g ∨ w.heap.size ≤ g') ∧ Kept (fun k => k = b ∨ k = g) w w') (fun a' _ => (intOf (a'.tmps.getD 1 undef)).toNat) rfl ?_ ?_
  · intro hp
    exact wp_seq (wp_label (hp _ _ ⟨n, g, l, _, _, _, _, _, _, _, _, _, _, _, _, _, _, _, _, rfl, Nat.le_refl _, rfl, hw, Or.inl rfl, Kept.refl _ _⟩))
  · rintro a' w' ⟨m, g', l', u4, u5, u6, u7, u8, u9, u10, u11, u12, u13, u14, u15, u16, u17, u18, u19, rfl, hm, he, ⟨v, hb, hv, hvb, hgs⟩, hg, hk⟩
    have hc0 := hb.cell 0
    have hf0 := hb.frozen 0
    simp only [List.getElem?_toArray, List.getElem?_cons_zero] at hc0
    have hll : l'.length + 1 ≤ 140737488355328 := by
      have e1 := congrArg List.length he
      have e2 := enc_pos m
      have e3 := enc_ten n hn
      simp only [List.length_append] at e1
      omega
    have HE : Hid (l' ++ enc m = l ++ enc n) := he
    clear he
    by_cases hlt : 128 ≤ m
    · go_wp2_with (at_builtin; refine wpList_append_row _ rfl (.tmp 10) (.tmp 14) 42 42 rfl Tryz.underlying42 Tryz.info5 v g' l' rfl (hv.alloc _) _ 1 [m % 128 + 128] rfl ?src ?len ?next)
      case src =>
        refine Src.ofSlice _ Tryz.underlying42 _ 1 1 _ rfl ?_ (bs_one _)
        simp only [bs, List.map_cons, List.map_nil, ← low_byte]
        exact cell_one_new _ _ _
      case len => simpa using hll
      case next =>
        intro v' w1 g1 hv' hg1 hat hgr hnil
        obtain ⟨hb1, hw2, hg2, hk2⟩ := WIs.step (hb.alloc _) (hv.alloc _) hvb (by simp; omega) hgr hv' (by simpa using hat) (by simpa using hg1) hg (hk.alloc _)
        have hc1 := hb1.cell 0
        have hf1 := hb1.frozen 0
        simp only [List.getElem?_toArray, List.getElem?_cons_zero] at hc1
        obtain ⟨cap, rfl⟩ : ∃ cap, v' = .slice (some ⟨g1, 0, none⟩) (l'.length + 1) cap := by
          rcases hv'.shape with ⟨h, _⟩ | ⟨cap, h, _⟩
          · exact absurd h hnil
          · exact ⟨cap, by simpa using h⟩
        clear hnil hat hgr
        go_wp2
        rw [show (m : Int) / 128 = ((m / 128 : Nat) : Int) from by omega]
        refine wp_goto ⟨rfl, ⟨m / 128, g1, _, _, _, _, _, _, _, _, _, _, _, _, _, _, _, _, _, rfl, by omega, ?_, hw2, hg2, hk2⟩, ?_⟩
        · rw [← HE.out, enc_big hlt, List.append_assoc]; rfl
        · simp [intOf]; omega
    · go_wp2_with (at_builtin; refine wpList_append_row _ rfl (.tmp 24) (.tmp 27) 42 42 rfl Tryz.underlying42 Tryz.info5 v g' l' rfl (hv.alloc _) _ 1 [m] rfl ?src ?len ?next)
      case src =>
        refine Src.ofSlice _ Tryz.underlying42 _ 1 1 _ rfl ?_ (bs_one _)
        simp only [bs, List.map_cons, List.map_nil]
        exact cell_one_new _ _ _
      case len => simpa using hll
      case next =>
        intro v' w1 g1 hv' hg1 hat hgr hnil
        obtain ⟨hb1, hw2, hg2, hk2⟩ := WIs.step (hb.alloc _) (hv.alloc _) hvb (by simp; omega) hgr hv' (by simpa using hat) (by simpa using hg1) hg (hk.alloc _)
        have hc1 := hb1.cell 0
        have hf1 := hb1.frozen 0
        simp only [List.getElem?_toArray, List.getElem?_cons_zero] at hc1
        obtain ⟨cap, rfl⟩ : ∃ cap, v' = .slice (some ⟨g1, 0, none⟩) (l'.length + 1) cap := by
          rcases hv'.shape with ⟨h, _⟩ | ⟨cap, h, _⟩
          · exact absurd h hnil
          · exact ⟨cap, by simpa using h⟩
        clear hnil hat hgr
        go_wp2
        simp only [Exit.jump]
        go_end0
        refine ⟨rfl, g1, ?_, hg2, hk2⟩
        rw [← HE.out, enc_small (by omega)]
        exact hw2

theorem newwriter (w : World) : Calls Tryz.prog 40 #[] w fun e w' => ∃ b, e = .returned (.pointer (some ⟨b, 0, none⟩)) ∧ WIs w' b b [] ∧ w.heap.size ≤ b ∧ Kept (fun _ => False) w w' := by
  go_enter Tryz.func40, Tryz.ntmps40
  go_wp2
  go_ret
  exact ⟨w.heap.size, rfl, ⟨.slice none 0 0, ⟨150, heap_alloc_new w _⟩, Row.nil _ _, by simp [Value.ownBlock], by simp⟩, Nat.le_refl _, (Kept.refl _ w).alloc _⟩

set_option maxHeartbeats 400000 in
set_option maxRecDepth 1000000 in
theorem clone (v : Value) (b : Nat) (l : List Nat) (w : World) (hl : l.length ≤ 140737488355328) (hv : Rd w b v l) :
    Calls Tryz.prog 104 #[v] w fun e w' => ∃ v' g, e = .returned v' ∧ Row w' g v' l ∧ w.heap.size ≤ g ∧ Kept (fun _ => False) w w' := by
  have q24 : ∀ (w : World) (a : Option Addr) (n c n' c' : Nat), (binOp .eql 42 (.slice a n c) (.slice none n' c')).run Tryz.prog w = .ok (.bool a.isNone) w := fun w a n c n' c' => Lib.run_eql_slice_nil w 42 5 a n c n' c' Tryz.underlying42
  rcases hv with ⟨rfl, rfl⟩ | ⟨a, cap, rfl, h2, h3⟩
  · go_enter Tryz.func104, Tryz.ntmps104
    go_wp2
    go_ret
    exact ⟨_, w.heap.size, rfl, Row.nil _ _, Nat.le_refl _, Kept.refl _ _⟩
  · have hrow := Row.lit w [] (by simp)
    go_enter Tryz.func104, Tryz.ntmps104
    go_wp2_with (at_builtin; refine wpList_append_row _ rfl (.tmp 5) (.tmp 6) 42 42 rfl Tryz.underlying42 Tryz.info5 _ _ [] rfl hrow _ l.length l rfl ?src ?len ?next)
    case src => exact (Rd.alloc (.inr ⟨a, cap, rfl, h2, h3⟩) _).src Tryz.underlying42
    case len => simpa using hl
    case next =>
      intro v' w1 g1 hv' hg1 hat hgr hnil
      have hk : Kept (fun _ => False) w w1 := ((Kept.refl _ w).alloc _).grown hgr (by intro k hk h; simp [Value.ownBlock] at hk; omega)
      obtain ⟨cap', rfl⟩ : ∃ cap', v' = .slice (some ⟨g1, 0, none⟩) l.length cap' := by
        rcases hv'.shape with ⟨h, _⟩ | ⟨cap', h, _⟩
        · exact absurd h hnil
        · exact ⟨cap', h⟩
      clear hnil hat hgr
      go_wp2
      go_ret
      exact ⟨_, g1, rfl, hv', by omega, hk⟩

set_option maxHeartbeats 400000 in
set_option maxRecDepth 1000000 in
theorem wdone (b g : Nat) (l : List Nat) (w : World) (hl : l.length ≤ 140737488355328) (hw : WIs w b g l) :
    Calls Tryz.prog 42 #[.pointer (some ⟨b, 0, none⟩)] w fun e w' => ∃ v' g', e = .returned v' ∧ Row w' g' v' l ∧ w.heap.size ≤ g' ∧ Kept (fun _ => False) w w' := by
  obtain ⟨v, hb, hv, hvb, hgs⟩ := hw
  have hc0 := hb.cell 0
  simp only [List.getElem?_toArray, List.getElem?_cons_zero] at hc0
  go_enter Tryz.func42, Tryz.ntmps42
  go_wp2_with fail
  refine (clone v g l _ hl hv.rd).mono ?_
  rintro e w' ⟨v', g', rfl, h1, h2, h3⟩
  obtain ⟨a', c', rfl⟩ := h1.rd.shape
  go_wp2
  go_ret
  exact ⟨_, g', rfl, h1, h2, h3⟩

set_option maxHeartbeats 400000 in
set_option maxRecDepth 1000000 in
theorem wtext (s : ByteArray) (b g : Nat) (l : List Nat) (w : World) (hl : l.length + s.size + 10 ≤ 140737488355328) (hw : WIs w b g l) :
    Calls Tryz.prog 92 #[.pointer (some ⟨b, 0, none⟩), .string s] w fun e w' => e = .returned (.tuple #[]) ∧ ∃ g', WIs w' b g' (l ++ enc s.size ++ s.data.toList.map UInt8.toNat) ∧ (g' = g ∨ w.heap.size ≤ g') ∧ Kept (fun k => k = b ∨ k = g) w w' := by
  have hsz : s.size ≤ 140737488355328 := by omega
  have hten := enc_ten s.size (by omega)
  go_enter Tryz.func92, Tryz.ntmps92
  go_wp2_with fail
  refine (wnumber s.size b g l _ (by omega) (by omega) hw).mono ?_
  rintro e w1 ⟨rfl, g1, ⟨v, hb, hv, hvb, hgs⟩, hg1, hk1⟩
  have hc0 := hb.cell 0
  simp only [List.getElem?_toArray, List.getElem?_cons_zero] at hc0
  go_wp2_with (at_builtin; refine wpList_append_row _ rfl (.tmp 13) (.tmp 14) 42 9 rfl Tryz.underlying42 Tryz.info5 v g1 (l ++ enc s.size) rfl hv _ s.size (s.data.toList.map UInt8.toNat) rfl ?src ?len ?next)
  case src =>
    have e : bs (s.data.toList.map UInt8.toNat) = byteCells s := by simp [bs, byteCells]
    rw [e]
    exact Src.ofString w1 Tryz.underlying9 s
  case len => simp; have : s.data.size = s.size := rfl; omega
  case next =>
    intro v' w2 g2 hv' hg2 hat hgr hnil
    obtain ⟨hb1, hw2, hg3, hk2⟩ := WIs.step hb hv hvb hgs hgr hv' hat hg2 hg1 hk1
    have hc1 := hb1.cell 0
    have hf1 := hb1.frozen 0
    simp only [List.getElem?_toArray, List.getElem?_cons_zero] at hc1
    obtain ⟨a', n', c', rfl⟩ : ∃ a n c, v' = .slice a n c := by
      obtain ⟨a, c, h⟩ := hv'.rd.shape
      exact ⟨a, _, c, h⟩
    clear hnil hat hgr
    go_wp2
    go_end0
    rw [List.append_assoc]
    exact ⟨rfl, g2, hw2, hg3, hk2⟩

set_option maxHeartbeats 400000 in
set_option maxRecDepth 1000000 in
theorem wraw (v0 : Value) (b0 : Nat) (l0 : List Nat) (b g : Nat) (l : List Nat) (w : World) (hl : l.length + l0.length ≤ 140737488355328) (hw : WIs w b g l) (hr : Rd w b0 v0 l0) :
    Calls Tryz.prog 148 #[.pointer (some ⟨b, 0, none⟩), v0] w fun e w' => e = .returned (.tuple #[]) ∧ ∃ g', WIs w' b g' (l ++ l0) ∧ (g' = g ∨ w.heap.size ≤ g') ∧ Kept (fun k => k = b ∨ k = g) w w' := by
  obtain ⟨v, hb, hv, hvb, hgs⟩ := hw
  have hc0 := hb.cell 0
  simp only [List.getElem?_toArray, List.getElem?_cons_zero] at hc0
  go_enter Tryz.func148, Tryz.ntmps148
  go_wp2_with (at_builtin; refine wpList_append_row _ rfl (.tmp 8) (.tmp 9) 42 42 rfl Tryz.underlying42 Tryz.info5 v g l rfl hv _ l0.length l0 rfl ?src ?len ?next)
  case src => exact hr.src Tryz.underlying42
  case len => exact hl
  case next =>
    intro v' w2 g2 hv' hg2 hat hgr hnil
    obtain ⟨hb1, hw2, hg3, hk2⟩ := WIs.step hb hv hvb hgs hgr hv' hat hg2 (Or.inl rfl) (Kept.refl _ w)
    have hc1 := hb1.cell 0
    have hf1 := hb1.frozen 0
    simp only [List.getElem?_toArray, List.getElem?_cons_zero] at hc1
    obtain ⟨a', n', c', rfl⟩ : ∃ a n c, v' = .slice a n c := by
      obtain ⟨a, c, h⟩ := hv'.rd.shape
      exact ⟨a, _, c, h⟩
    clear hnil hat hgr
    go_wp2
    go_end0
    exact ⟨rfl, g2, hw2, hg3, hk2⟩
end Go.Proofs.YtfjppbpicmniaaaGreatDoor.Wire
