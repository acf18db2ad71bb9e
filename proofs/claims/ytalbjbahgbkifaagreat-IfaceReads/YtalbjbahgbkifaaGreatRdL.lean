/-
  hawserbook.Within from 0 on.
  And: The law on what is written and read: its walk. The law on what is read of bytes: its walk. The statement on what is read of bytes: for all bytes, every interface, any place and byte: what is read of the bytes, or of the interface's own bytes with one turned, is as the document says, and the bytes stay. No condition.
-/
import Derived.Test.YtalbjbahgbkifaaGreatLexSmall
import Derived.Test.YtalbjbahgbkifaaGreatLexMem
import Derived.Deep.CutBlock
import Derived.Deep.CutRange
import Derived.Deep.DeepCutAuto
import Derived.Test.YtalbjbahgbkifaaGreatIfcB
import Derived.Test.YtalbjbahgbkifaaGreatDecA
import Derived.Test.YtalbjbahgbkifaaGreatIfaceEncode
import Derived.Test.YtalbjbahgbkifaaGreatIfaceKnown
import Derived.Test.YtalbjbahgbkifaaGreatWiB
import Derived.Test.YtalbjbahgbkifaaGreatRefB
import Derived.ProofKit
import Derived.OpenShut
import Derived.SizedLaws
import Derived.ChangeShapes
import Derived.WideShapes
import Derived.Deep.Slices
import Derived.Test.YtalbjbahgbkifaaGreatRows
import Derived.Test.YtalbjbahgbkifaaGreatIfaceRows
namespace Go.Proofs.YtalbjbahgbkifaaGreat
open Go.RowKit

theorem tmodQ (n m : Int) (hm : 0 < m) : (0 ≤ n.tmod m ∧ n.tmod m = n % m) ∨ (n.tmod m < 0 ∧ n.tmod m + m = n % m) := by
  have h := Int.tmod_eq_emod (a := n) (b := m)
  have h1 := Int.emod_nonneg n (show m ≠ 0 by omega)
  have h2 := Int.emod_lt_of_pos n hm
  by_cases hc : 0 ≤ n ∨ m ∣ n
  · rw [if_pos hc] at h
    left
    omega
  · rw [if_neg hc] at h
    right
    omega
set_option maxRecDepth 1000000 in
theorem withinQ (n : Int) (hi : Nat) (_h0 : -9223372036854775808 ≤ n) (_h1 : n ≤ 9223372036854775807) (hh : hi ≤ 1000000000) (w : World) : Calls Tryz.prog 18 #[.int .i64 n, .int .i64 0, .int .i64 hi] w (Pu (.int .i64 (n % ((hi : Int) + 1))) w) := by
  have hb := Int.emod_lt_of_pos n (show 0 < (hi : Int) + 1 by omega)
  have hb0 := Int.emod_nonneg n (show (hi : Int) + 1 ≠ 0 by omega)
  have hne : ¬ ((hi : Int) + 1 = 0) := by omega
  have hpos : (0 : Int) < (hi : Int) + 1 := by omega
  rcases tmodQ n (hi + 1) (by omega) with ⟨h2, h3⟩ | ⟨h2, h3⟩
  · rw [← h3] at hb hb0 ⊢
    generalize hz : n.tmod ((hi : Int) + 1) = z at *
    clear h3
    go_enter Tryz.func18, Tryz.ntmps18
    go_wp2
    go_ret
    exact ⟨rfl, rfl⟩
  · rw [← h3] at hb hb0 ⊢
    generalize hz : n.tmod ((hi : Int) + 1) = z at *
    clear h3
    rw [← Int.add_assoc]
    go_enter Tryz.func18, Tryz.ntmps18
    go_wp2
    go_ret
    exact ⟨rfl, rfl⟩

end Go.Proofs.YtalbjbahgbkifaaGreat

namespace Go.Proofs.YtalbjbahgbkifaaGreat
open Go.RowKit

theorem rdW {w w' : World} {b : Nat} {v : Value} {l : List Nat} (h : Wire.Rd w b v l) (k : Below w.heap.size w w') : Wire.Rd w' b v l := by
  rcases h with h | ⟨a, cap, h1, h2, h3⟩
  · exact .inl h
  · refine .inr ⟨a, cap, h1, h2, fun j u hj => ?_⟩
    have := h3 j u hj
    rw [k.cell (World.block_lt_of_cell? w _ this)]
    exact this
theorem txtB_256 (x : List UInt8) : ∀ n ∈ txtB x, n < 256 := by
  intro n hn
  rcases List.mem_append.1 hn with h | h
  · exact Wire.enc_256 _ n h
  · obtain ⟨c, _, rfl⟩ := List.mem_map.1 h
    exact c.toNat_lt
theorem fieldsB_256 : ∀ (fs : List (List UInt8)), ∀ n ∈ fieldsB fs, n < 256
  | [], n, hn => by simp [fieldsB] at hn
  | f :: r, n, hn => by
    rcases List.mem_append.1 hn with h | h
    · exact txtB_256 f n h
    · exact fieldsB_256 r n h
theorem caseB_256 (c : Cs) : ∀ n ∈ caseB c, n < 256 := by
  intro n hn
  rcases List.mem_append.1 hn with h | h
  · exact txtB_256 _ n h
  · rcases List.mem_append.1 h with h | h
    · exact Wire.enc_256 _ n h
    · exact fieldsB_256 _ n h
theorem casesB_256 : ∀ (fs : List Cs), ∀ n ∈ casesB fs, n < 256
  | [], n, hn => by simp [casesB] at hn
  | f :: r, n, hn => by
    rcases List.mem_append.1 hn with h | h
    · exact caseB_256 f n h
    · exact casesB_256 r n h
theorem itemB_256 (x : It) : ∀ n ∈ itemB x, n < 256 := by
  intro n hn
  rcases List.mem_append.1 hn with h | h
  · exact Wire.enc_256 _ n h
  · rcases List.mem_append.1 h with h | h
    · exact txtB_256 _ n h
    · split at h
      · rcases List.mem_append.1 h with h | h
        · exact Wire.enc_256 _ n h
        · exact casesB_256 _ n h
      · exact txtB_256 _ n h
theorem itemsB_256 : ∀ (fs : List It), ∀ n ∈ itemsB fs, n < 256
  | [], n, hn => by simp [itemsB] at hn
  | f :: r, n, hn => by
    rcases List.mem_append.1 hn with h | h
    · exact itemB_256 f n h
    · exact itemsB_256 r n h
theorem ifaceB_256 (m : List UInt8) (l : List It) : ∀ n ∈ ifaceB m l, n < 256 := by
  intro n hn
  rcases List.mem_append.1 hn with h | h
  · exact txtB_256 _ n h
  · rcases List.mem_append.1 h with h | h
    · exact Wire.enc_256 _ n h
    · exact itemsB_256 _ n h
theorem breaks_self (l : List It) (xs : List (List UInt8)) : breaksI l l xs = [] := by
  unfold breaksI
  rw [List.filter_eq_nil_iff]
  intro n _
  unfold brokenI
  cases h : findI l n with
  | none => simp
  | some a =>
    have := (sameI_iff a a).2 rfl
    simp [this]
theorem why_right {l : List Nat} (h : (whyD l).1 = 0) : (endR l).1 = 0 ∧ rightI (txtR l 24 0 0).1 (itemsR l).1 = 0 := by
  unfold whyD at h
  split at h
  · rename_i h1
    exact absurd h h1
  · rename_i h1
    exact ⟨Classical.not_not.1 h1, h⟩
end Go.Proofs.YtalbjbahgbkifaaGreat

namespace Go.Proofs.YtalbjbahgbkifaaGreat
open Go.RowKit

def nmD (l : List Nat) : List UInt8 := if (whyD l).1 = 0 then (txtR l 24 0 0).1 else []
def ysD (l : List Nat) : List It := if (whyD l).1 = 0 then (itemsR l).1 else []
def atD (l : List Nat) : Nat := if (whyD l).1 = 0 then 0 else (whyD l).2
theorem dec_one {l : List Nat} {w w' : World} {e : Ending} (h : DecE l w e w') : ∃ v, e = .returned (.tuple #[.agg #[.string (str (nmD l)), v], .int .i64 ((whyD l).1 : Int), .int .i64 (atD l : Int)]) ∧ ItR (Fr w w') w' v (ysD l) ∧ Below w.heap.size w w' := by
  obtain ⟨hc, hb⟩ := h
  unfold nmD ysD atD
  rcases hc with ⟨h1, rfl⟩ | ⟨h1, v, rfl, h2⟩
  · rw [if_neg h1, if_neg h1, if_neg h1]
    exact ⟨_, rfl, ItR.nil _ _, hb⟩
  · rw [if_pos h1, if_pos h1, if_pos h1, h1]
    exact ⟨v, rfl, h2, hb⟩
theorem ysD_ok (l : List Nat) : ∀ x ∈ ysD l, ItOk x := by
  unfold ysD
  split
  · exact items_ok l
  · intro x hx
    simp at hx
theorem ysD_len (l : List Nat) : (ysD l).length ≤ 2199023255552 := by
  unfold ysD
  split
  · rename_i h
    have := (right_short (why_right h).2).2.2.1
    omega
  · simp
theorem ifaceB_pos (m : List UInt8) (l : List It) : 0 < (ifaceB m l).length := by
  have h1 := Wire.enc_pos m.length
  unfold ifaceB txtB
  simp only [List.length_append]
  omega
theorem u8_xorN (a b : Nat) (ha : a < 256) (hb : b < 256) : bits .xor .u8 (a : Int) (b : Int) = ((a ^^^ b : Nat) : Int) := by
  have hx : a ^^^ b < 2 ^ 8 := Nat.xor_lt_two_pow (by omega) (by omega)
  have h1 : (BitVec.ofInt 8 (a : Int)).toNat = a := by
    rw [BitVec.ofInt_natCast, BitVec.toNat_ofNat]
    exact Nat.mod_eq_of_lt (by omega)
  have h2 : (BitVec.ofInt 8 (b : Int)).toNat = b := by
    rw [BitVec.ofInt_natCast, BitVec.toNat_ofNat]
    exact Nat.mod_eq_of_lt (by omega)
  have h3 : ∀ n : Int, IntKind.u8.wrap n = n % 256 := fun n => by simp [IntKind.wrap, IntKind.bits, IntKind.signed]
  show IntKind.u8.wrap ((BitVec.ofInt 8 (a : Int) ^^^ BitVec.ofInt 8 (b : Int)).toNat : Int) = _
  rw [BitVec.toNat_xor, h1, h2, h3]
  omega
set_option maxHeartbeats 8000000 in
set_option maxRecDepth 1000000 in
theorem reads_walk (F : Nat → Prop) (m : List UInt8) (l : List It) (va : Option Addr) (vc : Nat) (bv : Value) (b0 : Nat) (bl : List Nat) (n : Int) (t : Nat) (w : World)
    (hI : ItR F w (.slice va l.length vc) l) (hB : Wire.Rd w b0 bv bl) (hF : ∀ g, F g → g < w.heap.size) (hm : Tk m) (hok : ∀ x ∈ l, ItOk x) (hbl : bl.length ≤ 140737488351232) (h256 : ∀ x ∈ bl, x < 256) (hcap : ∃ a m c, bv = .slice a m c ∧ m ≤ c ∧ c ≤ maxLen) (hn0 : -9223372036854775808 ≤ n) (hn1 : n ≤ 9223372036854775807) (ht : t < 256) :
    Calls Tryz.prog 4 #[bv, .agg #[.string (str m), .slice va l.length vc], .int .i64 n, .int .u8 t] w fun e w' => e = .returned (.bool true) ∧ Below w.heap.size w w' := by
  obtain ⟨ba, bc, rfl⟩ := hB.shape
  have hblk : b0 < w.heap.size ∨ bl = [] := by rcases Wire.Rd.blk hB with h | h; exact .inr h; exact .inl h
  have bA0 : Below w.heap.size w (w.alloc (.cells #[.string (str m), .slice va l.length vc] 24)) := (Below.refl _ _).alloc (Nat.le_refl _) _
  have hN0 : (w.alloc (.cells #[.string (str m), .slice va l.length vc] 24)).heap[w.heap.size]? = some (.cells #[.string (str m), .slice va l.length vc] 24 (0, 0)) := World.alloc_heap_new w _
  have hz0 : w.heap.size < (w.alloc (.cells #[.string (str m), .slice va l.length vc] 24)).heap.size := by simp
  have hE := refEncodeB F m (.slice va l.length vc) l _ (hI.below bA0 hF) (fun g hg => by have := hF g hg; omega) hm hok
  have s0 : (w.alloc (.cells #[.string (str m), .slice va l.length vc] 24)).cell? ⟨w.heap.size, 0, none⟩ = some (.string (str m)) := by rw [cell_of_row _ _ 0 _ _ _ hN0]; rfl
  have s1 : (w.alloc (.cells #[.string (str m), .slice va l.length vc] 24)).cell? ⟨w.heap.size, 1, none⟩ = some (.slice va l.length vc) := by rw [cell_of_row _ _ 1 _ _ _ hN0]; rfl
  have hB0 := rdW hB bA0
  clear hI hB hF hN0
  go_enter Tryz.func4, Tryz.ntmps4
  go_wp2_with fail
  generalize w.alloc (.cells #[.string (str m), .slice va l.length vc] 24) = W0 at *
  refine hE.mono ?_
  rintro e wS ⟨hcase, b1⟩
  have bW1 : Below w.heap.size w wS := bA0.trans (b1.mono bA0.size)
  have hz1 := b1.size
  have hWS : ∀ u, Below wS.heap.size wS u → Below w.heap.size w u := fun u hu => bW1.trans (hu.mono bW1.size)
  have hRd := rdW hB0 b1
  clear hE s0 s1 hB0
  rcases hcase with ⟨hri, xv, g, rfl, hrow, hg⟩ | ⟨hri, rfl⟩
  · have hsh := (right_short hri).1
    have hps := ifaceB_pos m l
    have hi256 := ifaceB_256 m l
    clear hri hRd h256 hbl hcap hblk
    generalize ifaceB m l = L at *
    rcases hrow.shape with ⟨_, rfl⟩ | ⟨xc, rfl, hxl, hxm⟩
    · simp at hps
    have hgl : g < wS.heap.size := hrow.lt (k := g) rfl
    have hlp : (0 : Int) < (L.length : Int) := by omega
    have hmod := Int.emod_lt_of_pos n hlp
    have hmod0 := Int.emod_nonneg n (show (L.length : Int) ≠ 0 by omega)
    obtain ⟨k, hk⟩ : ∃ k : Nat, (k : Int) = n % (L.length : Int) := ⟨(n % (L.length : Int)).toNat, by omega⟩
    have hkl : k < L.length := by omega
    have hWi : Calls Tryz.prog 18 #[.int .i64 n, .int .i64 0, .int .i64 ((L.length : Int) - 1)] wS (Pu (.int .i64 (k : Int)) wS) := by
      have h := withinQ n (L.length - 1) hn0 hn1 (by omega) wS
      rw [show ((L.length - 1 : Nat) : Int) = (L.length : Int) - 1 by omega, show (L.length : Int) - 1 + 1 = (L.length : Int) by omega, ← hk] at h
      exact h
    have hcell := hrow.cell k hkl
    have hfz := hrow.1.frozenAt k
    have hx1 : L.getD k 0 < 256 := by
      rw [List.getD_eq_getElem?_getD, List.getElem?_eq_getElem hkl]
      exact hi256 _ (List.getElem_mem hkl)
    obtain ⟨a, ha⟩ : ∃ a, L.getD k 0 = a := ⟨_, rfl⟩
    rw [ha] at hcell hx1
    clear ha
    have hxor := u8_xorN a t hx1 ht
    have hst := hrow.store k (a ^^^ t)
    have hkst : Wire.Kept (fun b => b = g) wS (wS.setCell ⟨g, k, none⟩ (.int .u8 ((a ^^^ t : Nat) : Int))) := Wire.Kept.setCell (S := fun b => b = g) (Wire.Kept.refl _ wS) (p := ⟨g, k, none⟩) (fun _ => rfl) _
    have hbst : Below w.heap.size wS (wS.setCell ⟨g, k, none⟩ (.int .u8 ((a ^^^ t : Nat) : Int))) := ⟨hkst.os, hkst.tape, hkst.output, hkst.size, fun b hb => hkst.block b (by omega) (by omega)⟩
    have hbw2 := bW1.trans hbst
    have hg0 : g < (wS.setCell ⟨g, k, none⟩ (.int .u8 ((a ^^^ t : Nat) : Int))).heap.size ∨ L.set k (a ^^^ t) = [] := .inl (Nat.lt_of_lt_of_le hgl hkst.size)
    have h256 : ∀ y ∈ L.set k (a ^^^ t), y < 256 := by
      intro y hy
      rcases List.mem_or_eq_of_mem_set hy with h | h
      · exact hi256 y h
      · rw [h]
        exact Nat.xor_lt_two_pow (n := 8) (by omega) (by omega)
    have hlen : Hid (L.length = (L.set k (a ^^^ t)).length) := by rw [hid_iff]; simp
    clear hmod hmod0 hk hkst hbst hWS hi256
    go_wp2_with fail
    refine hWi.mono ?_
    rintro e w2 ⟨rfl, rfl⟩
    clear hWi
    go_wp2_with fail
    clear hxor hcell hfz hrow
    replace hlen := hlen.out
    generalize L.set k (a ^^^ t) = bl at *
    generalize L.length = nL at *
    subst hlen
    generalize w2.setCell ⟨g, k, none⟩ (.int .u8 ((a ^^^ t : Nat) : Int)) = wT at *
    have hRd := hst.rd
    have hWS : ∀ u, Below wT.heap.size wT u → Below w.heap.size w u := fun u hu => hbw2.trans (hu.mono hbw2.size)
    have hbl : bl.length ≤ 140737488351232 := by omega
    have hcap : ∃ a m c, Value.slice (some ⟨g, 0, none⟩) bl.length xc = .slice a m c ∧ m ≤ c ∧ c ≤ maxLen := ⟨_, _, _, rfl, hxl, hxm⟩
    clear hst hbw2 hlp hkl hps hxl
    have hro := Wire.roomy _ g bl wT hbl hRd
    go_wp2_with fail
    refine hro.mono ?_
    rintro e w3 ⟨fc, fg, rfl, hr3, hg3, hc3, hcm3, hk3⟩
    have B3 := hk3.below (Nat.le_refl _) (fun _ _ h => h)
    clear hro hk3
    have hsub := Wire.row_sub hr3
    have hdec := decode7 _ fg bl w3 (by omega) h256 hsub
    have hcI : (bl.length : Int) ≤ fc := by omega
    clear hsub
    go_wp2_with fail
    refine hdec.mono ?_
    intro e w4 h4
    obtain ⟨v4, rfl, hT4, b4⟩ := dec_one h4
    clear hdec h4 hcI
    have hyl := ysD_len bl
    have hyo := ysD_ok bl
    obtain ⟨ia, ic, rfl⟩ := hT4.shape
    have bA5 : Below w4.heap.size w4 (w4.alloc (.cells #[.string (str (nmD bl)), .slice ia (ysD bl).length ic] 24)) := (Below.refl _ _).alloc (Nat.le_refl _) _
    have hN5 : (w4.alloc (.cells #[.string (str (nmD bl)), .slice ia (ysD bl).length ic] 24)).heap[w4.heap.size]? = some (.cells #[.string (str (nmD bl)), .slice ia (ysD bl).length ic] 24 (0, 0)) := World.alloc_heap_new w4 _
    have hz5 : w4.heap.size < (w4.alloc (.cells #[.string (str (nmD bl)), .slice ia (ysD bl).length ic] 24)).heap.size := by simp
    have hT5 := hT4.below bA5 (fun g hg => hg.2)
    have hr5 := (hr3.kept (wkept_below b4) (fun _ h => h)).kept (wkept_below bA5) (fun _ h => h)
    have B5 : Below wT.heap.size wT (w4.alloc (.cells #[.string (str (nmD bl)), .slice ia (ysD bl).length ic] 24)) := (B3.trans (b4.mono B3.size)).trans (bA5.mono (Nat.le_trans B3.size b4.size))
    have hRd5 := rdW hRd B5
    have hdr := refDecode _ g bl _ hbl h256 hRd5 (hg0.imp_left (fun h => Nat.lt_of_lt_of_le h B5.size)) hcap
    have hF5 : ∀ g, Fr w3 w4 g → g < w4.heap.size := fun g hg => hg.2
    clear hT4 bA5 hr3 b4 B3 hRd
    go_wp2_with fail
    generalize w4.alloc (.cells #[.string (str (nmD bl)), .slice ia (ysD bl).length ic] 24) = W5 at *
    refine hdr.mono ?_
    intro e w6 h6
    obtain ⟨v6, rfl, hT6, b6⟩ := dec_one h6
    clear hdr h6
    obtain ⟨ja, jc, rfl⟩ := hT6.shape
    have bA7 : Below w6.heap.size w6 (w6.alloc (.cells #[.string (str (nmD bl)), .slice ja (ysD bl).length jc] 24)) := (Below.refl _ _).alloc (Nat.le_refl _) _
    have hN7 : (w6.alloc (.cells #[.string (str (nmD bl)), .slice ja (ysD bl).length jc] 24)).heap[w6.heap.size]? = some (.cells #[.string (str (nmD bl)), .slice ja (ysD bl).length jc] 24 (0, 0)) := World.alloc_heap_new w6 _
    have hz6 := b6.size
    have hz7 : w6.heap.size < (w6.alloc (.cells #[.string (str (nmD bl)), .slice ja (ysD bl).length jc] 24)).heap.size := by simp
    have B75 : Below W5.heap.size W5 (w6.alloc (.cells #[.string (str (nmD bl)), .slice ja (ysD bl).length jc] 24)) := b6.trans (bA7.mono hz6)
    have hN57 := (B75.block w4.heap.size (by omega)).trans hN5
    have hT57 := hT5.below B75 (fun g hg => by have := hF5 g hg; omega)
    have hT7 := hT6.below bA7 (fun g hg => hg.2)
    have hr7 := hr5.kept (wkept_below B75) (fun _ h => h)
    have B7 := B5.trans (B75.mono B5.size)
    have hRd7 := rdW hRd5 B75
    have hkI := keepIface (Fr w3 w4) (Fr W5 w6) (nmD bl) _ _ (ysD bl) _ hT57 hT7 (fun g hg => by have := hF5 g hg; omega) (fun g hg => by have := hg.2; omega) hyl hyo
    have n0 : (w6.alloc (.cells #[.string (str (nmD bl)), .slice ja (ysD bl).length jc] 24)).cell? ⟨w6.heap.size, 0, none⟩ = some (.string (str (nmD bl))) := by rw [cell_of_row _ _ 0 _ _ _ hN7]; rfl
    have n1 : (w6.alloc (.cells #[.string (str (nmD bl)), .slice ja (ysD bl).length jc] 24)).cell? ⟨w6.heap.size, 1, none⟩ = some (.slice ja (ysD bl).length jc) := by rw [cell_of_row _ _ 1 _ _ _ hN7]; rfl
    have o0 : (w6.alloc (.cells #[.string (str (nmD bl)), .slice ja (ysD bl).length jc] 24)).cell? ⟨w4.heap.size, 0, none⟩ = some (.string (str (nmD bl))) := by rw [cell_of_row _ _ 0 _ _ _ hN57]; rfl
    have o1 : (w6.alloc (.cells #[.string (str (nmD bl)), .slice ja (ysD bl).length jc] 24)).cell? ⟨w4.heap.size, 1, none⟩ = some (.slice ia (ysD bl).length ic) := by rw [cell_of_row _ _ 1 _ _ _ hN57]; rfl
    clear hT5 hT6 bA7 hr5 b6 B5 B75 hRd5 hT57 hT7 hN5 hN7 hN57
    go_wp2_with fail
    generalize w6.alloc (.cells #[.string (str (nmD bl)), .slice ja (ysD bl).length jc] 24) = W7 at *
    refine hkI.mono ?_
    rintro e w8 ⟨rfl, b8⟩
    have hr8 := hr7.kept (wkept_below b8) (fun _ h => h)
    have hRd8 := rdW hRd7 b8
    have B8 := B7.trans (b8.mono B7.size)
    have hin := Wire.intact _ g fg fc bl w8 hbl hc3 hcm3 hRd8 hr8
    clear hkI hr7 hRd7 B7 n0 n1 o0 o1 b8
    go_wp2_with fail
    refine hin.mono ?_
    rintro e w9 ⟨rfl, k9⟩
    have B9 := B8.trans ((k9.below (Nat.le_refl _) (fun _ _ h => h)).mono B8.size)
    have hkn := known7 w9
    clear hin hr8 hRd8 B8 k9
    go_wp2_with fail
    refine hkn.mono ?_
    rintro e w10 ⟨rfl, b10⟩
    have hbw := hWS _ (B9.trans (b10.mono B9.size))
    go_wp2
    go_ret
    exact ⟨rfl, hbw⟩
  · have hg0 : b0 < wS.heap.size ∨ bl = [] := hblk.imp_left (fun h => by omega)
    have hez : ((rightI m l : Int) == 0) = false := by rw [beq_eq_false_iff_ne]; omega
    generalize rightI m l = ec at *

    have hro := Wire.roomy _ b0 bl wS hbl hRd
    go_wp2_with fail
    refine hro.mono ?_
    rintro e w3 ⟨fc, fg, rfl, hr3, hg3, hc3, hcm3, hk3⟩
    have B3 := hk3.below (Nat.le_refl _) (fun _ _ h => h)
    clear hro hk3
    have hsub := Wire.row_sub hr3
    have hdec := decode7 _ fg bl w3 (by omega) h256 hsub
    have hcI : (bl.length : Int) ≤ fc := by omega
    clear hsub
    go_wp2_with fail
    refine hdec.mono ?_
    intro e w4 h4
    obtain ⟨v4, rfl, hT4, b4⟩ := dec_one h4
    clear hdec h4 hcI
    have hyl := ysD_len bl
    have hyo := ysD_ok bl
    obtain ⟨ia, ic, rfl⟩ := hT4.shape
    have bA5 : Below w4.heap.size w4 (w4.alloc (.cells #[.string (str (nmD bl)), .slice ia (ysD bl).length ic] 24)) := (Below.refl _ _).alloc (Nat.le_refl _) _
    have hN5 : (w4.alloc (.cells #[.string (str (nmD bl)), .slice ia (ysD bl).length ic] 24)).heap[w4.heap.size]? = some (.cells #[.string (str (nmD bl)), .slice ia (ysD bl).length ic] 24 (0, 0)) := World.alloc_heap_new w4 _
    have hz5 : w4.heap.size < (w4.alloc (.cells #[.string (str (nmD bl)), .slice ia (ysD bl).length ic] 24)).heap.size := by simp
    have hT5 := hT4.below bA5 (fun g hg => hg.2)
    have hr5 := (hr3.kept (wkept_below b4) (fun _ h => h)).kept (wkept_below bA5) (fun _ h => h)
    have B5 : Below wS.heap.size wS (w4.alloc (.cells #[.string (str (nmD bl)), .slice ia (ysD bl).length ic] 24)) := (B3.trans (b4.mono B3.size)).trans (bA5.mono (Nat.le_trans B3.size b4.size))
    have hRd5 := rdW hRd B5
    have hdr := refDecode _ b0 bl _ hbl h256 hRd5 (hg0.imp_left (fun h => Nat.lt_of_lt_of_le h B5.size)) hcap
    have hF5 : ∀ g, Fr w3 w4 g → g < w4.heap.size := fun g hg => hg.2
    clear hT4 bA5 hr3 b4 B3 hRd
    go_wp2_with fail
    generalize w4.alloc (.cells #[.string (str (nmD bl)), .slice ia (ysD bl).length ic] 24) = W5 at *
    refine hdr.mono ?_
    intro e w6 h6
    obtain ⟨v6, rfl, hT6, b6⟩ := dec_one h6
    clear hdr h6
    obtain ⟨ja, jc, rfl⟩ := hT6.shape
    have bA7 : Below w6.heap.size w6 (w6.alloc (.cells #[.string (str (nmD bl)), .slice ja (ysD bl).length jc] 24)) := (Below.refl _ _).alloc (Nat.le_refl _) _
    have hN7 : (w6.alloc (.cells #[.string (str (nmD bl)), .slice ja (ysD bl).length jc] 24)).heap[w6.heap.size]? = some (.cells #[.string (str (nmD bl)), .slice ja (ysD bl).length jc] 24 (0, 0)) := World.alloc_heap_new w6 _
    have hz6 := b6.size
    have hz7 : w6.heap.size < (w6.alloc (.cells #[.string (str (nmD bl)), .slice ja (ysD bl).length jc] 24)).heap.size := by simp
    have B75 : Below W5.heap.size W5 (w6.alloc (.cells #[.string (str (nmD bl)), .slice ja (ysD bl).length jc] 24)) := b6.trans (bA7.mono hz6)
    have hN57 := (B75.block w4.heap.size (by omega)).trans hN5
    have hT57 := hT5.below B75 (fun g hg => by have := hF5 g hg; omega)
    have hT7 := hT6.below bA7 (fun g hg => hg.2)
    have hr7 := hr5.kept (wkept_below B75) (fun _ h => h)
    have B7 := B5.trans (B75.mono B5.size)
    have hRd7 := rdW hRd5 B75
    have hkI := keepIface (Fr w3 w4) (Fr W5 w6) (nmD bl) _ _ (ysD bl) _ hT57 hT7 (fun g hg => by have := hF5 g hg; omega) (fun g hg => by have := hg.2; omega) hyl hyo
    have n0 : (w6.alloc (.cells #[.string (str (nmD bl)), .slice ja (ysD bl).length jc] 24)).cell? ⟨w6.heap.size, 0, none⟩ = some (.string (str (nmD bl))) := by rw [cell_of_row _ _ 0 _ _ _ hN7]; rfl
    have n1 : (w6.alloc (.cells #[.string (str (nmD bl)), .slice ja (ysD bl).length jc] 24)).cell? ⟨w6.heap.size, 1, none⟩ = some (.slice ja (ysD bl).length jc) := by rw [cell_of_row _ _ 1 _ _ _ hN7]; rfl
    have o0 : (w6.alloc (.cells #[.string (str (nmD bl)), .slice ja (ysD bl).length jc] 24)).cell? ⟨w4.heap.size, 0, none⟩ = some (.string (str (nmD bl))) := by rw [cell_of_row _ _ 0 _ _ _ hN57]; rfl
    have o1 : (w6.alloc (.cells #[.string (str (nmD bl)), .slice ja (ysD bl).length jc] 24)).cell? ⟨w4.heap.size, 1, none⟩ = some (.slice ia (ysD bl).length ic) := by rw [cell_of_row _ _ 1 _ _ _ hN57]; rfl
    clear hT5 hT6 bA7 hr5 b6 B5 B75 hRd5 hT57 hT7 hN5 hN7 hN57
    go_wp2_with fail
    generalize w6.alloc (.cells #[.string (str (nmD bl)), .slice ja (ysD bl).length jc] 24) = W7 at *
    refine hkI.mono ?_
    rintro e w8 ⟨rfl, b8⟩
    have hr8 := hr7.kept (wkept_below b8) (fun _ h => h)
    have hRd8 := rdW hRd7 b8
    have B8 := B7.trans (b8.mono B7.size)
    have hin := Wire.intact _ b0 fg fc bl w8 hbl hc3 hcm3 hRd8 hr8
    clear hkI hr7 hRd7 B7 n0 n1 o0 o1 b8
    go_wp2_with fail
    refine hin.mono ?_
    rintro e w9 ⟨rfl, k9⟩
    have B9 := B8.trans ((k9.below (Nat.le_refl _) (fun _ _ h => h)).mono B8.size)
    have hkn := known7 w9
    clear hin hr8 hRd8 B8 k9
    go_wp2_with fail
    refine hkn.mono ?_
    rintro e w10 ⟨rfl, b10⟩
    have hbw := hWS _ (B9.trans (b10.mono B9.size))
    go_wp2
    go_ret
    exact ⟨rfl, hbw⟩
end Go.Proofs.YtalbjbahgbkifaaGreat

namespace Go.Proofs.YtalbjbahgbkifaaGreat
open Go.ChangeShapes Go.WideShapes Go.ChangeAt Go.RowKit Go.Deep

set_option maxRecDepth 100000 in
theorem bytesC {H : Type} {enc : TypeId × Value → H} {W : World} {fuel : Nat} {a0 : Option Addr} {len0 cap0 : Nat} {x : DataW H × List MemPlace} (hf : DataW.trod enc Tryz.prog W 0 (fun _ => true) true fuel 26 (Value.slice a0 len0 cap0).cells.toList = some x) (hw : WOk 26 x.1) :
    ∃ b0 l, Wire.Rd W b0 (.slice a0 len0 cap0) l ∧ (∀ y ∈ l, y < 256) ∧ l.length ≤ 140737488351232 ∧ len0 ≤ cap0 ∧ cap0 ≤ maxLen := by
  rcases open_ints Tryz.underlying26 Tryz.underlying5 (by kernel_rfl) hf with ⟨hcs, hx⟩ | ⟨a, ln, c, zs, hcs, _, hl, hm, hz, hx, hcell, hwz⟩
  · simp [Value.cells] at hcs
    obtain ⟨rfl, rfl, rfl⟩ := hcs
    exact ⟨0, [], .inl ⟨rfl, rfl⟩, by simp, by simp, by omega, by simp⟩
  · simp [Value.cells] at hcs
    obtain ⟨rfl, rfl, rfl⟩ := hcs
    simp at hz
    have hwf : ∀ z ∈ zs, 0 ≤ z ∧ z ≤ 255 := fun z hz => bounds_u8 (hwz z hz)
    rw [hx] at hw
    obtain ⟨w1, w2⟩ := w_slice Tryz.underlying26 hw
    have hbytes : len0 ≤ 140737488351232 := by
      have hb : Tryz.prog.bytesOf 5 = 1 := by kernel_rfl
      rw [hb, reach_is] at w1
      simp only [lits, List.length_map, List.length_take, List.length_drop] at w1
      omega
    refine ⟨a.block, (zs.take len0).map Int.toNat, ?_, ?_, by simp; omega, hl, hm⟩
    · right
      refine ⟨a, cap0, by simp; omega, rfl, fun j u hu => ?_⟩
      have hj : j < len0 := by
        have := (List.getElem?_eq_some_iff.1 hu).1
        rw [Wire.bs_length] at this
        simp at this
        omega
      rw [hcell j (by omega)]
      rw [Wire.bs, List.getElem?_map, List.getElem?_map, List.getElem?_take, if_pos hj, List.getElem?_eq_getElem (show j < zs.length by omega)] at hu
      rw [← hu]
      have hw := hwf zs[j] (List.getElem_mem (show j < zs.length by omega))
      simp [List.getD, show j < zs.length by omega]
      omega
    · intro y hy
      obtain ⟨z, hz1, rfl⟩ := List.mem_map.1 hy
      have := hwf z (List.mem_of_mem_take hz1)
      omega

theorem ownIfaceReads : ownKnob Tryz.prog.godebug = none := by kernel_rfl
theorem laidIfaceReads : laidOutB Tryz.prog = true := by kernel_rfl
set_option maxRecDepth 100000 in
theorem ifaceReads_lifted (os : Os) (started : os.Started) (H : Type) (enc : TypeId × Value → H) :
    ReturnsInHanded {} Tryz.checked os 4 .any (Rows.ifaceReadsSpec.pre6 enc Tryz.prog Tryz.f4 Rows.ifaceReadsRow.domain false) (Rows.ifaceReadsSpec.post enc Tryz.prog Tryz.f4 false true false false) := by
  refine returnsInHanded_of_change_sized (C := Tryz.checked) ownIfaceReads started (by kernel_rfl) Tryz.func4
    (ChangeSpec.witness6 (enc := enc) (C := Tryz.checked) false ⟨#[], #[.slice none 0 0, .agg #[.string ByteArray.empty, .slice none 0 0], .int .i64 0, .int .u8 0], []⟩ 8 (by kernel_rfl) (by kernel_rfl) (by kernel_rfl) (by kernel_rfl)) ?_
  intro W base args ds gs before hval0 hW hcnd hsz0 _
  have hval : ∀ (j : Nat) t v, Tryz.f4.params[j]? = some t → args[j]? = some v → Value.okWide Tryz.prog W .any base t v := hval0
  have hsz : (DataW.weightsEach Tryz.prog (Tryz.f4.params.toList ++ Rows.ifaceReadsSpec.plain.varTypes Tryz.prog) (ds ++ gs)).all (· ≤ reachBytes) = true := hsz0
  have hW' := hW
  obtain ⟨p, q, hA0, hV, rfl, hfz, hnd⟩ := hW
  have hA : DataW.TrodAll enc Tryz.prog W 0 (fun _ => true) true Tryz.f4.params.toList args.toList ds p := hA0
  rw [Tryz.params4] at hA hval hsz
  obtain ⟨v0, vs0, d0, ds0, p0, q0, hargs, rfl, rfl, h0, r0⟩ := trodAll_cons hA
  obtain ⟨v1, vs1, d1, ds1, p1, q1, rfl, rfl, rfl, h1, r1⟩ := trodAll_cons r0
  obtain ⟨v2, vs2, d2, ds2, p2, q2, rfl, rfl, rfl, h2, r2⟩ := trodAll_cons r1
  obtain ⟨v3, vs3, d3, ds3, p3, q3, rfl, rfl, rfl, h3, r3⟩ := trodAll_cons r2
  obtain ⟨rfl, rfl, rfl⟩ := trodAll_nil r3
  obtain rfl : args = #[v0, v1, v2, v3] := by cases args; simp_all
  obtain ⟨rfl, rfl⟩ := trodVars_none hV
  have hw0 : WOk 26 d0 := fun n hn => by simpa using List.all_eq_true.1 hsz _ (DataW.weights_mem_each (j := 0) (t := 26) (d := d0) rfl rfl n hn)
  have hw1 : WOk 24 d1 := fun n hn => by simpa using List.all_eq_true.1 hsz _ (DataW.weights_mem_each (j := 1) (t := 24) (d := d1) rfl rfl n hn)
  have k0 := h0
  have k1 := h1
  have lt0 : ∀ x ∈ p0, x.block < W.heap.size := by obtain ⟨m, hm⟩ := k0; exact DataW.trod_lt m _ _ _ hm
  have lt1 : ∀ x ∈ p1, x.block < W.heap.size := by obtain ⟨m, hm⟩ := k1; exact DataW.trod_lt m _ _ _ hm
  obtain ⟨a0, len0, cap0, rfl⟩ := okWide_slice Tryz.underlying26 (hval 0 26 v0 rfl rfl)
  obtain ⟨f0, hf0⟩ := h0
  obtain ⟨b0, bl, y1, y2, y3, y4, y5⟩ := bytesC (by simpa [Value.cells] using hf0) hw0
  obtain ⟨m, l, va, vc, rfl, hm, hI, hl, hok⟩ := iface_open (hval 1 24 v1 rfl rfl) h1 hw1
  obtain ⟨n, rfl, rfl, rfl, w2⟩ := open_int Tryz.underlying3 (hval 2 3 v2 rfl rfl) h2
  have c2 := bounds_i64 w2
  obtain ⟨t, rfl, rfl, rfl, w3⟩ := open_int Tryz.underlying5 (hval 3 5 v3 rfl rfl) h3
  have c3 := bounds_u8 w3
  obtain ⟨tt, rfl⟩ : ∃ tt : Nat, t = (tt : Int) := ⟨t.toNat, by omega⟩
  have hwalk := reads_walk (fun g => g < W.heap.size) m l va vc _ b0 bl n tt W hI y1 (fun g hg => hg) hm hok y3 y2 ⟨a0, len0, cap0, rfl, y4, y5⟩ c2.1 c2.2 (by omega)
  clear hA0 hval0
  simp only [List.append_nil] at hW'
  refine hwalk.mono fun e W' ⟨he, bel⟩ => ?_
  subst he
  exact ⟨_, rfl, _, _, _, [], _, [], hW', trodAll_mk1 (shut_bool Tryz.underlying4 _), (trodAll_cons_mk (Below.trod laidIfaceReads (by kernel_rfl) (of_decide_eq_true (by kernel_rfl)) k0 bel lt0) (trodAll_cons_mk (Below.trod laidIfaceReads (by kernel_rfl) (of_decide_eq_true (by kernel_rfl)) k1 bel lt1) (trodAll_cons_mk (shut_int Tryz.underlying3 w2) (trodAll_cons_mk (shut_int Tryz.underlying5 w3) trodAll_mk0)))), rfl, bel.frame _, fun h => by cases h⟩

theorem ifaceReads_holds : Rows.IfaceReadsSaid :=
  OpenClaim.holds_of_wide 4 Tryz.f4 rfl rfl rfl rfl rfl rfl rfl ⟨rfl, rfl, rfl, rfl, rfl⟩ rfl rfl rfl rfl rfl (by kernel_rfl) Tryz.func4 (by kernel_rfl)
    (of_decide_eq_true (by kernel_rfl)) (by unfold Func.isWrapper; first | (rw [if_pos (by decide +kernel)]; kernel_rfl) | (rw [if_neg (by decide +kernel)]; exact ⟨rfl, rfl⟩))
    (fun os started H enc _ => ifaceReads_lifted os started H enc)
#print axioms ifaceReads_holds
end Go.Proofs.YtalbjbahgbkifaaGreat
