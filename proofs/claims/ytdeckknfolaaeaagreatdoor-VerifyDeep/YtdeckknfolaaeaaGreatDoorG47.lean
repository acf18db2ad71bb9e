/-
  The statements' small objects in memory; chapter 15's runs.
  And: hawserbook.Within from 0 on.
-/
import Derived.Test.YtdeckknfolaaeaaGreatDoorG46
import Derived.Test.YtdeckknfolaaeaaGreatDoorG04
namespace Go.Proofs.YtdeckknfolaaeaaGreatDoor
open Go.RowKit Go.Maps

def smV (fb eb : Nat) : Value := .agg #[.string ⟨#[109]⟩, .slice none 0 0, .slice none 0 0, .slice none 0 0, .slice (some ⟨fb, 0, none⟩) 1 1, .slice (some ⟨eb, 0, none⟩) 1 1, .slice none 0 0, .slice none 0 0]
def smC (s : ByteArray) (loc : Int) (cv : Value) : Array Value := #[.string ⟨#[102]⟩, .slice none 0 0, .int .i64 0, .string s, .int .i64 loc, cv]
/-- What small leaves. -/
def SmE (s : ByteArray) (cv : Value) (w : World) (e : Ending) (w' : World) : Prop :=
  ∃ fb eb, e = .returned (smV fb eb) ∧ w.heap.size ≤ fb ∧ w.heap.size ≤ eb ∧ fb ≠ eb ∧ w'.heap[fb]? = some (.cells (smC s 1 cv) 63 (0, 0)) ∧ w'.heap[eb]? = some (.cells #[.string ⟨#[102]⟩] 9 (0, 0)) ∧ Below w.heap.size w w'
set_option maxRecDepth 1000000 in
set_option maxHeartbeats 2000000 in
theorem vsmall (s : ByteArray) (ca : Option Addr) (n cc : Nat) (w : World) : Calls Tryz.prog 9 #[.string s, .slice ca n cc] w (SmE s (.slice ca n cc) w) := by
  go_enter Tryz.func9, Tryz.ntmps9
  go_wp2_with fail
  have e2 : w.heap.size + 1 + 1 = w.heap.size + 2 := rfl
  rw [e2]
  obtain ⟨w1, hw1⟩ : ∃ w1, w1 = w.alloc (.cells #[.string ⟨#[109]⟩, .slice none 0 0, .slice none 0 0, .slice none 0 0, .slice (some ⟨w.heap.size + 1, 0, none⟩) 1 1, .slice (some ⟨w.heap.size + 2, 0, none⟩) 1 1, .slice none 0 0, .slice none 0 0] 31) := ⟨_, rfl⟩
  have z1 : w1.heap.size = w.heap.size + 1 := by rw [hw1]; simp
  have n1 : w1.heap[w.heap.size]? = some (.cells #[.string ⟨#[109]⟩, .slice none 0 0, .slice none 0 0, .slice none 0 0, .slice (some ⟨w.heap.size + 1, 0, none⟩) 1 1, .slice (some ⟨w.heap.size + 2, 0, none⟩) 1 1, .slice none 0 0, .slice none 0 0] 31 (0, 0)) := by rw [hw1]; exact World.alloc_heap_new w _
  have b1 : Below w.heap.size w w1 := by rw [hw1]; exact (Below.refl _ w).alloc (Nat.le_refl _) _
  rw [← hw1]
  have n2 := World.alloc_heap_new w1 (.cells #[.string ⟨#[102]⟩, .slice none 0 0, .int .i64 0, .string s, .int .i64 1, .slice ca n cc] 63)
  have z2 : (w1.alloc (.cells #[.string ⟨#[102]⟩, .slice none 0 0, .int .i64 0, .string s, .int .i64 1, .slice ca n cc] 63)).heap.size = w.heap.size + 2 := by rw [World.size_alloc, z1]
  have b2 := b1.alloc b1.size (.cells #[.string ⟨#[102]⟩, .slice none 0 0, .int .i64 0, .string s, .int .i64 1, .slice ca n cc] 63)
  have n12 := (Below.heap_alloc w1 (.cells #[.string ⟨#[102]⟩, .slice none 0 0, .int .i64 0, .string s, .int .i64 1, .slice ca n cc] 63) w.heap.size (by omega)).trans n1
  rw [z1] at n2
  generalize w1.alloc (.cells #[.string ⟨#[102]⟩, .slice none 0 0, .int .i64 0, .string s, .int .i64 1, .slice ca n cc] 63) = w2 at *
  have n3 := World.alloc_heap_new w2 (.cells #[.string ⟨#[102]⟩] 9)
  rw [z2] at n3
  have n13 := (Below.heap_alloc w2 (.cells #[.string ⟨#[102]⟩] 9) w.heap.size (by omega)).trans n12
  have n23 := (Below.heap_alloc w2 (.cells #[.string ⟨#[102]⟩] 9) (w.heap.size + 1) (by omega)).trans n2
  have b3 := b2.alloc b2.size (.cells #[.string ⟨#[102]⟩] 9)
  (try simp only [Exit.inBlock, Exit.then])
  refine bodyPost_ret (results_cell_row rfl _ _ w.heap.size 31 _ (0, 0) _ rfl n13 Tryz.underlying31 rfl sizeOb15) rfl ?_
  exact ⟨w.heap.size + 1, w.heap.size + 2, rfl, by omega, by omega, by omega, n23, n3, b3⟩
theorem fnR_sm {F : Nat → Prop} {w : World} {fb : Nat} {s : ByteArray} {loc : Int} {cv : Value} {res code : List UInt8} (h : w.heap[fb]? = some (.cells (smC s loc cv) 63 (0, 0))) (hs : s = str res) (hF : F fb) (hc : ByR F w cv code) : FnR F w (.slice (some ⟨fb, 0, none⟩) 1 1) [fS res loc code] := by
  refine .inr ⟨fb, 0, 1, rfl, Nat.le_refl _, hF, fun j x hj => ?_⟩
  match j, hj with
  | 0, hj =>
    simp only [List.getElem?_cons_zero, Option.some.injEq] at hj
    subst hj
    refine ⟨[.string (str [102]), .slice none 0 0, .int .i64 0, .string (str res), .int .i64 loc, cv], ⟨.slice none 0 0, cv, rfl, ⟨TxR.nil _ _, by rintro a n c hh; simp only [Value.slice.injEq] at hh; omega⟩, hc⟩, fun i y hy => ?_⟩
    rw [cell_of_row _ _ _ _ _ _ h, ← hs] at *
    rw [Nat.zero_mul, Nat.zero_add]
    have e : smC s loc cv = ([.string (str [102]), .slice none 0 0, .int .i64 0, .string s, .int .i64 loc, cv] : List Value).toArray := rfl
    rw [e, List.getElem?_toArray]
    exact hy
  | j + 1, hj => simp at hj
theorem txC_sm {F : Nat → Prop} {w : World} {eb : Nat} (h : w.heap[eb]? = some (.cells #[.string ⟨#[102]⟩] 9 (0, 0))) (hF : F eb) : TxC F w (.slice (some ⟨eb, 0, none⟩) 1 1) [[102]] := by
  refine ⟨.inr ⟨eb, 0, 1, rfl, hF, fun j x hj => ?_⟩, by rintro a n c hh; simp only [Value.slice.injEq] at hh; omega⟩
  match j, hj with
  | 0, hj =>
    simp only [List.getElem?_cons_zero, Option.some.injEq] at hj
    subst hj
    rw [cell_of_row _ _ _ _ _ _ h]
    rfl
  | j + 1, hj => simp at hj
/-- verify's answer of a small object. -/
theorem vrun {F : Nat → Prop} {w : World} {fb eb : Nat} {s : ByteArray} {loc : Int} {cv : Value} {res code : List UInt8} {r : Nat × Int} (hf : w.heap[fb]? = some (.cells (smC s loc cv) 63 (0, 0))) (he : w.heap[eb]? = some (.cells #[.string ⟨#[102]⟩] 9 (0, 0))) (hs : s = str res) (hFf : F fb) (hFe : F eb) (hc : ByR F w cv code) (hF : ∀ g, F g → g < w.heap.size) (hr : res.length ≤ 100) (hl : 0 ≤ loc ∧ loc ≤ 100) (hok : okL res loc code = true) (hv : objV oth0 (fS res loc code) = r) :
    Calls Tryz.prog 10 #[smV fb eb, .slice none 0 0] w (ThreeI r w) := by
  have := vobject F oth0 [109] (fS res loc code) [[102]] (.slice (some ⟨fb, 0, none⟩) 1 1) (.slice (some ⟨eb, 0, none⟩) 1 1) none 0 w (fnR_sm hf hs hFf hc) (txC_sm he hFe) hF (one_ok hr hl hok)
  rw [hv] at this
  exact this
/-- Bytes of a block. -/
theorem byR_blk {F : Nat → Prop} {w : World} {b : Nat} {l : List UInt8} (h : w.heap[b]? = some (.cells (bc l).toArray 5 (0, 0))) (hF : F b) : ByR F w (.slice (some ⟨b, 0, none⟩) l.length l.length) l := by
  refine .inr ⟨b, 0, l.length, rfl, Nat.le_refl _, hF, fun j x hj => ?_⟩
  rw [cell_of_row _ _ _ _ _ _ h, Nat.zero_add, List.getElem?_toArray]
  simp [bc, hj]
theorem byR_own {F : Nat → Prop} {w : World} {B : Nat} {v : Value} {l : List UInt8} (h : w.ownsRow B 5 1 v l.length (bc l)) (hF : ∀ g, B ≤ g → g < w.heap.size → F g) : ByR F w v l := by
  rcases h.2 with ⟨rfl, hn⟩ | ⟨g, cap, cur, rfl, h2, h3, h4, _, _, h7⟩
  · exact .inl ⟨none, 0, rfl, List.eq_nil_of_length_eq_zero hn⟩
  · refine .inr ⟨g, 0, cap, rfl, h4, hF g h2 (Array.getElem?_eq_some_iff.1 h3).1, fun j x hj => ?_⟩
    have hjl := (List.getElem?_eq_some_iff.1 hj).1
    rw [Nat.zero_add, h.cellAt j (by omega)]
    simp [bc, hj]
/-- A code in a block, the object that small makes of it, and what verify answers. -/
theorem vrun_blk {u w2 : World} {fb eb : Nat} {s : ByteArray} {res code : List UInt8} {r : Nat × Int} (hs : s = str res) (hr : res.length ≤ 100) (hok : okL res 1 code = true) (hv : objV oth0 (fS res 1 code) = r) (h1 : (u.alloc (.cells (bc code).toArray 5)).heap.size ≤ fb) (h2 : (u.alloc (.cells (bc code).toArray 5)).heap.size ≤ eb) (h4 : w2.heap[fb]? = some (.cells (smC s 1 (.slice (some ⟨u.heap.size, 0, none⟩) code.length code.length)) 63 (0, 0))) (h5 : w2.heap[eb]? = some (.cells #[.string ⟨#[102]⟩] 9 (0, 0))) (h6 : Below (u.alloc (.cells (bc code).toArray 5)).heap.size (u.alloc (.cells (bc code).toArray 5)) w2) :
    Calls Tryz.prog 10 #[smV fb eb, .slice none 0 0] w2 (ThreeI r w2) := by
  have hb : Below u.heap.size u (u.alloc (.cells (bc code).toArray 5)) := (Below.refl _ u).alloc (Nat.le_refl _) _
  have hz : (u.alloc (.cells (bc code).toArray 5)).heap.size = u.heap.size + 1 := by simp
  have hx := h6.size
  have hn := (h6.block u.heap.size (by omega)).trans (World.alloc_heap_new u (.cells (bc code).toArray 5))
  have l4 := (Array.getElem?_eq_some_iff.1 h4).1
  have l5 := (Array.getElem?_eq_some_iff.1 h5).1
  exact vrun (F := fun g => u.heap.size ≤ g ∧ g < w2.heap.size) h4 h5 hs ⟨by omega, l4⟩ ⟨by omega, l5⟩ (byR_blk hn ⟨Nat.le_refl _, by omega⟩) (fun g hg => hg.2) hr (by omega) hok hv
set_option maxRecDepth 1000000 in
set_option maxHeartbeats 4000000 in
theorem known15 (w : World) : Calls Tryz.prog 13 #[] w fun e w' => e = .returned (.bool true) ∧ Below w.heap.size w w' := by
  have hb : ∀ (x : World) (o : Obj), Below x.heap.size x (x.alloc o) := fun x o => (Below.refl _ x).alloc (Nat.le_refl _) _
  have hsm : ∀ (s : ByteArray) (u : World) (ca : Option Addr) (n cc : Nat), Calls Tryz.prog 9 #[.string s, .slice ca n cc] u (SmE s (.slice ca n cc) u) := fun s u ca n cc => vsmall s ca n cc u
  unfold SmE at hsm
  have HA : Hid (∀ (u w2 : World) (fb eb : Nat), (u.alloc (.cells #[.int .u8 1, .int .u8 2, .int .u8 0, .int .u8 15] 5)).heap.size ≤ fb → (u.alloc (.cells #[.int .u8 1, .int .u8 2, .int .u8 0, .int .u8 15] 5)).heap.size ≤ eb → w2.heap[fb]? = some (.cells (smC ⟨#[110, 117, 109]⟩ 1 (.slice (some ⟨u.heap.size, 0, none⟩) 4 4)) 63 (0, 0)) → w2.heap[eb]? = some (.cells #[.string ⟨#[102]⟩] 9 (0, 0)) → Below (u.alloc (.cells #[.int .u8 1, .int .u8 2, .int .u8 0, .int .u8 15] 5)).heap.size (u.alloc (.cells #[.int .u8 1, .int .u8 2, .int .u8 0, .int .u8 15] 5)) w2 →
    Calls Tryz.prog 10 #[smV fb eb, .slice none 0 0] w2 fun e w' => e = .returned (.tuple #[.int .i64 0, .int .i64 0, .int .i64 0]) ∧ Below w2.heap.size w2 w') := fun u w2 fb eb h1 h2 h4 h5 h6 => vrun_blk (code := [1, 2, 0, 15]) (res := numT) rfl (by decide) known_a known_va h1 h2 h4 h5 h6
  have HB : Hid (∀ (u w2 : World) (fb eb : Nat), (u.alloc (.cells #[.int .u8 1, .int .u8 2, .int .u8 0, .int .u8 15] 5)).heap.size ≤ fb → (u.alloc (.cells #[.int .u8 1, .int .u8 2, .int .u8 0, .int .u8 15] 5)).heap.size ≤ eb → w2.heap[fb]? = some (.cells (smC ⟨#[98, 121, 116, 101, 115]⟩ 1 (.slice (some ⟨u.heap.size, 0, none⟩) 4 4)) 63 (0, 0)) → w2.heap[eb]? = some (.cells #[.string ⟨#[102]⟩] 9 (0, 0)) → Below (u.alloc (.cells #[.int .u8 1, .int .u8 2, .int .u8 0, .int .u8 15] 5)).heap.size (u.alloc (.cells #[.int .u8 1, .int .u8 2, .int .u8 0, .int .u8 15] 5)) w2 →
    Calls Tryz.prog 10 #[smV fb eb, .slice none 0 0] w2 fun e w' => e = .returned (.tuple #[.int .i64 17, .int .i64 0, .int .i64 3]) ∧ Below w2.heap.size w2 w') := fun u w2 fb eb h1 h2 h4 h5 h6 => vrun_blk (code := [1, 2, 0, 15]) (res := bytesT) rfl (by decide) known_b known_vb h1 h2 h4 h5 h6
  have HC : Hid (∀ (u w2 : World) (fb eb : Nat), (u.alloc (.cells #[.int .u8 3, .int .u8 0, .int .u8 15] 5)).heap.size ≤ fb → (u.alloc (.cells #[.int .u8 3, .int .u8 0, .int .u8 15] 5)).heap.size ≤ eb → w2.heap[fb]? = some (.cells (smC ⟨#[110, 117, 109]⟩ 1 (.slice (some ⟨u.heap.size, 0, none⟩) 3 3)) 63 (0, 0)) → w2.heap[eb]? = some (.cells #[.string ⟨#[102]⟩] 9 (0, 0)) → Below (u.alloc (.cells #[.int .u8 3, .int .u8 0, .int .u8 15] 5)).heap.size (u.alloc (.cells #[.int .u8 3, .int .u8 0, .int .u8 15] 5)) w2 →
    Calls Tryz.prog 10 #[smV fb eb, .slice none 0 0] w2 fun e w' => e = .returned (.tuple #[.int .i64 21, .int .i64 0, .int .i64 0]) ∧ Below w2.heap.size w2 w') := fun u w2 fb eb h1 h2 h4 h5 h6 => vrun_blk (code := [3, 0, 15]) (res := numT) rfl (by decide) known_c known_vc h1 h2 h4 h5 h6
  go_enter Tryz.func13, Tryz.ntmps13
  go_wp2_with fail
  refine (hsm _ _ _ _ _).mono ?_
  rintro e w2 ⟨fb, eb, rfl, h1, h2, -, h4, h5, h6⟩
  have hrun := HA.out _ _ _ _ h1 h2 h4 h5 h6
  have B2 : Hid (Below w.heap.size w w2) := (hb w _).trans (h6.mono (hb w _).size)
  clear h1 h2 h4 h5 h6
  go_wp2_with fail
  refine hrun.mono ?_
  rintro e w3 ⟨rfl, hb3⟩
  have B3 : Hid (Below w.heap.size w w3) := B2.out.trans (hb3.mono B2.out.size)
  clear hrun hb3
  go_wp2_with fail
  refine (hsm _ _ _ _ _).mono ?_
  rintro e w4 ⟨fb4, eb4, rfl, h1, h2, -, h4, h5, h6⟩
  have hrun := HB.out _ _ _ _ h1 h2 h4 h5 h6
  have B4 : Hid (Below w.heap.size w w4) := (B3.out.trans ((hb w3 _).mono B3.out.size)).trans (h6.mono (Nat.le_trans B3.out.size (hb w3 _).size))
  clear h1 h2 h4 h5 h6
  go_wp2_with fail
  refine hrun.mono ?_
  rintro e w5 ⟨rfl, hb5⟩
  have B5 : Hid (Below w.heap.size w w5) := B4.out.trans (hb5.mono B4.out.size)
  clear hrun hb5
  go_wp2_with fail
  refine (hsm _ _ _ _ _).mono ?_
  rintro e w6 ⟨fb6, eb6, rfl, h1, h2, -, h4, h5, h6⟩
  have hrun := HC.out _ _ _ _ h1 h2 h4 h5 h6
  have B6 : Hid (Below w.heap.size w w6) := (B5.out.trans ((hb w5 _).mono B5.out.size)).trans (h6.mono (Nat.le_trans B5.out.size (hb w5 _).size))
  clear h1 h2 h4 h5 h6
  go_wp2_with fail
  refine hrun.mono ?_
  rintro e w7 ⟨rfl, hb7⟩
  have B7 : Hid (Below w.heap.size w w7) := B6.out.trans (hb7.mono B6.out.size)
  clear hrun hb7 hsm hb
  go_wp2
  go_ret
  exact ⟨rfl, B7.out⟩
end Go.Proofs.YtdeckknfolaaeaaGreatDoor

namespace Go.Proofs.YtdeckknfolaaeaaGreatDoor
open Go.RowKit

theorem tmodQ (n m : Int) (hm : 0 < m) : (0 ≤ n.tmod m ∧ n.tmod m = n % m) ∨ (n.tmod m < 0 ∧ n.tmod m + m = n % m) := by
  have h := Int.tmod_eq_emod (a := n) (b := m)
  have h1 := Int.emod_nonneg n (show m ≠ 0 by omega)
  have h2 := Int.emod_lt_of_pos n hm
  by_cases hc : 0 ≤ n ∨ m ∣ n
  · rw [if_pos hc] at h
    left
    omega
  · rw [if_neg hc] at h
    right
    omega
set_option maxRecDepth 1000000 in
theorem withinQ (n : Int) (hi : Nat) (_h0 : -9223372036854775808 ≤ n) (_h1 : n ≤ 9223372036854775807) (hh : hi ≤ 1000000000) (w : World) : Calls Tryz.prog 15 #[.int .i64 n, .int .i64 0, .int .i64 hi] w (Pu (.int .i64 (n % ((hi : Int) + 1))) w) := by
  have hb := Int.emod_lt_of_pos n (show 0 < (hi : Int) + 1 by omega)
  have hb0 := Int.emod_nonneg n (show (hi : Int) + 1 ≠ 0 by omega)
  have hne : ¬ ((hi : Int) + 1 = 0) := by omega
  have hpos : (0 : Int) < (hi : Int) + 1 := by omega
  rcases tmodQ n (hi + 1) (by omega) with ⟨h2, h3⟩ | ⟨h2, h3⟩
  · rw [← h3] at hb hb0 ⊢
    generalize hz : n.tmod ((hi : Int) + 1) = z at *
    clear h3
    go_enter Tryz.func15, Tryz.ntmps15
    go_wp2
    go_ret
    exact ⟨rfl, rfl⟩
  · rw [← h3] at hb hb0 ⊢
    generalize hz : n.tmod ((hi : Int) + 1) = z at *
    clear h3
    rw [← Int.add_assoc]
    go_enter Tryz.func15, Tryz.ntmps15
    go_wp2
    go_ret
    exact ⟨rfl, rfl⟩

end Go.Proofs.YtdeckknfolaaeaaGreatDoor
