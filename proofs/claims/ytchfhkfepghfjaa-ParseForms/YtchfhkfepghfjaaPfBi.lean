/-
  ParseForms: each form has the Kids that stand in it, in their order, at their places; no conditions.
-/
import Derived.ProofKit
import Derived.OpenShut
import Derived.Deep.Slices
import Derived.Deep.LoopGhost
import Derived.Test.YtchfhkfepghfjaaRows
import Derived.Test.YtchfhkfepghfjaaPfAf
import Derived.Test.YtchfhkfepghfjaaPfAj
import Derived.Test.YtchfhkfepghfjaaPfBh
namespace Go.Proofs.Ytchfhkfepghfjaa
open Go.ChangeShapes Go.WideShapes Go.ChangeAt Go.RowKit Go.Deep

theorem tmod_emod (n m : Int) (hm : 0 < m) : (0 ≤ n.tmod m ∧ n.tmod m = n % m) ∨ (n.tmod m < 0 ∧ n.tmod m + m = n % m) := by
  have h := Int.tmod_eq_emod (a := n) (b := m)
  have h1 := Int.emod_nonneg n (show m ≠ 0 by omega)
  have h2 := Int.emod_lt_of_pos n hm
  by_cases hc : 0 ≤ n ∨ m ∣ n
  · rw [if_pos hc] at h
    left
    omega
  · rw [if_neg hc] at h
    right
    omega
set_option maxRecDepth 1000000 in
theorem bookWithin (n : Int) (hi : Nat) (_h0 : -9223372036854775808 ≤ n) (_h1 : n ≤ 9223372036854775807) (hh : hi ≤ 1000000000) (w : World) : Calls Try.prog 4 #[.int .i64 n, .int .i64 0, .int .i64 hi] w (Pu (.int .i64 (n % ((hi : Int) + 1))) w) := by
  have hb := Int.emod_lt_of_pos n (show 0 < (hi : Int) + 1 by omega)
  have hb0 := Int.emod_nonneg n (show (hi : Int) + 1 ≠ 0 by omega)
  have hne : ¬ ((hi : Int) + 1 = 0) := by omega
  have hpos : (0 : Int) < (hi : Int) + 1 := by omega
  rcases tmod_emod n (hi + 1) (by omega) with ⟨h2, h3⟩ | ⟨h2, h3⟩
  · rw [← h3] at hb hb0 ⊢
    generalize hz : n.tmod ((hi : Int) + 1) = z at *
    clear h3
    go_enter Try.func4, Try.ntmps4
    go_wp2
    go_ret
    exact ⟨rfl, rfl⟩
  · rw [← h3] at hb hb0 ⊢
    generalize hz : n.tmod ((hi : Int) + 1) = z at *
    clear h3
    rw [← Int.add_assoc]
    go_enter Try.func4, Try.ntmps4
    go_wp2
    go_ret
    exact ⟨rfl, rfl⟩
/-- Which piece stands where. -/
def kF1 (zs : List Int) (i : Nat) : Nat := if i < zs.length then (zs.getD i 0 % 4).toNat else 0
theorem kF1_lt (zs : List Int) (i : Nat) : kF1 zs i < 4 := by
  unfold kF1
  split <;> omega
def ksF (zs : List Int) (n : Nat) : List Nat := (List.range n).map (kF1 zs)
theorem ksF_len (zs : List Int) (n : Nat) : (ksF zs n).length = n := by simp [ksF]
theorem ksF_next (zs : List Int) (n : Nat) : ksF zs (n + 1) = ksF zs n ++ [kF1 zs n] := by simp [ksF, List.range_succ]
theorem ksF_take (zs : List Int) (n j : Nat) (h : j ≤ n) : (ksF zs n).take j = ksF zs j := by
  simp [ksF, ← List.map_take, List.take_range, Nat.min_eq_left h]
theorem ksF_get (zs : List Int) (n j : Nat) (h : j < n) : (ksF zs n)[j]? = some (kF1 zs j) := by
  simp [ksF, h]
/-- What is written so far. -/
def hdF (zs : List Int) (n : Nat) : List UInt8 := [40, 99, 97, 108, 108] ++ textF (ksF zs n)
theorem hdF_next (zs : List Int) (n : Nat) : hdF zs (n + 1) = (hdF zs n ++ [32]) ++ pieceB (kF1 zs n) := by
  simp [hdF, ksF_next, textF]
theorem hdF_end (zs : List Int) (n : Nat) : hdF zs n ++ [41] = callText (ksF zs n) := by
  simp [hdF, callText, callK]
theorem hdF_len (zs : List Int) (n : Nat) : (hdF zs n).length ≤ 5 + 6 * n := by
  have := callText_len (ksF zs n)
  rw [ksF_len] at this
  simp [hdF]
  omega
def atF (zs : List Int) (n : Nat) : List Nat := (List.range n).map (fun j => (hdF zs j).length + 1)
theorem atF_len (zs : List Int) (n : Nat) : (atF zs n).length = n := by simp [atF]
theorem atF_next (zs : List Int) (n : Nat) : atF zs (n + 1) = atF zs n ++ [(hdF zs n).length + 1] := by simp [atF, List.range_succ]
theorem atF_get (zs : List Int) (n j : Nat) (h : j < n) : (ic (atF zs n))[j]? = some (.int .i64 (((hdF zs j).length + 1 : Nat) : Int)) := by
  simp [ic, atF, h]
theorem exKids_get : ∀ (ks : List Nat) (p i : Nat) (h : i < ks.length), (exKids p ks)[i]? = some (exPiece ks[i] (p + (textF (ks.take i)).length))
  | [], p, i, h => by simp at h
  | k :: r, p, 0, h => by simp [exKids, textF]
  | k :: r, p, i + 1, h => by
    have := exKids_get r (p + (pieceB k).length + 1) i (by simpa using h)
    rw [exKids, List.getElem?_cons_succ, this]
    simp [textF]
    congr 1
    omega
theorem exKids_len : ∀ (ks : List Nat) (p : Nat), (exKids p ks).length = ks.length
  | [], _ => rfl
  | k :: r, p => by rw [exKids, List.length_cons, exKids_len, List.length_cons]
theorem exPiece_place (k p : Nat) : (exPiece k p).place = p := by
  unfold exPiece
  repeat' split
  all_goals rfl
def kindF (k : Nat) : Nat := if k = 0 then 3 else if k = 1 then 2 else if k = 2 then 1 else 12
theorem exPiece_kind (k p : Nat) : (exPiece k p).kind = kindF k := by
  unfold exPiece kindF
  repeat' split
  all_goals rfl
def formX (ks : List Nat) : Ex := ⟨11, 0, [], 0, 0, [], [], exKids 6 ks, [], [], []⟩
theorem form_mem {F : Nat → Prop} {w : World} {kv pv av : Value} {zs : List Int} {n : Nat} (h : XI F w kv pv av (formX (ksF zs (n + 1)))) : ∃ g o cap, kv = .slice (some ⟨g, o, none⟩) (n + 1) cap ∧ F g ∧ ∀ j, j < n + 1 → w.cell? ⟨g, o + j * 9, none⟩ = some (.int .i64 (kindF (kF1 zs j) : Int)) ∧ w.cell? ⟨g, o + j * 9 + 1, none⟩ = some (.int .i64 (((hdF zs j).length + 1 : Nat) : Int)) := by
  obtain ⟨h1, _, _⟩ := (XI_iff F w kv pv av _).1 h
  have hl : (formX (ksF zs (n + 1))).kids.length = n + 1 := by
    show (exKids 6 (ksF zs (n + 1))).length = _
    rw [exKids_len, ksF_len]
  obtain ⟨g, o, cap, _, _, _, e1, hF, _⟩ := h1.at 0 (by omega)
  rw [hl] at e1
  refine ⟨g, o, cap, e1, hF, fun j hj => ?_⟩
  obtain ⟨g', o', cap', k', p', a', e2, _, _, hc⟩ := h1.at j (by omega)
  rw [e1] at e2
  simp only [Value.slice.injEq, Option.some.injEq, Addr.mk.injEq, and_true] at e2
  obtain ⟨⟨rfl, rfl⟩, _, _⟩ := e2
  have hg := exKids_get (ksF zs (n + 1)) 6 j (by rw [ksF_len]; exact hj)
  have hk : (ksF zs (n + 1))[j]'(by rw [ksF_len]; exact hj) = kF1 zs j := by simp [ksF]
  rw [hk, ksF_take zs (n + 1) j (by omega)] at hg
  have hgx : (formX (ksF zs (n + 1))).kids[j]'(by omega) = exPiece (kF1 zs j) (6 + (textF (ksF zs j)).length) := (List.getElem?_eq_some_iff.1 hg).2
  rw [hgx, exPiece_kind, exPiece_place] at hc
  refine ⟨hc.1, ?_⟩
  rw [show o + j * 9 + 1 = o + (j * 9 + 1) by omega, hc.2.1]
  congr 3
  simp [hdF]
  omega

theorem own_cells {B T n : Nat} {u : World} {x : Value} {xs : List Value} (h : u.ownsRow B T 1 x n xs) (hn : 0 < n) : ∃ g cap, x = .slice (some ⟨g, 0, none⟩) n cap ∧ B ≤ g ∧ g < u.heap.size ∧ ∀ (j : Nat) v, xs[j]? = some v → u.cell? ⟨g, j, none⟩ = some v := by
  rcases h.2 with ⟨_, h0⟩ | ⟨g, cap, cur, rfl, hb, hg, _⟩
  · omega
  · refine ⟨g, cap, rfl, hb, (Array.getElem?_eq_some_iff.1 hg).1, fun j v hv => ?_⟩
    have := h.cells (g := g) rfl j v hv
    rwa [add_at] at this
/-- kinds, in whatever memory they came in. -/
def KindsIn (w : World) (a : Option Addr) (zs : List Int) : Prop := ∀ j (h : j < zs.length), ∃ b o, a = some ⟨b, o, none⟩ ∧ b < w.heap.size ∧ w.cell? ⟨b, o + j, none⟩ = some (.int .i64 zs[j])
theorem KindsIn.below {w u : World} {a : Option Addr} {zs : List Int} (h : KindsIn w a zs) (hb : Below w.heap.size w u) (j : Nat) (hj : j < zs.length) : ∃ b o, a = some ⟨b, o, none⟩ ∧ u.cell? ⟨b, o + j, none⟩ = some (.int .i64 zs[j]) := by
  obtain ⟨b, o, h1, h2, h3⟩ := h j hj
  exact ⟨b, o, h1, (World.cell?_of_block (a := ⟨b, o + j, none⟩) (hb.block b h2)).trans h3⟩
set_option maxHeartbeats 8000000 in
set_option maxRecDepth 1000000 in
theorem forms_walk (n0 : Int) (hn0 : -9223372036854775808 ≤ n0) (hn1 : n0 ≤ 9223372036854775807) (zs : List Int) (hz : ∀ z ∈ zs, -9223372036854775808 ≤ z ∧ z ≤ 9223372036854775807) (a1 : Option Addr) (cap1 : Nat) (w : World) (_hzl : zs.length ≤ 9223372036854775807) (hin : KindsIn w a1 zs) :
    Calls Try.prog 3 #[.int .i64 n0, .slice a1 zs.length cap1] w (KnownP w) := by
  have hw6 := bookWithin n0 6 hn0 hn1 (by omega) w
  obtain ⟨n, hn⟩ : ∃ n : Nat, n0 % (((6 : Nat) : Int) + 1) = (n : Int) := ⟨(n0 % 7).toNat, by omega⟩
  have hn6 : n ≤ 6 := by omega
  rw [hn] at hw6
  have HW : Hid (∀ (j : Nat) (h : j < zs.length) (u : World), Calls Try.prog 4 #[.int .i64 zs[j], .int .i64 0, .int .i64 3] u (Pu (.int .i64 (kF1 zs j : Int)) u)) := by
    rw [hid_iff]
    intro j hj u
    have hb := hz _ (List.getElem_mem hj)
    have := bookWithin zs[j] 3 hb.1 hb.2 (by omega) u
    rwa [show zs[j] % (((3 : Nat) : Int) + 1) = (kF1 zs j : Int) by
      unfold kF1
      rw [if_pos hj, List.getD_eq_getElem?_getD, List.getElem?_eq_getElem hj]
      show zs[j] % 4 = _
      rw [Option.getD_some, Int.toNat_of_nonneg (by omega)]] at this
  have HIN : Hid (KindsIn w a1 zs) := hin
  have HK : Hid (∀ j, ¬ j < zs.length → kF1 zs j = 0) := by
    rw [hid_iff]
    intro j hj
    unfold kF1
    rw [if_neg hj]
  have hkn := known6
  clear hn hz hn0 hn1 hin
  go_enter Try.func3, Try.ntmps3
  go_wp2_with fail
  refine hw6.mono ?_
  rintro e w1 ⟨rfl, hw1⟩
  obtain rfl := hw1.symm
  clear hw6
  go_wp2
  go_loopg [5, 6, 7] (n + 1) (fun g s v i wr => ∃ (k : Nat), g + k = n + 1 ∧ s = .string (str (hdF zs k)) ∧ i = .int .i64 (k : Int) ∧ wr.ownsRow w.heap.size 3 1 v (atF zs k).length (ic (atF zs k)) ∧ Below w.heap.size w wr)
  case atStart => exact ⟨0, by omega, rfl, rfl, World.ownsRow_nil _ _ _ _, Below.refl _ _⟩
  case round =>
    obtain ⟨i, hg, rfl, rfl, hown, hbl⟩ := hrel
    have hB := hbl.size
    by_cases hi : i < n + 1
    · have hii : (i : Int) ≤ (n : Int) := by omega
      obtain ⟨A, hA⟩ : ∃ A, A = hdF zs i ++ [32] := ⟨_, rfl⟩
      have hs1 : str (hdF zs i) ++ ⟨#[32]⟩ = str A := by rw [show (⟨#[32]⟩ : ByteArray) = str [32] from rfl, str_append, hA]
      have HAL : Hid ((str A).size = (hdF zs i).length + 1) := by rw [hid_iff, str_size, hA]; simp
      have HAT : Hid (atF zs (i + 1) = atF zs i ++ [(str A).size]) := by rw [hid_iff, atF_next, HAL.out]
      have hal : (atF zs i).length + 1 ≤ 8193 := by rw [atF_len]; omega
      have hszI : (str (hdF zs i)).size ≤ 60 := by have := hdF_len zs i; rw [str_size]; omega
      have hszA : (str A).size ≤ 60 := by have := hdF_len zs i; rw [str_size, hA]; simp; omega
      have HAe : Hid (A = hdF zs i ++ [32]) := hA
      clear hA
      by_cases hik : i < zs.length
      · have hik' : (i : Int) < (zs.length : Int) := by omega
        go_wp2_with (at_builtin; refine append_nat rfl (.tmp 26) (.tmp 29) rfl w.heap.size _ (atF zs i) rfl (hown.alloc _) _ _ (str A).size rfl ?src ?len ?hB ?next)
        case src => first | exact cells_new _ _ _ | exact fun j u h => h
        case len => exact hal
        case hB => simp; omega
        case next =>
          intro ad c' w' k1 k2
          have k3 := below_grown (hown.alloc _) (by simp; omega) (hbl.alloc hB _) k2
          rw [← HAT.out] at k1
          obtain ⟨b, o, rfl, hc⟩ := HIN.out.below k3 i hik
          have hwk := HW.out i hik w'
          go_wp2_with fail
          refine hwk.mono ?_
          rintro e w2 ⟨rfl, hw2⟩
          obtain rfl := hw2.symm
          clear hwk hc
          have h4 := kF1_lt zs i
          rcases (show kF1 zs i = 0 ∨ kF1 zs i = 1 ∨ kF1 zs i = 2 ∨ kF1 zs i = 3 by omega) with hkk | hkk | hkk | hkk
          · rw [hkk]
            have hsk : str A ++ ⟨#[120]⟩ = str (hdF zs (i + 1)) := by rw [show (⟨#[120]⟩ : ByteArray) = str [120] from rfl, str_append, hdF_next, hkk, ← HAe.out]; rfl
            have HB4 : Hid (Below w.heap.size w (w'.alloc (.cells #[.string ⟨#[120]⟩, .string ⟨#[34, 113, 34]⟩, .string ⟨#[49, 50]⟩, .string ⟨#[40, 102, 32, 121, 41]⟩] 9))) := k3.alloc (by have := k3.size; omega) _
            have ho4 := k1.alloc (.cells #[.string ⟨#[120]⟩, .string ⟨#[34, 113, 34]⟩, .string ⟨#[49, 50]⟩, .string ⟨#[40, 102, 32, 121, 41]⟩] 9)
            clear hs1 HAL HAT hal k3 k1 hkk h4 hown hbl k2 HAe
            go_wp2
            go_roundg (n + 1 - (i + 1))
            case measure => omega
            case rel => exact ⟨i + 1, by omega, rfl, by go_num, (by rw [show (atF zs (i + 1)).length = (atF zs i).length + 1 by rw [atF_len, atF_len]]; exact ho4), HB4.out⟩
          · rw [hkk]
            have hsk : str A ++ ⟨#[34, 113, 34]⟩ = str (hdF zs (i + 1)) := by rw [show (⟨#[34, 113, 34]⟩ : ByteArray) = str [34, 113, 34] from rfl, str_append, hdF_next, hkk, ← HAe.out]; rfl
            have HB4 : Hid (Below w.heap.size w (w'.alloc (.cells #[.string ⟨#[120]⟩, .string ⟨#[34, 113, 34]⟩, .string ⟨#[49, 50]⟩, .string ⟨#[40, 102, 32, 121, 41]⟩] 9))) := k3.alloc (by have := k3.size; omega) _
            have ho4 := k1.alloc (.cells #[.string ⟨#[120]⟩, .string ⟨#[34, 113, 34]⟩, .string ⟨#[49, 50]⟩, .string ⟨#[40, 102, 32, 121, 41]⟩] 9)
            clear hs1 HAL HAT hal k3 k1 hkk h4 hown hbl k2 HAe
            go_wp2
            go_roundg (n + 1 - (i + 1))
            case measure => omega
            case rel => exact ⟨i + 1, by omega, rfl, by go_num, (by rw [show (atF zs (i + 1)).length = (atF zs i).length + 1 by rw [atF_len, atF_len]]; exact ho4), HB4.out⟩
          · rw [hkk]
            have hsk : str A ++ ⟨#[49, 50]⟩ = str (hdF zs (i + 1)) := by rw [show (⟨#[49, 50]⟩ : ByteArray) = str [49, 50] from rfl, str_append, hdF_next, hkk, ← HAe.out]; rfl
            have HB4 : Hid (Below w.heap.size w (w'.alloc (.cells #[.string ⟨#[120]⟩, .string ⟨#[34, 113, 34]⟩, .string ⟨#[49, 50]⟩, .string ⟨#[40, 102, 32, 121, 41]⟩] 9))) := k3.alloc (by have := k3.size; omega) _
            have ho4 := k1.alloc (.cells #[.string ⟨#[120]⟩, .string ⟨#[34, 113, 34]⟩, .string ⟨#[49, 50]⟩, .string ⟨#[40, 102, 32, 121, 41]⟩] 9)
            clear hs1 HAL HAT hal k3 k1 hkk h4 hown hbl k2 HAe
            go_wp2
            go_roundg (n + 1 - (i + 1))
            case measure => omega
            case rel => exact ⟨i + 1, by omega, rfl, by go_num, (by rw [show (atF zs (i + 1)).length = (atF zs i).length + 1 by rw [atF_len, atF_len]]; exact ho4), HB4.out⟩
          · rw [hkk]
            have hsk : str A ++ ⟨#[40, 102, 32, 121, 41]⟩ = str (hdF zs (i + 1)) := by rw [show (⟨#[40, 102, 32, 121, 41]⟩ : ByteArray) = str [40, 102, 32, 121, 41] from rfl, str_append, hdF_next, hkk, ← HAe.out]; rfl
            have HB4 : Hid (Below w.heap.size w (w'.alloc (.cells #[.string ⟨#[120]⟩, .string ⟨#[34, 113, 34]⟩, .string ⟨#[49, 50]⟩, .string ⟨#[40, 102, 32, 121, 41]⟩] 9))) := k3.alloc (by have := k3.size; omega) _
            have ho4 := k1.alloc (.cells #[.string ⟨#[120]⟩, .string ⟨#[34, 113, 34]⟩, .string ⟨#[49, 50]⟩, .string ⟨#[40, 102, 32, 121, 41]⟩] 9)
            clear hs1 HAL HAT hal k3 k1 hkk h4 hown hbl k2 HAe
            go_wp2
            go_roundg (n + 1 - (i + 1))
            case measure => omega
            case rel => exact ⟨i + 1, by omega, rfl, by go_num, (by rw [show (atF zs (i + 1)).length = (atF zs i).length + 1 by rw [atF_len, atF_len]]; exact ho4), HB4.out⟩
      · have hik' : ¬ (i : Int) < (zs.length : Int) := by omega
        have HKK : Hid (kF1 zs i = 0) := HK.out i hik
        go_wp2_with (at_builtin; refine append_nat rfl (.tmp 26) (.tmp 29) rfl w.heap.size _ (atF zs i) rfl (hown.alloc _) _ _ (str A).size rfl ?src ?len ?hB ?next)
        case src => first | exact cells_new _ _ _ | exact fun j u h => h
        (try case len => exact hal)
        (try case hB => first | omega | (simp; omega))
        case next =>
          intro ad c' w' k1 k2
          have k3 := below_grown (hown.alloc _) (by simp; omega) (hbl.alloc hB _) k2
          rw [← HAT.out] at k1
          have hkk := HKK.out
          have hsk : str A ++ ⟨#[120]⟩ = str (hdF zs (i + 1)) := by rw [show (⟨#[120]⟩ : ByteArray) = str [120] from rfl, str_append, hdF_next, hkk, ← HAe.out]; rfl
          have HB4 : Hid (Below w.heap.size w (w'.alloc (.cells #[.string ⟨#[120]⟩, .string ⟨#[34, 113, 34]⟩, .string ⟨#[49, 50]⟩, .string ⟨#[40, 102, 32, 121, 41]⟩] 9))) := k3.alloc (by have := k3.size; omega) _
          have ho4 := k1.alloc (.cells #[.string ⟨#[120]⟩, .string ⟨#[34, 113, 34]⟩, .string ⟨#[49, 50]⟩, .string ⟨#[40, 102, 32, 121, 41]⟩] 9)
          clear hs1 HAL HAT hal k3 k1 hkk hown hbl k2 HAe
          go_wp2
          go_roundg (n + 1 - (i + 1))
          case measure => omega
          case rel => exact ⟨i + 1, by omega, rfl, by go_num, (by rw [show (atF zs (i + 1)).length = (atF zs i).length + 1 by rw [atF_len, atF_len]]; exact ho4), HB4.out⟩
    · rename World => w8
      have hii : ¬ ((n + 1 : Nat) : Int) ≤ (n : Int) := by omega
      obtain rfl : i = n + 1 := by omega
      have hs2 : str (hdF zs (n + 1)) ++ ⟨#[41]⟩ = str (callText (ksF zs (n + 1))) := by rw [show (⟨#[41]⟩ : ByteArray) = str [41] from rfl, str_append, hdF_end]
      have hps : ∀ u, Calls Try.prog 5 #[.string (str (callText (ksF zs (n + 1))))] u (PE (.ok (treeF (ksF zs (n + 1)))) u) := by
        intro u
        have := parse (str (callText (ksF zs (n + 1)))) u
        rwa [str_data, form_parse _ (by rw [ksF_len]; omega)] at this
      have hfit := parse_fit (form_parse (ksF zs (n + 1)) (by rw [ksF_len]; omega))
      have HFX := form_expr [109] (ksF zs (n + 1)) (by rw [ksF_len]; omega) (by rw [ksF_len]; omega)
      rw [show (⟨11, 0, [], 0, 0, [], [], exKids 6 (ksF zs (n + 1)), [], [], []⟩ : Ex) = formX (ksF zs (n + 1)) from rfl] at HFX
      have hszH : (str (hdF zs (n + 1))).size ≤ 60 := by have := hdF_len zs (n + 1); rw [str_size]; omega
      rw [atF_len] at hown
      obtain ⟨ga, ca, rfl, hga, hgl, hgc⟩ := own_cells hown (by omega)
      have HAC : Hid (∀ u, Below w8.heap.size w8 u → ∀ j, j < n + 1 → u.cell? ⟨ga, j, none⟩ = some (.int .i64 (((hdF zs j).length + 1 : Nat) : Int))) := by
        rw [hid_iff]
        intro u hu j hj
        exact (World.cell?_of_block (a := ⟨ga, j, none⟩) (hu.block ga hgl)).trans (hgc j _ (atF_get zs (n + 1) j hj))
      clear hgc hown hi hg
      generalize treeF (ksF zs (n + 1)) = T at *
      generalize callText (ksF zs (n + 1)) = CT at *
      go_wp2_with fail
      refine (hps _).mono ?_
      rintro e w1 ⟨⟨kv, rfl, ht⟩, hb1⟩
      obtain ⟨ka, kc, rfl⟩ := ht.shape
      have hF1 : ∀ g, (w8.heap.size ≤ g ∧ g < w1.heap.size) → g < w1.heap.size := fun g hg => hg.2
      have hb2 : Below w1.heap.size w1 (w1.alloc (.cells #[.int .i64 (T.kind : Int), .int .i64 (T.place : Int), .string (str T.text), .slice ka T.kids.length kc] 27)) := (Below.refl _ _).alloc (Nat.le_refl _) _
      have ht2 := ht.below hb2 hF1
      have hb3 := below_trans hb1 hb2
      have hex := exprOf (fun g => w8.heap.size ≤ g ∧ g < w1.heap.size) T (.slice ka T.kids.length kc) [109] _ (fun g hg => by simp; omega) ht2 hfit.1 (by have := hfit.2; omega) (by decide)
      rw [HFX] at hex
      unfold trv at hex ⊢
      clear ht hb1 hb2 ht2 hF1 hps hfit HFX hs2
      go_wp2_with fail
      refine hex.mono ?_
      rintro e w3 ⟨⟨kv, pv, av, rfl, hx⟩, hb4⟩
      obtain ⟨g, o, cap, rfl, hgx, hc⟩ := form_mem hx
      have hb5 := below_trans hb3 hb4
      obtain ⟨a2, c2, rfl⟩ := ((XI_iff _ _ _ _ _ _).1 hx).2.1.shape
      obtain ⟨a3, c3, rfl⟩ := ((XI_iff _ _ _ _ _ _).1 hx).2.2.shape
      have hg3 := hgx.2
      rw [show (exc (formX (ksF zs (n + 1))) (.slice (some ⟨g, o, none⟩) (n + 1) cap) (.slice a2 (formX (ksF zs (n + 1))).params.length c2) (.slice a3 (formX (ksF zs (n + 1))).bods.length c3)).toArray = #[.int .i64 11, .int .i64 0, .string ⟨#[]⟩, .complex .f64 0 0, .string ⟨#[]⟩, .string ⟨#[]⟩, .slice (some ⟨g, o, none⟩) (n + 1) cap, .slice a2 0 c2, .slice a3 0 c3] from by
        simp only [exc, formX, k_zero]; rfl]
      clear hb3 hb4 hx hgx hex
      obtain ⟨hX6, hb6, hwx, h8⟩ := expr_new w3 #[.int .i64 11, .int .i64 0, .string ⟨#[]⟩, .complex .f64 0 0, .string ⟨#[]⟩, .string ⟨#[]⟩, .slice (some ⟨g, o, none⟩) (n + 1) cap, .slice a2 0 c2, .slice a3 0 c3]
      have h9 : (Try.prog.info? 36).map (fun i => i.size) = some (#[.int .i64 11, .int .i64 0, .string ⟨#[]⟩, .complex .f64 0 0, .string ⟨#[]⟩, .string ⟨#[]⟩, .slice (some ⟨g, o, none⟩) (n + 1) cap, .slice a2 0 c2, .slice a3 0 c3] : Array Value).size := sizeX
      have hall : (#[.int .i64 11, .int .i64 0, .string ⟨#[]⟩, .complex .f64 0 0, .string ⟨#[]⟩, .string ⟨#[]⟩, .slice (some ⟨g, o, none⟩) (n + 1) cap, .slice a2 0 c2, .slice a3 0 c3] : Array Value).all (fun v => v.oneCell') = true := by first | kernel_rfl | rfl | simp [Value.oneCell']
      have HX : Hid (∀ u, Below ((w3.alloc (.cells #[.int .i64 0, .int .i64 0, .string ⟨#[]⟩, .complex .f64 0 0, .string ⟨#[]⟩, .string ⟨#[]⟩, .slice none 0 0, .slice none 0 0, .slice none 0 0] 36)).setRow w3.heap.size #[.int .i64 11, .int .i64 0, .string ⟨#[]⟩, .complex .f64 0 0, .string ⟨#[]⟩, .string ⟨#[]⟩, .slice (some ⟨g, o, none⟩) (n + 1) cap, .slice a2 0 c2, .slice a3 0 c3]).heap.size ((w3.alloc (.cells #[.int .i64 0, .int .i64 0, .string ⟨#[]⟩, .complex .f64 0 0, .string ⟨#[]⟩, .string ⟨#[]⟩, .slice none 0 0, .slice none 0 0, .slice none 0 0] 36)).setRow w3.heap.size #[.int .i64 11, .int .i64 0, .string ⟨#[]⟩, .complex .f64 0 0, .string ⟨#[]⟩, .string ⟨#[]⟩, .slice (some ⟨g, o, none⟩) (n + 1) cap, .slice a2 0 c2, .slice a3 0 c3]) u → u.heap[w3.heap.size]? = some (.cells #[.int .i64 11, .int .i64 0, .string ⟨#[]⟩, .complex .f64 0 0, .string ⟨#[]⟩, .string ⟨#[]⟩, .slice (some ⟨g, o, none⟩) (n + 1) cap, .slice a2 0 c2, .slice a3 0 c3] 36 (0, 0)) ∧ ∀ j, j < n + 1 → u.cell? ⟨g, o + j * 9, none⟩ = some (.int .i64 (kindF (kF1 zs j) : Int)) ∧ u.cell? ⟨g, o + j * 9 + 1, none⟩ = some (.int .i64 (((hdF zs j).length + 1 : Nat) : Int))) := by
        rw [hid_iff]
        intro u hu
        refine ⟨(hu.block _ hwx).trans hX6, fun j hj => ?_⟩
        have hbg : u.heap[g]? = w3.heap[g]? := (hu.block g (by omega)).trans (hb6.block g hg3)
        exact ⟨(World.cell?_of_block (a := ⟨g, o + j * 9, none⟩) hbg).trans (hc j hj).1, (World.cell?_of_block (a := ⟨g, o + j * 9 + 1, none⟩) hbg).trans (hc j hj).2⟩
      have hb7 : Below w8.heap.size w8 ((w3.alloc (.cells #[.int .i64 0, .int .i64 0, .string ⟨#[]⟩, .complex .f64 0 0, .string ⟨#[]⟩, .string ⟨#[]⟩, .slice none 0 0, .slice none 0 0, .slice none 0 0] 36)).setRow w3.heap.size #[.int .i64 11, .int .i64 0, .string ⟨#[]⟩, .complex .f64 0 0, .string ⟨#[]⟩, .string ⟨#[]⟩, .slice (some ⟨g, o, none⟩) (n + 1) cap, .slice a2 0 c2, .slice a3 0 c3]) := below_trans hb5 hb6
      have x0 : ((w3.alloc (.cells #[.int .i64 0, .int .i64 0, .string ⟨#[]⟩, .complex .f64 0 0, .string ⟨#[]⟩, .string ⟨#[]⟩, .slice none 0 0, .slice none 0 0, .slice none 0 0] 36)).setRow w3.heap.size #[.int .i64 11, .int .i64 0, .string ⟨#[]⟩, .complex .f64 0 0, .string ⟨#[]⟩, .string ⟨#[]⟩, .slice (some ⟨g, o, none⟩) (n + 1) cap, .slice a2 0 c2, .slice a3 0 c3]).cell? ⟨w3.heap.size, 0, none⟩ = some (.int .i64 11) := by rw [cell_of_row _ _ 0 _ _ _ hX6]; rfl
      have x1 : ((w3.alloc (.cells #[.int .i64 0, .int .i64 0, .string ⟨#[]⟩, .complex .f64 0 0, .string ⟨#[]⟩, .string ⟨#[]⟩, .slice none 0 0, .slice none 0 0, .slice none 0 0] 36)).setRow w3.heap.size #[.int .i64 11, .int .i64 0, .string ⟨#[]⟩, .complex .f64 0 0, .string ⟨#[]⟩, .string ⟨#[]⟩, .slice (some ⟨g, o, none⟩) (n + 1) cap, .slice a2 0 c2, .slice a3 0 c3]).cell? ⟨w3.heap.size, 1, none⟩ = some (.int .i64 0) := by rw [cell_of_row _ _ 1 _ _ _ hX6]; rfl
      have x6 : ((w3.alloc (.cells #[.int .i64 0, .int .i64 0, .string ⟨#[]⟩, .complex .f64 0 0, .string ⟨#[]⟩, .string ⟨#[]⟩, .slice none 0 0, .slice none 0 0, .slice none 0 0] 36)).setRow w3.heap.size #[.int .i64 11, .int .i64 0, .string ⟨#[]⟩, .complex .f64 0 0, .string ⟨#[]⟩, .string ⟨#[]⟩, .slice (some ⟨g, o, none⟩) (n + 1) cap, .slice a2 0 c2, .slice a3 0 c3]).cell? ⟨w3.heap.size, 6, none⟩ = some (.slice (some ⟨g, o, none⟩) (n + 1) cap) := by rw [cell_of_row _ _ 6 _ _ _ hX6]; rfl
      clear hc hb5 hb6 hX6 hg3
      go_wp2_with (refine wpList_store_row rfl 36 (.tmp 12) (.tmp 56) rfl w3.heap.size #[.int .i64 11, .int .i64 0, .string ⟨#[]⟩, .complex .f64 0 0, .string ⟨#[]⟩, .string ⟨#[]⟩, .slice (some ⟨g, o, none⟩) (n + 1) cap, .slice a2 0 c2, .slice a3 0 c3] rfl rfl 36 exz.toArray h8 h9 rfl hall ?_; generalize (w3.alloc (.cells #[.int .i64 0, .int .i64 0, .string ⟨#[]⟩, .complex .f64 0 0, .string ⟨#[]⟩, .string ⟨#[]⟩, .slice none 0 0, .slice none 0 0, .slice none 0 0] 36)).setRow w3.heap.size #[.int .i64 11, .int .i64 0, .string ⟨#[]⟩, .complex .f64 0 0, .string ⟨#[]⟩, .string ⟨#[]⟩, .slice (some ⟨g, o, none⟩) (n + 1) cap, .slice a2 0 c2, .slice a3 0 c3] = w9 at *)
      clear x0 x1 x6 h8
      go_loopg [15] (n + 1) (fun gk i wz => ∃ (j : Nat), gk + j = n + 1 ∧ i = .int .i64 (j : Int) ∧ Below w9.heap.size w9 wz)
      case atStart => exact ⟨0, by omega, rfl, Below.refl _ _⟩
      case round =>
        obtain ⟨j, hgk, rfl, hbz⟩ := hrel
        have hb8 : Below w8.heap.size w8 wr := below_trans hb7 hbz
        have hb9 := below_trans hbl hb8
        obtain ⟨hX, hC⟩ := HX.out wr hbz
        have x6 : wr.cell? ⟨w3.heap.size, 6, none⟩ = some (.slice (some ⟨g, o, none⟩) (n + 1) cap) := by rw [cell_of_row wr _ 6 _ _ _ hX]; rfl
        clear hX
        by_cases hj : j < n + 1
        · obtain ⟨y0, y1⟩ := hC j hj
          have hjn : (j : Int) ≤ (n : Int) := by omega
          have hjl : (j : Int) < (n : Int) + 1 := by omega
          have z1 := HAC.out wr hb8 j hj
          generalize (((hdF zs j).length + 1 : Nat) : Int) = pj at y1 z1
          have HR : Hid (Below w9.heap.size w9 wr) := hbz
          have HRA : Hid (∀ ob, Below w9.heap.size w9 (wr.alloc ob)) := by
            rw [hid_iff]
            intro ob
            exact hbz.alloc hbz.size ob
          clear hC hbz hb8
          by_cases hik : j < zs.length
          · have hik' : (j : Int) < (zs.length : Int) := by omega
            obtain ⟨b, ob, rfl, hc⟩ := HIN.out.below hb9 j hik
            have hwk := HW.out j hik wr
            clear hb9
            go_wp2_with fail
            refine hwk.mono ?_
            rintro e w2 ⟨rfl, hw2⟩
            obtain rfl := hw2.symm
            clear hwk hc
            have h4 := kF1_lt zs j
            rcases (show kF1 zs j = 0 ∨ kF1 zs j = 1 ∨ kF1 zs j = 2 ∨ kF1 zs j = 3 by omega) with hkk | hkk | hkk | hkk
            · rw [hkk] at y0 ⊢
              replace y0 : wr.cell? ⟨g, o + j * 9, none⟩ = some (.int .i64 3) := y0
              have x6a := cell_new x6 (.cells #[.int .i64 3, .int .i64 2, .int .i64 1, .int .i64 12] 3)
              have y0a := cell_new y0 (.cells #[.int .i64 3, .int .i64 2, .int .i64 1, .int .i64 12] 3)
              clear hkk h4
              go_wp2_with fail
              go_region
              all_goals (
                go_wp2
                go_roundg (n + 1 - (j + 1))
                case measure => omega
                case rel => exact ⟨j + 1, by omega, by go_num, by first | exact below_drew HR.out | exact HR.out | exact below_drew (HRA.out _) | exact HRA.out _⟩)
            · rw [hkk] at y0 ⊢
              replace y0 : wr.cell? ⟨g, o + j * 9, none⟩ = some (.int .i64 2) := y0
              have x6a := cell_new x6 (.cells #[.int .i64 3, .int .i64 2, .int .i64 1, .int .i64 12] 3)
              have y0a := cell_new y0 (.cells #[.int .i64 3, .int .i64 2, .int .i64 1, .int .i64 12] 3)
              clear hkk h4
              go_wp2_with fail
              go_region
              all_goals (
                go_wp2
                go_roundg (n + 1 - (j + 1))
                case measure => omega
                case rel => exact ⟨j + 1, by omega, by go_num, by first | exact below_drew HR.out | exact HR.out | exact below_drew (HRA.out _) | exact HRA.out _⟩)
            · rw [hkk] at y0 ⊢
              replace y0 : wr.cell? ⟨g, o + j * 9, none⟩ = some (.int .i64 1) := y0
              have x6a := cell_new x6 (.cells #[.int .i64 3, .int .i64 2, .int .i64 1, .int .i64 12] 3)
              have y0a := cell_new y0 (.cells #[.int .i64 3, .int .i64 2, .int .i64 1, .int .i64 12] 3)
              clear hkk h4
              go_wp2_with fail
              go_region
              all_goals (
                go_wp2
                go_roundg (n + 1 - (j + 1))
                case measure => omega
                case rel => exact ⟨j + 1, by omega, by go_num, by first | exact below_drew HR.out | exact HR.out | exact below_drew (HRA.out _) | exact HRA.out _⟩)
            · rw [hkk] at y0 ⊢
              replace y0 : wr.cell? ⟨g, o + j * 9, none⟩ = some (.int .i64 12) := y0
              have x6a := cell_new x6 (.cells #[.int .i64 3, .int .i64 2, .int .i64 1, .int .i64 12] 3)
              have y0a := cell_new y0 (.cells #[.int .i64 3, .int .i64 2, .int .i64 1, .int .i64 12] 3)
              clear hkk h4
              go_wp2_with fail
              go_region
              all_goals (
                go_wp2
                go_roundg (n + 1 - (j + 1))
                case measure => omega
                case rel => exact ⟨j + 1, by omega, by go_num, by first | exact below_drew HR.out | exact HR.out | exact below_drew (HRA.out _) | exact HRA.out _⟩)
          · have hik' : ¬ (j : Int) < (zs.length : Int) := by omega
            have hkk := HK.out j hik
            clear hb9
            rw [hkk] at y0
            replace y0 : wr.cell? ⟨g, o + j * 9, none⟩ = some (.int .i64 3) := y0
            have x6a := cell_new x6 (.cells #[.int .i64 3, .int .i64 2, .int .i64 1, .int .i64 12] 3)
            have y0a := cell_new y0 (.cells #[.int .i64 3, .int .i64 2, .int .i64 1, .int .i64 12] 3)
            clear hkk
            go_wp2_with fail
            go_region
            all_goals (
              go_wp2
              go_roundg (n + 1 - (j + 1))
              case measure => omega
              case rel => exact ⟨j + 1, by omega, by go_num, by first | exact below_drew HR.out | exact HR.out | exact below_drew (HRA.out _) | exact HRA.out _⟩)
        · have hjn : ¬ (j : Int) ≤ (n : Int) := by omega
          clear hC x6
          go_wp2_with fail
          refine (hkn wr).mono ?_
          rintro e w5 ⟨rfl, hb⟩
          go_wp2
          go_ret
          exact ⟨rfl, below_trans hb9 hb⟩

theorem ints_rows {H : Type} {enc : TypeId × Value → H} {W : World} {fuel : Nat} {a0 : Option Addr} {len0 cap0 : Nat} {x : DataW H × List MemPlace} (hf : DataW.trod enc Try.prog W 0 (fun _ => true) true fuel 22 [.slice a0 len0 cap0] = some x) :
    ∃ zs : List Int, zs.length = len0 ∧ len0 ≤ 9223372036854775807 ∧ (∀ z ∈ zs, -9223372036854775808 ≤ z ∧ z ≤ 9223372036854775807) ∧ KindsIn W a0 zs := by
  rcases open_ints Try.underlying22 Try.underlying3 (by kernel_rfl) hf with ⟨hcs, _⟩ | ⟨a, ln, c, zs, hcs, _, hl, hm, hz, _, hcell, hwz⟩
  · simp at hcs
    obtain ⟨rfl, rfl, rfl⟩ := hcs
    exact ⟨[], rfl, by omega, by simp, fun j h => by simp at h⟩
  · simp at hcs
    obtain ⟨rfl, rfl, rfl⟩ := hcs
    simp at hz
    unfold maxLen at hm
    have hlen : (zs.take len0).length = len0 := by rw [List.length_take]; omega
    refine ⟨zs.take len0, hlen, by omega, ?_, ?_⟩
    · intro z hz'
      have := bounds_i64 (hwz z (List.mem_of_mem_take hz'))
      omega
    · intro j h
      have hjz : j < zs.length := by omega
      have hc := hcell j hjz
      obtain ⟨ab, ao, asp⟩ := a
      have hsp : asp = none := by
        have h0 := hcell 0 (by omega)
        simpa [Addr.add] using World.cell?_spot h0
      subst hsp
      have hc' : W.cell? ⟨ab, ao + j, none⟩ = some (.int .i64 (zs.take len0)[j]) := by
        have e : (⟨ab, ao, none⟩ : Addr).add j = ⟨ab, ao + j, none⟩ := by
          by_cases h0 : j = 0
          · subst h0; simp [Addr.add]
          · simp [Addr.add, h0]
        rw [← e, hc]
        simp [List.getD, List.getElem?_eq_getElem hjz]
      exact ⟨ab, ao, rfl, World.block_lt_of_cell? W _ hc', hc'⟩

theorem ownParseForms : ownKnob Try.prog.godebug = none := by kernel_rfl
theorem laidParseForms : laidOutB Try.prog = true := by kernel_rfl
set_option maxRecDepth 100000 in
theorem parseForms_lifted (os : Os) (started : os.Started) (H : Type) (enc : TypeId × Value → H) :
    ReturnsInHanded {} Try.checked os 3 .any (Rows.parseFormsSpec.pre6 enc Try.prog Try.f3 Rows.parseFormsRow.domain false) (Rows.parseFormsSpec.post enc Try.prog Try.f3 false true false false) := by
  refine returnsInHanded_of_change (C := Try.checked) ownParseForms started (by kernel_rfl) Try.func3
    (ChangeSpec.witness6 (enc := enc) (C := Try.checked) false ⟨#[], #[.int .i64 0, .slice none 0 0], []⟩ 8 (by kernel_rfl) (by kernel_rfl) (by kernel_rfl) (by kernel_rfl)) ?_
  intro W base args ds gs before hval0 hW hcnd _
  have hval : ∀ (j : Nat) t v, Try.f3.params[j]? = some t → args[j]? = some v → Value.okWide Try.prog W .any base t v := hval0
  have hW' := hW
  obtain ⟨p, q, hA0, hV, rfl, hfz, hnd⟩ := hW
  have hA : DataW.TrodAll enc Try.prog W 0 (fun _ => true) true Try.f3.params.toList args.toList ds p := hA0
  rw [Try.params3] at hA hval
  obtain ⟨v0, vs0, d0, ds0, p0, q0, hargs, rfl, rfl, h0, r0⟩ := trodAll_cons hA
  obtain ⟨v1, vs1, d1, ds1, p1, q1, rfl, rfl, rfl, h1, r1⟩ := trodAll_cons r0
  obtain ⟨rfl, rfl, rfl⟩ := trodAll_nil r1
  obtain rfl : args = #[v0, v1] := by cases args; simp_all
  obtain ⟨rfl, rfl⟩ := trodVars_none hV
  obtain ⟨a0, rfl, rfl, rfl, w0⟩ := open_int Try.underlying3 (hval 0 3 v0 rfl rfl) h0
  have b0 := bounds_i64 w0
  obtain ⟨a1, len1, cap1, rfl⟩ := okWide_slice Try.underlying22 (hval 1 22 v1 rfl rfl)
  have k1 := h1
  have lt1 : ∀ x ∈ p1, x.block < W.heap.size := by obtain ⟨m, hm⟩ := k1; exact DataW.trod_lt m _ _ _ hm
  obtain ⟨f1, hf1⟩ := h1
  obtain ⟨zs, z1, z2, z3, z4⟩ := ints_rows (by simpa [Value.cells] using hf1)
  subst z1
  have hwalk := forms_walk a0 (by omega) (by omega) zs z3 a1 cap1 W z2 z4
  clear hA0 hval0
  simp only [List.append_nil] at hW'
  refine hwalk.mono fun e W' ⟨he, bel⟩ => ?_
  subst he
  exact ⟨_, rfl, _, _, _, [], _, [], hW', trodAll_mk1 (shut_bool Try.underlying4 _), (trodAll_cons_mk (shut_int Try.underlying3 w0) (trodAll_cons_mk (Below.trod laidParseForms (by kernel_rfl) (of_decide_eq_true (by kernel_rfl)) k1 bel lt1) trodAll_mk0)), rfl, bel.frame _, fun h => by cases h⟩

theorem parseForms_holds : Rows.ParseFormsSaid :=
  OpenClaim.holds_of_wide 3 Try.f3 rfl rfl rfl rfl rfl rfl rfl ⟨rfl, rfl, rfl, rfl, rfl⟩ rfl rfl rfl rfl rfl (by kernel_rfl) Try.func3 (by kernel_rfl)
    (of_decide_eq_true (by kernel_rfl)) (by unfold Func.isWrapper; first | (rw [if_pos (by decide +kernel)]; kernel_rfl) | (rw [if_neg (by decide +kernel)]; exact ⟨rfl, rfl⟩))
    (fun os started H enc _ => parseForms_lifted os started H enc)
#print axioms parseForms_holds
end Go.Proofs.Ytchfhkfepghfjaa
