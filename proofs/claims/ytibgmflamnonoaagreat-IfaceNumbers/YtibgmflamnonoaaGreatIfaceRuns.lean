/-
  Chapter 7's runs, as contracts at what is in memory.
-/
import Derived.Test.YtibgmflamnonoaaGreatIfaceOfC
import Derived.Test.YtibgmflamnonoaaGreatIfaceRight
namespace Go.Proofs.YtibgmflamnonoaaGreat
open Go.RowKit

theorem it_one {u : World} {s : Nat} {k : Int} {n t : List UInt8} (h : u.heap[s]? = some (.cells #[.int .i64 k, .string (str n), .string (str t), .slice none 0 0] 24 (0, 0))) : ItR (fun g => g < u.heap.size) u (.slice (some ⟨s, 0, none⟩) 1 1) [⟨k, n, t, []⟩] := by
  obtain ⟨c0, c1, c2, c3, _⟩ := four4 h
  refine .inr ⟨s, 0, 1, rfl, by simp, (Array.getElem?_eq_some_iff.1 h).1, fun j x hj => ?_⟩
  obtain ⟨hj1, rfl⟩ := List.getElem?_eq_some_iff.1 hj
  obtain rfl : j = 0 := by simpa using hj1
  exact ⟨_, CsR.nil _ _, c0, c1, c2, c3⟩
theorem it_two {u : World} {s : Nat} {k : Int} {n t : List UInt8} (h : u.heap[s]? = some (.cells #[.int .i64 k, .string (str n), .string (str t), .slice none 0 0, .int .i64 k, .string (str n), .string (str t), .slice none 0 0] 24 (0, 0))) : ItR (fun g => g < u.heap.size) u (.slice (some ⟨s, 0, none⟩) 2 2) [⟨k, n, t, []⟩, ⟨k, n, t, []⟩] := by
  refine .inr ⟨s, 0, 2, rfl, by simp, (Array.getElem?_eq_some_iff.1 h).1, fun j x hj => ?_⟩
  obtain ⟨hj1, rfl⟩ := List.getElem?_eq_some_iff.1 hj
  have hj2 : j = 0 ∨ j = 1 := by simp at hj1; omega
  rcases hj2 with rfl | rfl <;> refine ⟨_, CsR.nil _ _, ?_, ?_, ?_, ?_⟩ <;> rw [cell_of_row u s _ _ _ (0, 0) h] <;> rfl
theorem tx_blk {u : World} {s : Nat} {xs : List (List UInt8)} (h : u.heap[s]? = some (.cells (sc xs).toArray 9 (0, 0))) : TxR (fun g => g < u.heap.size) u (.slice (some ⟨s, 0, none⟩) xs.length xs.length) xs := by
  refine .inr ⟨s, 0, xs.length, rfl, (Array.getElem?_eq_some_iff.1 h).1, fun j x hj => ?_⟩
  rw [cell_of_row u s _ _ _ (0, 0) h]
  simp [sc, hj]
theorem ok1 (k : Int) (n t : List UInt8) (h1 : -9223372036854775808 ≤ k) (h2 : k ≤ 9223372036854775807) (h3 : n.length ≤ 24) (h4 : t.length ≤ 24) : ItOk ⟨k, n, t, []⟩ := ⟨h1, h2, by unfold Tk; simp only; omega, by unfold Tk; simp only; omega, by simp, by simp⟩
theorem run_find (u : World) (s : Nat) (h : u.heap[s]? = some (.cells #[.int .i64 2, .string ⟨#[102]⟩, .string ⟨#[110, 117, 109]⟩, .slice none 0 0] 24 (0, 0))) : Calls Tryz.prog 9 #[.agg #[.string ⟨#[109]⟩, .slice (some ⟨s, 0, none⟩) 1 1], .string ⟨#[103]⟩] u fun e w' => ∃ ca cc, e = .returned (.tuple #[.agg #[.int .i64 0, .string ⟨#[]⟩, .string ⟨#[]⟩, .slice ca 0 cc], .bool false]) ∧ Below u.heap.size u w' := by
  refine (find7 (fun g => g < u.heap.size) [109] [⟨2, [102], [110, 117, 109], []⟩] (some ⟨s, 0, none⟩) 1 [103] u (it_one h) (fun _ h => h) (fun x hx => ?_) (by simp)).mono ?_
  · obtain rfl := List.mem_singleton.1 hx
    exact ok1 _ _ _ (by decide) (by decide) (by decide) (by decide)
  · rintro e w' ⟨x, cv, rfl, hx, hC, hb⟩
    obtain rfl : x = it0 := hx
    obtain ⟨ca, cc, rfl⟩ := hC.shape
    exact ⟨ca, cc, rfl, hb⟩
theorem run_right_twice (u : World) (s : Nat) (h : u.heap[s]? = some (.cells #[.int .i64 3, .string ⟨#[102]⟩, .string ⟨#[40, 41, 110, 117, 109]⟩, .slice none 0 0, .int .i64 3, .string ⟨#[102]⟩, .string ⟨#[40, 41, 110, 117, 109]⟩, .slice none 0 0] 24 (0, 0))) : Calls Tryz.prog 13 #[.agg #[.string ⟨#[109]⟩, .slice (some ⟨s, 0, none⟩) 2 2]] u (NumB 13 u) :=
  (right7 (fun g => g < u.heap.size) [109] _ [⟨3, [102], [40, 41, 110, 117, 109], []⟩, ⟨3, [102], [40, 41, 110, 117, 109], []⟩] u (it_two h) (fun _ h => h) (by unfold Tk; decide) (fun x hx => by
    simp only [List.mem_cons, List.not_mem_nil, or_false, or_self] at hx
    subst hx
    exact ok1 _ _ _ (by decide) (by decide) (by decide) (by decide))).mono fun e w' h => by
    rw [show (13 : Nat) = rightI [109] [⟨3, [102], [40, 41, 110, 117, 109], []⟩, ⟨3, [102], [40, 41, 110, 117, 109], []⟩] by kernel_rfl]
    exact h
theorem run_right_zero (u : World) : Calls Tryz.prog 13 #[.agg #[.string ⟨#[]⟩, .slice none 0 0]] u (NumB 13 u) :=
  (right7 (fun _ => False) [] _ [] u (ItR.nil _ _) (fun _ h => h.elim) (by unfold Tk; decide) (fun x hx => by simp at hx)).mono fun e w' h => h
theorem run_right_one (u : World) (s : Nat) (k : Int) (n t : List UInt8) (y : Nat) (h : u.heap[s]? = some (.cells #[.int .i64 k, .string (str n), .string (str t), .slice none 0 0] 24 (0, 0))) (h1 : -9223372036854775808 ≤ k) (h2 : k ≤ 9223372036854775807) (h3 : n.length ≤ 24) (h4 : t.length ≤ 24) (hy : rightI [109] [⟨k, n, t, []⟩] = y) : Calls Tryz.prog 13 #[.agg #[.string ⟨#[109]⟩, .slice (some ⟨s, 0, none⟩) 1 1]] u (NumB y u) := by
  subst hy
  exact right7 (fun g => g < u.heap.size) [109] _ [⟨k, n, t, []⟩] u (it_one h) (fun _ h => h) (by unfold Tk; decide) (fun x hx => by
    obtain rfl := List.mem_singleton.1 hx
    exact ok1 _ _ _ h1 h2 h3 h4)
theorem run_17 : rightI [109] [⟨3, [102], [110, 117, 109], []⟩] = 17 := by kernel_rfl
theorem run_12 : rightI [109] [⟨1, [84], [], []⟩] = 12 := by kernel_rfl
theorem run_breaks (u : World) (s s2 x : Nat) (t2 : List UInt8) (used out : List (List UInt8)) (h : u.heap[s]? = some (.cells #[.int .i64 2, .string ⟨#[102]⟩, .string ⟨#[110, 117, 109]⟩, .slice none 0 0] 24 (0, 0))) (h2 : u.heap[s2]? = some (.cells #[.int .i64 2, .string (str [102]), .string (str t2), .slice none 0 0] 24 (0, 0))) (h3 : u.heap[x]? = some (.cells (sc used).toArray 9 (0, 0))) (ht : t2.length ≤ 24) (hu : ∀ y ∈ used, Tk y) (hul : used.length ≤ 3) (ho : breaksI [⟨2, [102], [110, 117, 109], []⟩] [⟨2, [102], t2, []⟩] used = out) :
    Calls Tryz.prog 12 #[.agg #[.string ⟨#[109]⟩, .slice (some ⟨s, 0, none⟩) 1 1], .agg #[.string ⟨#[109]⟩, .slice (some ⟨s2, 0, none⟩) 1 1], .slice (some ⟨x, 0, none⟩) used.length used.length] u fun e w' => ∃ v', e = .returned v' ∧ StrRow w' v' out ∧ Below u.heap.size u w' := by
  subst ho
  exact breaks7 (fun g => g < u.heap.size) [109] [109] [⟨2, [102], [110, 117, 109], []⟩] [⟨2, [102], t2, []⟩] (some ⟨s, 0, none⟩) 1 (some ⟨s2, 0, none⟩) 1 _ used u (it_one h) (it_one h2) (tx_blk h3) (fun _ h => h)
    (fun x hx => by
      obtain rfl := List.mem_singleton.1 hx
      exact ok1 _ _ _ (by decide) (by decide) (by decide) (by decide))
    (fun x hx => by
      obtain rfl := List.mem_singleton.1 hx
      exact ok1 _ _ _ (by decide) (by decide) (by decide) ht) (by simp) (by simp) (by omega) hu
theorem once_ffg : onceR [[102], [102], [103]] = [[102], [103]] := by
  refine onceR_eq (by unfold Asc; decide) (fun x => ?_)
  simp
theorem once_f : onceR [[102]] = [[102]] := by
  refine onceR_eq (by unfold Asc; simp) (fun x => ?_)
  simp
theorem run_out1 : breaksI [⟨2, [102], [110, 117, 109], []⟩] [⟨2, [102], [98, 121, 116, 101, 115], []⟩] [[102], [102], [103]] = [[102]] := by
  rw [breaksI, once_ffg]
  decide +kernel
theorem run_out2 : breaksI [⟨2, [102], [110, 117, 109], []⟩] [⟨2, [102], [110, 117, 109], []⟩] [[102]] = [] := by
  rw [breaksI, once_f]
  decide +kernel
theorem run_of (u : World) (e k : Nat) (h : u.heap[e]? = some (.cells #[.string ⟨#[99]⟩, .string ⟨#[99]⟩] 9 (0, 0))) (hk : u.heap[k]? = some (.cells #[.string ⟨#[99]⟩, .string ⟨#[110, 117, 109]⟩, .int .i64 1, .int .i64 0, .string ⟨#[]⟩, .complex .f64 0 0, .string ⟨#[]⟩, .string ⟨#[]⟩, .slice none 0 0, .slice none 0 0, .slice none 0 0] 42 (0, 0))) :
    Calls Tryz.prog 10 #[.agg #[.string ⟨#[109]⟩, .slice none 0 0, .slice (some ⟨e, 0, none⟩) 2 2, .slice none 0 0, .slice (some ⟨k, 0, none⟩) 1 1, .slice none 0 0]] u (OfBad 15 u) := by
  refine of_taken (fun g => g < u.heap.size) [109] (some ⟨e, 0, none⟩) 2 [[99], [99]] (some ⟨k, 0, none⟩) 1 [([99], [110, 117, 109])] (.int .i64 1) (.int .i64 0) (.string ⟨#[]⟩) (.complex .f64 0 0) (.string ⟨#[]⟩) (.string ⟨#[]⟩) (.slice none 0 0) (.slice none 0 0) (.slice none 0 0) (fun cn ct => by first | kernel_rfl | simp [Value.oneCell']) u ?_ (tx_blk (xs := [[99], [99]]) h) (fun _ h => h) (fun x hx => ?_) (by unfold Tk; decide) (fun x hx => ?_) (by simp) (by simp) (by simp) 1 (by simp) (fun q hq => ?_) (fun i hi h1 => ?_) (by kernel_rfl)
  · refine .inr ⟨k, 0, 1, rfl, (Array.getElem?_eq_some_iff.1 hk).1, fun j x hj => ?_⟩
    obtain ⟨hj1, rfl⟩ := List.getElem?_eq_some_iff.1 hj
    obtain rfl : j = 0 := by simpa using hj1
    refine ⟨?_, ?_, ?_, ?_, ?_, ?_, ?_, ?_, ?_, ?_, ?_⟩ <;> rw [cell_of_row u k _ _ _ (0, 0) hk] <;> rfl
  · obtain rfl := List.mem_singleton.1 hx
    exact ⟨by unfold Tk; decide, by unfold Tk; decide⟩
  · simp only [List.mem_cons, List.not_mem_nil, or_false, or_self] at hx
    subst hx
    unfold Tk
    decide
  · simp only [List.mem_cons, List.not_mem_nil, or_false, or_self] at hq
    subst hq
    rfl
  · obtain rfl : i = 0 := by omega
    rfl
end Go.Proofs.YtibgmflamnonoaaGreat
