/-
  Object's writer: lists of items, globals, functions, symbols, relocations.
-/
import Derived.Test.YtfjppbpicmniaaaGreatDoorG40
namespace Go.Proofs.YtfjppbpicmniaaaGreatDoor
open Go.RowKit

theorem its_cases {x : It} (h : ItS x) : x.cases.length ≤ 65535 ∧ ∀ c ∈ x.cases, CsS c := by
  by_cases hk : x.kind = 1
  · obtain ⟨_, h2, h3⟩ := h.cases1 hk
    exact ⟨by omega, h3⟩
  · obtain ⟨h1, _⟩ := h.ty1 hk
    rw [h1]
    exact ⟨by simp, by simp⟩
set_option maxHeartbeats 4000000 in
set_option maxRecDepth 1000000 in
theorem wlistI (D F : Nat → Prop) (v : Value) (xs : List It) (b : Nat) (l : List Nat) (w : World) (hD : ∀ k, D k → k < w.heap.size) (hF : ∀ g, F g → D g) (hr : ItR F w v xs) (hn : xs.length ≤ 65535) (hok : ∀ x ∈ xs, ItS x) (hl : l.length + (lsB itemB xs).length + 30 ≤ 140737488355328) (hw : WB D w b l) :
    Calls Tryz.prog 93 #[wrv b, v, .func (.func 94) #[wrv b] #[]] w (WP D w b (l ++ lsB itemB xs)) := by
  have hwA := hw.new (.cells #[.pointer (some ⟨b, 0, none⟩)] 97)
  have hDA := Dx.lt hD (.cells #[.pointer (some ⟨b, 0, none⟩)] 97)
  have hrA : ItR F (w.alloc (.cells #[.pointer (some ⟨b, 0, none⟩)] 97)) v xs := hr.frame fun g hg => ⟨hg, Below.heap_alloc _ _ _ (hD g (hF g hg))⟩
  have hFE : ∀ g, F g → Dx D w.heap.size g := fun g hg => .inl (hF g hg)
  have HK : Hid (∀ w' l', WB (Dx D w.heap.size) w' b l' → Kept (fun k => ¬ Dx D w.heap.size k) (w.alloc (.cells #[.pointer (some ⟨b, 0, none⟩)] 97)) w' → l' = l ++ lsB itemB xs → WP D w b (l ++ lsB itemB xs) (.returned (.tuple #[])) w') := by
    rw [hid_iff]
    rintro w' l' h1 h2 rfl
    exact ⟨rfl, h1.less (fun k hk => .inl hk), Dx.kept h2 hD⟩
  have hlB : (lsB itemB xs).length = (Wire.enc xs.length).length + (xs.flatMap itemB).length := by simp [lsB]
  have he0 := Wire.enc_ten xs.length (by omega)
  obtain ⟨va, vc, rfl⟩ := hr.shape
  generalize Dx D w.heap.size = E at *
  have hn1 := onum E xs.length b l _ hDA (by omega) (by omega) hwA
  unfold wrv at *
  clear hwA hr hF hD hw
  go_enter Tryz.func93, Tryz.ntmps93
  go_wp2_with fail
  generalize w.alloc (.cells #[.pointer (some ⟨b, 0, none⟩)] 97) = wA at *
  refine hn1.mono ?_
  rintro e w1 ⟨rfl, hw1, k1⟩
  clear hn1
  have HRU : Hid (∀ u, Kept (fun k => ¬ E k) wA u → ItR F u (.slice va xs.length vc) xs) := by
    rw [hid_iff]
    exact fun u hu => hrA.frame fun g hg => ⟨hg, keep_blk hu (hFE g hg) (hDA g (hFE g hg))⟩
  clear hrA
  go_wp2
  go_loopg [14] xs.length (fun g i wr => ∃ (k : Nat), g + k = xs.length ∧ i = .int .i64 (k : Int) ∧ WB E wr b (l ++ Wire.enc xs.length ++ (xs.take k).flatMap itemB) ∧ Kept (fun k => ¬ E k) wA wr)
  case atStart => exact ⟨0, by omega, rfl, by simpa using hw1, k1⟩
  case round =>
    obtain ⟨k, hg, rfl, hwr, kr⟩ := hrel
    have hDr := keep_lt kr hDA
    by_cases hk : k < xs.length
    · have hki : (k : Int) < (xs.length : Int) := by omega
      have hrow := HRU.out _ kr
      have hst : (xs.take (k + 1)).flatMap itemB = (xs.take k).flatMap itemB ++ itemB xs[k] := flat_take _ xs k hk
      have hsz := flat_le itemB xs (k + 1)
      have hox := hok _ (List.getElem_mem hk)
      obtain ⟨gq, oq, cq, cv, e1, e2, hT, q00, q01, q02, q03⟩ := hrow.at k hk
      simp only [Value.slice.injEq, true_and] at e1
      obtain ⟨rfl, rfl⟩ := e1
      have hcell : True := trivial
      generalize xs[k] = x at *
      obtain ⟨kd, nm, ty, cs⟩ := x
      have hkk := hox.kind
      simp only at hT q00 q01 q02 q03 hkk
      obtain ⟨kn, rfl⟩ : ∃ kn : Nat, kd = (kn : Int) := ⟨kd.toNat, by omega⟩
      obtain ⟨ca, cc, rfl⟩ := hT.shape
      have hcb := itBy_is kn nm ty cs
      obtain ⟨hcs, hcw⟩ := its_cases hox
      simp only at hcs hcw
      rw [hcb] at hst
      rw [hst] at hsz
      simp only [List.length_append] at hsz
      have q0 := q00
      have q1 := q01
      have q2 := q02
      have q3 := q03
      clear hrow hcell
      have hwx := (hwr.new (.cells #[.int .i64 (kn : Int), .string (str nm), .string (str ty), .slice ca cs.length cc] 78)).less (E := E) (fun k hk => .inl hk)
      have kx : Kept (fun k => ¬ E k) wr (wr.alloc (.cells #[.int .i64 (kn : Int), .string (str nm), .string (str ty), .slice ca cs.length cc] 78)) := ⟨rfl, rfl, rfl, by simp, fun z hz _ => Below.heap_alloc _ _ _ hz⟩
      have hDx := keep_lt kx hDr
      have g0 := oitem E F kn nm ty cs ca cc b _ _ hDx hFE (hT.frame fun g hg => ⟨hg, Below.heap_alloc _ _ _ (hDr g (hFE g hg))⟩) (by omega) hcs hcw (by simp only [List.length_append] at hsz ⊢; omega) hwx
      unfold wrv at g0
      clear hwr hwx
      go_wp2_with fail
      refine g0.mono ?_
      rintro e w2 ⟨rfl, hw2, k2⟩
      have kk := keep_trans (keep_trans kr kx) k2
      clear g0 k2 kx hDx q0 q1 q2 q3
      go_wp2
      go_roundg (xs.length - (k + 1))
      case measure => omega
      case rel => exact ⟨k + 1, by omega, by go_num, by rw [hst, ← List.append_assoc]; exact hw2, kk⟩
    · have hki : ¬ (k : Int) < (xs.length : Int) := by omega
      have hQ := HK.out _ _ hwr kr (by rw [List.take_of_length_le (by omega), List.append_assoc]; rfl)
      clear hwr kr HK HRU
      go_wp2
      go_end0
      exact hQ

set_option maxHeartbeats 4000000 in
set_option maxRecDepth 1000000 in
theorem wlistG (D F : Nat → Prop) (v : Value) (xs : List Gl) (b : Nat) (l : List Nat) (w : World) (hD : ∀ k, D k → k < w.heap.size) (hF : ∀ g, F g → D g) (hr : RwR 3 cGl F w v xs) (hn : xs.length ≤ 65535) (hok : ∀ x ∈ xs, GlS x) (hl : l.length + (lsB glB xs).length + 30 ≤ 140737488355328) (hw : WB D w b l) :
    Calls Tryz.prog 96 #[wrv b, v, .func (.func 97) #[wrv b] #[]] w (WP D w b (l ++ lsB glB xs)) := by
  have hwA := hw.new (.cells #[.pointer (some ⟨b, 0, none⟩)] 97)
  have hDA := Dx.lt hD (.cells #[.pointer (some ⟨b, 0, none⟩)] 97)
  have hrA : RwR 3 cGl F (w.alloc (.cells #[.pointer (some ⟨b, 0, none⟩)] 97)) v xs := hr.frame cGl_stay fun g hg => ⟨hg, Below.heap_alloc _ _ _ (hD g (hF g hg))⟩
  have hFE : ∀ g, F g → Dx D w.heap.size g := fun g hg => .inl (hF g hg)
  have HK : Hid (∀ w' l', WB (Dx D w.heap.size) w' b l' → Kept (fun k => ¬ Dx D w.heap.size k) (w.alloc (.cells #[.pointer (some ⟨b, 0, none⟩)] 97)) w' → l' = l ++ lsB glB xs → WP D w b (l ++ lsB glB xs) (.returned (.tuple #[])) w') := by
    rw [hid_iff]
    rintro w' l' h1 h2 rfl
    exact ⟨rfl, h1.less (fun k hk => .inl hk), Dx.kept h2 hD⟩
  have hlB : (lsB glB xs).length = (Wire.enc xs.length).length + (xs.flatMap glB).length := by simp [lsB]
  have he0 := Wire.enc_ten xs.length (by omega)
  obtain ⟨va, vc, rfl⟩ := hr.shape
  generalize Dx D w.heap.size = E at *
  have hn1 := onum E xs.length b l _ hDA (by omega) (by omega) hwA
  unfold wrv at *
  clear hwA hr hF hD hw
  go_enter Tryz.func96, Tryz.ntmps96
  go_wp2_with fail
  generalize w.alloc (.cells #[.pointer (some ⟨b, 0, none⟩)] 97) = wA at *
  refine hn1.mono ?_
  rintro e w1 ⟨rfl, hw1, k1⟩
  clear hn1
  have HRU : Hid (∀ u, Kept (fun k => ¬ E k) wA u → RwR 3 cGl F u (.slice va xs.length vc) xs) := by
    rw [hid_iff]
    exact fun u hu => hrA.frame cGl_stay fun g hg => ⟨hg, keep_blk hu (hFE g hg) (hDA g (hFE g hg))⟩
  clear hrA
  go_wp2
  go_loopg [14] xs.length (fun g i wr => ∃ (k : Nat), g + k = xs.length ∧ i = .int .i64 (k : Int) ∧ WB E wr b (l ++ Wire.enc xs.length ++ (xs.take k).flatMap glB) ∧ Kept (fun k => ¬ E k) wA wr)
  case atStart => exact ⟨0, by omega, rfl, by simpa using hw1, k1⟩
  case round =>
    obtain ⟨k, hg, rfl, hwr, kr⟩ := hrel
    have hDr := keep_lt kr hDA
    by_cases hk : k < xs.length
    · have hki : (k : Int) < (xs.length : Int) := by omega
      have hrow := HRU.out _ kr
      have hst : (xs.take (k + 1)).flatMap glB = (xs.take k).flatMap glB ++ glB xs[k] := flat_take _ xs k hk
      have hsz := flat_le glB xs (k + 1)
      have hox := hok _ (List.getElem_mem hk)
      obtain ⟨gq, oq, cq, cs, e1, e2, e3, hc, hcell⟩ := hrow.at k hk
      simp only [Value.slice.injEq, true_and] at e1
      obtain ⟨rfl, rfl⟩ := e1
      generalize xs[k] = x at *
      obtain ⟨nm, ty, fq⟩ := x
      have hf := hox.2.2
      simp only at hf
      obtain ⟨fn, rfl⟩ : ∃ fn : Nat, fq = (fn : Int) := ⟨fq.toNat, by omega⟩
      unfold cGl at hc
      subst hc
      have hcb : glB ⟨nm, ty, (fn : Int)⟩ = txtB nm ++ (txtB ty ++ Wire.enc fn) := by unfold glB; simp only [Int.toNat_natCast]
      rw [hcb] at hst
      rw [hst] at hsz
      simp only [List.length_append] at hsz
      have q0 : wr.cell? ⟨gq, oq + k * 3, none⟩ = some (.string (str nm)) := hcell 0 _ rfl
      have q1 : wr.cell? ⟨gq, oq + k * 3 + 1, none⟩ = some (.string (str ty)) := hcell 1 _ rfl
      have q2 : wr.cell? ⟨gq, oq + k * 3 + 2, none⟩ = some (.int .i64 (fn : Int)) := hcell 2 _ rfl
      clear hrow hcell
      have hwx := (hwr.new (.cells #[.string (str nm), .string (str ty), .int .i64 (fn : Int)] 74)).less (E := E) (fun k hk => .inl hk)
      have kx : Kept (fun k => ¬ E k) wr (wr.alloc (.cells #[.string (str nm), .string (str ty), .int .i64 (fn : Int)] 74)) := ⟨rfl, rfl, rfl, by simp, fun z hz _ => Below.heap_alloc _ _ _ hz⟩
      have hDx := keep_lt kx hDr
      have g0 := oglobal E F nm ty fn b _ _ hDx hFE (by omega) (by simp only [List.length_append] at hsz ⊢; omega) hwx
      unfold wrv at g0
      clear hwr hwx
      go_wp2_with fail
      refine g0.mono ?_
      rintro e w2 ⟨rfl, hw2, k2⟩
      have kk := keep_trans (keep_trans kr kx) k2
      clear g0 k2 kx hDx q0 q1 q2
      go_wp2
      go_roundg (xs.length - (k + 1))
      case measure => omega
      case rel => exact ⟨k + 1, by omega, by go_num, by rw [hst, ← List.append_assoc]; exact hw2, kk⟩
    · have hki : ¬ (k : Int) < (xs.length : Int) := by omega
      have hQ := HK.out _ _ hwr kr (by rw [List.take_of_length_le (by omega), List.append_assoc]; rfl)
      clear hwr kr HK HRU
      go_wp2
      go_end0
      exact hQ

set_option maxHeartbeats 4000000 in
set_option maxRecDepth 1000000 in
theorem wlistR (D F : Nat → Prop) (v : Value) (xs : List Rl) (b : Nat) (l : List Nat) (w : World) (hD : ∀ k, D k → k < w.heap.size) (hF : ∀ g, F g → D g) (hr : RwR 3 cRl F w v xs) (hn : xs.length ≤ 65535) (hok : ∀ x ∈ xs, (fun r : Rl => InS r.fn ∧ InS r.place ∧ InS r.sym) x) (hl : l.length + (lsB rlB xs).length + 30 ≤ 140737488355328) (hw : WB D w b l) :
    Calls Tryz.prog 102 #[wrv b, v, .func (.func 103) #[wrv b] #[]] w (WP D w b (l ++ lsB rlB xs)) := by
  have hwA := hw.new (.cells #[.pointer (some ⟨b, 0, none⟩)] 97)
  have hDA := Dx.lt hD (.cells #[.pointer (some ⟨b, 0, none⟩)] 97)
  have hrA : RwR 3 cRl F (w.alloc (.cells #[.pointer (some ⟨b, 0, none⟩)] 97)) v xs := hr.frame cRl_stay fun g hg => ⟨hg, Below.heap_alloc _ _ _ (hD g (hF g hg))⟩
  have hFE : ∀ g, F g → Dx D w.heap.size g := fun g hg => .inl (hF g hg)
  have HK : Hid (∀ w' l', WB (Dx D w.heap.size) w' b l' → Kept (fun k => ¬ Dx D w.heap.size k) (w.alloc (.cells #[.pointer (some ⟨b, 0, none⟩)] 97)) w' → l' = l ++ lsB rlB xs → WP D w b (l ++ lsB rlB xs) (.returned (.tuple #[])) w') := by
    rw [hid_iff]
    rintro w' l' h1 h2 rfl
    exact ⟨rfl, h1.less (fun k hk => .inl hk), Dx.kept h2 hD⟩
  have hlB : (lsB rlB xs).length = (Wire.enc xs.length).length + (xs.flatMap rlB).length := by simp [lsB]
  have he0 := Wire.enc_ten xs.length (by omega)
  obtain ⟨va, vc, rfl⟩ := hr.shape
  generalize Dx D w.heap.size = E at *
  have hn1 := onum E xs.length b l _ hDA (by omega) (by omega) hwA
  unfold wrv at *
  clear hwA hr hF hD hw
  go_enter Tryz.func102, Tryz.ntmps102
  go_wp2_with fail
  generalize w.alloc (.cells #[.pointer (some ⟨b, 0, none⟩)] 97) = wA at *
  refine hn1.mono ?_
  rintro e w1 ⟨rfl, hw1, k1⟩
  clear hn1
  have HRU : Hid (∀ u, Kept (fun k => ¬ E k) wA u → RwR 3 cRl F u (.slice va xs.length vc) xs) := by
    rw [hid_iff]
    exact fun u hu => hrA.frame cRl_stay fun g hg => ⟨hg, keep_blk hu (hFE g hg) (hDA g (hFE g hg))⟩
  clear hrA
  go_wp2
  go_loopg [14] xs.length (fun g i wr => ∃ (k : Nat), g + k = xs.length ∧ i = .int .i64 (k : Int) ∧ WB E wr b (l ++ Wire.enc xs.length ++ (xs.take k).flatMap rlB) ∧ Kept (fun k => ¬ E k) wA wr)
  case atStart => exact ⟨0, by omega, rfl, by simpa using hw1, k1⟩
  case round =>
    obtain ⟨k, hg, rfl, hwr, kr⟩ := hrel
    have hDr := keep_lt kr hDA
    by_cases hk : k < xs.length
    · have hki : (k : Int) < (xs.length : Int) := by omega
      have hrow := HRU.out _ kr
      have hst : (xs.take (k + 1)).flatMap rlB = (xs.take k).flatMap rlB ++ rlB xs[k] := flat_take _ xs k hk
      have hsz := flat_le rlB xs (k + 1)
      have hox := hok _ (List.getElem_mem hk)
      obtain ⟨gq, oq, cq, cs, e1, e2, e3, hc, hcell⟩ := hrow.at k hk
      simp only [Value.slice.injEq, true_and] at e1
      obtain ⟨rfl, rfl⟩ := e1
      generalize xs[k] = x at *
      obtain ⟨f1, f2, f3⟩ := x
      obtain ⟨h1, h2, h3⟩ := hox
      unfold InS at h1 h2 h3
      simp only at h1 h2 h3
      obtain ⟨fn, rfl⟩ : ∃ fn : Nat, f1 = (fn : Int) := ⟨f1.toNat, by omega⟩
      obtain ⟨pl, rfl⟩ : ∃ fn : Nat, f2 = (fn : Int) := ⟨f2.toNat, by omega⟩
      obtain ⟨sy, rfl⟩ : ∃ fn : Nat, f3 = (fn : Int) := ⟨f3.toNat, by omega⟩
      unfold cRl at hc
      subst hc
      have hcb : rlB ⟨(fn : Int), (pl : Int), (sy : Int)⟩ = Wire.enc fn ++ (Wire.enc pl ++ Wire.enc sy) := by unfold rlB; simp only [Int.toNat_natCast]
      rw [hcb] at hst
      rw [hst] at hsz
      simp only [List.length_append] at hsz
      have q0 : wr.cell? ⟨gq, oq + k * 3, none⟩ = some (.int .i64 (fn : Int)) := hcell 0 _ rfl
      have q1 : wr.cell? ⟨gq, oq + k * 3 + 1, none⟩ = some (.int .i64 (pl : Int)) := hcell 1 _ rfl
      have q2 : wr.cell? ⟨gq, oq + k * 3 + 2, none⟩ = some (.int .i64 (sy : Int)) := hcell 2 _ rfl
      clear hrow hcell
      have hwx := (hwr.new (.cells #[.int .i64 (fn : Int), .int .i64 (pl : Int), .int .i64 (sy : Int)] 83)).less (E := E) (fun k hk => .inl hk)
      have kx : Kept (fun k => ¬ E k) wr (wr.alloc (.cells #[.int .i64 (fn : Int), .int .i64 (pl : Int), .int .i64 (sy : Int)] 83)) := ⟨rfl, rfl, rfl, by simp, fun z hz _ => Below.heap_alloc _ _ _ hz⟩
      have hDx := keep_lt kx hDr
      have g0 := oreloc E F fn pl sy b _ _ hDx hFE (by omega) (by omega) (by omega) (by simp only [List.length_append] at hsz ⊢; omega) hwx
      unfold wrv at g0
      clear hwr hwx
      go_wp2_with fail
      refine g0.mono ?_
      rintro e w2 ⟨rfl, hw2, k2⟩
      have kk := keep_trans (keep_trans kr kx) k2
      clear g0 k2 kx hDx q0 q1 q2
      go_wp2
      go_roundg (xs.length - (k + 1))
      case measure => omega
      case rel => exact ⟨k + 1, by omega, by go_num, by rw [hst, ← List.append_assoc]; exact hw2, kk⟩
    · have hki : ¬ (k : Int) < (xs.length : Int) := by omega
      have hQ := HK.out _ _ hwr kr (by rw [List.take_of_length_le (by omega), List.append_assoc]; rfl)
      clear hwr kr HK HRU
      go_wp2
      go_end0
      exact hQ

set_option maxHeartbeats 4000000 in
set_option maxRecDepth 1000000 in
theorem wlistS (D F : Nat → Prop) (v : Value) (xs : List Sy) (b : Nat) (l : List Nat) (w : World) (hD : ∀ k, D k → k < w.heap.size) (hF : ∀ g, F g → D g) (hr : RwR 5 cSy F w v xs) (hn : xs.length ≤ 65535) (hok : ∀ x ∈ xs, (fun s : Sy => s.mod.length ≤ 24 ∧ ItS s.item) x) (hl : l.length + (lsB syB xs).length + 30 ≤ 140737488355328) (hw : WB D w b l) :
    Calls Tryz.prog 100 #[wrv b, v, .func (.func 101) #[wrv b] #[]] w (WP D w b (l ++ lsB syB xs)) := by
  have hwA := hw.new (.cells #[.pointer (some ⟨b, 0, none⟩)] 97)
  have hDA := Dx.lt hD (.cells #[.pointer (some ⟨b, 0, none⟩)] 97)
  have hrA : RwR 5 cSy F (w.alloc (.cells #[.pointer (some ⟨b, 0, none⟩)] 97)) v xs := hr.frame cSy_stay fun g hg => ⟨hg, Below.heap_alloc _ _ _ (hD g (hF g hg))⟩
  have hFE : ∀ g, F g → Dx D w.heap.size g := fun g hg => .inl (hF g hg)
  have HK : Hid (∀ w' l', WB (Dx D w.heap.size) w' b l' → Kept (fun k => ¬ Dx D w.heap.size k) (w.alloc (.cells #[.pointer (some ⟨b, 0, none⟩)] 97)) w' → l' = l ++ lsB syB xs → WP D w b (l ++ lsB syB xs) (.returned (.tuple #[])) w') := by
    rw [hid_iff]
    rintro w' l' h1 h2 rfl
    exact ⟨rfl, h1.less (fun k hk => .inl hk), Dx.kept h2 hD⟩
  have hlB : (lsB syB xs).length = (Wire.enc xs.length).length + (xs.flatMap syB).length := by simp [lsB]
  have he0 := Wire.enc_ten xs.length (by omega)
  obtain ⟨va, vc, rfl⟩ := hr.shape
  generalize Dx D w.heap.size = E at *
  have hn1 := onum E xs.length b l _ hDA (by omega) (by omega) hwA
  unfold wrv at *
  clear hwA hr hF hD hw
  go_enter Tryz.func100, Tryz.ntmps100
  go_wp2_with fail
  generalize w.alloc (.cells #[.pointer (some ⟨b, 0, none⟩)] 97) = wA at *
  refine hn1.mono ?_
  rintro e w1 ⟨rfl, hw1, k1⟩
  clear hn1
  have HRU : Hid (∀ u, Kept (fun k => ¬ E k) wA u → RwR 5 cSy F u (.slice va xs.length vc) xs) := by
    rw [hid_iff]
    exact fun u hu => hrA.frame cSy_stay fun g hg => ⟨hg, keep_blk hu (hFE g hg) (hDA g (hFE g hg))⟩
  clear hrA
  go_wp2
  go_loopg [14] xs.length (fun g i wr => ∃ (k : Nat), g + k = xs.length ∧ i = .int .i64 (k : Int) ∧ WB E wr b (l ++ Wire.enc xs.length ++ (xs.take k).flatMap syB) ∧ Kept (fun k => ¬ E k) wA wr)
  case atStart => exact ⟨0, by omega, rfl, by simpa using hw1, k1⟩
  case round =>
    obtain ⟨k, hg, rfl, hwr, kr⟩ := hrel
    have hDr := keep_lt kr hDA
    by_cases hk : k < xs.length
    · have hki : (k : Int) < (xs.length : Int) := by omega
      have hrow := HRU.out _ kr
      have hst : (xs.take (k + 1)).flatMap syB = (xs.take k).flatMap syB ++ syB xs[k] := flat_take _ xs k hk
      have hsz := flat_le syB xs (k + 1)
      have hox := hok _ (List.getElem_mem hk)
      obtain ⟨gq, oq, cq, cs, e1, e2, e3, hc, hcell⟩ := hrow.at k hk
      simp only [Value.slice.injEq, true_and] at e1
      obtain ⟨rfl, rfl⟩ := e1
      generalize xs[k] = x at *
      obtain ⟨md, kd, nm, ty, ks⟩ := x
      obtain ⟨hm, hit⟩ := hox
      have hkk := hit.kind
      obtain ⟨hcs, hcw⟩ := its_cases hit
      obtain ⟨cv, rfl, hT⟩ := hc
      simp only at hkk hcs hcw hT hcell
      obtain ⟨kn, rfl⟩ : ∃ kn : Nat, kd = (kn : Int) := ⟨kd.toNat, by omega⟩
      obtain ⟨ca, cc, rfl⟩ := hT.shape
      have hcb : syB ⟨md, ⟨(kn : Int), nm, ty, ks⟩⟩ = txtB md ++ itBy kn nm ty ks := by rw [← itBy_is]; rfl
      rw [hcb] at hst
      rw [hst] at hsz
      simp only [List.length_append] at hsz
      have q0 : wr.cell? ⟨gq, oq + k * 5, none⟩ = some (.string (str md)) := hcell 0 _ rfl
      have q1 : wr.cell? ⟨gq, oq + k * 5 + 1, none⟩ = some (.int .i64 (kn : Int)) := hcell 1 _ rfl
      have q2 : wr.cell? ⟨gq, oq + k * 5 + 2, none⟩ = some (.string (str nm)) := hcell 2 _ rfl
      have q3 : wr.cell? ⟨gq, oq + k * 5 + 3, none⟩ = some (.string (str ty)) := hcell 3 _ rfl
      have q4 : wr.cell? ⟨gq, oq + k * 5 + 4, none⟩ = some (.slice ca ks.length cc) := hcell 4 _ rfl
      clear hrow hcell
      have hwx := (hwr.new (.cells #[.string (str md), .int .i64 (kn : Int), .string (str nm), .string (str ty), .slice ca ks.length cc] 80)).less (E := E) (fun k hk => .inl hk)
      have kx : Kept (fun k => ¬ E k) wr (wr.alloc (.cells #[.string (str md), .int .i64 (kn : Int), .string (str nm), .string (str ty), .slice ca ks.length cc] 80)) := ⟨rfl, rfl, rfl, by simp, fun z hz _ => Below.heap_alloc _ _ _ hz⟩
      have hDx := keep_lt kx hDr
      have g0 := osymbol E F md kn nm ty ks ca cc b _ _ hDx hFE (hT.frame fun g hg => ⟨hg, Below.heap_alloc _ _ _ (hDr g (hFE g hg))⟩) (by omega) hcs hcw (by simp only [List.length_append] at hsz ⊢; omega) hwx
      unfold wrv at g0
      clear hwr hwx
      go_wp2_with fail
      refine g0.mono ?_
      rintro e w2 ⟨rfl, hw2, k2⟩
      have kk := keep_trans (keep_trans kr kx) k2
      clear g0 k2 kx hDx q0 q1 q2 q3 q4
      go_wp2
      go_roundg (xs.length - (k + 1))
      case measure => omega
      case rel => exact ⟨k + 1, by omega, by go_num, by rw [hst, ← List.append_assoc]; exact hw2, kk⟩
    · have hki : ¬ (k : Int) < (xs.length : Int) := by omega
      have hQ := HK.out _ _ hwr kr (by rw [List.take_of_length_le (by omega), List.append_assoc]; rfl)
      clear hwr kr HK HRU
      go_wp2
      go_end0
      exact hQ

set_option maxHeartbeats 4000000 in
set_option maxRecDepth 1000000 in
theorem wlistF (D F : Nat → Prop) (v : Value) (xs : List Fn) (b : Nat) (l : List Nat) (w : World) (hD : ∀ k, D k → k < w.heap.size) (hF : ∀ g, F g → D g) (hr : RwR 6 cFn F w v xs) (hn : xs.length ≤ 65535) (hok : ∀ x ∈ xs, FnS x) (hl : l.length + (lsB fnB xs).length + 30 ≤ 140737488355328) (hw : WB D w b l) :
    Calls Tryz.prog 98 #[wrv b, v, .func (.func 99) #[wrv b] #[]] w (WP D w b (l ++ lsB fnB xs)) := by
  have hwA := hw.new (.cells #[.pointer (some ⟨b, 0, none⟩)] 97)
  have hDA := Dx.lt hD (.cells #[.pointer (some ⟨b, 0, none⟩)] 97)
  have hrA : RwR 6 cFn F (w.alloc (.cells #[.pointer (some ⟨b, 0, none⟩)] 97)) v xs := hr.frame cFn_stay fun g hg => ⟨hg, Below.heap_alloc _ _ _ (hD g (hF g hg))⟩
  have hFE : ∀ g, F g → Dx D w.heap.size g := fun g hg => .inl (hF g hg)
  have HK : Hid (∀ w' l', WB (Dx D w.heap.size) w' b l' → Kept (fun k => ¬ Dx D w.heap.size k) (w.alloc (.cells #[.pointer (some ⟨b, 0, none⟩)] 97)) w' → l' = l ++ lsB fnB xs → WP D w b (l ++ lsB fnB xs) (.returned (.tuple #[])) w') := by
    rw [hid_iff]
    rintro w' l' h1 h2 rfl
    exact ⟨rfl, h1.less (fun k hk => .inl hk), Dx.kept h2 hD⟩
  have hlB : (lsB fnB xs).length = (Wire.enc xs.length).length + (xs.flatMap fnB).length := by simp [lsB]
  have he0 := Wire.enc_ten xs.length (by omega)
  obtain ⟨va, vc, rfl⟩ := hr.shape
  generalize Dx D w.heap.size = E at *
  have hn1 := onum E xs.length b l _ hDA (by omega) (by omega) hwA
  unfold wrv at *
  clear hwA hr hF hD hw
  go_enter Tryz.func98, Tryz.ntmps98
  go_wp2_with fail
  generalize w.alloc (.cells #[.pointer (some ⟨b, 0, none⟩)] 97) = wA at *
  refine hn1.mono ?_
  rintro e w1 ⟨rfl, hw1, k1⟩
  clear hn1
  have HRU : Hid (∀ u, Kept (fun k => ¬ E k) wA u → RwR 6 cFn F u (.slice va xs.length vc) xs) := by
    rw [hid_iff]
    exact fun u hu => hrA.frame cFn_stay fun g hg => ⟨hg, keep_blk hu (hFE g hg) (hDA g (hFE g hg))⟩
  clear hrA
  go_wp2
  go_loopg [14] xs.length (fun g i wr => ∃ (k : Nat), g + k = xs.length ∧ i = .int .i64 (k : Int) ∧ WB E wr b (l ++ Wire.enc xs.length ++ (xs.take k).flatMap fnB) ∧ Kept (fun k => ¬ E k) wA wr)
  case atStart => exact ⟨0, by omega, rfl, by simpa using hw1, k1⟩
  case round =>
    obtain ⟨k, hg, rfl, hwr, kr⟩ := hrel
    have hDr := keep_lt kr hDA
    by_cases hk : k < xs.length
    · have hki : (k : Int) < (xs.length : Int) := by omega
      have hrow := HRU.out _ kr
      have hst : (xs.take (k + 1)).flatMap fnB = (xs.take k).flatMap fnB ++ fnB xs[k] := flat_take _ xs k hk
      have hsz := flat_le fnB xs (k + 1)
      have hox := hok _ (List.getElem_mem hk)
      obtain ⟨gq, oq, cq, cs, e1, e2, e3, hc, hcell⟩ := hrow.at k hk
      simp only [Value.slice.injEq, true_and] at e1
      obtain ⟨rfl, rfl⟩ := e1
      generalize xs[k] = x at *
      obtain ⟨nm, ps, cq2, rs, lq, kd⟩ := x
      obtain ⟨_, h2, h3, _, h5, h6⟩ := hox
      obtain ⟨pv, kv, rfl, hT, hK⟩ := hc
      simp only at h2 h3 h5 h6 hT hK hcell
      obtain ⟨cn, rfl⟩ : ∃ kn : Nat, cq2 = (kn : Int) := ⟨cq2.toNat, by omega⟩
      obtain ⟨ln, rfl⟩ : ∃ kn : Nat, lq = (kn : Int) := ⟨lq.toNat, by omega⟩
      obtain ⟨pa, pc, rfl⟩ := hT.1.shape
      obtain ⟨ka, kc, rfl⟩ := hK.shape
      have hcb : fnB ⟨nm, ps, (cn : Int), rs, (ln : Int), kd⟩ = txtB nm ++ (lsB txtB ps ++ (Wire.enc cn ++ (txtB rs ++ (Wire.enc ln ++ (Wire.enc kd.length ++ kd.map UInt8.toNat))))) := by unfold fnB; simp only [Int.toNat_natCast]; rfl
      rw [hcb] at hst
      rw [hst] at hsz
      simp only [List.length_append] at hsz
      have q0 : wr.cell? ⟨gq, oq + k * 6, none⟩ = some (.string (str nm)) := hcell 0 _ rfl
      have q1 : wr.cell? ⟨gq, oq + k * 6 + 1, none⟩ = some (.slice pa ps.length pc) := hcell 1 _ rfl
      have q2 : wr.cell? ⟨gq, oq + k * 6 + 2, none⟩ = some (.int .i64 (cn : Int)) := hcell 2 _ rfl
      have q3 : wr.cell? ⟨gq, oq + k * 6 + 3, none⟩ = some (.string (str rs)) := hcell 3 _ rfl
      have q4 : wr.cell? ⟨gq, oq + k * 6 + 4, none⟩ = some (.int .i64 (ln : Int)) := hcell 4 _ rfl
      have q5 : wr.cell? ⟨gq, oq + k * 6 + 5, none⟩ = some (.slice ka kd.length kc) := hcell 5 _ rfl
      clear hrow hcell
      have hwx := (hwr.new (.cells #[.string (str nm), .slice pa ps.length pc, .int .i64 (cn : Int), .string (str rs), .int .i64 (ln : Int), .slice ka kd.length kc] 52)).less (E := E) (fun k hk => .inl hk)
      have kx : Kept (fun k => ¬ E k) wr (wr.alloc (.cells #[.string (str nm), .slice pa ps.length pc, .int .i64 (cn : Int), .string (str rs), .int .i64 (ln : Int), .slice ka kd.length kc] 52)) := ⟨rfl, rfl, rfl, by simp, fun z hz _ => Below.heap_alloc _ _ _ hz⟩
      have hDx := keep_lt kx hDr
      have g0 := ofun E F nm ps cn rs ln kd pa ka pc kc b _ _ hDx hFE (hT.1.frame fun g hg => ⟨hg, Below.heap_alloc _ _ _ (hDr g (hFE g hg))⟩) (hK.frame fun g hg => ⟨hg, Below.heap_alloc _ _ _ (hDr g (hFE g hg))⟩) h2.1 (by omega) (by omega) h6 (by simp only [List.length_append] at hsz ⊢; omega) hwx
      unfold wrv at g0
      clear hwr hwx
      go_wp2_with fail
      refine g0.mono ?_
      rintro e w2 ⟨rfl, hw2, k2⟩
      have kk := keep_trans (keep_trans kr kx) k2
      clear g0 k2 kx hDx q0 q1 q2 q3 q4 q5
      go_wp2
      go_roundg (xs.length - (k + 1))
      case measure => omega
      case rel => exact ⟨k + 1, by omega, by go_num, by rw [hst, ← List.append_assoc]; exact hw2, kk⟩
    · have hki : ¬ (k : Int) < (xs.length : Int) := by omega
      have hQ := HK.out _ _ hwr kr (by rw [List.take_of_length_le (by omega), List.append_assoc]; rfl)
      clear hwr kr HK HRU
      go_wp2
      go_end0
      exact hQ

end Go.Proofs.YtfjppbpicmniaaaGreatDoor
