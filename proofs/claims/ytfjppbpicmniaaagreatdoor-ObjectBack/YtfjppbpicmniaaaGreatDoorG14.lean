/-
  The books' own comparing, at what is the same: texts, cases, items, interfaces.
  And: Rows of structs that a call makes, whatever they hold: one put behind the others. No function in it. An interface as bytes: what is written; how long it is. No program in it.
-/
import Derived.Deep.RegionHeld3
import Derived.Deep.QuietTactic
import Derived.BigQuiet
import Derived.Deep.LoopGhost
import Derived.Test.YtfjppbpicmniaaaGreatDoorG09
import Derived.Test.YtfjppbpicmniaaaGreatDoorG13
import Derived.Deep.AppendLies
import Derived.Test.YtfjppbpicmniaaaGreatDoorG04
import Derived.Test.YtfjppbpicmniaaaGreatDoorG12
namespace Go.Proofs.YtfjppbpicmniaaaGreatDoor
open Go.RowKit

theorem drewK (w : World) (a b : Nat) : (w.drewN a).drewN b = w.drewN (a + b) := by simp [World.drewN, Nat.add_assoc]
theorem belowK (w : World) {H : Nat} (n : Nat) : Below H w (w.drewN n) := ⟨rfl, rfl, rfl, Nat.le_refl _, fun _ _ => rfl⟩
set_option maxHeartbeats 1000000 in
set_option maxRecDepth 1000000 in
theorem keepTexts (F G : Nat → Prop) (v1 v2 : Value) (xs : List (List UInt8)) (w : World) (h1 : TxR F w v1 xs) (h2 : TxR G w v2 xs) (hl : xs.length ≤ 8796093022208) :
    Calls Tryz.prog 65 #[v1, v2] w fun e w' => e = .returned (.bool true) ∧ ∃ n, w' = w.drewN n := by
  obtain ⟨a1, c1, rfl⟩ := h1.shape
  obtain ⟨a2, c2, rfl⟩ := h2.shape
  go_enter Tryz.func65, Tryz.ntmps65
  go_wp2
  go_loopg [5] xs.length (fun g i wr => ∃ (k nn : Nat), g + k = xs.length ∧ i = .int .i64 (k : Int) ∧ wr = w.drewN nn)
  case atStart => exact ⟨0, 0, by omega, rfl, rfl⟩
  case round =>
    obtain ⟨k, nn, hg, rfl, rfl⟩ := hrel
    by_cases hk : k < xs.length
    · obtain ⟨g1, o1, d1, e1, _, q1⟩ := h1.at k hk
      simp only [Value.slice.injEq, true_and] at e1
      obtain ⟨rfl, rfl⟩ := e1
      obtain ⟨g2, o2, d2, e2, _, q2⟩ := h2.at k hk
      simp only [Value.slice.injEq, true_and] at e2
      obtain ⟨rfl, rfl⟩ := e2
      have hki : (k : Int) < (xs.length : Int) := by omega
      clear h1 h2
      generalize xs[k] = x at *
      have hne : ((str x).toList != (str x).toList) = false := by simp
      go_wp2_with fail
      go_quiet (fail)
      go_wp2
      go_roundg (xs.length - (k + 1))
      case measure => omega
      case rel => exact ⟨k + 1, _, by omega, by go_num, by first | rfl | exact drewK _ _ _⟩
    · have hki : ¬ (k : Int) < (xs.length : Int) := by omega
      go_wp2
      go_ret
      exact ⟨rfl, nn, rfl⟩
theorem quietK {P : Program} {f : FuncId} {args : Array Value} {w : World} {n x : Nat} {v : Value} (h : Calls P f args (w.drewN (n + x)) fun e w' => e = .returned v ∧ ∃ m, w' = (w.drewN (n + x)).drewN m) : Calls P f args (w.drewN (n + x)) fun e w'' => e = .returned v ∧ ∃ m, w'' = w.drewN m := Calls.quiet_of h
set_option maxHeartbeats 2000000 in
set_option maxRecDepth 1000000 in
theorem keepCases (F G : Nat → Prop) (v1 v2 : Value) (cs : List Cs) (w : World) (h1 : CsR F w v1 cs) (h2 : CsR G w v2 cs) (hl : cs.length ≤ 3518437208883) (hok : ∀ c ∈ cs, CsOk c) :
    Calls Tryz.prog 128 #[v1, v2] w fun e w' => e = .returned (.bool true) ∧ ∃ n, w' = w.drewN n := by
  obtain ⟨a1, c1, rfl⟩ := h1.shape
  obtain ⟨a2, c2, rfl⟩ := h2.shape
  go_enter Tryz.func128, Tryz.ntmps128
  go_wp2
  go_loopg [5] cs.length (fun g i wr => ∃ (k nn : Nat), g + k = cs.length ∧ i = .int .i64 (k : Int) ∧ wr = w.drewN nn)
  case atStart => exact ⟨0, 0, by omega, rfl, rfl⟩
  case round =>
    obtain ⟨k, nn, hg, rfl, hw⟩ := hrel
    have HW := hidden hw
    have h1 : CsR F wr (.slice a1 cs.length c1) cs := by rw [hw]; exact h1
    have h2 : CsR G wr (.slice a2 cs.length c2) cs := by rw [hw]; exact h2
    clear hw
    by_cases hk : k < cs.length
    · obtain ⟨g1, o1, d1, f1, e1, _, _, t1, q1, r1⟩ := h1.at k hk
      simp only [Value.slice.injEq, true_and] at e1
      obtain ⟨rfl, rfl⟩ := e1
      obtain ⟨g2, o2, d2, f2, e2, _, _, t2, q2, r2⟩ := h2.at k hk
      simp only [Value.slice.injEq, true_and] at e2
      obtain ⟨rfl, rfl⟩ := e2
      have hki : (k : Int) < (cs.length : Int) := by omega
      have hc := hok _ (List.getElem_mem hk)
      clear h1 h2 hok
      generalize cs[k] = c at *
      obtain ⟨n, fs⟩ := c
      simp only at t1 t2 q1 q2 r1 r2
      have hT : ∀ n : Nat, Calls Tryz.prog 65 #[f1, f2] (wr.drewN n) fun e w' => e = .returned (.bool true) ∧ ∃ m, w' = (wr.drewN n).drewN m := fun n => keepTexts F G f1 f2 fs (wr.drewN n) t1 t2 hc.2.1
      obtain ⟨fa1, fc1, rfl⟩ := t1.shape
      obtain ⟨fa2, fc2, rfl⟩ := t2.shape
      have hne : ((str n).toList != (str n).toList) = false := by simp
      clear t1 t2 hc
      go_wp2_with fail
      go_quiet ((go_at_call 65; first | exact quietK (hT _) | exact Calls.quiet_of (hT _)))
      go_wp2
      go_roundg (cs.length - (k + 1))
      case measure => omega
      case rel => exact ⟨k + 1, nn + _, by omega, by go_num, by rw [HW.out]; exact drewK _ _ _⟩
    · have hki : ¬ (k : Int) < (cs.length : Int) := by omega
      go_wp2
      go_ret
      exact ⟨rfl, nn, HW.out⟩
set_option maxHeartbeats 1000000 in
set_option maxRecDepth 1000000 in
theorem keepItem (F G : Nat → Prop) (x : It) (v1 v2 : Value) (w : World) (h1 : CsR F w v1 x.cases) (h2 : CsR G w v2 x.cases) (hF : ∀ g, F g → g < w.heap.size) (hG : ∀ g, G g → g < w.heap.size) (hok : ItOk x) :
    Calls Tryz.prog 68 #[itv x v1, itv x v2] w fun e w' => e = .returned (.bool true) ∧ Below w.heap.size w w' := by
  obtain ⟨a1, c1, rfl⟩ := h1.shape
  obtain ⟨a2, c2, rfl⟩ := h2.shape
  obtain ⟨kd, nm, ty, cs⟩ := x
  unfold itv
  simp only at *
  have hb : Below w.heap.size w ((w.alloc (.cells #[.int .i64 kd, .string (str nm), .string (str ty), .slice a1 cs.length c1] 78)).alloc (.cells #[.int .i64 kd, .string (str nm), .string (str ty), .slice a2 cs.length c2] 78)) := ((Below.refl _ _).alloc (Nat.le_refl _) _).alloc (by simp) _
  have hC := keepCases F G _ _ cs _ (h1.below hb hF) (h2.below hb hG) hok.2.2.2.2.1 hok.2.2.2.2.2
  have hn1 : ((str nm).toList == (str nm).toList) = true := by simp
  have hn2 : ((str ty).toList == (str ty).toList) = true := by simp
  clear h1 h2
  go_enter Tryz.func68, Tryz.ntmps68
  go_wp2_with fail
  refine hC.mono ?_
  rintro e w1 ⟨rfl, n, rfl⟩
  go_wp2
  go_ret
  exact ⟨rfl, hb.trans (belowK _ _)⟩
set_option maxHeartbeats 4000000 in
set_option maxRecDepth 1000000 in
theorem keepItems (F G : Nat → Prop) (v1 v2 : Value) (l : List It) (w : World) (h1 : ItR F w v1 l) (h2 : ItR G w v2 l) (hF : ∀ g, F g → g < w.heap.size) (hG : ∀ g, G g → g < w.heap.size) (hl : l.length ≤ 2199023255552) (hok : ∀ x ∈ l, ItOk x) :
    Calls Tryz.prog 54 #[v1, v2] w fun e w' => e = .returned (.bool true) ∧ Below w.heap.size w w' := by
  obtain ⟨a1, c1, rfl⟩ := h1.shape
  obtain ⟨a2, c2, rfl⟩ := h2.shape
  have hh1 := hidden h1
  have hh2 := hidden h2
  clear h1 h2
  go_enter Tryz.func54, Tryz.ntmps54
  go_wp2
  go_loopg [5] l.length (fun g i wr => ∃ (k : Nat), g + k = l.length ∧ i = .int .i64 (k : Int) ∧ Below w.heap.size w wr)
  case atStart => exact ⟨0, by omega, rfl, Below.refl _ _⟩
  case round =>
    obtain ⟨k, hg, rfl, hbr⟩ := hrel
    have hsr := hbr.size
    by_cases hk : k < l.length
    · have i1 := hh1.out.below hbr hF
      have i2 := hh2.out.below hbr hG
      obtain ⟨g1, o1, d1, cv1, e1, f1, t1, q10, q11, q12, q13⟩ := i1.at k hk
      simp only [Value.slice.injEq, true_and] at e1
      obtain ⟨rfl, rfl⟩ := e1
      obtain ⟨g2, o2, d2, cv2, e2, f2, t2, q20, q21, q22, q23⟩ := i2.at k hk
      simp only [Value.slice.injEq, true_and] at e2
      obtain ⟨rfl, rfl⟩ := e2
      have hki : (k : Int) < (l.length : Int) := by omega
      have hx := hok _ (List.getElem_mem hk)
      have hg1 : g1 < wr.heap.size := Nat.lt_of_lt_of_le (hF g1 f1) hsr
      have hg2 : g2 < wr.heap.size := Nat.lt_of_lt_of_le (hG g2 f2) hsr
      clear hh1 hh2 i1 i2 hok
      generalize l[k] = x at *
      have hIt : ∀ u, Below wr.heap.size wr u → Calls Tryz.prog 68 #[itv x cv1, itv x cv2] u fun e w' => e = .returned (.bool true) ∧ Below u.heap.size u w' := fun u hu =>
        keepItem F G x cv1 cv2 u (t1.below hu (fun g hg => Nat.lt_of_lt_of_le (hF g hg) hsr)) (t2.below hu (fun g hg => Nat.lt_of_lt_of_le (hG g hg) hsr)) (fun g hg => Nat.lt_of_lt_of_le (hF g hg) (Nat.le_trans hsr hu.size)) (fun g hg => Nat.lt_of_lt_of_le (hG g hg) (Nat.le_trans hsr hu.size)) hx
      obtain ⟨ca1, cc1, rfl⟩ := t1.shape
      obtain ⟨ca2, cc2, rfl⟩ := t2.shape
      obtain ⟨kd, nm, ty, cs⟩ := x
      unfold itv at hIt
      simp only at *
      have hS : ∀ u, Below wr.heap.size wr u → u.cell? ⟨g1, o1 + k * 4, none⟩ = some (.int .i64 kd) ∧ u.cell? ⟨g1, o1 + k * 4 + 1, none⟩ = some (.string (str nm)) ∧ u.cell? ⟨g1, o1 + k * 4 + 2, none⟩ = some (.string (str ty)) ∧ u.cell? ⟨g1, o1 + k * 4 + 3, none⟩ = some (.slice ca1 cs.length cc1) ∧ u.cell? ⟨g2, o2 + k * 4, none⟩ = some (.int .i64 kd) ∧ u.cell? ⟨g2, o2 + k * 4 + 1, none⟩ = some (.string (str nm)) ∧ u.cell? ⟨g2, o2 + k * 4 + 2, none⟩ = some (.string (str ty)) ∧ u.cell? ⟨g2, o2 + k * 4 + 3, none⟩ = some (.slice ca2 cs.length cc2) := fun u hu => by
        have b1 := hu.block g1 hg1
        have b2 := hu.block g2 hg2
        exact ⟨(World.cell?_of_block (a := ⟨g1, o1 + k * 4, none⟩) b1).trans q10, (World.cell?_of_block (a := ⟨g1, o1 + k * 4 + 1, none⟩) b1).trans q11, (World.cell?_of_block (a := ⟨g1, o1 + k * 4 + 2, none⟩) b1).trans q12, (World.cell?_of_block (a := ⟨g1, o1 + k * 4 + 3, none⟩) b1).trans q13, (World.cell?_of_block (a := ⟨g2, o2 + k * 4, none⟩) b2).trans q20, (World.cell?_of_block (a := ⟨g2, o2 + k * 4 + 1, none⟩) b2).trans q21, (World.cell?_of_block (a := ⟨g2, o2 + k * 4 + 2, none⟩) b2).trans q22, (World.cell?_of_block (a := ⟨g2, o2 + k * 4 + 3, none⟩) b2).trans q23⟩
      have G0 : Below wr.heap.size wr wr.drew := (Below.refl _ _).drew
      clear t1 t2 hx f1 f2
      go_wp2_with fail
      go_region_held3 (fun u => u.cell? ⟨g1, o1 + k * 4, none⟩ = some (.int .i64 kd) ∧ u.cell? ⟨g1, o1 + k * 4 + 1, none⟩ = some (.string (str nm)) ∧ u.cell? ⟨g1, o1 + k * 4 + 2, none⟩ = some (.string (str ty)) ∧ u.cell? ⟨g1, o1 + k * 4 + 3, none⟩ = some (.slice ca1 cs.length cc1) ∧ u.cell? ⟨g2, o2 + k * 4, none⟩ = some (.int .i64 kd) ∧ u.cell? ⟨g2, o2 + k * 4 + 1, none⟩ = some (.string (str nm)) ∧ u.cell? ⟨g2, o2 + k * 4 + 2, none⟩ = some (.string (str ty)) ∧ u.cell? ⟨g2, o2 + k * 4 + 3, none⟩ = some (.slice ca2 cs.length cc2)) (first | go_keep | exact hS _ (by assumption)) (first | (go_at_call 68; refine (hIt _ (by assumption)).mono ?_; rintro e w9 ⟨rfl, hb9⟩; have G9 := G0.trans (hb9.mono (by first | exact Nat.le_refl _ | exact G0.size))))
      all_goals (
        have hb10 : Below w.heap.size w w9 := hbr.trans (G9.mono hsr)
        clear hS hIt
        go_wp2
        go_roundg (l.length - (k + 1))
        case measure => omega
        case rel => exact ⟨k + 1, by omega, by go_num, by first | exact hb10 | exact hb10.drew⟩)
    · have hki : ¬ (k : Int) < (l.length : Int) := by omega
      go_wp2
      go_ret
      exact ⟨rfl, hbr⟩
set_option maxHeartbeats 1000000 in
set_option maxRecDepth 1000000 in
theorem keepIface (F G : Nat → Prop) (m : List UInt8) (v1 v2 : Value) (l : List It) (w : World) (h1 : ItR F w v1 l) (h2 : ItR G w v2 l) (hF : ∀ g, F g → g < w.heap.size) (hG : ∀ g, G g → g < w.heap.size) (hl : l.length ≤ 2199023255552) (hok : ∀ x ∈ l, ItOk x) :
    Calls Tryz.prog 18 #[.agg #[.string (str m), v1], .agg #[.string (str m), v2]] w fun e w' => e = .returned (.bool true) ∧ Below w.heap.size w w' := by
  obtain ⟨a1, c1, rfl⟩ := h1.shape
  obtain ⟨a2, c2, rfl⟩ := h2.shape
  have hb : Below w.heap.size w ((w.alloc (.cells #[.string (str m), .slice a1 l.length c1] 56)).alloc (.cells #[.string (str m), .slice a2 l.length c2] 56)) := ((Below.refl _ _).alloc (Nat.le_refl _) _).alloc (by simp) _
  have hs := hb.size
  have hI := keepItems F G _ _ l _ (h1.below hb hF) (h2.below hb hG) (fun g hg => Nat.lt_of_lt_of_le (hF g hg) hs) (fun g hg => Nat.lt_of_lt_of_le (hG g hg) hs) hl hok
  have hn1 : ((str m).toList == (str m).toList) = true := by simp
  clear h1 h2
  go_enter Tryz.func18, Tryz.ntmps18
  go_wp2_with fail
  refine hI.mono ?_
  rintro e w1 ⟨rfl, hb1⟩
  have hbw := hb.trans (hb1.mono hs)
  go_wp2
  go_ret
  exact ⟨rfl, hbw⟩
end Go.Proofs.YtfjppbpicmniaaaGreatDoor

namespace Go.Proofs.YtfjppbpicmniaaaGreatDoor
open Go.RowKit

/-- What one of a row is by its cells, what it holds lying in blocks of F. -/
abbrev Cel (α : Type) : Type := (Nat → Prop) → World → α → List Value → Prop
structure CelOk {α : Type} (sz : Nat) (C : Cel α) : Prop where
  frame : ∀ {F G : Nat → Prop} {w w' : World} {x : α} {c : List Value}, (∀ g, F g → G g ∧ w'.heap[g]? = w.heap[g]?) → C F w x c → C G w' x c
  len : ∀ {F : Nat → Prop} {w : World} {x : α} {c : List Value}, C F w x c → c.length = sz
  one : ∀ {F : Nat → Prop} {w : World} {x : α} {c : List Value}, C F w x c → ∀ u ∈ c, u.oneCell' = true
/-- They lie in a row of the call's own; what they hold lies from B on, apart from it. -/
def RowG {α : Type} (C : Cel α) (ty sz B : Nat) (w : World) (v : Value) (xs : List α) : Prop :=
  ∃ ps : List (α × List Value), ps.map (·.1) = xs ∧ w.ownsRow B ty sz v xs.length (ps.flatMap (·.2)) ∧ ∀ p ∈ ps, C (fun g => B ≤ g ∧ g < w.heap.size ∧ some g ≠ v.ownBlock) w p.1 p.2
theorem RowG.nil {α : Type} (C : Cel α) (ty sz B : Nat) (w : World) : RowG C ty sz B w (.slice none 0 0) [] := ⟨[], rfl, World.ownsRow_nil _ _ _ _, by simp⟩
theorem RowG.block {α : Type} {C : Cel α} {ty sz B : Nat} {w : World} {v : Value} {xs : List α} (h : RowG C ty sz B w v xs) {g : Nat} (hg : v.ownBlock = some g) : B ≤ g ∧ g < w.heap.size := by
  obtain ⟨ps, h1, h2, h3⟩ := h
  rcases h2.2 with ⟨rfl, _⟩ | ⟨g', cap, cur, rfl, hb, hgg, _⟩
  · cases hg
  · simp only [Value.ownBlock, Option.some.injEq] at hg
    subst hg
    exact ⟨hb, (Array.getElem?_eq_some_iff.1 hgg).1⟩
theorem RowG.shape {α : Type} {C : Cel α} {ty sz B : Nat} {w : World} {v : Value} {xs : List α} (h : RowG C ty sz B w v xs) : ∃ a c, v = .slice a xs.length c := by
  obtain ⟨ps, h1, h2, h3⟩ := h
  rcases h2.2 with ⟨rfl, hn⟩ | ⟨g, cap, cur, rfl, _⟩
  · exact ⟨none, 0, by rw [hn]⟩
  · exact ⟨_, _, rfl⟩
/-- Whoever turns blocks below B alone leaves it as it is. -/
theorem RowG.kept {α : Type} {C : Cel α} {ty sz B : Nat} (hC : CelOk sz C) {S : Nat → Prop} {w w' : World} {v : Value} {xs : List α} (h : RowG C ty sz B w v xs) (k : Kept S w w') (hS : ∀ b, B ≤ b → ¬ S b) : RowG C ty sz B w' v xs := by
  obtain ⟨ps, h1, h2, h3⟩ := h
  exact ⟨ps, h1, k.own h2 (fun g hg => hS g (RowG.block (C := C) ⟨ps, h1, h2, h3⟩ hg).1), fun p hp => hC.frame (fun g hg => ⟨⟨hg.1, Nat.lt_of_lt_of_le hg.2.1 k.size, hg.2.2⟩, k.block g hg.2.1 (hS g hg.1)⟩) (h3 p hp)⟩
theorem flat_at {α : Type} {sz : Nat} : ∀ (ps : List (α × List Value)), (∀ p ∈ ps, p.2.length = sz) → ∀ (j : Nat) (h : j < ps.length) (i : Nat), i < sz → (ps.flatMap (·.2))[j * sz + i]? = ps[j].2[i]?
  | p :: r, hl, 0, _, i, hi => by
    rw [Nat.zero_mul, Nat.zero_add, List.flatMap_cons, List.getElem?_append_left (by rw [hl p (by simp)]; exact hi)]
    rfl
  | p :: r, hl, j + 1, h, i, hi => by
    have h0 := hl p (by simp)
    have := flat_at r (fun q hq => hl q (by simp [hq])) j (by simpa using h) i hi
    rw [List.flatMap_cons, List.getElem?_append_right (by rw [h0, Nat.succ_mul]; omega), h0, show (j + 1) * sz + i - sz = j * sz + i by rw [Nat.succ_mul]; omega]
    simpa using this
/-- One of the row, as it can be read. -/
theorem RowG.at {α : Type} {C : Cel α} {ty sz B : Nat} (hC : CelOk sz C) {w : World} {v : Value} {xs : List α} (h : RowG C ty sz B w v xs) (j : Nat) (hj : j < xs.length) :
    ∃ g cap c, v = .slice (some ⟨g, 0, none⟩) xs.length cap ∧ xs.length ≤ cap ∧ (B ≤ g ∧ g < w.heap.size) ∧ C (fun g => B ≤ g ∧ g < w.heap.size) w xs[j] c ∧ ∀ i u, c[i]? = some u → w.cell? ⟨g, j * sz + i, none⟩ = some u := by
  obtain ⟨ps, rfl, h2, h3⟩ := h
  rcases h2.2 with ⟨rfl, hn⟩ | ⟨g, cap, cur, rfl, hb, hg, hl, _⟩
  · omega
  · have hjl : j < ps.length := by simpa using hj
    have hlen : ∀ p ∈ ps, p.2.length = sz := fun p hp => hC.len (h3 p hp)
    refine ⟨g, cap, ps[j].2, rfl, hl, ⟨hb, (Array.getElem?_eq_some_iff.1 hg).1⟩, ?_, fun i u hi => ?_⟩
    · rw [List.getElem_map]
      exact hC.frame (fun g' hg' => ⟨⟨hg'.1, hg'.2.1⟩, rfl⟩) (h3 _ (List.getElem_mem hjl))
    · have hil : i < sz := by
        have := (List.getElem?_eq_some_iff.1 hi).1
        rwa [hlen _ (List.getElem_mem hjl)] at this
      have hm : j * sz + i < (ps.map (·.1)).length * sz := by
        have h5 : (j + 1) * sz ≤ ps.length * sz := Nat.mul_le_mul_right sz hjl
        rw [Nat.succ_mul] at h5
        simp only [List.length_map]
        omega
      rw [h2.cellAt _ hm, flat_at ps hlen j hjl i hil]
      exact hi
theorem rowG_more {α : Type} {C : Cel α} {ty sz B : Nat} (hC : CelOk sz C) {w w' : World} {v : Value} {xs : List α} {x : α} {c : List Value} {g cap : Nat} (hT : C (fun g => B ≤ g ∧ g < w.heap.size ∧ some g ≠ v.ownBlock) w x c)
    {ps : List (α × List Value)} (h1 : ps.map (·.1) = xs) (h3 : ∀ p ∈ ps, C (fun g => B ≤ g ∧ g < w.heap.size ∧ some g ≠ v.ownBlock) w p.1 p.2) (q1 : w'.ownsRow B ty sz (.slice (some ⟨g, 0, none⟩) (xs.length + 1) cap) (xs.length + 1) (ps.flatMap (·.2) ++ c)) (q2 : w.grownBy w' v.ownBlock) (q3 : v.ownBlock = some g ∨ g = w.heap.size) :
    RowG C ty sz B w' (.slice (some ⟨g, 0, none⟩) (xs.length + 1) cap) (xs ++ [x]) := by
  refine ⟨ps ++ [(x, c)], by simp [h1], ?_, fun p hp => ?_⟩
  · rw [List.flatMap_append]
    simpa using q1
  · have key : ∀ (y : α) (d : List Value), C (fun g => B ≤ g ∧ g < w.heap.size ∧ some g ≠ v.ownBlock) w y d → C (fun g' => B ≤ g' ∧ g' < w'.heap.size ∧ some g' ≠ (Value.slice (some ⟨g, 0, none⟩) (xs.length + 1) cap).ownBlock) w' y d := fun y d ht => hC.frame (fun g' hg' => by
      refine ⟨⟨hg'.1, Nat.lt_of_lt_of_le hg'.2.1 q2.size, fun e => ?_⟩, q2.block g' hg'.2.1 hg'.2.2⟩
      simp only [Value.ownBlock, Option.some.injEq] at e
      subst e
      rcases q3 with q3 | q3
      · exact hg'.2.2 q3.symm
      · have := hg'.2.1
        omega) ht
    rcases List.mem_append.1 hp with hp | hp
    · exact key _ _ (h3 p hp)
    · rw [List.mem_singleton.1 hp]
      exact key _ _ hT
theorem append_rowG {P : Program} {α : Type} {C : Cel α} {E sz bytes B : Nat} (hC : CelOk sz C) {w : World} {ops : Array Oper} {rest : List Oper} {o : Oper} {a : Act} {Q : Exit → Act → World → Prop} (hgd : o.guard = none) (s x : Operand) (T : TypeId)
    (ho : o.op = .call { callee := .builtin .append, args := #[s, x], argTypes := #[T, T] }) (ht : P.underlying T = some (.slice E)) (hi : (P.info? E).map (fun i => (i.zero.map (fun z => z.cells.size), i.size, i.bytes)) = some (some sz, sz, bytes)) (hsz : 0 < sz)
    (v : Value) (xs : List α) (hs : a.eval s = v) (hI : RowG C E sz B w v xs) (y : α) (c : List Value) (ad : Addr) (cp : Nat) (hx : a.eval x = .slice (some ad) 1 cp)
    (hnews : ∀ j u, c[j]? = some u → w.cell? (ad.add j) = some u) (hT : C (fun g => B ≤ g ∧ g < w.heap.size ∧ some g ≠ v.ownBlock) w y c) (hlen : xs.length + 1 ≤ maxLen) (hby : (xs.length + 1) * bytes ≤ 140737488355328) (hB : B ≤ w.heap.size)
    (h : ∀ g cap w', RowG C E sz B w' (.slice (some ⟨g, 0, none⟩) (xs.length + 1) cap) (xs ++ [y]) → w.grownBy w' v.ownBlock → wpList P ops Q rest (a.put o.dst (.slice (some ⟨g, 0, none⟩) (xs.length + 1) cap)) w') :
    wpList P ops Q (o :: rest) a w := by
  obtain ⟨i, z, hi, hz, h1, h2, h3⟩ := info_z hi
  obtain ⟨ps, p1, p2, p3⟩ := id hI
  exact wpList_append_lies w hgd s x T ho B E i z sz bytes ht hi hz h1 h2 h3 hsz v _ _ hs p2 ad 1 cp c hx (by rw [hC.len hT, Nat.one_mul]) hnews (hC.one hT) (by decide) hlen hby hB w.heap.size rfl (fun g cap w' q1 q2 q3 _ => h g cap w' (rowG_more hC hT p1 p3 q1 q2 q3) q2)
theorem step_rowG {P : Program} {α : Type} {C : Cel α} {E sz bytes B : Nat} (hC : CelOk sz C) {w : World} {ops : Array Oper} {o : Oper} {a : Act} {K : Act → World → Prop} {Q : Exit → Act → World → Prop} {Z : Prop} (hgd : o.guard = none) (s x : Operand) (T : TypeId)
    (ho : o.op = .call { callee := .builtin .append, args := #[s, x], argTypes := #[T, T] }) (ht : P.underlying T = some (.slice E)) (hi : (P.info? E).map (fun i => (i.zero.map (fun z => z.cells.size), i.size, i.bytes)) = some (some sz, sz, bytes)) (hsz : 0 < sz)
    (v : Value) (xs : List α) (hs : a.eval s = v) (hI : RowG C E sz B w v xs) (y : α) (c : List Value) (ad : Addr) (cp : Nat) (hx : a.eval x = .slice (some ad) 1 cp)
    (hnews : ∀ j u, c[j]? = some u → w.cell? (ad.add j) = some u) (hT : C (fun g => B ≤ g ∧ g < w.heap.size ∧ some g ≠ v.ownBlock) w y c) (hlen : xs.length + 1 ≤ maxLen) (hby : (xs.length + 1) * bytes ≤ 140737488355328) (hB : B ≤ w.heap.size)
    (h : ∀ g cap w', RowG C E sz B w' (.slice (some ⟨g, 0, none⟩) (xs.length + 1) cap) (xs ++ [y]) → w.grownBy w' v.ownBlock → K (a.put o.dst (.slice (some ⟨g, 0, none⟩) (xs.length + 1) cap)) w') :
    if Region.wanted o (yielded ops a.tmps) = true then Oper.wp P o a w K Q else Z := by
  obtain ⟨i, z, hi, hz, h1, h2, h3⟩ := info_z hi
  obtain ⟨ps, p1, p2, p3⟩ := id hI
  exact step_append_lies w hgd s x T ho B E i z sz bytes ht hi hz h1 h2 h3 hsz v _ _ hs p2 ad 1 cp c hx (by rw [hC.len hT, Nat.one_mul]) hnews (hC.one hT) (by decide) hlen hby hB w.heap.size rfl (fun g cap w' q1 q2 q3 _ => h g cap w' (rowG_more hC hT p1 p3 q1 q2 q3) q2)
end Go.Proofs.YtfjppbpicmniaaaGreatDoor

namespace Go.Proofs.YtfjppbpicmniaaaGreatDoor

def txtB (x : List UInt8) : List Nat := Wire.enc x.length ++ x.map UInt8.toNat
def fieldsB : List (List UInt8) → List Nat
  | [] => []
  | f :: r => txtB f ++ fieldsB r
def caseB (c : Cs) : List Nat := txtB c.1 ++ (Wire.enc c.2.length ++ fieldsB c.2)
def casesB : List Cs → List Nat
  | [] => []
  | c :: r => caseB c ++ casesB r
def itemB (x : It) : List Nat := Wire.enc x.kind.toNat ++ (txtB x.name ++ (if x.kind = 1 then Wire.enc x.cases.length ++ casesB x.cases else txtB x.ty))
def itemsB : List It → List Nat
  | [] => []
  | x :: r => itemB x ++ itemsB r
def ifaceB (m : List UInt8) (l : List It) : List Nat := txtB m ++ (Wire.enc l.length ++ itemsB l)
theorem fieldsB_append : ∀ (a b : List (List UInt8)), fieldsB (a ++ b) = fieldsB a ++ fieldsB b
  | [], b => rfl
  | x :: r, b => by rw [List.cons_append, fieldsB, fieldsB_append r b, fieldsB, List.append_assoc]
theorem casesB_append : ∀ (a b : List Cs), casesB (a ++ b) = casesB a ++ casesB b
  | [], b => rfl
  | x :: r, b => by rw [List.cons_append, casesB, casesB_append r b, casesB, List.append_assoc]
theorem itemsB_append : ∀ (a b : List It), itemsB (a ++ b) = itemsB a ++ itemsB b
  | [], b => rfl
  | x :: r, b => by rw [List.cons_append, itemsB, itemsB_append r b, itemsB, List.append_assoc]
theorem fieldsB_at (fs : List (List UInt8)) (k : Nat) (h : k < fs.length) : fieldsB (fs.take (k + 1)) = fieldsB (fs.take k) ++ txtB fs[k] := by
  rw [List.take_succ_eq_append_getElem h, fieldsB_append]
  simp [fieldsB]
theorem casesB_at (fs : List Cs) (k : Nat) (h : k < fs.length) : casesB (fs.take (k + 1)) = casesB (fs.take k) ++ caseB fs[k] := by
  rw [List.take_succ_eq_append_getElem h, casesB_append]
  simp [casesB]
theorem itemsB_at (fs : List It) (k : Nat) (h : k < fs.length) : itemsB (fs.take (k + 1)) = itemsB (fs.take k) ++ itemB fs[k] := by
  rw [List.take_succ_eq_append_getElem h, itemsB_append]
  simp [itemsB]
theorem fieldsB_le (fs : List (List UInt8)) (k : Nat) : (fieldsB (fs.take k)).length ≤ (fieldsB fs).length := by
  have := congrArg List.length (fieldsB_append (fs.take k) (fs.drop k))
  rw [List.take_append_drop, List.length_append] at this
  omega
theorem casesB_le (fs : List Cs) (k : Nat) : (casesB (fs.take k)).length ≤ (casesB fs).length := by
  have := congrArg List.length (casesB_append (fs.take k) (fs.drop k))
  rw [List.take_append_drop, List.length_append] at this
  omega
theorem itemsB_le (fs : List It) (k : Nat) : (itemsB (fs.take k)).length ≤ (itemsB fs).length := by
  have := congrArg List.length (itemsB_append (fs.take k) (fs.drop k))
  rw [List.take_append_drop, List.length_append] at this
  omega
theorem txtB_len (x : List UInt8) (h : x.length < 18446744073709551616) : (txtB x).length ≤ x.length + 10 := by
  have := Wire.enc_ten x.length h
  simp [txtB]
  omega
theorem txtB_ge (x : List UInt8) : x.length ≤ (txtB x).length := by simp [txtB]
theorem fields_len : ∀ (fs : List (List UInt8)), (∀ f ∈ fs, f.length ≤ 200) → (fieldsB fs).length ≤ 210 * fs.length
  | [], _ => by simp [fieldsB]
  | f :: r, h => by
    have h1 := fields_len r (fun x hx => h x (by simp [hx]))
    have h2 := h f (by simp)
    have h3 := txtB_len f (by omega)
    simp only [fieldsB, List.length_append, List.length_cons]
    omega
theorem name_len {x : List UInt8} (h : nameR x = true) : x.length ≤ 24 := by
  unfold nameR at h
  simp only [Bool.and_eq_true, decide_eq_true_eq] at h
  exact h.1.1.2
theorem big_len {x : List UInt8} (h : bigR x = true) : x.length ≤ 24 := by
  unfold bigR at h
  rw [Bool.and_eq_true] at h
  exact name_len h.1
theorem value_len {x : List UInt8} (h : valueR x = true) : x.length ≤ 24 := by
  unfold valueR at h
  rw [Bool.and_eq_true] at h
  exact name_len h.1
theorem right_len {x : List UInt8} (h : rightR x = true) : x.length ≤ 200 := by
  unfold rightR at h
  simp only [Bool.and_eq_true, decide_eq_true_eq] at h
  exact h.1
theorem case_len {ah : List Cs} {c : Cs} (h : caseE ah c = 0) : (caseB c).length ≤ 1000 := by
  unfold caseE at h
  split at h
  · cases h
  · split at h
    · cases h
    · split at h
      · cases h
      · split at h
        · rename_i h1 _ h3 h4
          have h5 := big_len (x := c.1) (by simpa using h1)
          have h6 := txtB_len c.1 (by omega)
          have h7 := fields_len c.2 (fun f hf => right_len (List.all_eq_true.1 h4 f hf))
          have h8 := Wire.enc_ten c.2.length (by omega)
          simp only [caseB, List.length_append]
          omega
        · cases h
theorem cases_len : ∀ (cs ah : List Cs), casesE ah cs = 0 → (casesB cs).length ≤ 1000 * cs.length
  | [], _, _ => by simp [casesB]
  | c :: r, ah, h => by
    rw [casesE] at h
    split at h
    · rename_i h0
      have h1 := case_len h0
      have h2 := cases_len r _ h
      simp only [casesB, List.length_append, List.length_cons]
      omega
    · rename_i h0
      exact absurd h h0
theorem item_kind {p : Option (List UInt8)} {x : It} (h : itemE p x = 0) : kindE x.kind = true ∧ namedE x = true := by
  unfold itemE at h
  split at h
  · cases h
  · split at h
    · cases h
    · rename_i h1 h2
      exact ⟨by simpa using h1, by simpa using h2⟩
theorem kind_three {k : Int} (h : kindE k = true) : 1 ≤ k ∧ k ≤ 3 := by
  simp only [kindE, Bool.or_eq_true, decide_eq_true_eq] at h
  omega
theorem item_len {p : Option (List UInt8)} {x : It} (h : itemE p x = 0) : (itemB x).length ≤ 7000 := by
  obtain ⟨h1, h2⟩ := item_kind h
  have h3 := kind_three h1
  have h4 := Wire.enc_ten x.kind.toNat (by omega)
  have h5 : x.name.length ≤ 24 := by
    unfold namedE at h2
    split at h2
    · exact big_len h2
    · exact value_len h2
  have h6 := txtB_len x.name (by omega)
  unfold itemE at h
  split at h
  · cases h
  · split at h
    · cases h
    · split at h
      · cases h
      · split at h
        · rename_i hk
          unfold valueE at h
          split at h
          · cases h
          · split at h
            · cases h
            · rename_i hr
              have h7 := right_len (x := x.ty) (by simpa using hr)
              have h8 := txtB_len x.ty (by omega)
              simp only [itemB, if_neg hk, List.length_append]
              omega
        · rename_i hk
          have hk1 : x.kind = 1 := Classical.not_not.1 hk
          unfold typeE at h
          split at h
          · cases h
          · split at h
            · cases h
            · split at h
              · cases h
              · rename_i h6'
                have h7 := cases_len x.cases [] h
                have h8 := Wire.enc_ten x.cases.length (by omega)
                simp only [itemB, if_pos hk1, List.length_append]
                omega
theorem items_len : ∀ (l : List It) (p : Option (List UInt8)), itemsE p l = 0 → (itemsB l).length ≤ 7000 * l.length ∧ ∀ x ∈ l, ∃ q, itemE q x = 0
  | [], _, _ => ⟨by simp [itemsB], fun x hx => by simp at hx⟩
  | x :: r, p, h => by
    rw [itemsE] at h
    split at h
    · rename_i h0
      have h1 := item_len h0
      obtain ⟨h2, h3⟩ := items_len r _ h
      refine ⟨?_, fun y hy => ?_⟩
      · simp only [itemsB, List.length_append, List.length_cons]
        omega
      · rcases List.mem_cons.1 hy with rfl | hy
        · exact ⟨p, h0⟩
        · exact h3 y hy
    · rename_i h0
      exact absurd h h0
/-- What is let by is short. -/
theorem right_short {m : List UInt8} {l : List It} (h : rightI m l = 0) : (ifaceB m l).length ≤ 300000 ∧ m.length ≤ 24 ∧ l.length ≤ 32 ∧ ∀ x ∈ l, ∃ q, itemE q x = 0 := by
  unfold rightI at h
  split at h
  · cases h
  · split at h
    · cases h
    · rename_i h1 h2
      obtain ⟨h3, h4⟩ := items_len l none h
      have h5 := value_len (x := m) (by simpa using h1)
      have h6 := txtB_len m (by omega)
      have h7 := Wire.enc_ten l.length (by omega)
      refine ⟨?_, h5, by omega, h4⟩
      simp only [ifaceB, List.length_append]
      omega
end Go.Proofs.YtfjppbpicmniaaaGreatDoor
