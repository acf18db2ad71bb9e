/-
  slices.Backward over items; the package's places: where each name is found first.
  And: The package's Same, and what it calls. The package's Breaks. The package's copies: of texts, of cases.
-/
import Derived.RangeFuncNested
import Derived.RangeFuncBound
import Derived.RangeFuncCalls
import Derived.RangeFuncLeaves
import Derived.RangeFuncBox
import Derived.Shelf.Abstract
import Derived.Shelf.RegionOpen
import Derived.WalkKit
import Derived.WalkArith
import Derived.OwnWalkIn
import Derived.TacticsInMore
import Derived.LoopNIn
import Derived.LoopIn
import Derived.Maps.OwnIn
import Derived.Maps.OwnSet
import Derived.Deep.Slices
import Derived.StringKeys
import Derived.Test.YtfjppbpicmniaaaGreatDoorG09
import Derived.Deep.LoopGhost
import Derived.Deep.CutRange
import Derived.Deep.RegionHeld3
import Derived.Deep.RegionWith
import Derived.Maps.OwnOps
import Derived.Test.YtfjppbpicmniaaaGreatDoorG12
import Derived.Test.YtfjppbpicmniaaaGreatDoorG04
import Derived.Deep.AppendLies
namespace Go.Proofs.YtfjppbpicmniaaaGreatDoor
open Go.RowKit Go.Shelf
attribute [local go_sem] Oper.semAt_some

/-- What a round is handed: where the item stands, the item, its cases' slice. -/
abbrev Rn : Type := { x : Nat × It × Option Addr × Nat // x.2.1.name.length ≤ 140737488355328 ∧ x.1 ≤ 2199023255552 }
def rnv (x : Rn) : Array Value := #[.int .i64 (x.1.1 : Int), .agg #[.int .i64 x.1.2.1.kind, .string (str x.1.2.1.name), .string (str x.1.2.1.ty), .slice x.1.2.2.1 x.1.2.1.cases.length x.1.2.2.2]]
def rn0 : Rn := ⟨(0, ⟨0, [], [], []⟩, none, 0), by simp⟩
def uptoR (f : Nat → Rn) (k : Nat) : List Rn := (List.range k).map f
theorem uptoR_succ (f : Nat → Rn) (k : Nat) : uptoR f (k + 1) = uptoR f k ++ [f k] := by simp [uptoR, List.range_succ]
theorem uptoR_length (f : Nat → Rn) (k : Nat) : (uptoR f k).length = k := by simp [uptoR]
/-- What a round that goes on keeps: what lay below n₀, and the box of the slice. -/
def KpB (n₀ Bs : Nat) (W W' : World) : Prop := Below n₀ W W' ∧ ∀ v, W.cell? ⟨Bs, 0, none⟩ = some v → W'.cell? ⟨Bs, 0, none⟩ = some v
theorem KpB.t {n₀ Bs : Nat} {A B C : World} (h : KpB n₀ Bs A B) (k : KpB n₀ Bs B C) : KpB n₀ Bs A C := ⟨h.1.trans k.1, fun v hv => k.2 v (h.2 v hv)⟩
theorem KpB.b {n₀ Bs : Nat} {w : World} (hn : n₀ ≤ w.heap.size) (W : World) (l : Nat) (o o' : Obj) (hl : w.heap.size ≤ l) (h : W.heap[l]? = some o) (hc : o.isCells = false) (hw : o.isWalk = false) : KpB n₀ Bs W (W.putObj l o') :=
  ⟨belowK_b hn W l o o' hl h hc hw, fun v hv => cell_kept hv (grownBy_putObj' W l o') (fun r e => by cases e; exact ⟨o, h, hc⟩)⟩
/-- Where each name is found first, as a map. -/
def plL {H : Type} : Nat → List It → DataW H
  | _, [] => .map []
  | i, x :: r => (plL (i + 1) r).put (.string x.name) (.lit (.int .i64 (i : Int)))
def plR {H : Type} (pre : List Rn) : DataW H := pre.foldl (fun D x => D.put (.string x.1.2.1.name) (.lit (.int .i64 (x.1.1 : Int)))) (.map [])
theorem plR_snoc {H : Type} (pre : List Rn) (x : Rn) : plR (H := H) (pre ++ [x]) = (plR pre).put (.string x.1.2.1.name) (.lit (.int .i64 (x.1.1 : Int))) := by simp [plR]
theorem plL_map {H : Type} : ∀ (i : Nat) (l : List It), Maps.IsMap (plL (H := H) i l)
  | _, [] => ⟨[], rfl⟩
  | i, x :: r => by
    obtain ⟨es, he⟩ := plL_map (H := H) (i + 1) r
    rw [plL, he]
    exact ⟨_, rfl⟩
theorem plL_has {H : Type} (q : List UInt8) : ∀ (i : Nat) (l : List It), Maps.has (plL (H := H) i l) (.string q) = (findI l q).isSome
  | _, [] => rfl
  | i, x :: r => by
    by_cases h : x.name = q
    · subst h
      rw [plL, Maps.has_put_same (plL_map _ _) (show WideAt.IsKeyLit (.string x.name) from trivial)]
      simp [findI]
    · rw [plL, Maps.has_put_other (by simp; exact fun e => h e.symm), plL_has q (i + 1) r]
      simp [findI, h]
theorem plL_at {H : Type} (q : List UInt8) (z : DataW H) : ∀ (i : Nat) (l : List It) (x : It), findI l q = some x → ∃ j, ∃ h : j < l.length, l[j] = x ∧ (plL (H := H) i l).atKey (.string q) z = .lit (.int .i64 ((i + j : Nat) : Int))
  | _, [], x, h => by simp [findI] at h
  | i, y :: r, x, h => by
    by_cases hy : y.name = q
    · subst hy
      simp only [findI, List.find?_cons, decide_true, Option.some.injEq] at h
      subst h
      exact ⟨0, by simp, rfl, by rw [plL, Maps.atKey_put_same (plL_map _ _) (show WideAt.IsKeyLit (.string y.name) from trivial)]; rfl⟩
    · have h' : findI r q = some x := by simpa [findI, hy] using h
      obtain ⟨j, hj, e1, e2⟩ := plL_at q z (i + 1) r x h'
      refine ⟨j + 1, by simp; omega, by simpa using e1, ?_⟩
      rw [plL, Maps.atKey_put_other (by simp; exact fun e => hy e.symm), e2]
      congr 3
      omega
theorem plR_all {H : Type} (l : List It) (f : Nat → Rn) (hf : ∀ k, k < l.length → (f k).1.1 = l.length - 1 - k ∧ l[l.length - 1 - k]? = some (f k).1.2.1) : ∀ k, k ≤ l.length → plR (H := H) (uptoR f k) = plL (l.length - k) (l.drop (l.length - k))
  | 0, _ => by
    rw [Nat.sub_zero, List.drop_of_length_le (Nat.le_refl _)]
    rfl
  | k + 1, h => by
    obtain ⟨h1, h2⟩ := hf k (by omega)
    obtain ⟨hj, h3⟩ := List.getElem?_eq_some_iff.1 h2
    rw [uptoR_succ, plR_snoc, plR_all l f hf k (by omega), h1]
    have e : l.length - (k + 1) = l.length - 1 - k := by omega
    rw [e, List.drop_eq_getElem_cons hj, plL, h3, show l.length - 1 - k + 1 = l.length - k by omega]
theorem rn_choose {F : Nat → Prop} {w : World} {g o cap : Nat} {l : List It} (h : ItR F w (.slice (some ⟨g, o, none⟩) l.length cap) l) (hok : ∀ x ∈ l, ItOk x) (hl : l.length ≤ 2199023255552) : ∃ f : Nat → Rn, ∀ k, k < l.length → (f k).1.1 = l.length - 1 - k ∧ l[l.length - 1 - k]? = some (f k).1.2.1 ∧ w.cell? ⟨g, o + (l.length - 1 - k) * 4, none⟩ = some (.int .i64 (f k).1.2.1.kind) ∧ w.cell? ⟨g, o + (l.length - 1 - k) * 4 + 1, none⟩ = some (.string (str (f k).1.2.1.name)) ∧ w.cell? ⟨g, o + (l.length - 1 - k) * 4 + 2, none⟩ = some (.string (str (f k).1.2.1.ty)) ∧ w.cell? ⟨g, o + (l.length - 1 - k) * 4 + 3, none⟩ = some (.slice (f k).1.2.2.1 (f k).1.2.1.cases.length (f k).1.2.2.2) := by
  have key : ∀ k, ∃ x : Rn, k < l.length → x.1.1 = l.length - 1 - k ∧ l[l.length - 1 - k]? = some x.1.2.1 ∧ w.cell? ⟨g, o + (l.length - 1 - k) * 4, none⟩ = some (.int .i64 x.1.2.1.kind) ∧ w.cell? ⟨g, o + (l.length - 1 - k) * 4 + 1, none⟩ = some (.string (str x.1.2.1.name)) ∧ w.cell? ⟨g, o + (l.length - 1 - k) * 4 + 2, none⟩ = some (.string (str x.1.2.1.ty)) ∧ w.cell? ⟨g, o + (l.length - 1 - k) * 4 + 3, none⟩ = some (.slice x.1.2.2.1 x.1.2.1.cases.length x.1.2.2.2) := by
    intro k
    by_cases hk : k < l.length
    · have hj : l.length - 1 - k < l.length := by omega
      obtain ⟨g', o', cap', cv, e1, _, hC, q0, q1, q2, q3⟩ := h.at _ hj
      simp only [Value.slice.injEq, Option.some.injEq, Addr.mk.injEq, and_true, true_and] at e1
      obtain ⟨⟨rfl, rfl⟩, _⟩ := e1
      obtain ⟨ca, cc, rfl⟩ := hC.shape
      exact ⟨⟨(l.length - 1 - k, l[l.length - 1 - k], ca, cc), (hok _ (List.getElem_mem hj)).2.2.1, by show l.length - 1 - k ≤ _; omega⟩, fun _ => ⟨rfl, List.getElem?_eq_getElem hj, q0, q1, q2, q3⟩⟩
    · exact ⟨rn0, fun h => absurd h hk⟩
  exact ⟨fun k => Classical.choose (key k), fun k hk => Classical.choose_spec (key k) hk⟩
end Go.Proofs.YtfjppbpicmniaaaGreatDoor

namespace Go.Proofs.YtfjppbpicmniaaaGreatDoor
open Go.RowKit

theorem take_both {α : Type} {xs ys : List α} {k : Nat} (hx : k < xs.length) (hy : k < ys.length) (h : xs.take k = ys.take k) (he : xs[k] = ys[k]) : xs.take (k + 1) = ys.take (k + 1) := by
  rw [List.take_succ_eq_append_getElem hx, List.take_succ_eq_append_getElem hy, h, he]
end Go.Proofs.YtfjppbpicmniaaaGreatDoor

namespace Go.Proofs.YtfjppbpicmniaaaGreatDoor
open Go.RowKit Go.Maps

theorem ownsMap_below {H : Type} {w w' : World} {B b n : Nat} {k : TypeId} {R : Value → Option (DataW H × List MemPlace)} {D : DataW H} (h : w.ownsMap Tryz.prog k R b n D) (hb : Below B w w') (hlt : b < B) : w'.ownsMap Tryz.prog k R b n D := by
  obtain ⟨es, c, h1, h2⟩ := h
  exact ⟨es, c, (hb.block b hlt).trans h1, h2⟩
theorem append_textN {w : World} {ops : Array Oper} {rest : List Oper} {o : Oper} {a : Act} {Q : Exit → Act → World → Prop} (hgd : o.guard = none) (s x : Operand)
    (ho : o.op = .call { callee := .builtin .append, args := #[s, x], argTypes := #[23, 23] })
    (B : Nat) (v : Value) (acc : List (List UInt8)) (hs : a.eval s = v) (hown : w.ownsRow B 9 1 v acc.length (sc acc))
    (ad : Addr) (c : Nat) (n : List UInt8) (hx : a.eval x = .slice (some ad) 1 c) (hnews : ∀ j u, (sc [n])[j]? = some u → w.cell? (ad.add j) = some u)
    (hlen : acc.length + 1 ≤ 8796093022208) (hB : B ≤ w.heap.size)
    (h : ∀ ad' c' w', w'.ownsRow B 9 1 (.slice (some ad') (acc.length + 1) c') (acc ++ [n]).length (sc (acc ++ [n])) → w.grownBy w' v.ownBlock → wpList Tryz.prog ops Q rest (a.put o.dst (.slice (some ad') (acc.length + 1) c')) w') :
    wpList Tryz.prog ops Q (o :: rest) a w := by
  obtain ⟨i, z, hi, hz, h1, h2, h3⟩ := info_z infoS
  refine wpList_append_own w hgd s x 23 ho B 9 i z 1 16 Tryz.underlying23 hi hz h1 h2 h3 (by decide) v acc.length (sc acc) hs hown ad 1 c (sc [n]) hx rfl hnews (fun u hu => ?_) (by unfold maxLen; omega) (by omega) hB ?_
  · obtain ⟨_, _, rfl⟩ := List.mem_map.1 hu
    rfl
  intro v' w' k1 k2 k3
  rcases k1.2 with ⟨rfl, hz⟩ | ⟨g, cap, cur, rfl, _⟩
  · omega
  · rw [← sc_append] at k1
    exact h ⟨g, 0, none⟩ cap w' (by simpa using k1) k2
theorem StrRow.atJ {w : World} {v : Value} {xs : List (List UInt8)} (h : StrRow w v xs) (i : Nat) (hi : i < xs.length) : ∃ bk o c, v = .slice (some ⟨bk, o, none⟩) xs.length c ∧ w.cell? ⟨bk, o + i, none⟩ = some (.string (str xs[i])) := by
  rcases h with ⟨rfl, _⟩ | ⟨bk, o, c, h1, _, _, h3⟩
  · simp at hi
  · exact ⟨bk, o, c, h1, h3 i _ (List.getElem?_eq_getElem hi)⟩
theorem broken_step (l l2 : List It) (ys acc : List (List UInt8)) (k : Nat) (h : k < ys.length) (hq : acc ++ (ys.drop k).filter (brokenI l l2) = ys.filter (brokenI l l2)) : (if brokenI l l2 ys[k] then acc ++ [ys[k]] else acc) ++ (ys.drop (k + 1)).filter (brokenI l l2) = ys.filter (brokenI l l2) := by
  rw [List.drop_eq_getElem_cons h, List.filter_cons] at hq
  rw [← hq]
  split <;> simp
theorem once_tk {xs : List (List UInt8)} (h : ∀ x ∈ xs, Tk x) : (∀ x ∈ onceR xs, Tk x) ∧ (onceR xs).length ≤ xs.length := by
  constructor
  · intro x hx
    exact h x ((onceR_mem xs x).1 hx)
  · rw [onceR_is]
    have := compactO_len (sortR xs)
    rwa [sortR_length] at this
end Go.Proofs.YtfjppbpicmniaaaGreatDoor

namespace Go.Proofs.YtfjppbpicmniaaaGreatDoor
open Go.RowKit

/-- Blocks that were made on the way. -/
def Fr (w w' : World) (g : Nat) : Prop := w.heap.size ≤ g ∧ g < w'.heap.size
theorem tx_own {w : World} {B e : Nat} {v : Value} {xs : List (List UInt8)} (h : w.ownsRow B e 1 v xs.length (sc xs)) : TxR (fun g => B ≤ g ∧ g < w.heap.size) w v xs := by
  rcases h.2 with ⟨rfl, hn⟩ | ⟨g, cap, cur, rfl, hb, hg, h1, _⟩
  · exact .inl ⟨none, 0, rfl, List.eq_nil_of_length_eq_zero hn⟩
  · refine .inr ⟨g, 0, cap, rfl, ⟨hb, (Array.getElem?_eq_some_iff.1 hg).1⟩, fun j x hj => ?_⟩
    obtain ⟨hlt, rfl⟩ := List.getElem?_eq_some_iff.1 hj
    rw [Nat.zero_add, h.cellAt j (by omega)]
    simp [sc, hlt]
set_option maxHeartbeats 1000000 in
set_option maxRecDepth 1000000 in
theorem copyTexts (F : Nat → Prop) (v : Value) (xs : List (List UInt8)) (w : World) (h : TxR F w v xs) (hF : ∀ g, F g → g < w.heap.size) (hl : xs.length ≤ 8796093022208) (htk : ∀ x ∈ xs, Tk x) :
    Calls Tryz.prog 206 #[v] w fun e w' => ∃ v', e = .returned v' ∧ TxR (Fr w w') w' v' xs ∧ Below w.heap.size w w' := by
  obtain ⟨va, vc, rfl⟩ := h.shape
  have hh := hidden h
  clear h
  go_enter Tryz.func206, Tryz.ntmps206
  go_wp2_with fail
  go_loopg [3, 8] xs.length (fun g x i wr => ∃ (k : Nat), g + k = xs.length ∧ i = .int .i64 (k : Int) ∧ wr.ownsRow w.heap.size 9 1 x (xs.take k).length (sc (xs.take k)) ∧ Below w.heap.size w wr)
  case atStart => exact ⟨0, by simp, rfl, by simpa [sc] using World.ownsRow_nil _ _ _ _, Below.refl _ _⟩
  case round =>
    obtain ⟨k, hg, rfl, hown, hbr⟩ := hrel
    by_cases hk : k < xs.length
    · obtain ⟨bk, o, c, e1, hgF, qx⟩ := (hh.out.below hbr hF).at k hk
      simp only [Value.slice.injEq, true_and] at e1
      obtain ⟨rfl, rfl⟩ := e1
      have hki : (k : Int) < (xs.length : Int) := by omega
      have hx := htk _ (List.getElem_mem hk)
      have HX : Hid (xs.take (k + 1) = xs.take k ++ [xs[k]]) := List.take_succ_eq_append_getElem hk
      have hal : (xs.take k).length ≤ k := by simp; omega
      have hB6 : w.heap.size ≤ wr.heap.size := hbr.size
      clear hh
      generalize xs[k] = x at *
      generalize xs.take k = acc at *
      go_wp2_with fail
      refine (sCloneT x _ hx).mono ?_
      rintro e w9 ⟨rfl, hb9⟩
      have ho9 := owns_below hown hb9
      have hb90 : Below w.heap.size w w9 := hbr.trans (hb9.mono hB6)
      have hB9 : w.heap.size ≤ w9.heap.size := hb90.size
      clear hown hbr hb9 hB6
      go_wp2_with (at_builtin; refine append_textN rfl (.tmp 12) (.tmp 15) rfl w.heap.size _ acc rfl (ho9.alloc _) _ _ x rfl ?src ?len ?hB ?next)
      case src => first | exact cells_new _ _ _ | exact fun j u h => h
      case len => first | omega | (simp; omega)
      case hB => first | omega | (simp; omega)
      case next =>
        intro ad c' w' k1 k2
        have k3 := below_grown (ho9.alloc _) (by simp; omega) (hb90.alloc hB9 _) k2
        clear k2 ho9 hb90
        go_wp2
        go_roundg (xs.length - (k + 1))
        case measure => omega
        case rel => exact ⟨k + 1, by omega, by go_num, by rw [HX.out, List.length_append, List.length_singleton]; exact k1, k3⟩
    · have hki : ¬ (k : Int) < (xs.length : Int) := by omega
      rw [List.take_of_length_le (by omega)] at hown
      clear hh
      go_wp2
      go_ret
      exact ⟨_, rfl, tx_own hown, hbr⟩
def rowK (ps : List (Cs × Value)) : List Value := ps.flatMap fun p => [.string (str p.1.1), p.2]
theorem rowK_snoc (ps : List (Cs × Value)) (p : Cs × Value) : rowK (ps ++ [p]) = rowK ps ++ [.string (str p.1.1), p.2] := by simp [rowK]
/-- Cases in a row of the call's own, their fields apart from it. -/
def CsI (B : Nat) (w : World) (v : Value) (cs : List Cs) : Prop := ∃ ps : List (Cs × Value), ps.map (·.1) = cs ∧ w.ownsRow B 204 2 v cs.length (rowK ps) ∧ ∀ p ∈ ps, TxR (fun g => B ≤ g ∧ g < w.heap.size ∧ some g ≠ v.ownBlock) w p.2 p.1.2
theorem CsI.nil (B : Nat) (w : World) : CsI B w (.slice none 0 0) [] := ⟨[], rfl, World.ownsRow_nil _ _ _ _, by simp⟩
theorem CsI.below {B : Nat} {w w' : World} {v : Value} {cs : List Cs} (h : CsI B w v cs) (hb : Below w.heap.size w w') : CsI B w' v cs := by
  obtain ⟨ps, h1, h2, h3⟩ := h
  exact ⟨ps, h1, owns_below h2 hb, fun p hp => (h3 p hp).frame fun g hg => ⟨⟨hg.1, Nat.lt_of_lt_of_le hg.2.1 hb.size, hg.2.2⟩, hb.block g hg.2.1⟩⟩
theorem owns_block {w : World} {B e sz n : Nat} {v : Value} {xs : List Value} (h : w.ownsRow B e sz v n xs) {g : Nat} (hg : v.ownBlock = some g) : B ≤ g ∧ g < w.heap.size := by
  rcases h.2 with ⟨rfl, _⟩ | ⟨g', cap, cur, rfl, hb, hk, _⟩
  · simp [Value.ownBlock] at hg
  · simp only [Value.ownBlock, Option.some.injEq] at hg
    subst hg
    exact ⟨hb, (Array.getElem?_eq_some_iff.1 hk).1⟩
theorem CsI.block {B : Nat} {w : World} {v : Value} {cs : List Cs} (h : CsI B w v cs) {g : Nat} (hg : v.ownBlock = some g) : B ≤ g ∧ g < w.heap.size := by
  obtain ⟨ps, h1, h2, h3⟩ := h
  exact owns_block h2 hg
theorem CsI.shape {B : Nat} {w : World} {v : Value} {cs : List Cs} (h : CsI B w v cs) : ∃ a c, v = .slice a cs.length c := by
  obtain ⟨ps, h1, h2, h3⟩ := h
  rcases h2.2 with ⟨rfl, hn⟩ | ⟨g, cap, cur, rfl, _⟩
  · exact ⟨none, 0, by rw [hn]⟩
  · exact ⟨_, _, rfl⟩
theorem rowK_at : ∀ (ps : List (Cs × Value)) (j : Nat) (h : j < ps.length) (i : Nat), i < 2 → (rowK ps)[j * 2 + i]? = ([.string (str ps[j].1.1), ps[j].2] : List Value)[i]?
  | p :: r, 0, _, i, hi => by
    rw [Nat.zero_mul, Nat.zero_add, rowK, List.flatMap_cons, List.getElem?_append_left (by simpa using hi)]
    rfl
  | p :: r, j + 1, h, i, hi => by
    have := rowK_at r j (by simpa using h) i hi
    rw [rowK, List.flatMap_cons, List.getElem?_append_right (by simp; omega)]
    simpa [rowK, Nat.add_mul, Nat.add_right_comm] using this
theorem CsI.row {B : Nat} {w : World} {v : Value} {cs : List Cs} (h : CsI B w v cs) : CsR (fun g => B ≤ g ∧ g < w.heap.size) w v cs := by
  obtain ⟨ps, rfl, h2, h3⟩ := h
  rcases h2.2 with ⟨rfl, hn⟩ | ⟨g, cap, cur, rfl, hb, hg, hl, _⟩
  · exact .inl ⟨none, 0, rfl, List.eq_nil_of_length_eq_zero hn⟩
  · refine .inr ⟨g, 0, cap, rfl, hl, ⟨hb, (Array.getElem?_eq_some_iff.1 hg).1⟩, fun j x hj => ?_⟩
    rw [List.getElem?_map] at hj
    obtain ⟨p, hp, rfl⟩ := Option.map_eq_some_iff.1 hj
    obtain ⟨hlt, rfl⟩ := List.getElem?_eq_some_iff.1 hp
    refine ⟨ps[j].2, (h3 _ (List.getElem_mem hlt)).frame fun g' hg' => ⟨⟨hg'.1, hg'.2.1⟩, rfl⟩, ?_, ?_⟩
    · have e0 := rowK_at ps j hlt 0 (by omega)
      rw [Nat.add_zero] at e0
      rw [Nat.zero_add, h2.cellAt (j * 2) (by simp; omega), e0]
      rfl
    · rw [Nat.zero_add, h2.cellAt (j * 2 + 1) (by simp; omega), rowK_at ps j hlt 1 (by omega)]
      rfl
theorem infoC : (Tryz.prog.info? 204).map (fun i => (i.zero.map (fun z => z.cells.size), i.size, i.bytes)) = some (some 2, 2, 40) := by kernel_rfl
theorem TxR.one {F : Nat → Prop} {w : World} {v : Value} {xs : List (List UInt8)} (h : TxR F w v xs) : v.oneCell' = true := by
  obtain ⟨a, c, rfl⟩ := h.shape
  rfl
/-- One case put behind the others, in a region that draws. -/
theorem step_case {w : World} {ops : Array Oper} {o : Oper} {a : Act} {K : Act → World → Prop} {Q : Exit → Act → World → Prop} {E : Prop} (hgd : o.guard = none) (s x : Operand)
    (ho : o.op = .call { callee := .builtin .append, args := #[s, x], argTypes := #[76, 76] })
    (B : Nat) (v : Value) (cs : List Cs) (hs : a.eval s = v) (hI : CsI B w v cs) (c : Cs) (fv : Value) (ad : Addr) (cp : Nat) (hx : a.eval x = .slice (some ad) 1 cp)
    (hnews : ∀ j u, ([.string (str c.1), fv] : List Value)[j]? = some u → w.cell? (ad.add j) = some u) (hT : TxR (fun g => B ≤ g ∧ g < w.heap.size ∧ some g ≠ v.ownBlock) w fv c.2) (hlen : cs.length + 1 ≤ 3518437208883) (hB : B ≤ w.heap.size)
    (h : ∀ g cap w', CsI B w' (.slice (some ⟨g, 0, none⟩) (cs.length + 1) cap) (cs ++ [c]) → (∀ w0, Below B w0 w → Below B w0 w') → (∀ b, b < w.heap.size → v.ownBlock ≠ some b → w'.heap[b]? = w.heap[b]?) → K (a.put o.dst (.slice (some ⟨g, 0, none⟩) (cs.length + 1) cap)) w') :
    if Region.wanted o (yielded ops a.tmps) = true then Oper.wp Tryz.prog o a w K Q else E := by
  obtain ⟨i, z, hi, hz, h1, h2, h3⟩ := info_z infoC
  obtain ⟨ps, rfl, p2, p3⟩ := hI
  refine step_append_lies w hgd s x 76 ho B 204 i z 2 40 Tryz.underlying76 hi hz h1 h2 h3 (by decide) v _ (rowK ps) hs p2 ad 1 cp [.string (str c.1), fv] hx rfl hnews (fun u hu => ?_) (by decide) (by unfold maxLen; omega) (by omega) hB w.heap.size rfl ?_
  · simp only [List.mem_cons, List.not_mem_nil, or_false] at hu
    rcases hu with rfl | rfl
    · rfl
    · exact hT.one
  · intro g cap w' q1 q2 q3 q4
    refine h g cap w' ⟨ps ++ [(c, fv)], by simp, by rw [rowK_snoc]; simpa using q1, fun p hp => ?_⟩ (fun w0 hw0 => hw0.grown q2 hB (fun k hk => (owns_block p2 hk).1)) (fun b hb hn => q2.block b hb (fun e => hn e.symm))
    have key : ∀ fv' (xs : List (List UInt8)), TxR (fun g => B ≤ g ∧ g < w.heap.size ∧ some g ≠ v.ownBlock) w fv' xs → TxR (fun g' => B ≤ g' ∧ g' < w'.heap.size ∧ some g' ≠ (Value.slice (some ⟨g, 0, none⟩) ((ps.map (·.1)).length + 1) cap).ownBlock) w' fv' xs := fun fv' xs ht => ht.frame fun g' hg' => by
      refine ⟨⟨hg'.1, Nat.lt_of_lt_of_le hg'.2.1 q2.size, fun e => ?_⟩, q2.block g' hg'.2.1 hg'.2.2⟩
      simp only [Value.ownBlock, Option.some.injEq] at e
      subst e
      rcases q3 with q3 | q3
      · exact hg'.2.2 q3.symm
      · have := hg'.2.1
        omega
    rcases List.mem_append.1 hp with hp | hp
    · exact key _ _ (p3 p hp)
    · rw [List.mem_singleton.1 hp]
      exact key _ _ hT
theorem tx_more {n : Nat} {u u' : World} {v : Value} {xs : List (List UInt8)} (h : TxR (fun g => n ≤ g ∧ g < u.heap.size) u v xs) (hb : Below u.heap.size u u') : TxR (fun g => n ≤ g ∧ g < u'.heap.size) u' v xs :=
  h.frame fun g hg => ⟨⟨hg.1, Nat.lt_of_lt_of_le hg.2 hb.size⟩, hb.block g hg.2⟩
set_option maxHeartbeats 1000000 in
set_option maxRecDepth 1000000 in
theorem copyCases (F : Nat → Prop) (v : Value) (cs : List Cs) (w : World) (h : CsR F w v cs) (hF : ∀ g, F g → g < w.heap.size) (hl : cs.length ≤ 3518437208883) (hok : ∀ c ∈ cs, CsOk c) :
    Calls Tryz.prog 192 #[v] w fun e w' => ∃ v', e = .returned v' ∧ CsR (Fr w w') w' v' cs ∧ Below w.heap.size w w' := by
  obtain ⟨va, vc, rfl⟩ := h.shape
  have hh := hidden h
  clear h
  go_enter Tryz.func192, Tryz.ntmps192
  go_wp2_with fail
  go_loopg [3, 8] cs.length (fun g x i wr => ∃ (k : Nat), g + k = cs.length ∧ i = .int .i64 (k : Int) ∧ CsI w.heap.size wr x (cs.take k) ∧ Below w.heap.size w wr)
  case atStart => exact ⟨0, by simp, rfl, CsI.nil _ _, Below.refl _ _⟩
  case round =>
    obtain ⟨k, hg, rfl, hI, hbr⟩ := hrel
    by_cases hk : k < cs.length
    · obtain ⟨bk, o, c, fv, e1, hcl, hgF, hTx, q1, q2⟩ := (hh.out.below hbr hF).at k hk
      simp only [Value.slice.injEq, true_and] at e1
      obtain ⟨rfl, rfl⟩ := e1
      obtain ⟨fa, fc, rfl⟩ := hTx.shape
      have hki : (k : Int) < (cs.length : Int) := by omega
      have hx := hok _ (List.getElem_mem hk)
      have HX : Hid (cs.take (k + 1) = cs.take k ++ [cs[k]]) := List.take_succ_eq_append_getElem hk
      have hal : (cs.take k).length + 1 ≤ 3518437208883 := by simp; omega
      have hB6 : w.heap.size ≤ wr.heap.size := hbr.size
      clear hh
      generalize cs[k] = cx at *
      generalize cs.take k = acc at *
      obtain ⟨n, fs⟩ := cx
      simp only at hTx q1 q2 hki
      have hn : Tk n := hx.1
      have hb0 : Below wr.heap.size wr (wr.alloc (.cells #[.string (str n), .slice fa fs.length fc] 204)) := (Below.refl _ _).alloc (Nat.le_refl _) _
      have hS : ∀ u, Below (wr.heap.size + 1) (wr.alloc (.cells #[.string (str n), .slice fa fs.length fc] 204)) u → u.cell? ⟨wr.heap.size, 0, none⟩ = some (.string (str n)) ∧ u.cell? ⟨wr.heap.size, 1, none⟩ = some (.slice fa fs.length fc) := fun u hu => by
        have k1 : u.heap[wr.heap.size]? = some (.cells #[.string (str n), .slice fa fs.length fc] 204 (0, 0)) := (hu.block _ (by omega)).trans (World.alloc_heap_new wr _)
        exact ⟨by rw [cell_of_row u _ 0 _ _ _ k1]; rfl, by rw [cell_of_row u _ 1 _ _ _ k1]; rfl⟩
      have hSz : ∀ u, Below (wr.heap.size + 1) (wr.alloc (.cells #[.string (str n), .slice fa fs.length fc] 204)) u → wr.heap.size + 1 ≤ u.heap.size := fun u hu => by have := hu.size; simpa using this
      have hBw : ∀ u, Below (wr.heap.size + 1) (wr.alloc (.cells #[.string (str n), .slice fa fs.length fc] 204)) u → Below wr.heap.size wr u := fun u hu => hb0.trans (hu.mono (by omega))
      have hCT : ∀ u, Below (wr.heap.size + 1) (wr.alloc (.cells #[.string (str n), .slice fa fs.length fc] 204)) u → Calls Tryz.prog 206 #[.slice fa fs.length fc] u fun e w' => ∃ v', e = .returned v' ∧ TxR (Fr u w') w' v' fs ∧ Below u.heap.size u w' := fun u hu =>
        copyTexts F _ fs u (hTx.below (hBw u hu) (fun g hg => by have := hF g hg; omega)) (fun g hg => by have := hF g hg; have := hSz u hu; omega) hx.2.1 hx.2.2
      have hnext : ∀ u u', Below (wr.heap.size + 1) (wr.alloc (.cells #[.string (str n), .slice fa fs.length fc] 204)) u → Below u.heap.size u u' → Below (wr.heap.size + 1) (wr.alloc (.cells #[.string (str n), .slice fa fs.length fc] 204)) u' := fun u u' hu h => hu.trans (h.mono (hSz u hu))
      have hAl : ∀ u (O : Obj), Below (wr.heap.size + 1) (wr.alloc (.cells #[.string (str n), .slice fa fs.length fc] 204)) u → Below (wr.heap.size + 1) (wr.alloc (.cells #[.string (str n), .slice fa fs.length fc] 204)) (u.alloc O) := fun u O hu => hu.alloc (hSz u hu) O
      have hCI : ∀ u, Below (wr.heap.size + 1) (wr.alloc (.cells #[.string (str n), .slice fa fs.length fc] 204)) u → CsI w.heap.size u _ acc := fun u hu => hI.below (hBw u hu)
      have hTm : ∀ u w' v', Below (wr.heap.size + 1) (wr.alloc (.cells #[.string (str n), .slice fa fs.length fc] 204)) u → TxR (Fr u w') w' v' fs → TxR (fun g => wr.heap.size + 1 ≤ g ∧ g < w'.heap.size) w' v' fs := fun u w' v' hu ht => ht.frame fun g hg => ⟨⟨by have := hSz u hu; have := hg.1; omega, hg.2⟩, rfl⟩
      have hTo : ∀ (u : World) (O : Obj) v', TxR (fun g => wr.heap.size + 1 ≤ g ∧ g < u.heap.size) u v' fs → TxR (fun g => w.heap.size ≤ g ∧ g < (u.alloc O).heap.size ∧ some g ≠ Value.ownBlock _) (u.alloc O) v' fs := fun u O v' ht => ht.frame fun g hg => ⟨⟨by have := hg.1; omega, by have := hg.2; simp; omega, fun e => by have := hI.block e.symm; have := hg.1; omega⟩, Below.heap_alloc _ _ _ hg.2⟩
      have hSB : ∀ u (O : Obj), Below (wr.heap.size + 1) (wr.alloc (.cells #[.string (str n), .slice fa fs.length fc] 204)) u → w.heap.size ≤ (u.alloc O).heap.size := fun u O hu => by have := hSz u hu; simp; omega
      have hFin : ∀ u (O : Obj), Below (wr.heap.size + 1) (wr.alloc (.cells #[.string (str n), .slice fa fs.length fc] 204)) u → Below w.heap.size w (u.alloc O) := fun u O hu => hbr.trans ((hBw _ (hAl u O hu)).mono hB6)
      have hS7 : ∀ u (O : Obj) (w7 : World), Below (wr.heap.size + 1) (wr.alloc (.cells #[.string (str n), .slice fa fs.length fc] 204)) u → (∀ b, b < (u.alloc O).heap.size → Value.ownBlock _ ≠ some b → w7.heap[b]? = (u.alloc O).heap[b]?) → w7.cell? ⟨wr.heap.size, 0, none⟩ = some (.string (str n)) ∧ w7.cell? ⟨wr.heap.size, 1, none⟩ = some (.slice fa fs.length fc) := fun u O w7 hu hk => by
        obtain ⟨c0, c1⟩ := hS _ (hAl u O hu)
        have hq := hk wr.heap.size (by have := hSz u hu; simp; omega) (fun e => by have := hI.block e; omega)
        exact ⟨(World.cell?_of_block (a := ⟨wr.heap.size, 0, none⟩) hq).trans c0, (World.cell?_of_block (a := ⟨wr.heap.size, 1, none⟩) hq).trans c1⟩
      have G0 : Below (wr.heap.size + 1) (wr.alloc (.cells #[.string (str n), .slice fa fs.length fc] 204)) (wr.alloc (.cells #[.string (str n), .slice fa fs.length fc] 204)).drew := (Below.refl _ _).drew
      obtain ⟨xa, xc, hxv⟩ := hI.shape
      subst hxv
      clear hI hTx hx hok hBw hb0
      go_wp2_with fail
      obtain ⟨d0, d1⟩ := hS _ G0
      generalize hW : wr.alloc (.cells #[.string (str n), .slice fa fs.length fc] 204) = W at *
      clear hW q1 q2
      go_region_held3 (fun u => u.cell? ⟨wr.heap.size, 0, none⟩ = some (.string (str n)) ∧ u.cell? ⟨wr.heap.size, 1, none⟩ = some (.slice fa fs.length fc)) (first | go_keep | exact hS _ (by assumption) | assumption) (first
        | (go_at_call 47; refine (sCloneT n _ hn).mono ?_; rintro e wa ⟨rfl, hba⟩; have Ga := hnext _ _ (by assumption) hba; obtain ⟨d0, d1⟩ := hS _ Ga; try (have hT5 := tx_more hT5 hba); clear hba)
        | (go_at_call 206; refine (hCT _ (by assumption)).mono ?_; rintro e wb ⟨v5, rfl, hT4, hbb⟩; have hT5 := hTm _ _ _ (by assumption) hT4; obtain ⟨ga, gc, rfl⟩ := hT5.shape; have Gb := hnext _ _ (by assumption) hbb; obtain ⟨d0, d1⟩ := hS _ Gb; clear hbb hT4)
        | (refine step_case (by rfl) (.tmp 12) (.tmp 20) (by rfl) w.heap.size _ acc (by rfl) (hCI _ (hAl _ _ (by assumption))) (n, fs) _ _ 1 (by rfl) (cells_new _ _ _) (hTo _ _ _ (by assumption)) hal (hSB _ _ (by assumption)) ?_; intro gq cap w7 hI7 hf7 hk7; have hb7 := hf7 _ (hFin _ _ (by assumption)); have S7 := hS7 _ _ _ (by assumption) hk7))
      all_goals (
        clear hS hS7 hSz hCT hnext hAl hCI hTm hTo hSB hFin G0
        go_wp2
        go_roundg (cs.length - (k + 1))
        case measure => omega
        case rel => exact ⟨k + 1, by omega, by go_num, by rw [HX.out]; exact hI7, hb7⟩)
    · have hki : ¬ (k : Int) < (cs.length : Int) := by omega
      rw [List.take_of_length_le (by omega)] at hI
      clear hh
      go_wp2
      go_ret
      exact ⟨_, rfl, hI.row, hbr⟩
end Go.Proofs.YtfjppbpicmniaaaGreatDoor
