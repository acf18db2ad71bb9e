/-
  A row of items that a call makes, one put behind the others.
  And: What is refused of one type, text, global of an object.
-/
import Derived.Deep.AppendLies
import Derived.Test.YtdeckknfolaaeaaGreatDoorG17
import Derived.Test.YtdeckknfolaaeaaGreatDoorG11
import Derived.Test.YtdeckknfolaaeaaGreatDoorG19
namespace Go.Proofs.YtdeckknfolaaeaaGreatDoor
open Go.RowKit

def rowJ (ps : List (It × Value)) : List Value := ps.flatMap fun p => [.int .i64 p.1.kind, .string (str p.1.name), .string (str p.1.ty), p.2]
theorem rowJ_snoc (ps : List (It × Value)) (p : It × Value) : rowJ (ps ++ [p]) = rowJ ps ++ [.int .i64 p.1.kind, .string (str p.1.name), .string (str p.1.ty), p.2] := by simp [rowJ]
/-- Items in a row of the call's own, their cases apart from it. -/
def ItI (B : Nat) (w : World) (v : Value) (xs : List It) : Prop := ∃ ps : List (It × Value), ps.map (·.1) = xs ∧ w.ownsRow B 47 4 v xs.length (rowJ ps) ∧ ∀ p ∈ ps, CsR (fun g => B ≤ g ∧ g < w.heap.size ∧ some g ≠ v.ownBlock) w p.2 p.1.cases
theorem ItI.nil (B : Nat) (w : World) : ItI B w (.slice none 0 0) [] := ⟨[], rfl, World.ownsRow_nil _ _ _ _, by simp⟩
theorem ItI.block {B : Nat} {w : World} {v : Value} {cs : List It} (h : ItI B w v cs) {g : Nat} (hg : v.ownBlock = some g) : B ≤ g ∧ g < w.heap.size := by
  obtain ⟨ps, h1, h2, h3⟩ := h
  exact owns_block h2 hg
theorem ItI.shape {B : Nat} {w : World} {v : Value} {cs : List It} (h : ItI B w v cs) : ∃ a c, v = .slice a cs.length c := by
  obtain ⟨ps, h1, h2, h3⟩ := h
  rcases h2.2 with ⟨rfl, hn⟩ | ⟨g, cap, cur, rfl, _⟩
  · exact ⟨none, 0, by rw [hn]⟩
  · exact ⟨_, _, rfl⟩
theorem rowJ_at : ∀ (ps : List (It × Value)) (j : Nat) (h : j < ps.length) (i : Nat), i < 4 → (rowJ ps)[j * 4 + i]? = ([.int .i64 ps[j].1.kind, .string (str ps[j].1.name), .string (str ps[j].1.ty), ps[j].2] : List Value)[i]?
  | p :: r, 0, _, i, hi => by
    rw [Nat.zero_mul, Nat.zero_add, rowJ, List.flatMap_cons, List.getElem?_append_left (by simpa using hi)]
    rfl
  | p :: r, j + 1, h, i, hi => by
    have := rowJ_at r j (by simpa using h) i hi
    rw [rowJ, List.flatMap_cons, List.getElem?_append_right (by simp; omega)]
    simpa [rowJ, Nat.add_mul, Nat.add_right_comm] using this
theorem ItI.row {B : Nat} {w : World} {v : Value} {xs : List It} (h : ItI B w v xs) : ItR (fun g => B ≤ g ∧ g < w.heap.size) w v xs := by
  obtain ⟨ps, rfl, h2, h3⟩ := h
  rcases h2.2 with ⟨rfl, hn⟩ | ⟨g, cap, cur, rfl, hb, hg, hl, _⟩
  · exact .inl ⟨none, 0, rfl, List.eq_nil_of_length_eq_zero hn⟩
  · refine .inr ⟨g, 0, cap, rfl, hl, ⟨hb, (Array.getElem?_eq_some_iff.1 hg).1⟩, fun j x hj => ?_⟩
    rw [List.getElem?_map] at hj
    obtain ⟨p, hp, rfl⟩ := Option.map_eq_some_iff.1 hj
    obtain ⟨hlt, rfl⟩ := List.getElem?_eq_some_iff.1 hp
    have q : ∀ i, i < 4 → w.cell? ⟨g, 0 + j * 4 + i, none⟩ = ([.int .i64 ps[j].1.kind, .string (str ps[j].1.name), .string (str ps[j].1.ty), ps[j].2] : List Value)[i]? := fun i hi => by
      rw [Nat.zero_add, h2.cellAt (j * 4 + i) (by simp; omega), rowJ_at ps j hlt i hi]
    exact ⟨ps[j].2, (h3 _ (List.getElem_mem hlt)).frame fun g' hg' => ⟨⟨hg'.1, hg'.2.1⟩, rfl⟩, q 0 (by omega), q 1 (by omega), q 2 (by omega), q 3 (by omega)⟩
theorem infoIt5 : (Tryz.prog.info? 47).map (fun i => (i.zero.map (fun z => z.cells.size), i.size, i.bytes)) = some (some 4, 4, 64) := by kernel_rfl
theorem CsR.one {F : Nat → Prop} {w : World} {v : Value} {xs : List Cs} (h : CsR F w v xs) : v.oneCell' = true := by
  obtain ⟨a, c, rfl⟩ := h.shape
  rfl
theorem append_itemJ {w : World} {ops : Array Oper} {rest : List Oper} {o : Oper} {a : Act} {Q : Exit → Act → World → Prop} (hgd : o.guard = none) (s x : Operand)
    (ho : o.op = .call { callee := .builtin .append, args := #[s, x], argTypes := #[24, 24] })
    (B : Nat) (v : Value) (xs : List It) (hs : a.eval s = v) (hI : ItI B w v xs) (c : It) (fv : Value) (ad : Addr) (cp : Nat) (hx : a.eval x = .slice (some ad) 1 cp)
    (hnews : ∀ j u, ([.int .i64 c.kind, .string (str c.name), .string (str c.ty), fv] : List Value)[j]? = some u → w.cell? (ad.add j) = some u) (hT : CsR (fun g => B ≤ g ∧ g < w.heap.size ∧ some g ≠ v.ownBlock) w fv c.cases) (hlen : xs.length + 1 ≤ 1000000) (hB : B ≤ w.heap.size)
    (h : ∀ g cap w', ItI B w' (.slice (some ⟨g, 0, none⟩) (xs.length + 1) cap) (xs ++ [c]) → w.grownBy w' v.ownBlock → wpList Tryz.prog ops Q rest (a.put o.dst (.slice (some ⟨g, 0, none⟩) (xs.length + 1) cap)) w') :
    wpList Tryz.prog ops Q (o :: rest) a w := by
  obtain ⟨i, z, hi, hz, h1, h2, h3⟩ := info_z infoIt5
  obtain ⟨ps, rfl, p2, p3⟩ := hI
  refine wpList_append_lies w hgd s x 24 ho B 47 i z 4 64 Tryz.underlying24 hi hz h1 h2 h3 (by decide) v _ (rowJ ps) hs p2 ad 1 cp [.int .i64 c.kind, .string (str c.name), .string (str c.ty), fv] hx rfl hnews (fun u hu => ?_) (by decide) (by unfold maxLen; omega) (by omega) hB w.heap.size rfl ?_
  · simp only [List.mem_cons, List.not_mem_nil, or_false] at hu
    rcases hu with rfl | rfl | rfl | rfl
    · rfl
    · rfl
    · rfl
    · exact hT.one
  · intro g cap w' q1 q2 q3 q4
    refine h g cap w' ⟨ps ++ [(c, fv)], by simp, by rw [rowJ_snoc]; simpa using q1, fun p hp => ?_⟩ q2
    have key : ∀ fv' (xs : List Cs), CsR (fun g => B ≤ g ∧ g < w.heap.size ∧ some g ≠ v.ownBlock) w fv' xs → CsR (fun g' => B ≤ g' ∧ g' < w'.heap.size ∧ some g' ≠ (Value.slice (some ⟨g, 0, none⟩) ((ps.map (·.1)).length + 1) cap).ownBlock) w' fv' xs := fun fv' xs ht => ht.frame fun g' hg' => by
      refine ⟨⟨hg'.1, Nat.lt_of_lt_of_le hg'.2.1 q2.size, fun e => ?_⟩, q2.block g' hg'.2.1 hg'.2.2⟩
      simp only [Value.ownBlock, Option.some.injEq] at e
      subst e
      rcases q3 with q3 | q3
      · exact hg'.2.2 q3.symm
      · have := hg'.2.1
        omega
    rcases List.mem_append.1 hp with hp | hp
    · exact key _ _ (p3 p hp)
    · rw [List.mem_singleton.1 hp]
      exact key _ _ hT
/-- What lies from B on is left alone by whoever turns a block below B alone. -/
theorem owns_wkept {S : Nat → Prop} {w w' : World} {B e sz n : Nat} {v : Value} {xs : List Value} (h : w.ownsRow B e sz v n xs) (k : Wire.Kept S w w') (hS : ∀ b, B ≤ b → ¬ S b) : w'.ownsRow B e sz v n xs := by
  refine ⟨h.1, ?_⟩
  rcases h.2 with hn | ⟨g, cap, cur, rfl, h2, h3, h4⟩
  · exact .inl hn
  · exact .inr ⟨g, cap, cur, rfl, h2, (k.block g (Array.getElem?_eq_some_iff.1 h3).1 (hS g h2)).trans h3, h4⟩
theorem ItI.wkept {S : Nat → Prop} {w w' : World} {B : Nat} {v : Value} {cs : List It} (h : ItI B w v cs) (k : Wire.Kept S w w') (hS : ∀ b, B ≤ b → ¬ S b) : ItI B w' v cs := by
  obtain ⟨ps, h1, h2, h3⟩ := h
  exact ⟨ps, h1, owns_wkept h2 k hS, fun p hp => (h3 p hp).frame fun g hg => ⟨⟨hg.1, Nat.lt_of_lt_of_le hg.2.1 k.size, hg.2.2⟩, k.block g hg.2.1 (hS g hg.1)⟩⟩
theorem wkept_grown {w w' : World} {row : Option Nat} (h : w.grownBy w' row) : Wire.Kept (fun b => row = some b) w w' := ⟨h.os, h.tape, h.output, h.size, fun b hb hn => h.block b hb (fun e => hn e.symm)⟩
theorem wkept_below {w w' : World} (h : Below w.heap.size w w') : Wire.Kept (fun _ => False) w w' := ⟨h.os, h.tape, h.output, h.size, fun k hk _ => h.block k hk⟩
theorem wkept_alloc (w : World) (o : Obj) : Wire.Kept (fun _ => False) w (w.alloc o) := wkept_below ((Below.refl _ _).alloc (Nat.le_refl _) _)
end Go.Proofs.YtdeckknfolaaeaaGreatDoor

namespace Go.Proofs.YtdeckknfolaaeaaGreatDoor
open Go.RowKit

theorem ItR.take {F : Nat → Prop} {w : World} {a : Option Addr} {cap : Nat} {l : List It} (h : ItR F w (.slice a l.length cap) l) (n : Nat) (hn : n ≤ l.length) : ItR F w (.slice a n cap) (l.take n) := by
  rcases h with ⟨a', c, h1, rfl⟩ | ⟨g', o', cap', h1, h1', h2, h3⟩
  · simp at hn
    subst hn
    exact .inl ⟨_, cap, rfl, rfl⟩
  · simp only [Value.slice.injEq, true_and] at h1
    obtain ⟨rfl, rfl⟩ := h1
    refine .inr ⟨g', o', cap, by rw [List.length_take, Nat.min_eq_left hn], by rw [List.length_take, Nat.min_eq_left hn]; omega, h2, fun j x hj => h3 j x ?_⟩
    rw [List.getElem?_take] at hj
    split at hj
    · exact hj
    · cases hj
theorem ItR.room {F : Nat → Prop} {w : World} {a : Option Addr} {cap : Nat} {l : List It} (h : ItR F w (.slice a l.length cap) l) : l.length ≤ cap ∨ l.length = 0 := by
  rcases h with ⟨a', c, h1, rfl⟩ | ⟨g', o', cap', h1, h1', h2, h3⟩
  · exact .inr rfl
  · simp only [Value.slice.injEq, true_and] at h1
    obtain ⟨rfl, rfl⟩ := h1
    exact .inl h1'
theorem RwR.room {α : Type} {sz : Nat} {C : (Nat → Prop) → World → α → List Value → Prop} {F : Nat → Prop} {w : World} {a : Option Addr} {cap : Nat} {l : List α} (h : RwR sz C F w (.slice a l.length cap) l) : l.length ≤ cap ∨ l.length = 0 := by
  rcases h with ⟨a', c, h1, rfl⟩ | ⟨g', o', cap', h1, h1', h2, h3⟩
  · exact .inr rfl
  · simp only [Value.slice.injEq, true_and] at h1
    obtain ⟨rfl, rfl⟩ := h1
    exact .inl h1'
/-- The box of an object that is looked at. -/
abbrev lbox (w : World) (m : List UInt8) (tv xv gv fv ev sv rv : Value) : World := w.alloc (.cells #[.string (str m), tv, xv, gv, fv, ev, sv, rv] 103)
set_option maxHeartbeats 1000000 in
set_option maxRecDepth 1000000 in
theorem textAt (F : Nat → Prop) (u : ObV) (o : Ob) (w : World) (h : ObR F w u o) (k : Nat) (hk : k < o.texts.length) : Calls Tryz.prog 36 #[obv u o.mod, .int .i64 (k : Int)] w (NumB (elemO o 1 k) w) := by
  have HV : Hid (elemO o 1 k = textO o.texts[k]) := by rw [hid_iff, elemO, List.getElem?_eq_getElem hk]
  generalize elemO o 1 k = r at *
  obtain ⟨g, of, cap, e1, hg, q⟩ := h.texts.1.at k hk
  obtain ⟨m, ts, xs, gs, fs, es, ss, rs⟩ := o
  obtain ⟨tv, xv, gv, fv, ev, sv, rv⟩ := u
  unfold obv
  simp only at *
  subst e1
  have hb0 : Below w.heap.size w (lbox w m tv (.slice (some ⟨g, of, none⟩) xs.length cap) gv fv ev sv rv) := (Below.refl _ _).alloc (Nat.le_refl _) _
  have q' := cell_more q (.cells #[.string (str m), tv, .slice (some ⟨g, of, none⟩) xs.length cap, gv, fv, ev, sv, rv] 103)
  have hk' : k < xs.length := hk
  have hki : (k : Int) < (xs.length : Int) := by omega
  have hr := fun u => right (str xs[k]) u
  rw [str_data] at hr
  clear h q
  generalize xs[k] = x at *
  cases hx : rightR x
  · rw [hx] at hr
    have HW : Hid (r = 17) := by rw [hid_iff, HV.out, textO, if_neg (by rw [hx]; simp)]
    clear HV hx
    go_enter Tryz.func36, Tryz.ntmps36
    go_wp2_with (go_at_call 81; refine (hr _).mono ?_; rintro e w2 ⟨rfl, hb2⟩)
    go_ret
    exact ⟨(by rw [HW.out]; first | done | rfl), below_trans hb0 hb2⟩
  · rw [hx] at hr
    have HW : Hid (r = 0) := by rw [hid_iff, HV.out, textO, if_pos hx]
    clear HV hx
    go_enter Tryz.func36, Tryz.ntmps36
    go_wp2_with (go_at_call 81; refine (hr _).mono ?_; rintro e w2 ⟨rfl, hb2⟩)
    go_ret
    exact ⟨(by rw [HW.out]; first | done | rfl), below_trans hb0 hb2⟩
set_option maxHeartbeats 2000000 in
set_option maxRecDepth 1000000 in
theorem typeAt (F : Nat → Prop) (u : ObV) (o : Ob) (w : World) (h : ObR F w u o) (hF : ∀ g, F g → g < w.heap.size) (hok : ObOk o) (k : Nat) (hk : k < o.types.length) : Calls Tryz.prog 35 #[obv u o.mod, .int .i64 (k : Int)] w (NumB (elemO o 0 k) w) := by
  have HV : Hid (elemO o 0 k = typeO o.mod (o.types.take k) o.types[k]) := by rw [hid_iff, elemO, List.getElem?_eq_getElem hk]
  generalize elemO o 0 k = r at *
  have hT := h.types
  obtain ⟨g, of, cap, cv, e1, hg, hC, q0, q1, q2, q3⟩ := hT.at k hk
  have hxo := hok.types _ (List.getElem_mem hk)
  have hm := hok.mod
  have hnt := hok.nt
  obtain ⟨m, ts, xs, gs, fs, es, ss, rs⟩ := o
  obtain ⟨tv, xv, gv, fv, ev, sv, rv⟩ := u
  unfold obv
  simp only at *
  subst e1
  obtain ⟨ca, cc, rfl⟩ := hC.shape
  have hcap : ts.length ≤ cap := by rcases hT.room with h | h <;> omega
  have hk' : k < ts.length := hk
  have hTk := hT.take k (by omega)
  rcases hx : ts[k] with ⟨kd, nm, ty, cs⟩
  rw [hx] at q0 q1 q2 q3 hC hxo HV
  simp only at q0 q1 q2 q3 hC
  have ki0 : (k : Int) < (ts.length : Int) := by omega
  have ki1 : (k : Int) ≤ (cap : Int) := by omega
  generalize hW : (lbox w m (.slice (some ⟨g, of, none⟩) ts.length cap) xv gv fv ev sv rv) = W0 at *
  have hb0 : Below w.heap.size w W0 := by rw [← hW]; exact (Below.refl _ _).alloc (Nat.le_refl _) _
  have hs0 : W0.heap.size = w.heap.size + 1 := by rw [← hW]; simp
  have hN0 := heap_alloc_new w (.cells #[.string (str m), (.slice (some ⟨g, of, none⟩) ts.length cap), xv, gv, fv, ev, sv, rv] 103)
  unfold lbox at hW
  rw [hW] at hN0
  generalize hW1 : W0.alloc (.cells #[.int .i64 kd, .string (str nm), .string (str ty), .slice ca cs.length cc] 47) = W1 at *
  have hb1 : Below W0.heap.size W0 W1 := by rw [← hW1]; exact (Below.refl _ _).alloc (Nat.le_refl _) _
  have hs1 : W1.heap.size = w.heap.size + 2 := by rw [← hW1]; simp; omega
  have hN1 := heap_alloc_new W0 (.cells #[.int .i64 kd, .string (str nm), .string (str ty), .slice ca cs.length cc] 47)
  rw [hW1, hs0] at hN1
  have hbw : Below w.heap.size w W1 := below_trans hb0 hb1
  have hR := rightAlone F m ⟨kd, nm, ty, cs⟩ (.slice ca cs.length cc) W1 (hC.below hbw hF) (fun g hg => by have := hF g hg; omega) hm hxo
  unfold itv at hR
  simp only at hR
  have HC : ∀ u, Below W1.heap.size W1 u → u.cell? ⟨w.heap.size, 1, none⟩ = some (.slice (some ⟨g, of, none⟩) ts.length cap) ∧ u.cell? ⟨w.heap.size + 1, 0, none⟩ = some (.int .i64 kd) ∧ u.cell? ⟨w.heap.size + 1, 1, none⟩ = some (.string (str nm)) ∧ Below w.heap.size w u := by
    intro u hu
    have n0 := (hu.block w.heap.size (by omega)).trans ((hb1.block _ (by omega)).trans hN0)
    have n1 := (hu.block (w.heap.size + 1) (by omega)).trans hN1
    exact ⟨by rw [cell_of_row u _ 1 _ _ _ n0]; rfl, by rw [cell_of_row u _ 0 _ _ _ n1]; rfl, by rw [cell_of_row u _ 1 _ _ _ n1]; rfl, below_trans hbw hu⟩
  have hI : ∀ u, Below W1.heap.size W1 u → Calls Tryz.prog 79 #[.slice (some ⟨g, of, none⟩) k cap, .func (.func 80) #[] #[.pointer (some ⟨w.heap.size + 1, 0, none⟩)]] u (BoolB ((ts.take k).any (fun d => decide (d.name = nm))) u) := by
    intro u hu
    obtain ⟨_, _, c3, hbu⟩ := HC u hu
    refine conI F _ (ts.take k) (w.heap.size + 1) (fun d => decide (d.name = nm)) u (hTk.below hbu hF) (fun g hg => by have := hF g hg; have := hu.size; omega) (by rw [List.length_take]; omega) (fun j hj cv wr hwr _ => ?_)
    exact predI (ts.take k)[j] cv (w.heap.size + 1) nm wr ((World.cell?_of_block (a := ⟨w.heap.size + 1, 1, none⟩) (hwr.block _ (by have := hu.size; show w.heap.size + 1 < _; omega))).trans c3)
  have HR : Hid (typeO m (ts.take k) ⟨kd, nm, ty, cs⟩ = if rightI m [⟨kd, nm, ty, cs⟩] ≠ 0 then rightI m [⟨kd, nm, ty, cs⟩] else if kd ≠ 1 then 12 else if (ts.take k).any (fun d => decide (d.name = nm)) = true then 15 else 0) := rfl
  generalize (ts.take k).any (fun d => decide (d.name = nm)) = an at *
  generalize rightI m [⟨kd, nm, ty, cs⟩] = ri at *
  rw [HR.out] at HV
  have y0 := (hb0.cell (p := ⟨g, of + k * 4, none⟩) (hF g hg)).trans q0
  have y1 := (hb0.cell (p := ⟨g, of + k * 4 + 1, none⟩) (hF g hg)).trans q1
  have y2 := (hb0.cell (p := ⟨g, of + k * 4 + 2, none⟩) (hF g hg)).trans q2
  have y3 := (hb0.cell (p := ⟨g, of + k * 4 + 3, none⟩) (hF g hg)).trans q3
  have z1 : W0.cell? ⟨w.heap.size, 1, none⟩ = some (.slice (some ⟨g, of, none⟩) ts.length cap) := by rw [cell_of_row W0 _ 1 _ _ _ hN0]; rfl
  have z0 : W1.cell? ⟨w.heap.size, 0, none⟩ = some (.string (str m)) := by rw [cell_of_row W1 _ 0 _ _ _ ((hb1.block _ (by omega)).trans hN0)]; rfl
  obtain ⟨x0, x1, x2, x3⟩ : W1.cell? ⟨w.heap.size + 1, 0, none⟩ = some (.int .i64 kd) ∧ W1.cell? ⟨w.heap.size + 1, 1, none⟩ = some (.string (str nm)) ∧ W1.cell? ⟨w.heap.size + 1, 2, none⟩ = some (.string (str ty)) ∧ W1.cell? ⟨w.heap.size + 1, 3, none⟩ = some (.slice ca cs.length cc) := ⟨by rw [cell_of_row W1 _ 0 _ _ _ hN1]; rfl, by rw [cell_of_row W1 _ 1 _ _ _ hN1]; rfl, by rw [cell_of_row W1 _ 2 _ _ _ hN1]; rfl, by rw [cell_of_row W1 _ 3 _ _ _ hN1]; rfl⟩
  clear HR h hT hTk hC hx q0 q1 q2 q3 hok hxo
  have HCh := hidden HC
  have HIh := hidden hI
  clear HC hI
  by_cases h0 : ri = 0
  · subst h0
    by_cases h1 : kd = 1
    · subst h1
      go_enter Tryz.func35, Tryz.ntmps35
      go_wp2_with fail
      refine hR.mono ?_
      rintro e w2 ⟨rfl, hb2⟩
      obtain ⟨c1, c2, c3, c4⟩ := HCh.out w2 hb2
      have hI := HIh.out w2 hb2
      clear hR x0 x1 x2 x3 y0 y1 y2 y3
      have hK0 : (k : Int) ≥ 0 := by omega
      go_wp2_with fail
      refine hI.mono ?_
      rintro e w3 ⟨rfl, hb3⟩
      have hb4 := below_trans c4 hb3
      clear hI
      cases an
      · have HW : Hid (r = 0) := by rw [hid_iff, HV.out]; rfl
        go_wp2
        go_ret
        exact ⟨(by rw [HW.out]; first | done | rfl), hb4⟩
      · have HW : Hid (r = 15) := by rw [hid_iff, HV.out]; rfl
        go_wp2
        go_ret
        exact ⟨(by rw [HW.out]; first | done | rfl), hb4⟩
    · have HW : Hid (r = 12) := by rw [hid_iff, HV.out, if_neg (by simp), if_pos h1]
      go_enter Tryz.func35, Tryz.ntmps35
      go_wp2_with fail
      refine hR.mono ?_
      rintro e w2 ⟨rfl, hb2⟩
      obtain ⟨c1, c2, c3, c4⟩ := HCh.out w2 hb2
      clear hR x0 x1 x2 x3 y0 y1 y2 y3
      go_wp2
      go_ret
      exact ⟨(by rw [HW.out]; first | done | rfl), c4⟩
  · have HW : Hid (r = ri) := by rw [hid_iff, HV.out, if_pos h0]
    have h0i : ¬ (ri : Int) = 0 := by omega
    go_enter Tryz.func35, Tryz.ntmps35
    go_wp2_with fail
    refine hR.mono ?_
    rintro e w2 ⟨rfl, hb2⟩
    obtain ⟨c1, c2, c3, c4⟩ := HCh.out w2 hb2
    clear hR x0 x1 x2 x3 y0 y1 y2 y3
    go_wp2
    go_ret
    exact ⟨(by rw [HW.out]; first | done | rfl), c4⟩
end Go.Proofs.YtdeckknfolaaeaaGreatDoor
