/-
  A walk's do, for the operations that take numbers alone.
  And: A walk's store: the top of the stack put into a local. A walk's step: one instruction, from whoever waits for it. What a walk's steps keep: stacks are small, locals as many.
-/
import Derived.Test.YtdeckknfolaaeaaGreatDoorG27
import Derived.BigQuiet
import Derived.Test.YtdeckknfolaaeaaGreatDoorG20
namespace Go.Proofs.YtdeckknfolaaeaaGreatDoor
open Go.RowKit Go.Maps

theorem strRow_drop {w : World} {b o n c : Nat} {xs : List (List UInt8)} (h : StrRow w (.slice (some ⟨b, o, none⟩) n c) xs) (t : Nat) (ht : t < xs.length) : StrRow w (.slice (some ⟨b, o + t, none⟩) (xs.length - t) (c - t)) (xs.drop t) := by
  rcases h with ⟨rfl, _⟩ | ⟨b', o', c', e, h1, h2, h3⟩
  · simp at ht
  · simp only [Value.slice.injEq, Option.some.injEq, Addr.mk.injEq, and_true] at e
    obtain ⟨⟨rfl, rfl⟩, rfl, rfl⟩ := e
    refine .inr ⟨b, o + t, c - t, by rw [List.length_drop], h1, by rw [List.length_drop]; omega, fun j x hj => ?_⟩
    rw [List.getElem?_drop] at hj
    rw [Nat.add_assoc]
    exact h3 (t + j) x hj
theorem takes_pos (op : Int) : 1 ≤ takesD op ∧ takesD op ≤ 3 := by
  unfold takesD
  split
  · omega
  · split <;> omega
theorem resN {op : Int} (h7 : op ≠ 7) (h9 : op ≠ 9) (h10 : op ≠ 10) (h11 : op ≠ 11) (h12 : op ≠ 12) (l : List (List UInt8)) : resultD op l = if l.all (fun t => decide (t = numT)) = true then some numT else none := by
  rw [resultD, if_neg h7, if_neg h9, if_neg h10, if_neg h11, if_neg h12]
set_option maxRecDepth 1000000 in
set_option maxHeartbeats 4000000 in
theorem vdoN {col : Nat → Tag} {w : World} {wb : Nat} {u : ObV} {m res : List UInt8} {sy : Value} {mb n : Nat} {ps : List Int} {cur : Int} {k : Wk} {sv lv : Value} (h : VwR col w wb u m res sy mb n ps cur k sv lv) (op : Int) (h7 : op ≠ 7) (h9 : op ≠ 9) (h10 : op ≠ 10) (h11 : op ≠ 11) (h12 : op ≠ 12) (hl : k.st.stack.length ≤ 48) :
    Calls Tryz.prog 142 #[.pointer (some ⟨wb, 0, none⟩), .int .i64 op] w fun e w' => e = .returned (.int .i64 ((doR k.st.stack op).1 : Int)) ∧ Kc col ownT w w' ∧ ((doR k.st.stack op).1 = 0 → VwQ col w wb u m res sy mb n ps cur ⟨⟨(doR k.st.stack op).2, k.st.locals⟩, k.wt⟩ w') := by
  have H := hidden h
  obtain ⟨⟨c9, c10, c11, c12⟩, f11, f12⟩ := h.base.cells
  have hS := h.stack
  obtain ⟨sa, scp, rfl⟩ := hS.row.shape
  clear h
  by_cases h13 : 13 ≤ op
  · have HP : Hid ((doR k.st.stack op).1 = 12) := by rw [hid_iff, doR, if_pos h13]
    have h13' : op ≥ 13 := h13
    generalize doR k.st.stack op = dr at *
    go_enter Tryz.func142, Tryz.ntmps142
    go_wp2
    go_ret
    exact ⟨by rw [HP.out]; rfl, Kc.refl _ _ _, fun e => by rw [HP.out] at e; cases e⟩
  · have h13' : ¬ op ≥ 13 := h13
    have htk := vtakes op
    obtain ⟨tp1, tp2⟩ := takes_pos op
    have HD20 := hidden (fun (hh : k.st.stack.length < takesD op) => (by rw [doR, if_neg h13, if_pos hh] : (doR k.st.stack op).1 = 20))
    have HD17 := hidden (fun (hh : ¬ k.st.stack.length < takesD op) (ha : (k.st.stack.drop (k.st.stack.length - takesD op)).all (fun t => decide (t = numT)) = false) => (by rw [doR, if_neg h13, if_neg hh, resN h7 h9 h10 h11 h12, if_neg (by rw [ha]; simp)] : (doR k.st.stack op).1 = 17))
    have HD0 := hidden (fun (hh : ¬ k.st.stack.length < takesD op) (ha : (k.st.stack.drop (k.st.stack.length - takesD op)).all (fun t => decide (t = numT)) = true) => (by rw [doR, if_neg h13, if_neg hh, resN h7 h9 h10 h11 h12, if_pos ha] : doR k.st.stack op = (0, k.st.stack.take (k.st.stack.length - takesD op) ++ [numT])))
    generalize doR k.st.stack op = dr at *
    generalize htd : takesD op = tk at *
    go_enter Tryz.func142, Tryz.ntmps142
    go_wp2_with fail
    go_quiet ((go_at_call 207; exact Calls.quiet_of_same (htk _)))
    by_cases hlt : k.st.stack.length < tk
    · have hlti : ((k.st.stack.length : Nat) : Int) - (tk : Int) < 0 := by omega
      have HP := hidden (HD20.out hlt)
      clear HD20 HD17 HD0 hlt
      go_wp2
      go_ret
      exact ⟨by rw [HP.out]; rfl, by first | exact Kc.refl _ _ _ | exact Kc.below (below_drewN (Below.refl _ w) _) | exact Kc.below (below_drew (Below.refl _ w)), fun e => by rw [HP.out] at e; cases e⟩
    · obtain ⟨t, ht⟩ : ∃ t, k.st.stack.length - tk = t := ⟨_, rfl⟩
      rw [ht] at HD17 HD0
      have htl : t < k.st.stack.length := by omega
      have hti : ((k.st.stack.length : Nat) : Int) - (tk : Int) = (t : Int) := by omega
      have hti0 : ¬ (t : Int) < 0 := by omega
      have hbW : Below w.heap.size w (w.drewN nq) := below_drewN (Below.refl _ w) _
      generalize w.drewN nq = W at *
      have hV := H.out.beside hbW
      obtain ⟨sb, so, c', e1, -⟩ := strRow_atV hS.row t htl
      simp only [Value.slice.injEq, true_and] at e1
      obtain ⟨rfl, rfl⟩ := e1
      obtain ⟨⟨d9, d10, d11, d12⟩, g11, g12⟩ := hV.base.cells
      have hcap : k.st.stack.length ≤ scp := by
        rcases hS.1.2 with ⟨e, _⟩ | ⟨g, cap, cur, e, _, _, hc, _⟩
        · cases e
        · simp only [Value.slice.injEq, true_and] at e
          omega
      have i1 : (t : Int) ≤ ((k.st.stack.length : Nat) : Int) := by omega
      have i2 : ((k.st.stack.length : Nat) : Int) ≤ (scp : Int) := by omega
      have i3 : (0 : Int) ≤ (t : Int) := by omega
      have i4 : (t : Int) ≤ (scp : Int) := by omega
      have i5 : ¬ scp = t := by omega
      have hres := vresN (.slice (some ⟨sb, so + t, none⟩) (k.st.stack.length - t) (scp - t)) (k.st.stack.drop t) op W (strRow_drop (hS.row.below hbW) t htl) (by rw [List.length_drop]; omega) (by rw [List.length_drop]; omega) h7 h9 h10 h11 h12
      have H17 := hidden (HD17.out hlt)
      have H0 := hidden (HD0.out hlt)
      generalize (k.st.stack.drop t).all (fun t => decide (t = numT)) = ba at *
      have HV := hidden hV
      have HW := hidden hbW
      clear HD20 HD17 HD0 hlt hV hS ht hbW htk c9 c10 c11 c12 f11 f12 H
      go_wp2_with fail
      refine hres.mono ?_
      rintro e w1 ⟨⟨s, rfl, hs⟩, hb1⟩
      cases ba
      · have HP := hidden (H17.out rfl)
        go_wp2
        go_ret
        exact ⟨by rw [HP.out]; rfl, Kc.below (below_trans HW.out hb1), fun e => by rw [HP.out] at e; cases e⟩
      · obtain rfl := hs rfl
        have HP := hidden (H0.out rfl)
        have hbx := below_trans HW.out hb1
        have H1 := HV.out.kept (S := fun _ => False) (Kc.below hb1) (Agr.refl _ _) (fun _ h => h.elim)
        obtain ⟨⟨d9, d10, d11, d12⟩, g11, g12⟩ := H1.base.cells
        have hS1 := H1.stack.take t (by omega) (by omega)
        have hal : (k.st.stack.take t).length = t := by rw [List.length_take]; omega
        have HH := hidden H1
        have HX := hidden hbx
        obtain ⟨acc, hacc⟩ : ∃ acc, acc = k.st.stack.take t := ⟨_, rfl⟩
        rw [← hacc] at HP hS1 hal
        clear H1 hbx hs hacc hres
        go_wp2_with (at_builtin; refine append_textV rfl (.tmp 42) (.tmp 44) rfl _ acc rfl (hS1.1.alloc _) _ _ numT rfl ?src ?len ?next)
        case src => first | exact cells_new _ _ _ | exact fun j u h => h
        case len => first | omega | (simp; omega)
        case next =>
          intro g cq w' k1 k2 k3
          have hSa := hS1.kept (S := fun _ => False) (kc_alloc _ _ w1 (.cells #[.string (str numT)] 9)) (Agr.refl _ _) (fun h => h)
          obtain ⟨hA, hS', hK⟩ := hSa.grown (cap := cq) (by rw [hal]; exact k1) k2 (by rw [World.size_alloc]; exact k3)
          rw [hal] at hS'
          have hKw : Kc (colZ col w.heap.size) (fun s => s = (2, cur, 0)) w1 w' := (kc_alloc _ _ w1 (.cells #[.string (str numT)] 9)).trans (Agr.refl _ _) hK
          have hAw : Agr w1.heap.size (colZ col w.heap.size) (colP (colZ col w.heap.size) g (2, cur, 0)) := fun x hx => hA x (by simp; omega)
          obtain ⟨hB, hV, hKf⟩ := HH.out.newS hKw hAw hS'
          obtain ⟨⟨d9, d10, d11, d12⟩, g11, g12⟩ := hB.cells
          clear k1 k2 k3 hSa hK hA
          go_wp2
          go_ret
          exact ⟨by rw [HP.out]; rfl, kc_z HX.out hKf, fun _ => by rw [HP.out]; exact VwQ.back ⟨_, _, _, hAw, hV⟩ (colZ_agr _ _) HX.out.size⟩
end Go.Proofs.YtdeckknfolaaeaaGreatDoor

namespace Go.Proofs.YtdeckknfolaaeaaGreatDoor
open Go.RowKit Go.Maps

/-- One of the texts is written anew. -/
theorem LcR.put {col : Nat → Tag} {t : Tag} {w : World} {b o c : Nat} {xs : List (List UInt8)} (h : LcR col t w (.slice (some ⟨b, o, none⟩) xs.length c) xs) (j : Nat) (hj : j < xs.length) (x : List UInt8) :
    o = 0 ∧ w.frozen? ⟨b, j, none⟩ = false ∧ LcR col t (w.setCell ⟨b, j, none⟩ (.string (str x))) (.slice (some ⟨b, o, none⟩) xs.length c) (xs.set j x) ∧ Kc col (fun s => s = t) w (w.setCell ⟨b, j, none⟩ (.string (str x))) := by
  rcases h with ⟨rfl, _⟩ | h
  · simp at hj
  · obtain ⟨h1, h2⟩ := id h
    have ho : o = 0 := by
      rcases h1.2 with ⟨e, _⟩ | ⟨g, cap, cur, e, _⟩
      · cases e
      · simp only [Value.slice.injEq, Option.some.injEq, Addr.mk.injEq] at e
        exact e.1.2.1
    subst ho
    refine ⟨rfl, h1.frozenAt j, .inr ⟨?_, h2⟩, (Wire.Kept.refl _ w).setCell (p := ⟨b, j, none⟩) (fun _ => h2 b rfl) _⟩
    have := h1.stored j (.string (str x))
    rw [List.length_set]
    simpa [sc, List.map_set] using this.1
set_option maxHeartbeats 1000000 in
set_option maxRecDepth 1000000 in
theorem vstore {col : Nat → Tag} {w : World} {wb : Nat} {u : ObV} {m res : List UInt8} {sy : Value} {mb n : Nat} {ps : List Int} {cur : Int} {k : Wk} {sv lv : Value} (h : VwR col w wb u m res sy mb n ps cur k sv lv) (a : Int) (ha : 0 ≤ a) (ha2 : a ≤ 255) (hl : k.st.stack.length ≤ 48) :
    Calls Tryz.prog 139 #[.pointer (some ⟨wb, 0, none⟩), .int .i64 a] w fun e w' => e = .returned (.int .i64 ((storeR k.st a).1 : Int)) ∧ Kc col ownT w w' ∧ ((storeR k.st a).1 = 0 → VwQ col w wb u m res sy mb n ps cur ⟨(storeR k.st a).2, k.wt⟩ w') := by
  have H := hidden h
  obtain ⟨⟨c9, c10, c11, c12⟩, f11, f12⟩ := h.base.cells
  have hS := h.stack
  have hL := h.locs
  obtain ⟨sa, scp, rfl⟩ := hS.row.shape
  obtain ⟨la, lcp, rfl⟩ := hL.row.shape
  clear h
  go_enter Tryz.func139, Tryz.ntmps139
  by_cases h1 : (k.st.locals.length : Int) ≤ a
  · have HP : Hid ((storeR k.st a).1 = 21) := by rw [hid_iff, storeR, if_pos h1]
    have h1' : a ≥ (k.st.locals.length : Int) := h1
    go_wp2
    go_ret
    exact ⟨by rw [HP.out]; rfl, Kc.refl _ _ _, fun e => by rw [HP.out] at e; cases e⟩
  · obtain ⟨j, rfl⟩ : ∃ j : Nat, a = (j : Int) := ⟨a.toNat, by omega⟩
    have hj : j < k.st.locals.length := by omega
    have h1' : ¬ (j : Int) ≥ (k.st.locals.length : Int) := h1
    have h1'' : (j : Int) < (k.st.locals.length : Int) := by omega
    by_cases h2 : k.st.stack.length = 0
    · have HP : Hid ((storeR k.st j).1 = 20) := by rw [hid_iff, storeR, if_neg h1, if_pos h2]
      have h2i : ((k.st.stack.length : Nat) : Int) = 0 := by omega
      have h2' : ((k.st.stack.length : Nat) : Int) - 1 < 0 := by omega
      clear h2
      go_wp2
      go_ret
      exact ⟨by rw [HP.out]; rfl, Kc.refl _ _ _, fun e => by rw [HP.out] at e; cases e⟩
    · obtain ⟨t, ht⟩ : ∃ t, k.st.stack.length = t + 1 := ⟨k.st.stack.length - 1, by omega⟩
      have htl : t < k.st.stack.length := by omega
      obtain ⟨lb, lo, lc, e1, hc⟩ := strRow_atV hL.row j hj
      simp only [Value.slice.injEq, true_and] at e1
      obtain ⟨rfl, rfl⟩ := e1
      obtain ⟨sb, so, sc', e2, hd⟩ := strRow_atV hS.row t htl
      simp only [Value.slice.injEq, true_and] at e2
      obtain ⟨rfl, rfl⟩ := e2
      have HP : Hid (storeR k.st j = (0, ⟨k.st.stack.take t, k.st.locals.set j k.st.stack[t]⟩)) := by
        rw [hid_iff, storeR, if_neg h1, if_neg h2, show k.st.stack.length - 1 = t by omega]
        simp [show t < k.st.stack.length by omega]
      obtain ⟨rfl, hfz, hL2, hK2⟩ := hL.put j hj k.st.stack[t]
      have hKd : Kc col (fun s => s = (3, cur, 0)) w (w.setCell ⟨lb, j, none⟩ (.string (str k.st.stack[t]))).drew := Wire.Kept.drew hK2
      have hB2 := H.out.base.kept hKd (Agr.refl _ _) fun t ht => by rw [ht]; exact ⟨by simp, .inl (Int.le_refl _)⟩
      have hS2 := (hS.kept hKd (Agr.refl _ _) (by simp)).take t (by omega) (by omega)
      have hL3 : LcR col (3, cur, 0) (w.setCell ⟨lb, j, none⟩ (.string (str k.st.stack[t]))).drew (.slice (some ⟨lb, 0, none⟩) k.st.locals.length lcp) (k.st.locals.set j k.st.stack[t]) := hL2
      have ht0 : ((k.st.stack.length : Nat) : Int) - 1 = (t : Int) := by omega
      have ht1 : ¬ (t : Int) < 0 := by omega
      have ht2 : (t : Int) < ((k.st.stack.length : Nat) : Int) := by omega
      have hcap : t ≤ scp := by
        rcases hS.1.2 with ⟨e, _⟩ | ⟨g, cap, cur, e, _, _, hc, _⟩
        · cases e
        · simp only [Value.slice.injEq, true_and] at e
          omega
      have hcapi : (t : Int) ≤ (scp : Int) := by omega
      simp only [Nat.zero_add] at hc
      clear ht
      go_wp2_with fail
      go_region
      obtain ⟨⟨d9, d10, d11, d12⟩, g11, g12⟩ := hB2.cells
      have hkb := kc_box (w := (w.setCell ⟨lb, j, none⟩ (.string (str k.st.stack[t]))).drew) hB2.tag 11 (.slice (some ⟨sb, so, none⟩) t scp)
      have hV : VwR col (((w.setCell ⟨lb, j, none⟩ (.string (str k.st.stack[t]))).drew).setCell ⟨wb, 11, none⟩ (.slice (some ⟨sb, so, none⟩) t scp)) wb u m res sy mb n ps cur ⟨⟨k.st.stack.take t, k.st.locals.set j k.st.stack[t]⟩, k.wt⟩ (.slice (some ⟨sb, so, none⟩) t scp) (.slice (some ⟨lb, 0, none⟩) k.st.locals.length lcp) :=
        ⟨hB2.setS _, hS2.kept hkb (Agr.refl _ _) (by simp), hL3.kept hkb (Agr.refl _ _) (by simp)⟩
      have hKf : Kc col ownT w (((w.setCell ⟨lb, j, none⟩ (.string (str k.st.stack[t]))).drew).setCell ⟨wb, 11, none⟩ (.slice (some ⟨sb, so, none⟩) t scp)) := (hKd.mono (fun t ht => by rw [ht]; simp [ownT])).trans (Agr.refl _ _) (hkb.mono (fun t ht => by rw [ht]; simp [ownT]))
      go_wp2
      go_ret
      exact ⟨by rw [HP.out]; rfl, hKf, fun _ => ⟨col, _, _, Agr.refl _ _, by rw [HP.out]; exact hV⟩⟩
end Go.Proofs.YtdeckknfolaaeaaGreatDoor

namespace Go.Proofs.YtdeckknfolaaeaaGreatDoor
open Go.RowKit Go.Maps

/-- What arrive answers. -/
def ArrE (col : Nat → Tag) (W : World) (wb : Nat) (u : ObV) (m res : List UInt8) (sy : Value) (mb n : Nat) (ps : List Int) (wt : List (Int × St)) (p : Int) (r : Option St) (e : Ending) (w' : World) : Prop :=
  e = .returned (.bool r.isSome) ∧ Kc col ownT W w' ∧ ∀ s, r = some s → VwQ col W wb u m res sy mb n ps p ⟨s, wt⟩ w'
/-- The operations that are walked here. -/
def easyOp (op a : Int) : Prop := op = 1 ∨ op = 2 ∨ op = 3 ∨ op = 4 ∨ op = 5 ∨ op = 6 ∨ (op = 7 ∧ a ≠ 7 ∧ a ≠ 9 ∧ a ≠ 10 ∧ a ≠ 11 ∧ a ≠ 12) ∨ op = 15
theorem VwQ.mono {col : Nat → Tag} {w : World} {wb : Nat} {u : ObV} {m res : List UInt8} {sy : Value} {mb n : Nat} {ps : List Int} {cur : Int} {k : Wk} {w' : World} (h : VwQ col w wb u m res sy mb n ps cur k w') : VwQ col w wb u m res sy mb (n + 1) ps cur k w' := by
  obtain ⟨c, a, b, hA, hV⟩ := h
  obtain ⟨f, ⟨D, h1, h2⟩, h3⟩ := hV.base.wait
  exact ⟨c, a, b, hA, ⟨⟨hV.base.box, hV.base.tag, ⟨f, ⟨D, h1.mono (Nat.le_succ n), h2⟩, h3⟩⟩, hV.stack, hV.locs⟩⟩
set_option maxRecDepth 1000000 in
set_option maxHeartbeats 4000000 in
theorem vstep {col : Nat → Tag} {w : World} {wb : Nat} {u : ObV} {m res : List UInt8} {sy : Value} {mb n : Nat} {ps : List Int} {wt : List (Int × St)} (oth : Wire.Ins → Wk → Nat × Wk) (F : Nat → Prop) (i : Wire.Ins) (tv : Value) (hI : Wire.IwR F w tv i.tos) (hF : ∀ g, F g → g < w.heap.size ∧ ¬ ownT (col g))
    (hArr : ∀ W, Below w.heap.size w W → Calls Tryz.prog 135 #[.pointer (some ⟨wb, 0, none⟩), .int .i64 i.pl] W (ArrE (colZ col w.heap.size) W wb u m res sy mb n ps wt i.pl (arriveR wt i.pl)))
    (hto : ∀ p ∈ i.tos, i.pl < p ∧ -9223372036854775808 ≤ p ∧ p ≤ 9223372036854775807) (htl : i.tos.length ≤ 1000000) (ha : 0 ≤ i.a) (ha2 : i.a ≤ 255) (hop : easyOp i.op i.a) (h56 : i.op = 5 ∨ i.op = 6 → i.tos ≠ []) (hn : n ≤ 1000000) (hwl : ∀ p, (waitS wt p).length ≤ 1000000) (hst : ∀ s, arriveR wt i.pl = some s → s.stack.length ≤ 48 ∧ s.locals.length ≤ 256) :
    Calls Tryz.prog 73 #[.pointer (some ⟨wb, 0, none⟩), .agg (Wire.insC i tv)] w fun e w' => e = .returned (.int .i64 ((stepV res oth ps i wt).1 : Int)) ∧ Kc col ownT w w' ∧ ((stepV res oth ps i wt).1 = 0 → VwQ col w wb u m res sy mb (n + 1) ps i.pl (stepV res oth ps i wt).2 w') := by
  have hb : Below w.heap.size w (w.alloc (.cells (Wire.insC i tv) 144)) := (Below.refl _ w).alloc (Nat.le_refl _) _
  have hbx := World.alloc_heap_new w (.cells (Wire.insC i tv) 144)
  have harr := hArr _ hb
  have hsz : (w.alloc (.cells (Wire.insC i tv) 144)).heap.size = w.heap.size + 1 := by simp
  have x0 : (w.alloc (.cells (Wire.insC i tv) 144)).cell? ⟨w.heap.size, 0, none⟩ = some (.int .i64 i.pl) := new_cell w _ _ 0 _ rfl
  obtain ⟨SV, hSV⟩ : ∃ SV, SV = stepV res oth ps i wt := ⟨_, rfl⟩
  rw [← hSV]
  have HSV := hidden hSV
  have HB := hidden hb
  have HZ := hidden hsz
  have HX := hidden hbx
  have HI := hidden hI
  have HF := hidden hF
  have HT := hidden hto
  have HST := hidden hst
  generalize hW : w.alloc (.cells (Wire.insC i tv) 144) = W at *
  generalize hIC : Wire.insC i tv = ic at *
  have HIC := hidden hIC
  clear hArr hb hbx hsz hI hF hSV hto hst hIC
  obtain ⟨ta, tc, htv⟩ := HI.out.shape
  cases hr : arriveR wt i.pl with
  | none =>
    have hE : SV.1 = 22 := by rw [HSV.out, stepV, hr]
    have HE := hidden hE
    rw [hr] at harr
    clear hE
    go_enter Tryz.func73, Tryz.ntmps73
    go_wp2_with fail
    refine harr.mono ?_
    rintro e w1 ⟨rfl, k1, -⟩
    have HK := hidden (kc_z HB.out k1)
    clear k1 harr
    simp only [Option.isSome_none]
    go_wp2
    go_ret
    exact ⟨by rw [HE.out]; rfl, HK.out, fun e => by rw [HE.out] at e; cases e⟩
  | some s =>
    rw [hr] at harr
    go_enter Tryz.func73, Tryz.ntmps73
    go_wp2_with fail
    refine harr.mono ?_
    rintro e w1 ⟨rfl, k1, q1⟩
    obtain ⟨c1, sv1, lv1, hA1, hV1⟩ := q1 s rfl
    obtain ⟨hs48, hs256⟩ := HST.out s hr
    have hs1 := k1.size
    have hzW := HZ.out
    have hbx1 := (k1.block w.heap.size (by omega) (colZ_new _ (Nat.le_refl _))).trans HX.out
    have hI1 : Wire.IwR F w1 tv i.tos := HI.out.frame fun g hg => ⟨hg, (k1.block g (by have := (HF.out g hg).1; omega) (by rw [colZ_agr col w.heap.size g (HF.out g hg).1]; exact (HF.out g hg).2)).trans (HB.out.block g (HF.out g hg).1)⟩
    have hF1 : ∀ g, F g → g < w1.heap.size ∧ ¬ ownT (c1 g) := fun g hg => by
      have h1 := (HF.out g hg).1
      refine ⟨by omega, ?_⟩
      rw [hA1 g (by omega), colZ_agr col w.heap.size g h1]
      exact (HF.out g hg).2
    have hare := vare hV1.base F tv i.tos hI1 (fun p hp => (HT.out p hp).2) htl
    have HV1 := hidden hV1
    have HI1 := hidden hI1
    have HF1 := hidden hF1
    have HBX := hidden hbx1
    have HFin : Hid (∀ (w2 : World) (kk : Wk), Kc c1 ownT w1 w2 → Kc col ownT w w2 ∧ (VwQ c1 w1 wb u m res sy mb (n + 1) ps i.pl kk w2 → VwQ col w wb u m res sy mb (n + 1) ps i.pl kk w2)) := fun w2 kk k2 => ⟨kc_z HB.out (k1.trans hA1 k2), fun q => (q.back hA1 hs1).back (colZ_agr _ _) HB.out.size⟩
    have y1 : w1.cell? ⟨w.heap.size, 1, none⟩ = some (.int .i64 i.op) := by rw [cell_of_row _ _ 1 _ _ _ hbx1, ← HIC.out]; rfl
    have y2 : w1.cell? ⟨w.heap.size, 2, none⟩ = some (.int .i64 i.a) := by rw [cell_of_row _ _ 2 _ _ _ hbx1, ← HIC.out]; rfl
    have y6 : w1.cell? ⟨w.heap.size, 6, none⟩ = some tv := by rw [cell_of_row _ _ 6 _ _ _ hbx1, ← HIC.out]; rfl
    subst htv
    clear k1 q1 hA1 hV1 hI1 hF1 harr hzW x0
    simp only [Option.isSome_some]
    go_wp2_with fail
    refine hare.mono ?_
    rintro e w2 ⟨rfl, hw2⟩
    obtain rfl := hw2.symm
    cases hall : i.tos.all (fun p => decide (p ∈ ps))
    · have HE : Hid (SV.1 = 22) := by rw [hid_iff, HSV.out, stepV, hr]; simp only [hall]; rfl
      go_wp2
      go_ret
      exact ⟨by rw [HE.out]; rfl, (HFin.out w1 ⟨s, wt⟩ (Kc.refl _ _ _)).1, fun e => by rw [HE.out] at e; cases e⟩
    · have HE : Hid (SV = opV res oth i ⟨s, wt⟩) := by rw [hid_iff, HSV.out, stepV, hr]; simp only [hall, if_true]
      rcases hop with h1 | h1 | h1 | h1 | h1 | h1 | ⟨h1, a7, a9, a10, a11, a12⟩ | h1
      · rw [h1] at y1
        have HP := HE.out
        rw [opV, if_pos h1] at HP
        have HP := hidden HP
        have hc := (vpush HV1.out numT hs48 : Calls Tryz.prog 137 #[.pointer (some ⟨wb, 0, none⟩), .string ⟨#[110, 117, 109]⟩] w1 _)
        clear hare HE
        go_wp2_with fail
        refine hc.mono ?_
        rintro e w2 ⟨rfl, k2, q2⟩
        go_wp2
        go_ret
        exact ⟨by rw [HP.out]; rfl, (HFin.out w2 ⟨s, wt⟩ k2).1, fun e => by rw [HP.out] at e ⊢; exact (HFin.out w2 _ k2).2 (q2 e).mono⟩
      · rw [h1] at y1
        have HP := HE.out
        rw [opV, if_neg (by rw [h1]; decide), if_pos h1] at HP
        have HP := hidden HP
        have hc := (vpush HV1.out bytesT hs48 : Calls Tryz.prog 137 #[.pointer (some ⟨wb, 0, none⟩), .string ⟨#[98, 121, 116, 101, 115]⟩] w1 _)
        clear hare HE
        go_wp2_with fail
        refine hc.mono ?_
        rintro e w2 ⟨rfl, k2, q2⟩
        go_wp2
        go_ret
        exact ⟨by rw [HP.out]; rfl, (HFin.out w2 ⟨s, wt⟩ k2).1, fun e => by rw [HP.out] at e ⊢; exact (HFin.out w2 _ k2).2 (q2 e).mono⟩
      · rw [h1] at y1
        have HP := HE.out
        rw [opV, if_neg (by rw [h1]; decide), if_neg (by rw [h1]; decide), if_pos h1] at HP
        have HP := hidden HP
        have hc := vload HV1.out i.a ha ha2 hs48
        clear hare HE
        go_wp2_with fail
        refine hc.mono ?_
        rintro e w2 ⟨rfl, k2, q2⟩
        go_wp2
        go_ret
        exact ⟨by rw [HP.out]; rfl, (HFin.out w2 ⟨s, wt⟩ k2).1, fun e => by rw [HP.out] at e ⊢; exact (HFin.out w2 _ k2).2 (q2 e).mono⟩
      · rw [h1] at y1
        have HP := HE.out
        rw [opV, if_neg (by rw [h1]; decide), if_neg (by rw [h1]; decide), if_neg (by rw [h1]; decide), if_pos h1] at HP
        have HP := hidden HP
        have hc := vstore HV1.out i.a ha ha2 hs48
        clear hare HE
        go_wp2_with fail
        refine hc.mono ?_
        rintro e w2 ⟨rfl, k2, q2⟩
        go_wp2
        go_ret
        exact ⟨by rw [HP.out]; rfl, (HFin.out w2 ⟨s, wt⟩ k2).1, fun e => by rw [HP.out] at e ⊢; exact (HFin.out w2 _ k2).2 (q2 e).mono⟩
      · rw [h1] at y1
        have HP := HE.out
        rw [opV, if_neg (by rw [h1]; decide), if_neg (by rw [h1]; decide), if_neg (by rw [h1]; decide), if_neg (by rw [h1]; decide), if_pos h1] at HP
        have HP := hidden HP
        obtain ⟨p, r, hpr⟩ : ∃ p r, i.tos = p :: r := by
          match hh : i.tos with
          | [] => exact absurd hh (h56 (.inl h1))
          | p :: r => exact ⟨p, r, rfl⟩
        have hpm : p ∈ i.tos := by rw [hpr]; simp
        have hpps : p ∈ ps := by simpa using List.all_eq_true.1 hall p hpm
        obtain ⟨hpl, hpb⟩ := HT.out p hpm
        have hhd : i.tos.headD 0 = p := by rw [hpr]; rfl
        rw [hhd] at HP
        have hc := vjump HV1.out F i (.slice ta i.tos.length tc) HI1.out (fun g hg => (HF1.out g hg).1) p r hpr hpps hpl hpb hs48 hs256 hn (hwl p)
        rw [HIC.out] at hc
        have hbx1 := HBX.out
        clear hare hpr hhd HE
        go_wp2_with (refine wpList_load_row rfl 144 (.tmp 3) rfl w.heap.size rfl 144 ic (0, 0) _ hbx1 Tryz.underlying144 rfl (by rw [← HIC.out]; exact Wire.sizeIns) ?_)
        refine hc.mono ?_
        rintro e w2 ⟨rfl, k2, q2⟩
        go_wp2
        go_ret
        exact ⟨by rw [HP.out]; rfl, (HFin.out w2 ⟨s, wt⟩ k2).1, fun _ => by rw [HP.out]; exact (HFin.out w2 _ k2).2 q2⟩
      · rw [h1] at y1
        have HP := HE.out
        rw [opV, if_neg (by rw [h1]; decide), if_neg (by rw [h1]; decide), if_neg (by rw [h1]; decide), if_neg (by rw [h1]; decide), if_neg (by rw [h1]; decide), if_pos h1] at HP
        have HP := hidden HP
        obtain ⟨p, r, hpr⟩ : ∃ p r, i.tos = p :: r := by
          match hh : i.tos with
          | [] => exact absurd hh (h56 (.inr h1))
          | p :: r => exact ⟨p, r, rfl⟩
        have hpm : p ∈ i.tos := by rw [hpr]; simp
        have hpps : p ∈ ps := by simpa using List.all_eq_true.1 hall p hpm
        obtain ⟨hpl, hpb⟩ := HT.out p hpm
        have hhd : i.tos.headD 0 = p := by rw [hpr]; rfl
        rw [hhd] at HP
        have hc := vzero HV1.out F i (.slice ta i.tos.length tc) HI1.out HF1.out p r hpr hpps hpl hpb hs48 hs256 hn (hwl p)
        rw [HIC.out] at hc
        have hbx1 := HBX.out
        clear hare hpr hhd HE
        go_wp2_with (refine wpList_load_row rfl 144 (.tmp 3) rfl w.heap.size rfl 144 ic (0, 0) _ hbx1 Tryz.underlying144 rfl (by rw [← HIC.out]; exact Wire.sizeIns) ?_)
        refine hc.mono ?_
        rintro e w2 ⟨rfl, k2, q2⟩
        go_wp2
        go_ret
        by_cases hz0 : (popR s.stack [numT]).1 = 0
        · have HP2 : Hid (SV = (0, goV ⟨⟨(popR s.stack [numT]).2, s.locals⟩, wt⟩ p [])) := by rw [hid_iff, HP.out, if_neg (fun h => h hz0)]
          exact ⟨by rw [HP2.out]; first | rfl | (rw [hz0]; rfl), (HFin.out w2 ⟨s, wt⟩ k2).1, fun _ => by rw [HP2.out]; exact (HFin.out w2 _ k2).2 (q2 hz0)⟩
        · have HP2 : Hid (SV.1 = (popR s.stack [numT]).1) := by rw [hid_iff, HP.out, if_pos hz0]
          exact ⟨by rw [HP2.out]; rfl, (HFin.out w2 ⟨s, wt⟩ k2).1, fun e => by rw [HP2.out] at e; exact absurd e hz0⟩
      · rw [h1] at y1
        have HP := HE.out
        rw [opV, if_neg (by rw [h1]; decide), if_neg (by rw [h1]; decide), if_neg (by rw [h1]; decide), if_neg (by rw [h1]; decide), if_neg (by rw [h1]; decide), if_neg (by rw [h1]; decide), if_pos h1] at HP
        have HP := hidden HP
        have hc := vdoN HV1.out i.a a7 a9 a10 a11 a12 hs48
        clear hare HE
        go_wp2_with fail
        refine hc.mono ?_
        rintro e w2 ⟨rfl, k2, q2⟩
        go_wp2
        go_ret
        exact ⟨by rw [HP.out]; rfl, (HFin.out w2 ⟨s, wt⟩ k2).1, fun e => by rw [HP.out] at e ⊢; exact (HFin.out w2 _ k2).2 (q2 e).mono⟩
      · rw [h1] at y1
        have HP := HE.out
        rw [opV, if_neg (by rw [h1]; decide), if_neg (by rw [h1]; decide), if_neg (by rw [h1]; decide), if_neg (by rw [h1]; decide), if_neg (by rw [h1]; decide), if_neg (by rw [h1]; decide), if_neg (by rw [h1]; decide), if_pos h1] at HP
        have HP := hidden HP
        have hc := vleave HV1.out hs48
        clear hare HE
        go_wp2_with fail
        refine hc.mono ?_
        rintro e w2 ⟨rfl, k2, q2⟩
        go_wp2
        go_ret
        exact ⟨by rw [HP.out]; rfl, (HFin.out w2 ⟨s, wt⟩ k2).1, fun e => by rw [HP.out] at e ⊢; exact (HFin.out w2 _ k2).2 (q2 e).mono⟩
end Go.Proofs.YtdeckknfolaaeaaGreatDoor

namespace Go.Proofs.YtdeckknfolaaeaaGreatDoor

theorem kc_drewN (col : Nat → Tag) (S : Tag → Prop) (w : World) (n : Nat) : Kc col S w (w.drewN n) := ⟨rfl, rfl, rfl, Nat.le_refl _, fun _ _ _ => rfl⟩
def OkS (L : Nat) (s : St) : Prop := s.stack.length ≤ 48 ∧ s.locals.length = L
def OkW (L : Nat) (wt : List (Int × St)) : Prop := ∀ x ∈ wt, OkS L x.2
theorem wait_mem {wt : List (Int × St)} {p : Int} {s : St} (h : s ∈ waitS wt p) : (p, s) ∈ wt := by
  unfold waitS at h
  obtain ⟨⟨q, t⟩, h1, h2⟩ := List.mem_map.1 h
  rw [List.mem_filter] at h1
  have h3 := of_decide_eq_true h1.2
  simp only at h2 h3
  subst h2 h3
  exact h1.1
theorem wait_len (wt : List (Int × St)) (p : Int) : (waitS wt p).length ≤ wt.length := by
  unfold waitS
  rw [List.length_map]
  exact List.length_filter_le _ _
theorem wait_ok {L : Nat} {wt : List (Int × St)} (h : OkW L wt) {p : Int} {s : St} (hs : s ∈ waitS wt p) : OkS L s := h _ (wait_mem hs)
theorem joinL_len (a b : List (List UInt8)) : (joinL a b).length = a.length := by simp [joinL]
theorem joinS_ok {L : Nat} : ∀ (r : List St) (s t : St), OkS L s → joinS s r = some t → OkS L t
  | [], s, t, h, e => by
    rw [joinS, Option.some.injEq] at e
    rw [← e]
    exact h
  | q :: r, s, t, h, e => by
    rw [joinS] at e
    split at e
    · exact joinS_ok r ⟨s.stack, joinL s.locals q.locals⟩ t ⟨h.1, by show (joinL s.locals q.locals).length = L; rw [joinL_len]; exact h.2⟩ e
    · cases e
theorem arrive_ok {L : Nat} {wt : List (Int × St)} (h : OkW L wt) {p : Int} {s : St} (e : arriveR wt p = some s) : OkS L s := by
  unfold arriveR at e
  split at e
  · cases e
  · rename_i q r hq
    exact joinS_ok r q s (wait_ok h (by rw [hq]; simp)) e
theorem push_ok {s : List (List UInt8)} (t : List UInt8) (h : s.length ≤ 48) : (pushR s t).2.length ≤ 48 := by
  unfold pushR
  split
  · exact h
  · rw [List.length_append]
    simp
    omega
theorem do_ok {s : List (List UInt8)} (op : Int) (h : s.length ≤ 48) : (doR s op).2.length ≤ 48 := by
  have ht := takes_pos op
  unfold doR
  split
  · exact h
  · split
    · exact h
    · split
      · exact h
      · rw [List.length_append, List.length_take]
        simp
        omega
theorem goV_ok {L : Nat} {k : Wk} (h : OkS L k.st) (hw : OkW L k.wt) (p : Int) : OkS L (goV k p []).st ∧ OkW L (goV k p []).wt ∧ (goV k p []).wt.length = k.wt.length + 1 := by
  refine ⟨h, fun x hx => ?_, by simp [goV]⟩
  rcases List.mem_append.1 hx with hx | hx
  · exact hw x hx
  · rw [List.mem_singleton.1 hx]
    exact ⟨by show (k.st.stack ++ []).length ≤ 48; rw [List.append_nil]; exact h.1, h.2⟩
theorem opV_ok {L : Nat} (res : List UInt8) (oth : Wire.Ins → Wk → Nat × Wk) (i : Wire.Ins) (k : Wk) (ho : easyOp i.op i.a) (h : OkS L k.st) (hw : OkW L k.wt) : OkS L (opV res oth i k).2.st ∧ OkW L (opV res oth i k).2.wt ∧ (opV res oth i k).2.wt.length ≤ k.wt.length + 1 := by
  unfold opV
  split
  · exact ⟨⟨push_ok _ h.1, h.2⟩, hw, Nat.le_succ _⟩
  · split
    · exact ⟨⟨push_ok _ h.1, h.2⟩, hw, Nat.le_succ _⟩
    · split
      · refine ⟨?_, hw, Nat.le_succ _⟩
        show OkS L (loadR k.st i.a).2
        unfold loadR
        split
        · exact h
        · exact ⟨push_ok _ h.1, h.2⟩
      · split
        · refine ⟨?_, hw, Nat.le_succ _⟩
          show OkS L (storeR k.st i.a).2
          unfold storeR
          split
          · exact h
          · split
            · exact h
            · exact ⟨by show (k.st.stack.take _).length ≤ 48; rw [List.length_take]; have := h.1; omega, by show (k.st.locals.set _ _).length = L; rw [List.length_set]; exact h.2⟩
        · split
          · obtain ⟨a, b, c⟩ := goV_ok h hw (i.tos.headD 0)
            exact ⟨a, b, Nat.le_of_eq c⟩
          · split
            · split
              · exact ⟨h, hw, Nat.le_succ _⟩
              · obtain ⟨a, b, c⟩ := goV_ok (k := ⟨⟨(popR k.st.stack [numT]).2, k.st.locals⟩, k.wt⟩) ⟨Nat.le_trans (pop_len _ _) h.1, h.2⟩ hw (i.tos.headD 0)
                exact ⟨a, b, Nat.le_of_eq c⟩
            · split
              · exact ⟨⟨do_ok _ h.1, h.2⟩, hw, Nat.le_succ _⟩
              · split
                · refine ⟨?_, hw, Nat.le_succ _⟩
                  show OkS L (leaveR res k.st).2
                  unfold leaveR
                  split
                  · exact h
                  · split
                    · exact h
                    · exact ⟨Nat.le_trans (pop_len _ _) h.1, h.2⟩
                · rename_i n1 n2 n3 n4 n5 n6 n7 n15
                  rcases ho with h1 | h1 | h1 | h1 | h1 | h1 | ⟨h1, _⟩ | h1 <;> contradiction
/-- A step: as it stood, or by opV. -/
theorem stepV_ok {L : Nat} (res : List UInt8) (oth : Wire.Ins → Wk → Nat × Wk) (ps : List Int) (i : Wire.Ins) (wt : List (Int × St)) (ho : easyOp i.op i.a) (hw : OkW L wt) (h0 : (stepV res oth ps i wt).1 = 0) : OkS L (stepV res oth ps i wt).2.st ∧ OkW L (stepV res oth ps i wt).2.wt ∧ (stepV res oth ps i wt).2.wt.length ≤ wt.length + 1 := by
  unfold stepV at h0 ⊢
  split at h0
  · cases h0
  · rename_i s hs
    split at h0
    · rename_i ht
      simp only [ht, if_true]
      exact opV_ok res oth i ⟨s, wt⟩ ho (arrive_ok hw hs) hw
    · cases h0
end Go.Proofs.YtdeckknfolaaeaaGreatDoor
