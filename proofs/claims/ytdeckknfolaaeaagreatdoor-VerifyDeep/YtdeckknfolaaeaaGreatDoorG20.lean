/-
  A walk's small methods: push, load, store, what goes on.
  And: slices.Grow of no texts; slices.Clone of texts: rows of the call's own. slices.Concat of two rows of texts: a row of the call's own. A range over a function, from the iterator's own side: what the iterator's call must come to, and what a call of yield comes to, where the body may be told of memory that the iterator has made. slices.Backward over texts: what its iterator does, round by round. A region that draws its order, within a round of a range over a function: as it goes outside of one, so it goes there.
-/
import Derived.Test.YtdeckknfolaaeaaGreatDoorG15
import Derived.Test.YtdeckknfolaaeaaGreatDoorG16
import Derived.Test.YtdeckknfolaaeaaGreatDoorG17
import Derived.Test.YtdeckknfolaaeaaGreatDoorG19
import Derived.Lib.AppendZerosOnto
import Derived.Laws.AppendOwnNone
import Derived.RangeFuncNested
import Derived.RangeFuncLeaves
import Derived.RangeFuncCalls
import Derived.TacticsInMore
import Derived.LoopNIn
import Derived.LoopIn
import Derived.OwnWalkIn
import Derived.OrdersIn
import Derived.TacticsIn
namespace Go.Proofs.YtdeckknfolaaeaaGreatDoor
open Go.RowKit Go.Maps

/-- One block more of a tag. -/
def colP (col : Nat → Tag) (g : Nat) (t : Tag) : Nat → Tag := fun x => if x = g then t else col x
theorem colP_agr (col : Nat → Tag) (n g : Nat) (t : Tag) (h : n ≤ g ∨ col g = t) : Agr n col (colP col g t) := fun x hx => by
  unfold colP
  split
  · rename_i e
    subst e
    rcases h with h | h
    · omega
    · exact h.symm
  · rfl
theorem kc_alloc (col : Nat → Tag) (S : Tag → Prop) (w : World) (o : Obj) : Kc col S w (w.alloc o) := Kc.below ((Below.refl _ _).alloc (Nat.le_refl _) _)
theorem strRow_atV {w : World} {v : Value} {xs : List (List UInt8)} (h : StrRow w v xs) (k : Nat) (hk : k < xs.length) : ∃ b of c, v = .slice (some ⟨b, of, none⟩) xs.length c ∧ w.cell? ⟨b, of + k, none⟩ = some (.string (str xs[k])) := by
  rcases h with ⟨rfl, _⟩ | ⟨b, of, c, rfl, _, _, h3⟩
  · simp at hk
  · exact ⟨b, of, c, rfl, h3 k _ (List.getElem?_eq_getElem hk)⟩
/-- An append to texts of the walk's own. -/
theorem SkR.grown {col : Nat → Tag} {t : Tag} {w w' : World} {v : Value} {xs : List (List UInt8)} {g cap : Nat} {x : List UInt8} (h : SkR col t w v xs) (h1 : w'.ownsRow 0 9 1 (.slice (some ⟨g, 0, none⟩) (xs.length + 1) cap) (xs.length + 1) (sc (xs ++ [x]))) (h2 : w.grownBy w' v.ownBlock) (h3 : v.ownBlock = some g ∨ w.heap.size ≤ g) :
    Agr w.heap.size col (colP col g t) ∧ SkR (colP col g t) t w' (.slice (some ⟨g, 0, none⟩) (xs.length + 1) cap) (xs ++ [x]) ∧ Kc col (fun s => s = t) w w' := by
  refine ⟨colP_agr _ _ _ _ (h3.symm.imp id fun e => h.2 g e), ⟨by rw [List.length_append]; exact h1, fun g' hg' => ?_⟩, Kc.grown h2 fun g' e _ => h.2 g' e⟩
  simp only [Value.ownBlock, Option.some.injEq] at hg'
  subst hg'
  simp [colP]
theorem append_textV {w : World} {ops : Array Oper} {rest : List Oper} {o : Oper} {a : Act} {Q : Exit → Act → World → Prop} (hgd : o.guard = none) (s x : Operand)
    (ho : o.op = .call { callee := .builtin .append, args := #[s, x], argTypes := #[25, 25] })
    (v : Value) (acc : List (List UInt8)) (hs : a.eval s = v) (hown : w.ownsRow 0 9 1 v acc.length (sc acc))
    (ad : Addr) (c : Nat) (n : List UInt8) (hx : a.eval x = .slice (some ad) 1 c) (hnews : ∀ j u, (sc [n])[j]? = some u → w.cell? (ad.add j) = some u)
    (hlen : acc.length + 1 ≤ 8796093022208)
    (h : ∀ g cap w', w'.ownsRow 0 9 1 (.slice (some ⟨g, 0, none⟩) (acc.length + 1) cap) (acc.length + 1) (sc (acc ++ [n])) → w.grownBy w' v.ownBlock → (v.ownBlock = some g ∨ w.heap.size ≤ g) → wpList Tryz.prog ops Q rest (a.put o.dst (.slice (some ⟨g, 0, none⟩) (acc.length + 1) cap)) w') :
    wpList Tryz.prog ops Q (o :: rest) a w := by
  obtain ⟨i, z, hi, hz, h1, h2, h3⟩ := info_z infoS
  refine wpList_append_lies w hgd s x 25 ho 0 9 i z 1 16 Tryz.underlying25 hi hz h1 h2 h3 (by decide) v acc.length (sc acc) hs hown ad 1 c (sc [n]) hx rfl hnews (fun u hu => ?_) (by decide) (by unfold maxLen; omega) (by omega) (Nat.zero_le _) w.heap.size rfl ?_
  · simp only [sc, List.map_cons, List.map_nil, List.mem_singleton] at hu
    rw [hu]
    rfl
  · intro g cap w' q1 q2 q3 q4
    exact h g cap w' (by rw [sc_append]; exact q1) q2 (q3.imp id fun e => Nat.le_of_eq e.symm)
/-- The walk with another stack, whose block alone has turned. -/
theorem VwR.newS {col' : Nat → Tag} {w' : World} {col : Nat → Tag} {w : World} {wb : Nat} {u : ObV} {m res : List UInt8} {sy : Value} {mb n : Nat} {ps : List Int} {cur : Int} {k : Wk} {sv lv : Value} (h : VwR col w wb u m res sy mb n ps cur k sv lv) (hK : Kc col (fun s => s = (2, cur, 0)) w w') (hA : Agr w.heap.size col col') {v : Value} {st : List (List UInt8)} (hS : SkR col' (2, cur, 0) w' v st) :
    VbR col' w' wb u m res sy mb n ps cur k.wt sv lv ∧ VwR col' (w'.setCell ⟨wb, 11, none⟩ v) wb u m res sy mb n ps cur ⟨⟨st, k.st.locals⟩, k.wt⟩ v lv ∧ Kc col ownT w (w'.setCell ⟨wb, 11, none⟩ v) := by
  have hB := h.base.kept hK hA fun t ht => by rw [ht]; exact ⟨by simp, .inl (Int.le_refl _)⟩
  have hL := h.locs.kept hK hA (by simp)
  have hkb := kc_box (w := w') hB.tag 11 v
  exact ⟨hB, ⟨hB.setS v, hS.kept hkb (Agr.refl _ _) (by simp), hL.kept hkb (Agr.refl _ _) (by simp)⟩, (hK.mono (fun t ht => by rw [ht]; simp [ownT])).trans hA (hkb.mono (fun t ht => by rw [ht]; simp [ownT]))⟩
/-- A stack without its last ones. -/
theorem SkR.take {col : Nat → Tag} {t : Tag} {w : World} {a : Option Addr} {cap : Nat} {xs : List (List UInt8)} (h : SkR col t w (.slice a xs.length cap) xs) (n : Nat) (hn : n ≤ xs.length) (h0 : 0 < xs.length) : SkR col t w (.slice a n cap) (xs.take n) := by
  have ha : a ≠ none := by
    rintro rfl
    rcases h.1.2 with ⟨_, hh⟩ | ⟨g, c, cur, hv, _⟩
    · omega
    · cases hv
  refine ⟨?_, fun g hg => h.2 g ?_⟩
  · have := owns_take h.1 n hn ha
    rw [List.length_take, Nat.min_eq_left hn]
    simpa [sc, List.map_take] using this
  · cases a with
    | none => exact absurd rfl ha
    | some a => exact hg
set_option maxHeartbeats 1000000 in
set_option maxRecDepth 1000000 in
theorem vpush {col : Nat → Tag} {w : World} {wb : Nat} {u : ObV} {m res : List UInt8} {sy : Value} {mb n : Nat} {ps : List Int} {cur : Int} {k : Wk} {sv lv : Value} (h : VwR col w wb u m res sy mb n ps cur k sv lv) (t : List UInt8) (hl : k.st.stack.length ≤ 48) :
    Calls Tryz.prog 137 #[.pointer (some ⟨wb, 0, none⟩), .string (str t)] w fun e w' => e = .returned (.int .i64 ((pushR k.st.stack t).1 : Int)) ∧ Kc col ownT w w' ∧ ((pushR k.st.stack t).1 = 0 → VwQ col w wb u m res sy mb n ps cur ⟨⟨(pushR k.st.stack t).2, k.st.locals⟩, k.wt⟩ w') := by
  have H := hidden h
  obtain ⟨⟨c9, c10, c11, c12⟩, f11, f12⟩ := h.base.cells
  have hS := h.stack
  obtain ⟨sa, scp, rfl⟩ := hS.row.shape
  clear h
  go_enter Tryz.func137, Tryz.ntmps137
  by_cases h48 : k.st.stack.length = 48
  · have h48i : ((k.st.stack.length : Nat) : Int) = 48 := by omega
    have HP : Hid ((pushR k.st.stack t).1 = 20) := by rw [hid_iff, pushR, if_pos h48]
    go_wp2
    go_ret
    exact ⟨by rw [HP.out]; rfl, Kc.refl _ _ _, fun e => by rw [HP.out] at e; cases e⟩
  · have h48i : ¬ ((k.st.stack.length : Nat) : Int) = 48 := by omega
    have HP : Hid (pushR k.st.stack t = (0, k.st.stack ++ [t])) := by rw [hid_iff, pushR, if_neg h48]
    go_wp2_with (at_builtin; refine append_textV rfl (.tmp 17) (.tmp 19) rfl _ k.st.stack rfl (hS.1.alloc _) _ _ t rfl ?src ?len ?next)
    case src => first | exact cells_new _ _ _ | exact fun j u h => h
    case len => first | omega | (simp; omega)
    case next =>
      intro g c' w' k1 k2 k3
      have hSa := hS.kept (S := fun _ => False) (kc_alloc col _ w (.cells #[.string (str t)] 9)) (Agr.refl _ _) (fun h => h)
      obtain ⟨hA, hS', hK⟩ := hSa.grown k1 k2 (by rw [World.size_alloc]; exact k3)
      have hKw : Kc col (fun s => s = (2, cur, 0)) w w' := (kc_alloc col _ w (.cells #[.string (str t)] 9)).trans (Agr.refl _ _) hK
      have hAw : Agr w.heap.size col (colP col g (2, cur, 0)) := fun x hx => hA x (by simp; omega)
      obtain ⟨hB, hV, hKf⟩ := H.out.newS hKw hAw hS'
      obtain ⟨⟨d9, d10, d11, d12⟩, g11, g12⟩ := hB.cells
      clear k1 k2 k3 hSa hK hA
      go_wp2
      go_ret
      exact ⟨by rw [HP.out]; rfl, hKf, fun _ => ⟨_, _, _, hAw, by rw [HP.out]; exact hV⟩⟩
set_option maxHeartbeats 1000000 in
set_option maxRecDepth 1000000 in
theorem vload {col : Nat → Tag} {w : World} {wb : Nat} {u : ObV} {m res : List UInt8} {sy : Value} {mb n : Nat} {ps : List Int} {cur : Int} {k : Wk} {sv lv : Value} (h : VwR col w wb u m res sy mb n ps cur k sv lv) (a : Int) (ha : 0 ≤ a) (ha2 : a ≤ 255) (hl : k.st.stack.length ≤ 48) :
    Calls Tryz.prog 138 #[.pointer (some ⟨wb, 0, none⟩), .int .i64 a] w fun e w' => e = .returned (.int .i64 ((loadR k.st a).1 : Int)) ∧ Kc col ownT w w' ∧ ((loadR k.st a).1 = 0 → VwQ col w wb u m res sy mb n ps cur ⟨(loadR k.st a).2, k.wt⟩ w') := by
  have H := hidden h
  obtain ⟨⟨c9, c10, c11, c12⟩, f11, f12⟩ := h.base.cells
  have hL := h.locs.row
  obtain ⟨la, lcp, rfl⟩ := hL.shape
  clear h
  go_enter Tryz.func138, Tryz.ntmps138
  by_cases h1 : (k.st.locals.length : Int) ≤ a
  · have HP : Hid ((loadR k.st a).1 = 21) := by rw [hid_iff, loadR, if_pos (.inl h1)]
    have h1' : a ≥ (k.st.locals.length : Int) := h1
    go_wp2
    go_ret
    exact ⟨by rw [HP.out]; rfl, Kc.refl _ _ _, fun e => by rw [HP.out] at e; cases e⟩
  · obtain ⟨j, rfl⟩ : ∃ j : Nat, a = (j : Int) := ⟨a.toNat, by omega⟩
    have hj : j < k.st.locals.length := by omega
    have h1' : ¬ (j : Int) ≥ (k.st.locals.length : Int) := h1
    have h1'' : (j : Int) < (k.st.locals.length : Int) := by omega
    obtain ⟨lb, lo, lc, e1, hc⟩ := strRow_atV hL j hj
    simp only [Value.slice.injEq, true_and] at e1
    obtain ⟨rfl, rfl⟩ := e1
    have hnn := nil_text k.st.locals[j]
    have hx : (k.st.locals[((j : Nat) : Int).toNat]?).getD [] = k.st.locals[j] := by simp [hj]
    by_cases h2 : k.st.locals[j] = []
    · have HP : Hid ((loadR k.st j).1 = 21) := by rw [hid_iff, loadR, if_pos (.inr (by rw [hx]; exact h2))]
      rw [decide_eq_true h2] at hnn
      clear h2 hx
      generalize k.st.locals[j] = x at *
      go_wp2
      go_ret
      exact ⟨by rw [HP.out]; rfl, Kc.refl _ _ _, fun e => by rw [HP.out] at e; cases e⟩
    · have HP : Hid (loadR k.st j = ((pushR k.st.stack k.st.locals[j]).1, ⟨(pushR k.st.stack k.st.locals[j]).2, k.st.locals⟩)) := by rw [hid_iff, loadR, if_neg (by rw [hx]; rintro (h | h); exact h1 h; exact h2 h), hx]
      rw [decide_eq_false h2] at hnn
      have hpu := vpush H.out k.st.locals[j] hl
      generalize k.st.locals[j] = x at *
      go_wp2_with fail
      refine hpu.mono ?_
      rintro e w' ⟨rfl, hk, hv⟩
      go_wp2
      go_ret
      exact ⟨by rw [HP.out]; first | done | rfl, hk, fun e => by rw [HP.out] at e ⊢; exact hv e⟩
end Go.Proofs.YtdeckknfolaaeaaGreatDoor

namespace Go.Proofs.YtdeckknfolaaeaaGreatDoor
open Go.RowKit Go.Maps Go.Lib

theorem append_run {P : Program} {w : World} {ops : Array Oper} {rest : List Oper} {o : Oper} {a : Act} {Q : Exit → Act → World → Prop} (hgd : o.guard = none) (s x : Operand) (t tn : TypeId)
    (ho : o.op = .call { callee := .builtin .append, args := #[s, x], argTypes := #[t, tn] }) (v y r : Value) (w' : World) (hs : a.eval s = v) (hx : a.eval x = y)
    (hr : ∀ ty, (Builtin.append_ #[t, tn] ty #[v, y]).run P w = .ok r w') (h : wpList P ops Q rest (a.put o.dst r) w') : wpList P ops Q (o :: rest) a w := by
  refine wpList_plain hgd fun K hK => ?_
  have hrun := hr o.type
  unfold Oper.wp
  simp [execOp, ho, resolve, invoke, builtin, hs, hx, hrun, Result.andThen]
  exact hK _ _ h
set_option maxHeartbeats 2000000 in
set_option maxRecDepth 100000 in
theorem vgrow (n : Nat) (hn : n ≤ 1000000) (w : World) : Calls Tryz.prog 215 #[.slice none 0 0, .int .i64 (n : Int)] w fun e w' => ∃ v, e = .returned v ∧ w'.ownsRow w.heap.size 9 1 v 0 [] ∧ Below w.heap.size w w' := by
  obtain ⟨i, z, hi, hz, h1, h2, h3⟩ := info_z infoS
  have k1 : ¬ ((n : Int) < 0) := by omega
  by_cases h0 : n = 0
  · subst h0
    go_enter Tryz.func215, Tryz.ntmps215
    go_wp2
    go_ret
    exact ⟨_, rfl, World.ownsRow_nil _ _ _ _, Below.refl _ _⟩
  · have hrz : ∀ ty, (Builtin.append_ #[25, 3] ty #[.slice none 0 0, .int .i64 (n : Int)]).run Tryz.prog w = .ok (.slice (some ⟨w.heap.size, 0, none⟩) n (grownCap w n 0 9)) (w.drew.alloc (.cells (Builtin.zeroCells z.cells n ++ Builtin.zeroCells z.cells (grownCap w n 0 9 - n)) 9)) := fun ty => by
      have h := Lib.run_append_grow_zeros w 25 3 ty 9 i z .i64 .i64 Tryz.underlying25 Tryz.underlying3 hi hz none 0 0 [] (run_firstCells_none w.drew i.size 0 0 0) n (by omega) (by omega) (by omega) (by omega) (by rw [h2]; omega) (growslice_fits (by omega) (by rw [h2]; omega))
      simpa using h
    have hG := grownCap_ge w n 0 9
    have hGm := grownCap_le_maxLen w n 0 9 (by unfold maxLen; omega)
    generalize grownCap w n 0 9 = G at *
    have hzc : (Builtin.zeroCells z.cells n ++ Builtin.zeroCells z.cells (G - n)).size = G := by rw [Array.size_append, size_zeroCells, size_zeroCells, h3]; omega
    generalize Builtin.zeroCells z.cells n ++ Builtin.zeroCells z.cells (G - n) = cs at *
    have hfin : (w.drew.alloc (.cells cs 9)).ownsRow w.heap.size 9 1 (.slice (some ⟨w.heap.size, 0, none⟩) 0 G) 0 [] := ⟨rfl, .inr ⟨w.heap.size, G, cs, rfl, Nat.le_refl _, World.alloc_heap_new w.drew _, Nat.zero_le _, hGm, by omega, by simp⟩⟩
    have hb : Below w.heap.size w (w.drew.alloc (.cells cs 9)) := (below_drew (Below.refl _ w)).alloc (Nat.le_refl _) _
    have hgi : (0 : Int) ≤ (G : Int) := by omega
    have k4 : (n : Int) > 0 := by omega
    unfold maxLen at hGm
    go_enter Tryz.func215, Tryz.ntmps215
    go_wp2_with (at_builtin; refine append_run rfl (.tmp 20) (.tmp 21) _ _ rfl _ _ _ _ rfl rfl hrz ?_)
    go_ret
    exact ⟨_, rfl, hfin, hb⟩
/-- A row of texts of the call's own, or none at all. -/
def NewR (B : Nat) (w : World) (v : Value) (xs : List (List UInt8)) : Prop := (xs = [] ∧ ∃ c, v = .slice none 0 c) ∨ w.ownsRow B 9 1 v xs.length (sc xs)
theorem NewR.shape {B : Nat} {w : World} {v : Value} {xs : List (List UInt8)} (h : NewR B w v xs) : ∃ a c, v = .slice a xs.length c := by
  rcases h with ⟨rfl, c, rfl⟩ | h
  · exact ⟨none, c, rfl⟩
  · exact (strRow_own h).shape
theorem NewR.blk {B : Nat} {w : World} {v : Value} {xs : List (List UInt8)} (h : NewR B w v xs) {g : Nat} (hg : v.ownBlock = some g) : B ≤ g ∧ g < w.heap.size := by
  rcases h with ⟨rfl, c, rfl⟩ | h
  · cases hg
  · exact h.lt g hg
theorem NewR.same {B : Nat} {w w' : World} {v : Value} {xs : List (List UInt8)} (h : NewR B w v xs) (hb : ∀ g, v.ownBlock = some g → w'.heap[g]? = w.heap[g]?) : NewR B w' v xs := h.imp id fun h => owns_same h hb
theorem NewR.mono {B B' : Nat} {w : World} {v : Value} {xs : List (List UInt8)} (h : NewR B w v xs) (hB : B' ≤ B) : NewR B' w v xs := h.imp id fun h => by
  refine ⟨h.1, ?_⟩
  rcases h.2 with hn | ⟨g, cap, cur, rfl, h2, h3⟩
  · exact .inl hn
  · exact .inr ⟨g, cap, cur, rfl, Nat.le_trans hB h2, h3⟩
theorem vclone (v : Value) (xs : List (List UInt8)) (w : World) (h : StrRow w v xs) (hl : xs.length ≤ 1000000) :
    Calls Tryz.prog 152 #[v] w fun e w' => ∃ v', e = .returned v' ∧ NewR w.heap.size w' v' xs ∧ Below w.heap.size w w' := by
  rcases h with ⟨rfl, a, c, rfl⟩ | ⟨g, o, cap, rfl, hg, _, hc⟩
  · cases a with
    | none =>
      refine (Tryz.slices_Clone_string_nil 0 c w).mono ?_
      rintro e w1 ⟨rfl, rfl⟩
      exact ⟨_, rfl, .inl ⟨rfl, _, rfl⟩, Below.refl _ _⟩
    | some a =>
      refine (Tryz.slices_Clone_string_zero a c w).mono ?_
      rintro e w1 ⟨v', rfl, h1, _, hb⟩
      exact ⟨v', rfl, .inr h1, hb⟩
  · refine (Tryz.slices_Clone_string g o xs.length cap (xs.map str) w (by simp) (by omega) (fun j hj => ?_)).mono ?_
    · simp only [List.length_map] at hj
      rw [hc j _ (List.getElem?_eq_getElem hj)]
      simp [List.getD_eq_getElem?_getD, hj]
    · rintro e w1 ⟨v', rfl, h1, _, hb⟩
      rw [List.take_of_length_le (by simp), List.map_map] at h1
      exact ⟨v', rfl, .inr h1, hb⟩
end Go.Proofs.YtdeckknfolaaeaaGreatDoor

namespace Go.Proofs.YtdeckknfolaaeaaGreatDoor
open Go.RowKit Go.Maps

theorem row_empty {w : World} {a : Option Addr} {n c : Nat} {xs : List (List UInt8)} (h : StrRow w (.slice a n c) xs) : n = xs.length := by
  obtain ⟨a', c', e⟩ := h.shape
  simp only [Value.slice.injEq] at e
  exact e.2.1
theorem add_noneV (b of j : Nat) : (⟨b, of, none⟩ : Addr).add j = ⟨b, of + j, none⟩ := by
  unfold Addr.add
  split
  · rename_i h
    subst h
    rfl
  · rfl
theorem run_append_zero {P : Program} {w : World} (base : Nat) (t ty e : TypeId) (i : TypeInfo) (size : Nat) (ht : P.underlying t = some (.slice e)) (hi : P.info? e = some i)
    (v : Value) (n : Nat) (xs : List Value) (hown : w.ownsRow base e size v n xs) (ad : Option Addr) (c : Nat) :
    (Builtin.append_ #[t, t] ty #[v, .slice ad 0 c]).run P w = .ok v w := by
  rcases hown.2 with ⟨rfl, rfl⟩ | ⟨g, cap, cur, rfl, _, _, hnc, _⟩
  · cases ad <;> simp [Builtin.append_, run_underlying ht, sizeOf, typeInfo, hi, Builtin.lenOf, Builtin.firstCells, loadCells, loadCellsFrom, Result.andThen]
  · cases ad <;> simp [Builtin.append_, run_underlying ht, sizeOf, typeInfo, hi, Builtin.lenOf, Builtin.firstCells, hnc, storeCells, loadCells, loadCellsFrom, Result.andThen]
/-- An append of a row of texts to a row of the call's own. -/
theorem append_rowV {w : World} {ops : Array Oper} {rest : List Oper} {o : Oper} {a : Act} {Q : Exit → Act → World → Prop} (hgd : o.guard = none) (s x : Operand)
    (ho : o.op = .call { callee := .builtin .append, args := #[s, x], argTypes := #[25, 25] })
    (B : Nat) (v y : Value) (acc xs : List (List UInt8)) (hs : a.eval s = v) (hx : a.eval x = y) (hown : w.ownsRow B 9 1 v acc.length (sc acc)) (hrow : StrRow w y xs)
    (hlen : acc.length + xs.length ≤ 1000000) (hB : B ≤ w.heap.size)
    (h : ∀ v' w', w'.ownsRow B 9 1 v' (acc ++ xs).length (sc (acc ++ xs)) → w.grownBy w' v.ownBlock → wpList Tryz.prog ops Q rest (a.put o.dst v') w') :
    wpList Tryz.prog ops Q (o :: rest) a w := by
  obtain ⟨i, z, hi, hz, h1, h2, h3⟩ := info_z infoS
  by_cases h0 : xs = []
  · subst h0
    have hE : ∃ ad c, y = .slice ad 0 c := hrow.shape
    obtain ⟨ad, c, rfl⟩ := hE
    exact append_run hgd s x _ _ ho _ _ v w hs hx (fun ty => run_append_zero B _ ty _ i 1 Tryz.underlying25 hi v acc.length (sc acc) hown ad c) (h v w (by simpa using hown) ⟨rfl, rfl, rfl, Nat.le_refl _, fun _ _ _ => rfl⟩)
  · rcases hrow with ⟨h0', _⟩ | ⟨b, of, c, rfl, hb, _, hc⟩
    · exact absurd h0' h0
    · have hpos : 0 < xs.length := List.length_pos_iff.2 h0
      refine wpList_append_lies w hgd s x 25 ho B 9 i z 1 16 Tryz.underlying25 hi hz h1 h2 h3 (by decide) v acc.length (sc acc) hs hown ⟨b, of, none⟩ xs.length c (sc xs) hx (by rw [sc_length, Nat.mul_one]) (fun j u hj => ?_) (fun u hu => ?_) hpos (by unfold maxLen; omega) (by omega) hB w.heap.size rfl ?_
      · simp only [sc, List.getElem?_map, Option.map_eq_some_iff] at hj
        obtain ⟨q, hq, rfl⟩ := hj
        rw [add_noneV]
        exact hc j q hq
      · simp only [sc, List.mem_map] at hu
        obtain ⟨q, _, rfl⟩ := hu
        rfl
      · intro g cap w' q1 q2 q3 q4
        exact h _ w' (by rw [List.length_append, sc_append]; exact q1) q2
set_option maxHeartbeats 2000000 in
set_option maxRecDepth 100000 in
theorem vconcat (b c : Nat) (v0 v1 : Value) (xs ys : List (List UInt8)) (w : World) (h0 : StrRow w v0 xs) (h1 : StrRow w v1 ys) (c0 : w.cell? ⟨b, 0, none⟩ = some v0) (c1 : w.cell? ⟨b, 1, none⟩ = some v1) (hb : b < w.heap.size) (hl : xs.length + ys.length ≤ 1000000) :
    Calls Tryz.prog 151 #[.slice (some ⟨b, 0, none⟩) 2 c] w fun e w' => ∃ v', e = .returned v' ∧ w'.ownsRow w.heap.size 9 1 v' (xs ++ ys).length (sc (xs ++ ys)) ∧ Below w.heap.size w w' := by
  obtain ⟨a0, p0, rfl⟩ := h0.shape
  obtain ⟨a1, p1, rfl⟩ := h1.shape
  have HC : Hid (∀ u, Below w.heap.size w u → (u.cell? ⟨b, 0, none⟩ = some (.slice a0 xs.length p0) ∧ u.cell? ⟨b, 1, none⟩ = some (.slice a1 ys.length p1)) ∧ StrRow u (.slice a0 xs.length p0) xs ∧ StrRow u (.slice a1 ys.length p1) ys) := fun u hu => ⟨⟨(World.cell?_of_block (hu.block b hb)).trans c0, (World.cell?_of_block (hu.block b hb)).trans c1⟩, h0.below hu, h1.below hu⟩
  have hx : (xs.length : Int) ≤ 1000000 := by omega
  have hy : (ys.length : Int) ≤ 1000000 := by omega
  have hgr := vgrow (xs.length + ys.length) hl w
  have hcast : ((xs.length + ys.length : Nat) : Int) = (xs.length : Int) + (ys.length : Int) := by omega
  rw [hcast] at hgr
  clear hcast h0 h1
  go_enter Tryz.func151, Tryz.ntmps151
  go_wp2_with fail
  go_loopg [3, 11] 2 (fun g s i wr => ∃ (k : Nat), g + k = 2 ∧ s = .int .i64 (if k = 0 then 0 else if k = 1 then (xs.length : Int) else (xs.length : Int) + (ys.length : Int)) ∧ i = .int .i64 (k : Int) ∧ wr = w)
  case atStart => exact ⟨0, by omega, rfl, rfl, rfl⟩
  case round =>
    obtain ⟨k, hg, rfl, rfl, hw0⟩ := hrel
    obtain rfl := hw0.symm
    have hk3 : k = 0 ∨ k = 1 ∨ k = 2 := by omega
    rcases hk3 with rfl | rfl | rfl
    · simp only [if_true]
      go_wp2
      go_roundg 1
      case measure => omega
      case rel => exact ⟨1, by omega, by simp, by go_num, rfl⟩
    · have hw : ¬ ((xs.length : Int) + (ys.length : Int) < 0) := by omega
      simp only [Nat.one_ne_zero, if_false, if_true]
      go_wp2
      go_roundg 0
      case measure => omega
      case rel => exact ⟨2, by omega, by simp, by go_num, rfl⟩
    · simp only [Nat.reduceEqDiff, if_false]
      go_wp2_with fail
      refine hgr.mono ?_
      rintro e w1 ⟨v1, rfl, ho1, hb1⟩
      go_wp2_with fail
      go_loopg [6, 27] 2 (fun g s i wr => ∃ (k : Nat), g + k = 2 ∧ wr.ownsRow w.heap.size 9 1 s (if k = 0 then [] else if k = 1 then xs else xs ++ ys).length (sc (if k = 0 then [] else if k = 1 then xs else xs ++ ys)) ∧ i = .int .i64 (k : Int) ∧ Below w.heap.size w wr)
      case atStart => exact ⟨0, by omega, by simpa [sc] using ho1, rfl, hb1⟩
      case round =>
        obtain ⟨k, hg, hown, rfl, hbr⟩ := hrel
        rename World => wr
        obtain ⟨⟨d0, d1⟩, r0, r1⟩ := HC.out wr hbr
        have hsz := hbr.size
        have hk3 : k = 0 ∨ k = 1 ∨ k = 2 := by omega
        rcases hk3 with rfl | rfl | rfl
        · simp only [if_true] at hown
          go_wp2_with (at_builtin; refine append_rowV rfl (.tmp 31) (.tmp 32) rfl w.heap.size _ _ [] xs rfl rfl hown r0 (by simp; omega) hsz ?_; intro v2 w2 ho2 hg2)
          have hb2 := below_grown hown hsz hbr hg2
          go_roundg 1
          case measure => omega
          case rel => exact ⟨1, by omega, by simpa using ho2, by go_num, hb2⟩
        · simp only [Nat.one_ne_zero, if_false, if_true] at hown
          go_wp2_with (at_builtin; refine append_rowV rfl (.tmp 31) (.tmp 32) rfl w.heap.size _ _ xs ys rfl rfl hown r1 (by omega) hsz ?_; intro v2 w2 ho2 hg2)
          have hb2 := below_grown hown hsz hbr hg2
          go_roundg 0
          case measure => omega
          case rel => exact ⟨2, by omega, by simpa using ho2, by go_num, hb2⟩
        · simp only [Nat.reduceEqDiff, if_false] at hown
          go_wp2
          go_ret
          exact ⟨_, rfl, hown, hbr⟩
end Go.Proofs.YtdeckknfolaaeaaGreatDoor

namespace Go.Proofs.YtdeckknfolaaeaaGreatDoor
open Go.RowKit

/-- A loop's record. -/
abbrev recL (fn : FuncId) (tmps : Array Value) (ps : Array Tmp) (assign body : Code) (D : Nat) (st : LoopState) (pe : Option Code) : Obj :=
  .loop { state := st, pending := pe, fn := fn, tmps := tmps, params := ps, assign := assign, body := body, defers := D }
/-- How a round may be left: off its end, or by return. -/
def rndPost (l : Nat) (rc : LoopState → Option Code → Obj) (R : Ending → World → Prop) : Exit → Act → World → Prop
  | .normal, _, W => W.heap[l]? = some (rc .busy none) ∧ R (.returned (.bool true)) (W.putObj l (rc .ready none))
  | .ret, _, W => W.heap[l]? = some (rc .busy none) ∧ R (.returned (.bool false)) (W.putObj l (rc .done (some .ret)))
  | _, _, _ => False
/-- One call of yield. -/
theorem yield_round {F : Fence} {n : Nat} {P : Program} {l D : Nat} {fn : FuncId} {tmps : Array Value} {ps : Array Tmp} {assign body : Code} {args : Array Value} {W : World} {R : Ending → World → Prop}
    (hfn : F.fn fn) (hl : W.heap[l]? = some (recL fn tmps ps assign body D .ready none)) (hps : args.size = ps.size)
    (h : assign.wpIn (F.inRound l) n P (Exit.then (fun a1 W1 => W1.heap[l]? = some (recL fn tmps ps assign body D .ready none) ∧
        body.wpIn (F.inRound l) n P (rndPost l (recL fn tmps ps assign body D) R) a1 (W1.putObj l (recL fn tmps ps assign body D .busy none))) (fun _ _ _ => False))
      { tmps := (ps.zip args).foldl (fun t (p, v) => t.setIfInBounds p v) tmps, defers := [] } W) :
    YieldAt F n P l args W R := by
  refine ⟨fn, _, assign, body, run_yield (P := P) hl hps, roundIn_of_wpIn hfn (wpIn_mono h ?_)⟩
  intro e a1 W1 hp
  cases e with
  | normal =>
    obtain ⟨h1, h2⟩ := hp
    refine ⟨_, run_beginRound h1 rfl, wpIn_mono h2 ?_⟩
    intro e2 a2 W2 hq
    cases e2 with
    | normal => exact ⟨_, _, run_endRound none hq.1, hq.2⟩
    | ret => exact ⟨_, _, run_endRound (some .ret) hq.1, hq.2⟩
    | exit id => exact hq.elim
    | goto t => exact hq.elim
    | panic c => exact hq.elim
    | outgrown => exact hq.elim
  | ret => exact hp.elim
  | exit id => exact hp.elim
  | goto t => exact hp.elim
  | panic c => exact hp.elim
  | outgrown => exact hp.elim
/-- The mark that such a loop leaves among the deferred calls. -/
abbrev markD (D : Nat) : Deferred := { target := .collected D, args := #[] }
/-- The statement, out of the iterator's call. -/
theorem range_own {F : Fence} {n : Nat} {P : Program} {g : Operand} {ps : Array Tmp} {assign body : Code} {Q : Exit → Act → World → Prop} {a : Act} {w : World}
    (hro : F.round = none) (hd : F.depth = none) {gf : Nat} {lb : Array Value} (hg : a.eval g = .func (.func gf) #[] lb) (hFg : F.fn gf) (eg : ∀ args w, (callFunc gf args).run P w = .ok (.enter gf args) w)
    (h : ∀ fn, F.fn fn → CallsIn F (n - 1) P gf (#[.func (.yield (w.heap.size + 1)) #[] #[]] ++ lb) ((w.alloc (.deferred (some []))).alloc (recL fn a.tmps ps assign body w.heap.size .ready none)) fun e W =>
      (∃ v, e = .returned v) ∧ ((W.heap[w.heap.size + 1]? = some (recL fn a.tmps ps assign body w.heap.size .ready none) ∧ Q .normal { a with defers := markD w.heap.size :: a.defers } (W.putObj (w.heap.size + 1) (recL fn a.tmps ps assign body w.heap.size .exhausted none))) ∨
        (W.heap[w.heap.size + 1]? = some (recL fn a.tmps ps assign body w.heap.size .done (some .ret)) ∧ Code.ret.wpIn F n P Q { a with defers := markD w.heap.size :: a.defers } (W.putObj (w.heap.size + 1) (recL fn a.tmps ps assign body w.heap.size .exhausted (some .ret)))))) :
    (Code.rangeFunc g ps assign body).wpIn F n P Q a w := by
  refine wpIn_rangeFunc fun fn hfn => ?_
  have h1 := h fn hfn
  clear h
  obtain ⟨W1, hW1⟩ : ∃ W1, W1 = (w.alloc (.deferred (some []))).alloc (recL fn a.tmps ps assign body w.heap.size .ready none) := ⟨_, rfl⟩
  rw [← hW1] at h1
  have hen : (Instr.enterLoop fn a.tmps ps assign body F.round).run P w = .ok (w.heap.size + 1, [markD w.heap.size]) W1 := by
    rw [hro, hW1]
    exact run_enterLoop_outer fn a.tmps ps assign body
  clear hW1
  have hres : (resolve a.eval (rangeCall g (w.heap.size + 1)) 0).run P W1 = .ok { target := .fn (.func gf) lb, args := #[.func (.yield (w.heap.size + 1)) #[] #[]] } W1 := by
    simp only [resolve, hg]
    simp [go_sem]
  have hle : ∀ f', Target.leads P W1 (.fn (.func gf) lb) #[.func (.yield (w.heap.size + 1)) #[] #[]] = some f' → F.fn f' := by
    intro f' hf'
    simp [Target.leads] at hf'
    subst hf'
    exact hFg
  have hinv : (invoke (.fn (.func gf) lb) #[.func (.yield (w.heap.size + 1)) #[] #[]]).run P W1 = .ok (.enter gf (#[.func (.yield (w.heap.size + 1)) #[] #[]] ++ lb)) W1 := by
    simp [invoke, go_sem, eg]
  have hn : F.depth.isSome = true → 1 ≤ n := fun h => absurd h (by rw [hd]; simp)
  have hfin : CallsIn F (n - 1) P gf (#[.func (.yield (w.heap.size + 1)) #[] #[]] ++ lb) W1 (rangePost F n P (w.heap.size + 1) Q { a with defers := [markD w.heap.size] ++ a.defers }) := by
    refine h1.mono fun e W hq => ?_
    obtain ⟨⟨v, hv⟩, hor⟩ := hq
    rw [hv]
    rcases hor with ⟨g1, g2⟩ | ⟨g1, g2⟩
    · have e1 := run_endLoop (P := P) g1 (by simp)
      exact ⟨none, _, e1, g2⟩
    · have e1 := run_endLoop (P := P) g1 (by simp)
      exact ⟨some .ret, _, e1, g2⟩
  refine ⟨w.heap.size + 1, [markD w.heap.size], W1, { target := .fn (.func gf) lb, args := #[.func (.yield (w.heap.size + 1)) #[] #[]] }, W1, gf, #[.func (.yield (w.heap.size + 1)) #[] #[]] ++ lb, W1, ?_, ?_, ?_, ?_, ?_, ?_⟩
  · exact hen
  · exact hres
  · exact hle
  · exact hinv
  · exact hn
  · exact hfin
end Go.Proofs.YtdeckknfolaaeaaGreatDoor

namespace Go.Proofs.YtdeckknfolaaeaaGreatDoor
open Go.RowKit Go.Maps

def YldV (Jn Jx : World → Prop) (r : Ending) (W : World) : Prop := ∃ bb : Bool, r = .returned (.bool bb) ∧ (bb = true → Jn W) ∧ (bb = false → Jx W)
theorem back0 (a : Option Addr) (len cap : Nat) (w : World) : Calls Tryz.prog 240 #[.slice a len cap] w fun r w' => r = .returned (.func (.func 271) #[] #[.pointer (some ⟨w.heap.size, 0, none⟩)]) ∧ w' = w.alloc (.cells #[.slice a len cap] 25) := by
  go_enter Tryz.func240, Tryz.ntmps240
  go_wp2
  go_ret
  exact ⟨rfl, rfl⟩
set_option maxRecDepth 1000000 in
set_option maxHeartbeats 1000000 in
theorem back1 (l Bs : Nat) (a : Option Addr) (cap : Nat) (xs : List (List UInt8)) (J : Nat → World → Prop) (Jx : World → Prop) (hlen : xs.length ≤ 1000000)
    (hJ : ∀ k W, J k W → W.cell? ⟨Bs, 0, none⟩ = some (.slice a xs.length cap) ∧ StrRow W (.slice a xs.length cap) xs)
    (hY : ∀ k j (hj : j < xs.length) W, k + j + 1 = xs.length → J k W → YieldAt Fence.wide 7 Tryz.prog l #[.int .i64 (j : Int), .string (str xs[j])] W (YldV (J (k + 1)) Jx))
    (W : World) (h0 : J 0 W) :
    CallsIn Fence.wide 8 Tryz.prog 271 #[.func (.yield l) #[] #[], .pointer (some ⟨Bs, 0, none⟩)] W fun r W' => (∃ v, r = .returned v) ∧ (J xs.length W' ∨ Jx W') := by
  refine callsIn_of_wp Tryz.func271 rfl trivial ?_ rfl
  simp only [Tryz.ntmps271, List.size_toArray, List.length_cons, List.length_nil, Nat.reduceAdd, Nat.reduceSub, Array.replicate_succ, Array.replicate_zero, List.push_toArray, List.append_toArray, List.nil_append, List.cons_append]
  have hc0 := (hJ 0 W h0).1
  gi_wp2
  gi_loopw [3] (fun i wr => ∃ k : Nat, k ≤ xs.length ∧ i = .int .i64 ((xs.length : Int) - 1 - k) ∧ J k wr)
    (fun i _ => (intOf i + 1).toNat)
  case atStart => exact ⟨0, Nat.zero_le _, by simp, h0⟩
  case round =>
    obtain ⟨k, hk, rfl, hJs⟩ := hrel
    by_cases hlt : k < xs.length
    · obtain ⟨j, hj⟩ : ∃ j, k + j + 1 = xs.length := ⟨xs.length - 1 - k, by omega⟩
      have hjl : j < xs.length := by omega
      obtain ⟨hb0, hrow⟩ := hJ k wr hJs
      obtain ⟨b, off, c, e1, hcell⟩ := strRow_atV hrow j hjl
      simp only [Value.slice.injEq, true_and] at e1
      obtain ⟨rfl, rfl⟩ := e1
      obtain ⟨fn, tmps, assign, body, hy, hR⟩ := hY k j hjl wr hj hJs
      have hji : (xs.length : Int) - 1 - (k : Int) = (j : Int) := by omega
      have hj0 : (0 : Int) ≤ (j : Int) := by omega
      have hjl2 : (j : Int) < (xs.length : Int) := by omega
      have HJ := hidden hj
      rw [hji]
      clear hj hji hc0 h0 hrow
      generalize xs[j] = x at *
      gi_wp2
      refine hR.mono ?_
      rintro e W3 ⟨bb, rfl, h1, h2⟩
      cases bb
      · have h3 := h2 rfl
        gi_wp2
        refine bodyPost_ret (results_none rfl _ _ _) rfl ?_
        exact ⟨⟨_, rfl⟩, .inr h3⟩
      · have h3 := h1 rfl
        have hj2 := HJ.out
        gi_wp2
        go_roundw
        case rel => exact ⟨k + 1, by omega, by simp; omega, h3⟩
        case measure => simp [intOf]
    · obtain rfl : k = xs.length := by omega
      have hneg : (xs.length : Int) - 1 - (xs.length : Int) = -1 := by omega
      rw [hneg]
      gi_wp2
      go_end0
      exact ⟨⟨_, rfl⟩, .inl hJs⟩
end Go.Proofs.YtdeckknfolaaeaaGreatDoor

namespace Go.Proofs.YtdeckknfolaaeaaGreatDoor
open Go.RowKit

theorem op_inRound {F : Fence} {n : Nat} {P : Program} {o : Oper} {a : Act} {w : World} {K : Act → World → Prop} {Q : Exit → Act → World → Prop} {l : Nat} (hro : F.round = none) (hnd : ∀ c, o.op ≠ .defer c) (h : o.wpIn F n P a w K Q) : o.wpIn (F.inRound l) n P a w K Q := by
  obtain ⟨h1, h2⟩ := h
  refine ⟨h1, ?_⟩
  rw [hro, Oper.semAt_none] at h2
  rw [Fence.inRound_round, Oper.semAt_some l a.eval o hnd]
  exact h2
theorem any_inRound {F : Fence} {n : Nat} {P : Program} {md : Region.Mode} {ops : Array Oper} {Q : Exit → Act → World → Prop} {l : Nat} (hro : F.round = none) (hnd : ∀ (i : Nat) (o : Oper), ops[i]? = some o → ∀ c, o.op ≠ .defer c) :
    ∀ (fuel : Nat) (listed : Array Bool) (a : Act) (w : World), wpAnyIn F n P md ops Q fuel listed a w → wpAnyIn (F.inRound l) n P md ops Q fuel listed a w := by
  intro fuel
  induction fuel with
  | zero => exact fun _ _ _ h => h
  | succ fuel ih =>
    intro listed a w h
    obtain ⟨h1, h2⟩ := h
    refine ⟨h1, fun i hi => ?_⟩
    have h3 := h2 i hi
    unfold wpOpIn at h3 ⊢
    cases ho : ops[i]? with
    | none =>
      rw [ho] at h3
      exact ih _ _ _ h3
    | some o =>
      rw [ho] at h3
      simp only [] at h3 ⊢
      split at h3
      · rename_i hw
        rw [if_pos hw]
        exact op_inRound hro (hnd i o ho) (Oper.wpIn_mono (fun a w h => ih _ a w h) h3)
      · rename_i hw
        rw [if_neg hw]
        exact ⟨h3.1, ih _ _ _ h3.2⟩
def noDefer (o : Oper) : Bool := match o.op with
  | .defer _ => false
  | _ => true
theorem no_defer {ops : Array Oper} (h : ops.all noDefer = true) : ∀ (i : Nat) (o : Oper), ops[i]? = some o → ∀ c, o.op ≠ .defer c := by
  intro i o ho c hc
  rw [Array.all_eq_true] at h
  obtain ⟨hi, rfl⟩ := Array.getElem?_eq_some_iff.1 ho
  have := h i hi
  unfold noDefer at this
  rw [hc] at this
  cases this
theorem region_round {F : Fence} {n : Nat} {P : Program} {id : Nat} {ops : Array Oper} {Q : Exit → Act → World → Prop} {l : Nat} {a : Act} {w : World} (hro : F.round = none) (hm : P.follows .mixedOrders = true) (hnd : ops.all noDefer = true)
    (h : wpAnyIn F n P .any ops Q ops.size (Array.replicate ops.size false) a w.drew) : (Code.region id ops true).wpIn (F.inRound l) n P Q a w := wpIn_region_any hm (any_inRound hro (no_defer hnd) _ _ _ _ h)
end Go.Proofs.YtdeckknfolaaeaaGreatDoor
