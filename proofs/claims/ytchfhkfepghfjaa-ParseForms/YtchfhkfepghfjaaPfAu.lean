/-
  The package's leaveKids and leaveArms: trees that are left to be read.
  And: One step of the reader, put together: what readForm and readArm leave is a step of the machine. What a tree must be that has a Kind. No program in it.
-/
import Derived.Deep.RegionLaw
import Derived.Deep.LoopGhost
import Derived.Deep.CutRange
import Derived.Test.YtchfhkfepghfjaaPfAs
import Derived.Test.YtchfhkfepghfjaaPfAt
namespace Go.Proofs.Ytchfhkfepghfjaa
open Go.RowKit

theorem infoPt : (Try.prog.info? 72).map (fun i => (i.zero.map (fun z => z.cells.size), i.size, i.bytes)) = some (some 3, 3, 24) := by kernel_rfl
theorem step_part {w : World} {ops : Array Oper} {o : Oper} {a : Act} {K : Act → World → Prop} {Q : Exit → Act → World → Prop} {E : Prop} (hgd : o.guard = none) (s x : Operand)
    (ho : o.op = .call { callee := .builtin .append, args := #[s, x], argTypes := #[49, 49] })
    (B : Nat) (v : Value) (n : Nat) (xs : List Value) (hs : a.eval s = v) (hown : w.ownsRow B 72 3 v n xs)
    (ad : Addr) (c : Nat) (news : List Value) (hx : a.eval x = .slice (some ad) 1 c) (hl : news.length = 3) (hnews : ∀ j u, news[j]? = some u → w.cell? (ad.add j) = some u) (h1 : ∀ u ∈ news, u.oneCell' = true)
    (hlen : n ≤ 100000) (hB : B ≤ w.heap.size)
    (h : ∀ g cap w', w'.ownsRow B 72 3 (.slice (some ⟨g, 0, none⟩) (n + 1) cap) (n + 1) (xs ++ news) → w.grownBy w' v.ownBlock → K (a.put o.dst (.slice (some ⟨g, 0, none⟩) (n + 1) cap)) w') :
    if Region.wanted o (yielded ops a.tmps) = true then Oper.wp Try.prog o a w K Q else E := by
  obtain ⟨i, z, hi, hz, k1, k2, k3⟩ := info_z infoPt
  exact step_append_lies w hgd s x 49 ho B 72 i z 3 24 Try.underlying49 hi hz k1 k2 k3 (by decide) v n xs hs hown ad 1 c news hx hl hnews h1 (by decide) (by unfold maxLen; omega) (by omega) hB _ rfl (fun g cap w' q1 q2 _ _ => h g cap w' q1 q2)
theorem append_part {w : World} {ops : Array Oper} {rest : List Oper} {o : Oper} {a : Act} {Q : Exit → Act → World → Prop} (hgd : o.guard = none) (s x : Operand)
    (ho : o.op = .call { callee := .builtin .append, args := #[s, x], argTypes := #[49, 49] })
    (B : Nat) (v : Value) (n : Nat) (xs : List Value) (hs : a.eval s = v) (hown : w.ownsRow B 72 3 v n xs)
    (ad : Addr) (c : Nat) (news : List Value) (hx : a.eval x = .slice (some ad) 1 c) (hl : news.length = 3) (hnews : ∀ j u, news[j]? = some u → w.cell? (ad.add j) = some u) (h1 : ∀ u ∈ news, u.oneCell' = true)
    (hlen : n ≤ 100000) (hB : B ≤ w.heap.size)
    (h : ∀ g cap w', w'.ownsRow B 72 3 (.slice (some ⟨g, 0, none⟩) (n + 1) cap) (n + 1) (xs ++ news) → w.grownBy w' v.ownBlock → wpList Try.prog ops Q rest (a.put o.dst (.slice (some ⟨g, 0, none⟩) (n + 1) cap)) w') :
    wpList Try.prog ops Q (o :: rest) a w := by
  obtain ⟨i, z, hi, hz, k1, k2, k3⟩ := info_z infoPt
  exact wpList_append_lies w hgd s x 49 ho B 72 i z 3 24 Try.underlying49 hi hz k1 k2 k3 (by decide) v n xs hs hown ad 1 c news hx hl hnews h1 (by decide) (by unfold maxLen; omega) (by omega) hB _ rfl (fun g cap w' q1 q2 _ _ => h g cap w' q1 q2)
theorem below_drew {H : Nat} {w w1 : World} (h : Below H w w1) : Below H w w1.drew := ⟨h.os, h.tape, h.output, h.size, h.block⟩
theorem grown_drew {w w' : World} {r : Option Nat} (h : w.drew.grownBy w' r) : w.grownBy w' r := ⟨h.os, h.tape, h.output, h.size, h.block⟩
theorem ptr3_one (a b c : Option Addr) : ∀ u ∈ ([.pointer a, .pointer b, .pointer c] : List Value), u.oneCell' = true := by
  intro u hu
  simp only [List.mem_cons, List.not_mem_nil, or_false] at hu
  rcases hu with rfl | rfl | rfl <;> rfl
/-- A row of parts is one that may turn. -/
theorem own_pb {w : World} {rb n : Nat} {v : Value} {xs : List Value} (h : w.ownsRow (rb + 1) 72 3 v n xs) : ∀ k, v.ownBlock = some k → rb < k ∧ PB w k := by
  intro k hk
  rcases h.2 with ⟨rfl, _⟩ | ⟨g, cap, cur, rfl, hb, hg, _⟩
  · simp [Value.ownBlock] at hk
  · simp only [Value.ownBlock, Option.some.injEq] at hk
    subst hk
    exact ⟨by omega, cur, (0, 0), hg⟩
/-- One part more: the new row of one, the append, the store. -/
theorem ev_push {rb d n : Nat} {w w' : World} {m : List UInt8} {tv tv' : Value} {st : Option (Nat × Nat)} {xs ys : List Value} {o : Obj} (hD : DIs w rb m tv st) (ho : w.ownsRow (rb + 1) 72 3 tv n xs) (ho' : w'.ownsRow (rb + 1) 72 3 tv' (n + 1) ys) (hg : (w.alloc o).grownBy w' tv.ownBlock) :
    w'.cell? ⟨rb, 1, none⟩ = some tv ∧ w'.frozen? ⟨rb, 1, none⟩ = false ∧ DIs (w'.setCell ⟨rb, 1, none⟩ tv') rb m tv' st ∧ (w'.setCell ⟨rb, 1, none⟩ tv').ownsRow (rb + 1) 72 3 tv' (n + 1) ys ∧ Ev rb d w (w'.setCell ⟨rb, 1, none⟩ tv') := by
  have hpb := own_pb ho
  have k0 : Kept (fun k => tv.ownBlock = some k) w w' := ((Kept.refl _ w).alloc o).grown hg (fun k e _ => e)
  have hD' : DIs w' rb m tv st := hD.kept k0 (fun e => by have := (hpb rb e).1; omega)
  obtain ⟨_, c1, _, _, fz⟩ := hD'.cells
  have k1 : Kept (fun k => k = rb) w' (w'.setCell ⟨rb, 1, none⟩ tv') := (Kept.refl (fun k => k = rb) w').setCell (p := ⟨rb, 1, none⟩) (fun _ => rfl) _
  refine ⟨c1, fz 1, hD'.set_todo tv', k1.own ho' (fun g e h => ?_), ?_⟩
  · have := (ho'.lt g e).1
    omega
  · exact k0.trans k1 (fun x _ e => .inr (.inl (hpb x e))) (fun x _ e => .inl e)
/-- Trees as parts that are left. -/
def mkP (tg o kg sz : Nat) (arm : Bool) : Nat → List Tr → List Pt
  | _, [] => []
  | i, t :: r => ⟨tg, o + i * 4, t, arm, kg, i * sz⟩ :: mkP tg o kg sz arm (i + 1) r
theorem mkP_length (tg o kg sz : Nat) (arm : Bool) : ∀ (i : Nat) (l : List Tr), (mkP tg o kg sz arm i l).length = l.length
  | _, [] => rfl
  | i, t :: r => by rw [mkP, List.length_cons, mkP_length, List.length_cons]
theorem mkP_get (tg o kg sz : Nat) (arm : Bool) : ∀ (i : Nat) (l : List Tr) (j : Nat) (h : j < l.length), (mkP tg o kg sz arm i l)[j]? = some ⟨tg, o + (i + j) * 4, l[j], arm, kg, (i + j) * sz⟩
  | _, [], j, h => by simp at h
  | i, t :: r, 0, h => by simp [mkP]
  | i, t :: r, j + 1, h => by
    rw [mkP, List.getElem?_cons_succ, mkP_get tg o kg sz arm (i + 1) r j (by simpa using h), show i + 1 + j = i + (j + 1) from by omega]
    rfl
theorem mkP_tree (tg o kg sz : Nat) (arm : Bool) : ∀ (i : Nat) (l : List Tr), (mkP tg o kg sz arm i l).map (·.tree) = l
  | _, [] => rfl
  | i, t :: r => by rw [mkP, List.map_cons, mkP_tree]
theorem drop_rev {α : Type} {l : List α} {k : Nat} {x : α} (h : l[k]? = some x) : (l.drop k).reverse = (l.drop (k + 1)).reverse ++ [x] := by
  obtain ⟨hk, rfl⟩ := List.getElem?_eq_some_iff.1 h
  rw [List.drop_eq_getElem_cons hk, List.reverse_cons]
/-- What leaveKids leaves: block kg, and the parts. -/
def LeaveQ (rb : Nat) (m : List UInt8) (st : Option (Nat × Nat)) (d : Nat) (pre X post : List Value) (T f : Nat) (z : List Value) (Tz : Nat) (n : Nat) (xs : List Value) (l : List Tr) (kps : List Pt) (w : World) (e : Ending) (w' : World) : Prop :=
  e = .returned (.tuple #[]) ∧ ∃ tv', DIs w' rb m tv' st ∧ w'.ownsRow (rb + 1) 72 3 tv' (n + l.length) (xs ++ pcells kps.reverse) ∧ At w' d pre (X.set f (.slice (some ⟨w.heap.size, 0, none⟩) l.length l.length)) post T ∧
    At w' w.heap.size [] (zeros z l.length) [] Tz ∧ Ev rb d w w'
theorem ev_drewN {rb d : Nat} {u v : World} (h : Ev rb d u v) (n : Nat) : Ev rb d u (v.drewN n) := ⟨h.os, h.tape, h.output, h.size, h.block⟩
set_option maxHeartbeats 4000000 in
set_option maxRecDepth 1000000 in
theorem leaveKids (l : List Tr) (g o c : Nat) (w : World) (rb : Nat) (m : List UInt8) (tv : Value) (st : Option (Nat × Nat)) (n : Nat) (xs : List Value) (d : Nat) (pre X post : List Value) (T : Nat)
    (hD : DIs w rb m tv st) (ho : w.ownsRow (rb + 1) 72 3 tv n xs) (hl : l.length ≤ 20000) (hn : n ≤ 20000) (hA : At w d pre X post T) (hX : X.length = 9) (hX6 : ∃ u, X[6]? = some u) (hT : T ≠ 72) (hrd : rb < d) :
    Calls Try.prog 33 #[.pointer (some ⟨rb, 0, none⟩), .slice (some ⟨g, o, none⟩) l.length c, .pointer (some ⟨d, pre.length, none⟩)] w (LeaveQ rb m st d pre X post T 6 exz 36 n xs l (mkP g o w.heap.size 9 false 0 l) w) := by
  have hrb := hD.lt
  have hdl := hA.lt
  have hmk := mk_X w l.length hl
  have hG0 : At (w.alloc (.cells (zeros exz l.length).toArray 36)) w.heap.size [] (zeros exz l.length) [] 36 := at_new w _ _
  have hb0 : Below w.heap.size w (w.alloc (.cells (zeros exz l.length).toArray 36)) := (Below.refl _ _).alloc (Nat.le_refl _) _
  have hD0 := hD.below hb0 hrb
  have ho0 := owns_below ho hb0
  have hA0 : At (w.alloc (.cells (zeros exz l.length).toArray 36)) d pre X post T := (hb0.block d hdl).trans hA
  generalize w.alloc (.cells (zeros exz l.length).toArray 36) = w0 at *
  obtain ⟨u6, hX6⟩ := hX6
  have c6 := hA0.cell hX6
  have f6 := hA0.frozen (pre.length + 6)
  have hA1 := hA0.set 6 (by omega) (.slice (some ⟨w.heap.size, 0, none⟩) l.length l.length)
  have K1 : Kept (fun b => b = d) w0 (w0.setCell ⟨d, pre.length + 6, none⟩ (.slice (some ⟨w.heap.size, 0, none⟩) l.length l.length)) := (Kept.refl (fun b => b = d) w0).setCell (p := ⟨d, pre.length + 6, none⟩) (fun _ => rfl) _
  have hD1 := hD0.kept K1 (fun e => by omega)
  have ho1 := K1.own ho0 (fun b e h => (by
    have := (own_pb ho0 b e).2
    rw [h] at this
    exact hA0.np hT this))
  have hG1 := hG0.kept K1 (fun e => by omega)
  have hE1 : Ev rb d w (w0.setCell ⟨d, pre.length + 6, none⟩ (.slice (some ⟨w.heap.size, 0, none⟩) l.length l.length)) := Kept.trans (Ev.of_below (rb := rb) (d := d) hb0) K1 (fun _ _ h => h) (fun _ _ h => .inr (.inr h))
  clear hG0 hb0 hD0 ho0 hA0 K1 hD ho hA
  go_enter Try.func33, Try.ntmps33
  go_wp2
  clear hmk c6 f6
  generalize w0.setCell ⟨d, pre.length + 6, none⟩ (.slice (some ⟨w.heap.size, 0, none⟩) l.length l.length) = w1 at *
  go_loopg [6] (l.length + 1) (fun gk i wr => ∃ (j : Nat) (tvj : Value), j + 1 = gk ∧ j ≤ l.length ∧ i = .int .i64 ((j : Int) - 1) ∧ DIs wr rb m tvj st ∧ wr.ownsRow (rb + 1) 72 3 tvj (n + (l.length - j)) (xs ++ pcells ((mkP g o w.heap.size 9 false 0 l).drop j).reverse) ∧
    At wr d pre (X.set 6 (.slice (some ⟨w.heap.size, 0, none⟩) l.length l.length)) post T ∧ At wr w.heap.size [] (zeros exz l.length) [] 36 ∧ Ev rb d w wr)
  case atStart =>
    refine ⟨l.length, tv, rfl, Nat.le_refl _, by simp, hD1, ?_, hA1, hG1, hE1⟩
    rw [List.drop_of_length_le (by rw [mkP_length]; exact Nat.le_refl _), Nat.sub_self]
    simpa [pcells] using ho1
  case round =>
    clear hD1 ho1 hA1 hG1 hE1
    obtain ⟨j, tvj, hgk, hj, rfl, hDj, hoj, hAj, hGj, hEj⟩ := hrel
    cases j with
    | zero =>
      have hQ : LeaveQ rb m st d pre X post T 6 exz 36 n xs l (mkP g o w.heap.size 9 false 0 l) w (.returned (.tuple #[])) wr := ⟨rfl, tvj, hDj, by simpa using hoj, hAj, hGj, hEj⟩
      clear hAj hGj hDj hoj hEj
      go_wp2
      go_end0
      exact hQ
    | succ k =>
      have hki : ((k + 1 : Nat) : Int) - 1 = (k : Int) := by omega
      have hk0 : (0 : Int) ≤ (k : Int) := by omega
      have hkl : (k : Int) < (l.length : Int) := by omega
      rw [hki]
      obtain ⟨q0, q1, q2, q3, fz⟩ := hDj.cells
      have cK := hAj.cell (j := 6) (v := .slice (some ⟨w.heap.size, 0, none⟩) l.length l.length) (by rw [List.getElem?_set_self (by omega)])
      obtain ⟨ta, tn, tc, htv⟩ : ∃ ta tn tc, tvj = .slice ta tn tc := by
        rcases hoj.2 with ⟨rfl, _⟩ | ⟨k', cap, cur, rfl, _⟩
        · exact ⟨none, 0, 0, rfl⟩
        · exact ⟨_, _, _, rfl⟩
      have hoA : (wr.alloc (.cells #[.pointer (some ⟨g, o + k * 4, none⟩), .pointer (some ⟨w.heap.size, k * 9, none⟩), .pointer none] 72)).drew.ownsRow (rb + 1) 72 3 tvj (n + (l.length - (k + 1))) (xs ++ pcells ((mkP g o w.heap.size 9 false 0 l).drop (k + 1)).reverse) := owns_below hoj (below_drew ((Below.refl _ _).alloc (Nat.le_refl _) (.cells #[.pointer (some ⟨g, o + k * 4, none⟩), .pointer (some ⟨w.heap.size, k * 9, none⟩), .pointer none] 72)))
      have hN : ∀ j u, ([.pointer (some ⟨g, o + k * 4, none⟩), .pointer (some ⟨w.heap.size, k * 9, none⟩), .pointer none] : List Value)[j]? = some u → (wr.alloc (.cells #[.pointer (some ⟨g, o + k * 4, none⟩), .pointer (some ⟨w.heap.size, k * 9, none⟩), .pointer none] 72)).drew.cell? ((⟨wr.heap.size, 0, none⟩ : Addr).add j) = some u := cells_new wr [.pointer (some ⟨g, o + k * 4, none⟩), .pointer (some ⟨w.heap.size, k * 9, none⟩), .pointer none] 72
      have hrl := hDj.lt
      have hrl' : rb + 1 ≤ (wr.alloc (.cells #[.pointer (some ⟨g, o + k * 4, none⟩), .pointer (some ⟨w.heap.size, k * 9, none⟩), .pointer none] 72)).drew.heap.size := by simp; omega
      have hlen : n + (l.length - (k + 1)) ≤ 100000 := by omega
      have HP : Hid (xs ++ pcells ((mkP g o w.heap.size 9 false 0 l).drop k).reverse = xs ++ pcells ((mkP g o w.heap.size 9 false 0 l).drop (k + 1)).reverse ++ [.pointer (some ⟨g, o + k * 4, none⟩), .pointer (some ⟨w.heap.size, k * 9, none⟩), .pointer none]) := by
        rw [hid_iff, drop_rev (mkP_get g o w.heap.size 9 false 0 l k (by omega)), pcells_append, pcells_one, ← List.append_assoc]
        simp [pcell]
      have HL : Hid (n + (l.length - k) = n + (l.length - (k + 1)) + 1) := by rw [hid_iff]; omega
      subst htv
      go_wp2_with fail
      go_region_law (first
        | (refine step_part (by rfl) (.tmp 24) (.tmp 35) (by rfl) (rb + 1) _ _ _ (by rfl) hoA ⟨wr.heap.size, 0, none⟩ 1 [.pointer (some ⟨g, o + k * 4, none⟩), .pointer (some ⟨w.heap.size, k * 9, none⟩), .pointer none] (by rfl) (by rfl) hN (ptr3_one _ _ _) hlen hrl' ?_; intro gq cap w2 ho2 hg2; obtain ⟨r1, r2, hD2, ho3, hE3⟩ := ev_push (d := rb) hDj hoj ho2 (grown_drew hg2)))
      all_goals (
        have hA4 := hAj.ev hE3 hT (by omega) (by omega)
        have hG4 := hGj.ev hE3 (by decide) (by omega) (by omega)
        have hE4 := hEj.trans hE3 (.inr (.inl rfl))
        clear hoA hN hg2 q0 q1 q2 q3 fz cK hE3 ho2 hAj hGj hEj hDj hoj
        go_wp2
        go_roundg (k + 1)
        case measure => omega
        case rel => exact ⟨k, _, rfl, by omega, by simp, hD2, by rw [HL.out, HP.out]; exact ho3, hA4, hG4, hE4⟩)
set_option maxHeartbeats 4000000 in
set_option maxRecDepth 1000000 in
theorem leaveArms (l : List Tr) (g o c : Nat) (w : World) (rb : Nat) (m : List UInt8) (tv : Value) (st : Option (Nat × Nat)) (n : Nat) (xs : List Value) (d : Nat) (pre X post : List Value) (T : Nat)
    (hD : DIs w rb m tv st) (ho : w.ownsRow (rb + 1) 72 3 tv n xs) (hl : l.length ≤ 20000) (hn : n ≤ 20000) (hA : At w d pre X post T) (hX : X.length = 9) (hX6 : ∃ u, X[8]? = some u) (hT : T ≠ 72) (hrd : rb < d) :
    Calls Try.prog 35 #[.pointer (some ⟨rb, 0, none⟩), .slice (some ⟨g, o, none⟩) l.length c, .pointer (some ⟨d, pre.length, none⟩)] w (LeaveQ rb m st d pre X post T 8 arz 84 n xs l (mkP g o w.heap.size 11 true 0 l) w) := by
  have hrb := hD.lt
  have hdl := hA.lt
  have hmk := mk_A w l.length hl
  have hG0 : At (w.alloc (.cells (zeros arz l.length).toArray 84)) w.heap.size [] (zeros arz l.length) [] 84 := at_new w _ _
  have hb0 : Below w.heap.size w (w.alloc (.cells (zeros arz l.length).toArray 84)) := (Below.refl _ _).alloc (Nat.le_refl _) _
  have hD0 := hD.below hb0 hrb
  have ho0 := owns_below ho hb0
  have hA0 : At (w.alloc (.cells (zeros arz l.length).toArray 84)) d pre X post T := (hb0.block d hdl).trans hA
  generalize w.alloc (.cells (zeros arz l.length).toArray 84) = w0 at *
  obtain ⟨u6, hX6⟩ := hX6
  have c6 := hA0.cell hX6
  have f6 := hA0.frozen (pre.length + 8)
  have hA1 := hA0.set 8 (by omega) (.slice (some ⟨w.heap.size, 0, none⟩) l.length l.length)
  have K1 : Kept (fun b => b = d) w0 (w0.setCell ⟨d, pre.length + 8, none⟩ (.slice (some ⟨w.heap.size, 0, none⟩) l.length l.length)) := (Kept.refl (fun b => b = d) w0).setCell (p := ⟨d, pre.length + 8, none⟩) (fun _ => rfl) _
  have hD1 := hD0.kept K1 (fun e => by omega)
  have ho1 := K1.own ho0 (fun b e h => (by
    have := (own_pb ho0 b e).2
    rw [h] at this
    exact hA0.np hT this))
  have hG1 := hG0.kept K1 (fun e => by omega)
  have hE1 : Ev rb d w (w0.setCell ⟨d, pre.length + 8, none⟩ (.slice (some ⟨w.heap.size, 0, none⟩) l.length l.length)) := Kept.trans (Ev.of_below (rb := rb) (d := d) hb0) K1 (fun _ _ h => h) (fun _ _ h => .inr (.inr h))
  clear hG0 hb0 hD0 ho0 hA0 K1 hD ho hA
  go_enter Try.func35, Try.ntmps35
  go_wp2
  clear hmk c6 f6
  generalize w0.setCell ⟨d, pre.length + 8, none⟩ (.slice (some ⟨w.heap.size, 0, none⟩) l.length l.length) = w1 at *
  go_loopg [6] (l.length + 1) (fun gk i wr => ∃ (j : Nat) (tvj : Value), j + 1 = gk ∧ j ≤ l.length ∧ i = .int .i64 ((j : Int) - 1) ∧ DIs wr rb m tvj st ∧ wr.ownsRow (rb + 1) 72 3 tvj (n + (l.length - j)) (xs ++ pcells ((mkP g o w.heap.size 11 true 0 l).drop j).reverse) ∧
    At wr d pre (X.set 8 (.slice (some ⟨w.heap.size, 0, none⟩) l.length l.length)) post T ∧ At wr w.heap.size [] (zeros arz l.length) [] 84 ∧ Ev rb d w wr)
  case atStart =>
    refine ⟨l.length, tv, rfl, Nat.le_refl _, by simp, hD1, ?_, hA1, hG1, hE1⟩
    rw [List.drop_of_length_le (by rw [mkP_length]; exact Nat.le_refl _), Nat.sub_self]
    simpa [pcells] using ho1
  case round =>
    clear hD1 ho1 hA1 hG1 hE1
    obtain ⟨j, tvj, hgk, hj, rfl, hDj, hoj, hAj, hGj, hEj⟩ := hrel
    cases j with
    | zero =>
      have hQ : LeaveQ rb m st d pre X post T 8 arz 84 n xs l (mkP g o w.heap.size 11 true 0 l) w (.returned (.tuple #[])) wr := ⟨rfl, tvj, hDj, by simpa using hoj, hAj, hGj, hEj⟩
      clear hAj hGj hDj hoj hEj
      go_wp2
      go_end0
      exact hQ
    | succ k =>
      have hki : ((k + 1 : Nat) : Int) - 1 = (k : Int) := by omega
      have hk0 : (0 : Int) ≤ (k : Int) := by omega
      have hkl : (k : Int) < (l.length : Int) := by omega
      rw [hki]
      obtain ⟨q0, q1, q2, q3, fz⟩ := hDj.cells
      have cK := hAj.cell (j := 8) (v := .slice (some ⟨w.heap.size, 0, none⟩) l.length l.length) (by rw [List.getElem?_set_self (by omega)])
      obtain ⟨ta, tn, tc, htv⟩ : ∃ ta tn tc, tvj = .slice ta tn tc := by
        rcases hoj.2 with ⟨rfl, _⟩ | ⟨k', cap, cur, rfl, _⟩
        · exact ⟨none, 0, 0, rfl⟩
        · exact ⟨_, _, _, rfl⟩
      have hoA : (wr.alloc (.cells #[.pointer (some ⟨g, o + k * 4, none⟩), .pointer none, .pointer (some ⟨w.heap.size, k * 11, none⟩)] 72)).drew.ownsRow (rb + 1) 72 3 tvj (n + (l.length - (k + 1))) (xs ++ pcells ((mkP g o w.heap.size 11 true 0 l).drop (k + 1)).reverse) := owns_below hoj (below_drew ((Below.refl _ _).alloc (Nat.le_refl _) (.cells #[.pointer (some ⟨g, o + k * 4, none⟩), .pointer none, .pointer (some ⟨w.heap.size, k * 11, none⟩)] 72)))
      have hN : ∀ j u, ([.pointer (some ⟨g, o + k * 4, none⟩), .pointer none, .pointer (some ⟨w.heap.size, k * 11, none⟩)] : List Value)[j]? = some u → (wr.alloc (.cells #[.pointer (some ⟨g, o + k * 4, none⟩), .pointer none, .pointer (some ⟨w.heap.size, k * 11, none⟩)] 72)).drew.cell? ((⟨wr.heap.size, 0, none⟩ : Addr).add j) = some u := cells_new wr [.pointer (some ⟨g, o + k * 4, none⟩), .pointer none, .pointer (some ⟨w.heap.size, k * 11, none⟩)] 72
      have hrl := hDj.lt
      have hrl' : rb + 1 ≤ (wr.alloc (.cells #[.pointer (some ⟨g, o + k * 4, none⟩), .pointer none, .pointer (some ⟨w.heap.size, k * 11, none⟩)] 72)).drew.heap.size := by simp; omega
      have hlen : n + (l.length - (k + 1)) ≤ 100000 := by omega
      have HP : Hid (xs ++ pcells ((mkP g o w.heap.size 11 true 0 l).drop k).reverse = xs ++ pcells ((mkP g o w.heap.size 11 true 0 l).drop (k + 1)).reverse ++ [.pointer (some ⟨g, o + k * 4, none⟩), .pointer none, .pointer (some ⟨w.heap.size, k * 11, none⟩)]) := by
        rw [hid_iff, drop_rev (mkP_get g o w.heap.size 11 true 0 l k (by omega)), pcells_append, pcells_one, ← List.append_assoc]
        simp [pcell]
      have HL : Hid (n + (l.length - k) = n + (l.length - (k + 1)) + 1) := by rw [hid_iff]; omega
      subst htv
      go_wp2_with fail
      go_region_law (first
        | (refine step_part (by rfl) (.tmp 24) (.tmp 35) (by rfl) (rb + 1) _ _ _ (by rfl) hoA ⟨wr.heap.size, 0, none⟩ 1 [.pointer (some ⟨g, o + k * 4, none⟩), .pointer none, .pointer (some ⟨w.heap.size, k * 11, none⟩)] (by rfl) (by rfl) hN (ptr3_one _ _ _) hlen hrl' ?_; intro gq cap w2 ho2 hg2; obtain ⟨r1, r2, hD2, ho3, hE3⟩ := ev_push (d := rb) hDj hoj ho2 (grown_drew hg2)))
      all_goals (
        have hA4 := hAj.ev hE3 hT (by omega) (by omega)
        have hG4 := hGj.ev hE3 (by decide) (by omega) (by omega)
        have hE4 := hEj.trans hE3 (.inr (.inl rfl))
        clear hoA hN hg2 q0 q1 q2 q3 fz cK hE3 ho2 hAj hGj hEj hDj hoj
        go_wp2
        go_roundg (k + 1)
        case measure => omega
        case rel => exact ⟨k, _, rfl, by omega, by simp, hD2, by rw [HL.out, HP.out]; exact ho3, hA4, hG4, hE4⟩)
end Go.Proofs.Ytchfhkfepghfjaa

namespace Go.Proofs.Ytchfhkfepghfjaa
open Go.RowKit

/-- Ahead of a step: the part p has been taken off. -/
structure FS (F : Nat → Prop) (rb : Nat) (m : List UInt8) (w : World) (tv : Value) (ps0 : List Pt) (p : Pt) (pre post : List Value) (T : Nat) : Prop where
  rd : DIs w rb m tv none
  own : w.ownsRow (rb + 1) 72 3 tv ps0.length (pcells ps0)
  tr : ∀ q ∈ ps0, PT F w q.tg q.tj q.tree ∧ TxOk q.tree
  pt : PT F w p.tg p.tj p.tree
  tx : TxOk p.tree
  sum : (ps0.map (fun q => nodes q.tree)).sum + nodes p.tree ≤ 20000
  dst : Dst rb w p pre post T
  hF : ∀ b, F b → b < rb
  hm : m.length ≤ 8192
theorem FS.len {F : Nat → Prop} {rb : Nat} {m : List UInt8} {w : World} {tv : Value} {ps0 : List Pt} {p : Pt} {pre post : List Value} {T : Nat} (h : FS F rb m w tv ps0 p pre post T) : ps0.length + nodes p.tree ≤ 20000 := by
  have h1 := h.sum
  have h2 : ps0.length ≤ (ps0.map (fun q => nodes q.tree)).sum := by
    have := sum_nodes (ps0.map (·.tree))
    simpa [List.map_map, Function.comp_def] using this
  omega
def FormQ (F : Nat → Prop) (rb : Nat) (m : List UInt8) (ps0 : List Pt) (p : Pt) (pre post : List Value) (T : Nat) (w : World) (e : Ending) (w' : World) : Prop :=
  e = .returned (.tuple #[]) ∧ ∃ tv', (∃ new, StepX F rb m w ps0 p pre post T w' tv' new) ∨ ∃ er, StepErr rb m w p pre post T w' tv' er
theorem mkP_mem {tg o kg sz : Nat} {arm : Bool} {l : List Tr} {i : Nat} {q : Pt} (h : q ∈ mkP tg o kg sz arm i l) : ∃ (j : Nat) (hj : j < l.length), q = ⟨tg, o + (i + j) * 4, l[j], arm, kg, (i + j) * sz⟩ := by
  obtain ⟨j, hj, e⟩ := List.mem_iff_getElem.1 h
  rw [mkP_length] at hj
  have := mkP_get tg o kg sz arm i l j hj
  rw [List.getElem?_eq_getElem (by rw [mkP_length]; exact hj), e] at this
  exact ⟨j, hj, by simpa using this⟩
theorem kd_mk {rb lo kg g o : Nat} {w' : World} {z : List Value} {T : Nat} {arm : Bool} {l : List Tr} (hA : At w' kg [] (zeros z l.length) [] T) (hlo : lo ≤ kg) : Kd rb lo w' z T arm (.slice (some ⟨kg, 0, none⟩) l.length l.length) kg l (mkP g o kg z.length arm 0 l) := by
  refine .inr ⟨l.length, rfl, hlo, hA, mkP_tree _ _ _ _ _ _ _, fun i p hp => ?_⟩
  have hi := (List.getElem?_eq_some_iff.1 hp).1
  rw [mkP_length] at hi
  rw [mkP_get _ _ _ _ _ _ _ _ hi] at hp
  cases hp
  exact ⟨rfl, rfl, by simp⟩
theorem kd_nil {rb lo : Nat} {w' : World} {z : List Value} {T : Nat} {arm : Bool} {a : Option Addr} {c : Nat} : Kd rb lo w' z T arm (.slice a 0 c) rb [] [] := .inl ⟨rfl, rfl, rfl, a, c, rfl⟩
theorem mkP_pt {F : Nat → Prop} {w : World} {g o c kg sz : Nat} {arm : Bool} {l : List Tr} (h : SL F w (.slice (some ⟨g, o, none⟩) l.length c) l) : ∀ q ∈ mkP g o kg sz arm 0 l, PT F w q.tg q.tj q.tree := by
  intro q hq
  obtain ⟨j, hj, rfl⟩ := mkP_mem hq
  rcases h with ⟨a, c', e1, e2⟩ | ⟨g', o', cap, e1, _, hP⟩
  · subst e2
    simp at hj
  · simp only [Value.slice.injEq, Option.some.injEq, Addr.mk.injEq, and_true, true_and] at e1
    obtain ⟨⟨rfl, rfl⟩, _⟩ := e1
    simpa using hP j hj
theorem stepE_mk {F : Nat → Prop} {rb : Nat} {m : List UInt8} {w : World} {tv : Value} {ps0 : List Pt} {p : Pt} {pre post : List Value} {T : Nat} (h : FS F rb m w tv ps0 p pre post T) (harm : p.arm = false) {e0 : Ex} {ks qs : List Tr} (hsh : shapeP m p.tree = .ok (e0, ks, qs))
    {w' : World} {tv' kv pv av : Value} {kg ag : Nat} {kps aps : List Pt} (hD : DIs w' rb m tv' none) (hown : w'.ownsRow (rb + 1) 72 3 tv' (ps0.length + qs.length + ks.length) (pcells ps0 ++ pcells aps.reverse ++ pcells kps.reverse))
    (hE : Ev rb p.dg w w') (hA : At w' p.dg pre (exc e0 kv pv av) post T) (hP : TxR2 (fun k => FN w.heap.size w' k ∧ k ≠ kg ∧ k ≠ ag) w' pv e0.params) (hK : Kd rb w.heap.size w' exz 36 false kv kg ks kps) (hQ : Kd rb w.heap.size w' arz 84 true av ag qs aps) (hne : kg = ag → kg = rb)
    (hks : ∀ q ∈ kps, PT F w q.tg q.tj q.tree) (hqs : ∀ q ∈ aps, PT F w q.tg q.tj q.tree) : StepX F rb m w ps0 p pre post T w' tv' (aps.reverse ++ kps.reverse) := by
  obtain ⟨i1, i2, i3⟩ := shape_in hsh
  have hrd := h.dst.2.2.2
  have hfr := hE.tree h.hF h.rd.lt (by omega)
  have hkt : kps.map (·.tree) = ks := by
    rcases hK with ⟨_, rfl, rfl, _⟩ | ⟨_, _, _, _, e, _⟩
    · rfl
    · exact e
  have hqt : aps.map (·.tree) = qs := by
    rcases hQ with ⟨_, rfl, rfl, _⟩ | ⟨_, _, _, _, e, _⟩
    · rfl
    · exact e
  have hkl : kps.length = ks.length := by rw [← hkt]; simp
  have hql : aps.length = qs.length := by rw [← hqt]; simp
  unfold StepX
  rw [harm, if_neg Bool.false_ne_true]
  refine ⟨e0, ks, qs, kv, pv, av, kg, ag, kps, aps, hsh, ⟨hD, ?_, fun q hq => ?_, ?_⟩, hE, hA, hP, hK, hQ, hne, rfl⟩
  · have e1 : (ps0 ++ (aps.reverse ++ kps.reverse)).length = ps0.length + qs.length + ks.length := by simp [hkl, hql, Nat.add_assoc]
    rw [e1, pcells_append, pcells_append, ← List.append_assoc]
    exact hown
  · have htx : ∀ k ∈ p.tree.kids, TxOk k := ((TxOk_iff _).1 h.tx).2
    rcases List.mem_append.1 hq with hq | hq
    · exact ⟨(h.tr q hq).1.frame hfr, (h.tr q hq).2⟩
    · rcases List.mem_append.1 hq with hq | hq
      · rw [List.mem_reverse] at hq
        refine ⟨(hqs q hq).frame hfr, htx _ (i1 _ ?_)⟩
        rw [← hqt]
        exact List.mem_append_right _ (List.mem_map_of_mem hq)
      · rw [List.mem_reverse] at hq
        refine ⟨(hks q hq).frame hfr, htx _ (i1 _ ?_)⟩
        rw [← hkt]
        exact List.mem_append_left _ (List.mem_map_of_mem hq)
  · have hs := h.sum
    have hn := nodes_eq p.tree
    have e1 : (kps.map (fun q => nodes q.tree)).sum = (ks.map nodes).sum := by rw [← hkt, List.map_map]; rfl
    have e2 : (aps.map (fun q => nodes q.tree)).sum = (qs.map nodes).sum := by rw [← hqt, List.map_map]; rfl
    have e3 : ((ps0 ++ (aps.reverse ++ kps.reverse)).map (fun q => nodes q.tree)).sum = (ps0.map (fun q => nodes q.tree)).sum + ((qs.map nodes).sum + (ks.map nodes).sum) := by
      rw [List.map_append, List.sum_append, List.map_append, List.sum_append, List.map_reverse, List.map_reverse, List.sum_reverse, List.sum_reverse, e1, e2]
    rw [e3]
    omega
theorem stepErr_mk {F : Nat → Prop} {rb : Nat} {m : List UInt8} {w : World} {tv : Value} {ps0 : List Pt} {p : Pt} {pre post : List Value} {T : Nat} (_h : FS F rb m w tv ps0 p pre post T) (harm : p.arm = false) {er : Nat × Nat} (hsh : shapeP m p.tree = .error er) {w' : World} {tv' : Value} {n : Nat} {xs : List Value}
    (hD : DIs w' rb m tv' (some er)) (hown : w'.ownsRow (rb + 1) 72 3 tv' n xs) (hn : n ≤ 20000) (hE : Ev rb p.dg w w') {X : List Value} (hXl : NineC X) (hX : At w' p.dg pre X post T) : StepErr rb m w p pre post T w' tv' er :=
  ⟨by unfold specErr; rw [harm, if_neg Bool.false_ne_true]; exact hsh, hD, ⟨n, xs, hown, hn⟩, hE, fun _ => ⟨X, hXl, hX⟩⟩
/-- Kids alone are left; something was read ahead of them. -/
theorem form_kids {α : Type} {F : Nat → Prop} {rb : Nat} {m : List UInt8} {w : World} {tv : Value} {ps0 : List Pt} {p : Pt} {pre post : List Value} {T : Nat} (h : FS F rb m w tv ps0 p pre post T) (harm : p.arm = false) (r : PR α) (e0 : α → Ex) (ks : List Tr) (hkl : ks.length ≤ p.tree.kids.length) (hsh : shapeP m p.tree = r.bind (fun y => .ok (e0 y, ks, [])))
    {w1 w' : World} {pv : Value} {g o c : Nat} {X : List Value} {e : Ending} (hw1 : w.heap.size ≤ w1.heap.size) (hE1 : Ev rb p.dg w w1) (hS : SL F w (.slice (some ⟨g, o, none⟩) ks.length c) ks)
    (hL : LeaveQ rb m (orE none r) p.dg pre X post T 6 exz 36 ps0.length (pcells ps0) ks (mkP g o w1.heap.size 9 false 0 ks) w1 e w')
    (hXl : NineC X) (hX : ∀ y, r = .ok y → ∀ kv, X.set 6 kv = exc (e0 y) kv pv (.slice none 0 0)) (hP : ∀ y, r = .ok y → TxR2 (fun k => FN w.heap.size w1 k) w1 pv (e0 y).params) : FormQ F rb m ps0 p pre post T w e w' := by
  obtain ⟨he, tv', hD, hown, hA, hG, hE⟩ := hL
  have hE2 : Ev rb p.dg w w' := hE1.trans hE (.inl rfl)
  have hlen := h.len
  refine ⟨he, tv', ?_⟩
  cases r with
  | error er =>
    refine .inr ⟨er, stepErr_mk h harm hsh hD hown ?_ hE2 (nine_set hXl 6 rfl) hA⟩
    have hkn := kids_nodes p.tree
    omega
  | ok y =>
    rw [bind_ok] at hsh
    have hX' := hX y rfl (.slice (some ⟨w1.heap.size, 0, none⟩) ks.length ks.length)
    rw [hX'] at hA
    refine .inl ⟨_, stepE_mk (ag := rb) (aps := []) (qs := []) (kps := mkP g o w1.heap.size 9 false 0 ks) h harm hsh hD (by simpa [pcells] using hown) hE2 hA ?_ (kd_mk hG hw1) kd_nil (fun e => ?_) (mkP_pt hS) (by simp)⟩
    · exact (hP y rfl).frame fun b hb => by
        have hrb := h.rd.lt
        have := FN.ev hE (by omega) hb (by have := hb.1; have := h.dst.1.lt; omega)
        exact ⟨⟨this.1, by have := hb.2.1; omega, by have := hb.1; omega⟩, this.2⟩
    · have := h.rd.lt
      omega
end Go.Proofs.Ytchfhkfepghfjaa

namespace Go.Proofs.Ytchfhkfepghfjaa

theorem kindH_inv {h : List UInt8} {n k K : Nat} (e : kindH h n k = K) : (K = 4 ∧ n = 4 ∧ k = 3) ∨ (K = 5 ∧ n = 4) ∨ (K = 7 ∧ 2 ≤ n) ∨ (K = 9 ∧ 3 ≤ n) ∨ (K = 10 ∧ n = 4 ∧ k = 1) ∨ (K = 11 ∧ 2 ≤ n) ∨ K = 6 ∨ K = 0 ∨ K = 8 ∨ K = 12 := by
  unfold kindH at e
  by_cases c1 : h = letK ∧ n = 4 ∧ k = 3
  · rw [if_pos c1] at e; exact .inl ⟨e.symm, c1.2⟩
  rw [if_neg c1] at e
  by_cases c2 : h = ifK ∧ n = 4
  · rw [if_pos c2] at e; exact .inr (.inl ⟨e.symm, c2.2⟩)
  rw [if_neg c2] at e
  by_cases c3 : h = arrayL ∧ 2 ≤ n
  · rw [if_pos c3] at e; exact .inr (.inr (.inl ⟨e.symm, c3.2⟩))
  rw [if_neg c3] at e
  by_cases c : h = matchK ∧ 3 ≤ n
  · rw [if_pos c] at e; exact .inr (.inr (.inr (.inl ⟨e.symm, c.2⟩)))
  rw [if_neg c] at e
  by_cases c4 : h = fnL ∧ n = 4 ∧ k = 1
  · rw [if_pos c4] at e; exact .inr (.inr (.inr (.inr (.inl ⟨e.symm, c4.2⟩))))
  rw [if_neg c4] at e
  by_cases c5 : h = callK ∧ 2 ≤ n
  · rw [if_pos c5] at e; exact .inr (.inr (.inr (.inr (.inr (.inl ⟨e.symm, c5.2⟩)))))
  rw [if_neg c5] at e
  by_cases c6 : isOp h = true
  · rw [if_pos c6] at e; omega
  rw [if_neg c6] at e
  by_cases c7 : isKey h = true
  · rw [if_pos c7] at e; omega
  rw [if_neg c7] at e
  by_cases c8 : pathB h = true
  · rw [if_pos c8] at e; omega
  rw [if_neg c8] at e
  by_cases c9 : pathV h = true
  · rw [if_pos c9] at e; omega
  rw [if_neg c9] at e
  omega
theorem kindH_nil (n k : Nat) : kindH [] n k = 0 := by
  simp [kindH, letK, ifK, arrayL, matchK, fnL, callK]
  decide
theorem kindX_inv {t : Tr} {K : Nat} (e : kindX t = K) (hK : 4 ≤ K) : hasHeadX t = true ∧ kindH (headX t) t.kids.length (kid t 1).kind = K := by
  unfold kindX at e
  by_cases c1 : t.kind = 4
  · rw [if_pos c1] at e; omega
  rw [if_neg c1] at e
  by_cases c2 : t.kind = 1
  · rw [if_pos c2] at e
    unfold kindO at e
    refine ⟨?_, e⟩
    cases h : hasHeadX t
    · rw [headX, h, if_neg Bool.false_ne_true, kindH_nil] at e
      omega
    · rfl
  rw [if_neg c2] at e
  by_cases c3 : t.kind = 3
  · rw [if_pos c3] at e
    by_cases c4 : (numP t.text).isSome = true
    · rw [if_pos c4] at e; omega
    rw [if_neg c4] at e
    by_cases c5 : pathV t.text = true
    · rw [if_pos c5] at e; omega
    rw [if_neg c5] at e
    omega
  rw [if_neg c3] at e
  omega
theorem kindX_len {t : Tr} {K : Nat} (e : kindX t = K) (hK : 4 ≤ K) : 1 ≤ t.kids.length ∧ (K = 4 → t.kids.length = 4 ∧ (kid t 1).kind = 3) ∧ (K = 5 → t.kids.length = 4) ∧ (K = 7 → 2 ≤ t.kids.length) ∧ (K = 9 → 3 ≤ t.kids.length) ∧ (K = 10 → t.kids.length = 4 ∧ (kid t 1).kind = 1) ∧ (K = 11 → 2 ≤ t.kids.length) := by
  obtain ⟨h1, h2⟩ := kindX_inv e hK
  simp only [hasHeadX, Bool.and_eq_true, decide_eq_true_eq] at h1
  have h3 := kindH_inv h2
  omega
theorem kindX_top {t : Tr} {K : Nat} (e : kindX t = K) : K ≤ 12 := by
  unfold kindX at e
  by_cases c1 : t.kind = 4
  · rw [if_pos c1] at e; omega
  rw [if_neg c1] at e
  by_cases c2 : t.kind = 1
  · rw [if_pos c2] at e
    have := kindH_inv e
    omega
  rw [if_neg c2] at e
  by_cases c3 : t.kind = 3
  · rw [if_pos c3] at e
    by_cases c4 : (numP t.text).isSome = true
    · rw [if_pos c4] at e; omega
    rw [if_neg c4] at e
    by_cases c5 : pathV t.text = true
    · rw [if_pos c5] at e; omega
    rw [if_neg c5] at e
    omega
  rw [if_neg c3] at e
  omega
end Go.Proofs.Ytchfhkfepghfjaa
