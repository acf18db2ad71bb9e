/-
  The package's readFun.
  And: The package's readItem at a function.
-/
import Derived.Test.YtchfhkfepghfjaaPfBa
namespace Go.Proofs.Ytchfhkfepghfjaa
open Go.RowKit

def funz : List Value := .string (str []) :: .slice none 0 0 :: .string (str []) :: exz
def funZL : Array Value := #[.string ⟨#[]⟩, .slice none 0 0, .string ⟨#[]⟩, .int .i64 0, .int .i64 0, .string ⟨#[]⟩, .complex .f64 0 0, .string ⟨#[]⟩, .string ⟨#[]⟩, .slice none 0 0, .slice none 0 0, .slice none 0 0]
theorem funZL_funz : funZL = funz.toArray := by kernel_rfl
theorem sizeFun : (Try.prog.info? 63).map (fun i => i.size) = some 12 := by kernel_rfl
theorem at_fun (w : World) : At (w.alloc (.cells funZL 63)) w.heap.size [] funz [] 63 := by
  rw [funZL_funz]
  exact at_new w _ _
def FunQ (rb : Nat) (m : List UInt8) (st : Option (Nat × Nat)) (t : Tr) (L : Nat) (w : World) (e : Ending) (w' : World) : Prop :=
  ∃ X tv' n xs, e = .returned (.agg X.toArray) ∧ X.length = 12 ∧ X.all (fun v => v.oneCell') = true ∧ DIs w' rb m tv' (orE st (funP m t)) ∧ w'.ownsRow (rb + 1) 72 3 tv' n xs ∧ n ≤ L ∧ Ev rb rb w w' ∧
    (st = none → ∀ c, funP m t = .ok c → n = 0 ∧ ∃ qv kv pv av, X = .string (str c.1) :: qv :: .string (str c.2.2.1) :: exc c.2.2.2 kv pv av ∧ TxR2 (fun k => FN w.heap.size w' k) w' qv c.2.1 ∧ XI (FN w.heap.size w') w' kv pv av c.2.2.2)
theorem orE_quad {α β γ δ ε : Type} (st : Option (Nat × Nat)) (r : PR α) (s : PR β) (q : PR γ) (z : PR δ) (f : α → β → γ → δ → ε) : orE st (r.bind (fun x => s.bind (fun y => q.bind (fun u => z.bind (fun v => .ok (f x y u v)))))) = orE (orE (orE (orE st r) s) q) z := by
  cases st <;> cases r <;> cases s <;> cases q <;> cases z <;> rfl
theorem quad_ok {α β γ δ ε : Type} {r : PR α} {s : PR β} {q : PR γ} {z : PR δ} {f : α → β → γ → δ → ε} {c : ε} (h : r.bind (fun x => s.bind (fun y => q.bind (fun u => z.bind (fun v => .ok (f x y u v))))) = .ok c) : ∃ x y u v, r = .ok x ∧ s = .ok y ∧ q = .ok u ∧ z = .ok v ∧ c = f x y u v := by
  cases r with
  | error e => cases h
  | ok x => cases s with
    | error e => cases h
    | ok y => cases q with
      | error e => cases h
      | ok u => cases z with
        | error e => cases h
        | ok v => cases h; exact ⟨x, y, u, v, rfl, rfl, rfl, rfl, rfl⟩
set_option maxHeartbeats 2000000 in
set_option maxRecDepth 1000000 in
theorem readFun_many (F : Nat → Prop) (t : Tr) (tg tj : Nat) (w : World) (rb : Nat) (m : List UInt8) (tv : Value) (st : Option (Nat × Nat)) (hs : Sw st) (n : Nat) (xs : List Value) (h : DIs w rb m tv st) (ho : w.ownsRow (rb + 1) 72 3 tv n xs) (hT : PT F w tg tj t) (hF : ∀ b, F b → b < rb) (htx : TxOk t) (hnd : nodes t ≤ 20000) (L : Nat) (hn : n ≤ L) (hlen : 5 ≤ t.kids.length) (hc : 6 < (kid t 2).kids.length) :
    Calls Try.prog 57 #[.pointer (some ⟨rb, 0, none⟩), .pointer (some ⟨tg, tj, none⟩)] w (FunQ rb m st t (L + 1) w) := by
  have hrb := h.lt
  obtain ⟨hFg, kv, hTw, p0, p1, p2, p3⟩ := hT
  obtain ⟨g1, kc, hkv, hFg1, hkc, hcut⟩ := hTw.cut (by omega)
  obtain ⟨g2, c2, hk2, hP1⟩ := hTw.kid 1 (by omega)
  rw [hkv] at hk2
  simp only [Value.slice.injEq, Option.some.injEq, Addr.mk.injEq, and_true, true_and] at hk2
  obtain ⟨rfl, rfl⟩ := hk2
  obtain ⟨g2, c2, hk2, hP2⟩ := hTw.kid 2 (by omega)
  rw [hkv] at hk2
  simp only [Value.slice.injEq, Option.some.injEq, Addr.mk.injEq, and_true, true_and] at hk2
  obtain ⟨rfl, rfl⟩ := hk2
  obtain ⟨g2, c2, hk2, hP3⟩ := hTw.kid 3 (by omega)
  rw [hkv] at hk2
  simp only [Value.slice.injEq, Option.some.injEq, Addr.mk.injEq, and_true, true_and] at hk2
  obtain ⟨rfl, rfl⟩ := hk2
  obtain ⟨g2, c2, hk2, hP4⟩ := hTw.kid 4 (by omega)
  rw [hkv] at hk2
  simp only [Value.slice.injEq, Option.some.injEq, Addr.mk.injEq, and_true, true_and] at hk2
  obtain ⟨rfl, rfl⟩ := hk2
  rw [hkv] at p3
  rw [Nat.one_mul] at hP1
  have hP3' : PT F w g1 12 (kid t 3) := hP3
  have hP4' : PT F w g1 16 (kid t 4) := hP4
  obtain ⟨_, kv2, hT2, _, _, _, k3⟩ := hP2
  have k3' : w.cell? ⟨g1, 11, none⟩ = some kv2 := k3
  obtain ⟨va1, vc1, hv1⟩ := hT2.shape
  subst hv1
  have hkt := ((TxOk_iff _).1 htx).2
  have ht1 := hkt (kid t 1) (kid_mem (by omega))
  have ht2 := hkt (kid t 2) (kid_mem (by omega))
  have ht3 := hkt (kid t 3) (kid_mem (by omega))
  have ht4 := hkt (kid t 4) (kid_mem (by omega))
  have hnk : ∀ i, i < t.kids.length → nodes (kid t i) ≤ 20000 := fun i hi => by
    have := mem_nodes (kid_mem (t := t) hi)
    have := nodes_eq t
    omega
  have hn2 := hnk 2 (by omega)
  have hn3 := hnk 3 (by omega)
  have hn4 := hnk 4 (by omega)
  have hkl2 := kids_nodes (kid t 2)
  have hb0 : Below w.heap.size w ((w.alloc (.cells #[.string ⟨#[]⟩, .slice none 0 0, .string ⟨#[]⟩, .int .i64 0, .int .i64 0, .string ⟨#[]⟩, .complex .f64 0 0, .string ⟨#[]⟩, .string ⟨#[]⟩, .slice none 0 0, .slice none 0 0, .slice none 0 0] 63)).alloc (.cells #[.string ⟨#[]⟩, .slice none 0 0, .string ⟨#[]⟩, .int .i64 0, .int .i64 0, .string ⟨#[]⟩, .complex .f64 0 0, .string ⟨#[]⟩, .string ⟨#[]⟩, .slice none 0 0, .slice none 0 0, .slice none 0 0] 63)) := ((Below.refl _ _).alloc (Nat.le_refl _) _).alloc (by simp) _
  have hA4 : At ((w.alloc (.cells #[.string ⟨#[]⟩, .slice none 0 0, .string ⟨#[]⟩, .int .i64 0, .int .i64 0, .string ⟨#[]⟩, .complex .f64 0 0, .string ⟨#[]⟩, .string ⟨#[]⟩, .slice none 0 0, .slice none 0 0, .slice none 0 0] 63)).alloc (.cells #[.string ⟨#[]⟩, .slice none 0 0, .string ⟨#[]⟩, .int .i64 0, .int .i64 0, .string ⟨#[]⟩, .complex .f64 0 0, .string ⟨#[]⟩, .string ⟨#[]⟩, .slice none 0 0, .slice none 0 0, .slice none 0 0] 63)) w.heap.size [] funz [] 63 := (Below.heap_alloc _ _ _ (by simp)).trans (at_fun w)
  have hA5 : At ((w.alloc (.cells #[.string ⟨#[]⟩, .slice none 0 0, .string ⟨#[]⟩, .int .i64 0, .int .i64 0, .string ⟨#[]⟩, .complex .f64 0 0, .string ⟨#[]⟩, .string ⟨#[]⟩, .slice none 0 0, .slice none 0 0, .slice none 0 0] 63)).alloc (.cells #[.string ⟨#[]⟩, .slice none 0 0, .string ⟨#[]⟩, .int .i64 0, .int .i64 0, .string ⟨#[]⟩, .complex .f64 0 0, .string ⟨#[]⟩, .string ⟨#[]⟩, .slice none 0 0, .slice none 0 0, .slice none 0 0] 63)) (w.heap.size + 1) [] funz [] 63 := by
    have := at_fun (w.alloc (.cells #[.string ⟨#[]⟩, .slice none 0 0, .string ⟨#[]⟩, .int .i64 0, .int .i64 0, .string ⟨#[]⟩, .complex .f64 0 0, .string ⟨#[]⟩, .string ⟨#[]⟩, .slice none 0 0, .slice none 0 0, .slice none 0 0] 63))
    rw [show (w.alloc (.cells #[.string ⟨#[]⟩, .slice none 0 0, .string ⟨#[]⟩, .int .i64 0, .int .i64 0, .string ⟨#[]⟩, .complex .f64 0 0, .string ⟨#[]⟩, .string ⟨#[]⟩, .slice none 0 0, .slice none 0 0, .slice none 0 0] 63)).heap.size = w.heap.size + 1 by simp] at this
    exact this
  have hds : DS F rb m tv st n xs funz funz 63 w ((w.alloc (.cells #[.string ⟨#[]⟩, .slice none 0 0, .string ⟨#[]⟩, .int .i64 0, .int .i64 0, .string ⟨#[]⟩, .complex .f64 0 0, .string ⟨#[]⟩, .string ⟨#[]⟩, .slice none 0 0, .slice none 0 0, .slice none 0 0] 63)).alloc (.cells #[.string ⟨#[]⟩, .slice none 0 0, .string ⟨#[]⟩, .int .i64 0, .int .i64 0, .string ⟨#[]⟩, .complex .f64 0 0, .string ⟨#[]⟩, .string ⟨#[]⟩, .slice none 0 0, .slice none 0 0, .slice none 0 0] 63)) := ⟨h.below hb0 hrb, owns_below ho hb0, hA5, hA4, Ev.of_below hb0, fun b hb => hb0.block b (by have := hF b hb; omega), by decide, hrb, hF⟩
  have b3 := hds.tcell hFg p3
  have b11 := hds.tcell hFg1 k3'
  have l1 : (1 : Int) < (t.kids.length : Int) := by omega
  have l2 : (2 : Int) < (t.kids.length : Int) := by omega
  have l3 : (3 : Int) < (t.kids.length : Int) := by omega
  have l4 : (4 : Int) < (t.kids.length : Int) := by omega
  have hfp : funP m t = .error (19, t.place) := by unfold funP; rw [if_pos hc]
  have hrf := refuse ((w.alloc (.cells #[.string ⟨#[]⟩, .slice none 0 0, .string ⟨#[]⟩, .int .i64 0, .int .i64 0, .string ⟨#[]⟩, .complex .f64 0 0, .string ⟨#[]⟩, .string ⟨#[]⟩, .slice none 0 0, .slice none 0 0, .slice none 0 0] 63)).alloc (.cells #[.string ⟨#[]⟩, .slice none 0 0, .string ⟨#[]⟩, .int .i64 0, .int .i64 0, .string ⟨#[]⟩, .complex .f64 0 0, .string ⟨#[]⟩, .string ⟨#[]⟩, .slice none 0 0, .slice none 0 0, .slice none 0 0] 63)) rb m tv st 19 t.place hds.rd hs
  have b1 := hds.tcell hFg p1
  have hc' : (6 : Int) < ((kid t 2).kids.length : Int) := by omega
  have hi12 : (Try.prog.info? 63).map (fun i => i.size) = some funz.toArray.size := sizeFun
  have hall : (funz.toArray.all fun v => v.oneCell') = true := by kernel_rfl
  have HQ : Hid (∀ w7, DIs w7 rb m tv (orE st (.error (19, t.place) : PR Unit)) → Kept (fun b => b = rb) ((w.alloc (.cells #[.string ⟨#[]⟩, .slice none 0 0, .string ⟨#[]⟩, .int .i64 0, .int .i64 0, .string ⟨#[]⟩, .complex .f64 0 0, .string ⟨#[]⟩, .string ⟨#[]⟩, .slice none 0 0, .slice none 0 0, .slice none 0 0] 63)).alloc (.cells #[.string ⟨#[]⟩, .slice none 0 0, .string ⟨#[]⟩, .int .i64 0, .int .i64 0, .string ⟨#[]⟩, .complex .f64 0 0, .string ⟨#[]⟩, .string ⟨#[]⟩, .slice none 0 0, .slice none 0 0, .slice none 0 0] 63)) w7 → w7.heap[w.heap.size + 1]? = some (.cells funz.toArray 63 (0, 0)) ∧ w7.heap[w.heap.size]? = some (.cells funz.toArray 63 (0, 0)) ∧ FunQ rb m st t (L + 1) w (.returned (.agg funz.toArray)) (w7.setRow w.heap.size funz.toArray)) := by
    rw [hid_iff]
    intro w7 hD7 hK7
    have hd7 := hds.call hD7 hK7
    refine ⟨?_, ?_, ?_⟩
    · have := hd7.cells
      unfold At at this
      rwa [List.nil_append, List.append_nil] at this
    · have := hd7.res
      unfold At at this
      rwa [List.nil_append, List.append_nil] at this
    · obtain ⟨j1, j2, j3⟩ := hd7.done
      refine ⟨_, tv, n, xs, rfl, rfl, by simpa using hall, ?_, j2, by omega, j3, fun _ c hc => ?_⟩
      · rw [hfp, orE_err (β := Unit)]
        exact j1
      · rw [hfp] at hc
        cases hc
  clear hb0 hA4 hA5 hTw hcut hkv hP1 hP3 hP4 hP3' hP4' p0 p1 p2 hkt hnk h ho hT2 hds k3 k3' hfp hc
  go_enter Try.func57, Try.ntmps57
  go_wp2_with fail
  refine hrf.mono ?_
  rintro e w7 ⟨rfl, hD7, hK7⟩
  obtain ⟨hrow7, hres7, hQ7⟩ := HQ.out w7 hD7 hK7
  clear hrf hD7 hK7 HQ b3 b11 b1
  go_wp2_with (first
    | (refine wpList_load_row rfl 63 (.tmp 5) rfl (w.heap.size + 1) rfl 63 funz.toArray (0, 0) _ hrow7 Try.underlying63 rfl hi12 ?_)
    | (refine wpList_store_row rfl 63 (.tmp 4) (.tmp 21) rfl w.heap.size funz.toArray rfl rfl 63 funz.toArray hres7 hi12 rfl hall ?_))
  (try simp only [Exit.inBlock, Exit.then])
  refine bodyPost_ret (results_cell_row rfl _ _ w.heap.size 63 funz.toArray (0, 0) _ rfl (setRow_heap w7 w.heap.size _ _ 63 (0, 0) hres7) Try.underlying63 rfl hi12) rfl ?_
  exact hQ7
set_option maxHeartbeats 2000000 in
set_option maxRecDepth 1000000 in
theorem readFun_few (F : Nat → Prop) (t : Tr) (tg tj : Nat) (w : World) (rb : Nat) (m : List UInt8) (tv : Value) (st : Option (Nat × Nat)) (hs : Sw st) (n : Nat) (xs : List Value) (h : DIs w rb m tv st) (ho : w.ownsRow (rb + 1) 72 3 tv n xs) (hst : st = none → n = 0) (hT : PT F w tg tj t) (hF : ∀ b, F b → b < rb) (htx : TxOk t) (hnd : nodes t ≤ 20000) (hm : m.length ≤ 8192) (L : Nat) (hL : 20000 ≤ L) (hL2 : L ≤ 90000) (hn : n ≤ L) (hlen : 5 ≤ t.kids.length) (hc : ¬ 6 < (kid t 2).kids.length) :
    Calls Try.prog 57 #[.pointer (some ⟨rb, 0, none⟩), .pointer (some ⟨tg, tj, none⟩)] w (FunQ rb m st t (L + 1) w) := by
  have hrb := h.lt
  obtain ⟨hFg, kv, hTw, p0, p1, p2, p3⟩ := hT
  obtain ⟨g1, kc, hkv, hFg1, hkc, hcut⟩ := hTw.cut (by omega)
  obtain ⟨g2, c2, hk2, hP1⟩ := hTw.kid 1 (by omega)
  rw [hkv] at hk2
  simp only [Value.slice.injEq, Option.some.injEq, Addr.mk.injEq, and_true, true_and] at hk2
  obtain ⟨rfl, rfl⟩ := hk2
  obtain ⟨g2, c2, hk2, hP2⟩ := hTw.kid 2 (by omega)
  rw [hkv] at hk2
  simp only [Value.slice.injEq, Option.some.injEq, Addr.mk.injEq, and_true, true_and] at hk2
  obtain ⟨rfl, rfl⟩ := hk2
  obtain ⟨g2, c2, hk2, hP3⟩ := hTw.kid 3 (by omega)
  rw [hkv] at hk2
  simp only [Value.slice.injEq, Option.some.injEq, Addr.mk.injEq, and_true, true_and] at hk2
  obtain ⟨rfl, rfl⟩ := hk2
  obtain ⟨g2, c2, hk2, hP4⟩ := hTw.kid 4 (by omega)
  rw [hkv] at hk2
  simp only [Value.slice.injEq, Option.some.injEq, Addr.mk.injEq, and_true, true_and] at hk2
  obtain ⟨rfl, rfl⟩ := hk2
  rw [hkv] at p3
  rw [Nat.one_mul] at hP1
  have hP3' : PT F w g1 12 (kid t 3) := hP3
  have hP4' : PT F w g1 16 (kid t 4) := hP4
  obtain ⟨_, kv2, hT2, _, _, _, k3⟩ := hP2
  have k3' : w.cell? ⟨g1, 11, none⟩ = some kv2 := k3
  obtain ⟨va1, vc1, hv1⟩ := hT2.shape
  subst hv1
  have hkt := ((TxOk_iff _).1 htx).2
  have ht1 := hkt (kid t 1) (kid_mem (by omega))
  have ht2 := hkt (kid t 2) (kid_mem (by omega))
  have ht3 := hkt (kid t 3) (kid_mem (by omega))
  have ht4 := hkt (kid t 4) (kid_mem (by omega))
  have hnk : ∀ i, i < t.kids.length → nodes (kid t i) ≤ 20000 := fun i hi => by
    have := mem_nodes (kid_mem (t := t) hi)
    have := nodes_eq t
    omega
  have hn2 := hnk 2 (by omega)
  have hn3 := hnk 3 (by omega)
  have hn4 := hnk 4 (by omega)
  have hkl2 := kids_nodes (kid t 2)
  have hb0 : Below w.heap.size w ((w.alloc (.cells #[.string ⟨#[]⟩, .slice none 0 0, .string ⟨#[]⟩, .int .i64 0, .int .i64 0, .string ⟨#[]⟩, .complex .f64 0 0, .string ⟨#[]⟩, .string ⟨#[]⟩, .slice none 0 0, .slice none 0 0, .slice none 0 0] 63)).alloc (.cells #[.string ⟨#[]⟩, .slice none 0 0, .string ⟨#[]⟩, .int .i64 0, .int .i64 0, .string ⟨#[]⟩, .complex .f64 0 0, .string ⟨#[]⟩, .string ⟨#[]⟩, .slice none 0 0, .slice none 0 0, .slice none 0 0] 63)) := ((Below.refl _ _).alloc (Nat.le_refl _) _).alloc (by simp) _
  have hA4 : At ((w.alloc (.cells #[.string ⟨#[]⟩, .slice none 0 0, .string ⟨#[]⟩, .int .i64 0, .int .i64 0, .string ⟨#[]⟩, .complex .f64 0 0, .string ⟨#[]⟩, .string ⟨#[]⟩, .slice none 0 0, .slice none 0 0, .slice none 0 0] 63)).alloc (.cells #[.string ⟨#[]⟩, .slice none 0 0, .string ⟨#[]⟩, .int .i64 0, .int .i64 0, .string ⟨#[]⟩, .complex .f64 0 0, .string ⟨#[]⟩, .string ⟨#[]⟩, .slice none 0 0, .slice none 0 0, .slice none 0 0] 63)) w.heap.size [] funz [] 63 := (Below.heap_alloc _ _ _ (by simp)).trans (at_fun w)
  have hA5 : At ((w.alloc (.cells #[.string ⟨#[]⟩, .slice none 0 0, .string ⟨#[]⟩, .int .i64 0, .int .i64 0, .string ⟨#[]⟩, .complex .f64 0 0, .string ⟨#[]⟩, .string ⟨#[]⟩, .slice none 0 0, .slice none 0 0, .slice none 0 0] 63)).alloc (.cells #[.string ⟨#[]⟩, .slice none 0 0, .string ⟨#[]⟩, .int .i64 0, .int .i64 0, .string ⟨#[]⟩, .complex .f64 0 0, .string ⟨#[]⟩, .string ⟨#[]⟩, .slice none 0 0, .slice none 0 0, .slice none 0 0] 63)) (w.heap.size + 1) [] funz [] 63 := by
    have := at_fun (w.alloc (.cells #[.string ⟨#[]⟩, .slice none 0 0, .string ⟨#[]⟩, .int .i64 0, .int .i64 0, .string ⟨#[]⟩, .complex .f64 0 0, .string ⟨#[]⟩, .string ⟨#[]⟩, .slice none 0 0, .slice none 0 0, .slice none 0 0] 63))
    rw [show (w.alloc (.cells #[.string ⟨#[]⟩, .slice none 0 0, .string ⟨#[]⟩, .int .i64 0, .int .i64 0, .string ⟨#[]⟩, .complex .f64 0 0, .string ⟨#[]⟩, .string ⟨#[]⟩, .slice none 0 0, .slice none 0 0, .slice none 0 0] 63)).heap.size = w.heap.size + 1 by simp] at this
    exact this
  have hds : DS F rb m tv st n xs funz funz 63 w ((w.alloc (.cells #[.string ⟨#[]⟩, .slice none 0 0, .string ⟨#[]⟩, .int .i64 0, .int .i64 0, .string ⟨#[]⟩, .complex .f64 0 0, .string ⟨#[]⟩, .string ⟨#[]⟩, .slice none 0 0, .slice none 0 0, .slice none 0 0] 63)).alloc (.cells #[.string ⟨#[]⟩, .slice none 0 0, .string ⟨#[]⟩, .int .i64 0, .int .i64 0, .string ⟨#[]⟩, .complex .f64 0 0, .string ⟨#[]⟩, .string ⟨#[]⟩, .slice none 0 0, .slice none 0 0, .slice none 0 0] 63)) := ⟨h.below hb0 hrb, owns_below ho hb0, hA5, hA4, Ev.of_below hb0, fun b hb => hb0.block b (by have := hF b hb; omega), by decide, hrb, hF⟩
  have b3 := hds.tcell hFg p3
  have b11 := hds.tcell hFg1 k3'
  have l1 : (1 : Int) < (t.kids.length : Int) := by omega
  have l2 : (2 : Int) < (t.kids.length : Int) := by omega
  have l3 : (3 : Int) < (t.kids.length : Int) := by omega
  have l4 : (4 : Int) < (t.kids.length : Int) := by omega
  have HF : Hid (funP m t = (nameP (kid t 1)).bind (fun n => (seqP ((kid t 2).kids.map (paramP m))).bind (fun ps => (readR m (kid t 3)).bind (fun y => (exprP m (kid t 4)).bind (fun b => .ok (n, ps, y, b)))))) := by rw [hid_iff]; unfold funP; rw [if_neg hc]
  have hc' : ¬ (6 : Int) < ((kid t 2).kids.length : Int) := by omega
  have hrn := readName_Bind F (kid t 1) g1 4 ((w.alloc (.cells #[.string ⟨#[]⟩, .slice none 0 0, .string ⟨#[]⟩, .int .i64 0, .int .i64 0, .string ⟨#[]⟩, .complex .f64 0 0, .string ⟨#[]⟩, .string ⟨#[]⟩, .slice none 0 0, .slice none 0 0, .slice none 0 0] 63)).alloc (.cells #[.string ⟨#[]⟩, .slice none 0 0, .string ⟨#[]⟩, .int .i64 0, .int .i64 0, .string ⟨#[]⟩, .complex .f64 0 0, .string ⟨#[]⟩, .string ⟨#[]⟩, .slice none 0 0, .slice none 0 0, .slice none 0 0] 63)) rb m tv st hds.rd hs (hP1.frame hds.fr) hF ((TxOk_iff _).1 ht1).1
  rw [suchP_bind] at hrn
  have hsw2 : Sw (orE st (nameP (kid t 1))) := sw_orE hs (fun e he => nameP_err he)
  have hsw3 : Sw (orE (orE st (nameP (kid t 1))) (seqP ((kid t 2).kids.map (paramP m)))) := sw_seq hsw2 (fun x e he => paramP_err he)
  have hsw4 : Sw (orE (orE (orE st (nameP (kid t 1))) (seqP ((kid t 2).kids.map (paramP m)))) (readR m (kid t 3))) := sw_orE hsw3 (fun e he => readR_err he)
  clear hb0 hA4 hA5 hTw hcut hkv hP1 hP3 hP4 p0 p1 p2 hkt hnk h ho k3 hc
  go_enter Try.func57, Try.ntmps57
  go_wp2_with fail
  refine hrn.mono ?_
  rintro e w2 ⟨rfl, hD2, hK2⟩
  have hd2 := hds.call hD2 hK2
  obtain ⟨c0, f0⟩ := hd2.cell 0 (v := .string (str [])) rfl
  have hd3 := hd2.set 0 (by decide) (.string (str (kid t 1).text))
  have b3' := hd3.tcell hFg p3
  have b11' := hd3.tcell hFg1 k3'
  have hsz3 := hd3.lt
  have hrp := readParams F _ (kid t 2).kids _ rb m tv _ hd3.rd hsw2 (hT2.sl.frame hd3.fr) hF (by omega) (fun y hy => ⟨((TxOk_iff _).1 ht2).2 y hy, by have := mem_nodes hy; have := nodes_eq (kid t 2); omega⟩) hm
  clear hrn hD2 hK2 hd2 hds b3 b11
  go_wp2_with fail
  generalize w2.setCell ⟨w.heap.size + 1, 0, none⟩ (.string (str (kid t 1).text)) = w3 at *
  refine hrp.mono ?_
  rintro e w4 ⟨v, rfl, ⟨va, vn, vc, rfl⟩, hps, hD4, hK4⟩
  have hd4 := hd3.call hD4 hK4
  obtain ⟨c1, f1⟩ := hd4.cell 1 (v := .slice none 0 0) rfl
  have hd5 := hd4.set 1 (by simp [funz]) (.slice va vn vc)
  have K5 : Kept (fun b => b = w.heap.size + 1) w4 (w4.setCell ⟨w.heap.size + 1, 1, none⟩ (.slice va vn vc)) := (Kept.refl (fun b => b = w.heap.size + 1) w4).setCell (p := ⟨w.heap.size + 1, 1, none⟩) (fun _ => rfl) _
  have HP5 : Hid (∀ ps, seqP ((kid t 2).kids.map (paramP m)) = .ok ps → Value.slice va vn vc = .slice (some ⟨w3.heap.size, 0, none⟩) (kid t 2).kids.length (kid t 2).kids.length ∧ At (w4.setCell ⟨w.heap.size + 1, 1, none⟩ (.slice va vn vc)) w3.heap.size [] (parc ps) [] 107) := by
    rw [hid_iff]
    intro ps e
    obtain ⟨e1, e2⟩ := hps ps e
    exact ⟨e1, e2.kept K5 (fun e => by omega)⟩
  have b5 := hd5.tcell hFg p3
  have hrt := readType F (kid t 3) g1 12 _ rb m tv _ hd5.rd hsw3 (hP3'.frame hd5.fr) hF ht3 hn3 hm
  clear hrp hps hD4 hK4 hd4 hd3 b3' b11' c0 f0 K5
  go_wp2_with fail
  generalize w4.setCell ⟨w.heap.size + 1, 1, none⟩ (.slice va vn vc) = w5 at *
  refine hrt.mono ?_
  rintro e w6 ⟨x, rfl, hx, hD6, hK6⟩
  have HX : Hid (∀ y, readR m (kid t 3) = .ok y → x = y) := hx
  have hd6 := hd5.call hD6 hK6
  obtain ⟨c2, f2⟩ := hd6.cell 2 (v := .string (str [])) rfl
  have hd7 := hd6.set 2 (by simp [funz]) (.string (str x))
  have K7 : Kept (fun b => b = w.heap.size + 1) w6 (w6.setCell ⟨w.heap.size + 1, 2, none⟩ (.string (str x))) := (Kept.refl (fun b => b = w.heap.size + 1) w6).setCell (p := ⟨w.heap.size + 1, 2, none⟩) (fun _ => rfl) _
  have HP7 : Hid (∀ ps, seqP ((kid t 2).kids.map (paramP m)) = .ok ps → Value.slice va vn vc = .slice (some ⟨w3.heap.size, 0, none⟩) (kid t 2).kids.length (kid t 2).kids.length ∧ At (w6.setCell ⟨w.heap.size + 1, 2, none⟩ (.string (str x))) w3.heap.size [] (parc ps) [] 107) := by
    rw [hid_iff]
    intro ps e
    obtain ⟨e1, e2⟩ := HP5.out ps e
    exact ⟨e1, (e2.kept hK6 (fun e => by omega)).kept K7 (fun e => by omega)⟩
  have b7 := hd7.tcell hFg p3
  have hre := readExprB F (kid t 4) g1 16 _ rb m tv _ hsw4 n xs hd7.rd hd7.own (fun e => hst (orE_none (orE_none (orE_none e).1).1).1) (hP4'.frame hd7.fr) hF ht4 hn4 hm L hL hL2 hn
  have hsz7 := hd7.lt
  clear hrt hx hD6 hK6 hd6 hd5 b5 c1 f1 HP5 K7
  go_wp2_with fail
  generalize w6.setCell ⟨w.heap.size + 1, 2, none⟩ (.string (str x)) = w8 at *
  refine hre.mono ?_
  rintro e w9 ⟨X6, tv6, n6, xs6, rfl, hX9, hD9, hown9, hn9, hE9, hok9⟩
  have hd9 := hd7.expr hD9 hown9 hE9
  have hA9 : At w9 (w.heap.size + 1) [.string (str (kid t 1).text), .slice va vn vc, .string (str x)] exz [] 63 := hd9.cells
  have hi9 : (Try.prog.info? 36).map (fun i => i.size) = some X6.length := by rw [sizeX, hX9.1]
  have hl9 : exz.length = X6.length := hX9.1.symm
  have hi12 : (Try.prog.info? 63).map (fun i => i.size) = some (.string (str (kid t 1).text) :: .slice va vn vc :: .string (str x) :: X6 : List Value).toArray.size := by rw [sizeFun, List.size_toArray, List.length_cons, List.length_cons, List.length_cons, hX9.1]
  have hall : ((.string (str (kid t 1).text) :: .slice va vn vc :: .string (str x) :: X6 : List Value).toArray.all fun v => v.oneCell') = true := by
    simp only [List.all_toArray, List.all_cons]
    rw [hX9.2]
    rfl
  have hsz12 : funz.toArray.size = (.string (str (kid t 1).text) :: .slice va vn vc :: .string (str x) :: X6 : List Value).toArray.size := by rw [List.size_toArray, List.size_toArray, List.length_cons, List.length_cons, List.length_cons, hX9.1]; rfl
  have HQ : Hid (∀ wz, At wz (w.heap.size + 1) [.string (str (kid t 1).text), .slice va vn vc, .string (str x)] X6 [] 63 → Kept (fun b => b = w.heap.size + 1) w9 wz → wz.heap[w.heap.size + 1]? = some (.cells (.string (str (kid t 1).text) :: .slice va vn vc :: .string (str x) :: X6 : List Value).toArray 63 (0, 0)) ∧ wz.heap[w.heap.size]? = some (.cells funz.toArray 63 (0, 0)) ∧
      FunQ rb m st t (L + 1) w (.returned (.agg (.string (str (kid t 1).text) :: .slice va vn vc :: .string (str x) :: X6 : List Value).toArray)) (wz.setRow w.heap.size (.string (str (kid t 1).text) :: .slice va vn vc :: .string (str x) :: X6 : List Value).toArray)) := by
    rw [hid_iff]
    intro wz hAz Kz
    have hdz : DS F rb m tv6 _ n6 xs6 (.string (str (kid t 1).text) :: .slice va vn vc :: .string (str x) :: X6 : List Value) funz 63 w wz := hd9.part (by unfold At at hAz ⊢; rw [hAz]; rfl) Kz
    refine ⟨?_, ?_, ?_⟩
    · have := hdz.cells
      unfold At at this
      rwa [List.nil_append, List.append_nil] at this
    · have := hdz.res
      unfold At at this
      rwa [List.nil_append, List.append_nil] at this
    · obtain ⟨j1, j2, j3⟩ := hdz.done
      refine ⟨_, tv6, n6, xs6, rfl, by rw [List.length_cons, List.length_cons, List.length_cons, hX9.1], by simpa using hall, ?_, j2, hn9, j3, fun hs0 c hc => ?_⟩
      · rw [HF.out, orE_quad]
        exact j1
      · rw [HF.out] at hc
        obtain ⟨a1, a2, a3, a4, e1, e2, e3, e4, rfl⟩ := quad_ok hc
        subst hs0
        have hnone : orE (orE (orE none (nameP (kid t 1))) (seqP ((kid t 2).kids.map (paramP m)))) (readR m (kid t 3)) = none := by rw [e1, e2, e3]; rfl
        obtain ⟨k1, kv, pv, av, k2, k3⟩ := hok9 hnone a4 e4
        obtain ⟨v1, v2⟩ := HP7.out a2 e2
        have hl2 := seqP_len e2
        rw [List.length_map] at hl2
        have Kr := setRow_kept wz w.heap.size (.string (str (kid t 1).text) :: .slice va vn vc :: .string (str x) :: X6 : List Value).toArray
        have hrl := hrb
        refine ⟨k1, .slice va vn vc, kv, pv, av, ?_, ?_, k3.two Kz Kr (by omega) (by omega) (by omega)⟩
        · rw [nameP_ok e1, ← HX.out a3 e3, k2]
        · generalize wz.setRow w.heap.size (.string (str (kid t 1).text) :: .slice va vn vc :: .string (str x) :: X6 : List Value).toArray = wr at Kr ⊢
          rw [v1, ← hl2]
          exact parc_txr (((v2.ev hE9 (by decide) (by omega) (by omega)).kept Kz (fun e => by omega)).kept Kr (fun e => by omega)) (by omega) (by decide)
  clear hre hd7 hD9 hown9 hE9 hok9 hd9 b7 c2 f2 HP7
  go_wp2_with (first
    | (refine wpList_store_part rfl 36 (.tmp 55) (.tmp 54) rfl (w.heap.size + 1) 3 X6 rfl rfl [.string (str (kid t 1).text), .slice va vn vc, .string (str x)] exz [] 63 hA9 rfl hl9 hi9 hX9.2 ?_; intro wz hAz Kz; obtain ⟨hrowz, hresz, hQz⟩ := HQ.out wz hAz Kz)
    | (refine wpList_load_row rfl 63 (.tmp 5) rfl (w.heap.size + 1) rfl 63 _ (0, 0) _ hrowz Try.underlying63 rfl hi12 ?_)
    | (refine wpList_store_row rfl 63 (.tmp 4) (.tmp 56) rfl w.heap.size (.string (str (kid t 1).text) :: .slice va vn vc :: .string (str x) :: X6 : List Value).toArray rfl rfl 63 funz.toArray hresz hi12 hsz12 hall ?_))
  (try simp only [Exit.inBlock, Exit.then])
  refine bodyPost_ret (results_cell_row rfl _ _ w.heap.size 63 _ (0, 0) _ rfl (setRow_heap wz w.heap.size _ _ 63 (0, 0) hresz) Try.underlying63 rfl hi12) rfl ?_
  exact hQz
theorem readFun (F : Nat → Prop) (t : Tr) (tg tj : Nat) (w : World) (rb : Nat) (m : List UInt8) (tv : Value) (st : Option (Nat × Nat)) (hs : Sw st) (n : Nat) (xs : List Value) (h : DIs w rb m tv st) (ho : w.ownsRow (rb + 1) 72 3 tv n xs) (hst : st = none → n = 0) (hT : PT F w tg tj t) (hF : ∀ b, F b → b < rb) (htx : TxOk t) (hnd : nodes t ≤ 20000) (hm : m.length ≤ 8192) (L : Nat) (hL : 20000 ≤ L) (hL2 : L ≤ 90000) (hn : n ≤ L) (hlen : 5 ≤ t.kids.length) :
    Calls Try.prog 57 #[.pointer (some ⟨rb, 0, none⟩), .pointer (some ⟨tg, tj, none⟩)] w (FunQ rb m st t (L + 1) w) := by
  by_cases hc : 6 < (kid t 2).kids.length
  · exact readFun_many F t tg tj w rb m tv st hs n xs h ho hT hF htx hnd L hn hlen hc
  · exact readFun_few F t tg tj w rb m tv st hs n xs h ho hst hT hF htx hnd hm L hL hL2 hn hlen hc
end Go.Proofs.Ytchfhkfepghfjaa

namespace Go.Proofs.Ytchfhkfepghfjaa
open Go.RowKit

theorem infoFd : (Try.prog.info? 63).map (fun i => (i.zero.map (fun z => z.cells.size), i.size, i.bytes)) = some (some 12, 12, 208) := by kernel_rfl
theorem step_fd {w : World} {ops : Array Oper} {o : Oper} {a : Act} {K : Act → World → Prop} {Q : Exit → Act → World → Prop} {E : Prop} (hgd : o.guard = none) (s x : Operand)
    (ho : o.op = .call { callee := .builtin .append, args := #[s, x], argTypes := #[57, 57] })
    (B : Nat) (v : Value) (n : Nat) (xs : List Value) (hs : a.eval s = v) (hown : w.ownsRow B 63 12 v n xs)
    (ad : Addr) (c : Nat) (news : List Value) (hx : a.eval x = .slice (some ad) 1 c) (hl : news.length = 12) (hnews : ∀ j u, news[j]? = some u → w.cell? (ad.add j) = some u) (h1 : ∀ u ∈ news, u.oneCell' = true)
    (hlen : n ≤ 100000) (hB : B ≤ w.heap.size)
    (h : ∀ g cap w', w'.ownsRow B 63 12 (.slice (some ⟨g, 0, none⟩) (n + 1) cap) (n + 1) (xs ++ news) → w.grownBy w' v.ownBlock → K (a.put o.dst (.slice (some ⟨g, 0, none⟩) (n + 1) cap)) w') :
    if Region.wanted o (yielded ops a.tmps) = true then Oper.wp Try.prog o a w K Q else E := by
  obtain ⟨i, z, hi, hz, k1, k2, k3⟩ := info_z infoFd
  exact step_append_lies w hgd s x 57 ho B 63 i z 12 208 Try.underlying57 hi hz k1 k2 k3 (by decide) v n xs hs hown ad 1 c news hx hl hnews h1 (by decide) (by unfold maxLen; omega) (by omega) hB _ rfl (fun g cap w' q1 q2 _ _ => h g cap w' q1 q2)
theorem fun_len {t : Tr} (h : itemX t = funK) : t.kids.length = 5 := by
  unfold itemX at h
  split at h
  · cases h
  · split at h
    · cases h
    · split at h
      · cases h
      · split at h
        · cases h
        · split at h
          · cases h
          · split at h
            · rename_i h5
              exact h5.2.2.1
            · cases h
/-- A row of another type than parts stays. -/
theorem own_ev {rb B T sz n : Nat} {u v : World} {x : Value} {xs : List Value} (h : u.ownsRow B T sz x n xs) (k : Ev rb rb u v) (hT : T ≠ 72) (hB : rb < B) : v.ownsRow B T sz x n xs := by
  refine Kept.own k h (fun g e hS => ?_)
  rcases h.2 with ⟨rfl, _⟩ | ⟨g', cap, cur, rfl, hb, hg, _⟩
  · simp [Value.ownBlock] at e
  · simp only [Value.ownBlock, Option.some.injEq] at e
    subst e
    rcases hS with e | ⟨_, cur', fz, e⟩ | e
    · omega
    · rw [hg] at e
      simp only [Option.some.injEq, Obj.cells.injEq] at e
      exact hT e.2.1
    · omega
theorem own_row {B T sz n : Nat} {u : World} {x : Value} {xs : List Value} (h : u.ownsRow B T sz x n xs) {k : Nat} (hk : x.ownBlock = some k) : B ≤ k ∧ ∃ cur, u.heap[k]? = some (.cells cur T (0, 0)) := by
  rcases h.2 with ⟨rfl, _⟩ | ⟨g', cap, cur, rfl, hb, hg, _⟩
  · simp [Value.ownBlock] at hk
  · simp only [Value.ownBlock, Option.some.injEq] at hk
    subst hk
    exact ⟨hb, cur, hg⟩
theorem two_types {u : World} {k : Nat} {c1 c2 : Array Value} {T1 T2 : Nat} {f1 f2 : Nat × Nat} (h1 : u.heap[k]? = some (.cells c1 T1 f1)) (h2 : u.heap[k]? = some (.cells c2 T2 f2)) : T1 = T2 := by
  rw [h1] at h2
  simp only [Option.some.injEq, Obj.cells.injEq] at h2
  exact h2.2.1
/-- Blocks of other types stay. -/
def StayF (rb d : Nat) (w w' : World) : Prop := ∀ g cs T, w.heap[g]? = some (.cells cs T (0, 0)) → T ≠ 72 → T ≠ 63 → g ≠ rb → g ≠ d → w'.heap[g]? = some (.cells cs T (0, 0))
theorem StayF.trans {rb d : Nat} {u v w : World} (h : StayF rb d u v) (k : StayF rb d v w) : StayF rb d u w := fun g cs T h1 h2 h3 h4 h5 => k g cs T (h g cs T h1 h2 h3 h4 h5) h2 h3 h4 h5
def ItemF (rb d : Nat) (m : List UInt8) (L : List Value) (k : Nat) (xs : List Value) (nm : List UInt8) (w : World) (e : Ending) (w' : World) : Prop :=
  e = .returned (.tuple #[]) ∧ ∃ tv' fv' X, DIs w' rb m tv' none ∧ w'.ownsRow (rb + 1) 72 3 tv' 0 [] ∧ At w' d [] (L ++ [fv']) [] 59 ∧ w'.ownsRow (rb + 1) 63 12 fv' (k + 1) (xs ++ X) ∧ X[0]? = some (.string (str nm)) ∧ X.length = 12 ∧ Below rb w w' ∧ StayF rb d w w'
/-- Behind readFun, the new row and the append: what is left. -/
theorem item_end {rb d k n : Nat} {m nm : List UInt8} {v1 v2 v3 v4 v5 fv fv' tv' : Value} {xs X : List Value} {w w2 w3 : World} (hrd : rb < d) (hD2 : DIs w2 rb m tv' none) (ho2 : w2.ownsRow (rb + 1) 72 3 tv' 0 []) (hE : Ev rb rb w w2)
    (hrb : rb < w.heap.size) (hA : At w d [] [v1, v2, v3, v4, v5, fv] [] 59) (hof : w.ownsRow (rb + 1) 63 12 fv k xs) (o : Obj) (hX0 : X[0]? = some (.string (str nm))) (hXl : X.length = 12)
    (ho3 : w3.ownsRow (rb + 1) 63 12 fv' (k + 1) (xs ++ X)) (hg : ((w2.drewN n).alloc o).grownBy w3 fv.ownBlock) :
    w3.cell? ⟨d, 5, none⟩ = some fv ∧ w3.frozen? ⟨d, 5, none⟩ = false ∧ ItemF rb d m [v1, v2, v3, v4, v5] k xs nm w (.returned (.tuple #[])) (w3.setCell ⟨d, 5, none⟩ fv') := by
  have hA2 := hA.ev hE (by decide) (by omega) (by omega)
  have hof2 := own_ev hof hE (by decide) (by omega)
  have k0 : Kept (fun b => fv.ownBlock = some b) w2 w3 := ((kept_drewN (Kept.refl (fun b => fv.ownBlock = some b) w2) n).alloc o).grown hg (fun k e _ => e)
  have hnd : ¬ fv.ownBlock = some d := fun e => by
    obtain ⟨_, cur, hc⟩ := own_row hof2 e
    exact absurd (two_types hc hA2) (by decide)
  have hnr : ¬ fv.ownBlock = some rb := fun e => by
    have := (own_row hof2 e).1
    omega
  have hA3 := hA2.kept k0 hnd
  have hD3 := hD2.kept k0 hnr
  have ho4 := k0.own ho2 (fun g e h => by
    obtain ⟨_, cur, hc⟩ := own_row ho2 e
    obtain ⟨_, cur', hc'⟩ := own_row hof2 h
    exact absurd (two_types hc hc') (by decide))
  have hA4 := hA3.set 5 (by simp) fv'
  rw [List.length_nil, Nat.zero_add] at hA4
  have k1 : Kept (fun b => b = d) w3 (w3.setCell ⟨d, 5, none⟩ fv') := (Kept.refl (fun b => b = d) w3).setCell (p := ⟨d, 5, none⟩) (fun _ => rfl) _
  have hc := hA3.cell (j := 5) (v := fv) rfl
  rw [List.length_nil, Nat.zero_add] at hc
  refine ⟨hc, hA3.frozen 5, rfl, tv', fv', X, hD3.kept k1 (fun e => by omega), k1.own ho4 (fun g e h => ?_), hA4, k1.own ho3 (fun g e h => ?_), hX0, hXl, ?_⟩
  · obtain ⟨_, cur, hc⟩ := own_row ho4 e
    rw [h] at hc
    exact absurd (two_types hc hA3) (by decide)
  · obtain ⟨_, cur, hc⟩ := own_row ho3 e
    rw [h] at hc
    exact absurd (two_types hc hA3) (by decide)
  · have b1 : Below rb w w2 := Ev.low hE (by omega) (fun k hk h => by rcases h with h | h | h <;> omega)
    have b2 : Below rb w2 w3 := k0.below (by have := hE.size; omega) (fun k hk e => by have := (own_row hof2 e).1; omega)
    have b3 : Below rb w3 (w3.setCell ⟨d, 5, none⟩ fv') := k1.below (by have := hE.size; have := k0.size; omega) (fun k hk e => by omega)
    refine ⟨(b1.trans b2).trans b3, fun g cs T h1 h2 h3 h4 h5 => ?_⟩
    have q1 : w2.heap[g]? = some (.cells cs T (0, 0)) := (hE.block g (Array.getElem?_eq_some_iff.1 h1).1 (by
      rintro (e | ⟨_, cur, fz, e⟩ | e)
      · exact h4 e
      · exact h2 (two_types h1 e)
      · exact h4 e)).trans h1
    have q2 : w3.heap[g]? = some (.cells cs T (0, 0)) := (k0.block g (Array.getElem?_eq_some_iff.1 q1).1 (fun e => by
      obtain ⟨_, cur, hc⟩ := own_row hof2 e
      exact h3 (two_types q1 hc))).trans q1
    exact (k1.block g (Array.getElem?_eq_some_iff.1 q2).1 h5).trans q2
theorem cells12 {X : List Value} (h : X.length = 12) : ∃ x0 x1 x2 x3 x4 x5 x6 x7 x8 x9 x10 x11, X = [x0, x1, x2, x3, x4, x5, x6, x7, x8, x9, x10, x11] := by
  match X, h with
  | [x0, x1, x2, x3, x4, x5, x6, x7, x8, x9, x10, x11], _ => exact ⟨x0, x1, x2, x3, x4, x5, x6, x7, x8, x9, x10, x11, rfl⟩
theorem ev_of_drew {rb d n : Nat} {u v : World} (h : Ev rb d (u.drewN n) v) : Ev rb d u v := ⟨h.os, h.tape, h.output, h.size, h.block⟩
theorem at_five {rb d : Nat} {v1 v2 v3 v4 v5 fv : Value} {w w2 : World} (hA : At w d [] [v1, v2, v3, v4, v5, fv] [] 59) (hE : Ev rb rb w w2) (hrd : rb < d) : w2.cell? ⟨d, 5, none⟩ = some fv := by
  have hc := (hA.ev hE (by decide) (by omega) (by omega)).cell (j := 5) (v := fv) rfl
  rw [List.length_nil, Nat.zero_add] at hc
  exact hc
theorem own_new {rb k : Nat} {fv : Value} {xs : List Value} {w w2 : World} (h : w.ownsRow (rb + 1) 63 12 fv k xs) (hE : Ev rb rb w w2) (o : Obj) : (w2.alloc o).ownsRow (rb + 1) 63 12 fv k xs :=
  owns_below (own_ev h hE (by decide) (by omega)) ((Below.refl _ _).alloc (Nat.le_refl _) _)
theorem cell_new {w : World} {p : Addr} {v : Value} (h : w.cell? p = some v) (o : Obj) : (w.alloc o).cell? p = some v := (World.cell?_of_block (Below.heap_alloc _ _ _ (World.block_lt_of_cell? w p h))).trans h

theorem fun_open {rb L : Nat} {m : List UInt8} {t : Tr} {u w2 : World} {e : Ending} {c : List UInt8 × List (List UInt8 × List UInt8) × List UInt8 × Ex} (hq : FunQ rb m none t L u e w2) (hp : funP m t = .ok c) :
    ∃ x1 x2 x3 x4 x5 x6 x7 x8 x9 x10 x11 tv', e = .returned (.agg #[.string (str c.1), x1, x2, x3, x4, x5, x6, x7, x8, x9, x10, x11]) ∧ (∀ v ∈ [.string (str c.1), x1, x2, x3, x4, x5, x6, x7, x8, x9, x10, x11], v.oneCell' = true) ∧ DIs w2 rb m tv' none ∧ w2.ownsRow (rb + 1) 72 3 tv' 0 [] ∧ Ev rb rb u w2 := by
  obtain ⟨X, tv', n, xs, rfl, hl, hall, hD, ho, hn, hE, hok⟩ := hq
  obtain ⟨hn0, qv, kv, pv, av, hX, _⟩ := hok rfl c hp
  obtain ⟨x0, x1, x2, x3, x4, x5, x6, x7, x8, x9, x10, x11, rfl⟩ := cells12 hl
  subst hn0
  have hx : xs = [] := List.eq_nil_of_length_eq_zero (by have := ho.1; omega)
  subst hx
  rw [hp] at hD
  obtain rfl : x0 = .string (str c.1) := (List.cons.inj hX).1
  exact ⟨x1, x2, x3, x4, x5, x6, x7, x8, x9, x10, x11, tv', rfl, fun v hv => List.all_eq_true.1 hall v hv, hD, ho, hE⟩
set_option maxHeartbeats 4000000 in
set_option maxRecDepth 1000000 in
theorem readItem_fun (F : Nat → Prop) (t : Tr) (tg tj : Nat) (w : World) (rb d : Nat) (m : List UInt8) (tv : Value) (h : DIs w rb m tv none) (ho : w.ownsRow (rb + 1) 72 3 tv 0 []) (v1 v2 v3 v4 v5 fv : Value) (k : Nat) (xs : List Value)
    (hA : At w d [] [v1, v2, v3, v4, v5, fv] [] 59) (hrd : rb < d) (hof : w.ownsRow (rb + 1) 63 12 fv k xs) (hk : k ≤ 20000) (hT : PT F w tg tj t) (hF : ∀ b, F b → b < rb) (htx : TxOk t) (hnd : nodes t ≤ 20000) (hm : m.length ≤ 8192)
    (hi : itemX t = funK) (c : List UInt8 × List (List UInt8 × List UInt8) × List UInt8 × Ex) (hp : funP m t = .ok c) :
    Calls Try.prog 39 #[.pointer (some ⟨rb, 0, none⟩), .pointer (some ⟨tg, tj, none⟩), .pointer (some ⟨d, 0, none⟩)] w (ItemF rb d m [v1, v2, v3, v4, v5] k xs c.1 w) := by
  have hrb := h.lt
  have hdl := hA.lt
  have hit : Calls Try.prog 54 #[.pointer (some ⟨tg, tj, none⟩)] w fun e w' => ∃ n, e = .returned (.string ⟨#[102, 117, 110]⟩) ∧ w' = w.drewN n := by
    have := itemOf F t tg tj w hT hnd
    rw [hi] at this
    exact this
  have hrf : ∀ u : World, u.heap = w.heap → Calls Try.prog 57 #[.pointer (some ⟨rb, 0, none⟩), .pointer (some ⟨tg, tj, none⟩)] u (FunQ rb m none t (20000 + 1) u) := by
    intro u hu
    have hD : DIs u rb m tv none := by unfold DIs; rw [hu]; exact h
    have hO : u.ownsRow (rb + 1) 72 3 tv 0 [] := by
      refine ⟨ho.1, ?_⟩
      rcases ho.2 with h1 | ⟨g, cap, cur, h1, h2, h3, h4⟩
      · exact .inl h1
      · exact .inr ⟨g, cap, cur, h1, h2, by rw [hu]; exact h3, h4⟩
    exact readFun F t tg tj u rb m tv none (fun e he => by cases he) 0 [] hD hO (fun _ => rfl) (hT.frame (fun b _ => by rw [hu])) hF htx hnd hm 20000 (by omega) (by omega) (by omega) (by have := fun_len hi; omega)
  have c5 := hA.cell (j := 5) (v := fv) rfl
  rw [List.length_nil, Nat.zero_add] at c5
  have HP : Hid (funP m t = .ok c) := hp
  have HA : Hid (At w d [] [v1, v2, v3, v4, v5, fv] [] 59) := hA
  have HO : Hid (w.ownsRow (rb + 1) 63 12 fv k xs) := hof
  have hfv : ∃ fa fn fc, fv = .slice fa fn fc := by
    rcases hof.2 with ⟨rfl, _⟩ | ⟨g, cap, cur, rfl, _⟩
    · exact ⟨none, 0, 0, rfl⟩
    · exact ⟨_, _, _, rfl⟩
  obtain ⟨fa, fn, fc, rfl⟩ := hfv
  clear h ho hT htx hnd hi hp hA hof hF hm
  go_enter Try.func39, Try.ntmps39
  go_wp2_with fail
  refine hit.mono ?_
  rintro e w1 ⟨n, rfl, rfl⟩
  clear hit
  go_wp2_with fail
  go_region_law (first
    | (go_simp; go_at_call 57; refine (hrf (w.drewN _) rfl).mono ?_; rintro e w2 hq; obtain ⟨x1, x2, x3, x4, x5, x6, x7, x8, x9, x10, x11, tv', rfl, h1, hD2, ho2, hE2⟩ := fun_open hq HP.out; have hE3 : Ev rb rb w w2 := ev_of_drew hE2; have c5' := at_five HA.out hE3 hrd; have c5a := cell_new c5' (.cells #[.string (str c.1), x1, x2, x3, x4, x5, x6, x7, x8, x9, x10, x11] 63); have hoA := own_new HO.out hE3 (.cells #[.string (str c.1), x1, x2, x3, x4, x5, x6, x7, x8, x9, x10, x11] 63); have hN := cells_new w2 [.string (str c.1), x1, x2, x3, x4, x5, x6, x7, x8, x9, x10, x11] 63; have hB2 : rb + 1 ≤ (w2.alloc (.cells #[.string (str c.1), x1, x2, x3, x4, x5, x6, x7, x8, x9, x10, x11] 63)).heap.size := (by have := hE3.size; simp; omega))
    | (refine step_fd (by rfl) (.tmp 102) (.tmp 106) (by rfl) (rb + 1) _ _ _ (by rfl) hoA ⟨w2.heap.size, 0, none⟩ 1 [.string (str c.1), x1, x2, x3, x4, x5, x6, x7, x8, x9, x10, x11] (by rfl) (by rfl) hN h1 (by omega) hB2 ?_; intro gq cap w3 ho3 hg3; obtain ⟨r1, r2, hQ⟩ := item_end (n := 0) hrd hD2 ho2 hE3 hrb HA.out HO.out _ (by rfl) (by rfl) ho3 hg3))
  all_goals (
    clear hoA hN hg3 ho3 hD2 ho2 hE2 hE3 hrf
    go_wp2
    go_end0
    exact hQ)
end Go.Proofs.Ytchfhkfepghfjaa
