/-
  The package's kindOf and crowded; allAtoms, over a part of a row of trees.
  And: Expressions and modules in memory. The reader's stack of what is left to be read, and why it comes to what the chapter says: a machine over worlds, each step of which is one call.
-/
import Derived.Test.YtchfhkfepghfjaaPfAp
import Derived.Deep.LoopGhost
import Derived.Test.YtchfhkfepghfjaaPfAg
import Derived.Test.YtchfhkfepghfjaaPfAh
import Derived.Test.YtchfhkfepghfjaaPfAl
import Derived.Laws.Rows
import Derived.Test.YtchfhkfepghfjaaPfAj
namespace Go.Proofs.Ytchfhkfepghfjaa
open Go.RowKit

theorem kids_nodes (t : Tr) : t.kids.length + 1 ≤ nodes t := by
  have := nodes_eq t
  have := sum_nodes t.kids
  omega
def nZ (r : Int × Int × Bool) : Prop := r.2.2 = false → r = (0, 0, false)
theorem nZ_ite {c : Prop} [Decidable c] {a b : Int × Int × Bool} (ha : nZ a) (hb : nZ b) : nZ (if c then a else b) := by split <;> assumption
theorem nZ_no : nZ (0, 0, false) := fun _ => rfl
theorem right3_no (p q : Int) : nZ (nRight3 p q) := by
  unfold nRight3
  exact nZ_ite (fun h => by cases h) nZ_no
theorem num_no (s : ByteArray) : nZ (nParse nNum s) := by
  have ht : ∀ p m x, nZ (nTail nNum p m x) := fun p m x => nZ_ite nZ_no (nZ_ite (right3_no _ _) nZ_no)
  have hr : ∀ p x, nZ (nRest nNum p x) := fun p x => nZ_ite (right3_no _ _) (nZ_ite (right3_no _ _) (nZ_ite (ht _ _ _) (nZ_ite (ht _ _ _) nZ_no)))
  exact nZ_ite nZ_no (hr _ _)
theorem numP_parse (s : List UInt8) (u : World) (hs : s.length ≤ 8192) : Calls Try.prog 32 #[.string (str s)] u fun e w' => e = .returned (.tuple #[.complex .f64 (floatOfInt .f64 ((numP s).getD (0, 0)).1) (floatOfInt .f64 ((numP s).getD (0, 0)).2), .bool (numP s).isSome]) ∧ ∃ n, w' = u.drewN n := by
  refine (Num.parse (str s) (by rw [str_size]; omega) u).mono ?_
  rintro e w' ⟨rfl, h⟩
  refine ⟨?_, h⟩
  rw [Num.parseAB]
  have e1 : Num.parseW Num.numB (str s) = nParse nNum (str s) := rfl
  rw [e1]
  unfold numP
  cases h2 : (nParse nNum (str s)).2.2
  · have h0 : ∀ r : Int × Int × Bool, r = nParse nNum (str s) → r.2.2 = false → r = (0, 0, false) := by
      intro r hr h3
      subst hr
      exact num_no _ h3
    rw [h0 _ rfl h2]
    rfl
  · rfl
set_option maxHeartbeats 2000000 in
set_option maxRecDepth 1000000 in
theorem kindOf (F : Nat → Prop) (t : Tr) (g o : Nat) (w : World) (h : PT F w g o t) (htx : TxOk t) : Calls Try.prog 30 #[.pointer (some ⟨g, o, none⟩)] w (NumD (kindX t) w) := by
  have hko := kindOpen F t g o w h htx
  have hl := ((TxOk_iff _).1 htx).1
  obtain ⟨hFg, kv, hT, q0, q1, q2, q3⟩ := h
  clear hT q3 q1 htx
  have hE : ∀ a b : Nat, ((a : Int) == (b : Int)) = decide (a = b) := fun a b => by rw [Bool.eq_iff_iff, beq_iff_eq, decide_eq_true_iff]; omega
  have e4 := hE t.kind 4
  have e1 := hE t.kind 1
  have e3 := hE t.kind 3
  clear hE
  by_cases h4 : t.kind = 4
  · have HR : Hid (kindX t = 2) := by simp [hid_iff, kindX, h4]
    rw [decide_eq_true h4] at e4
    clear h4 e1 e3 hko
    go_enter Try.func30, Try.ntmps30
    go_wp2
    go_ret
    exact ⟨0, by rw [HR.out]; rfl, rfl⟩
  rw [decide_eq_false h4] at e4
  by_cases h1 : t.kind = 1
  · have HR : Hid (kindX t = kindO t) := by simp [hid_iff, kindX, h1]
    rw [decide_eq_true h1] at e1
    clear h1 e3 h4
    generalize kindO t = k at *
    go_enter Try.func30, Try.ntmps30
    go_wp2_with (go_at_call 45; refine hko.mono ?_; rintro e w1 ⟨n, rfl, rfl⟩)
    go_ret
    exact ⟨n, by rw [HR.out]; rfl, rfl⟩
  rw [decide_eq_false h1] at e1
  by_cases h3 : t.kind = 3
  · have HR : Hid (kindX t = if (numP t.text).isSome = true then 1 else if pathV t.text = true then 3 else 0) := by simp [hid_iff, kindX, h3]
    rw [decide_eq_true h3] at e3
    have hn := fun u => numP_parse t.text u hl
    have hv := fun u => toV t.text u hl
    clear h1 h3 h4 hko
    generalize floatOfInt .f64 ((numP t.text).getD (0, 0)).1 = x at *
    generalize floatOfInt .f64 ((numP t.text).getD (0, 0)).2 = y at *
    generalize (numP t.text).isSome = b at *
    generalize pathV t.text = c at *
    cases b
    · rw [if_neg Bool.false_ne_true] at HR
      cases c
      · rw [if_neg Bool.false_ne_true] at HR
        go_enter Try.func30, Try.ntmps30
        go_wp2_with (first
          | (go_at_call 32; refine (hn _).mono ?_; rintro e w1 ⟨rfl, n, rfl⟩)
          | (go_at_call 46; refine (hv _).mono ?_; rintro e w1 ⟨n2, rfl, rfl⟩))
        go_ret
        exact ⟨_, by rw [HR.out]; rfl, rfl⟩
      · rw [if_pos rfl] at HR
        go_enter Try.func30, Try.ntmps30
        go_wp2_with (first
          | (go_at_call 32; refine (hn _).mono ?_; rintro e w1 ⟨rfl, n, rfl⟩)
          | (go_at_call 46; refine (hv _).mono ?_; rintro e w1 ⟨n2, rfl, rfl⟩))
        go_ret
        exact ⟨_, by rw [HR.out]; rfl, rfl⟩
    · rw [if_pos rfl] at HR
      go_enter Try.func30, Try.ntmps30
      go_wp2_with (go_at_call 32; refine (hn _).mono ?_; rintro e w1 ⟨rfl, n, rfl⟩)
      go_ret
      exact ⟨n, by rw [HR.out]; rfl, rfl⟩
  · have HR : Hid (kindX t = 0) := by simp [hid_iff, kindX, h1, h3, h4]
    rw [decide_eq_false h3] at e3
    clear h1 h3 h4 hko
    go_enter Try.func30, Try.ntmps30
    go_wp2
    go_ret
    exact ⟨0, by rw [HR.out]; rfl, rfl⟩
set_option maxHeartbeats 1000000 in
set_option maxRecDepth 1000000 in
theorem crowded_7 (F : Nat → Prop) (t : Tr) (g o : Nat) (w : World) (h : PT F w g o t) (hn : nodes t ≤ 20000) : Calls Try.prog 31 #[.pointer (some ⟨g, o, none⟩), .int .i64 7] w (Pu (.bool (crowdX t 7)) w) := by
  obtain ⟨hFg, kv, hT, q0, q1, q2, q3⟩ := h
  obtain ⟨ka, kc, hks⟩ := hT.shape
  have hlen := kids_nodes t
  rw [hks] at q3
  have HR : Hid (crowdX t 7 = decide ((32 : Int) < (t.kids.length : Int) - 2)) := by
    rw [hid_iff, Bool.eq_iff_iff]
    simp [crowdX]
    omega
  have hb : t.kids.length ≤ 20000 := by omega
  clear hT hks hn hlen q0 q1 q2
  generalize t.kids.length = n at *
  go_enter Try.func31, Try.ntmps31
  go_wp2
  go_ret
  exact ⟨by rw [HR.out]; rfl, rfl⟩
set_option maxHeartbeats 1000000 in
set_option maxRecDepth 1000000 in
theorem crowded_9 (F : Nat → Prop) (t : Tr) (g o : Nat) (w : World) (h : PT F w g o t) (hn : nodes t ≤ 20000) : Calls Try.prog 31 #[.pointer (some ⟨g, o, none⟩), .int .i64 9] w (Pu (.bool (crowdX t 9)) w) := by
  obtain ⟨hFg, kv, hT, q0, q1, q2, q3⟩ := h
  obtain ⟨ka, kc, hks⟩ := hT.shape
  have hlen := kids_nodes t
  rw [hks] at q3
  have HR : Hid (crowdX t 9 = decide ((6 : Int) < (t.kids.length : Int) - 2)) := by
    rw [hid_iff, Bool.eq_iff_iff]
    simp [crowdX]
    omega
  have hb : t.kids.length ≤ 20000 := by omega
  clear hT hks hn hlen q0 q1 q2
  generalize t.kids.length = n at *
  go_enter Try.func31, Try.ntmps31
  go_wp2
  go_ret
  exact ⟨by rw [HR.out]; rfl, rfl⟩
set_option maxHeartbeats 1000000 in
set_option maxRecDepth 1000000 in
theorem crowded_8 (F : Nat → Prop) (t : Tr) (g o : Nat) (w : World) (h : PT F w g o t) (hn : nodes t ≤ 20000) : Calls Try.prog 31 #[.pointer (some ⟨g, o, none⟩), .int .i64 8] w (Pu (.bool (crowdX t 8)) w) := by
  obtain ⟨hFg, kv, hT, q0, q1, q2, q3⟩ := h
  obtain ⟨ka, kc, hks⟩ := hT.shape
  have hlen := kids_nodes t
  rw [hks] at q3
  have HR : Hid (crowdX t 8 = decide ((4 : Int) < (t.kids.length : Int) - 1)) := by
    rw [hid_iff, Bool.eq_iff_iff]
    simp [crowdX]
    omega
  have hb : t.kids.length ≤ 20000 := by omega
  clear hT hks hn hlen q0 q1 q2
  generalize t.kids.length = n at *
  go_enter Try.func31, Try.ntmps31
  go_wp2
  go_ret
  exact ⟨by rw [HR.out]; rfl, rfl⟩
set_option maxHeartbeats 1000000 in
set_option maxRecDepth 1000000 in
theorem crowded_11 (F : Nat → Prop) (t : Tr) (g o : Nat) (w : World) (h : PT F w g o t) (hn : nodes t ≤ 20000) : Calls Try.prog 31 #[.pointer (some ⟨g, o, none⟩), .int .i64 11] w (Pu (.bool (crowdX t 11)) w) := by
  obtain ⟨hFg, kv, hT, q0, q1, q2, q3⟩ := h
  obtain ⟨ka, kc, hks⟩ := hT.shape
  have hlen := kids_nodes t
  rw [hks] at q3
  have HR : Hid (crowdX t 11 = decide ((6 : Int) < (t.kids.length : Int) - 2)) := by
    rw [hid_iff, Bool.eq_iff_iff]
    simp [crowdX]
    omega
  have hb : t.kids.length ≤ 20000 := by omega
  clear hT hks hn hlen q0 q1 q2
  generalize t.kids.length = n at *
  go_enter Try.func31, Try.ntmps31
  go_wp2
  go_ret
  exact ⟨by rw [HR.out]; rfl, rfl⟩
set_option maxHeartbeats 1000000 in
set_option maxRecDepth 1000000 in
theorem crowded_12 (F : Nat → Prop) (t : Tr) (g o : Nat) (w : World) (h : PT F w g o t) (hn : nodes t ≤ 20000) : Calls Try.prog 31 #[.pointer (some ⟨g, o, none⟩), .int .i64 12] w (Pu (.bool (crowdX t 12)) w) := by
  obtain ⟨hFg, kv, hT, q0, q1, q2, q3⟩ := h
  obtain ⟨ka, kc, hks⟩ := hT.shape
  have hlen := kids_nodes t
  rw [hks] at q3
  have HR : Hid (crowdX t 12 = decide ((6 : Int) < (t.kids.length : Int) - 1)) := by
    rw [hid_iff, Bool.eq_iff_iff]
    simp [crowdX]
    omega
  have hb : t.kids.length ≤ 20000 := by omega
  clear hT hks hn hlen q0 q1 q2
  generalize t.kids.length = n at *
  go_enter Try.func31, Try.ntmps31
  go_wp2
  go_ret
  exact ⟨by rw [HR.out]; rfl, rfl⟩
set_option maxHeartbeats 1000000 in
set_option maxRecDepth 1000000 in
theorem crowded_10 (F : Nat → Prop) (t : Tr) (g o : Nat) (w : World) (h : PT F w g o t) (hl : 1 < t.kids.length) : Calls Try.prog 31 #[.pointer (some ⟨g, o, none⟩), .int .i64 10] w (Pu (.bool (crowdX t 10)) w) := by
  obtain ⟨hFg, kv, hT, q0, q1, q2, q3⟩ := h
  obtain ⟨g1, cap1, hk1, hF1, kv1, hT1, d0, d1, d2, d3⟩ := hT.kid 1 hl
  obtain ⟨ka, kc, hks⟩ := hT1.shape
  rw [hk1] at q3
  rw [hks] at d3
  have hl' : (1 : Int) < (t.kids.length : Int) := by omega
  have HR : Hid (crowdX t 10 = decide ((6 : Int) < ((kid t 1).kids.length : Int))) := by
    rw [hid_iff, Bool.eq_iff_iff]
    simp [crowdX]
    omega
  simp only [Nat.one_mul] at d3
  clear hT hks q0 q1 q2 hT1 hk1 d0 d1 d2 hl
  generalize t.kids.length = n at *
  generalize (kid t 1).kids.length = n1 at *
  go_enter Try.func31, Try.ntmps31
  go_wp2
  go_ret
  exact ⟨by rw [HR.out]; rfl, rfl⟩
set_option maxHeartbeats 1000000 in
set_option maxRecDepth 1000000 in
theorem crowded_1 (v : Value) (w : World) : Calls Try.prog 31 #[v, .int .i64 1] w (Pu (.bool false) w) := by
  go_enter Try.func31, Try.ntmps31
  go_wp2
  go_ret
  exact ⟨rfl, rfl⟩
set_option maxHeartbeats 1000000 in
set_option maxRecDepth 1000000 in
theorem crowded_2 (v : Value) (w : World) : Calls Try.prog 31 #[v, .int .i64 2] w (Pu (.bool false) w) := by
  go_enter Try.func31, Try.ntmps31
  go_wp2
  go_ret
  exact ⟨rfl, rfl⟩
set_option maxHeartbeats 1000000 in
set_option maxRecDepth 1000000 in
theorem crowded_3 (v : Value) (w : World) : Calls Try.prog 31 #[v, .int .i64 3] w (Pu (.bool false) w) := by
  go_enter Try.func31, Try.ntmps31
  go_wp2
  go_ret
  exact ⟨rfl, rfl⟩
set_option maxHeartbeats 1000000 in
set_option maxRecDepth 1000000 in
theorem crowded_4 (v : Value) (w : World) : Calls Try.prog 31 #[v, .int .i64 4] w (Pu (.bool false) w) := by
  go_enter Try.func31, Try.ntmps31
  go_wp2
  go_ret
  exact ⟨rfl, rfl⟩
set_option maxHeartbeats 1000000 in
set_option maxRecDepth 1000000 in
theorem crowded_5 (v : Value) (w : World) : Calls Try.prog 31 #[v, .int .i64 5] w (Pu (.bool false) w) := by
  go_enter Try.func31, Try.ntmps31
  go_wp2
  go_ret
  exact ⟨rfl, rfl⟩
set_option maxHeartbeats 1000000 in
set_option maxRecDepth 1000000 in
theorem crowded_6 (v : Value) (w : World) : Calls Try.prog 31 #[v, .int .i64 6] w (Pu (.bool false) w) := by
  go_enter Try.func31, Try.ntmps31
  go_wp2
  go_ret
  exact ⟨rfl, rfl⟩
/-- A part of a row of trees. -/
def SL (F : Nat → Prop) (w : World) (v : Value) (l : List Tr) : Prop :=
  (∃ a c, v = .slice a 0 c ∧ l = []) ∨ ∃ g o cap, v = .slice (some ⟨g, o, none⟩) l.length cap ∧ F g ∧ ∀ i (h : i < l.length), PT F w g (o + i * 4) l[i]
theorem SL.shape {F : Nat → Prop} {w : World} {v : Value} {l : List Tr} (h : SL F w v l) : ∃ a c, v = .slice a l.length c := by
  rcases h with ⟨a, c, rfl, rfl⟩ | ⟨g, o, cap, rfl, _⟩
  · exact ⟨a, c, rfl⟩
  · exact ⟨_, _, rfl⟩
theorem PT.frame {F : Nat → Prop} {w w' : World} {g o : Nat} {t : Tr} (h : PT F w g o t) (hF : ∀ b, F b → w'.heap[b]? = w.heap[b]?) : PT F w' g o t := by
  obtain ⟨h1, kv, h2, h3, h4, h5, h6⟩ := h
  have hc : ∀ j, w'.cell? ⟨g, j, none⟩ = w.cell? ⟨g, j, none⟩ := fun j => World.cell?_of_block (hF g h1)
  exact ⟨h1, kv, h2.frame (fun b hb => ⟨hb, hF b hb⟩), by rw [hc]; exact h3, by rw [hc]; exact h4, by rw [hc]; exact h5, by rw [hc]; exact h6⟩
theorem SL.frame {F : Nat → Prop} {w w' : World} {v : Value} {l : List Tr} (h : SL F w v l) (hF : ∀ b, F b → w'.heap[b]? = w.heap[b]?) : SL F w' v l := by
  rcases h with h | ⟨g, o, cap, h1, h2, h3⟩
  · exact .inl h
  · exact .inr ⟨g, o, cap, h1, h2, fun i hi => (h3 i hi).frame hF⟩
theorem TL.drop {F : Nat → Prop} {w : World} {kv : Value} {t : Tr} (h : TL F w kv t.kids) (n : Nat) (hn : n ≤ t.kids.length) : ∃ a c, kv = .slice a t.kids.length c ∧ (0 < t.kids.length → ∃ g, a = some ⟨g, 0, none⟩ ∧ F g ∧ ∀ c', SL F w (.slice (some ⟨g, n * 4, none⟩) (t.kids.length - n) c') (t.kids.drop n)) := by
  obtain ⟨a, c, e⟩ := h.shape
  refine ⟨a, c, e, fun hp => ?_⟩
  obtain ⟨g, cap, e2, hP⟩ := h.kid 0 hp
  rw [e] at e2
  simp only [Value.slice.injEq, true_and] at e2
  obtain ⟨rfl, rfl⟩ := e2
  refine ⟨g, rfl, hP.1, fun c' => .inr ⟨g, n * 4, c', by rw [List.length_drop], hP.1, fun i hi => ?_⟩⟩
  rw [List.length_drop] at hi
  obtain ⟨g', cap', e3, hP'⟩ := h.kid (n + i) (by omega)
  rw [e] at e3
  simp only [Value.slice.injEq, Option.some.injEq, Addr.mk.injEq, and_true, true_and] at e3
  obtain ⟨rfl, _⟩ := e3
  rw [List.getElem_drop, kid_get (by omega), ← Nat.add_mul]
  exact hP'
def atomsX (l : List Tr) : Bool := l.all (fun k => decide (k.kind = 3))
set_option maxHeartbeats 1000000 in
set_option maxRecDepth 1000000 in
theorem allAtoms_ (F : Nat → Prop) (v : Value) (l : List Tr) (w : World) (h : SL F w v l) (hl : l.length ≤ 20000) : Calls Try.prog 25 #[v] w (Pu (.bool (atomsX l)) w) := by
  obtain ⟨a, c, rfl⟩ := h.shape
  go_enter Try.func25, Try.ntmps25
  go_wp2
  go_loopg [6] l.length (fun n i wr => ∃ k : Nat, k + n = l.length ∧ i = .int .i64 (k : Int) ∧ Hid (atomsX (l.take k) = true) ∧ wr = w)
  case atStart => exact ⟨0, by omega, rfl, rfl, rfl⟩
  case round =>
    obtain ⟨k, hk, rfl, hq, rfl⟩ := hrel
    by_cases hlt : k < l.length
    · rcases h with ⟨a', c', e1, e2⟩ | ⟨g, o, cap, e1, hg, hP⟩
      · subst e2
        simp at hlt
      simp only [Value.slice.injEq, true_and] at e1
      obtain ⟨rfl, rfl⟩ := e1
      obtain ⟨_, kv, _, c0, _, _, _⟩ := hP k hlt
      have hlt' : (k : Int) < (l.length : Int) := by omega
      have hta : atomsX (l.take (k + 1)) = (atomsX (l.take k) && decide (l[k].kind = 3)) := by
        unfold atomsX
        rw [List.take_succ_eq_append_getElem hlt, List.all_append]
        simp only [List.all_cons, List.all_nil, Bool.and_true]
      rw [hq.out, Bool.true_and] at hta
      by_cases h3 : l[k].kind = 3
      · have h3' : ((l[k].kind : Int) != 3) = false := by simp; omega
        have HQ : Hid (atomsX (l.take (k + 1)) = true) := by rw [hid_iff, hta, decide_eq_true h3]
        generalize l[k].kind = kk at *
        clear hta h3 hP hq
        go_wp2
        go_roundg (l.length - (k + 1))
        case measure => omega
        case rel => exact ⟨k + 1, by omega, by simp, HQ, rfl⟩
      · have h3' : ((l[k].kind : Int) != 3) = true := by simp; omega
        have HR : Hid (atomsX l = false) := by
          rw [hid_iff, atomsX, Bool.eq_false_iff]
          intro e
          rw [List.all_eq_true] at e
          have := e l[k] (List.getElem_mem hlt)
          simp at this
          exact h3 this
        generalize l[k].kind = kk at *
        clear hta h3 hP hq
        go_wp2
        go_ret
        exact ⟨by rw [HR.out]; rfl, rfl⟩
    · have hlt' : ¬ (k : Int) < (l.length : Int) := by omega
      have HR : Hid (atomsX l = true) := by
        have := hq.out
        rwa [List.take_of_length_le (by omega)] at this
      clear hq h
      go_wp2
      go_ret
      exact ⟨by rw [HR.out]; rfl, rfl⟩
end Go.Proofs.Ytchfhkfepghfjaa

namespace Go.Proofs.Ytchfhkfepghfjaa
open Go.RowKit

theorem ex_kid_lt {t k : Ex} (h : k ∈ t.kids) : SizeOf.sizeOf k < SizeOf.sizeOf t := by
  obtain ⟨a, b, c, d, e, f, g, l, i, j, m⟩ := t
  have := List.sizeOf_lt_of_mem h
  simp at this ⊢
  omega
theorem ex_bod_lt {t k : Ex} (h : k ∈ t.bods) : SizeOf.sizeOf k < SizeOf.sizeOf t := by
  obtain ⟨a, b, c, d, e, f, g, l, i, j, m⟩ := t
  have := List.sizeOf_lt_of_mem h
  simp at this ⊢
  omega
theorem ex_ind {P : Ex → Prop} (h : ∀ e : Ex, (∀ k ∈ e.kids, P k) → (∀ k ∈ e.bods, P k) → P e) (e : Ex) : P e := by
  have key : ∀ (n : Nat) (e : Ex), SizeOf.sizeOf e ≤ n → P e := by
    intro n
    induction n with
    | zero =>
      intro e he
      obtain ⟨a, b, c, d, e, f, g, l, i, j, m⟩ := e
      simp at he
    | succ n ih => exact fun e he => h e (fun k hk => ih k (by have := ex_kid_lt hk; omega)) (fun k hk => ih k (by have := ex_bod_lt hk; omega))
  exact key _ e (Nat.le_refl _)

/-- Texts in a row, in a block of F. -/
def TxR (F : Nat → Prop) (w : World) (v : Value) (xs : List (List UInt8)) : Prop :=
  (∃ a c, v = .slice a 0 c ∧ xs = []) ∨ ∃ g o cap, v = .slice (some ⟨g, o, none⟩) xs.length cap ∧ F g ∧ ∀ (j : Nat) x, xs[j]? = some x → w.cell? ⟨g, o + j, none⟩ = some (.string (str x))
/-- Pairs of texts. -/
def TxR2 (F : Nat → Prop) (w : World) (v : Value) (xs : List (List UInt8 × List UInt8)) : Prop :=
  (∃ a c, v = .slice a 0 c ∧ xs = []) ∨ ∃ g o cap, v = .slice (some ⟨g, o, none⟩) xs.length cap ∧ F g ∧ ∀ (j : Nat) x, xs[j]? = some x → w.cell? ⟨g, o + j * 2, none⟩ = some (.string (str x.1)) ∧ w.cell? ⟨g, o + (j * 2 + 1), none⟩ = some (.string (str x.2))
theorem TxR.frame {F G : Nat → Prop} {w w' : World} (hF : ∀ g, F g → G g ∧ w'.heap[g]? = w.heap[g]?) {v : Value} {xs : List (List UInt8)} (h : TxR F w v xs) : TxR G w' v xs := by
  rcases h with h | ⟨g, o, cap, h1, h2, h3⟩
  · exact .inl h
  · refine .inr ⟨g, o, cap, h1, (hF g h2).1, fun j x hj => ?_⟩
    rw [World.cell?_of_block (w := w) (hF g h2).2]
    exact h3 j x hj
theorem TxR2.frame {F G : Nat → Prop} {w w' : World} (hF : ∀ g, F g → G g ∧ w'.heap[g]? = w.heap[g]?) {v : Value} {xs : List (List UInt8 × List UInt8)} (h : TxR2 F w v xs) : TxR2 G w' v xs := by
  rcases h with h | ⟨g, o, cap, h1, h2, h3⟩
  · exact .inl h
  · refine .inr ⟨g, o, cap, h1, (hF g h2).1, fun j x hj => ?_⟩
    obtain ⟨h4, h5⟩ := h3 j x hj
    exact ⟨by rw [World.cell?_of_block (w := w) (hF g h2).2]; exact h4, by rw [World.cell?_of_block (w := w) (hF g h2).2]; exact h5⟩
theorem TxR.shape {F : Nat → Prop} {w : World} {v : Value} {xs : List (List UInt8)} (h : TxR F w v xs) : ∃ a c, v = .slice a xs.length c := by
  rcases h with ⟨a, c, rfl, rfl⟩ | ⟨g, o, cap, rfl, _⟩
  · exact ⟨a, c, rfl⟩
  · exact ⟨_, _, rfl⟩
theorem TxR2.shape {F : Nat → Prop} {w : World} {v : Value} {xs : List (List UInt8 × List UInt8)} (h : TxR2 F w v xs) : ∃ a c, v = .slice a xs.length c := by
  rcases h with ⟨a, c, rfl, rfl⟩ | ⟨g, o, cap, rfl, _⟩
  · exact ⟨a, c, rfl⟩
  · exact ⟨_, _, rfl⟩
theorem TxR.row {F : Nat → Prop} {w : World} {v : Value} {xs : List (List UInt8)} (h : TxR F w v xs) (hF : ∀ g, F g → g < w.heap.size) (hc : ∀ a n c, v = .slice a n c → n ≤ c) : StrRow w v xs := by
  rcases h with ⟨a, c, rfl, rfl⟩ | ⟨g, o, cap, rfl, h2, h3⟩
  · exact .inl ⟨rfl, a, c, rfl⟩
  · exact .inr ⟨g, o, cap, rfl, hF g h2, hc _ _ _ rfl, h3⟩

/-- An expression's cells; as a value. -/
def exc (e : Ex) (kv pv av : Value) : List Value := [.int .i64 (e.kind : Int), .int .i64 (e.place : Int), .string (str e.name), .complex .f64 (floatOfInt .f64 e.re) (floatOfInt .f64 e.im), .string (str e.text), .string (str e.ty), kv, pv, av]
def exv (e : Ex) (kv pv av : Value) : Value := .agg #[.int .i64 (e.kind : Int), .int .i64 (e.place : Int), .string (str e.name), .complex .f64 (floatOfInt .f64 e.re) (floatOfInt .f64 e.im), .string (str e.text), .string (str e.ty), kv, pv, av]
def armC (e : Ex) (i : Nat) : List UInt8 × List (List UInt8) := e.arms.getD i ([], [])
/-- What an expression holds can be read through kv, pv, av, in blocks of F. -/
def XI (F : Nat → Prop) (w : World) : Value → Value → Value → Ex → Prop
  | kv, pv, av, ⟨_, _, _, _, _, _, _, kids, params, arms, bods⟩ =>
    ((∃ a c, kv = .slice a 0 c ∧ kids = []) ∨ ∃ g o cap, kv = .slice (some ⟨g, o, none⟩) kids.length cap ∧ F g ∧
      ∀ i (h : i < kids.length), have _hm := List.getElem_mem h; ∃ k' p' a', XI F w k' p' a' kids[i] ∧ ∀ j u, (exc kids[i] k' p' a')[j]? = some u → w.cell? ⟨g, o + (i * 9 + j), none⟩ = some u) ∧
    TxR2 F w pv params ∧ arms.length = bods.length ∧
    ((∃ a c, av = .slice a 0 c ∧ bods = []) ∨ ∃ g o cap, av = .slice (some ⟨g, o, none⟩) bods.length cap ∧ F g ∧
      ∀ i (h : i < bods.length), have _hm := List.getElem_mem h; ∃ vv k' p' a', XI F w k' p' a' bods[i] ∧ TxR F w vv (arms.getD i ([], [])).2 ∧
        ∀ j u, (Value.string (str (arms.getD i ([], [])).1) :: vv :: exc bods[i] k' p' a')[j]? = some u → w.cell? ⟨g, o + (i * 11 + j), none⟩ = some u)
/-- A row of expressions. -/
def XK (F : Nat → Prop) (w : World) (kv : Value) (kids : List Ex) : Prop :=
  (∃ a c, kv = .slice a 0 c ∧ kids = []) ∨ ∃ g o cap, kv = .slice (some ⟨g, o, none⟩) kids.length cap ∧ F g ∧
      ∀ i (h : i < kids.length), ∃ k' p' a', XI F w k' p' a' kids[i] ∧ ∀ j u, (exc kids[i] k' p' a')[j]? = some u → w.cell? ⟨g, o + (i * 9 + j), none⟩ = some u
/-- A row of arms. -/
def XA (F : Nat → Prop) (w : World) (av : Value) (arms : List (List UInt8 × List (List UInt8))) (bods : List Ex) : Prop :=
  arms.length = bods.length ∧
    ((∃ a c, av = .slice a 0 c ∧ bods = []) ∨ ∃ g o cap, av = .slice (some ⟨g, o, none⟩) bods.length cap ∧ F g ∧
      ∀ i (h : i < bods.length), ∃ vv k' p' a', XI F w k' p' a' bods[i] ∧ TxR F w vv (arms.getD i ([], [])).2 ∧
        ∀ j u, (Value.string (str (arms.getD i ([], [])).1) :: vv :: exc bods[i] k' p' a')[j]? = some u → w.cell? ⟨g, o + (i * 11 + j), none⟩ = some u)
theorem XI_iff (F : Nat → Prop) (w : World) (kv pv av : Value) (e : Ex) : XI F w kv pv av e ↔ XK F w kv e.kids ∧ TxR2 F w pv e.params ∧ XA F w av e.arms e.bods := by
  obtain ⟨a, b, c, d, e, f, g, l, i, j, m⟩ := e
  rw [XI]
  rfl
theorem XI.frame {F G : Nat → Prop} {w w' : World} (hF : ∀ g, F g → G g ∧ w'.heap[g]? = w.heap[g]?) (e : Ex) : ∀ {kv pv av : Value}, XI F w kv pv av e → XI G w' kv pv av e := by
  induction e using ex_ind with
  | h e ih1 ih2 =>
    intro kv pv av h
    rw [XI_iff] at h ⊢
    obtain ⟨h1, h2, h3, h4⟩ := h
    refine ⟨?_, h2.frame hF, h3, ?_⟩
    · rcases h1 with h1 | ⟨g, o, cap, h5, h6, h7⟩
      · exact .inl h1
      · refine .inr ⟨g, o, cap, h5, (hF g h6).1, fun i hi => ?_⟩
        obtain ⟨k', p', a', h8, h9⟩ := h7 i hi
        refine ⟨k', p', a', ih1 _ (List.getElem_mem hi) h8, fun j u hj => ?_⟩
        rw [World.cell?_of_block (w := w) (hF g h6).2]
        exact h9 j u hj
    · rcases h4 with h4 | ⟨g, o, cap, h5, h6, h7⟩
      · exact .inl h4
      · refine .inr ⟨g, o, cap, h5, (hF g h6).1, fun i hi => ?_⟩
        obtain ⟨vv, k', p', a', h8, hs, h9⟩ := h7 i hi
        refine ⟨vv, k', p', a', ih2 _ (List.getElem_mem hi) h8, hs.frame hF, fun j u hj => ?_⟩
        rw [World.cell?_of_block (w := w) (hF g h6).2]
        exact h9 j u hj
theorem XK.frame {F G : Nat → Prop} {w w' : World} (hF : ∀ g, F g → G g ∧ w'.heap[g]? = w.heap[g]?) {kv : Value} {l : List Ex} (h : XK F w kv l) : XK G w' kv l := by
  rcases h with h1 | ⟨g, o, cap, h5, h6, h7⟩
  · exact .inl h1
  · refine .inr ⟨g, o, cap, h5, (hF g h6).1, fun i hi => ?_⟩
    obtain ⟨k', p', a', h8, h9⟩ := h7 i hi
    refine ⟨k', p', a', h8.frame hF, fun j u hj => ?_⟩
    rw [World.cell?_of_block (w := w) (hF g h6).2]
    exact h9 j u hj
theorem XA.frame {F G : Nat → Prop} {w w' : World} (hF : ∀ g, F g → G g ∧ w'.heap[g]? = w.heap[g]?) {av : Value} {ars : List (List UInt8 × List (List UInt8))} {l : List Ex} (h : XA F w av ars l) : XA G w' av ars l := by
  refine ⟨h.1, ?_⟩
  rcases h.2 with h4 | ⟨g, o, cap, h5, h6, h7⟩
  · exact .inl h4
  · refine .inr ⟨g, o, cap, h5, (hF g h6).1, fun i hi => ?_⟩
    obtain ⟨vv, k', p', a', h8, hs, h9⟩ := h7 i hi
    refine ⟨vv, k', p', a', h8.frame hF, hs.frame hF, fun j u hj => ?_⟩
    rw [World.cell?_of_block (w := w) (hF g h6).2]
    exact h9 j u hj
theorem XK.shape {F : Nat → Prop} {w : World} {v : Value} {l : List Ex} (h : XK F w v l) : ∃ a c, v = .slice a l.length c := by
  rcases h with ⟨a, c, rfl, rfl⟩ | ⟨g, o, cap, rfl, _⟩
  · exact ⟨a, c, rfl⟩
  · exact ⟨_, _, rfl⟩
theorem XA.shape {F : Nat → Prop} {w : World} {v : Value} {ars : List (List UInt8 × List (List UInt8))} {l : List Ex} (h : XA F w v ars l) : ∃ a c, v = .slice a l.length c := by
  rcases h.2 with ⟨a, c, rfl, rfl⟩ | ⟨g, o, cap, rfl, _⟩
  · exact ⟨a, c, rfl⟩
  · exact ⟨_, _, rfl⟩
/-- One of a row. -/
theorem XK.at {F : Nat → Prop} {w : World} {v : Value} {l : List Ex} (h : XK F w v l) (i : Nat) (hi : i < l.length) : ∃ g o cap k' p' a', v = .slice (some ⟨g, o, none⟩) l.length cap ∧ F g ∧ XI F w k' p' a' l[i] ∧
    w.cell? ⟨g, o + i * 9, none⟩ = some (.int .i64 (l[i].kind : Int)) ∧ w.cell? ⟨g, o + (i * 9 + 1), none⟩ = some (.int .i64 (l[i].place : Int)) ∧ w.cell? ⟨g, o + (i * 9 + 2), none⟩ = some (.string (str l[i].name)) ∧
    w.cell? ⟨g, o + (i * 9 + 3), none⟩ = some (.complex .f64 (floatOfInt .f64 l[i].re) (floatOfInt .f64 l[i].im)) ∧ w.cell? ⟨g, o + (i * 9 + 4), none⟩ = some (.string (str l[i].text)) ∧ w.cell? ⟨g, o + (i * 9 + 5), none⟩ = some (.string (str l[i].ty)) ∧
    w.cell? ⟨g, o + (i * 9 + 6), none⟩ = some k' ∧ w.cell? ⟨g, o + (i * 9 + 7), none⟩ = some p' ∧ w.cell? ⟨g, o + (i * 9 + 8), none⟩ = some a' := by
  rcases h with ⟨a, c, rfl, rfl⟩ | ⟨g, o, cap, rfl, hg, h⟩
  · simp at hi
  · obtain ⟨k', p', a', h1, h2⟩ := h i hi
    exact ⟨g, o, cap, k', p', a', rfl, hg, h1, h2 0 _ rfl, h2 1 _ rfl, h2 2 _ rfl, h2 3 _ rfl, h2 4 _ rfl, h2 5 _ rfl, h2 6 _ rfl, h2 7 _ rfl, h2 8 _ rfl⟩
theorem XK.nil (F : Nat → Prop) (w : World) : XK F w (.slice none 0 0) [] := .inl ⟨none, 0, rfl, rfl⟩
theorem XA.nil (F : Nat → Prop) (w : World) : XA F w (.slice none 0 0) [] [] := ⟨rfl, .inl ⟨none, 0, rfl, rfl⟩⟩
theorem TxR.nil (F : Nat → Prop) (w : World) : TxR F w (.slice none 0 0) [] := .inl ⟨none, 0, rfl, rfl⟩
theorem TxR2.nil (F : Nat → Prop) (w : World) : TxR2 F w (.slice none 0 0) [] := .inl ⟨none, 0, rfl, rfl⟩
end Go.Proofs.Ytchfhkfepghfjaa

namespace Go.Proofs.Ytchfhkfepghfjaa
open Go.RowKit

/-- What is left to be read: a tree, at an address, and where it goes: an expression or an arm. -/
structure Pt where
  tg : Nat
  tj : Nat
  tree : Tr
  arm : Bool
  dg : Nat
  dj : Nat
def pcell (p : Pt) : List Value := [.pointer (some ⟨p.tg, p.tj, none⟩), .pointer (if p.arm = true then none else some ⟨p.dg, p.dj, none⟩), .pointer (if p.arm = true then some ⟨p.dg, p.dj, none⟩ else none)]
def pcells (l : List Pt) : List Value := l.flatMap pcell
theorem pcells_append (a b : List Pt) : pcells (a ++ b) = pcells a ++ pcells b := by simp [pcells]
theorem pcells_one (p : Pt) : pcells [p] = pcell p := by simp [pcells]
theorem pcells_length : ∀ l : List Pt, (pcells l).length = l.length * 3
  | [] => rfl
  | p :: l => by
    have := pcells_length l
    simp only [pcells, List.flatMap_cons, List.length_append, List.length_cons] at this ⊢
    rw [this, show (pcell p).length = 3 from rfl]
    omega
def whyOf : Option (Nat × Nat) → Nat
  | none => 0
  | some e => e.1
def atOf : Option (Nat × Nat) → Nat
  | none => 0
  | some e => e.2
/-- The reader in memory. -/
def DIs (w : World) (rb : Nat) (m : List UInt8) (tv : Value) (st : Option (Nat × Nat)) : Prop :=
  w.heap[rb]? = some (.cells #[.string (str m), tv, .int .i64 (whyOf st : Int), .int .i64 (atOf st : Int)] 51 (0, 0))
theorem DIs.lt {w : World} {rb : Nat} {m : List UInt8} {tv : Value} {st : Option (Nat × Nat)} (h : DIs w rb m tv st) : rb < w.heap.size := (Array.getElem?_eq_some_iff.1 h).1
theorem DIs.cells {w : World} {rb : Nat} {m : List UInt8} {tv : Value} {st : Option (Nat × Nat)} (h : DIs w rb m tv st) :
    w.cell? ⟨rb, 0, none⟩ = some (.string (str m)) ∧ w.cell? ⟨rb, 1, none⟩ = some tv ∧ w.cell? ⟨rb, 2, none⟩ = some (.int .i64 (whyOf st : Int)) ∧ w.cell? ⟨rb, 3, none⟩ = some (.int .i64 (atOf st : Int)) ∧ ∀ j, w.frozen? ⟨rb, j, none⟩ = false := by
  unfold DIs at h
  exact ⟨by rw [cell_of_row w rb 0 _ _ _ h]; rfl, by rw [cell_of_row w rb 1 _ _ _ h]; rfl, by rw [cell_of_row w rb 2 _ _ _ h]; rfl, by rw [cell_of_row w rb 3 _ _ _ h]; rfl, fun j => frozen_of_row w rb j _ _ h⟩
theorem DIs.kept {S : Nat → Prop} {w w' : World} {rb : Nat} {m : List UInt8} {tv : Value} {st : Option (Nat × Nat)} (h : DIs w rb m tv st) (k : Kept S w w') (hS : ¬ S rb) : DIs w' rb m tv st := (k.block rb h.lt hS).trans h
theorem DIs.below {H : Nat} {w w' : World} {rb : Nat} {m : List UInt8} {tv : Value} {st : Option (Nat × Nat)} (h : DIs w rb m tv st) (k : Below H w w') (hS : rb < H) : DIs w' rb m tv st := (k.block rb hS).trans h
theorem DIs.set_todo {w : World} {rb : Nat} {m : List UInt8} {tv : Value} {st : Option (Nat × Nat)} (h : DIs w rb m tv st) (v : Value) : DIs (w.setCell ⟨rb, 1, none⟩ v) rb m v st := heap_setCell_same w rb 1 _ _ v h
/-- Blocks of parts. -/
def PB (u : World) (k : Nat) : Prop := ∃ cur fz, u.heap[k]? = some (.cells cur 72 fz)
def SK (rb : Nat) (u : World) (d k : Nat) : Prop := k = rb ∨ (rb < k ∧ PB u k) ∨ k = d
/-- From u to u' nothing turns but the reader, rows of parts, and block d. -/
def Ev (rb d : Nat) (u u' : World) : Prop := Kept (SK rb u d) u u'
theorem Ev.refl (rb d : Nat) (u : World) : Ev rb d u u := Kept.refl _ u
theorem Ev.trans {rb d e : Nat} {u v w : World} (h : Ev rb d u v) (k : Ev rb e v w) (he : e = d ∨ e = rb ∨ u.heap.size ≤ e) : Ev rb d u w := by
  refine Kept.trans h k (fun x _ hx => hx) (fun x hx hT => ?_)
  rcases hT with rfl | ⟨hr, cur, fz, hP⟩ | rfl
  · exact .inl rfl
  · by_cases hs : SK rb u d x
    · exact hs
    · exact .inr (.inl ⟨hr, cur, fz, (h.block x hx hs).symm.trans hP⟩)
  · rcases he with rfl | rfl | he
    · exact .inr (.inr rfl)
    · exact .inl rfl
    · omega
theorem Ev.of_below {rb d : Nat} {u v : World} (h : Below u.heap.size u v) : Ev rb d u v := ⟨h.os, h.tape, h.output, h.size, fun k hk _ => h.block k hk⟩
theorem Ev.size {rb d : Nat} {u v : World} (h : Ev rb d u v) : u.heap.size ≤ v.heap.size := Kept.size h
theorem Ev.low {rb d H : Nat} {u v : World} (h : Ev rb d u v) (hH : H ≤ u.heap.size) (hs : ∀ k, k < H → ¬ SK rb u d k) : Below H u v := Kept.below h hH hs
/-- Blocks from lo on that are no rows of parts. -/
def FN (lo : Nat) (u : World) (k : Nat) : Prop := lo ≤ k ∧ k < u.heap.size ∧ ¬ PB u k
theorem FN.ev {lo rb d : Nat} {u v : World} (h : Ev rb d u v) (hr : rb < lo) {k : Nat} (hk : FN lo u k) (hd : k ≠ d) : FN lo v k ∧ v.heap[k]? = u.heap[k]? := by
  have hb := h.block k hk.2.1 (by rintro (e | e | e); have := hk.1; omega; exact hk.2.2 e.2; exact hd e)
  exact ⟨⟨hk.1, Nat.lt_of_lt_of_le hk.2.1 h.size, fun ⟨cur, fz, e⟩ => hk.2.2 ⟨cur, fz, hb.symm.trans e⟩⟩, hb⟩
theorem FN.mono {lo lo' : Nat} {u : World} {k : Nat} (h : FN lo u k) (hl : lo' ≤ lo) : FN lo' u k := ⟨Nat.le_trans hl h.1, h.2⟩
/-- What lies below the reader stays. -/
theorem Ev.tree {F : Nat → Prop} {rb d : Nat} {u v : World} (h : Ev rb d u v) (hF : ∀ b, F b → b < rb) (hr : rb < u.heap.size) (hd : rb ≤ d) : ∀ b, F b → v.heap[b]? = u.heap[b]? := fun b hb => h.block b (by have := hF b hb; omega) (by have := hF b hb; rintro (e | ⟨e, _⟩ | e) <;> omega)
/-- Block d, xs in the middle of it. -/
def At (u : World) (d : Nat) (pre xs post : List Value) (T : Nat) : Prop := u.heap[d]? = some (.cells (pre ++ xs ++ post).toArray T (0, 0))
theorem At.lt {u : World} {d : Nat} {pre xs post : List Value} {T : Nat} (h : At u d pre xs post T) : d < u.heap.size := (Array.getElem?_eq_some_iff.1 h).1
theorem At.ev {rb e d : Nat} {u v : World} {pre xs post : List Value} {T : Nat} (h : At u d pre xs post T) (k : Ev rb e u v) (hT : T ≠ 72) (hr : d ≠ rb) (he : d ≠ e) : At v d pre xs post T := by
  refine (k.block d h.lt ?_).trans h
  rintro (e | ⟨_, cur, fz, e⟩ | e)
  · exact hr e
  · unfold At at h
    rw [h] at e
    simp only [Option.some.injEq, Obj.cells.injEq] at e
    exact hT e.2.1
  · exact he e
theorem At.np {d : Nat} {u : World} {pre xs post : List Value} {T : Nat} (h : At u d pre xs post T) (hT : T ≠ 72) : ¬ PB u d := by
  rintro ⟨cur, fz, e⟩
  unfold At at h
  rw [h] at e
  simp only [Option.some.injEq, Obj.cells.injEq] at e
  exact hT e.2.1
theorem At.cell {d : Nat} {u : World} {pre xs post : List Value} {T : Nat} (h : At u d pre xs post T) {j : Nat} {v : Value} (hj : xs[j]? = some v) : u.cell? ⟨d, pre.length + j, none⟩ = some v := by
  rw [cell_of_row u d _ _ _ _ h]
  simp only [List.getElem?_toArray]
  rw [List.append_assoc, List.getElem?_append_right (by omega), Nat.add_sub_cancel_left, List.getElem?_append_left (List.getElem?_eq_some_iff.1 hj).1]
  exact hj
theorem At.frozen {d : Nat} {u : World} {pre xs post : List Value} {T : Nat} (h : At u d pre xs post T) (j : Nat) : u.frozen? ⟨d, j, none⟩ = false := frozen_of_row u d j _ _ h
theorem At.set {d : Nat} {u : World} {pre xs post : List Value} {T : Nat} (h : At u d pre xs post T) (j : Nat) (hj : j < xs.length) (v : Value) : At (u.setCell ⟨d, pre.length + j, none⟩ v) d pre (xs.set j v) post T := by
  unfold At at h ⊢
  rw [heap_setCell_same u d (pre.length + j) _ _ v h]
  congr 2
  rw [List.setIfInBounds_toArray, List.append_assoc, List.set_append_right _ _ (by omega), Nat.add_sub_cancel_left, List.set_append_left _ _ hj, ← List.append_assoc]
/-- Nothing yet. -/
def zeroX : Ex := ⟨0, 0, [], 0, 0, [], [], [], [], [], []⟩
def exz : List Value := exc zeroX (.slice none 0 0) (.slice none 0 0) (.slice none 0 0)
def arz : List Value := .string (str []) :: .slice none 0 0 :: exz
def zeros (z : List Value) (n : Nat) : List Value := (List.replicate n z).flatten
theorem zeros_succ (z : List Value) (n : Nat) : zeros z (n + 1) = z ++ zeros z n := by simp [zeros, List.replicate_succ]
end Go.Proofs.Ytchfhkfepghfjaa
