/-
  The package's take at a Close: the topmost is shut and goes to the one below it.
  And: The package's Parse: its walk. The package's Parse: the loop over the tokens.
-/
import Derived.Test.YtchfhkfepghfjaaPfBc
import Derived.Deep.LoopGhost
import Derived.Test.YtchfhkfepghfjaaPfAc
import Derived.Laws.Rows
namespace Go.Proofs.Ytchfhkfepghfjaa
open Go.RowKit

theorem split_last {vs : List Value} {n : Nat} (h : vs.length = n + 1) : ∃ vs0 k, vs = vs0 ++ [k] ∧ vs0.length = n := by
  have hne : vs ≠ [] := fun e => by rw [e] at h; simp at h
  exact ⟨vs.dropLast, vs.getLast hne, (List.dropLast_concat_getLast hne).symm, by simp [h]⟩
/-- Behind the first half of a Close. -/
structure ShutM (F : Nat → Prop) (B : Nat) (w : World) (gs caps b5 : Nat) (y x : Tr) (r : List Tr) (kvy v : Value) (vs : List Value) (wx : World) : Prop where
  stk : StkM F B wx (.slice (some ⟨gs, 0, none⟩) (r.length + 1) caps) (r.reverse ++ [x]) vs
  at0 : vs[r.length]? = some v
  c0 : wx.cell? ⟨b5, 0, none⟩ = some (.int .i64 (y.kind : Int))
  c1 : wx.cell? ⟨b5, 1, none⟩ = some (.int .i64 (y.place : Int))
  c2 : wx.cell? ⟨b5, 2, none⟩ = some (.string (str y.text))
  c3 : wx.cell? ⟨b5, 3, none⟩ = some kvy
  kid : TL F wx kvy y.kids
  bel : Below B w wx
  siz : B ≤ wx.heap.size
  b1 : b5 < wx.heap.size
  b2 : b5 ≠ gs
  b3 : v.ownBlock ≠ some b5
theorem shut_m {F : Nat → Prop} {B gs caps : Nat} {w : World} {y x : Tr} {r : List Tr} {vs : List Value} {kvy : Value} {o1 : Obj} (h : StkM F B w (.slice (some ⟨gs, 0, none⟩) (r.length + 1 + 1) caps) (r.reverse ++ [x] ++ [y]) (vs ++ [kvy])) (hB : B ≤ w.heap.size) :
    ∃ v, ShutM (fun b => F b ∨ kvy.ownBlock = some b) B w gs caps (w.heap.size + 1) y x r kvy v vs (((w.alloc o1).alloc (.cells #[.int .i64 (y.kind : Int), .int .i64 (y.place : Int), .string (str y.text), kvy] 27)).drew) := by
  have hl : (r.reverse ++ [x]).length = r.length + 1 := by simp
  have h' := h
  rw [← hl] at h'
  obtain ⟨p1, p2⟩ := h'.pop
  rw [hl] at p1
  have hvl : vs.length = r.length + 1 := by have := p1.len; rw [hl] at this; exact this
  have hgs := (p1.own.lt gs rfl)
  have hn : r.length < vs.length := by omega
  have t0 : vs[r.length]? = some vs[r.length] := List.getElem?_eq_getElem hn
  have hx : (r.reverse ++ [x])[r.length]? = some x := by simp
  have hkl := (p1.kids _ _ _ hx t0).lt
  have K : Kept (fun _ => False) w (((w.alloc o1).alloc (.cells #[.int .i64 (y.kind : Int), .int .i64 (y.place : Int), .string (str y.text), kvy] 27)).drew) := (((Kept.refl _ w).alloc _).alloc _).drew
  have hb : (((w.alloc o1).alloc (.cells #[.int .i64 (y.kind : Int), .int .i64 (y.place : Int), .string (str y.text), kvy] 27)).drew).heap[w.heap.size + 1]? = some (.cells #[.int .i64 (y.kind : Int), .int .i64 (y.place : Int), .string (str y.text), kvy] 27) := by
    have := heap_alloc_new (w.alloc o1) (.cells #[.int .i64 (y.kind : Int), .int .i64 (y.place : Int), .string (str y.text), kvy] 27)
    rw [show (w.alloc o1).heap.size = w.heap.size + 1 from by simp] at this
    exact this
  have hc : ∀ j, (((w.alloc o1).alloc (.cells #[.int .i64 (y.kind : Int), .int .i64 (y.place : Int), .string (str y.text), kvy] 27)).drew).cell? ⟨w.heap.size + 1, j, none⟩ = (trc y kvy)[j]? := fun j => by
    rw [cell_of_row _ _ j _ 27 (0, 0) hb]
    simp [trc]
  have hsz := K.size
  exact ⟨vs[r.length], p1.kept K (fun g hg => hg.elim), t0, hc 0, hc 1, hc 2, hc 3, p2.kept K (fun g hg => ⟨(p1.lies g hg).2, fun e => e⟩), K.below hB (fun b hb h => h), by omega, (Array.getElem?_eq_some_iff.1 hb).1, by omega, fun e => by have := (hkl _ e).2; omega⟩

set_option maxHeartbeats 1600000 in
set_option maxRecDepth 1000000 in
theorem take_close (F : Nat → Prop) (B : Nat) (w : World) (sv : Value) (y x : Tr) (r : List Tr) (vs : List Value) (tok : Tok) (h : StkM F B w sv (r.reverse ++ [x] ++ [y]) vs) (hB : B ≤ w.heap.size) (hlen : r.length ≤ 41) (hkl : x.kids.length ≤ 8192) (hk2 : tok.kind = 2) :
    Calls Try.prog 10 #[sv, tkv tok] w (TakeE B w (put (y :: x :: r) tok)) := by
  obtain ⟨gs, caps, rfl, hgb, hgl, hc1, hc2⟩ := h.shape (by simp)
  have hln : (r.reverse ++ [x] ++ [y]).length = r.length + 1 + 1 := by simp
  rw [hln] at h hc1 ⊢
  obtain ⟨vs, kvy, rfl, hvl⟩ := split_last (n := r.length + 1) (by rw [h.len, hln])
  obtain ⟨kv, t0, t1, t2, t3, t4, t5, _⟩ := h.top (by simp : (r.reverse ++ [x]).length = r.length + 1)
  have hkv : kv = kvy := by rw [← hvl] at t0; simp at t0; exact t0.symm
  subst hkv
  have hp : (put (y :: x :: r) tok).reverse = r.reverse ++ [addKid x (shutBy y tok)] := by simp [put, hk2]
  obtain ⟨v, hM⟩ := shut_m (o1 := .cells #[.int .i64 2, .int .i64 (tok.place : Int), .string (str tok.text)] 45) h hB
  obtain ⟨tk, tp, tx⟩ := tok
  simp only at hk2
  subst hk2
  unfold tkv
  obtain ⟨ya, yc, rfl⟩ := t1.shape
  clear t0 t1
  have hi0 : (r.length : Int) + 1 < (r.length : Int) + 1 + 1 := by omega
  have hcm : (caps : Int) ≤ 9223372036854775807 := by unfold maxLen at hc2; omega
  have hi3 : (r.length : Int) + 1 ≤ (caps : Int) := by omega
  have hi4 : (0 : Int) ≤ (r.length : Int) + 1 := by omega
  go_enter Try.func10, Try.ntmps10
  go_wp2
  go_cut [0] from 27 to 33 (fun v0 wx => v0 = .slice (some ⟨gs, 0, none⟩) (r.length + 1) caps ∧ ShutM (fun b => F b ∨ (Value.slice ya y.kids.length yc).ownBlock = some b) B w gs caps (w.heap.size + 1) y x r (.slice ya y.kids.length yc) v vs wx)
  case first =>
    go_region
    all_goals (go_wp2_with fail; go_meet; exact ⟨rfl, hM⟩)
  case rest =>
    obtain ⟨rfl, hM'⟩ := hcut
    clear hM t2 t3 t4 t5 h hi0 hi3 hi4
    obtain ⟨hS, t0, c0, c1, c2, c3, hxt, hBl, hsz1, hb1, hb2, hb3⟩ := hM'
    generalize hb5 : w.heap.size + 1 = b5 at *
    clear hb5
    obtain ⟨ka, kc, rfl⟩ : ∃ a c, v = .slice a x.kids.length c := (hS.kids r.length x v (by simp) t0).shape
    go_wp2
    obtain ⟨kv, t0', t1, t2, t3, t4, t5, t6⟩ := hS.top (by simp : r.reverse.length = r.length)
    rw [t0] at t0'
    cases t0'
    have t6' := t6 (r.length * 4 + 3)
    obtain ⟨us, u1, u2, u3⟩ := t1
    have hzB : B ≤ (wc.alloc (.cells #[.int .i64 0, .int .i64 0, .string ⟨#[]⟩, .slice none 0 0] 27)).drew.heap.size := by simp; omega
    have hO : (wc.alloc (.cells #[.int .i64 0, .int .i64 0, .string ⟨#[]⟩, .slice none 0 0] 27)).drew.ownsRow B 27 4 (.slice ka x.kids.length kc) x.kids.length (rowc x.kids us) := (u2.alloc _).drew
    have hi1 : (r.length : Int) < (r.length : Int) + 1 := by omega
    have hi2 : (x.kids.length : Int) < (x.kids.length : Int) + 1 := by omega
    have KZ : Kept (fun _ => False) wc (wc.alloc (.cells #[.int .i64 0, .int .i64 0, .string ⟨#[]⟩, .slice none 0 0] 27)) := (Kept.refl _ wc).alloc _
    have d0 := KZ.cell c0 (fun h => h)
    have d1 := KZ.cell c1 (fun h => h)
    have d2 := KZ.cell c2 (fun h => h)
    have d3 := KZ.cell c3 (fun h => h)
    have d5 := KZ.cell t5 (fun h => h)
    clear t2 t3 t4 t6 KZ
    go_region_law (refine step_tree rfl (.tmp 40) (.tmp 43) rfl B (.slice ka x.kids.length kc) x.kids.length (rowc x.kids us) (by rfl) hO ⟨wc.heap.size, 0, none⟩ 1 [.int .i64 0, .int .i64 0, .string ⟨#[]⟩, .slice none 0 0] (by rfl) rfl (cells_new _ _ _) zone (by omega) hzB (wc.heap.size + 1) (by simp) ?_; intro g cap w' k1 k2 k3 k4; obtain ⟨f0, f1, f2, f3, f4, f5, e0, e1, e2, e3, q0, q1, q2, q3, g1, g2, g3, g4, g5⟩ := add_facts hS (rowc_length u1) t0 hb1 hb2 hb3 c0 c1 c2 c3 t5 t6' k1 k2 k3; have hD : AddE B gs caps r.length wc (r.reverse ++ [addKid x (shutBy y ⟨2, tp, tx⟩)]) (((((w'.setCell ⟨g, x.kids.length * 4, none⟩ (.int .i64 (y.kind : Int))).setCell ⟨g, x.kids.length * 4 + 1, none⟩ (.int .i64 (y.place : Int))).setCell ⟨g, x.kids.length * 4 + 2, none⟩ (.string (str y.text))).setCell ⟨g, x.kids.length * 4 + 3, none⟩ (.slice ya y.kids.length yc)).setCell ⟨gs, r.length * 4 + 3, none⟩ (.slice (some ⟨g, 0, none⟩) (x.kids.length + 1) cap)) := add_done (t := shutBy y ⟨2, tp, tx⟩) hS (by simp) rfl hsz1 t0 u1 u3 hxt k1 k2 k3 k4; have hD2 := hD.swap g1)
    all_goals (
      clear hO hzB hi1 hi2 d0 d1 d2 d3 d5 t5 t6' c0 c1 c2 c3 f0 f1 f2 f3 f4 f5 e0 e1 e2 e3 q0 q1 q2 q3 k1 k2 k3 k4 u2 u3 hS
      go_wp2
      go_ret
      first
        | (exact hD.took hp hBl rfl (by with_reducible rfl))
        | (exact hD2.took hp hBl rfl (by with_reducible rfl)))
end Go.Proofs.Ytchfhkfepghfjaa

namespace Go.Proofs.Ytchfhkfepghfjaa
open Go.RowKit

theorem take (F : Nat → Prop) (B : Nat) (w : World) (sv : Value) (rs : List Tr) (vs : List Value) (tok : Tok) (h : StkM F B w sv rs.reverse vs) (hB : B ≤ w.heap.size) (hn : rs ≠ []) (hlen : rs.length ≤ 41) (hr : refu rs tok = 0) (hkl : ∀ t ∈ rs, t.kids.length ≤ 8192) :
    Calls Try.prog 10 #[sv, tkv tok] w (TakeE B w (put rs tok)) := by
  by_cases k1 : tok.kind = 1
  · exact take_open F B w sv rs vs tok h hB hn hlen k1
  cases rs with
  | nil => exact absurd rfl hn
  | cons x r =>
    simp only [List.length_cons] at hlen
    by_cases k2 : tok.kind = 2
    · cases r with
      | nil =>
        obtain ⟨_, _, _, h3⟩ := refu_open hr rfl
        exact absurd k2 h3
      | cons x' r =>
        simp only [List.length_cons] at hlen
        rw [List.reverse_cons, List.reverse_cons] at h
        exact take_close F B w sv x x' r vs tok h hB (by omega) (hkl x' (by simp)) k2
    · rw [List.reverse_cons] at h
      exact take_leaf F B w sv x r vs tok h hB (by omega) (hkl x (by simp)) k1 k2

set_option maxRecDepth 1000000 in
theorem opened (a : Option Addr) (n c : Nat) (w : World) (hn : n ≤ 1000) : Calls Try.prog 11 #[.slice a n c] w fun e w' => e = .returned (.int .i64 ((n : Int) - 1)) ∧ w' = w := by
  go_enter Try.func11, Try.ntmps11
  go_wp2
  go_ret
  exact ⟨by go_num, rfl⟩

def refI (k n m : Nat) : Int := if k = 1 ∧ n = 41 then 14 else if k = 2 ∧ n = 1 then 12 else if n = 1 ∧ m ≠ 0 then 11 else 0
set_option maxHeartbeats 1600000 in
set_option maxRecDepth 1000000 in
theorem refusal (gs n c k m kc : Nat) (ka : Option Addr) (w : World) (hn : n ≤ 1000) (hn1 : 1 ≤ n) (hc : w.cell? ⟨gs, 3, none⟩ = some (.slice ka m kc)) : Calls Try.prog 9 #[.slice (some ⟨gs, 0, none⟩) n c, .int .i64 (k : Int)] w fun e w' => e = .returned (.int .i64 (refI k n m)) ∧ w' = w := by
  have hop := fun w => opened (some ⟨gs, 0, none⟩) n c w hn
  have hi : (0 : Int) < (n : Int) := by omega
  by_cases c1 : k = 1
  · have t1 : ((k : Int) == 1) = true := by rw [beq_iff_eq]; omega
    have t2 : ((k : Int) == 2) = false := by rw [beq_eq_false_iff_ne]; omega
    by_cases c2 : n = 41
    · have E : Hid (refI k n m = 14) := by simp [Hid, refI, c1, c2]
      have t3 : ((n : Int) - 1 == 40) = true := by rw [beq_iff_eq]; omega
      clear c1 c2
      go_enter Try.func9, Try.ntmps9
      go_wp2_with fail
      refine (hop _).mono ?_
      rintro e w2 ⟨rfl, rfl⟩
      go_wp2
      go_ret
      exact ⟨by rw [E.out]; rfl, rfl⟩
    · have t3 : ((n : Int) - 1 == 40) = false := by rw [beq_eq_false_iff_ne]; omega
      by_cases c3 : n = 1
      · have t4 : ((n : Int) - 1 == 0) = true := by rw [beq_iff_eq]; omega
        by_cases c4 : m = 0
        · have E : Hid (refI k n m = 0) := by simp [Hid, refI, c1, c3, c4]
          have t5 : ¬ 0 < m := by omega
          clear c1 c2 c3 c4
          go_enter Try.func9, Try.ntmps9
          go_wp2_with fail
          refine (hop _).mono ?_
          rintro e w2 ⟨rfl, rfl⟩
          go_wp2_with fail
          refine (hop _).mono ?_
          rintro e w3 ⟨rfl, rfl⟩
          go_wp2
          go_ret
          exact ⟨by rw [E.out]; rfl, rfl⟩
        · have E : Hid (refI k n m = 11) := by simp [Hid, refI, c1, c3, c4]
          have t5 : 0 < m := by omega
          clear c1 c2 c3 c4
          go_enter Try.func9, Try.ntmps9
          go_wp2_with fail
          refine (hop _).mono ?_
          rintro e w2 ⟨rfl, rfl⟩
          go_wp2_with fail
          refine (hop _).mono ?_
          rintro e w3 ⟨rfl, rfl⟩
          go_wp2
          go_ret
          exact ⟨by rw [E.out]; rfl, rfl⟩
      · have t4 : ((n : Int) - 1 == 0) = false := by rw [beq_eq_false_iff_ne]; omega
        have E : Hid (refI k n m = 0) := by simp [Hid, refI, c1, c2, c3]
        clear c1 c2 c3
        go_enter Try.func9, Try.ntmps9
        go_wp2_with fail
        refine (hop _).mono ?_
        rintro e w2 ⟨rfl, rfl⟩
        go_wp2_with fail
        refine (hop _).mono ?_
        rintro e w3 ⟨rfl, rfl⟩
        go_wp2
        go_ret
        exact ⟨by rw [E.out]; rfl, rfl⟩
  · have t1 : ((k : Int) == 1) = false := by rw [beq_eq_false_iff_ne]; omega
    by_cases c2 : k = 2
    · have t2 : ((k : Int) == 2) = true := by rw [beq_iff_eq]; omega
      by_cases c3 : n = 1
      · have t4 : ((n : Int) - 1 == 0) = true := by rw [beq_iff_eq]; omega
        have E : Hid (refI k n m = 12) := by simp [Hid, refI, c2, c3]
        clear c1 c2 c3
        go_enter Try.func9, Try.ntmps9
        go_wp2_with fail
        refine (hop _).mono ?_
        rintro e w2 ⟨rfl, rfl⟩
        go_wp2
        go_ret
        exact ⟨by rw [E.out]; rfl, rfl⟩
      · have t4 : ((n : Int) - 1 == 0) = false := by rw [beq_eq_false_iff_ne]; omega
        have E : Hid (refI k n m = 0) := by simp [Hid, refI, c2, c3]
        clear c1 c2 c3
        go_enter Try.func9, Try.ntmps9
        go_wp2_with fail
        refine (hop _).mono ?_
        rintro e w2 ⟨rfl, rfl⟩
        go_wp2_with fail
        refine (hop _).mono ?_
        rintro e w3 ⟨rfl, rfl⟩
        go_wp2
        go_ret
        exact ⟨by rw [E.out]; rfl, rfl⟩
    · have t2 : ((k : Int) == 2) = false := by rw [beq_eq_false_iff_ne]; omega
      by_cases c3 : n = 1
      · have t4 : ((n : Int) - 1 == 0) = true := by rw [beq_iff_eq]; omega
        by_cases c4 : m = 0
        · have E : Hid (refI k n m = 0) := by simp [Hid, refI, c1, c2, c4]
          have t5 : ¬ 0 < m := by omega
          clear c1 c2 c3 c4
          go_enter Try.func9, Try.ntmps9
          go_wp2_with fail
          refine (hop _).mono ?_
          rintro e w3 ⟨rfl, rfl⟩
          go_wp2
          go_ret
          exact ⟨by rw [E.out]; rfl, rfl⟩
        · have E : Hid (refI k n m = 11) := by simp [Hid, refI, c1, c2, c3, c4]
          have t5 : 0 < m := by omega
          clear c1 c2 c3 c4
          go_enter Try.func9, Try.ntmps9
          go_wp2_with fail
          refine (hop _).mono ?_
          rintro e w3 ⟨rfl, rfl⟩
          go_wp2
          go_ret
          exact ⟨by rw [E.out]; rfl, rfl⟩
      · have t4 : ((n : Int) - 1 == 0) = false := by rw [beq_eq_false_iff_ne]; omega
        have E : Hid (refI k n m = 0) := by simp [Hid, refI, c1, c2, c3]
        clear c1 c2 c3
        go_enter Try.func9, Try.ntmps9
        go_wp2_with fail
        refine (hop _).mono ?_
        rintro e w3 ⟨rfl, rfl⟩
        go_wp2
        go_ret
        exact ⟨by rw [E.out]; rfl, rfl⟩
theorem refI_eq {rs : List Tr} {b : Tr} (hb : rs.getLast? = some b) (t : Tok) : refI t.kind rs.length b.kids.length = (refu rs t : Int) := by
  unfold refI refu
  rw [hb]
  simp only [Option.map_some, Option.getD_some]
  repeat' split
  all_goals first | rfl | (exfalso; simp_all)
end Go.Proofs.Ytchfhkfepghfjaa

namespace Go.Proofs.Ytchfhkfepghfjaa
open Go.RowKit

/-- What Parse answers. -/
def PE (r : Except (Nat × Nat) Tr) (w : World) (e : Ending) (w' : World) : Prop :=
  (match r with
  | .ok t => ∃ kv, e = .returned (.tuple #[trv t kv, .int .i64 0, .int .i64 0]) ∧ TL (fun g => w.heap.size ≤ g ∧ g < w'.heap.size) w' kv t.kids
  | .error (y, b) => e = .returned (.tuple #[trv root (.slice none 0 0), .int .i64 (y : Int), .int .i64 (b : Int)])) ∧ Below w.heap.size w w'
theorem pe_no {r : Except (Nat × Nat) Tr} {w w' : World} {y b : Nat} {z x : Int} {e : Ending} (h : r = .error (y, b)) (hz : z = (y : Int)) (hx : x = (b : Int)) (he : e = .returned (.tuple #[.agg #[.int .i64 0, .int .i64 0, .string ⟨#[]⟩, .slice none 0 0], .int .i64 z, .int .i64 x])) (hb : Below w.heap.size w w') : PE r w e w' := by
  subst h hz hx he
  exact ⟨rfl, hb⟩
theorem pe_ok {r : Except (Nat × Nat) Tr} {w w' : World} {t : Tr} {kv : Value} {e : Ending} (h : r = .ok t) (he : e = .returned (.tuple #[trv t kv, .int .i64 0, .int .i64 0])) (ht : TL (fun g => w.heap.size ≤ g ∧ g < w'.heap.size) w' kv t.kids) (hb : Below w.heap.size w w') : PE r w e w' := by
  subst h he
  exact ⟨⟨kv, rfl, ht⟩, hb⟩

theorem run_end {n : Nat} {ts : List Tr} (h : 1 < ts.length) : run n ts [] = .error (10, n) := by
  unfold run
  rw [if_pos h]
theorem run_whole {n : Nat} {b x : Tr} {r : List Tr} (h : b.kids = x :: r) : run n [b] [] = .ok x := by
  unfold run
  rw [if_neg (by simp)]
  simp only [h]
theorem toks_ne (t : Tr) : 1 ≤ (toks t).length := by rw [toks_eq]; split <;> simp
theorem kids_toks : ∀ (l : List Tr), l.length ≤ ((l.map toks).flatten).length
  | [] => by simp
  | t :: l => by
    have := toks_ne t
    have := kids_toks l
    simp only [List.length_cons, List.map_cons, List.flatten_cons, List.length_append]
    omega
theorem took_kids : ∀ (rs : List Tr), ∀ t ∈ rs, t.kids.length ≤ (took rs).length
  | [], t, h => by cases h
  | [b], t, h => by
    simp at h
    subst h
    exact kids_toks _
  | x :: y :: r, t, h => by
    rw [took_cons, List.length_append, List.length_cons]
    rcases List.mem_cons.1 h with rfl | h
    · have := kids_toks t.kids
      omega
    · have := took_kids (y :: r) t h
      omega
theorem refu_lt {rs : List Tr} {t : Tok} (h : refu rs t = 0) (hl : rs.length ≤ 41) : (put rs t).length ≤ 41 := by
  unfold put
  split
  · simp
  · rename_i x r
    split
    · rename_i k1
      simp only [List.length_cons] at hl ⊢
      have : r.length + 1 ≠ 41 := fun e => by simp [refu, k1, e] at h
      omega
    · split
      · split
        · simp
        · simp only [List.length_cons] at hl ⊢; omega
      · simpa using hl
theorem bottom {rs : List Tr} (h : rs ≠ []) : ∃ b, rs.getLast? = some b ∧ rs.reverse[0]? = some b := by
  refine ⟨rs.getLast h, List.getLast?_eq_some_getLast h, ?_⟩
  rw [← List.head?_eq_getElem?, List.head?_reverse, List.getLast?_eq_some_getLast h]
theorem stk_ne {rs : List Tr} (h : Stk rs) : rs ≠ [] := fun e => by subst e; exact h
theorem refu_cases (rs : List Tr) (t : Tok) : refu rs t = 0 ∨ refu rs t = 11 ∨ refu rs t = 12 ∨ refu rs t = 14 := by
  unfold refu
  repeat' split
  all_goals simp
theorem four_cells {w : World} {b : Nat} {z0 z1 z2 z3 : Value} {e : TypeId} (h : w.heap[b]? = some (.cells #[z0, z1, z2, z3] e (0, 0))) : w.cell? ⟨b, 0, none⟩ = some z0 ∧ w.cell? ⟨b, 1, none⟩ = some z1 ∧ w.cell? ⟨b, 2, none⟩ = some z2 ∧ w.cell? ⟨b, 3, none⟩ = some z3 ∧ w.frozen? ⟨b, 0, none⟩ = false ∧ w.frozen? ⟨b, 1, none⟩ = false ∧ w.frozen? ⟨b, 2, none⟩ = false ∧ w.frozen? ⟨b, 3, none⟩ = false := by
  refine ⟨?_, ?_, ?_, ?_, frozen_of_row w b 0 _ e h, frozen_of_row w b 1 _ e h, frozen_of_row w b 2 _ e h, frozen_of_row w b 3 _ e h⟩ <;> rw [cell_of_row w b _ _ e (0, 0) h] <;> rfl
theorem box_set {w : World} {b : Nat} {z0 z1 z2 z3 : Value} {e : TypeId} (h : w.heap[b]? = some (.cells #[z0, z1, z2, z3] e (0, 0))) (a0 a1 a2 a3 : Value) : ((((w.setCell ⟨b, 0, none⟩ a0).setCell ⟨b, 1, none⟩ a1).setCell ⟨b, 2, none⟩ a2).setCell ⟨b, 3, none⟩ a3).heap[b]? = some (.cells #[a0, a1, a2, a3] e (0, 0)) :=
  heap_setCell_same _ _ 3 _ e a3 (heap_setCell_same _ _ 2 _ e a2 (heap_setCell_same _ _ 1 _ e a1 (heap_setCell_same _ _ 0 _ e a0 h)))
theorem box_kept {S : Nat → Prop} {w w' : World} (h : Kept S w w') (b : Nat) (a0 a1 a2 a3 : Value) : Kept (fun k => S k ∨ k = b) w ((((w'.setCell ⟨b, 0, none⟩ a0).setCell ⟨b, 1, none⟩ a1).setCell ⟨b, 2, none⟩ a2).setCell ⟨b, 3, none⟩ a3) :=
  ((((h.mono (T := fun k => S k ∨ k = b) (fun _ _ h => .inl h)).setCell (p := ⟨b, 0, none⟩) (fun _ => .inr rfl) _).setCell (p := ⟨b, 1, none⟩) (fun _ => .inr rfl) _).setCell (p := ⟨b, 2, none⟩) (fun _ => .inr rfl) _).setCell (p := ⟨b, 3, none⟩) (fun _ => .inr rfl) _
theorem box_below {B : Nat} {w w' : World} (h : Below B w w') {b : Nat} (hb : B ≤ b) (a0 a1 a2 a3 : Value) : Below B w ((((w'.setCell ⟨b, 0, none⟩ a0).setCell ⟨b, 1, none⟩ a1).setCell ⟨b, 2, none⟩ a2).setCell ⟨b, 3, none⟩ a3) :=
  (((h.setCell (p := ⟨b, 0, none⟩) hb _).setCell (p := ⟨b, 1, none⟩) hb _).setCell (p := ⟨b, 2, none⟩) hb _).setCell (p := ⟨b, 3, none⟩) hb _
theorem res_cell3 {P : Program} {fn : Func} {p u v : Tmp} {ty : TypeId} (h : fn.results = #[.cell p ty, .tmp u, .tmp v]) (tmps : Array Value) (w : World) (g : Nat) (t : TypeId) (cs : Array Value) (fr : Nat × Nat) (d : TypeDesc)
    (hp : tmps.getD p undef = .pointer (some ⟨g, 0, none⟩)) (hg : w.heap[g]? = some (.cells cs t fr))
    (hu : P.underlying ty = some d) (hd : (match d with | .struct _ | .array _ _ => true | _ => false) = true) (hi : (P.info? ty).map (·.size) = some cs.size) :
    (results fn tmps).run P w = .ok (.tuple #[.agg cs, tmps.getD u undef, tmps.getD v undef]) w := by
  have hp' : tmps[p]?.getD undef = .pointer (some ⟨g, 0, none⟩) := by simpa using hp
  simp [results, h, hp', asAddr, run_loadVar_row w g t ty cs fr d hg hu hd hi]
theorem sizeTr : (Try.prog.info? 27).map (·.size) = some 4 := by kernel_rfl
theorem stk0 (w1 : World) : StkM (fun _ => False) w1.heap.size (w1.alloc (.cells #[.int .i64 0, .int .i64 0, .string ⟨#[]⟩, .slice none 0 0] 27)) (.slice (some ⟨w1.heap.size, 0, none⟩) 1 1) [root].reverse [.slice none 0 0] := by
  have one : ∀ (i : Nat) (v : Value), ([.slice none 0 0] : List Value)[i]? = some v → i = 0 ∧ v = .slice none 0 0 := by
    intro i v hv
    obtain ⟨h1, h2⟩ := List.getElem?_eq_some_iff.1 hv
    simp at h1 h2
    exact ⟨h1, h2.symm⟩
  refine ⟨rfl, World.ownsRow_lit (base := w1.heap.size) w1 _ 1 (Nat.le_refl _) (by decide) rfl, fun i t v ht hv => ?_, fun i v g hv hg => ?_, fun i j v v' g hv hv' _ _ => ?_, fun g hg => hg.elim, fun g _ hg => hg⟩
  · obtain ⟨rfl, rfl⟩ := one i v hv
    simp at ht
    subst ht
    exact OwnK.nil _ _ _ _
  · obtain ⟨rfl, rfl⟩ := one i v hv
    simp [Value.ownBlock] at hg
  · rw [(one i v hv).1, (one j v' hv').1]
def zTree : Obj := .cells #[.int .i64 0, .int .i64 0, .string ⟨#[]⟩, .slice none 0 0] 27

set_option maxHeartbeats 1600000 in
set_option maxRecDepth 1000000 in
theorem parse (s : ByteArray) (w : World) : Calls Try.prog 5 #[.string s] w (PE (parseR s.data.toList) w) := by
  have hsp := fun w => split s w
  cases hs : splitR s.data.toList with
  | error yb =>
    obtain ⟨y, b⟩ := yb
    have HR : Hid (parseR s.data.toList = .error (y, b)) := by simp [Hid, parseR, hs]
    have hy := split_why _ _ _ hs
    have hy' : ((y : Int) != 0) = true := by rw [bne_iff_ne]; omega
    rw [hs] at hsp
    clear hs hy
    go_enter Try.func5, Try.ntmps5
    go_wp2_with fail
    refine (hsp _).mono ?_
    rintro e w1 ⟨he, hbl⟩
    simp only at he
    subst he
    have hbox : w1.heap[w.heap.size]? = some zTree := by
      rw [hbl.block _ (by simp)]
      exact heap_alloc_new w _
    obtain ⟨d0, d1, d2, d3, f0, f1, f2, f3⟩ := four_cells hbox
    have hB : Below w.heap.size w w1 := ((Below.refl _ w).alloc (Nat.le_refl _) _).trans (hbl.mono (by simp))
    clear hbl hsp
    go_wp2
    (try simp only [Exit.inBlock, Exit.then])
    refine bodyPost_ret (res_cell3 rfl _ _ w.heap.size 27 _ (0, 0) _ rfl (box_set hbox _ _ _ _) Try.underlying27 rfl sizeTr) rfl ?_
    exact pe_no HR.out rfl rfl rfl (box_below hB (Nat.le_refl _) _ _ _ _)
  | ok l =>
    rw [hs] at hsp
    by_cases hl0 : l = []
    · subst hl0
      have HR : Hid (parseR s.data.toList = .error (12, s.size)) := by simp [Hid, parseR, hs]
      clear hs
      go_enter Try.func5, Try.ntmps5
      go_wp2_with fail
      refine (hsp _).mono ?_
      rintro e w1 ⟨⟨v, rfl, hown⟩, hbl⟩
      obtain ⟨va, vc, rfl⟩ := (RdT.own hown).shape
      have hbox : w1.heap[w.heap.size]? = some zTree := by
        rw [hbl.block _ (by simp)]
        exact heap_alloc_new w _
      obtain ⟨d0, d1, d2, d3, f0, f1, f2, f3⟩ := four_cells hbox
      have hB : Below w.heap.size w w1 := ((Below.refl _ w).alloc (Nat.le_refl _) _).trans (hbl.mono (by simp))
      clear hbl hsp hown
      go_wp2
      (try simp only [Exit.inBlock, Exit.then])
      refine bodyPost_ret (res_cell3 rfl _ _ w.heap.size 27 _ (0, 0) _ rfl (box_set hbox _ _ _ _) Try.underlying27 rfl sizeTr) rfl ?_
      exact pe_no HR.out rfl rfl rfl (box_below hB (Nat.le_refl _) _ _ _ _)
    · obtain ⟨hl1, hl2⟩ := split_size hs
      have hgd := split_good hs
      have HP : Hid (parseR s.data.toList = run s.size [root] l) := by simp [Hid, parseR, hs, hl0]
      have hlp : 0 < l.length := List.length_pos_iff.2 hl0
      have hlz : ((l.length : Int) == 0) = false := by rw [beq_eq_false_iff_ne]; omega
      clear hs
      go_enter Try.func5, Try.ntmps5
      go_wp2_with fail
      refine (hsp _).mono ?_
      rintro e w1 ⟨⟨v, rfl, hown⟩, hbl⟩
      rcases RdT.own hown with ⟨_, h0⟩ | ⟨ga, cap, rfl, hcells⟩
      · exact absurd h0 hl0
      have hbox : w1.heap[w.heap.size]? = some zTree := by
        rw [hbl.block _ (by simp)]
        exact heap_alloc_new w _
      have hB : Below w.heap.size w w1 := ((Below.refl _ w).alloc (Nat.le_refl _) _).trans (hbl.mono (by simp))
      have hbs : w.heap.size < w1.heap.size := (Array.getElem?_eq_some_iff.1 hbox).1
      have hS0 := stk0 w1
      have hBA : Below w1.heap.size w1 (w1.alloc (.cells #[.int .i64 0, .int .i64 0, .string ⟨#[]⟩, .slice none 0 0] 27)) := (Below.refl _ w1).alloc (Nat.le_refl _) _
      clear hbl hsp hown
      go_wp2
      go_loopg [8, 33] l.length (fun g sv i wr => ∃ (k : Nat) (rs : List Tr) (F : Nat → Prop) (vs : List Value), g + k = l.length ∧ i = .int .i64 k ∧ Stk rs ∧ took rs = l.take k ∧ rs.length ≤ 41 ∧ StkM F w1.heap.size wr sv rs.reverse vs ∧ Below w1.heap.size w1 wr ∧ Hid (run s.size rs (l.drop k) = run s.size [root] l))
      case atStart => exact ⟨0, [root], _, _, rfl, rfl, stk_root, rfl, by simp, hS0, hBA, rfl⟩
      case round =>
        obtain ⟨k, rs, F, vs, hg, rfl, hstk, htook, hrl, hS, hbl, hrun⟩ := hrel
        clear hS0 hBA
        have hne := stk_ne hstk
        have hr0 : 0 < rs.length := List.length_pos_iff.2 hne
        obtain ⟨b, hb1, hb2⟩ := bottom hne
        obtain ⟨gs, caps, rfl, hgb, hgl, hc1, hc2⟩ := hS.shape (by simpa using hr0)
        obtain ⟨kv, _, hok, _, _, _, hk3, _⟩ := hS.cells hb2
        obtain ⟨ka, kc, rfl⟩ := hok.shape
        rw [List.length_reverse] at hS ⊢
        rw [show 0 * 4 + 3 = 3 from rfl] at hk3
        by_cases hk : k < l.length
        · obtain ⟨t0, t1, t2⟩ := tcs_get l k hk
          have a0 := hcells _ _ t0
          have a1 := hcells _ _ t1
          have a2 := hcells _ _ t2
          have hga : ga < w1.heap.size := World.block_lt_of_cell? w1 _ a0
          have q0 := (hbl.cell (p := ⟨ga, k * 3, none⟩) hga).trans a0
          have q1 := (hbl.cell (p := ⟨ga, k * 3 + 1, none⟩) hga).trans a1
          have q2 := (hbl.cell (p := ⟨ga, k * 3 + 2, none⟩) hga).trans a2
          have hki : (k : Int) < (l.length : Int) := by omega
          have hkin := hgd l[k] (List.getElem_mem hk)
          have hd : l.drop k = l[k] :: l.drop (k + 1) := List.drop_eq_getElem_cons hk
          have htk : l.take (k + 1) = l.take k ++ [l[k]] := List.take_succ_eq_append_getElem hk
          have hri := refI_eq hb1 l[k]
          have hrun' := hrun.out
          rw [hd, run] at hrun'
          have hkl : ∀ t ∈ rs, t.kids.length ≤ 8192 := fun t ht => by
            have := took_kids rs t ht
            rw [htook, List.length_take] at this
            omega
          generalize hT : l[k] = tok at *
          clear t0 t1 t2 a0 a1 a2 hd hrun hT
          by_cases hr : refu rs tok = 0
          · rw [if_pos hr] at hrun'
            have HRn : Hid (run s.size (put rs tok) (l.drop (k + 1)) = run s.size [root] l) := hrun'
            rw [hr] at hri
            obtain ⟨p1, p2, _, _⟩ := stk_put hstk hr hkin.kind
            have p3 := refu_lt hr hrl
            clear hrun'
            go_wp2_with fail
            refine (refusal gs rs.length caps tok.kind b.kids.length kc ka _ (by omega) (by omega) (((Kept.refl (fun _ => False) wr).alloc _).cell hk3 (fun h => h))).mono ?_
            rw [hri]
            rintro e w2 ⟨rfl, rfl⟩
            go_wp2_with fail
            refine (take F w1.heap.size _ _ rs vs tok (hS.alloc _) (by simp; have := hbl.size; omega) hne hrl hr hkl).mono ?_
            rintro e w3 ⟨F', sv', vs', rfl, hS', hb'⟩
            have hbl' := (hbl.alloc hbl.size (.cells #[.int .i64 (tok.kind : Int), .int .i64 (tok.place : Int), .string (str tok.text)] 45)).trans hb'
            clear hS hb' hbl hok hk3 q0 q1 q2
            go_wp2
            go_roundg (l.length - (k + 1))
            case measure => omega
            case rel => exact ⟨k + 1, put rs tok, F', vs', by omega, by go_num, p1, by rw [p2, htook, htk], p3, hS', hbl', HRn⟩
          · rw [if_neg hr] at hrun'
            have HR : Hid (parseR s.data.toList = .error (refu rs tok, tok.place)) := by rw [HP.out]; exact hrun'.symm
            have hrn : ((refu rs tok : Int) != 0) = true := by rw [bne_iff_ne]; omega
            clear hrun' hr
            generalize refu rs tok = y at *
            have hbox' : wr.heap[w.heap.size]? = some zTree := by
              rw [hbl.block _ hbs]
              exact hbox
            obtain ⟨d0, d1, d2, d3, f0, f1, f2, f3⟩ := four_cells hbox'
            go_wp2_with fail
            refine (refusal gs rs.length caps tok.kind b.kids.length kc ka _ (by omega) (by omega) (((Kept.refl (fun _ => False) wr).alloc _).cell hk3 (fun h => h))).mono ?_
            rw [hri]
            rintro e w2 ⟨rfl, rfl⟩
            have KA : Kept (fun _ => False) wr (wr.alloc (.cells #[.int .i64 (tok.kind : Int), .int .i64 (tok.place : Int), .string (str tok.text)] 45)) := (Kept.refl _ wr).alloc _
            have e0 := KA.cell d0 (fun h => h)
            have e1 := KA.cell d1 (fun h => h)
            have e2 := KA.cell d2 (fun h => h)
            have e3 := KA.cell d3 (fun h => h)
            have hbox2 : (wr.alloc (.cells #[.int .i64 (tok.kind : Int), .int .i64 (tok.place : Int), .string (str tok.text)] 45)).heap[w.heap.size]? = some zTree := (KA.block _ (by have := hbl.size; omega) (fun h => h)).trans hbox'
            obtain ⟨_, _, _, _, z0, z1, z2, z3⟩ := four_cells hbox2
            go_wp2
            go_region
            all_goals (
              go_wp2
              (try simp only [Exit.inBlock, Exit.then])
              refine bodyPost_ret (res_cell3 rfl _ _ w.heap.size 27 _ (0, 0) _ rfl (box_set hbox2 _ _ _ _) Try.underlying27 rfl sizeTr) rfl ?_
              exact pe_no HR.out rfl rfl rfl (box_below ((hB.trans (hbl.mono (Nat.le_of_lt hbs))).alloc (by have := hbl.size; omega) _) (Nat.le_refl _) _ _ _ _).drew)
        · have hk' : k = l.length := by omega
          subst hk'
          have hrun' := hrun.out
          rw [List.drop_length] at hrun'
          have hbox' : wr.heap[w.heap.size]? = some zTree := by
            rw [hbl.block _ hbs]
            exact hbox
          obtain ⟨d0, d1, d2, d3, f0, f1, f2, f3⟩ := four_cells hbox'
          have hki : ¬ (l.length : Int) < (l.length : Int) := by omega
          have hBw := hB.trans (hbl.mono (Nat.le_of_lt hbs))
          have hsz := hbl.size
          by_cases h1 : 1 < rs.length
          · have HR : Hid (parseR s.data.toList = .error (10, s.size)) := by
              rw [Hid, HP.out, ← hrun', run_end h1]
            have h1' : (0 : Int) < (rs.length : Int) - 1 := by omega
            clear hrun' hrun
            go_wp2_with fail
            refine (opened _ rs.length caps _ (by omega)).mono ?_
            rintro e w2 ⟨rfl, rfl⟩
            go_wp2
            (try simp only [Exit.inBlock, Exit.then])
            refine bodyPost_ret (res_cell3 rfl _ _ w.heap.size 27 _ (0, 0) _ rfl (box_set hbox' _ _ _ _) Try.underlying27 rfl sizeTr) rfl ?_
            exact pe_no HR.out rfl rfl rfl (box_below hBw (Nat.le_refl _) _ _ _ _)
          · have hrs : rs = [b] := by
              cases rs with
              | nil => exact absurd rfl hne
              | cons x r =>
                have : r = [] := List.eq_nil_of_length_eq_zero (by simp only [List.length_cons] at h1; omega)
                subst this
                simp at hb1
                rw [hb1]
            subst hrs
            have hbk : b.kids ≠ [] := fun e => by
              rw [List.take_length] at htook
              simp [took, e] at htook
              exact hl0 htook
            obtain ⟨x, xr, hx⟩ := List.exists_cons_of_ne_nil hbk
            have HR : Hid (parseR s.data.toList = .ok x) := by
              rw [Hid, HP.out, ← hrun', run_whole hx]
            have hsh := hok.shut
            rw [hx] at hsh
            obtain ⟨gk, capk, kv, hkv, hgk, hkt, c0, c1, c2, c3⟩ := hsh.at 0 (by simp)
            simp only [List.getElem_cons_zero, Nat.zero_mul, Nat.zero_add] at hkt c0 c1 c2 c3
            obtain ⟨xa, xc, rfl⟩ := hkt.shape
            rw [hx] at hk3
            simp only [List.length_cons] at hkv hkt hk3
            cases hkv
            have hi0 : (0 : Int) < (xr.length : Int) + 1 := by omega
            have hF : ∀ g, (F g ∨ (Value.slice (some ⟨gk, 0, none⟩) (xr.length + 1) kc).ownBlock = some g) → w1.heap.size ≤ g ∧ g < wr.heap.size := by
              rintro g (hg | hg)
              · exact hS.lies g hg
              · exact hok.lt g hg
            clear hrun' hrun h1
            go_wp2_with fail
            refine (opened _ 1 caps _ (by omega)).mono ?_
            rintro e w2 ⟨rfl, rfl⟩
            go_wp2
            (try simp only [Exit.inBlock, Exit.then])
            refine bodyPost_ret (res_cell3 rfl _ _ w.heap.size 27 _ (0, 0) _ rfl (box_set hbox' _ _ _ _) Try.underlying27 rfl sizeTr) rfl ?_
            refine pe_ok HR.out rfl ?_ (box_below hBw (Nat.le_refl _) _ _ _ _)
            have KB := box_kept (Kept.refl (fun _ => False) w2) w.heap.size (.int .i64 (x.kind : Int)) (.int .i64 (x.place : Int)) (.string (str x.text)) (.slice xa x.kids.length xc)
            refine (hkt.kept KB (fun g hg => ⟨(hF g hg).2, fun h => ?_⟩)).mono (fun g hg => ?_)
            · rcases h with h | h
              · exact h
              · have := (hF g hg).1
                omega
            · have := hF g hg
              have := KB.size
              omega
end Go.Proofs.Ytchfhkfepghfjaa
