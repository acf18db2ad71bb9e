/-
  The reference's Reader: what each call does.
-/
import Derived.Test.YtbhcmhbicbhgmaaWireRefs
import Derived.Deep.RegionHeld3
import Derived.Deep.RegionWith
namespace Go.Proofs.Ytbhcmhbicbhgmaa.Wire
open Go.RowKit

/-- append onto a row of the call's own, at a step of a region that draws its order. -/
theorem step_append_row {P : Program} (w : World) {ops : Array Oper} {o : Oper} {a : Act} {K : Act → World → Prop} {Q : Exit → Act → World → Prop} {E : Prop} (hgd : o.guard = none) (s x : Operand) (t tx : TypeId)
    (ho : o.op = .call { callee := .builtin .append, args := #[s, x], argTypes := #[t, tx] }) (ht : P.underlying t = some (.slice 5)) (hinfo : (P.info? 5).map (fun i => (i.zero, i.size, i.bytes)) = some (some (.int .u8 0), 1, 1))
    (v : Value) (g : Nat) (l : List Nat) (hs : a.eval s = v) (hv : Row w g v l) (xv : Value) (m : Nat) (news : List Nat) (hx : a.eval x = xv) (hsrc : Src P 1 tx xv m (bs news) w) (hlen : l.length + news.length ≤ 140737488355328)
    (h : ∀ v' w' g', Row w' g' v' (l ++ news) → (g' = g ∨ g' < w'.heap.size ∧ w.heap.size ≤ g') → (v'.ownBlock = v.ownBlock ∨ v'.ownBlock = some w.heap.size) → w.grownBy w' v.ownBlock → (v' = .slice none 0 0 ↔ v = .slice none 0 0 ∧ news = []) → K (a.put o.dst v') w') :
    if Region.wanted o (yielded ops a.tmps) = true then Oper.wp P o a w K Q else E := by
  have hw : Region.wanted o (yielded ops a.tmps) = true := by simp [Region.wanted, hgd]
  rw [if_pos hw]
  obtain ⟨v', w', hr, h2, h3, h4, h5⟩ := run_append_row (P := P) w t tx o.type ht hinfo hv hsrc hlen
  unfold Oper.wp execOp
  simp only [ho, resolve, invoke, builtin, Sem.run_bind, Sem.run_pure, Result.andThen_ok, List.map_toArray, List.map_cons, List.map_nil, hs, hx, hr]
  rcases h3 with e | e
  · exact h v' w' g ⟨h2, by rw [e]; exact hv.2⟩ (Or.inl rfl) (Or.inl e) h4 h5
  · exact h v' w' w.heap.size ⟨h2, Or.inr e⟩ (Or.inr ⟨(h2.lt _ e).2, Nat.le_refl _⟩) (Or.inr e) h4 h5

theorem Rd.addr2 {w : World} {b : Nat} {v : Value} {l : List Nat} (h : Rd w b v l) (hl : 0 < l.length) : ∃ off cap, v = .slice (some ⟨b, off, none⟩) l.length cap ∧ ∀ s c, s ≤ l.length → Rd w b (.slice (some ⟨b, off, none⟩) s c) (l.take s) := by
  rcases h with ⟨_, rfl⟩ | ⟨a, cap, rfl, rfl, hc⟩
  · simp at hl
  · obtain ⟨ab, ao, asp⟩ := a
    have h0 := hc 0 ((bs l)[0]'(by rw [bs_length]; exact hl)) (List.getElem?_eq_getElem _)
    have hsp : asp = none := by simpa [Addr.add] using World.cell?_spot h0
    subst hsp
    refine ⟨ao, cap, rfl, fun s c hs => .inr ⟨⟨ab, ao, none⟩, c, ?_, rfl, fun j u hu => hc j u ?_⟩⟩
    · rw [List.length_take, Nat.min_eq_left hs]
    · rw [bs, List.map_take, List.getElem?_take] at hu
      split at hu
      · exact hu
      · simp at hu

theorem Rd.sub {w : World} {b0 off c : Nat} {l : List Nat} (h : Rd w b0 (.slice (some ⟨b0, off, none⟩) l.length c) l) (A m k0 c' : Nat) (hm : A + m ≤ l.length) (hk : k0 = A → m = 0) : Rd w b0 (.slice (if k0 = A then some ⟨b0, off, none⟩ else some ⟨b0, off + A, none⟩) m c') ((l.drop A).take m) := by
  have hlen : ((l.drop A).take m).length = m := by simp; omega
  have hc : ∀ j u, (bs l)[j]? = some u → w.cell? ((⟨b0, off, none⟩ : Addr).add j) = some u := by
    rcases h with ⟨h, _⟩ | ⟨a, cap, h, _, hc⟩
    · simp at h
    · simp at h
      rw [h.1]
      exact hc
  by_cases e : k0 = A
  · have hm0 := hk e
    subst hm0
    rw [if_pos e]
    exact .inr ⟨_, c', by rw [hlen], rfl, fun j u hu => by simp [bs] at hu⟩
  · rw [if_neg e]
    refine .inr ⟨_, c', by rw [hlen], rfl, fun j u hu => ?_⟩
    have hj : j < m := by
      have := (List.getElem?_eq_some_iff.1 hu).1
      rw [bs_length, hlen] at this
      exact this
    have e1 : (⟨b0, off + A, none⟩ : Addr).add j = (⟨b0, off, none⟩ : Addr).add (A + j) := by
      unfold Addr.add
      split <;> split <;> simp_all <;> omega
    rw [e1]
    refine hc (A + j) u ?_
    rw [bs, List.getElem?_map, List.getElem?_take, if_pos hj, List.getElem?_drop] at hu
    rw [bs, List.getElem?_map]
    exact hu
theorem Rd.shape3' {w : World} {b : Nat} {v : Value} {l : List Nat} (h : Rd w b v l) : ∃ a n c, v = .slice a n c := by
  obtain ⟨a, c, e⟩ := h.shape
  exact ⟨a, _, c, e⟩
theorem Rd.keptE {S : Nat → Prop} {w w' : World} {b : Nat} {v : Value} {l : List Nat} (h : Rd w b v l) (k : Kept S w w') (hb : S b → l = []) : Rd w' b v l := by
  by_cases hS : S b
  · have hl := hb hS
    subst hl
    rcases h with h | ⟨a, cap, h1, h2, _⟩
    · exact .inl h
    · exact .inr ⟨a, cap, h1, h2, fun j u hu => by simp [bs] at hu⟩
  · exact h.kept k hS

/-- The reference's Reader in block b over the bytes behind bv: its five cells. -/
def QBox (w : World) (b : Nat) (bv : Value) (A : Nat) (r : Bool) (Y Z : Nat) : Prop := Box w b #[bv, .int .i64 A, .bool r, .int .i64 Y, .int .i64 Z]

/-- The same, by what it tells: at place p, refused with why (0: not). -/
def QIs (w : World) (b b0 : Nat) (bv : Value) (l : List Nat) (p why : Nat) : Prop := ∃ A r Y Z, QBox w b bv A r Y Z ∧ Rd w b0 bv l ∧ (b = b0 → l = []) ∧ A ≤ l.length ∧ ((why = 0 ∧ r = false ∧ A = p) ∨ (why ≠ 0 ∧ r = true ∧ Y = why ∧ Z = p))

theorem QIs.kept {S : Nat → Prop} {w w' : World} {b b0 : Nat} {bv : Value} {l : List Nat} {p why : Nat} (h : QIs w b b0 bv l p why) (k : Kept S w w') (hb : ¬ S b) (hb0 : S b0 → l = []) : QIs w' b b0 bv l p why := by
  obtain ⟨A, r, Y, Z, h1, h2, h3, h4, h5⟩ := h
  exact ⟨A, r, Y, Z, Box.kept h1 k hb, h2.keptE k hb0, h3, h4, h5⟩
theorem QIs.lt {w : World} {b b0 : Nat} {bv : Value} {l : List Nat} {p why : Nat} (h : QIs w b b0 bv l p why) : b < w.heap.size := by
  obtain ⟨A, r, Y, Z, h1, _⟩ := h
  exact Box.lt h1

theorem qcells {w : World} {b : Nat} {bv : Value} {A : Nat} {r : Bool} {Y Z : Nat} (h : QBox w b bv A r Y Z) : w.cell? ⟨b, 0, none⟩ = some bv ∧ w.cell? ⟨b, 1, none⟩ = some (.int .i64 A) ∧ w.cell? ⟨b, 2, none⟩ = some (.bool r) ∧ w.cell? ⟨b, 3, none⟩ = some (.int .i64 Y) ∧ w.cell? ⟨b, 4, none⟩ = some (.int .i64 Z) ∧ ∀ i, w.frozen? ⟨b, i, none⟩ = false :=
  ⟨Box.cell h 0, Box.cell h 1, Box.cell h 2, Box.cell h 3, Box.cell h 4, fun i => Box.frozen h i⟩

set_option maxHeartbeats 800000 in
theorem qrefuse (y z b : Nat) (bv : Value) (A : Nat) (r : Bool) (Y Z : Nat) (w : World) (hq : QBox w b bv A r Y Z) :
    Calls Try.prog 69 #[.pointer (some ⟨b, 0, none⟩), .int .i64 y, .int .i64 z] w fun e w' => e = .returned (.tuple #[]) ∧ QBox w' b bv A true (if r then Y else y) (if r then Z else z) ∧ Kept (fun k => k = b) w w' := by
  obtain ⟨c0, c1, c2, c3, c4, hf⟩ := qcells hq
  have f2 := hf 2
  have f3 := hf 3
  have f4 := hf 4
  clear hf
  cases r with
  | true =>
    go_enter Try.func69, Try.ntmps69
    go_wp2
    go_end0
    exact ⟨rfl, hq, Kept.refl _ _⟩
  | false =>
    go_enter Try.func69, Try.ntmps69
    go_wp2
    go_end0
    exact ⟨rfl, ((hq.set 2 (.bool true)).set 3 (.int .i64 y)).set 4 (.int .i64 z), ((kept_set w b 2 _).trans (kept_set _ b 3 _) (fun _ _ h => h) (fun _ _ h => h)).trans (kept_set _ b 4 _) (fun _ _ h => h) (fun _ _ h => h)⟩

/-- What becomes of the Reader when n bytes are asked for. -/
def QRaw (w' : World) (b : Nat) (bv : Value) (l : List Nat) (A : Nat) (r : Bool) (Y Z : Nat) (n : Int) (l' : List Nat) : Prop :=
  ((r = true ∨ n < 0) ∧ l' = [] ∧ QBox w' b bv A r Y Z) ∨ (r = false ∧ 0 ≤ n ∧ ((l.length - A : Nat) : Int) < n ∧ l' = [] ∧ QBox w' b bv A true 10 l.length) ∨ (r = false ∧ 0 ≤ n ∧ n ≤ ((l.length - A : Nat) : Int) ∧ l' = (l.drop A).take n.toNat ∧ QBox w' b bv (A + n.toNat) false Y Z)

def QRawE (w : World) (b : Nat) (bv : Value) (l : List Nat) (A : Nat) (r : Bool) (Y Z : Nat) (n : Int) (e : Ending) (w' : World) : Prop :=
  ∃ v' g l', e = .returned v' ∧ Row w' g v' l' ∧ w.heap.size ≤ g ∧ Kept (fun k => k = b) w w' ∧ QRaw w' b bv l A r Y Z n l'

set_option maxHeartbeats 1600000 in
set_option maxRecDepth 1000000 in
theorem qraw_box (n : Int) (b b0 : Nat) (bv : Value) (l : List Nat) (A : Nat) (r : Bool) (Y Z : Nat) (w : World) (hn : n < 9223372036854775808) (hl : l.length ≤ 140737488351232) (hA : A ≤ l.length) (hq : QBox w b bv A r Y Z) (hrd : Rd w b0 bv l) (hcap : ∃ a m c, bv = .slice a m c ∧ m ≤ c ∧ c ≤ maxLen) :
    Calls Try.prog 64 #[.pointer (some ⟨b, 0, none⟩), .int .i64 n] w (QRawE w b bv l A r Y Z n) := by
  obtain ⟨c0, c1, c2, c3, c4, hf⟩ := qcells hq
  obtain ⟨a0, m0, k0, rfl, hmc, hcm⟩ := hcap
  have hm0 : m0 = l.length := by
    obtain ⟨a, c, h⟩ := hrd.shape
    simp at h
    exact h.2.1
  subst hm0
  by_cases h0 : r = true ∨ n < 0
  · rcases h0 with rfl | h0
    · go_enter Try.func64, Try.ntmps64
      go_wp2
      go_ret
      exact ⟨_, w.heap.size, [], rfl, Row.nil _ _, Nat.le_refl _, Kept.refl _ _, .inl ⟨Or.inl rfl, rfl, hq⟩⟩
    · cases r
      all_goals
        go_enter Try.func64, Try.ntmps64
        go_wp2
        go_ret
        exact ⟨_, w.heap.size, [], rfl, Row.nil _ _, Nat.le_refl _, Kept.refl _ _, .inl ⟨Or.inr h0, rfl, hq⟩⟩
  · obtain ⟨hr, hn0⟩ : r = false ∧ 0 ≤ n := by
      refine ⟨?_, by omega⟩
      cases r with
      | true => exact absurd (Or.inl rfl) h0
      | false => rfl
    subst hr
    clear h0
    by_cases hlt : (l.length : Int) - A < n
    · go_enter Try.func64, Try.ntmps64
      go_wp2
      go_quiet (fail)
      go_wp2_with fail
      refine (qrefuse 10 l.length b _ A false Y Z _ (Box.kept hq (kept_drewN w _) (fun h => h))).mono ?_
      rintro e w' ⟨rfl, h1, h2⟩
      go_wp2
      go_ret
      have hk := (kept_drewN w _).trans h2 (fun _ _ h => h.elim) (fun _ _ h => h)
      exact ⟨_, w'.heap.size, [], rfl, Row.nil _ _, hk.size, hk, .inr (.inl ⟨rfl, hn0, by omega, rfl, h1⟩)⟩
    · have hf1 := hf 1
      have hlen : ((l.drop A).take n.toNat).length = n.toNat := by simp; omega
      by_cases hne : 0 < l.length
      · obtain ⟨off, cap, hbv, hsub⟩ := hrd.addr2 hne
        simp only [Value.slice.injEq, true_and] at hbv
        obtain ⟨rfl, rfl⟩ := hbv
        unfold maxLen at hcm
        clear hsub
        have hpm : (A : Int) + n ≤ l.length := by omega
        have hpk : (A : Int) + n ≤ k0 := by omega
        have hA0 : (0 : Int) ≤ A := by omega
        have hAn : (A : Int) ≤ A + n := by omega
        have hwrap : IntKind.i64.wrap ((A : Int) + n) = A + n := by rw [IntKind.wrap_i64]; omega
        go_enter Try.func64, Try.ntmps64
        go_wp2
        go_quiet (fail)
        go_wp2
        have hqa : QBox (w.drewN nq) b (.slice (some ⟨b0, off, none⟩) l.length k0) A false Y Z := hq
        have hrda : Rd (w.drewN nq) b0 (.slice (some ⟨b0, off, none⟩) l.length k0) l := hrd
        have hka := kept_drewN w nq
        clear c0 c1 c2 c3 c4 hf hf1 hq hrd
        obtain ⟨c0, c1, c2, c3, c4, hf⟩ := qcells hqa
        generalize w.drewN nq = wq at hqa hrda hka c0 c1 c2 c3 c4 hf ⊢
        have hrow0 : Row (wq.alloc (.cells #[] 5)).drew wq.heap.size (.slice (some ⟨wq.heap.size, 0, none⟩) 0 0) [] := Row.lit wq [] (by simp)
        have hbq := Box.lt hqa
        have hsrc0 : Src Try.prog 1 28 (.slice (if k0 = A then some ⟨b0, off, none⟩ else some ⟨b0, off + A, none⟩) (((A : Int) + n).toNat - A) (k0 - A)) ((l.drop A).take n.toNat).length (bs ((l.drop A).take n.toNat)) (wq.alloc (.cells #[] 5)).drew := by
          have h := Rd.sub (hrda.alloc (.cells #[] 5)) A n.toNat k0 (k0 - A) (by omega) (by omega)
          rw [show ((A : Int) + n).toNat - A = n.toNat by omega]
          exact Rd.src (w := (wq.alloc (.cells #[] 5)).drew) h Try.underlying28
        have hlen0 : ([] : List Nat).length + ((l.drop A).take n.toNat).length ≤ 140737488355328 := by rw [hlen]; simp; omega
        go_region_held3 (fun u => u.cell? ⟨b, 0, none⟩ = some (.slice (some ⟨b0, off, none⟩) l.length k0) ∧ u.cell? ⟨b, 1, none⟩ = some (.int .i64 A)) (first | go_keep | exact ⟨by assumption, by assumption⟩) ((refine step_append_row _ (by rfl) (.tmp 33) (.tmp 48) 28 28 (by rfl) Try.underlying28 Try.info5 _ _ [] (by rfl) hrow0 _ _ ((l.drop A).take n.toNat) (by rfl) hsrc0 hlen0 ?_; intro v1 w1 g1 hr1 hg1 hat1 hgr1 hnil1; have hk1 : Kept (fun _ => False) wq w1 := (((Kept.refl _ wq).alloc (.cells #[] 5)).drew).grown hgr1 (fun k hk h => by simp [Value.ownBlock] at hk; omega); have e0 := hk1.cell c0 (fun h => h); have e1 := hk1.cell c1 (fun h => h)))
        have hq1 : QBox w1 b (.slice (some ⟨b0, off, none⟩) l.length k0) A false Y Z := Box.kept hqa hk1 (fun h => h)
        have hf1 := Box.frozen hq1 1
        have hne1 : v1.ownBlock ≠ some b := by
          intro h
          rcases hat1 with e | e
          · rw [e] at h; simp [Value.ownBlock] at h; omega
          · rw [e] at h; simp at h; omega
        have hgz : w.heap.size ≤ g1 := by
          have := hka.size
          simp at hg1
          omega
        obtain ⟨a1, n1, c1', rfl⟩ := hr1.rd.shape3'
        have hk2 := (hka.trans hk1 (fun _ _ h => h) (fun _ _ h => h)).trans (kept_set w1 b 1 (.int .i64 ((A : Int) + n))) (U := fun k => k = b) (fun _ _ h => h.elim) (fun _ _ h => h)
        clear hnil1 hat1 hgr1 hsrc0
        generalize (if k0 = A then some (⟨b0, off, none⟩ : Addr) else some ⟨b0, off + A, none⟩) = aopt
        go_wp2
        go_ret
        refine ⟨_, g1, _, rfl, Row.set hr1 hne1 1 _, hgz, hk2, .inr (.inr ⟨rfl, hn0, by omega, rfl, ?_⟩)⟩
        have hset := Box.set hq1 1 (.int .i64 ((A : Int) + n))
        unfold QBox
        rw [show ((A + n.toNat : Nat) : Int) = (A : Int) + n by omega]
        exact hset
      · have hl0 : l = [] := List.eq_nil_of_length_eq_zero (by omega)
        subst hl0
        obtain rfl : A = 0 := by simpa using hA
        obtain rfl : n = 0 := by simp at hlt; omega
        have hwrap : IntKind.i64.wrap (0 + 0) = 0 := by decide
        have hwrap0 : IntKind.i64.wrap 0 = 0 := by decide
        unfold maxLen at hcm
        have hk00 : (0 : Int) ≤ k0 := by omega
        have hshape : (a0 = none ∧ k0 = 0) ∨ ∃ a, a0 = some a := by
          rcases hrd with ⟨h, _⟩ | ⟨a, cap, h, _⟩
          · simp at h; exact .inl h
          · simp at h; exact .inr ⟨a, h.1⟩
        rcases hshape with ⟨rfl, rfl⟩ | ⟨a, rfl⟩
        · go_enter Try.func64, Try.ntmps64
          go_wp2
          go_quiet (fail)
          go_wp2
          have hqa : QBox (w.drewN nq) b (.slice none 0 0) 0 false Y Z := hq
          have hka := kept_drewN w nq
          clear c0 c1 c2 c3 c4 hf hf1 hq hrd
          obtain ⟨c0, c1, c2, c3, c4, hf⟩ := qcells hqa
          have c1' : (w.drewN nq).cell? ⟨b, 1, none⟩ = some (.int .i64 0) := c1
          clear c1
          have c1 := c1'
          clear c1'
          generalize w.drewN nq = wq at hqa hka c0 c1 c2 c3 c4 hf ⊢
          have hbq := Box.lt hqa
          have hrow0 : Row (wq.alloc (.cells #[] 5)).drew wq.heap.size (.slice (some ⟨wq.heap.size, 0, none⟩) 0 0) [] := Row.lit wq [] (by simp)
          go_region_held3 (fun u => u.cell? ⟨b, 0, none⟩ = some (.slice none 0 0) ∧ u.cell? ⟨b, 1, none⟩ = some (.int .i64 0)) (first | go_keep | exact ⟨by assumption, by assumption⟩) ((refine step_append_row _ (by rfl) (.tmp 33) (.tmp 48) 28 28 (by rfl) Try.underlying28 Try.info5 _ _ [] (by rfl) hrow0 _ 0 [] (by rfl) (Src.ofNil _ Try.underlying28 0) (by simp) ?_; intro v1 w1 g1 hr1 hg1 hat1 hgr1 hnil1; have hk1 : Kept (fun _ => False) wq w1 := (((Kept.refl _ wq).alloc (.cells #[] 5)).drew).grown hgr1 (fun k hk h => by simp [Value.ownBlock] at hk; omega); have e0 := hk1.cell c0 (fun h => h); have e1 := hk1.cell c1 (fun h => h)))
          have hq1 : QBox w1 b (.slice none 0 0) 0 false Y Z := Box.kept hqa hk1 (fun h => h)
          have hf1 := Box.frozen hq1 1
          have hne1 : v1.ownBlock ≠ some b := by
            intro h
            rcases hat1 with e | e
            · rw [e] at h; simp [Value.ownBlock] at h; omega
            · rw [e] at h; simp at h; omega
          have hgz : w.heap.size ≤ g1 := by
            have := hka.size
            simp at hg1
            omega
          obtain ⟨a1, n1, c1', rfl⟩ := hr1.rd.shape3'
          have hk2 := (hka.trans hk1 (fun _ _ h => h) (fun _ _ h => h)).trans (kept_set w1 b 1 (.int .i64 0)) (U := fun k => k = b) (fun _ _ h => h.elim) (fun _ _ h => h)
          clear hnil1 hat1 hgr1
          go_wp2
          go_ret
          exact ⟨_, g1, _, rfl, Row.set hr1 hne1 1 _, hgz, hk2, .inr (.inr ⟨rfl, hn0, by simp, rfl, Box.set hq1 1 (.int .i64 0)⟩)⟩
        · go_enter Try.func64, Try.ntmps64
          go_wp2
          go_quiet (fail)
          go_wp2
          have hqa : QBox (w.drewN nq) b (.slice (some a) 0 k0) 0 false Y Z := hq
          have hka := kept_drewN w nq
          clear c0 c1 c2 c3 c4 hf hf1 hq hrd
          obtain ⟨c0, c1, c2, c3, c4, hf⟩ := qcells hqa
          have c1' : (w.drewN nq).cell? ⟨b, 1, none⟩ = some (.int .i64 0) := c1
          clear c1
          have c1 := c1'
          clear c1'
          generalize w.drewN nq = wq at hqa hka c0 c1 c2 c3 c4 hf ⊢
          have hbq := Box.lt hqa
          have hrow0 : Row (wq.alloc (.cells #[] 5)).drew wq.heap.size (.slice (some ⟨wq.heap.size, 0, none⟩) 0 0) [] := Row.lit wq [] (by simp)
          go_region_held3 (fun u => u.cell? ⟨b, 0, none⟩ = some (.slice (some a) 0 k0) ∧ u.cell? ⟨b, 1, none⟩ = some (.int .i64 0)) (first | go_keep | exact ⟨by assumption, by assumption⟩) ((refine step_append_row _ (by rfl) (.tmp 33) (.tmp 48) 28 28 (by rfl) Try.underlying28 Try.info5 _ _ [] (by rfl) hrow0 _ 0 [] (by rfl) (Src.ofSlice _ Try.underlying28 a 0 _ [] rfl (fun j u hu => by simp at hu) (fun u hu => by simp at hu)) (by simp) ?_; intro v1 w1 g1 hr1 hg1 hat1 hgr1 hnil1; have hk1 : Kept (fun _ => False) wq w1 := (((Kept.refl _ wq).alloc (.cells #[] 5)).drew).grown hgr1 (fun k hk h => by simp [Value.ownBlock] at hk; omega); have e0 := hk1.cell c0 (fun h => h); have e1 := hk1.cell c1 (fun h => h)))
          have hq1 : QBox w1 b (.slice (some a) 0 k0) 0 false Y Z := Box.kept hqa hk1 (fun h => h)
          have hf1 := Box.frozen hq1 1
          have hne1 : v1.ownBlock ≠ some b := by
            intro h
            rcases hat1 with e | e
            · rw [e] at h; simp [Value.ownBlock] at h; omega
            · rw [e] at h; simp at h; omega
          have hgz : w.heap.size ≤ g1 := by
            have := hka.size
            simp at hg1
            omega
          obtain ⟨a1, n1, c1', rfl⟩ := hr1.rd.shape3'
          have hk2 := (hka.trans hk1 (fun _ _ h => h) (fun _ _ h => h)).trans (kept_set w1 b 1 (.int .i64 0)) (U := fun k => k = b) (fun _ _ h => h.elim) (fun _ _ h => h)
          clear hnil1 hat1 hgr1
          go_wp2
          go_ret
          exact ⟨_, g1, _, rfl, Row.set hr1 hne1 1 _, hgz, hk2, .inr (.inr ⟨rfl, hn0, by simp, rfl, Box.set hq1 1 (.int .i64 0)⟩)⟩
end Go.Proofs.Ytbhcmhbicbhgmaa.Wire
