/-
  The reference's writers: what each call does.
  And: The reference's Reader: what each call does. The reference's Reader: Number. The reference's Reader: its other methods. The book's Roomy, Same and Intact at bytes: what each call does.
-/
import Derived.Test.YtalbjbahgbkifaaGreatWireMath
import Derived.Deep.LoopGhost
import Derived.Deep.RegionHeld3
import Derived.Deep.RegionWith
import Derived.Laws.IdiomCopy
import Derived.Deep.OwnRows
namespace Go.Proofs.YtalbjbahgbkifaaGreat.Wire
open Go.RowKit

set_option maxHeartbeats 800000 in
set_option maxRecDepth 1000000 in
theorem refnumber (v : Value) (b0 : Nat) (l : List Nat) (n : Nat) (w : World) (hl : l.length + 10 ≤ 140737488355328) (hn : n < 18446744073709551616) (hv : Rd w b0 v l) :
    Calls Tryz.prog 29 #[v, .int .u64 n] w fun e w' => ∃ v' g, e = .returned v' ∧ Row w' g v' (l ++ enc n) ∧ w.heap.size ≤ g ∧ Kept (fun _ => False) w w' := by
  have hrow := Row.lit w [] (by simp)
  have hten := enc_ten n hn
  obtain ⟨ao, c0, hsh⟩ := hv.shape
  subst hsh
  go_enter Tryz.func29, Tryz.ntmps29
  go_wp2_with (at_builtin; refine wpList_append_row _ rfl (.tmp 6) (.tmp 7) 26 26 rfl Tryz.underlying26 Tryz.info5 _ _ [] rfl hrow _ l.length l rfl ?src ?len ?next)
  case src => exact (hv.alloc _).src Tryz.underlying26
  case len => simp; omega
  case next =>
    intro v1 w1 g1 hv1 hg1 hat hgr hnil
    have hk1 : Kept (fun _ => False) w w1 := ((Kept.refl _ w).alloc _).grown hgr (by intro k hk h; simp [Value.ownBlock] at hk; omega)
    obtain ⟨c1, rfl⟩ : ∃ c, v1 = .slice (some ⟨g1, 0, none⟩) l.length c := by
      rcases hv1.shape with ⟨h, _⟩ | ⟨c, h, _⟩
      · exact absurd h hnil
      · exact ⟨c, h⟩
    have hgz : w.heap.size ≤ g1 := by omega
    clear hnil hat hgr hg1 hv hrow
    go_wp2
    go_loopg [1, 5] n (fun gk i o wr => ∃ (c g : Nat) (l' : List Nat), gk ≤ n ∧ i = .int .u64 gk ∧ o = .slice (some ⟨g, 0, none⟩) l'.length c ∧ Hid (l' ++ enc gk = l ++ enc n) ∧ Row wr g o l' ∧ w.heap.size ≤ g ∧ Kept (fun _ => False) w wr)
    case atStart => exact ⟨c1, g1, l, Nat.le_refl _, rfl, rfl, rfl, hv1, hgz, hk1⟩
    case round =>
      obtain ⟨c, g, l', hgn, rfl, rfl, HE, hr, hg, hK⟩ := hrel
      clear hv1 hgz hk1
      have hll : l'.length + 1 ≤ 140737488355328 := by
        have e1 := congrArg List.length HE.out
        have e2 := enc_pos gk
        simp only [List.length_append] at e1
        omega
      by_cases hlt : 128 ≤ gk
      · go_wp2_with (at_builtin; refine wpList_append_row _ rfl (.tmp 11) (.tmp 16) 26 26 rfl Tryz.underlying26 Tryz.info5 _ g l' rfl (hr.alloc _) _ 1 [gk % 128 + 128] rfl ?src ?len ?next)
        case src =>
          refine Src.ofSlice _ Tryz.underlying26 _ 1 1 _ rfl ?_ (bs_one _)
          simp only [bs, List.map_cons, List.map_nil]
          rw [show ((gk % 128 + 128 : Nat) : Int) = (gk : Int) % 128 + 128 by omega]
          exact cell_one_new _ _ _
        case len => simpa using hll
        case next =>
          intro v2 w2 g2 hv2 hg2 hat hgr hnil
          have hK2 : Kept (fun _ => False) w w2 := (hK.alloc _).grown hgr (by intro k hk h; simp [Value.ownBlock] at hk; omega)
          have hsz := hK.size
          obtain ⟨c2, rfl⟩ : ∃ c, v2 = .slice (some ⟨g2, 0, none⟩) (l'.length + 1) c := by
            rcases hv2.shape with ⟨h, _⟩ | ⟨c, h, _⟩
            · exact absurd h hnil
            · exact ⟨c, by simpa using h⟩
          have hgz2 : w.heap.size ≤ g2 := by omega
          clear hnil hat hgr hg2
          go_wp2
          go_roundg (gk / 128)
          case measure => omega
          case rel =>
            refine ⟨c2, g2, l' ++ [gk % 128 + 128], by omega, by go_num, by simp, ?_, ?_, hgz2, hK2⟩
            · show _ = _
              rw [← HE.out, enc_big hlt, List.append_assoc]; rfl
            · simpa using hv2
      · go_wp2_with (at_builtin; refine wpList_append_row _ rfl (.tmp 20) (.tmp 23) 26 26 rfl Tryz.underlying26 Tryz.info5 _ g l' rfl (hr.alloc _) _ 1 [gk] rfl ?src ?len ?next)
        case src =>
          refine Src.ofSlice _ Tryz.underlying26 _ 1 1 _ rfl ?_ (bs_one _)
          simp only [bs, List.map_cons, List.map_nil]
          exact cell_one_new _ _ _
        case len => simpa using hll
        case next =>
          intro v2 w2 g2 hv2 hg2 hat hgr hnil
          have hK2 : Kept (fun _ => False) w w2 := (hK.alloc _).grown hgr (by intro k hk h; simp [Value.ownBlock] at hk; omega)
          have hsz := hK.size
          obtain ⟨c2, rfl⟩ : ∃ c, v2 = .slice (some ⟨g2, 0, none⟩) (l'.length + 1) c := by
            rcases hv2.shape with ⟨h, _⟩ | ⟨c, h, _⟩
            · exact absurd h hnil
            · exact ⟨c, by simpa using h⟩
          have hgz2 : w.heap.size ≤ g2 := by omega
          clear hnil hat hgr hg2
          go_wp2
          go_ret
          refine ⟨_, g2, rfl, ?_, hgz2, hK2⟩
          rw [← HE.out, enc_small (by omega)]
          exact hv2

set_option maxHeartbeats 400000 in
set_option maxRecDepth 1000000 in
theorem reftext (v : Value) (b0 : Nat) (l : List Nat) (s : ByteArray) (w : World) (hl : l.length + s.size + 10 ≤ 140737488355328) (hv : Rd w b0 v l) :
    Calls Tryz.prog 30 #[v, .string s] w fun e w' => ∃ v' g, e = .returned v' ∧ Row w' g v' (l ++ enc s.size ++ s.data.toList.map UInt8.toNat) ∧ w.heap.size ≤ g ∧ Kept (fun _ => False) w w' := by
  have hten := enc_ten s.size (by omega)
  have hsz : s.size ≤ 140737488355328 := by omega
  go_enter Tryz.func30, Tryz.ntmps30
  go_wp2_with fail
  refine (refnumber v b0 l s.size w (by omega) (by omega) hv).mono ?_
  rintro e w1 ⟨v1, g1, rfl, h1, hg1, hk1⟩
  have hsz1 := hk1.size
  go_wp2_with (at_builtin; refine wpList_append_row _ rfl (.tmp 9) (.tmp 10) 26 9 rfl Tryz.underlying26 Tryz.info5 v1 g1 (l ++ enc s.size) rfl h1 _ s.size (s.data.toList.map UInt8.toNat) rfl ?src ?len ?next)
  case src =>
    have e : bs (s.data.toList.map UInt8.toNat) = byteCells s := by simp [bs, byteCells]
    rw [e]
    exact Src.ofString w1 Tryz.underlying9 s
  case len => simp; have : s.data.size = s.size := rfl; omega
  case next =>
    intro v2 w2 g2 hv2 hg2 hat hgr hnil
    have hK2 : Kept (fun _ => False) w w2 := hk1.grown hgr (by
      intro k hk h
      rcases h1.2 with e | e
      · rw [e] at hk; simp at hk
      · rw [e] at hk; simp at hk; omega)
    obtain ⟨a2, n2, c2, rfl⟩ : ∃ a n c, v2 = .slice a n c := by
      obtain ⟨a, c, h⟩ := hv2.rd.shape
      exact ⟨a, _, c, h⟩
    clear hnil hat hgr
    go_wp2
    go_ret
    refine ⟨_, g2, rfl, ?_, by omega, hK2⟩
    rw [List.append_assoc]
    simpa using hv2
end Go.Proofs.YtalbjbahgbkifaaGreat.Wire

namespace Go.Proofs.YtalbjbahgbkifaaGreat.Wire
open Go.RowKit

/-- append onto a row of the call's own, at a step of a region that draws its order. -/
theorem step_append_row {P : Program} (w : World) {ops : Array Oper} {o : Oper} {a : Act} {K : Act → World → Prop} {Q : Exit → Act → World → Prop} {E : Prop} (hgd : o.guard = none) (s x : Operand) (t tx : TypeId)
    (ho : o.op = .call { callee := .builtin .append, args := #[s, x], argTypes := #[t, tx] }) (ht : P.underlying t = some (.slice 5)) (hinfo : (P.info? 5).map (fun i => (i.zero, i.size, i.bytes)) = some (some (.int .u8 0), 1, 1))
    (v : Value) (g : Nat) (l : List Nat) (hs : a.eval s = v) (hv : Row w g v l) (xv : Value) (m : Nat) (news : List Nat) (hx : a.eval x = xv) (hsrc : Src P 1 tx xv m (bs news) w) (hlen : l.length + news.length ≤ 140737488355328)
    (h : ∀ v' w' g', Row w' g' v' (l ++ news) → (g' = g ∨ g' < w'.heap.size ∧ w.heap.size ≤ g') → (v'.ownBlock = v.ownBlock ∨ v'.ownBlock = some w.heap.size) → w.grownBy w' v.ownBlock → (v' = .slice none 0 0 ↔ v = .slice none 0 0 ∧ news = []) → K (a.put o.dst v') w') :
    if Region.wanted o (yielded ops a.tmps) = true then Oper.wp P o a w K Q else E := by
  have hw : Region.wanted o (yielded ops a.tmps) = true := by simp [Region.wanted, hgd]
  rw [if_pos hw]
  obtain ⟨v', w', hr, h2, h3, h4, h5⟩ := run_append_row (P := P) w t tx o.type ht hinfo hv hsrc hlen
  unfold Oper.wp execOp
  simp only [ho, resolve, invoke, builtin, Sem.run_bind, Sem.run_pure, Result.andThen_ok, List.map_toArray, List.map_cons, List.map_nil, hs, hx, hr]
  rcases h3 with e | e
  · exact h v' w' g ⟨h2, by rw [e]; exact hv.2⟩ (Or.inl rfl) (Or.inl e) h4 h5
  · exact h v' w' w.heap.size ⟨h2, Or.inr e⟩ (Or.inr ⟨(h2.lt _ e).2, Nat.le_refl _⟩) (Or.inr e) h4 h5

theorem Rd.addr2 {w : World} {b : Nat} {v : Value} {l : List Nat} (h : Rd w b v l) (hl : 0 < l.length) : ∃ off cap, v = .slice (some ⟨b, off, none⟩) l.length cap ∧ ∀ s c, s ≤ l.length → Rd w b (.slice (some ⟨b, off, none⟩) s c) (l.take s) := by
  rcases h with ⟨_, rfl⟩ | ⟨a, cap, rfl, rfl, hc⟩
  · simp at hl
  · obtain ⟨ab, ao, asp⟩ := a
    have h0 := hc 0 ((bs l)[0]'(by rw [bs_length]; exact hl)) (List.getElem?_eq_getElem _)
    have hsp : asp = none := by simpa [Addr.add] using World.cell?_spot h0
    subst hsp
    refine ⟨ao, cap, rfl, fun s c hs => .inr ⟨⟨ab, ao, none⟩, c, ?_, rfl, fun j u hu => hc j u ?_⟩⟩
    · rw [List.length_take, Nat.min_eq_left hs]
    · rw [bs, List.map_take, List.getElem?_take] at hu
      split at hu
      · exact hu
      · simp at hu

theorem Rd.sub {w : World} {b0 off c : Nat} {l : List Nat} (h : Rd w b0 (.slice (some ⟨b0, off, none⟩) l.length c) l) (A m k0 c' : Nat) (hm : A + m ≤ l.length) (hk : k0 = A → m = 0) : Rd w b0 (.slice (if k0 = A then some ⟨b0, off, none⟩ else some ⟨b0, off + A, none⟩) m c') ((l.drop A).take m) := by
  have hlen : ((l.drop A).take m).length = m := by simp; omega
  have hc : ∀ j u, (bs l)[j]? = some u → w.cell? ((⟨b0, off, none⟩ : Addr).add j) = some u := by
    rcases h with ⟨h, _⟩ | ⟨a, cap, h, _, hc⟩
    · simp at h
    · simp at h
      rw [h.1]
      exact hc
  by_cases e : k0 = A
  · have hm0 := hk e
    subst hm0
    rw [if_pos e]
    exact .inr ⟨_, c', by rw [hlen], rfl, fun j u hu => by simp [bs] at hu⟩
  · rw [if_neg e]
    refine .inr ⟨_, c', by rw [hlen], rfl, fun j u hu => ?_⟩
    have hj : j < m := by
      have := (List.getElem?_eq_some_iff.1 hu).1
      rw [bs_length, hlen] at this
      exact this
    have e1 : (⟨b0, off + A, none⟩ : Addr).add j = (⟨b0, off, none⟩ : Addr).add (A + j) := by
      unfold Addr.add
      split <;> split <;> simp_all <;> omega
    rw [e1]
    refine hc (A + j) u ?_
    rw [bs, List.getElem?_map, List.getElem?_take, if_pos hj, List.getElem?_drop] at hu
    rw [bs, List.getElem?_map]
    exact hu
theorem Rd.shape3' {w : World} {b : Nat} {v : Value} {l : List Nat} (h : Rd w b v l) : ∃ a n c, v = .slice a n c := by
  obtain ⟨a, c, e⟩ := h.shape
  exact ⟨a, _, c, e⟩
theorem Rd.keptE {S : Nat → Prop} {w w' : World} {b : Nat} {v : Value} {l : List Nat} (h : Rd w b v l) (k : Kept S w w') (hb : S b → l = []) : Rd w' b v l := by
  by_cases hS : S b
  · have hl := hb hS
    subst hl
    rcases h with h | ⟨a, cap, h1, h2, _⟩
    · exact .inl h
    · exact .inr ⟨a, cap, h1, h2, fun j u hu => by simp [bs] at hu⟩
  · exact h.kept k hS

/-- The reference's Reader in block b over the bytes behind bv: its five cells. -/
def QBox (w : World) (b : Nat) (bv : Value) (A : Nat) (r : Bool) (Y Z : Nat) : Prop := Box w b #[bv, .int .i64 A, .bool r, .int .i64 Y, .int .i64 Z]

/-- The same, by what it tells: at place p, refused with why (0: not). -/
def QIs (w : World) (b b0 : Nat) (bv : Value) (l : List Nat) (p why : Nat) : Prop := ∃ A r Y Z, QBox w b bv A r Y Z ∧ Rd w b0 bv l ∧ (b = b0 → l = []) ∧ A ≤ l.length ∧ ((why = 0 ∧ r = false ∧ A = p) ∨ (why ≠ 0 ∧ r = true ∧ Y = why ∧ Z = p))

theorem QIs.kept {S : Nat → Prop} {w w' : World} {b b0 : Nat} {bv : Value} {l : List Nat} {p why : Nat} (h : QIs w b b0 bv l p why) (k : Kept S w w') (hb : ¬ S b) (hb0 : S b0 → l = []) : QIs w' b b0 bv l p why := by
  obtain ⟨A, r, Y, Z, h1, h2, h3, h4, h5⟩ := h
  exact ⟨A, r, Y, Z, Box.kept h1 k hb, h2.keptE k hb0, h3, h4, h5⟩
theorem QIs.lt {w : World} {b b0 : Nat} {bv : Value} {l : List Nat} {p why : Nat} (h : QIs w b b0 bv l p why) : b < w.heap.size := by
  obtain ⟨A, r, Y, Z, h1, _⟩ := h
  exact Box.lt h1

theorem qcells {w : World} {b : Nat} {bv : Value} {A : Nat} {r : Bool} {Y Z : Nat} (h : QBox w b bv A r Y Z) : w.cell? ⟨b, 0, none⟩ = some bv ∧ w.cell? ⟨b, 1, none⟩ = some (.int .i64 A) ∧ w.cell? ⟨b, 2, none⟩ = some (.bool r) ∧ w.cell? ⟨b, 3, none⟩ = some (.int .i64 Y) ∧ w.cell? ⟨b, 4, none⟩ = some (.int .i64 Z) ∧ ∀ i, w.frozen? ⟨b, i, none⟩ = false :=
  ⟨Box.cell h 0, Box.cell h 1, Box.cell h 2, Box.cell h 3, Box.cell h 4, fun i => Box.frozen h i⟩

set_option maxHeartbeats 800000 in
theorem qrefuse (y z b : Nat) (bv : Value) (A : Nat) (r : Bool) (Y Z : Nat) (w : World) (hq : QBox w b bv A r Y Z) :
    Calls Tryz.prog 94 #[.pointer (some ⟨b, 0, none⟩), .int .i64 y, .int .i64 z] w fun e w' => e = .returned (.tuple #[]) ∧ QBox w' b bv A true (if r then Y else y) (if r then Z else z) ∧ Kept (fun k => k = b) w w' := by
  obtain ⟨c0, c1, c2, c3, c4, hf⟩ := qcells hq
  have f2 := hf 2
  have f3 := hf 3
  have f4 := hf 4
  clear hf
  cases r with
  | true =>
    go_enter Tryz.func94, Tryz.ntmps94
    go_wp2
    go_end0
    exact ⟨rfl, hq, Kept.refl _ _⟩
  | false =>
    go_enter Tryz.func94, Tryz.ntmps94
    go_wp2
    go_end0
    exact ⟨rfl, ((hq.set 2 (.bool true)).set 3 (.int .i64 y)).set 4 (.int .i64 z), ((kept_set w b 2 _).trans (kept_set _ b 3 _) (fun _ _ h => h) (fun _ _ h => h)).trans (kept_set _ b 4 _) (fun _ _ h => h) (fun _ _ h => h)⟩

/-- What becomes of the Reader when n bytes are asked for. -/
def QRaw (w' : World) (b : Nat) (bv : Value) (l : List Nat) (A : Nat) (r : Bool) (Y Z : Nat) (n : Int) (l' : List Nat) : Prop :=
  ((r = true ∨ n < 0) ∧ l' = [] ∧ QBox w' b bv A r Y Z) ∨ (r = false ∧ 0 ≤ n ∧ ((l.length - A : Nat) : Int) < n ∧ l' = [] ∧ QBox w' b bv A true 10 l.length) ∨ (r = false ∧ 0 ≤ n ∧ n ≤ ((l.length - A : Nat) : Int) ∧ l' = (l.drop A).take n.toNat ∧ QBox w' b bv (A + n.toNat) false Y Z)

def QRawE (w : World) (b : Nat) (bv : Value) (l : List Nat) (A : Nat) (r : Bool) (Y Z : Nat) (n : Int) (e : Ending) (w' : World) : Prop :=
  ∃ v' g l', e = .returned v' ∧ Row w' g v' l' ∧ w.heap.size ≤ g ∧ Kept (fun k => k = b) w w' ∧ QRaw w' b bv l A r Y Z n l'

set_option maxHeartbeats 1600000 in
set_option maxRecDepth 1000000 in
theorem qraw_box (n : Int) (b b0 : Nat) (bv : Value) (l : List Nat) (A : Nat) (r : Bool) (Y Z : Nat) (w : World) (hn : n < 9223372036854775808) (hl : l.length ≤ 140737488351232) (hA : A ≤ l.length) (hq : QBox w b bv A r Y Z) (hrd : Rd w b0 bv l) (hcap : ∃ a m c, bv = .slice a m c ∧ m ≤ c ∧ c ≤ maxLen) :
    Calls Tryz.prog 93 #[.pointer (some ⟨b, 0, none⟩), .int .i64 n] w (QRawE w b bv l A r Y Z n) := by
  obtain ⟨c0, c1, c2, c3, c4, hf⟩ := qcells hq
  obtain ⟨a0, m0, k0, rfl, hmc, hcm⟩ := hcap
  have hm0 : m0 = l.length := by
    obtain ⟨a, c, h⟩ := hrd.shape
    simp at h
    exact h.2.1
  subst hm0
  by_cases h0 : r = true ∨ n < 0
  · rcases h0 with rfl | h0
    · go_enter Tryz.func93, Tryz.ntmps93
      go_wp2
      go_ret
      exact ⟨_, w.heap.size, [], rfl, Row.nil _ _, Nat.le_refl _, Kept.refl _ _, .inl ⟨Or.inl rfl, rfl, hq⟩⟩
    · cases r
      all_goals
        go_enter Tryz.func93, Tryz.ntmps93
        go_wp2
        go_ret
        exact ⟨_, w.heap.size, [], rfl, Row.nil _ _, Nat.le_refl _, Kept.refl _ _, .inl ⟨Or.inr h0, rfl, hq⟩⟩
  · obtain ⟨hr, hn0⟩ : r = false ∧ 0 ≤ n := by
      refine ⟨?_, by omega⟩
      cases r with
      | true => exact absurd (Or.inl rfl) h0
      | false => rfl
    subst hr
    clear h0
    by_cases hlt : (l.length : Int) - A < n
    · go_enter Tryz.func93, Tryz.ntmps93
      go_wp2
      go_quiet (fail)
      go_wp2_with fail
      refine (qrefuse 10 l.length b _ A false Y Z _ (Box.kept hq (kept_drewN w _) (fun h => h))).mono ?_
      rintro e w' ⟨rfl, h1, h2⟩
      go_wp2
      go_ret
      have hk := (kept_drewN w _).trans h2 (fun _ _ h => h.elim) (fun _ _ h => h)
      exact ⟨_, w'.heap.size, [], rfl, Row.nil _ _, hk.size, hk, .inr (.inl ⟨rfl, hn0, by omega, rfl, h1⟩)⟩
    · have hf1 := hf 1
      have hlen : ((l.drop A).take n.toNat).length = n.toNat := by simp; omega
      by_cases hne : 0 < l.length
      · obtain ⟨off, cap, hbv, hsub⟩ := hrd.addr2 hne
        simp only [Value.slice.injEq, true_and] at hbv
        obtain ⟨rfl, rfl⟩ := hbv
        unfold maxLen at hcm
        clear hsub
        have hpm : (A : Int) + n ≤ l.length := by omega
        have hpk : (A : Int) + n ≤ k0 := by omega
        have hA0 : (0 : Int) ≤ A := by omega
        have hAn : (A : Int) ≤ A + n := by omega
        have hwrap : IntKind.i64.wrap ((A : Int) + n) = A + n := by rw [IntKind.wrap_i64]; omega
        go_enter Tryz.func93, Tryz.ntmps93
        go_wp2
        go_quiet (fail)
        go_wp2
        have hqa : QBox (w.drewN nq) b (.slice (some ⟨b0, off, none⟩) l.length k0) A false Y Z := hq
        have hrda : Rd (w.drewN nq) b0 (.slice (some ⟨b0, off, none⟩) l.length k0) l := hrd
        have hka := kept_drewN w nq
        clear c0 c1 c2 c3 c4 hf hf1 hq hrd
        obtain ⟨c0, c1, c2, c3, c4, hf⟩ := qcells hqa
        generalize w.drewN nq = wq at hqa hrda hka c0 c1 c2 c3 c4 hf ⊢
        have hrow0 : Row (wq.alloc (.cells #[] 5)).drew wq.heap.size (.slice (some ⟨wq.heap.size, 0, none⟩) 0 0) [] := Row.lit wq [] (by simp)
        have hbq := Box.lt hqa
        have hsrc0 : Src Tryz.prog 1 26 (.slice (if k0 = A then some ⟨b0, off, none⟩ else some ⟨b0, off + A, none⟩) (((A : Int) + n).toNat - A) (k0 - A)) ((l.drop A).take n.toNat).length (bs ((l.drop A).take n.toNat)) (wq.alloc (.cells #[] 5)).drew := by
          have h := Rd.sub (hrda.alloc (.cells #[] 5)) A n.toNat k0 (k0 - A) (by omega) (by omega)
          rw [show ((A : Int) + n).toNat - A = n.toNat by omega]
          exact Rd.src (w := (wq.alloc (.cells #[] 5)).drew) h Tryz.underlying26
        have hlen0 : ([] : List Nat).length + ((l.drop A).take n.toNat).length ≤ 140737488355328 := by rw [hlen]; simp; omega
        go_region_held3 (fun u => u.cell? ⟨b, 0, none⟩ = some (.slice (some ⟨b0, off, none⟩) l.length k0) ∧ u.cell? ⟨b, 1, none⟩ = some (.int .i64 A)) (first | go_keep | exact ⟨by assumption, by assumption⟩) ((refine step_append_row _ (by rfl) (.tmp 33) (.tmp 48) 26 26 (by rfl) Tryz.underlying26 Tryz.info5 _ _ [] (by rfl) hrow0 _ _ ((l.drop A).take n.toNat) (by rfl) hsrc0 hlen0 ?_; intro v1 w1 g1 hr1 hg1 hat1 hgr1 hnil1; have hk1 : Kept (fun _ => False) wq w1 := (((Kept.refl _ wq).alloc (.cells #[] 5)).drew).grown hgr1 (fun k hk h => by simp [Value.ownBlock] at hk; omega); have e0 := hk1.cell c0 (fun h => h); have e1 := hk1.cell c1 (fun h => h)))
        have hq1 : QBox w1 b (.slice (some ⟨b0, off, none⟩) l.length k0) A false Y Z := Box.kept hqa hk1 (fun h => h)
        have hf1 := Box.frozen hq1 1
        have hne1 : v1.ownBlock ≠ some b := by
          intro h
          rcases hat1 with e | e
          · rw [e] at h; simp [Value.ownBlock] at h; omega
          · rw [e] at h; simp at h; omega
        have hgz : w.heap.size ≤ g1 := by
          have := hka.size
          simp at hg1
          omega
        obtain ⟨a1, n1, c1', rfl⟩ := hr1.rd.shape3'
        have hk2 := (hka.trans hk1 (fun _ _ h => h) (fun _ _ h => h)).trans (kept_set w1 b 1 (.int .i64 ((A : Int) + n))) (U := fun k => k = b) (fun _ _ h => h.elim) (fun _ _ h => h)
        clear hnil1 hat1 hgr1 hsrc0
        generalize (if k0 = A then some (⟨b0, off, none⟩ : Addr) else some ⟨b0, off + A, none⟩) = aopt
        go_wp2
        go_ret
        refine ⟨_, g1, _, rfl, Row.set hr1 hne1 1 _, hgz, hk2, .inr (.inr ⟨rfl, hn0, by omega, rfl, ?_⟩)⟩
        have hset := Box.set hq1 1 (.int .i64 ((A : Int) + n))
        unfold QBox
        rw [show ((A + n.toNat : Nat) : Int) = (A : Int) + n by omega]
        exact hset
      · have hl0 : l = [] := List.eq_nil_of_length_eq_zero (by omega)
        subst hl0
        obtain rfl : A = 0 := by simpa using hA
        obtain rfl : n = 0 := by simp at hlt; omega
        have hwrap : IntKind.i64.wrap (0 + 0) = 0 := by decide
        have hwrap0 : IntKind.i64.wrap 0 = 0 := by decide
        unfold maxLen at hcm
        have hk00 : (0 : Int) ≤ k0 := by omega
        have hshape : (a0 = none ∧ k0 = 0) ∨ ∃ a, a0 = some a := by
          rcases hrd with ⟨h, _⟩ | ⟨a, cap, h, _⟩
          · simp at h; exact .inl h
          · simp at h; exact .inr ⟨a, h.1⟩
        rcases hshape with ⟨rfl, rfl⟩ | ⟨a, rfl⟩
        · go_enter Tryz.func93, Tryz.ntmps93
          go_wp2
          go_quiet (fail)
          go_wp2
          have hqa : QBox (w.drewN nq) b (.slice none 0 0) 0 false Y Z := hq
          have hka := kept_drewN w nq
          clear c0 c1 c2 c3 c4 hf hf1 hq hrd
          obtain ⟨c0, c1, c2, c3, c4, hf⟩ := qcells hqa
          have c1' : (w.drewN nq).cell? ⟨b, 1, none⟩ = some (.int .i64 0) := c1
          clear c1
          have c1 := c1'
          clear c1'
          generalize w.drewN nq = wq at hqa hka c0 c1 c2 c3 c4 hf ⊢
          have hbq := Box.lt hqa
          have hrow0 : Row (wq.alloc (.cells #[] 5)).drew wq.heap.size (.slice (some ⟨wq.heap.size, 0, none⟩) 0 0) [] := Row.lit wq [] (by simp)
          go_region_held3 (fun u => u.cell? ⟨b, 0, none⟩ = some (.slice none 0 0) ∧ u.cell? ⟨b, 1, none⟩ = some (.int .i64 0)) (first | go_keep | exact ⟨by assumption, by assumption⟩) ((refine step_append_row _ (by rfl) (.tmp 33) (.tmp 48) 26 26 (by rfl) Tryz.underlying26 Tryz.info5 _ _ [] (by rfl) hrow0 _ 0 [] (by rfl) (Src.ofNil _ Tryz.underlying26 0) (by simp) ?_; intro v1 w1 g1 hr1 hg1 hat1 hgr1 hnil1; have hk1 : Kept (fun _ => False) wq w1 := (((Kept.refl _ wq).alloc (.cells #[] 5)).drew).grown hgr1 (fun k hk h => by simp [Value.ownBlock] at hk; omega); have e0 := hk1.cell c0 (fun h => h); have e1 := hk1.cell c1 (fun h => h)))
          have hq1 : QBox w1 b (.slice none 0 0) 0 false Y Z := Box.kept hqa hk1 (fun h => h)
          have hf1 := Box.frozen hq1 1
          have hne1 : v1.ownBlock ≠ some b := by
            intro h
            rcases hat1 with e | e
            · rw [e] at h; simp [Value.ownBlock] at h; omega
            · rw [e] at h; simp at h; omega
          have hgz : w.heap.size ≤ g1 := by
            have := hka.size
            simp at hg1
            omega
          obtain ⟨a1, n1, c1', rfl⟩ := hr1.rd.shape3'
          have hk2 := (hka.trans hk1 (fun _ _ h => h) (fun _ _ h => h)).trans (kept_set w1 b 1 (.int .i64 0)) (U := fun k => k = b) (fun _ _ h => h.elim) (fun _ _ h => h)
          clear hnil1 hat1 hgr1
          go_wp2
          go_ret
          exact ⟨_, g1, _, rfl, Row.set hr1 hne1 1 _, hgz, hk2, .inr (.inr ⟨rfl, hn0, by simp, rfl, Box.set hq1 1 (.int .i64 0)⟩)⟩
        · go_enter Tryz.func93, Tryz.ntmps93
          go_wp2
          go_quiet (fail)
          go_wp2
          have hqa : QBox (w.drewN nq) b (.slice (some a) 0 k0) 0 false Y Z := hq
          have hka := kept_drewN w nq
          clear c0 c1 c2 c3 c4 hf hf1 hq hrd
          obtain ⟨c0, c1, c2, c3, c4, hf⟩ := qcells hqa
          have c1' : (w.drewN nq).cell? ⟨b, 1, none⟩ = some (.int .i64 0) := c1
          clear c1
          have c1 := c1'
          clear c1'
          generalize w.drewN nq = wq at hqa hka c0 c1 c2 c3 c4 hf ⊢
          have hbq := Box.lt hqa
          have hrow0 : Row (wq.alloc (.cells #[] 5)).drew wq.heap.size (.slice (some ⟨wq.heap.size, 0, none⟩) 0 0) [] := Row.lit wq [] (by simp)
          go_region_held3 (fun u => u.cell? ⟨b, 0, none⟩ = some (.slice (some a) 0 k0) ∧ u.cell? ⟨b, 1, none⟩ = some (.int .i64 0)) (first | go_keep | exact ⟨by assumption, by assumption⟩) ((refine step_append_row _ (by rfl) (.tmp 33) (.tmp 48) 26 26 (by rfl) Tryz.underlying26 Tryz.info5 _ _ [] (by rfl) hrow0 _ 0 [] (by rfl) (Src.ofSlice _ Tryz.underlying26 a 0 _ [] rfl (fun j u hu => by simp at hu) (fun u hu => by simp at hu)) (by simp) ?_; intro v1 w1 g1 hr1 hg1 hat1 hgr1 hnil1; have hk1 : Kept (fun _ => False) wq w1 := (((Kept.refl _ wq).alloc (.cells #[] 5)).drew).grown hgr1 (fun k hk h => by simp [Value.ownBlock] at hk; omega); have e0 := hk1.cell c0 (fun h => h); have e1 := hk1.cell c1 (fun h => h)))
          have hq1 : QBox w1 b (.slice (some a) 0 k0) 0 false Y Z := Box.kept hqa hk1 (fun h => h)
          have hf1 := Box.frozen hq1 1
          have hne1 : v1.ownBlock ≠ some b := by
            intro h
            rcases hat1 with e | e
            · rw [e] at h; simp [Value.ownBlock] at h; omega
            · rw [e] at h; simp at h; omega
          have hgz : w.heap.size ≤ g1 := by
            have := hka.size
            simp at hg1
            omega
          obtain ⟨a1, n1, c1', rfl⟩ := hr1.rd.shape3'
          have hk2 := (hka.trans hk1 (fun _ _ h => h) (fun _ _ h => h)).trans (kept_set w1 b 1 (.int .i64 0)) (U := fun k => k = b) (fun _ _ h => h.elim) (fun _ _ h => h)
          clear hnil1 hat1 hgr1
          go_wp2
          go_ret
          exact ⟨_, g1, _, rfl, Row.set hr1 hne1 1 _, hgz, hk2, .inr (.inr ⟨rfl, hn0, by simp, rfl, Box.set hq1 1 (.int .i64 0)⟩)⟩
end Go.Proofs.YtalbjbahgbkifaaGreat.Wire

namespace Go.Proofs.YtalbjbahgbkifaaGreat.Wire
open Go.RowKit

def QNumE (w : World) (b b0 : Nat) (bv : Value) (l : List Nat) (R : Nat × Nat × Nat) (e : Ending) (w' : World) : Prop :=
  e = .returned (.int .u64 R.1) ∧ QIs w' b b0 bv l R.2.1 R.2.2 ∧ Kept (fun k => k = b) w w'

theorem low_bits (x : Nat) (hx : x < 256) : bits .and .u8 (x : Int) 127 = ((x % 128 : Nat) : Int) := by
  have h1 : bits .and .u8 (x : Int) 127 = ((x &&& 127 : Nat) : Int) := u8_and_nat x 127 hx (by omega)
  have h3 : x &&& 127 = x % 128 := Nat.and_two_pow_sub_one_eq_mod x 7
  rw [h1, h3]

/-- The number is told from what dec gives. -/
theorem rNum_dec {l : List Nat} {p most dn ds dw : Nat} (hd : dec (l.drop p) 0 0 = (dn, ds, dw)) : rNum l p 0 most = if dw = 10 then (0, l.length, 10) else if dw ≠ 0 then (0, p, dw) else if most < dn then (0, p, 3) else (dn, p + ds, 0) := by simp [rNum, hd]

set_option maxHeartbeats 4000000 in
set_option maxRecDepth 1000000 in
theorem qnumber (b b0 : Nat) (bv : Value) (l : List Nat) (p why most : Nat) (w : World) (hl : l.length ≤ 140737488351232) (h256 : ∀ x ∈ l, x < 256) (hp : p ≤ l.length) (_hm : most < 18446744073709551616) (hq : QIs w b b0 bv l p why) (hcap : ∃ a m c, bv = .slice a m c ∧ m ≤ c ∧ c ≤ maxLen) :
    Calls Tryz.prog 57 #[.pointer (some ⟨b, 0, none⟩), .int .u64 most] w (QNumE w b b0 bv l (rNum l p why most)) := by
  obtain ⟨A, r, Y, Z, hb, hrd, hne, hA, hst⟩ := hq
  obtain ⟨c0, c1, c2, c3, c4, hf⟩ := qcells hb
  rcases hst with ⟨rfl, rfl, rfl⟩ | ⟨h0, rfl, rfl, rfl⟩
  · go_enter Tryz.func57, Tryz.ntmps57
    go_wp2
    go_loopg [6, 7, 8] 10 (fun gk n k _ wr => ∃ j acc : Nat, gk + j = 10 ∧ j < 10 ∧ A + j ≤ l.length ∧ k = .int .i64 j ∧ n = .int .u64 acc ∧ acc < 2 ^ (7 * j) ∧ Hid (dec (l.drop A) j acc = dec (l.drop A) 0 0) ∧ QBox wr b bv (A + j) false Y Z ∧ Kept (fun k => k = b) w wr)
    case atStart => exact ⟨0, 0, rfl, by omega, by omega, rfl, rfl, by decide, rfl, hb, Kept.refl _ _⟩
    case round =>
      obtain ⟨j, acc, hgj, hj, hAj, rfl, rfl, hacc, HD, hbr, hK⟩ := hrel
      have hrdr := hrd.keptE hK (fun h => hne h.symm)
      clear c0 c1 c2 c3 c4 hf hb
      obtain ⟨c0, c1, c2, c3, c4, hf⟩ := qcells hbr
      have hf1 := hf 1
      go_wp2_with fail
      refine (qraw_box 1 b b0 bv l (A + j) false Y Z wr (by omega) hl hAj hbr hrdr hcap).mono ?_
      rintro e w1 ⟨v1, g1, l1, rfl, hr1, hg1, hk1, hcase⟩
      have hK1 := hK.trans hk1 (U := fun k => k = b) (fun _ _ h => h) (fun _ _ h => h)
      have hrd1 := hrdr.keptE hk1 (fun h => hne h.symm)
      rcases hcase with ⟨h0, _⟩ | ⟨_, _, hend, hl1, hb1⟩ | ⟨_, _, hin, hl1, hb1⟩
      · exfalso; simp at h0
      · have hend' : l.length = A + j := by omega
        obtain ⟨d0, d1, d2, d3, d4, hf'⟩ := qcells hb1
        obtain ⟨a1, n1, c1', hv1⟩ := hr1.rd.shape3'
        subst hv1
        have HR : Hid (rNum l A 0 most = (0, l.length, 10)) := by
          have h : dec (l.drop A) 0 0 = (0, 0, 10) := by rw [← HD.out]; exact dec_none hj (List.getElem?_eq_none (by simp; omega))
          rw [Hid, rNum_dec h, if_pos rfl]
        clear hend'
        go_wp2
        go_ret
        rw [HR.out]
        exact ⟨rfl, ⟨_, _, _, _, hb1, hrd1, hne, hAj, .inr ⟨by simp, rfl, rfl, rfl⟩⟩, hK1⟩
      · have hlt : A + j < l.length := by omega
        have hx : (l.drop A)[j]? = some (l.getD (A + j) 0) := by simp [List.getElem?_drop, List.getD, hlt]
        have hl1' : l1 = [l.getD (A + j) 0] := by
          have h1 : (l.drop (A + j)).take 1 = [l[A + j]] := by rw [List.drop_eq_getElem_cons hlt]; rfl
          rw [hl1, show (1 : Int).toNat = 1 from rfl, h1]
          simp [List.getD, hlt]
        have hx256 : l.getD (A + j) 0 < 256 := h256 _ (by simp [List.getD, hlt])
        rw [show (1 : Int).toNat = 1 from rfl] at hb1
        generalize l.getD (A + j) 0 = x at hx hl1' hx256
        subst hl1'
        clear hl1
        rcases hr1.shape with ⟨_, h⟩ | ⟨cap1, hv1, _, _⟩
        · simp at h
        · subst hv1
          have hcx := hr1.cell 0 (by simp)
          simp only [List.getD_cons_zero] at hcx
          obtain ⟨d0, d1, d2, d3, d4, hf'⟩ := qcells hb1
          have hf1' := hf' 1
          have hlow := low_bits x hx256
          have hj10 : ¬ (9 : Int) < j := by omega
          by_cases j9 : j = 9
          · have j9b : ((j : Int) == 9) = true := by simp; omega
            have jp : (0 : Int) < j := by omega
            by_cases x1 : 1 < x
            · have HR : Hid (rNum l A 0 most = (0, A, 12)) := by
                have h : dec (l.drop A) 0 0 = (0, 0, 12) := by
                  rw [← HD.out]
                  by_cases h128 : 128 ≤ x
                  · rw [dec_on hj hx h128, dec_end (by omega)]
                  · exact dec_bad hj hx (by omega) (by omega)
                rw [Hid, rNum_dec h, if_neg (by omega), if_pos (by omega)]
              have x1b : (1 : Int) < x := by omega
              clear j9 x1
              clear hlow
              go_wp2_with fail
              have hb2 : QBox (w1.setCell ⟨b, 1, none⟩ (.int .i64 A)) b bv A false Y Z := Box.set hb1 1 (.int .i64 A)
              refine (qrefuse 12 A b bv A false Y Z _ hb2).mono ?_
              rintro e w2 ⟨rfl, hb3, hk3⟩
              have hk4 := (kept_set w1 b 1 (.int .i64 A)).trans hk3 (U := fun k => k = b) (fun _ _ h => h) (fun _ _ h => h)
              have hrd3 := hrd1.keptE hk4 (fun h => hne h.symm)
              have hK3 := hK1.trans hk4 (U := fun k => k = b) (fun _ _ h => h) (fun _ _ h => h)
              go_wp2
              go_ret
              rw [HR.out]
              exact ⟨rfl, ⟨_, _, _, _, hb3, hrd3, hne, hA, .inr ⟨by simp, rfl, rfl, rfl⟩⟩, hK3⟩
            · have x1b : ¬ (1 : Int) < x := by omega
              by_cases x0 : x = 0
              · have HR : Hid (rNum l A 0 most = (0, A, 12)) := by
                  have h : dec (l.drop A) 0 0 = (0, 0, 12) := by
                    rw [← HD.out]
                    by_cases h128 : 128 ≤ x
                    · rw [dec_on hj hx h128, dec_end (by omega)]
                    · exact dec_bad hj hx (by omega) (by omega)
                  rw [Hid, rNum_dec h, if_neg (by omega), if_pos (by omega)]
                have x0b : ((x : Int) == 0) = true := by simp; omega
                clear j9 x1 x0
                clear hlow
                go_wp2_with fail
                have hb2 : QBox (w1.setCell ⟨b, 1, none⟩ (.int .i64 A)) b bv A false Y Z := Box.set hb1 1 (.int .i64 A)
                refine (qrefuse 12 A b bv A false Y Z _ hb2).mono ?_
                rintro e w2 ⟨rfl, hb3, hk3⟩
                have hk4 := (kept_set w1 b 1 (.int .i64 A)).trans hk3 (U := fun k => k = b) (fun _ _ h => h) (fun _ _ h => h)
                have hrd3 := hrd1.keptE hk4 (fun h => hne h.symm)
                have hK3 := hK1.trans hk4 (U := fun k => k = b) (fun _ _ h => h) (fun _ _ h => h)
                go_wp2
                go_ret
                rw [HR.out]
                exact ⟨rfl, ⟨_, _, _, _, hb3, hrd3, hne, hA, .inr ⟨by simp, rfl, rfl, rfl⟩⟩, hK3⟩
              · have x0b : ((x : Int) == 0) = false := by simp; omega
                have hval := or_val (k := j) (acc := acc) (x := x) (by omega) hacc
                obtain ⟨V, HVe⟩ : ∃ V, Hid (V = acc + x % 128 * 2 ^ (7 * j)) := ⟨_, rfl⟩
                rw [← HVe.out] at hval
                obtain ⟨hV1, hV2⟩ := hval
                have hx128 : (x : Int) < 128 := by omega
                have HB : Hid (dec (l.drop A) 0 0 = (V, j + 1, 0)) := by
                  rw [Hid, ← HD.out, dec_ok hj hx (by omega) (by omega), HVe.out]
                  simp only [show x % 128 = x by omega]
                clear j9 x1 x0
                by_cases hmo : most < V
                · have HR : Hid (rNum l A 0 most = (0, A, 3)) := by rw [Hid, rNum_dec HB.out, if_neg (by omega), if_neg (by omega), if_pos hmo]
                  go_wp2_with fail
                  refine (qrefuse 3 A b bv (A + j + 1) false Y Z _ hb1).mono ?_
                  rintro e w2 ⟨rfl, hb3, hk3⟩
                  have hrd3 := hrd1.keptE hk3 (fun h => hne h.symm)
                  have hK3 := hK1.trans hk3 (U := fun k => k = b) (fun _ _ h => h) (fun _ _ h => h)
                  go_wp2
                  go_ret
                  rw [HR.out]
                  exact ⟨rfl, ⟨_, _, _, _, hb3, hrd3, hne, by omega, .inr ⟨by simp, rfl, rfl, rfl⟩⟩, hK3⟩
                · have HR : Hid (rNum l A 0 most = (V, A + (j + 1), 0)) := by rw [Hid, rNum_dec HB.out, if_neg (by omega), if_neg (by omega), if_neg hmo]
                  go_wp2
                  go_ret
                  rw [HR.out]
                  exact ⟨rfl, ⟨_, _, _, _, hb1, hrd1, hne, by omega, .inl ⟨rfl, rfl, rfl⟩⟩, hK1⟩
          · have j9b : ((j : Int) == 9) = false := by simp; omega
            by_cases j0 : 0 < j
            · have jp : (0 : Int) < j := by omega
              by_cases x0 : x = 0
              · have HR : Hid (rNum l A 0 most = (0, A, 12)) := by
                  have h : dec (l.drop A) 0 0 = (0, 0, 12) := by
                    rw [← HD.out]
                    by_cases h128 : 128 ≤ x
                    · rw [dec_on hj hx h128, dec_end (by omega)]
                    · exact dec_bad hj hx (by omega) (by omega)
                  rw [Hid, rNum_dec h, if_neg (by omega), if_pos (by omega)]
                have x0b : ((x : Int) == 0) = true := by simp; omega
                clear j9 x0
                clear hlow
                go_wp2_with fail
                have hb2 : QBox (w1.setCell ⟨b, 1, none⟩ (.int .i64 A)) b bv A false Y Z := Box.set hb1 1 (.int .i64 A)
                refine (qrefuse 12 A b bv A false Y Z _ hb2).mono ?_
                rintro e w2 ⟨rfl, hb3, hk3⟩
                have hk4 := (kept_set w1 b 1 (.int .i64 A)).trans hk3 (U := fun k => k = b) (fun _ _ h => h) (fun _ _ h => h)
                have hrd3 := hrd1.keptE hk4 (fun h => hne h.symm)
                have hK3 := hK1.trans hk4 (U := fun k => k = b) (fun _ _ h => h) (fun _ _ h => h)
                go_wp2
                go_ret
                rw [HR.out]
                exact ⟨rfl, ⟨_, _, _, _, hb3, hrd3, hne, hA, .inr ⟨by simp, rfl, rfl, rfl⟩⟩, hK3⟩
              · have x0b : ((x : Int) == 0) = false := by simp; omega
                have hval := or_val (k := j) (acc := acc) (x := x) (by omega) hacc
                obtain ⟨V, HVe⟩ : ∃ V, Hid (V = acc + x % 128 * 2 ^ (7 * j)) := ⟨_, rfl⟩
                rw [← HVe.out] at hval
                obtain ⟨hV1, hV2⟩ := hval
                by_cases x128 : x < 128
                · have hx128 : (x : Int) < 128 := by omega
                  have HB : Hid (dec (l.drop A) 0 0 = (V, j + 1, 0)) := by
                    rw [Hid, ← HD.out, dec_ok hj hx (by omega) (by omega), HVe.out]
                    simp only [show x % 128 = x by omega]
                  by_cases hmo : most < V
                  · have HR : Hid (rNum l A 0 most = (0, A, 3)) := by rw [Hid, rNum_dec HB.out, if_neg (by omega), if_neg (by omega), if_pos hmo]
                    go_wp2_with fail
                    refine (qrefuse 3 A b bv (A + j + 1) false Y Z _ hb1).mono ?_
                    rintro e w2 ⟨rfl, hb3, hk3⟩
                    have hrd3 := hrd1.keptE hk3 (fun h => hne h.symm)
                    have hK3 := hK1.trans hk3 (U := fun k => k = b) (fun _ _ h => h) (fun _ _ h => h)
                    go_wp2
                    go_ret
                    rw [HR.out]
                    exact ⟨rfl, ⟨_, _, _, _, hb3, hrd3, hne, by omega, .inr ⟨by simp, rfl, rfl, rfl⟩⟩, hK3⟩
                  · have HR : Hid (rNum l A 0 most = (V, A + (j + 1), 0)) := by rw [Hid, rNum_dec HB.out, if_neg (by omega), if_neg (by omega), if_neg hmo]
                    go_wp2
                    go_ret
                    rw [HR.out]
                    exact ⟨rfl, ⟨_, _, _, _, hb1, hrd1, hne, by omega, .inl ⟨rfl, rfl, rfl⟩⟩, hK1⟩
                · have hx128 : (128 : Int) ≤ x := by omega
                  have HDn : Hid (dec (l.drop A) (j + 1) V = dec (l.drop A) 0 0) := by rw [Hid, ← HD.out, dec_on hj hx (by omega), HVe.out]
                  go_wp2
                  go_roundg (10 - (j + 1))
                  case measure => omega
                  case rel => exact ⟨j + 1, V, by omega, by omega, by omega, by go_num, rfl, hV2, HDn, by simpa [Nat.add_assoc] using hb1, hK1⟩
            · have jp : ¬ (0 : Int) < j := by omega
              have hval := or_val (k := j) (acc := acc) (x := x) (by omega) hacc
              obtain ⟨V, HVe⟩ : ∃ V, Hid (V = acc + x % 128 * 2 ^ (7 * j)) := ⟨_, rfl⟩
              rw [← HVe.out] at hval
              obtain ⟨hV1, hV2⟩ := hval
              by_cases x128 : x < 128
              · have hx128 : (x : Int) < 128 := by omega
                have HB : Hid (dec (l.drop A) 0 0 = (V, j + 1, 0)) := by
                  rw [Hid, ← HD.out, dec_ok hj hx (by omega) (by omega), HVe.out]
                  simp only [show x % 128 = x by omega]
                by_cases hmo : most < V
                · have HR : Hid (rNum l A 0 most = (0, A, 3)) := by rw [Hid, rNum_dec HB.out, if_neg (by omega), if_neg (by omega), if_pos hmo]
                  go_wp2_with fail
                  refine (qrefuse 3 A b bv (A + j + 1) false Y Z _ hb1).mono ?_
                  rintro e w2 ⟨rfl, hb3, hk3⟩
                  have hrd3 := hrd1.keptE hk3 (fun h => hne h.symm)
                  have hK3 := hK1.trans hk3 (U := fun k => k = b) (fun _ _ h => h) (fun _ _ h => h)
                  go_wp2
                  go_ret
                  rw [HR.out]
                  exact ⟨rfl, ⟨_, _, _, _, hb3, hrd3, hne, by omega, .inr ⟨by simp, rfl, rfl, rfl⟩⟩, hK3⟩
                · have HR : Hid (rNum l A 0 most = (V, A + (j + 1), 0)) := by rw [Hid, rNum_dec HB.out, if_neg (by omega), if_neg (by omega), if_neg hmo]
                  go_wp2
                  go_ret
                  rw [HR.out]
                  exact ⟨rfl, ⟨_, _, _, _, hb1, hrd1, hne, by omega, .inl ⟨rfl, rfl, rfl⟩⟩, hK1⟩
              · have hx128 : (128 : Int) ≤ x := by omega
                have HDn : Hid (dec (l.drop A) (j + 1) V = dec (l.drop A) 0 0) := by rw [Hid, ← HD.out, dec_on hj hx (by omega), HVe.out]
                go_wp2
                go_roundg (10 - (j + 1))
                case measure => omega
                case rel => exact ⟨j + 1, V, by omega, by omega, by omega, by go_num, rfl, hV2, HDn, by simpa [Nat.add_assoc] using hb1, hK1⟩
  · have HR : Hid (rNum l Z Y most = (0, Z, Y)) := by simp [Hid, rNum, h0]
    have hq0 : QIs w b b0 bv l Z Y := ⟨A, true, Y, Z, hb, hrd, hne, hA, .inr ⟨h0, rfl, rfl, rfl⟩⟩
    go_enter Tryz.func57, Tryz.ntmps57
    go_wp2
    go_loopg [6, 7, 8] 0 (fun _ n _ _ wr => n = .int .u64 0 ∧ wr = w)
    case atStart => exact ⟨rfl, rfl⟩
    case round =>
      obtain ⟨rfl, rfl⟩ := hrel
      go_wp2
      go_ret
      rw [HR.out]
      exact ⟨rfl, hq0, Kept.refl _ _⟩
end Go.Proofs.YtalbjbahgbkifaaGreat.Wire

namespace Go.Proofs.YtalbjbahgbkifaaGreat.Wire
open Go.RowKit

def QSigE (w : World) (b b0 : Nat) (bv : Value) (l : List Nat) (R : Nat × Nat × Nat) (e : Ending) (w' : World) : Prop :=
  e = .returned (.int .i64 (zag R.1)) ∧ QIs w' b b0 bv l R.2.1 R.2.2 ∧ Kept (fun k => k = b) w w'

def QTakeE (w : World) (b b0 : Nat) (bv : Value) (l : List Nat) (T : List Nat × Nat × Nat) (e : Ending) (w' : World) : Prop :=
  ∃ v g, e = .returned v ∧ Row w' g v T.1 ∧ w.heap.size ≤ g ∧ QIs w' b b0 bv l T.2.1 T.2.2 ∧ Kept (fun k => k = b) w w'

theorem qraw (n : Int) (b b0 : Nat) (bv : Value) (l : List Nat) (p why : Nat) (w : World) (hn : n < 9223372036854775808) (hl : l.length ≤ 140737488351232) (hp : p ≤ l.length) (hq : QIs w b b0 bv l p why) (hcap : ∃ a m c, bv = .slice a m c ∧ m ≤ c ∧ c ≤ maxLen) :
    Calls Tryz.prog 93 #[.pointer (some ⟨b, 0, none⟩), .int .i64 n] w (QTakeE w b b0 bv l (rTake l p why n)) := by
  obtain ⟨A, r, Y, Z, hb, hrd, hne, hA, hst⟩ := hq
  refine (qraw_box n b b0 bv l A r Y Z w hn hl hA hb hrd hcap).mono ?_
  rintro e w1 ⟨v1, g1, l1, he, hr1, hg1, hk1, hcase⟩
  have hrd1 := hrd.keptE hk1 (fun h => hne h.symm)
  rcases hst with ⟨rfl, rfl, rfl⟩ | ⟨h0, rfl, rfl, rfl⟩
  · rcases hcase with ⟨hc, rfl, hb1⟩ | ⟨_, hn0, hend, rfl, hb1⟩ | ⟨_, hn0, hin, rfl, hb1⟩
    · have hn0 : n < 0 := by simpa using hc
      have e1 : rTake l A 0 n = ([], A, 0) := by rw [rTake, if_pos (by omega)]
      rw [e1]
      exact ⟨v1, g1, he, hr1, hg1, ⟨_, _, _, _, hb1, hrd1, hne, hA, .inl ⟨rfl, rfl, rfl⟩⟩, hk1⟩
    · have e1 : rTake l A 0 n = ([], l.length, 10) := by rw [rTake, if_neg (by omega), if_pos hend]
      rw [e1]
      exact ⟨v1, g1, he, hr1, hg1, ⟨_, _, _, _, hb1, hrd1, hne, hA, .inr ⟨by simp, rfl, rfl, rfl⟩⟩, hk1⟩
    · have e1 : rTake l A 0 n = ((l.drop A).take n.toNat, A + n.toNat, 0) := by
        by_cases hz : n = 0
        · subst hz; rw [rTake, if_pos (by omega)]; simp
        · rw [rTake, if_neg (by omega), if_neg (by omega)]
      rw [e1]
      exact ⟨v1, g1, he, hr1, hg1, ⟨_, _, _, _, hb1, hrd1, hne, by omega, .inl ⟨rfl, rfl, rfl⟩⟩, hk1⟩
  · rcases hcase with ⟨hc, rfl, hb1⟩ | ⟨hc, _⟩ | ⟨hc, _⟩
    · have e1 : rTake l Z Y n = ([], Z, Y) := by rw [rTake, if_pos (Or.inl h0)]
      rw [e1]
      exact ⟨v1, g1, he, hr1, hg1, ⟨_, _, _, _, hb1, hrd1, hne, hA, .inr ⟨h0, rfl, rfl, rfl⟩⟩, hk1⟩
    · simp at hc
    · simp at hc

def QTextE (w : World) (b b0 : Nat) (bv : Value) (l : List Nat) (T : List Nat × Nat × Nat) (e : Ending) (w' : World) : Prop :=
  e = .returned (.string (toStr T.1)) ∧ QIs w' b b0 bv l T.2.1 T.2.2 ∧ Kept (fun k => k = b) w w'

set_option maxHeartbeats 800000 in
set_option maxRecDepth 1000000 in
theorem qtext (most : Int) (b b0 : Nat) (bv : Value) (l : List Nat) (p why : Nat) (w : World) (h0 : -9223372036854775808 ≤ most) (h1 : most < 9223372036854775808) (hl : l.length ≤ 140737488351232) (h256 : ∀ x ∈ l, x < 256) (hp : p ≤ l.length) (hq : QIs w b b0 bv l p why) (hcap : ∃ a m c, bv = .slice a m c ∧ m ≤ c ∧ c ≤ maxLen) (R : Nat × Nat × Nat) (HR : Hid (R = rNum l p why most.toNat)) :
    Calls Tryz.prog 56 #[.pointer (some ⟨b, 0, none⟩), .int .i64 most] w (QTextE w b b0 bv l (rTake l R.2.1 R.2.2 R.1)) := by
  have hcall := qnumber b b0 bv l p why most.toNat w hl h256 hp (by omega) hq hcap
  have hlt := rNum_lt l p why most.toNat
  have hmost := rNum_most l p why most.toNat
  have hple := rNum_le l p why most.toNat hp
  rw [← HR.out] at hcall hlt hmost hple
  obtain ⟨n, p', why'⟩ := R
  simp only at hlt hmost hple
  have hn0 : n < 9223372036854775808 := by omega
  obtain ⟨T, HT⟩ : ∃ T, Hid (T = rTake l p' why' n) := ⟨_, rfl⟩
  have hraw : ∀ u, QIs u b b0 bv l p' why' → Calls Tryz.prog 93 #[.pointer (some ⟨b, 0, none⟩), .int .i64 n] u (QTakeE u b b0 bv l T) := by
    intro u hu
    rw [HT.out]
    exact qraw n b b0 bv l p' why' u (by omega) hl hple hu hcap
  show Calls Tryz.prog 56 #[.pointer (some ⟨b, 0, none⟩), .int .i64 most] w (QTextE w b b0 bv l (rTake l p' why' n))
  rw [← HT.out]
  clear hmost HR
  by_cases hm : most < 0
  · have e : ((most.toNat : Nat) : Int) = 0 := by omega
    rw [e] at hcall
    clear e
    go_enter Tryz.func56, Tryz.ntmps56
    go_wp2_with fail
    refine hcall.mono ?_
    rintro e w1 ⟨rfl, k1, k2⟩
    go_wp2_with fail
    refine (hraw _ k1).mono ?_
    rintro e w2 ⟨v2, g2, rfl, j1, _, j2, j3⟩
    have hcv := j1.rd.string
    obtain ⟨a2, n2, c2, hv2⟩ := j1.rd.shape3'
    subst hv2
    go_wp2
    go_ret
    exact ⟨rfl, j2, k2.trans j3 (fun _ _ h => h) (fun _ _ h => h)⟩
  · have e : ((most.toNat : Nat) : Int) = most := by omega
    rw [e] at hcall
    have hm' : 0 ≤ most := by omega
    clear e hm
    go_enter Tryz.func56, Tryz.ntmps56
    go_wp2_with fail
    refine hcall.mono ?_
    rintro e w1 ⟨rfl, k1, k2⟩
    go_wp2_with fail
    refine (hraw _ k1).mono ?_
    rintro e w2 ⟨v2, g2, rfl, j1, _, j2, j3⟩
    have hcv := j1.rd.string
    obtain ⟨a2, n2, c2, hv2⟩ := j1.rd.shape3'
    subst hv2
    go_wp2
    go_ret
    exact ⟨rfl, j2, k2.trans j3 (fun _ _ h => h) (fun _ _ h => h)⟩

set_option maxHeartbeats 800000 in
theorem qend (b b0 : Nat) (bv : Value) (l : List Nat) (p why : Nat) (w : World) (_hl : l.length ≤ 140737488351232) (hq : QIs w b b0 bv l p why) :
    Calls Tryz.prog 59 #[.pointer (some ⟨b, 0, none⟩)] w fun e w' => e = .returned (.tuple #[.int .i64 (rEnd l p why).1, .int .i64 (rEnd l p why).2]) ∧ Kept (fun _ => False) w w' := by
  obtain ⟨A, r, Y, Z, hb, hrd, hne, hA, hst⟩ := hq
  obtain ⟨c0, c1, c2, c3, c4, hf⟩ := qcells hb
  obtain ⟨a, c, hsh⟩ := hrd.shape
  subst hsh
  rcases hst with ⟨rfl, rfl, rfl⟩ | ⟨h0, rfl, rfl, rfl⟩
  · by_cases h1 : A < l.length
    · have HE : Hid (rEnd l A 0 = (11, A)) := by simp [Hid, rEnd, h1]
      go_enter Tryz.func59, Tryz.ntmps59
      go_wp2
      go_quiet (fail)
      go_wp2
      go_quiet (fail)
      go_wp2
      go_ret2
      rw [HE.out]
      exact ⟨rfl, ((kept_drewN _ _).trans (kept_drewN _ _) (fun _ _ h => h) (fun _ _ h => h))⟩
    · have HE : Hid (rEnd l A 0 = (0, 0)) := by simp [Hid, rEnd, h1]
      go_enter Tryz.func59, Tryz.ntmps59
      go_wp2
      go_quiet (fail)
      go_wp2
      go_ret2
      rw [HE.out]
      exact ⟨rfl, kept_drewN _ _⟩
  · have HE : Hid (rEnd l Z Y = (Y, Z)) := by simp [Hid, rEnd, h0]
    go_enter Tryz.func59, Tryz.ntmps59
    go_wp2
    go_quiet (fail)
    go_wp2
    go_ret2
    rw [HE.out]
    exact ⟨rfl, kept_drewN _ _⟩
end Go.Proofs.YtalbjbahgbkifaaGreat.Wire

namespace Go.Proofs.YtalbjbahgbkifaaGreat.Wire
open Go.RowKit

theorem wpList_copy_run {P : Program} (w : World) {ops : Array Oper} {rest : List Oper} {o : Oper} {a : Act} {Q : Exit → Act → World → Prop} (hgd : o.guard = none) (d s : Operand) (dT sT : TypeId)
    (ho : o.op = .call { callee := .builtin .copy, args := #[d, s], argTypes := #[dT, sT] }) (dv sv : Value) (hd : a.eval d = dv) (hs : a.eval s = sv) (r : Value) (w' : World) (hr : ∀ ty, (Builtin.copy_ #[dT, sT] ty #[dv, sv]).run P w = .ok r w')
    (h : wpList P ops Q rest (a.put o.dst r) w') : wpList P ops Q (o :: rest) a w := by
  refine wpList_plain hgd fun K hK => ?_
  unfold Oper.wp execOp
  simp only [ho, resolve, invoke, builtin, Sem.run_bind, Sem.run_pure, Result.andThen_ok, List.map_toArray, List.map_cons, List.map_nil, hd, hs, hr]
  exact hK _ _ h

theorem Row.store {w : World} {g c : Nat} {L : List Nat} (h : Row w g (.slice (some ⟨g, 0, none⟩) L.length c) L) (j x : Nat) : Row (w.setCell ⟨g, j, none⟩ (.int .u8 x)) g (.slice (some ⟨g, 0, none⟩) L.length c) (L.set j x) := by
  have h1 := (h.1.stored j (.int .u8 x)).1
  refine ⟨?_, Or.inr rfl⟩
  have e : (bs L).set j (.int .u8 x) = bs (L.set j x) := by simp [bs, List.map_set]
  rw [e] at h1
  simpa using h1

theorem Rd.at {w : World} {b off c : Nat} {l : List Nat} (h : Rd w b (.slice (some ⟨b, off, none⟩) l.length c) l) (j : Nat) (hj : j < l.length) : w.cell? ⟨b, off + j, none⟩ = some (.int .u8 ((l.getD j 0 : Nat) : Int)) := by
  rcases h with ⟨h, _⟩ | ⟨a, cap, h, _, hc⟩
  · simp at h
  · simp at h
    obtain ⟨rfl, rfl⟩ := h
    have := hc j (.int .u8 ((l.getD j 0 : Nat) : Int)) (by simp [bs, hj])
    have e : (⟨b, off, none⟩ : Addr).add j = ⟨b, off + j, none⟩ := by unfold Addr.add; split <;> simp_all
    rw [e] at this
    exact this

def RoomE (w : World) (l : List Nat) (e : Ending) (w' : World) : Prop :=
  ∃ c g, e = .returned (.slice (some ⟨g, 0, none⟩) (l.length + 80) c) ∧ Row w' g (.slice (some ⟨g, 0, none⟩) (l.length + 80) c) (l ++ List.replicate 80 165) ∧ w.heap.size ≤ g ∧ l.length + 80 ≤ c ∧ c ≤ maxLen ∧ Kept (fun _ => False) w w'

theorem fill_step (l : List Nat) (k : Nat) (hk : k < 80) : (l ++ List.replicate k 165 ++ List.replicate (80 - k) 0).set (l.length + k) 165 = l ++ List.replicate (k + 1) 165 ++ List.replicate (80 - (k + 1)) 0 := by
  obtain ⟨m, hm⟩ : ∃ m, 80 - k = m + 1 := ⟨80 - k - 1, by omega⟩
  rw [hm, show 80 - (k + 1) = m by omega, List.set_append_right _ _ (by simp), List.replicate_succ]
  simp [List.replicate_succ', List.append_assoc]

set_option maxHeartbeats 1600000 in
set_option maxRecDepth 1000000 in
theorem roomy (v : Value) (b0 : Nat) (l : List Nat) (w : World) (hl : l.length ≤ 140737488351232) (hrd : Rd w b0 v l) :
    Calls Tryz.prog 19 #[v, .int .u8 165] w (RoomE w l) := by
  obtain ⟨a0, c0, hsh⟩ := hrd.shape
  subst hsh
  have hmk : ∀ u : World, (Instr.makeSlice 26 (.int .i64 ((l.length : Int) + 80)) (.int .i64 ((l.length : Int) + 80))).run Tryz.prog u = .ok (.slice (some ⟨u.heap.size, 0, none⟩) (l.length + 80) (l.length + 80)) (u.alloc (.cells (madeCells #[.int .u8 0] (l.length + 80)) 5)) := by
    intro u
    have h := run_make_row' (P := Tryz.prog) 26 5 (.int .u8 0) 1 Tryz.underlying26 Tryz.info5 rfl .i64 .i64 (l.length + 80) (by omega) (by omega) u
    rw [show ((l.length + 80 : Nat) : Int) = (l.length : Int) + 80 by omega] at h
    exact h
  have hcells : (w.alloc (.cells (madeCells #[.int .u8 0] (l.length + 80)) 5)).heap[w.heap.size]? = some (.cells (madeCells #[.int .u8 0] (l.length + 80)) 5) := heap_alloc_new w _
  have hmt : (madeCells #[Value.int .u8 0] (l.length + 80)).toList = List.replicate (l.length + 80) (.int .u8 0) := toList_madeCells_one _ _
  obtain ⟨r, wc, hcopy, hrow, hkc⟩ : ∃ r wc, (∀ ty, (Builtin.copy_ #[26, 26] ty #[.slice (some ⟨w.heap.size, 0, none⟩) (l.length + 80) (l.length + 80), .slice a0 l.length c0]).run Tryz.prog (w.alloc (.cells (madeCells #[.int .u8 0] (l.length + 80)) 5)) = .ok r wc) ∧
      Row wc w.heap.size (.slice (some ⟨w.heap.size, 0, none⟩) (l.length + 80) (l.length + 80)) (l ++ List.replicate 80 0) ∧ Kept (fun _ => False) w wc := by
    have hsize : (Tryz.prog.info? 5).map (·.size) = some 1 := by kernel_rfl
    have hlen : (l ++ List.replicate 80 0).length = l.length + 80 := by simp
    rcases hrd with ⟨h, rfl⟩ | ⟨a, cap, h, rfl, hc⟩
    · simp at h
      obtain ⟨rfl, rfl⟩ := h
      refine ⟨_, _, fun ty => run_copy_none _ 26 26 ty 5 _ _ _ _ _ _ Tryz.underlying26 hsize (by simp), ?_, (Kept.refl _ w).alloc _⟩
      refine ⟨⟨by simp [bs], .inr ⟨w.heap.size, 80, _, by simp, Nat.zero_le _, hcells, by simp, by simp [maxLen], by simp [madeCells], ?_⟩⟩, Or.inr rfl⟩
      simp only [List.length_nil, Nat.zero_add] at hmt
      simp only [List.length_nil, Nat.zero_add, List.nil_append, List.length_replicate]
      rw [hmt]
      simp [bs]
    · simp at h
      obtain ⟨rfl, rfl⟩ := h
      have hrun := fun ty => run_copy_cells (P := Tryz.prog) (w.alloc (.cells (madeCells #[.int .u8 0] (l.length + 80)) 5)) 26 26 ty 5 w.heap.size 0 (l.length + 80) (l.length + 80) a l.length c0 (bs l) Tryz.underlying26 hsize
        (by rw [bs_length]; simp) (fun j u hu => ((Kept.refl (fun _ => False) w).alloc _).cell (hc j u hu) (fun h => h))
        (fun j hj => by rw [cell_of_row _ _ _ _ _ _ hcells]; simp [madeCells]; rw [bs_length] at hj; omega) (fun j hj => frozen_of_row _ _ _ _ _ hcells) (bs_one l)
      refine ⟨_, _, hrun, ?_, ?_⟩
      · have hh := setCells_heap 5 (0, 0) w.heap.size (bs l) 0 _ _ hcells (by simp [bs_length, madeCells])
        refine ⟨⟨by simp [bs], .inr ⟨w.heap.size, l.length + 80, _, by rw [hlen], Nat.zero_le _, hh, by rw [hlen]; omega, by unfold maxLen; omega, ?_, ?_⟩⟩, Or.inr rfl⟩
        · simp [bs_length, madeCells]
        · rw [hmt, hlen]
          simp only [List.take_zero, List.nil_append, Nat.zero_add, bs_length, List.drop_replicate, Nat.mul_one]
          rw [show l.length + 80 - l.length = 80 by omega, bs_append, show bs (List.replicate 80 0) = List.replicate 80 (.int .u8 0) by simp [bs]]
          exact List.take_of_length_le (by simp [bs_length])
      · have : Kept (fun k => k = w.heap.size) w ((w.alloc (.cells (madeCells #[.int .u8 0] (l.length + 80)) 5)).setCells w.heap.size 0 (bs l)) := by
          have hst : ∀ (vs : List Value) (o : Nat) (u : World), Kept (fun k => k = w.heap.size) w u → Kept (fun k => k = w.heap.size) w (u.setCells w.heap.size o vs) := by
            intro vs
            induction vs with
            | nil => intro o u h; exact h
            | cons x r ih => intro o u h; exact ih _ _ (h.setCell (p := ⟨w.heap.size, o, none⟩) (fun _ => rfl) x)
          exact hst _ _ _ ((Kept.refl _ w).alloc _)
        exact this.mono (fun x hx h => by omega)
  clear hcells hmt hrd
  go_enter Tryz.func19, Tryz.ntmps19
  go_wp2_with (refine wpList_copy_run _ rfl (.tmp 11) (.tmp 12) 26 26 rfl _ _ rfl rfl r wc hcopy ?_)
  clear hcopy hmk
  go_loopg [6] 80 (fun gk i wr => ∃ m k : Nat, gk + k = 80 ∧ m = l.length + k ∧ i = .int .i64 m ∧ Row wr w.heap.size (.slice (some ⟨w.heap.size, 0, none⟩) (l.length + 80) (l.length + 80)) (l ++ List.replicate k 165 ++ List.replicate (80 - k) 0) ∧ Kept (fun _ => False) w wr)
  case atStart => exact ⟨l.length, 0, rfl, rfl, rfl, by simpa using hrow, hkc⟩
  case round =>
    obtain ⟨m, k, hgk, hmk, rfl, hr, hK⟩ := hrel
    clear hrow hkc
    have HM : Hid (m = l.length + k) := hmk
    have hm1 : m ≤ l.length + 80 := by omega
    clear hmk
    by_cases hk : k < 80
    · have hlen : (l ++ List.replicate k 165 ++ List.replicate (80 - k) 0).length = l.length + 80 := by simp; omega
      have hr' := hr
      rw [← hlen] at hr'
      have hml : m < l.length + 80 := by have := HM.out; omega
      have hc := hr'.cell m (by omega)
      have hfz := hr'.1.frozenAt m
      have hst := hr'.store m 165
      rw [HM.out, fill_step l k hk, ← HM.out, hlen] at hst
      have hkst : Kept (fun _ => False) w (wr.setCell ⟨w.heap.size, m, none⟩ (.int .u8 165)) := hK.setCell (p := ⟨w.heap.size, m, none⟩) (fun h => by simp at h) _
      clear hr' hr hlen
      generalize (l ++ List.replicate k 165 ++ List.replicate (80 - k) 0).getD m 0 = old at hc
      go_wp2
      go_roundg (80 - (k + 1))
      case measure => omega
      case rel => exact ⟨m + 1, k + 1, by omega, by have := HM.out; omega, by go_num, hst, hkst⟩
    · have hk80 : k = 80 := by omega
      subst hk80
      have hmm : l.length + 80 ≤ m := by have := HM.out; omega
      clear HM
      go_wp2
      go_ret
      exact ⟨_, _, rfl, by simpa using hr, Nat.le_refl _, Nat.le_refl _, by unfold maxLen; omega, hK⟩

def SameE (w : World) (e : Ending) (w' : World) : Prop := e = .returned (.bool true) ∧ Kept (fun _ => False) w w'

set_option maxHeartbeats 1600000 in
set_option maxRecDepth 1000000 in
theorem same (v1 v2 : Value) (b1 b2 : Nat) (l : List Nat) (w : World) (_hl : l.length ≤ 140737488355328) (h1 : Rd w b1 v1 l) (h2 : Rd w b2 v2 l) : Calls Tryz.prog 61 #[v1, v2] w (SameE w) := by
  obtain ⟨x1, y1, e1⟩ := h1.shape
  obtain ⟨x2, y2, e2⟩ := h2.shape
  have haddr : 0 < l.length → ∃ o1 o2, x1 = some ⟨b1, o1, none⟩ ∧ x2 = some ⟨b2, o2, none⟩ ∧ ∀ j, j < l.length → w.cell? ⟨b1, o1 + j, none⟩ = some (.int .u8 ((l.getD j 0 : Nat) : Int)) ∧ w.cell? ⟨b2, o2 + j, none⟩ = some (.int .u8 ((l.getD j 0 : Nat) : Int)) := by
    intro hp
    obtain ⟨o1, c1, f1, _⟩ := h1.addr2 hp
    obtain ⟨o2, c2, f2, _⟩ := h2.addr2 hp
    have g1 : x1 = some ⟨b1, o1, none⟩ := by rw [e1] at f1; simp at f1; exact f1.1
    have g2 : x2 = some ⟨b2, o2, none⟩ := by rw [e2] at f2; simp at f2; exact f2.1
    refine ⟨o1, o2, g1, g2, fun j hj => ⟨?_, ?_⟩⟩
    · exact Rd.at (f1 ▸ h1) j hj
    · exact Rd.at (f2 ▸ h2) j hj
  subst e1
  subst e2
  go_enter Tryz.func61, Tryz.ntmps61
  go_wp2
  go_loopg [5] l.length (fun g i wr => ∃ k nq : Nat, g + k = l.length ∧ i = .int .i64 k ∧ wr = w.drewN nq)
  case atStart => exact ⟨0, 0, rfl, rfl, rfl⟩
  case round =>
    obtain ⟨k, nq, hgk, rfl, rfl⟩ := hrel
    by_cases hlt : k < l.length
    · obtain ⟨o1, o2, rfl, rfl, hcell⟩ := haddr (by omega)
      obtain ⟨d1, d2⟩ := hcell k hlt
      generalize l.getD k 0 = x at d1 d2
      clear hcell haddr h1 h2
      have hk0 : (0 : Int) ≤ k := by omega
      have hkl : (k : Int) < l.length := by omega
      go_wp2
      go_quiet (fail)
      go_wp2
      go_roundg (l.length - (k + 1))
      case measure => omega
      case rel => exact ⟨k + 1, _, by omega, by go_num, rfl⟩
    · clear haddr
      go_wp2
      go_ret
      exact ⟨rfl, kept_drewN _ _⟩

theorem row_sub {w : World} {g c : Nat} {l : List Nat} (hr : Row w g (.slice (some ⟨g, 0, none⟩) (l.length + 80) c) (l ++ List.replicate 80 165)) : Rd w g (.slice (some ⟨g, 0, none⟩) l.length c) l := by
  have h := hr.rd
  refine .inr ⟨⟨g, 0, none⟩, c, rfl, rfl, fun j u hu => ?_⟩
  rcases h with ⟨h, _⟩ | ⟨a, cap, h, _, hcc⟩
  · simp at h
  · simp at h
    rw [h.1]
    refine hcc j u ?_
    rw [bs_append, List.getElem?_append_left]
    · exact hu
    · exact (List.getElem?_eq_some_iff.1 hu).1
theorem Rd.blk {w : World} {b : Nat} {v : Value} {l : List Nat} (h : Rd w b v l) : l = [] ∨ b < w.heap.size := by
  by_cases hp : 0 < l.length
  · right
    obtain ⟨off, cap, e, _⟩ := h.addr2 hp
    exact World.block_lt_of_cell? w _ (Rd.at (e ▸ h) 0 hp)
  · left
    exact List.eq_nil_of_length_eq_zero (by omega)

set_option maxHeartbeats 1600000 in
set_option maxRecDepth 1000000 in
theorem intact (v : Value) (b0 g c : Nat) (l : List Nat) (w : World) (hl : l.length ≤ 140737488351232) (hc : l.length + 80 ≤ c) (_hcm : c ≤ maxLen) (hrd : Rd w b0 v l) (hr : Row w g (.slice (some ⟨g, 0, none⟩) (l.length + 80) c) (l ++ List.replicate 80 165)) :
    Calls Tryz.prog 23 #[.slice (some ⟨g, 0, none⟩) (l.length + 80) c, v, .int .u8 165] w (SameE w) := by
  obtain ⟨x2, y2, e2⟩ := hrd.shape
  unfold maxLen at _hcm
  have hlen : (l ++ List.replicate 80 165).length = l.length + 80 := by simp
  have hr' := hr
  rw [← hlen] at hr'
  have hsub : Rd w g (.slice (some ⟨g, 0, none⟩) l.length c) l := by
    have h := hr'.rd
    refine .inr ⟨⟨g, 0, none⟩, c, rfl, rfl, fun j u hu => ?_⟩
    rcases h with ⟨h, _⟩ | ⟨a, cap, h, _, hcc⟩
    · simp at h
    · simp at h
      rw [h.1]
      refine hcc j u ?_
      rw [bs_append, List.getElem?_append_left]
      · exact hu
      · exact (List.getElem?_eq_some_iff.1 hu).1
  have hcell : ∀ m, l.length ≤ m → m < l.length + 80 → w.cell? ⟨g, m, none⟩ = some (.int .u8 165) := by
    intro m h1 h2
    have e : (l ++ List.replicate 80 165).getD m 0 = 165 := by
      rw [List.getD, List.getElem?_append_right h1, List.getElem?_replicate, if_pos (by omega)]
      rfl
    rw [hr'.cell m (by omega), e]
    rfl
  have hsame := same _ v g b0 l w (by omega) hsub hrd
  subst e2
  clear hsub hrd hr hr' hlen
  go_enter Tryz.func23, Tryz.ntmps23
  go_wp2_with fail
  refine hsame.mono ?_
  rintro e w1 ⟨rfl, hk1⟩
  clear hsame
  have hcell1 : ∀ m, l.length ≤ m → m < l.length + 80 → w1.cell? ⟨g, m, none⟩ = some (.int .u8 165) := fun m h1 h2 => hk1.cell (hcell m h1 h2) (fun h => h)
  clear hcell
  go_wp2
  go_loopg [7] 80 (fun gk i wr => ∃ m : Nat, gk + m = l.length + 80 ∧ l.length ≤ m ∧ i = .int .i64 m ∧ wr = w1)
  case atStart => exact ⟨l.length, by omega, Nat.le_refl _, rfl, rfl⟩
  case round =>
    obtain ⟨m, hgm, hlm, rfl, hw⟩ := hrel
    subst hw
    by_cases hlt : m < l.length + 80
    · have hcx := hcell1 m hlm hlt
      clear hcell1
      go_wp2
      go_roundg (l.length + 80 - (m + 1))
      case measure => omega
      case rel => exact ⟨m + 1, by omega, by omega, by go_num, rfl⟩
    · clear hcell1
      go_wp2
      go_ret
      exact ⟨rfl, hk1⟩
end Go.Proofs.YtalbjbahgbkifaaGreat.Wire
