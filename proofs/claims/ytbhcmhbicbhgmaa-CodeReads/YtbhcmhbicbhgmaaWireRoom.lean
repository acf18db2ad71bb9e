/-
  The book's Roomy, Same and Intact at bytes: what each call does.
-/
import Derived.Test.YtbhcmhbicbhgmaaWireRefReads
import Derived.Laws.IdiomCopy
import Derived.Deep.OwnRows
namespace Go.Proofs.Ytbhcmhbicbhgmaa.Wire
open Go.RowKit

theorem wpList_copy_run {P : Program} (w : World) {ops : Array Oper} {rest : List Oper} {o : Oper} {a : Act} {Q : Exit → Act → World → Prop} (hgd : o.guard = none) (d s : Operand) (dT sT : TypeId)
    (ho : o.op = .call { callee := .builtin .copy, args := #[d, s], argTypes := #[dT, sT] }) (dv sv : Value) (hd : a.eval d = dv) (hs : a.eval s = sv) (r : Value) (w' : World) (hr : ∀ ty, (Builtin.copy_ #[dT, sT] ty #[dv, sv]).run P w = .ok r w')
    (h : wpList P ops Q rest (a.put o.dst r) w') : wpList P ops Q (o :: rest) a w := by
  refine wpList_plain hgd fun K hK => ?_
  unfold Oper.wp execOp
  simp only [ho, resolve, invoke, builtin, Sem.run_bind, Sem.run_pure, Result.andThen_ok, List.map_toArray, List.map_cons, List.map_nil, hd, hs, hr]
  exact hK _ _ h

theorem Row.store {w : World} {g c : Nat} {L : List Nat} (h : Row w g (.slice (some ⟨g, 0, none⟩) L.length c) L) (j x : Nat) : Row (w.setCell ⟨g, j, none⟩ (.int .u8 x)) g (.slice (some ⟨g, 0, none⟩) L.length c) (L.set j x) := by
  have h1 := (h.1.stored j (.int .u8 x)).1
  refine ⟨?_, Or.inr rfl⟩
  have e : (bs L).set j (.int .u8 x) = bs (L.set j x) := by simp [bs, List.map_set]
  rw [e] at h1
  simpa using h1

theorem Rd.at {w : World} {b off c : Nat} {l : List Nat} (h : Rd w b (.slice (some ⟨b, off, none⟩) l.length c) l) (j : Nat) (hj : j < l.length) : w.cell? ⟨b, off + j, none⟩ = some (.int .u8 ((l.getD j 0 : Nat) : Int)) := by
  rcases h with ⟨h, _⟩ | ⟨a, cap, h, _, hc⟩
  · simp at h
  · simp at h
    obtain ⟨rfl, rfl⟩ := h
    have := hc j (.int .u8 ((l.getD j 0 : Nat) : Int)) (by simp [bs, hj])
    have e : (⟨b, off, none⟩ : Addr).add j = ⟨b, off + j, none⟩ := by unfold Addr.add; split <;> simp_all
    rw [e] at this
    exact this

def RoomE (w : World) (l : List Nat) (e : Ending) (w' : World) : Prop :=
  ∃ c g, e = .returned (.slice (some ⟨g, 0, none⟩) (l.length + 80) c) ∧ Row w' g (.slice (some ⟨g, 0, none⟩) (l.length + 80) c) (l ++ List.replicate 80 165) ∧ w.heap.size ≤ g ∧ l.length + 80 ≤ c ∧ c ≤ maxLen ∧ Kept (fun _ => False) w w'

theorem fill_step (l : List Nat) (k : Nat) (hk : k < 80) : (l ++ List.replicate k 165 ++ List.replicate (80 - k) 0).set (l.length + k) 165 = l ++ List.replicate (k + 1) 165 ++ List.replicate (80 - (k + 1)) 0 := by
  obtain ⟨m, hm⟩ : ∃ m, 80 - k = m + 1 := ⟨80 - k - 1, by omega⟩
  rw [hm, show 80 - (k + 1) = m by omega, List.set_append_right _ _ (by simp), List.replicate_succ]
  simp [List.replicate_succ', List.append_assoc]

set_option maxHeartbeats 1600000 in
set_option maxRecDepth 1000000 in
theorem roomy (v : Value) (b0 : Nat) (l : List Nat) (w : World) (hl : l.length ≤ 140737488351232) (hrd : Rd w b0 v l) :
    Calls Try.prog 12 #[v, .int .u8 165] w (RoomE w l) := by
  obtain ⟨a0, c0, hsh⟩ := hrd.shape
  subst hsh
  have hmk : ∀ u : World, (Instr.makeSlice 28 (.int .i64 ((l.length : Int) + 80)) (.int .i64 ((l.length : Int) + 80))).run Try.prog u = .ok (.slice (some ⟨u.heap.size, 0, none⟩) (l.length + 80) (l.length + 80)) (u.alloc (.cells (madeCells #[.int .u8 0] (l.length + 80)) 5)) := by
    intro u
    have h := run_make_row' (P := Try.prog) 28 5 (.int .u8 0) 1 Try.underlying28 Try.info5 rfl .i64 .i64 (l.length + 80) (by omega) (by omega) u
    rw [show ((l.length + 80 : Nat) : Int) = (l.length : Int) + 80 by omega] at h
    exact h
  have hcells : (w.alloc (.cells (madeCells #[.int .u8 0] (l.length + 80)) 5)).heap[w.heap.size]? = some (.cells (madeCells #[.int .u8 0] (l.length + 80)) 5) := heap_alloc_new w _
  have hmt : (madeCells #[Value.int .u8 0] (l.length + 80)).toList = List.replicate (l.length + 80) (.int .u8 0) := toList_madeCells_one _ _
  obtain ⟨r, wc, hcopy, hrow, hkc⟩ : ∃ r wc, (∀ ty, (Builtin.copy_ #[28, 28] ty #[.slice (some ⟨w.heap.size, 0, none⟩) (l.length + 80) (l.length + 80), .slice a0 l.length c0]).run Try.prog (w.alloc (.cells (madeCells #[.int .u8 0] (l.length + 80)) 5)) = .ok r wc) ∧
      Row wc w.heap.size (.slice (some ⟨w.heap.size, 0, none⟩) (l.length + 80) (l.length + 80)) (l ++ List.replicate 80 0) ∧ Kept (fun _ => False) w wc := by
    have hsize : (Try.prog.info? 5).map (·.size) = some 1 := by kernel_rfl
    have hlen : (l ++ List.replicate 80 0).length = l.length + 80 := by simp
    rcases hrd with ⟨h, rfl⟩ | ⟨a, cap, h, rfl, hc⟩
    · simp at h
      obtain ⟨rfl, rfl⟩ := h
      refine ⟨_, _, fun ty => run_copy_none _ 28 28 ty 5 _ _ _ _ _ _ Try.underlying28 hsize (by simp), ?_, (Kept.refl _ w).alloc _⟩
      refine ⟨⟨by simp [bs], .inr ⟨w.heap.size, 80, _, by simp, Nat.zero_le _, hcells, by simp, by simp [maxLen], by simp [madeCells], ?_⟩⟩, Or.inr rfl⟩
      simp only [List.length_nil, Nat.zero_add] at hmt
      simp only [List.length_nil, Nat.zero_add, List.nil_append, List.length_replicate]
      rw [hmt]
      simp [bs]
    · simp at h
      obtain ⟨rfl, rfl⟩ := h
      have hrun := fun ty => run_copy_cells (P := Try.prog) (w.alloc (.cells (madeCells #[.int .u8 0] (l.length + 80)) 5)) 28 28 ty 5 w.heap.size 0 (l.length + 80) (l.length + 80) a l.length c0 (bs l) Try.underlying28 hsize
        (by rw [bs_length]; simp) (fun j u hu => ((Kept.refl (fun _ => False) w).alloc _).cell (hc j u hu) (fun h => h))
        (fun j hj => by rw [cell_of_row _ _ _ _ _ _ hcells]; simp [madeCells]; rw [bs_length] at hj; omega) (fun j hj => frozen_of_row _ _ _ _ _ hcells) (bs_one l)
      refine ⟨_, _, hrun, ?_, ?_⟩
      · have hh := setCells_heap 5 (0, 0) w.heap.size (bs l) 0 _ _ hcells (by simp [bs_length, madeCells])
        refine ⟨⟨by simp [bs], .inr ⟨w.heap.size, l.length + 80, _, by rw [hlen], Nat.zero_le _, hh, by rw [hlen]; omega, by unfold maxLen; omega, ?_, ?_⟩⟩, Or.inr rfl⟩
        · simp [bs_length, madeCells]
        · rw [hmt, hlen]
          simp only [List.take_zero, List.nil_append, Nat.zero_add, bs_length, List.drop_replicate, Nat.mul_one]
          rw [show l.length + 80 - l.length = 80 by omega, bs_append, show bs (List.replicate 80 0) = List.replicate 80 (.int .u8 0) by simp [bs]]
          exact List.take_of_length_le (by simp [bs_length])
      · have : Kept (fun k => k = w.heap.size) w ((w.alloc (.cells (madeCells #[.int .u8 0] (l.length + 80)) 5)).setCells w.heap.size 0 (bs l)) := by
          have hst : ∀ (vs : List Value) (o : Nat) (u : World), Kept (fun k => k = w.heap.size) w u → Kept (fun k => k = w.heap.size) w (u.setCells w.heap.size o vs) := by
            intro vs
            induction vs with
            | nil => intro o u h; exact h
            | cons x r ih => intro o u h; exact ih _ _ (h.setCell (p := ⟨w.heap.size, o, none⟩) (fun _ => rfl) x)
          exact hst _ _ _ ((Kept.refl _ w).alloc _)
        exact this.mono (fun x hx h => by omega)
  clear hcells hmt hrd
  go_enter Try.func12, Try.ntmps12
  go_wp2_with (refine wpList_copy_run _ rfl (.tmp 11) (.tmp 12) 28 28 rfl _ _ rfl rfl r wc hcopy ?_)
  clear hcopy hmk
  go_loopg [6] 80 (fun gk i wr => ∃ m k : Nat, gk + k = 80 ∧ m = l.length + k ∧ i = .int .i64 m ∧ Row wr w.heap.size (.slice (some ⟨w.heap.size, 0, none⟩) (l.length + 80) (l.length + 80)) (l ++ List.replicate k 165 ++ List.replicate (80 - k) 0) ∧ Kept (fun _ => False) w wr)
  case atStart => exact ⟨l.length, 0, rfl, rfl, rfl, by simpa using hrow, hkc⟩
  case round =>
    obtain ⟨m, k, hgk, hmk, rfl, hr, hK⟩ := hrel
    clear hrow hkc
    have HM : Hid (m = l.length + k) := hmk
    have hm1 : m ≤ l.length + 80 := by omega
    clear hmk
    by_cases hk : k < 80
    · have hlen : (l ++ List.replicate k 165 ++ List.replicate (80 - k) 0).length = l.length + 80 := by simp; omega
      have hr' := hr
      rw [← hlen] at hr'
      have hml : m < l.length + 80 := by have := HM.out; omega
      have hc := hr'.cell m (by omega)
      have hfz := hr'.1.frozenAt m
      have hst := hr'.store m 165
      rw [HM.out, fill_step l k hk, ← HM.out, hlen] at hst
      have hkst : Kept (fun _ => False) w (wr.setCell ⟨w.heap.size, m, none⟩ (.int .u8 165)) := hK.setCell (p := ⟨w.heap.size, m, none⟩) (fun h => by simp at h) _
      clear hr' hr hlen
      generalize (l ++ List.replicate k 165 ++ List.replicate (80 - k) 0).getD m 0 = old at hc
      go_wp2
      go_roundg (80 - (k + 1))
      case measure => omega
      case rel => exact ⟨m + 1, k + 1, by omega, by have := HM.out; omega, by go_num, hst, hkst⟩
    · have hk80 : k = 80 := by omega
      subst hk80
      have hmm : l.length + 80 ≤ m := by have := HM.out; omega
      clear HM
      go_wp2
      go_ret
      exact ⟨_, _, rfl, by simpa using hr, Nat.le_refl _, Nat.le_refl _, by unfold maxLen; omega, hK⟩

def SameE (w : World) (e : Ending) (w' : World) : Prop := e = .returned (.bool true) ∧ Kept (fun _ => False) w w'

set_option maxHeartbeats 1600000 in
set_option maxRecDepth 1000000 in
theorem same (v1 v2 : Value) (b1 b2 : Nat) (l : List Nat) (w : World) (_hl : l.length ≤ 140737488355328) (h1 : Rd w b1 v1 l) (h2 : Rd w b2 v2 l) : Calls Try.prog 28 #[v1, v2] w (SameE w) := by
  obtain ⟨x1, y1, e1⟩ := h1.shape
  obtain ⟨x2, y2, e2⟩ := h2.shape
  have haddr : 0 < l.length → ∃ o1 o2, x1 = some ⟨b1, o1, none⟩ ∧ x2 = some ⟨b2, o2, none⟩ ∧ ∀ j, j < l.length → w.cell? ⟨b1, o1 + j, none⟩ = some (.int .u8 ((l.getD j 0 : Nat) : Int)) ∧ w.cell? ⟨b2, o2 + j, none⟩ = some (.int .u8 ((l.getD j 0 : Nat) : Int)) := by
    intro hp
    obtain ⟨o1, c1, f1, _⟩ := h1.addr2 hp
    obtain ⟨o2, c2, f2, _⟩ := h2.addr2 hp
    have g1 : x1 = some ⟨b1, o1, none⟩ := by rw [e1] at f1; simp at f1; exact f1.1
    have g2 : x2 = some ⟨b2, o2, none⟩ := by rw [e2] at f2; simp at f2; exact f2.1
    refine ⟨o1, o2, g1, g2, fun j hj => ⟨?_, ?_⟩⟩
    · exact Rd.at (f1 ▸ h1) j hj
    · exact Rd.at (f2 ▸ h2) j hj
  subst e1
  subst e2
  go_enter Try.func28, Try.ntmps28
  go_wp2
  go_loopg [5] l.length (fun g i wr => ∃ k nq : Nat, g + k = l.length ∧ i = .int .i64 k ∧ wr = w.drewN nq)
  case atStart => exact ⟨0, 0, rfl, rfl, rfl⟩
  case round =>
    obtain ⟨k, nq, hgk, rfl, rfl⟩ := hrel
    by_cases hlt : k < l.length
    · obtain ⟨o1, o2, rfl, rfl, hcell⟩ := haddr (by omega)
      obtain ⟨d1, d2⟩ := hcell k hlt
      generalize l.getD k 0 = x at d1 d2
      clear hcell haddr h1 h2
      have hk0 : (0 : Int) ≤ k := by omega
      have hkl : (k : Int) < l.length := by omega
      go_wp2
      go_quiet (fail)
      go_wp2
      go_roundg (l.length - (k + 1))
      case measure => omega
      case rel => exact ⟨k + 1, _, by omega, by go_num, rfl⟩
    · clear haddr
      go_wp2
      go_ret
      exact ⟨rfl, kept_drewN _ _⟩

theorem row_sub {w : World} {g c : Nat} {l : List Nat} (hr : Row w g (.slice (some ⟨g, 0, none⟩) (l.length + 80) c) (l ++ List.replicate 80 165)) : Rd w g (.slice (some ⟨g, 0, none⟩) l.length c) l := by
  have h := hr.rd
  refine .inr ⟨⟨g, 0, none⟩, c, rfl, rfl, fun j u hu => ?_⟩
  rcases h with ⟨h, _⟩ | ⟨a, cap, h, _, hcc⟩
  · simp at h
  · simp at h
    rw [h.1]
    refine hcc j u ?_
    rw [bs_append, List.getElem?_append_left]
    · exact hu
    · exact (List.getElem?_eq_some_iff.1 hu).1
theorem Rd.blk {w : World} {b : Nat} {v : Value} {l : List Nat} (h : Rd w b v l) : l = [] ∨ b < w.heap.size := by
  by_cases hp : 0 < l.length
  · right
    obtain ⟨off, cap, e, _⟩ := h.addr2 hp
    exact World.block_lt_of_cell? w _ (Rd.at (e ▸ h) 0 hp)
  · left
    exact List.eq_nil_of_length_eq_zero (by omega)

set_option maxHeartbeats 1600000 in
set_option maxRecDepth 1000000 in
theorem intact (v : Value) (b0 g c : Nat) (l : List Nat) (w : World) (hl : l.length ≤ 140737488351232) (hc : l.length + 80 ≤ c) (_hcm : c ≤ maxLen) (hrd : Rd w b0 v l) (hr : Row w g (.slice (some ⟨g, 0, none⟩) (l.length + 80) c) (l ++ List.replicate 80 165)) :
    Calls Try.prog 15 #[.slice (some ⟨g, 0, none⟩) (l.length + 80) c, v, .int .u8 165] w (SameE w) := by
  obtain ⟨x2, y2, e2⟩ := hrd.shape
  unfold maxLen at _hcm
  have hlen : (l ++ List.replicate 80 165).length = l.length + 80 := by simp
  have hr' := hr
  rw [← hlen] at hr'
  have hsub : Rd w g (.slice (some ⟨g, 0, none⟩) l.length c) l := by
    have h := hr'.rd
    refine .inr ⟨⟨g, 0, none⟩, c, rfl, rfl, fun j u hu => ?_⟩
    rcases h with ⟨h, _⟩ | ⟨a, cap, h, _, hcc⟩
    · simp at h
    · simp at h
      rw [h.1]
      refine hcc j u ?_
      rw [bs_append, List.getElem?_append_left]
      · exact hu
      · exact (List.getElem?_eq_some_iff.1 hu).1
  have hcell : ∀ m, l.length ≤ m → m < l.length + 80 → w.cell? ⟨g, m, none⟩ = some (.int .u8 165) := by
    intro m h1 h2
    have e : (l ++ List.replicate 80 165).getD m 0 = 165 := by
      rw [List.getD, List.getElem?_append_right h1, List.getElem?_replicate, if_pos (by omega)]
      rfl
    rw [hr'.cell m (by omega), e]
    rfl
  have hsame := same _ v g b0 l w (by omega) hsub hrd
  subst e2
  clear hsub hrd hr hr' hlen
  go_enter Try.func15, Try.ntmps15
  go_wp2_with fail
  refine hsame.mono ?_
  rintro e w1 ⟨rfl, hk1⟩
  clear hsame
  have hcell1 : ∀ m, l.length ≤ m → m < l.length + 80 → w1.cell? ⟨g, m, none⟩ = some (.int .u8 165) := fun m h1 h2 => hk1.cell (hcell m h1 h2) (fun h => h)
  clear hcell
  go_wp2
  go_loopg [7] 80 (fun gk i wr => ∃ m : Nat, gk + m = l.length + 80 ∧ l.length ≤ m ∧ i = .int .i64 m ∧ wr = w1)
  case atStart => exact ⟨l.length, by omega, Nat.le_refl _, rfl, rfl⟩
  case round =>
    obtain ⟨m, hgm, hlm, rfl, hw⟩ := hrel
    subst hw
    by_cases hlt : m < l.length + 80
    · have hcx := hcell1 m hlm hlt
      clear hcell1
      go_wp2
      go_roundg (l.length + 80 - (m + 1))
      case measure => omega
      case rel => exact ⟨m + 1, by omega, by omega, by go_num, rfl⟩
    · clear hcell1
      go_wp2
      go_ret
      exact ⟨rfl, hk1⟩
end Go.Proofs.Ytbhcmhbicbhgmaa.Wire
