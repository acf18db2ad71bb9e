/-
  The package's within, ofAtom, made.
  And: The package's made: the text of a tree whose parts are read. The stack of what is begun, in memory: trees by their addresses, the texts of their parts in rows of the call's own.
-/
import Derived.BigQuiet
import Derived.Test.YtchfhkfepghfjaaPfAh
import Derived.Deep.AppendLies
namespace Go.Proofs.Ytchfhkfepghfjaa
open Go.RowKit

/-- The part at an index, or none. -/
def WithinE (F : Nat → Prop) (t : Tr) (i : Nat) (w : World) (e : Ending) (w' : World) : Prop :=
  ((∃ (h : i < (partsT t).length) (g o : Nat), e = .returned (.pointer (some ⟨g, o, none⟩)) ∧ PT F w' g o (partsT t)[i]) ∨ (¬ i < (partsT t).length ∧ e = .returned (.pointer none))) ∧ Below w.heap.size w w'
theorem withinE_yes {F : Nat → Prop} {t u : Tr} {i : Nat} {w w' : World} {g o : Nat} (h : (partsT t)[i]? = some u) (hp : PT F w' g o u) (hb : Below w.heap.size w w') : WithinE F t i w (.returned (.pointer (some ⟨g, o, none⟩))) w' := by
  obtain ⟨h1, rfl⟩ := List.getElem?_eq_some_iff.1 h
  exact ⟨.inl ⟨h1, g, o, rfl, hp⟩, hb⟩
theorem withinE_no {F : Nat → Prop} {t : Tr} {i : Nat} {w w' : World} (h : (partsT t).length ≤ i) (hb : Below w.heap.size w w') : WithinE F t i w (.returned (.pointer none)) w' := ⟨.inr ⟨by omega, rfl⟩, hb⟩
theorem partsT_arr {t : Tr} (h : formR t = 2) : partsT t = [kid t 1] := by simp [partsT, h]
theorem partsT_fn {t : Tr} (h : formR t = 3) : partsT t = (kid t 1).kids ++ [kid t 2] := by simp [partsT, h]
theorem partsT_no {t : Tr} (h2 : formR t ≠ 2) (h3 : formR t ≠ 3) : partsT t = [] := by simp [partsT, h2, h3]
theorem form_cases (t : Tr) : formR t = 0 ∨ formR t = 1 ∨ formR t = 2 ∨ formR t = 3 := by
  unfold formR
  repeat' split
  all_goals simp

set_option maxHeartbeats 2000000 in
set_option maxRecDepth 1000000 in
theorem within (F : Nat → Prop) (t : Tr) (g o i : Nat) (w : World) (hF : ∀ g, F g → g < w.heap.size) (h : PT F w g o t) : Calls Try.prog 63 #[.pointer (some ⟨g, o, none⟩), .int .i64 (i : Int)] w (WithinE F t i w) := by
  have hf := formOf F t g o w hF h
  rcases form_cases t with h0 | h0 | h0 | h0
  · have HP : Hid ((partsT t).length ≤ i) := by rw [hid_iff, partsT_no (by omega) (by omega)]; simp
    rw [h0] at hf
    clear h0
    go_enter Try.func63, Try.ntmps63
    go_wp2_with (go_at_call 73; refine hf.mono ?_; rintro e w1 ⟨rfl, hb⟩)
    go_ret
    exact withinE_no HP.out hb
  · have HP : Hid ((partsT t).length ≤ i) := by rw [hid_iff, partsT_no (by omega) (by omega)]; simp
    rw [h0] at hf
    clear h0
    go_enter Try.func63, Try.ntmps63
    go_wp2_with (go_at_call 73; refine hf.mono ?_; rintro e w1 ⟨rfl, hb⟩)
    go_ret
    exact withinE_no HP.out hb
  · have hl := form2 h0
    have hpa := partsT_arr h0
    rw [h0] at hf
    by_cases hi : i = 0
    · subst hi
      have HP : Hid ((partsT t)[0]? = some (kid t 1)) := by rw [hid_iff, hpa]; rfl
      clear h0 hpa
      go_enter Try.func63, Try.ntmps63
      go_wp2_with fail
      refine hf.mono ?_
      rintro e w1 ⟨rfl, hb⟩
      obtain ⟨hFg, kv, hT, q0, q1, q2, q3⟩ := h.below hb hF
      obtain ⟨g0, cap0, hk0, hp1⟩ := hT.kid 1 (by omega)
      rw [hk0] at q3
      have hl1 : (1 : Int) < (t.kids.length : Int) := by omega
      clear q0 q1 q2 h hT hk0 hf hl
      generalize t.kids.length = n at *
      go_wp2
      go_ret
      exact withinE_yes HP.out hp1 hb
    · have hi' : ((i : Int) == 0) = false := by rw [beq_eq_false_iff_ne]; omega
      have HP : Hid ((partsT t).length ≤ i) := by rw [hid_iff, hpa]; simp; omega
      clear h0 hpa hi
      go_enter Try.func63, Try.ntmps63
      go_wp2_with (go_at_call 73; refine hf.mono ?_; rintro e w1 ⟨rfl, hb⟩)
      go_ret
      exact withinE_no HP.out hb
  · have hl := form3 h0
    have hpa := partsT_fn h0
    rw [h0] at hf
    go_enter Try.func63, Try.ntmps63
    go_wp2_with fail
    refine hf.mono ?_
    rintro e w1 ⟨rfl, hb⟩
    obtain ⟨hFg, kv, hT, q0, q1, q2, q3⟩ := h.below hb hF
    obtain ⟨g0, cap0, hk0, hF0, kv1, hT1, d0, d1, d2, d3⟩ := hT.kid 1 (by omega)
    obtain ⟨g2, cap2, hk2, hp2⟩ := hT.kid 2 (by omega)
    rw [hk0] at hk2
    simp only [Value.slice.injEq, Option.some.injEq, Addr.mk.injEq, and_true, true_and] at hk2
    obtain ⟨rfl, rfl⟩ := hk2
    rw [hk0] at q3
    have hl1 : (1 : Int) < (t.kids.length : Int) := by omega
    have hl2 : (2 : Int) < (t.kids.length : Int) := by omega
    obtain ⟨ka, kc, hka⟩ := hT1.shape
    simp only [Nat.one_mul] at d3
    by_cases hi : i < (kid t 1).kids.length
    · obtain ⟨g3, cap3, hk3, hp3⟩ := hT1.kid i hi
      have HP : Hid ((partsT t)[i]? = some (kid (kid t 1) i)) := by
        rw [hid_iff, hpa, List.getElem?_append_left hi, List.getElem?_eq_getElem hi, kid_get hi]
      rw [hk3] at d3
      have hi' : (i : Int) < ((kid t 1).kids.length : Int) := by omega
      clear q0 q1 q2 h hT hk0 hf hl h0 hpa d0 d1 d2 hT1 hka hk3 hp2
      generalize t.kids.length = n at *
      generalize (kid t 1).kids.length = n1 at *
      go_wp2
      go_ret
      exact withinE_yes HP.out hp3 hb
    · have hi' : ¬ (i : Int) < ((kid t 1).kids.length : Int) := by omega
      rw [hka] at d3
      by_cases hie : i = (kid t 1).kids.length
      · have HP : Hid ((partsT t)[i]? = some (kid t 2)) := by
          rw [hid_iff, hpa, hie]; simp
        have hie' : ((i : Int) == ((kid t 1).kids.length : Int)) = true := by rw [beq_iff_eq]; omega
        clear q0 q1 q2 h hT hk0 hf hl h0 hpa d0 d1 d2 hT1 hka hi hie
        generalize t.kids.length = n at *
        generalize (kid t 1).kids.length = n1 at *
        go_wp2
        go_ret
        exact withinE_yes HP.out hp2 hb
      · have HP : Hid ((partsT t).length ≤ i) := by rw [hid_iff, hpa]; simp; omega
        have hie' : ((i : Int) == ((kid t 1).kids.length : Int)) = false := by rw [beq_eq_false_iff_ne]; omega
        clear q0 q1 q2 h hT hk0 hf hl h0 hpa d0 d1 d2 hT1 hka hi hie hp2
        generalize t.kids.length = n at *
        generalize (kid t 1).kids.length = n1 at *
        go_wp2
        go_ret
        exact withinE_no HP.out hb

set_option maxHeartbeats 2000000 in
set_option maxRecDepth 1000000 in
theorem ofAtom (x m : List UInt8) (w : World) (hx : x.length ≤ 8192) (hm : m.length ≤ 140737488355328) : Calls Try.prog 74 #[.string (str x), .string (str m)] w (TextB (atomR x m) w) := by
  have hxs : (str x).size = x.length := rfl
  have hms : (str m).size = m.length := rfl
  have hr := fun u => rightWord (str x) u (by rw [str_size]; omega)
  rw [str_data] at hr
  have hb := fun u => big (str x) u (by rw [str_size]; omega)
  rw [str_data] at hb
  have hc := fun u => sClone (str x) u (by rw [str_size]; omega)
  cases h1 : wordOk x
  · rw [h1] at hr
    cases h2 : bigR x
    · rw [h2] at hb
      have HR : Hid (atomR x m = []) := by simp [hid_iff, atomR, h1, h2]
      clear h1 h2
      go_enter Try.func74, Try.ntmps74
      go_wp2_with fail
      refine (hr _).mono ?_
      rintro e w1 ⟨rfl, n, rfl⟩
      go_wp2_with fail
      refine (hb _).mono ?_
      rintro e w1 ⟨rfl, rfl⟩
      go_wp2
      go_ret
      exact ⟨by rw [HR.out]; rfl, below_drewN (Below.refl _ _) n⟩
    · rw [h2] at hb
      have HR : Hid (str m ++ (⟨#[46]⟩ : ByteArray) ++ str x = str (atomR x m)) := by
        rw [hid_iff, show (⟨#[46]⟩ : ByteArray) = str [46] from rfl, str_append, str_append]
        simp [atomR, h1, h2]
      clear h1 h2
      go_enter Try.func74, Try.ntmps74
      go_wp2_with fail
      refine (hr _).mono ?_
      rintro e w1 ⟨rfl, n, rfl⟩
      go_wp2_with fail
      refine (hb _).mono ?_
      rintro e w1 ⟨rfl, rfl⟩
      go_wp2
      go_ret
      exact ⟨by rw [← HR.out]; rfl, below_drewN (Below.refl _ _) n⟩
  · rw [h1] at hr
    have HR : Hid (atomR x m = x) := by simp [hid_iff, atomR, h1]
    clear h1
    go_enter Try.func74, Try.ntmps74
    go_wp2_with fail
    refine (hr _).mono ?_
    rintro e w1 ⟨rfl, n, rfl⟩
    go_wp2_with fail
    refine (hc _).mono ?_
    rintro e w1 ⟨rfl, hb1⟩
    go_wp2
    go_ret
    exact ⟨by rw [HR.out]; rfl, below_trans (w1 := w.drewN n) (below_drewN (Below.refl _ _) n) hb1⟩
end Go.Proofs.Ytchfhkfepghfjaa

namespace Go.Proofs.Ytchfhkfepghfjaa
open Go.RowKit

def MadeE (r : Except Nat (List UInt8)) (w : World) (e : Ending) (w' : World) : Prop :=
  (match r with
  | .ok x => e = .returned (.tuple #[.string (str x), .int .i64 0])
  | .error y => e = .returned (.tuple #[.string (str []), .int .i64 (y : Int)])) ∧ Below w.heap.size w w'
theorem madeE_ok {r : Except Nat (List UInt8)} {x : List UInt8} {w w' : World} (h : r = .ok x) (hb : Below w.heap.size w w') : MadeE r w (.returned (.tuple #[.string (str x), .int .i64 0])) w' := by
  subst h
  exact ⟨rfl, hb⟩
theorem madeE_no {r : Except Nat (List UInt8)} {y : Nat} {z : Int} {x : ByteArray} {w w' : World} (h : r = .error y) (hz : z = (y : Int)) (hx : x = str []) (hb : Below w.heap.size w w') : MadeE r w (.returned (.tuple #[.string x, .int .i64 z])) w' := by
  subst h hz hx
  exact ⟨rfl, hb⟩
/-- The three ends of it. -/
theorem lim_cases (x : List UInt8) : (x = [] ∧ lim x = .error 12) ∨ (x ≠ [] ∧ 200 < x.length ∧ lim x = .error 3) ∨ (x ≠ [] ∧ x.length ≤ 200 ∧ lim x = .ok x) := by
  unfold lim
  by_cases h : x = []
  · exact .inl ⟨h, if_pos h⟩
  · rw [if_neg h]
    by_cases h2 : 200 < x.length
    · exact .inr (.inl ⟨h, h2, if_pos h2⟩)
    · exact .inr (.inr ⟨h, by omega, if_neg h2⟩)
theorem join_len : ∀ (ps : List (List UInt8)), (∀ y ∈ ps, y.length ≤ 200) → (joinR ps).length ≤ 201 * ps.length
  | [], _ => by simp [joinR_nil]
  | [x], h => by have := h x (by simp); rw [joinR_one]; simp; omega
  | x :: y :: r, h => by
    have h1 := h x (by simp)
    have h2 := join_len (y :: r) (fun z hz => h z (List.mem_cons_of_mem _ hz))
    rw [joinR_two]
    simp only [List.length_append, List.length_cons] at h2 ⊢
    omega
theorem empty_str (x : List UInt8) (h : x ≠ []) : (str x).toList.isEmpty = false := by
  rw [Lib.toList_data, str_data]
  simpa using h
theorem empty_nil : (str []).toList.isEmpty = true := by rw [Lib.toList_data]; rfl

set_option maxHeartbeats 4000000 in
set_option maxRecDepth 1000000 in
theorem made_atom (F : Nat → Prop) (t : Tr) (g o : Nat) (tv : Value) (m : List UInt8) (w : World) (hF : ∀ g, F g → g < w.heap.size) (h : PT F w g o t) (htx : t.text.length ≤ 8192) (hm : m.length ≤ 140737488355328) (hform : formR t = 1) (ys : List (List UInt8)) :
    Calls Try.prog 64 #[.agg #[.pointer (some ⟨g, o, none⟩), tv], .string (str m)] w (MadeE (madeR m t ys) w) := by
  have HM : Hid (madeR m t ys = lim (atomR t.text m)) := by simp [hid_iff, madeR, hform]
  have hb0 : Below w.heap.size w (w.alloc (.cells #[.pointer (some ⟨g, o, none⟩), tv] 124)) := (Below.refl _ _).alloc (Nat.le_refl _) _
  have hF0 : ∀ b, F b → b < (w.alloc (.cells #[.pointer (some ⟨g, o, none⟩), tv] 124)).heap.size := fun b hg => by have := hF b hg; simp; omega
  have hp0 := h.below hb0 hF
  have hf := formOf F t g o _ hF0 hp0
  rw [hform] at hf
  have hat := fun u => ofAtom t.text m u htx hm
  have hxl : (atomR t.text m).length ≤ 140737488355328 + 8193 := by
    unfold atomR
    split
    · omega
    · split
      · simp; omega
      · simp
  generalize atomR t.text m = x at *
  have hxs : (str x).size = x.length := rfl
  clear hform
  go_enter Try.func64, Try.ntmps64
  go_wp2_with fail
  refine hf.mono ?_
  rintro e w1 ⟨rfl, hb1⟩
  have b0 : w1.cell? ⟨w.heap.size, 0, none⟩ = some (.pointer (some ⟨g, o, none⟩)) := below_cell hb1 (by simp) (by simp)
  have hb2 := below_trans hb0 hb1
  obtain ⟨hFg, kv, hT, q0, q1, q2, q3⟩ := hp0.below hb1 hF0
  clear hf hp0 h hb0 hb1 hF0 q0 q1 q3 hT
  go_wp2_with fail
  refine (hat _).mono ?_
  rintro e w3 ⟨rfl, hb3⟩
  have hb4 := below_trans hb2 hb3
  clear b0 q2 hb2 hb3 hat
  rcases lim_cases x with ⟨h1, h2⟩ | ⟨h1, h2, h3⟩ | ⟨h1, h2, h3⟩
  · subst h1
    rw [h2] at HM
    have k1 := empty_nil
    go_wp2
    go_ret2
    exact madeE_no HM.out rfl rfl hb4
  · rw [h3] at HM
    have k1 := empty_str x h1
    have k2 : (200 : Int) < (x.length : Int) := by omega
    clear h1 h3
    go_wp2
    go_ret2
    exact madeE_no HM.out rfl rfl hb4
  · rw [h3] at HM
    have k1 := empty_str x h1
    have k2 : ¬ (200 : Int) < (x.length : Int) := by omega
    clear h1 h3
    go_wp2
    go_ret2
    exact madeE_ok HM.out hb4
set_option maxHeartbeats 4000000 in
set_option maxRecDepth 1000000 in
theorem made_none (F : Nat → Prop) (t : Tr) (g o : Nat) (tv : Value) (m : List UInt8) (w : World) (hF : ∀ g, F g → g < w.heap.size) (h : PT F w g o t) (hform : formR t = 0) (ys : List (List UInt8)) :
    Calls Try.prog 64 #[.agg #[.pointer (some ⟨g, o, none⟩), tv], .string (str m)] w (MadeE (madeR m t ys) w) := by
  have HM : Hid (madeR m t ys = .error 12) := by simp [hid_iff, madeR, hform]
  have hb0 : Below w.heap.size w (w.alloc (.cells #[.pointer (some ⟨g, o, none⟩), tv] 124)) := (Below.refl _ _).alloc (Nat.le_refl _) _
  have hF0 : ∀ b, F b → b < (w.alloc (.cells #[.pointer (some ⟨g, o, none⟩), tv] 124)).heap.size := fun b hg => by have := hF b hg; simp; omega
  have hp0 := h.below hb0 hF
  have hf := formOf F t g o _ hF0 hp0
  rw [hform] at hf
  clear hform
  go_enter Try.func64, Try.ntmps64
  go_wp2_with fail
  refine hf.mono ?_
  rintro e w1 ⟨rfl, hb1⟩
  have hb2 := below_trans hb0 hb1
  clear hf hp0 h hb0 hb1 hF0
  go_wp2
  go_ret2
  exact madeE_no HM.out rfl rfl hb2
set_option maxHeartbeats 4000000 in
set_option maxRecDepth 1000000 in
theorem made_arr (F : Nat → Prop) (t : Tr) (g o : Nat) (tv : Value) (m : List UInt8) (w : World) (hF : ∀ g, F g → g < w.heap.size) (h : PT F w g o t) (hform : formR t = 2) (ys : List (List UInt8)) (hv : StrRow w tv ys) (hn : ys.length = 1) (hl : ∀ y ∈ ys, y.length ≤ 200) :
    Calls Try.prog 64 #[.agg #[.pointer (some ⟨g, o, none⟩), tv], .string (str m)] w (MadeE (madeR m t ys) w) := by
  have HM : Hid (madeR m t ys = lim (arrR (ys.getD 0 []))) := by simp [hid_iff, madeR, hform]
  have hb0 : Below w.heap.size w (w.alloc (.cells #[.pointer (some ⟨g, o, none⟩), tv] 124)) := (Below.refl _ _).alloc (Nat.le_refl _) _
  have hF0 : ∀ b, F b → b < (w.alloc (.cells #[.pointer (some ⟨g, o, none⟩), tv] 124)).heap.size := fun b hg => by have := hF b hg; simp; omega
  have hp0 := h.below hb0 hF
  have hf := formOf F t g o _ hF0 hp0
  rw [hform] at hf
  clear hform
  obtain ⟨y, rfl⟩ : ∃ y, ys = [y] := by
    match ys, hn with
    | [y], _ => exact ⟨y, rfl⟩
  have hy := hl y (by simp)
  replace HM : Hid (madeR m t [y] = lim (arrR y)) := HM
  have har := fun u => array y u (by omega)
  have hxl : (arrR y).length ≤ 300 := by simp [arrR]; omega
  generalize arrR y = x at *
  have hxs : (str x).size = x.length := rfl
  go_enter Try.func64, Try.ntmps64
  go_wp2_with fail
  refine hf.mono ?_
  rintro e w1 ⟨rfl, hb1⟩
  have b1 : w1.cell? ⟨w.heap.size, 1, none⟩ = some tv := below_cell hb1 (by simp) (by simp)
  have hb4 := below_trans hb0 hb1
  have hv1 := (hv.below hb0).below hb1
  clear hf hp0 h hb0 hb1 hF0 hv
  rcases hv1 with ⟨h1, _⟩ | ⟨bk, q, c, rfl, h1, h2, h3⟩
  · simp at h1
  have h4 := h3 0 y rfl
  rw [Nat.add_zero] at h4
  simp only [List.length_singleton] at b1
  clear h1 h2 h3
  go_wp2_with fail
  refine (har _).mono ?_
  rintro e w3 ⟨rfl, rfl⟩
  clear har b1 h4
  rcases lim_cases x with ⟨h1, h2⟩ | ⟨h1, h2, h3⟩ | ⟨h1, h2, h3⟩
  · subst h1
    rw [h2] at HM
    have k1 := empty_nil
    go_wp2
    go_ret2
    exact madeE_no HM.out rfl rfl hb4
  · rw [h3] at HM
    have k1 := empty_str x h1
    have k2 : (200 : Int) < (x.length : Int) := by omega
    clear h1 h3
    go_wp2
    go_ret2
    exact madeE_no HM.out rfl rfl hb4
  · rw [h3] at HM
    have k1 := empty_str x h1
    have k2 : ¬ (200 : Int) < (x.length : Int) := by omega
    clear h1 h3
    go_wp2
    go_ret2
    exact madeE_ok HM.out hb4
set_option maxHeartbeats 4000000 in
set_option maxRecDepth 1000000 in
theorem made_fn (F : Nat → Prop) (t : Tr) (g o : Nat) (tv : Value) (m : List UInt8) (w : World) (hF : ∀ g, F g → g < w.heap.size) (h : PT F w g o t) (hform : formR t = 3) (ys : List (List UInt8)) (hv : StrRow w tv ys) (n : Nat) (hn : ys.length = n + 1) (hl : ∀ y ∈ ys, y.length ≤ 200) (hbig : n ≤ 100000) :
    Calls Try.prog 64 #[.agg #[.pointer (some ⟨g, o, none⟩), tv], .string (str m)] w (MadeE (madeR m t ys) w) := by
  have HM : Hid (madeR m t ys = if 6 < ys.length - 1 then .error 19 else lim (funcR (ys.take (ys.length - 1)) (ys.getD (ys.length - 1) []))) := by simp [hid_iff, madeR, hform]
  have hb0 : Below w.heap.size w (w.alloc (.cells #[.pointer (some ⟨g, o, none⟩), tv] 124)) := (Below.refl _ _).alloc (Nat.le_refl _) _
  have hF0 : ∀ b, F b → b < (w.alloc (.cells #[.pointer (some ⟨g, o, none⟩), tv] 124)).heap.size := fun b hg => by have := hF b hg; simp; omega
  have hp0 := h.below hb0 hF
  have hf := formOf F t g o _ hF0 hp0
  rw [hform] at hf
  clear hform
  rw [hn, Nat.add_sub_cancel] at HM
  go_enter Try.func64, Try.ntmps64
  go_wp2_with fail
  refine hf.mono ?_
  rintro e w1 ⟨rfl, hb1⟩
  have b1 : w1.cell? ⟨w.heap.size, 1, none⟩ = some tv := below_cell hb1 (by simp) (by simp)
  have hb4 := below_trans hb0 hb1
  have hv1 := (hv.below hb0).below hb1
  clear hf hp0 h hb0 hb1 hF0 hv
  rcases hv1 with ⟨h1, _⟩ | ⟨bk, q, c, rfl, h1, h2, h3⟩
  · subst h1
    simp at hn
  rw [hn] at b1 h2
  by_cases h6 : 6 < n
  · have h6' : (6 : Int) < (n : Int) := by omega
    rw [if_pos h6] at HM
    clear h1 h2 h3 hl hn
    go_wp2
    go_ret2
    exact madeE_no HM.out rfl rfl hb4
  have h6' : ¬ (6 : Int) < (n : Int) := by omega
  rw [if_neg h6] at HM
  have h4 : w1.cell? ⟨bk, q + n, none⟩ = some (.string (str (ys.getD n []))) := by
    refine h3 n _ ?_
    rw [List.getD_eq_getElem?_getD, List.getElem?_eq_getElem (by omega)]
    rfl
  have hyl : (ys.getD n []).length ≤ 200 := by
    rw [List.getD_eq_getElem?_getD, List.getElem?_eq_getElem (by omega)]
    exact hl _ (List.getElem_mem _)
  have hrow : StrRow w1 (.slice (some ⟨bk, q, none⟩) n c) (ys.take n) := by
    refine .inr ⟨bk, q, c, by rw [List.length_take, hn, Nat.min_eq_left (by omega)], h1, by rw [List.length_take]; omega, fun j x hj => h3 j x ?_⟩
    rw [List.getElem?_take] at hj
    split at hj
    · exact hj
    · cases hj
  have hjl : (joinR (ys.take n)).length ≤ 201 * n := by
    have := join_len (ys.take n) (fun y hy => hl y (List.mem_of_mem_take hy))
    rw [List.length_take, hn, Nat.min_eq_left (by omega)] at this
    exact this
  have hfn := fun u (hu : Below w1.heap.size w1 u) => func (.slice (some ⟨bk, q, none⟩) n c) (ys.take n) (ys.getD n []) u (hrow.below hu) (by rw [List.length_take]; omega) (by omega) (by omega)
  have hxl : (funcR (ys.take n) (ys.getD n [])).length ≤ 2000 := by simp only [funcR, List.length_cons, List.length_append]; omega
  generalize funcR (ys.take n) (ys.getD n []) = x at *
  generalize ys.getD n [] = r at *
  have hxs : (str x).size = x.length := rfl
  have k1 : (0 : Int) ≤ (n : Int) := by omega
  have k2 : (n : Int) ≤ (c : Int) := by omega
  have k3 : (n : Int) < ((n + 1 : Nat) : Int) := by omega
  clear h3 hl hn hjl hrow hyl
  go_wp2_with fail
  go_region_with (first
    | (go_at_call 76; refine (hfn _ (below_drewN (Below.refl _ _) _)).mono ?_; rintro e w3 ⟨rfl, hb3⟩))
  all_goals (
    have hb5 := below_trans (below_drewN hb4 _) hb3
    clear hfn b1 h4 hb3 hb4 k1 k2 k3
    rcases lim_cases x with ⟨h1, h2⟩ | ⟨h1, h2, h3⟩ | ⟨h1, h2, h3⟩
    · subst h1
      rw [h2] at HM
      have k1 := empty_nil
      go_wp2
      go_ret2
      exact madeE_no HM.out rfl rfl hb5
    · rw [h3] at HM
      have k1 := empty_str x h1
      have k2 : (200 : Int) < (x.length : Int) := by omega
      clear h1 h3
      go_wp2
      go_ret2
      exact madeE_no HM.out rfl rfl hb5
    · rw [h3] at HM
      have k1 := empty_str x h1
      have k2 : ¬ (200 : Int) < (x.length : Int) := by omega
      clear h1 h3
      go_wp2
      go_ret2
      exact madeE_ok HM.out hb5)
/-- made. -/
theorem madeOf (F : Nat → Prop) (t : Tr) (g o : Nat) (tv : Value) (m : List UInt8) (w : World) (hF : ∀ g, F g → g < w.heap.size) (h : PT F w g o t) (htx : t.text.length ≤ 8192) (hm : m.length ≤ 140737488355328) (ys : List (List UInt8)) (hv : StrRow w tv ys) (hn : ys.length = (partsT t).length) (hl : ∀ y ∈ ys, y.length ≤ 200) (hbig : ys.length ≤ 100000) :
    Calls Try.prog 64 #[.agg #[.pointer (some ⟨g, o, none⟩), tv], .string (str m)] w (MadeE (madeR m t ys) w) := by
  rcases form_cases t with h0 | h0 | h0 | h0
  · exact made_none F t g o tv m w hF h h0 ys
  · exact made_atom F t g o tv m w hF h htx hm h0 ys
  · rw [partsT_arr h0] at hn
    exact made_arr F t g o tv m w hF h h0 ys hv hn hl
  · rw [partsT_fn h0, List.length_append] at hn
    exact made_fn F t g o tv m w hF h h0 ys hv (kid t 1).kids.length hn hl (by simp at hn; omega)
end Go.Proofs.Ytchfhkfepghfjaa

namespace Go.Proofs.Ytchfhkfepghfjaa
open Go.RowKit

theorem infoRd : (Try.prog.info? 124).map (fun i => (i.zero.map (fun z => z.cells.size), i.size, i.bytes)) = some (some 2, 2, 32) := by kernel_rfl
theorem append_reading {w : World} {ops : Array Oper} {rest : List Oper} {o : Oper} {a : Act} {Q : Exit → Act → World → Prop} (hgd : o.guard = none) (s x : Operand)
    (ho : o.op = .call { callee := .builtin .append, args := #[s, x], argTypes := #[125, 125] })
    (B : Nat) (v : Value) (n : Nat) (xs : List Value) (hs : a.eval s = v) (hown : w.ownsRow B 124 2 v n xs)
    (ad : Addr) (c : Nat) (news : List Value) (hx : a.eval x = .slice (some ad) 1 c) (hl : news.length = 2) (hnews : ∀ j u, news[j]? = some u → w.cell? (ad.add j) = some u) (h1 : ∀ u ∈ news, u.oneCell' = true)
    (hlen : n ≤ 100000) (hB : B ≤ w.heap.size) (H : Nat) (hH : w.heap.size = H)
    (h : ∀ g cap w', w'.ownsRow B 124 2 (.slice (some ⟨g, 0, none⟩) (n + 1) cap) (n + 1) (xs ++ news) → w.grownBy w' v.ownBlock → (v.ownBlock = some g ∨ g = H) → g < w'.heap.size → wpList Try.prog ops Q rest (a.put o.dst (.slice (some ⟨g, 0, none⟩) (n + 1) cap)) w') :
    wpList Try.prog ops Q (o :: rest) a w := by
  obtain ⟨i, z, hi, hz, k1, k2, k3⟩ := info_z infoRd
  exact wpList_append_lies w hgd s x 125 ho B 124 i z 2 32 Try.underlying125 hi hz k1 k2 k3 (by decide) v n xs hs hown ad 1 c news hx hl hnews h1 (by decide) (by unfold maxLen; omega) (by omega) hB H hH h
theorem append_texts {w : World} {ops : Array Oper} {rest : List Oper} {o : Oper} {a : Act} {Q : Exit → Act → World → Prop} (hgd : o.guard = none) (s x : Operand)
    (ho : o.op = .call { callee := .builtin .append, args := #[s, x], argTypes := #[24, 24] })
    (B : Nat) (v : Value) (n : Nat) (xs : List Value) (hs : a.eval s = v) (hown : w.ownsRow B 9 1 v n xs)
    (ad : Addr) (c : Nat) (news : List Value) (hx : a.eval x = .slice (some ad) 1 c) (hl : news.length = 1) (hnews : ∀ j u, news[j]? = some u → w.cell? (ad.add j) = some u) (h1 : ∀ u ∈ news, u.oneCell' = true)
    (hlen : n ≤ 100000) (hB : B ≤ w.heap.size) (H : Nat) (hH : w.heap.size = H)
    (h : ∀ g cap w', w'.ownsRow B 9 1 (.slice (some ⟨g, 0, none⟩) (n + 1) cap) (n + 1) (xs ++ news) → w.grownBy w' v.ownBlock → (v.ownBlock = some g ∨ g = H) → g < w'.heap.size → wpList Try.prog ops Q rest (a.put o.dst (.slice (some ⟨g, 0, none⟩) (n + 1) cap)) w') :
    wpList Try.prog ops Q (o :: rest) a w := by
  obtain ⟨i, z, hi, hz, k1, k2, k3⟩ := info_z infoS
  exact wpList_append_lies w hgd s x 24 ho B 9 i z 1 16 Try.underlying24 hi hz k1 k2 k3 (by decide) v n xs hs hown ad 1 c news hx hl hnews h1 (by decide) (by unfold maxLen; omega) (by omega) hB H hH h

/-- The cells of the stack. -/
def rdc : List (Nat × Nat) → List Value → List Value
  | p :: ps, v :: vs => .pointer (some ⟨p.1, p.2, none⟩) :: v :: rdc ps vs
  | _, _ => []
theorem rdc_length : ∀ {ps : List (Nat × Nat)} {vs : List Value}, vs.length = ps.length → (rdc ps vs).length = ps.length * 2
  | [], [], _ => rfl
  | _ :: _, [], h => by simp at h
  | [], _ :: _, h => by simp at h
  | p :: ps, v :: vs, h => by
    simp only [List.length_cons, Nat.add_right_cancel_iff] at h
    simp only [rdc, List.length_cons, rdc_length h]
    omega
theorem rdc_append : ∀ {ps : List (Nat × Nat)} {vs : List Value} (p : Nat × Nat) (v : Value), vs.length = ps.length → rdc (ps ++ [p]) (vs ++ [v]) = rdc ps vs ++ [.pointer (some ⟨p.1, p.2, none⟩), v]
  | [], [], _, _, _ => rfl
  | _ :: _, [], _, _, h => by simp at h
  | [], _ :: _, _, _, h => by simp at h
  | q :: ps, u :: vs, p, v, h => by
    simp only [List.length_cons, Nat.add_right_cancel_iff] at h
    simp only [List.cons_append, rdc, rdc_append p v h]
/-- Rows of different types lie apart. -/
theorem row_apart {w : World} {B B' e e' s s' n n' g : Nat} {v v' : Value} {xs xs' : List Value} (he : e ≠ e') (h : w.ownsRow B e s v n xs) (h' : w.ownsRow B' e' s' v' n' xs') (hg : v.ownBlock = some g) : v'.ownBlock ≠ some g := by
  intro hg'
  rcases h.2 with ⟨rfl, _⟩ | ⟨k, cap, cur, rfl, _, hk, _⟩
  · simp [Value.ownBlock] at hg
  · rcases h'.2 with ⟨rfl, _⟩ | ⟨k', cap', cur', rfl, _, hk', _⟩
    · simp [Value.ownBlock] at hg'
    · simp only [Value.ownBlock, Option.some.injEq] at hg hg'
      subst hg hg'
      rw [hk] at hk'
      simp only [Option.some.injEq, Obj.cells.injEq] at hk'
      exact he hk'.2.1

structure RStk (F : Nat → Prop) (B : Nat) (w : World) (sv : Value) (fs : List Fr) (ps : List (Nat × Nat)) (vs : List Value) : Prop where
  len1 : ps.length = fs.length
  len2 : vs.length = fs.length
  own : w.ownsRow B 124 2 sv fs.length (rdc ps vs)
  ptr : ∀ (i : Nat) (f : Fr) (p : Nat × Nat), fs[i]? = some f → ps[i]? = some p → PT F w p.1 p.2 f.tree
  txt : ∀ (i : Nat) (f : Fr) (v : Value), fs[i]? = some f → vs[i]? = some v → w.ownsRow B 9 1 v f.texts.length (sc f.texts)
  apart : ∀ (i j : Nat) (v v' : Value) (g : Nat), vs[i]? = some v → vs[j]? = some v' → v.ownBlock = some g → v'.ownBlock = some g → i = j
theorem PT.kept {F S : Nat → Prop} {w w' : World} {g o : Nat} {t : Tr} (h : PT F w g o t) (k : Kept S w w') (hF : ∀ g, F g → g < w.heap.size ∧ ¬ S g) : PT F w' g o t := by
  obtain ⟨h1, kv, h2, h3, h4, h5, h6⟩ := h
  have hn := (hF g h1).2
  exact ⟨h1, kv, h2.kept k hF, k.cell h3 hn, k.cell h4 hn, k.cell h5 hn, k.cell h6 hn⟩
theorem RStk.below {F : Nat → Prop} {B : Nat} {w w' : World} {sv : Value} {fs : List Fr} {ps : List (Nat × Nat)} {vs : List Value} (h : RStk F B w sv fs ps vs) (hF : ∀ g, F g → g < w.heap.size) (hb : Below w.heap.size w w') : RStk F B w' sv fs ps vs :=
  ⟨h.len1, h.len2, owns_below h.own hb, fun i f p h1 h2 => (h.ptr i f p h1 h2).below hb hF, fun i f v h1 h2 => owns_below (h.txt i f v h1 h2) hb, h.apart⟩
theorem RStk.alloc {F : Nat → Prop} {B : Nat} {w : World} {sv : Value} {fs : List Fr} {ps : List (Nat × Nat)} {vs : List Value} (h : RStk F B w sv fs ps vs) (hF : ∀ g, F g → g < w.heap.size) (o : Obj) : RStk F B (w.alloc o) sv fs ps vs :=
  h.below hF ((Below.refl _ _).alloc (Nat.le_refl _) o)
theorem get_last {α : Type} {l : List α} {x y : α} {i : Nat} (h : (l ++ [x])[i]? = some y) : l[i]? = some y ∨ (i = l.length ∧ y = x) := by
  rw [List.getElem?_append] at h
  split at h
  · exact .inl h
  · right
    obtain ⟨h1, h2⟩ := List.getElem?_eq_some_iff.1 h
    simp at h1 h2
    exact ⟨by omega, h2.symm⟩
/-- One thing more is begun. -/
theorem RStk.push {F : Nat → Prop} {B : Nat} {w w' : World} {sv sv' : Value} {fs : List Fr} {ps : List (Nat × Nat)} {vs : List Value} {t : Tr} {p : Nat × Nat} (h : RStk F B w sv fs ps vs) (hFB : ∀ g, F g → g < B) (hB : B ≤ w.heap.size) (hp : PT F w p.1 p.2 t)
    (hown : w'.ownsRow B 124 2 sv' (fs.length + 1) (rdc ps vs ++ [.pointer (some ⟨p.1, p.2, none⟩), .slice none 0 0])) (hg : w.grownBy w' sv.ownBlock) : RStk F B w' sv' (fs ++ [⟨t, []⟩]) (ps ++ [p]) (vs ++ [.slice none 0 0]) := by
  have k : Kept (fun g => sv.ownBlock = some g) w w' := (Kept.refl _ w).grown hg (fun k e _ => e)
  have hF : ∀ g, F g → g < w.heap.size ∧ ¬ sv.ownBlock = some g := fun g hg => ⟨by have := hFB g hg; omega, fun e => by have := hFB g hg; have := (h.own.lt g e).1; omega⟩
  refine ⟨by simp [h.len1], by simp [h.len2], ?_, fun i f q h1 h2 => ?_, fun i f v h1 h2 => ?_, fun i j v v' g h1 h2 h3 h4 => ?_⟩
  · rw [rdc_append _ _ (by rw [h.len1, h.len2]), List.length_append]
    exact hown
  · rcases get_last h1 with h1 | ⟨rfl, rfl⟩
    · rcases get_last h2 with h2 | ⟨rfl, rfl⟩
      · exact (h.ptr i f q h1 h2).kept k hF
      · have := (List.getElem?_eq_some_iff.1 h1).1
        rw [h.len1] at this
        omega
    · rcases get_last h2 with h2 | ⟨_, rfl⟩
      · have := (List.getElem?_eq_some_iff.1 h2).1
        rw [h.len1] at this
        omega
      · exact hp.kept k hF
  · rcases get_last h1 with h1 | ⟨rfl, rfl⟩
    · rcases get_last h2 with h2 | ⟨rfl, rfl⟩
      · exact k.own (h.txt i f v h1 h2) (fun g hg => fun e => row_apart (by decide) (h.txt i f v h1 h2) h.own hg e)
      · have := (List.getElem?_eq_some_iff.1 h1).1
        rw [h.len2] at this
        omega
    · rcases get_last h2 with h2 | ⟨_, rfl⟩
      · have := (List.getElem?_eq_some_iff.1 h2).1
        rw [h.len2] at this
        omega
      · exact World.ownsRow_nil _ _ _ _
  · rcases get_last h1 with h1 | ⟨_, rfl⟩
    · rcases get_last h2 with h2 | ⟨_, rfl⟩
      · exact h.apart i j v v' g h1 h2 h3 h4
      · simp [Value.ownBlock] at h4
    · simp [Value.ownBlock] at h3
/-- The topmost ends. -/
theorem RStk.pop {F : Nat → Prop} {B g cap n : Nat} {w : World} {fs : List Fr} {f : Fr} {ps : List (Nat × Nat)} {p : Nat × Nat} {vs : List Value} {v : Value} (h : RStk F B w (.slice (some ⟨g, 0, none⟩) (n + 1) cap) (fs ++ [f]) (ps ++ [p]) (vs ++ [v])) (hn : fs.length = n) :
    RStk F B w (.slice (some ⟨g, 0, none⟩) n cap) fs ps vs := by
  subst hn
  have l1 : ps.length = fs.length := by simpa using h.len1
  have l2 : vs.length = fs.length := by simpa using h.len2
  have up : ∀ {α : Type} {l : List α} {x y : α} {i : Nat}, l[i]? = some y → (l ++ [x])[i]? = some y := fun {α l x y i} hh => by
    rw [List.getElem?_append_left (List.getElem?_eq_some_iff.1 hh).1]
    exact hh
  refine ⟨l1, l2, ?_, fun i f p h1 h2 => h.ptr i f p (up h1) (up h2), fun i f v h1 h2 => h.txt i f v (up h1) (up h2), fun i j v v' g h1 h2 => h.apart i j v v' g (up h1) (up h2)⟩
  have := h.own
  rw [rdc_append _ _ (by omega), List.length_append] at this
  exact ownsRow_pop (by rw [rdc_length (by omega), l1]) this
/-- A text more in the topmost. -/
theorem RStk.add {F : Nat → Prop} {B g gs cap caps n H : Nat} {w w' : World} {fs : List Fr} {f : Fr} {ps : List (Nat × Nat)} {p : Nat × Nat} {vs : List Value} {v : Value} {x : List UInt8} (h : RStk F B w (.slice (some ⟨gs, 0, none⟩) (n + 1) caps) (fs ++ [f]) (ps ++ [p]) (vs ++ [v])) (hn : fs.length = n) (hFB : ∀ g, F g → g < B) (hB : B ≤ w.heap.size) (hH : w.heap.size = H)
    (hown : w'.ownsRow B 9 1 (.slice (some ⟨g, 0, none⟩) (f.texts.length + 1) cap) (f.texts.length + 1) (sc f.texts ++ [.string (str x)])) (hg : w.grownBy w' v.ownBlock) (hat : v.ownBlock = some g ∨ g = H) :
    w'.cell? ⟨gs, n * 2 + 1, none⟩ = some v ∧ w'.frozen? ⟨gs, n * 2 + 1, none⟩ = false ∧
    RStk F B (w'.setCell ⟨gs, n * 2 + 1, none⟩ (.slice (some ⟨g, 0, none⟩) (f.texts.length + 1) cap)) (.slice (some ⟨gs, 0, none⟩) (n + 1) caps) (fs ++ [⟨f.tree, f.texts ++ [x]⟩]) (ps ++ [p]) (vs ++ [.slice (some ⟨g, 0, none⟩) (f.texts.length + 1) cap]) ∧
    Below B w (w'.setCell ⟨gs, n * 2 + 1, none⟩ (.slice (some ⟨g, 0, none⟩) (f.texts.length + 1) cap)) := by
  subst hn
  have l1 : ps.length = fs.length := by simpa using h.len1
  have l2 : vs.length = fs.length := by simpa using h.len2
  have hf : (fs ++ [f])[fs.length]? = some f := by simp
  have hv : (vs ++ [v])[fs.length]? = some v := by rw [← l2]; simp
  have hpp : (ps ++ [p])[fs.length]? = some p := by rw [← l1]; simp
  have ht := h.txt _ _ _ hf hv
  have K1 : Kept (fun k => v.ownBlock = some k) w w' := (Kept.refl _ w).grown hg (fun k e _ => e)
  have ho := h.own
  have hls : (fs ++ [f]).length = fs.length + 1 := by simp
  rw [hls] at ho
  have hne : ∀ k, v.ownBlock = some k → k ≠ gs := fun k e1 e2 => row_apart (by decide) ht ho e1 (by rw [e2]; rfl)
  have ho' := K1.own ho (fun k hk e => by simp [Value.ownBlock] at hk; exact hne k e hk.symm)
  have hst := ho'.stored (fs.length * 2 + 1) (.slice (some ⟨g, 0, none⟩) (f.texts.length + 1) cap)
  have K2 : Kept (fun k => k = gs) w' (w'.setCell ⟨gs, fs.length * 2 + 1, none⟩ (.slice (some ⟨g, 0, none⟩) (f.texts.length + 1) cap)) := (Kept.refl _ w').grown hst.2 (fun k e _ => by simp at e; exact e.symm)
  have hgB : B ≤ gs := (ho.lt gs rfl).1
  have hF1 : ∀ k, F k → k < w.heap.size ∧ ¬ v.ownBlock = some k := fun k hk => ⟨by have := hFB k hk; omega, fun e => by have := hFB k hk; have := (ht.lt k e).1; omega⟩
  have hF2 : ∀ k, F k → k < w'.heap.size ∧ ¬ k = gs := fun k hk => ⟨by have := hFB k hk; have := K1.size; omega, fun e => by have := hFB k hk; omega⟩
  have lo : ∀ {α : Type} {l : List α} {x y : α} {i : Nat}, i < l.length → (l ++ [x])[i]? = some y → ∀ z, (l ++ [z])[i]? = some y := fun {α l x y i} hi hh z => by
    rw [List.getElem?_append_left hi] at hh ⊢
    exact hh
  refine ⟨?_, ho'.frozenAt _, ⟨by simp [l1], by simp [l2], ?_, fun i f' q h1 h2 => ?_, fun i f' u h1 h2 => ?_, fun i j u u' k h1 h2 h3 h4 => ?_⟩, ?_⟩
  · rw [ho'.cellAt _ (by omega), rdc_append _ _ (by omega), List.getElem?_append_right (by rw [rdc_length (by omega)]; omega), rdc_length (by omega), l1, show fs.length * 2 + 1 - fs.length * 2 = 1 from by omega]
    rfl
  · have := hst.1
    rw [rdc_append _ _ (by omega), List.set_append_right _ _ (by rw [rdc_length (by omega)]; omega), rdc_length (by omega), l1, show fs.length * 2 + 1 - fs.length * 2 = 1 from by omega] at this
    rw [rdc_append _ _ (by omega), List.length_append]
    exact this
  · rcases get_last h1 with h1' | ⟨rfl, rfl⟩
    · have hi := (List.getElem?_eq_some_iff.1 h1').1
      exact ((h.ptr i f' q (lo hi h1 _) h2).kept K1 hF1).kept K2 hF2
    · rw [hpp] at h2
      cases h2
      exact ((h.ptr _ f p hf hpp).kept K1 hF1).kept K2 hF2
  · rcases get_last h1 with h1' | ⟨rfl, rfl⟩
    · have hi := (List.getElem?_eq_some_iff.1 h1').1
      rcases get_last h2 with h2' | ⟨rfl, _⟩
      · have hi2 := (List.getElem?_eq_some_iff.1 h2').1
        have hr := h.txt i f' u (lo hi h1 _) (lo hi2 h2 _)
        have hr1 := K1.own hr (fun k hk e => by
          have := h.apart i fs.length u v k (lo hi2 h2 _) hv hk e
          omega)
        exact K2.own hr1 (fun k hk e => row_apart (by decide) hr1 ho' hk (by rw [e]; rfl))
      · omega
    · rcases get_last h2 with h2' | ⟨_, rfl⟩
      · have := (List.getElem?_eq_some_iff.1 h2').1
        omega
      · simp only [List.length_append, List.length_singleton]
        rw [sc_append]
        exact K2.own hown (fun k hk e => row_apart (by decide) hown ho' hk (by rw [e]; rfl))
  · have hnew : ∀ (i : Nat) (u : Value) (k : Nat), vs[i]? = some u → u.ownBlock = some k → k ≠ g := by
      intro i u k hu hk e
      subst e
      have hi := (List.getElem?_eq_some_iff.1 hu).1
      have hu' : (vs ++ [v])[i]? = some u := by rw [List.getElem?_append_left hi]; exact hu
      rcases hat with q | q
      · have := h.apart i fs.length u v k hu' hv hk q
        omega
      · have hfi : (fs ++ [f])[i]? = some fs[i] := by rw [List.getElem?_append_left (by omega), List.getElem?_eq_getElem]
        have := ((h.txt i fs[i] u hfi hu').lt k hk).2
        omega
    rcases get_last h1 with h1' | ⟨e1, rfl⟩
    · rcases get_last h2 with h2' | ⟨e2, rfl⟩
      · have hi := (List.getElem?_eq_some_iff.1 h1').1
        have hj := (List.getElem?_eq_some_iff.1 h2').1
        exact h.apart i j u u' k (lo hi h1 _) (lo hj h2 _) h3 h4
      · simp [Value.ownBlock] at h4
        exact absurd h4.symm (hnew i u k h1' h3)
    · rcases get_last h2 with h2' | ⟨e2, rfl⟩
      · simp [Value.ownBlock] at h3
        exact absurd h3.symm (hnew j u' k h2' h4)
      · omega
  · exact (K1.below hB (fun k hk e => by have := (ht.lt k e).1; omega)).trans (K2.below (by have := K1.size; omega) (fun k hk e => by omega))
end Go.Proofs.Ytchfhkfepghfjaa
