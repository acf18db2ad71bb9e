/-
  The package's reader: refuse, readName, readNames, readType: what is refused first stays.
  And: 'make' at this program: new rows of texts, parameters, cases, expressions, arms, as cells. The package's readNames: names one behind the other. The package's readType and readParams.
-/
import Derived.Deep.Fields
import Derived.Test.YtchfhkfepghfjaaPfAq
import Derived.Laws.MakeOwn
import Derived.Deep.LoopGhost
import Derived.Deep.RegionWith
namespace Go.Proofs.Ytchfhkfepghfjaa
open Go.RowKit

/-- What stays refused: what was, else what is now. -/
def orE {α : Type} (st : Option (Nat × Nat)) (r : PR α) : Option (Nat × Nat) :=
  match st with
  | some e => some e
  | none => match r with
    | .error e => some e
    | .ok _ => none
def Sw (st : Option (Nat × Nat)) : Prop := ∀ e, st = some e → e.1 ≠ 0
theorem sw_none : Sw none := fun _ h => by cases h
theorem orE_ok {α : Type} (st : Option (Nat × Nat)) (x : α) : orE st (.ok x : PR α) = st := by cases st <;> rfl
theorem orE_none {α : Type} {st : Option (Nat × Nat)} {r : PR α} (h : orE st r = none) : st = none ∧ ∃ x, r = .ok x := by
  cases st with
  | some e => cases h
  | none => cases r with
    | error e => cases h
    | ok x => exact ⟨rfl, x, rfl⟩
theorem orE_some {α : Type} (e : Nat × Nat) (r : PR α) : orE (some e) r = some e := rfl
theorem sw_orE {α : Type} {st : Option (Nat × Nat)} {r : PR α} (h : Sw st) (hr : ∀ e, r = .error e → e.1 ≠ 0) : Sw (orE st r) := by
  cases st with
  | some e => exact h
  | none => cases r with
    | error e => exact fun e' h' => by cases h'; exact hr e rfl
    | ok x => exact sw_none
theorem orE_bind {α β : Type} (st : Option (Nat × Nat)) (r : PR α) (f : α → PR β) : orE st (r.bind f) = match r with | .error e => orE st (.error e : PR β) | .ok x => orE st (f x) := by cases r <;> rfl
/-- A call of the reader's: it answers v, and leaves it so. -/
def RQ6 (m : List UInt8) (tv : Value) (rb : Nat) (st : Option (Nat × Nat)) (v : Value) (w : World) (e : Ending) (w' : World) : Prop := e = .returned v ∧ DIs w' rb m tv st ∧ Kept (fun k => k = rb) w w'
theorem kept_drewN {S : Nat → Prop} {w w1 : World} (h : Kept S w w1) (n : Nat) : Kept S w (w1.drewN n) := ⟨h.os, h.tape, h.output, h.size, h.block⟩
theorem kept_of_drewN {S : Nat → Prop} {w w1 : World} {n : Nat} (h : Kept S (w.drewN n) w1) : Kept S w w1 := ⟨h.os, h.tape, h.output, h.size, h.block⟩
theorem DIs.drewN {w : World} {rb : Nat} {m : List UInt8} {tv : Value} {st : Option (Nat × Nat)} (h : DIs w rb m tv st) (n : Nat) : DIs (w.drewN n) rb m tv st := h
set_option maxHeartbeats 1000000 in
set_option maxRecDepth 1000000 in
theorem refuse (w : World) (rb : Nat) (m : List UInt8) (tv : Value) (st : Option (Nat × Nat)) (y b : Nat) (h : DIs w rb m tv st) (hs : Sw st) :
    Calls Try.prog 24 #[.pointer (some ⟨rb, 0, none⟩), .int .i64 (y : Int), .int .i64 (b : Int)] w (RQ6 m tv rb (orE st (.error (y, b) : PR Unit)) (.tuple #[]) w) := by
  have hk := Kept.refl (fun k => k = rb) w
  obtain ⟨q0, q1, q2, q3, fz⟩ := h.cells
  have f2 := fz 2
  have f3 := fz 3
  cases st with
  | some e =>
    have h0 : ((whyOf (some e) : Int) == 0) = false := by
      rw [beq_eq_false_iff_ne]
      have := hs e rfl
      show ((e.1 : Nat) : Int) ≠ 0
      omega
    have hD := h
    clear h hs fz
    generalize (whyOf (some e) : Int) = z at *
    go_enter Try.func24, Try.ntmps24
    go_wp2
    go_end0
    exact ⟨rfl, hD, hk⟩
  | none =>
    have h0 : ((whyOf none : Int) == 0) = true := rfl
    have hD : DIs ((w.setCell ⟨rb, 2, none⟩ (.int .i64 (y : Int))).setCell ⟨rb, 3, none⟩ (.int .i64 (b : Int))) rb m tv (some (y, b)) := by
      have h1 := heap_setCell_same w rb 2 _ _ (.int .i64 (y : Int)) h
      exact heap_setCell_same _ rb 3 _ _ (.int .i64 (b : Int)) h1
    have hK : Kept (fun k => k = rb) w ((w.setCell ⟨rb, 2, none⟩ (.int .i64 (y : Int))).setCell ⟨rb, 3, none⟩ (.int .i64 (b : Int))) := (hk.setCell (p := ⟨rb, 2, none⟩) (fun _ => rfl) _).setCell (p := ⟨rb, 3, none⟩) (fun _ => rfl) _
    clear h hs fz hk
    generalize (whyOf none : Int) = z at *
    go_enter Try.func24, Try.ntmps24
    go_wp2
    go_end0
    exact ⟨rfl, hD, hK⟩
/-- An Atom that must be such a name. -/
def suchP (f : List UInt8 → Bool) (t : Tr) : PR (List UInt8) := if f t.text = true then .ok t.text else .error (13, t.place)
theorem suchP_bind : suchP bindR = nameP := by
  funext t
  unfold suchP nameP bindR
  cases valueR t.text <;> cases isKey t.text <;> rfl
theorem suchP_any : suchP nameR = anyP := rfl
theorem suchP_big : suchP bigR = bigP := rfl
theorem suchP_val : suchP valueR = valP := rfl
theorem suchP_err {f : List UInt8 → Bool} {t : Tr} {e : Nat × Nat} (h : suchP f t = .error e) : e.1 ≠ 0 := by
  unfold suchP at h
  split at h
  · cases h
  · cases h; exact Nat.succ_ne_zero 12
set_option maxHeartbeats 1000000 in
set_option maxRecDepth 1000000 in
theorem readName_Val (F : Nat → Prop) (t : Tr) (g o : Nat) (w : World) (rb : Nat) (m : List UInt8) (tv : Value) (st : Option (Nat × Nat)) (h : DIs w rb m tv st) (hs : Sw st) (hT : PT F w g o t) (hF : ∀ b, F b → b < rb) (hl : t.text.length ≤ 8192) :
    Calls Try.prog 26 #[.pointer (some ⟨rb, 0, none⟩), .pointer (some ⟨g, o, none⟩), .func (.func 38) #[] #[]] w (RQ6 m tv rb (orE st (suchP valueR t)) (.string (str t.text)) w) := by
  have hc := fun u : World => value (str t.text) u (by rw [str_size]; omega)
  rw [str_data] at hc
  have hcl := fun u : World => sClone (str t.text) u (by rw [str_size]; omega)
  have hgr := hF g hT.1
  obtain ⟨hFg, kv, hTT, q0, q1, q2, q3⟩ := hT
  clear hTT q0 q3
  cases hb : valueR t.text
  · have HR : Hid (orE st (suchP valueR t) = orE st (.error (13, t.place) : PR Unit)) := by
      rw [hid_iff, suchP, hb]
      cases st <;> rfl
    rw [hb] at hc
    clear hb
    have hrf := fun (u : World) (hu : DIs u rb m tv st) => refuse u rb m tv st 13 t.place hu hs
    go_enter Try.func26, Try.ntmps26
    go_wp2_with (go_at_call 38; refine (hc _).mono ?_; rintro e w1 ⟨rfl, hw1⟩; obtain rfl := hw1.symm)
    refine (hrf _ h).mono ?_
    rintro e w2 ⟨rfl, hD2, hK2⟩
    have q2' : w2.cell? ⟨g, o + 2, none⟩ = some (.string (str t.text)) := hK2.cell (p := ⟨g, o + 2, none⟩) q2 (by show ¬ g = rb; omega)
    clear q1 q2 hrf hc
    go_wp2_with fail
    refine (hcl _).mono ?_
    rintro e w3 ⟨rfl, hb3⟩
    have hD3 := hD2.below hb3 hD2.lt
    have hK3 : Kept (fun k => k = rb) w w3 := Kept.trans hK2 (Kept.of_below hb3) (fun _ _ h => h) (fun x hx hT => by have h1 : w.heap.size ≤ w2.heap.size := hK2.size; have hT' : w2.heap.size ≤ x := hT; have hx' : x < w.heap.size := hx; omega)
    clear q2' hcl hD2 hK2 hb3
    go_wp2
    go_ret
    exact ⟨rfl, by rw [HR.out]; exact hD3, hK3⟩
  · have HR : Hid (orE st (suchP valueR t) = st) := by
      rw [hid_iff, suchP, hb, if_pos rfl, orE_ok]
    rw [hb] at hc
    clear hb
    go_enter Try.func26, Try.ntmps26
    go_wp2_with (go_at_call 38; refine (hc _).mono ?_; rintro e w1 ⟨rfl, hw1⟩; obtain rfl := hw1.symm)
    refine (hcl _).mono ?_
    rintro e w3 ⟨rfl, hb3⟩
    have hD3 : DIs w3 rb m tv st := DIs.below (w := w) h hb3 h.lt
    have hK3 : Kept (fun k => k = rb) w w3 := ⟨hb3.os, hb3.tape, hb3.output, hb3.size, fun k hk _ => hb3.block k hk⟩
    clear q1 q2 hcl hb3 hc
    go_wp2
    go_ret
    exact ⟨rfl, by rw [HR.out]; exact hD3, hK3⟩
set_option maxHeartbeats 1000000 in
set_option maxRecDepth 1000000 in
theorem readName_Nam (F : Nat → Prop) (t : Tr) (g o : Nat) (w : World) (rb : Nat) (m : List UInt8) (tv : Value) (st : Option (Nat × Nat)) (h : DIs w rb m tv st) (hs : Sw st) (hT : PT F w g o t) (hF : ∀ b, F b → b < rb) (hl : t.text.length ≤ 8192) :
    Calls Try.prog 26 #[.pointer (some ⟨rb, 0, none⟩), .pointer (some ⟨g, o, none⟩), .func (.func 52) #[] #[]] w (RQ6 m tv rb (orE st (suchP nameR t)) (.string (str t.text)) w) := by
  have hc := fun u : World => name (str t.text) u (by rw [str_size]; omega)
  rw [str_data] at hc
  have hcl := fun u : World => sClone (str t.text) u (by rw [str_size]; omega)
  have hgr := hF g hT.1
  obtain ⟨hFg, kv, hTT, q0, q1, q2, q3⟩ := hT
  clear hTT q0 q3
  cases hb : nameR t.text
  · have HR : Hid (orE st (suchP nameR t) = orE st (.error (13, t.place) : PR Unit)) := by
      rw [hid_iff, suchP, hb]
      cases st <;> rfl
    rw [hb] at hc
    clear hb
    have hrf := fun (u : World) (hu : DIs u rb m tv st) => refuse u rb m tv st 13 t.place hu hs
    go_enter Try.func26, Try.ntmps26
    go_wp2_with (go_at_call 52; refine (hc _).mono ?_; rintro e w1 ⟨rfl, hw1⟩; obtain rfl := hw1.symm)
    refine (hrf _ h).mono ?_
    rintro e w2 ⟨rfl, hD2, hK2⟩
    have q2' : w2.cell? ⟨g, o + 2, none⟩ = some (.string (str t.text)) := hK2.cell (p := ⟨g, o + 2, none⟩) q2 (by show ¬ g = rb; omega)
    clear q1 q2 hrf hc
    go_wp2_with fail
    refine (hcl _).mono ?_
    rintro e w3 ⟨rfl, hb3⟩
    have hD3 := hD2.below hb3 hD2.lt
    have hK3 : Kept (fun k => k = rb) w w3 := Kept.trans hK2 (Kept.of_below hb3) (fun _ _ h => h) (fun x hx hT => by have h1 : w.heap.size ≤ w2.heap.size := hK2.size; have hT' : w2.heap.size ≤ x := hT; have hx' : x < w.heap.size := hx; omega)
    clear q2' hcl hD2 hK2 hb3
    go_wp2
    go_ret
    exact ⟨rfl, by rw [HR.out]; exact hD3, hK3⟩
  · have HR : Hid (orE st (suchP nameR t) = st) := by
      rw [hid_iff, suchP, hb, if_pos rfl, orE_ok]
    rw [hb] at hc
    clear hb
    go_enter Try.func26, Try.ntmps26
    go_wp2_with (go_at_call 52; refine (hc _).mono ?_; rintro e w1 ⟨rfl, hw1⟩; obtain rfl := hw1.symm)
    refine (hcl _).mono ?_
    rintro e w3 ⟨rfl, hb3⟩
    have hD3 : DIs w3 rb m tv st := DIs.below (w := w) h hb3 h.lt
    have hK3 : Kept (fun k => k = rb) w w3 := ⟨hb3.os, hb3.tape, hb3.output, hb3.size, fun k hk _ => hb3.block k hk⟩
    clear q1 q2 hcl hb3 hc
    go_wp2
    go_ret
    exact ⟨rfl, by rw [HR.out]; exact hD3, hK3⟩
set_option maxHeartbeats 1000000 in
set_option maxRecDepth 1000000 in
theorem readName_Big (F : Nat → Prop) (t : Tr) (g o : Nat) (w : World) (rb : Nat) (m : List UInt8) (tv : Value) (st : Option (Nat × Nat)) (h : DIs w rb m tv st) (hs : Sw st) (hT : PT F w g o t) (hF : ∀ b, F b → b < rb) (hl : t.text.length ≤ 8192) :
    Calls Try.prog 26 #[.pointer (some ⟨rb, 0, none⟩), .pointer (some ⟨g, o, none⟩), .func (.func 43) #[] #[]] w (RQ6 m tv rb (orE st (suchP bigR t)) (.string (str t.text)) w) := by
  have hc := fun u : World => big (str t.text) u (by rw [str_size]; omega)
  rw [str_data] at hc
  have hcl := fun u : World => sClone (str t.text) u (by rw [str_size]; omega)
  have hgr := hF g hT.1
  obtain ⟨hFg, kv, hTT, q0, q1, q2, q3⟩ := hT
  clear hTT q0 q3
  cases hb : bigR t.text
  · have HR : Hid (orE st (suchP bigR t) = orE st (.error (13, t.place) : PR Unit)) := by
      rw [hid_iff, suchP, hb]
      cases st <;> rfl
    rw [hb] at hc
    clear hb
    have hrf := fun (u : World) (hu : DIs u rb m tv st) => refuse u rb m tv st 13 t.place hu hs
    go_enter Try.func26, Try.ntmps26
    go_wp2_with (go_at_call 43; refine (hc _).mono ?_; rintro e w1 ⟨rfl, hw1⟩; obtain rfl := hw1.symm)
    refine (hrf _ h).mono ?_
    rintro e w2 ⟨rfl, hD2, hK2⟩
    have q2' : w2.cell? ⟨g, o + 2, none⟩ = some (.string (str t.text)) := hK2.cell (p := ⟨g, o + 2, none⟩) q2 (by show ¬ g = rb; omega)
    clear q1 q2 hrf hc
    go_wp2_with fail
    refine (hcl _).mono ?_
    rintro e w3 ⟨rfl, hb3⟩
    have hD3 := hD2.below hb3 hD2.lt
    have hK3 : Kept (fun k => k = rb) w w3 := Kept.trans hK2 (Kept.of_below hb3) (fun _ _ h => h) (fun x hx hT => by have h1 : w.heap.size ≤ w2.heap.size := hK2.size; have hT' : w2.heap.size ≤ x := hT; have hx' : x < w.heap.size := hx; omega)
    clear q2' hcl hD2 hK2 hb3
    go_wp2
    go_ret
    exact ⟨rfl, by rw [HR.out]; exact hD3, hK3⟩
  · have HR : Hid (orE st (suchP bigR t) = st) := by
      rw [hid_iff, suchP, hb, if_pos rfl, orE_ok]
    rw [hb] at hc
    clear hb
    go_enter Try.func26, Try.ntmps26
    go_wp2_with (go_at_call 43; refine (hc _).mono ?_; rintro e w1 ⟨rfl, hw1⟩; obtain rfl := hw1.symm)
    refine (hcl _).mono ?_
    rintro e w3 ⟨rfl, hb3⟩
    have hD3 : DIs w3 rb m tv st := DIs.below (w := w) h hb3 h.lt
    have hK3 : Kept (fun k => k = rb) w w3 := ⟨hb3.os, hb3.tape, hb3.output, hb3.size, fun k hk _ => hb3.block k hk⟩
    clear q1 q2 hcl hb3 hc
    go_wp2
    go_ret
    exact ⟨rfl, by rw [HR.out]; exact hD3, hK3⟩
set_option maxHeartbeats 1000000 in
set_option maxRecDepth 1000000 in
theorem readName_Bind (F : Nat → Prop) (t : Tr) (g o : Nat) (w : World) (rb : Nat) (m : List UInt8) (tv : Value) (st : Option (Nat × Nat)) (h : DIs w rb m tv st) (hs : Sw st) (hT : PT F w g o t) (hF : ∀ b, F b → b < rb) (hl : t.text.length ≤ 8192) :
    Calls Try.prog 26 #[.pointer (some ⟨rb, 0, none⟩), .pointer (some ⟨g, o, none⟩), .func (.func 29) #[] #[]] w (RQ6 m tv rb (orE st (suchP bindR t)) (.string (str t.text)) w) := by
  have hc := fun u : World => mayBind t.text u hl
  have hcl := fun u : World => sClone (str t.text) u (by rw [str_size]; omega)
  have hgr := hF g hT.1
  obtain ⟨hFg, kv, hTT, q0, q1, q2, q3⟩ := hT
  clear hTT q0 q3
  cases hb : bindR t.text
  · have HR : Hid (orE st (suchP bindR t) = orE st (.error (13, t.place) : PR Unit)) := by
      rw [hid_iff, suchP, hb]
      cases st <;> rfl
    rw [hb] at hc
    clear hb
    have hrf := fun (u : World) (hu : DIs u rb m tv st) => refuse u rb m tv st 13 t.place hu hs
    go_enter Try.func26, Try.ntmps26
    go_wp2_with (go_at_call 29; refine (hc _).mono ?_; rintro e w1 ⟨rfl, hw1⟩; obtain rfl := hw1.symm)
    refine (hrf _ h).mono ?_
    rintro e w2 ⟨rfl, hD2, hK2⟩
    have q2' : w2.cell? ⟨g, o + 2, none⟩ = some (.string (str t.text)) := hK2.cell (p := ⟨g, o + 2, none⟩) q2 (by show ¬ g = rb; omega)
    clear q1 q2 hrf hc
    go_wp2_with fail
    refine (hcl _).mono ?_
    rintro e w3 ⟨rfl, hb3⟩
    have hD3 := hD2.below hb3 hD2.lt
    have hK3 : Kept (fun k => k = rb) w w3 := Kept.trans hK2 (Kept.of_below hb3) (fun _ _ h => h) (fun x hx hT => by have h1 : w.heap.size ≤ w2.heap.size := hK2.size; have hT' : w2.heap.size ≤ x := hT; have hx' : x < w.heap.size := hx; omega)
    clear q2' hcl hD2 hK2 hb3
    go_wp2
    go_ret
    exact ⟨rfl, by rw [HR.out]; exact hD3, hK3⟩
  · have HR : Hid (orE st (suchP bindR t) = st) := by
      rw [hid_iff, suchP, hb, if_pos rfl, orE_ok]
    rw [hb] at hc
    clear hb
    go_enter Try.func26, Try.ntmps26
    go_wp2_with (go_at_call 29; refine (hc _).mono ?_; rintro e w1 ⟨rfl, hw1⟩; obtain rfl := hw1.symm)
    refine (hcl _).mono ?_
    rintro e w3 ⟨rfl, hb3⟩
    have hD3 : DIs w3 rb m tv st := DIs.below (w := w) h hb3 h.lt
    have hK3 : Kept (fun k => k = rb) w w3 := ⟨hb3.os, hb3.tape, hb3.output, hb3.size, fun k hk _ => hb3.block k hk⟩
    clear q1 q2 hcl hb3 hc
    go_wp2
    go_ret
    exact ⟨rfl, by rw [HR.out]; exact hD3, hK3⟩
set_option maxHeartbeats 1000000 in
set_option maxRecDepth 1000000 in
theorem readName_Path (F : Nat → Prop) (t : Tr) (g o : Nat) (w : World) (rb : Nat) (m : List UInt8) (tv : Value) (st : Option (Nat × Nat)) (h : DIs w rb m tv st) (hs : Sw st) (hT : PT F w g o t) (hF : ∀ b, F b → b < rb) (hl : t.text.length ≤ 8192) :
    Calls Try.prog 26 #[.pointer (some ⟨rb, 0, none⟩), .pointer (some ⟨g, o, none⟩), .func (.func 27) #[] #[]] w (RQ6 m tv rb (orE st (suchP pathB t)) (.string (str t.text)) w) := by
  have hc := fun u : World => toB t.text u hl
  have hcl := fun u : World => sClone (str t.text) u (by rw [str_size]; omega)
  have hgr := hF g hT.1
  obtain ⟨hFg, kv, hTT, q0, q1, q2, q3⟩ := hT
  clear hTT q0 q3
  cases hb : pathB t.text
  · have HR : Hid (orE st (suchP pathB t) = orE st (.error (13, t.place) : PR Unit)) := by
      rw [hid_iff, suchP, hb]
      cases st <;> rfl
    rw [hb] at hc
    clear hb
    have hrf := fun (u : World) (hu : DIs u rb m tv st) => refuse u rb m tv st 13 t.place hu hs
    go_enter Try.func26, Try.ntmps26
    go_wp2_with (go_at_call 27; refine (hc _).mono ?_; rintro e w1 ⟨n, rfl, rfl⟩)
    refine (hrf _ (h.drewN n)).mono ?_
    rintro e w2 ⟨rfl, hD2, hK2⟩
    have q2' : w2.cell? ⟨g, o + 2, none⟩ = some (.string (str t.text)) := hK2.cell (p := ⟨g, o + 2, none⟩) q2 (by show ¬ g = rb; omega)
    clear q1 q2 hrf hc
    go_wp2_with fail
    refine (hcl _).mono ?_
    rintro e w3 ⟨rfl, hb3⟩
    have hD3 := hD2.below hb3 hD2.lt
    have hK3 : Kept (fun k => k = rb) w w3 := Kept.trans (kept_of_drewN hK2) (Kept.of_below hb3) (fun _ _ h => h) (fun x hx hT => by have h1 : w.heap.size ≤ w2.heap.size := hK2.size; have hT' : w2.heap.size ≤ x := hT; have hx' : x < w.heap.size := hx; omega)
    clear q2' hcl hD2 hK2 hb3
    go_wp2
    go_ret
    exact ⟨rfl, by rw [HR.out]; exact hD3, hK3⟩
  · have HR : Hid (orE st (suchP pathB t) = st) := by
      rw [hid_iff, suchP, hb, if_pos rfl, orE_ok]
    rw [hb] at hc
    clear hb
    go_enter Try.func26, Try.ntmps26
    go_wp2_with (go_at_call 27; refine (hc _).mono ?_; rintro e w1 ⟨n, rfl, rfl⟩)
    refine (hcl _).mono ?_
    rintro e w3 ⟨rfl, hb3⟩
    have hD3 : DIs w3 rb m tv st := DIs.below (w := (w.drewN n)) (h.drewN n) hb3 h.lt
    have hK3 : Kept (fun k => k = rb) w w3 := ⟨hb3.os, hb3.tape, hb3.output, hb3.size, fun k hk _ => hb3.block k hk⟩
    clear q1 q2 hcl hb3 hc
    go_wp2
    go_ret
    exact ⟨rfl, by rw [HR.out]; exact hD3, hK3⟩
end Go.Proofs.Ytchfhkfepghfjaa

namespace Go.Proofs.Ytchfhkfepghfjaa
open Go.RowKit

theorem zeros_length (z : List Value) : ∀ n, (zeros z n).length = n * z.length
  | 0 => by simp [zeros]
  | n + 1 => by
    rw [zeros_succ, List.length_append, zeros_length z n, Nat.add_mul, Nat.one_mul, Nat.add_comm]
theorem zeros_get (z : List Value) (hz : 0 < z.length) : ∀ (n j : Nat), j < n * z.length → (zeros z n)[j]? = z[j % z.length]?
  | 0, j, h => by simp at h
  | n + 1, j, h => by
    rw [zeros_succ]
    rcases Nat.lt_or_ge j z.length with hj | hj
    · rw [List.getElem?_append_left hj, Nat.mod_eq_of_lt hj]
    · rw [List.getElem?_append_right hj, zeros_get z hz n (j - z.length) (by rw [Nat.add_mul, Nat.one_mul] at h; omega), Nat.mod_eq_sub_mod hj]
theorem made_zeros (z : Array Value) (hz : 0 < z.size) (n : Nat) : madeCells z (n * z.size) = (zeros z.toList n).toArray := by
  have hl : (zeros z.toList n).length = n * z.size := by rw [zeros_length, Array.length_toList]
  apply Array.ext'
  apply List.ext_getElem?
  intro j
  simp only [madeCells]
  by_cases hj : j < n * z.size
  · rw [zeros_get z.toList (by simpa using hz) n j (by simpa using hj)]
    simp [hj, Array.length_toList]
    have : j % z.size < z.size := Nat.mod_lt _ hz
    simp [this]
  · rw [List.getElem?_eq_none (l := (zeros z.toList n).toArray.toList) (by simp only [hl]; omega)]
    exact List.getElem?_eq_none (by simp; omega)
/-- 'make' of n. -/
theorem mk_run {t e : TypeId} {z : List Value} {bytes : Nat} (hz : 0 < z.length) (ht : Try.prog.underlying t = some (.slice e)) (h : (Try.prog.info? e).map (fun i => (i.zero.map (fun v => v.cells), i.size, i.bytes)) = some (some z.toArray, z.length, bytes)) (w : World) (n : Nat) (hn : n ≤ 20000) (hb : bytes ≤ 10000) :
    (Instr.makeSlice t (.int .i64 (n : Int)) (.int .i64 (n : Int))).run Try.prog w = .ok (.slice (some ⟨w.heap.size, 0, none⟩) n n) (w.alloc (.cells (zeros z n).toArray e)) := by
  obtain ⟨i, hi, h2⟩ := Option.map_eq_some_iff.1 h
  simp only [Prod.mk.injEq] at h2
  obtain ⟨v, hv, hc⟩ := Option.map_eq_some_iff.1 h2.1
  have hm : i.bytes * n ≤ 10000 * 20000 := Nat.mul_le_mul (by omega) hn
  have hr := run_make (P := Try.prog) w t e i v ht hi hv .i64 .i64 n n (by omega) (Int.le_refl _) (by
    have : ((i.bytes * n : Nat) : Int) ≤ 281474976710656 := by omega
    rwa [Int.natCast_mul] at this) (by omega)
  simp only [Int.toNat_natCast] at hr
  rw [hr, hc, h2.2.1]
  have := made_zeros z.toArray (by simpa using hz) n
  simp only [List.size_toArray] at this
  rw [this]
def strz : List Value := [.string (str [])]
def parz : List Value := [.string (str []), .string (str [])]
def casz : List Value := [.string (str []), .slice none 0 0]
theorem zinfo_S : (Try.prog.info? 9).map (fun i => (i.zero.map (fun v => v.cells), i.size, i.bytes)) = some (some strz.toArray, strz.length, 16) := by kernel_rfl
theorem zinfo_P : (Try.prog.info? 107).map (fun i => (i.zero.map (fun v => v.cells), i.size, i.bytes)) = some (some parz.toArray, parz.length, 32) := by kernel_rfl
theorem zinfo_C : (Try.prog.info? 130).map (fun i => (i.zero.map (fun v => v.cells), i.size, i.bytes)) = some (some casz.toArray, casz.length, 40) := by kernel_rfl
theorem zinfo_X : (Try.prog.info? 36).map (fun i => (i.zero.map (fun v => v.cells), i.size, i.bytes)) = some (some exz.toArray, exz.length, 152) := by kernel_rfl
theorem zinfo_A : (Try.prog.info? 84).map (fun i => (i.zero.map (fun v => v.cells), i.size, i.bytes)) = some (some arz.toArray, arz.length, 192) := by kernel_rfl
theorem mk_S (w : World) (n : Nat) (hn : n ≤ 20000) : (Instr.makeSlice 24 (.int .i64 (n : Int)) (.int .i64 (n : Int))).run Try.prog w = .ok (.slice (some ⟨w.heap.size, 0, none⟩) n n) (w.alloc (.cells (zeros strz n).toArray 9)) := mk_run (by decide) Try.underlying24 zinfo_S w n hn (by decide)
theorem mk_P (w : World) (n : Nat) (hn : n ≤ 20000) : (Instr.makeSlice 33 (.int .i64 (n : Int)) (.int .i64 (n : Int))).run Try.prog w = .ok (.slice (some ⟨w.heap.size, 0, none⟩) n n) (w.alloc (.cells (zeros parz n).toArray 107)) := mk_run (by decide) Try.underlying33 zinfo_P w n hn (by decide)
theorem mk_C (w : World) (n : Nat) (hn : n ≤ 20000) : (Instr.makeSlice 110 (.int .i64 (n : Int)) (.int .i64 (n : Int))).run Try.prog w = .ok (.slice (some ⟨w.heap.size, 0, none⟩) n n) (w.alloc (.cells (zeros casz n).toArray 130)) := mk_run (by decide) Try.underlying110 zinfo_C w n hn (by decide)
theorem mk_X (w : World) (n : Nat) (hn : n ≤ 20000) : (Instr.makeSlice 32 (.int .i64 (n : Int)) (.int .i64 (n : Int))).run Try.prog w = .ok (.slice (some ⟨w.heap.size, 0, none⟩) n n) (w.alloc (.cells (zeros exz n).toArray 36)) := mk_run (by decide) Try.underlying32 zinfo_X w n hn (by decide)
theorem mk_A (w : World) (n : Nat) (hn : n ≤ 20000) : (Instr.makeSlice 34 (.int .i64 (n : Int)) (.int .i64 (n : Int))).run Try.prog w = .ok (.slice (some ⟨w.heap.size, 0, none⟩) n n) (w.alloc (.cells (zeros arz n).toArray 84)) := mk_run (by decide) Try.underlying34 zinfo_A w n hn (by decide)
theorem at_new (w : World) (xs : List Value) (T : Nat) : At (w.alloc (.cells xs.toArray T)) w.heap.size [] xs [] T := by
  unfold At
  rw [List.nil_append, List.append_nil]
  exact heap_alloc_new w _
end Go.Proofs.Ytchfhkfepghfjaa

namespace Go.Proofs.Ytchfhkfepghfjaa
open Go.RowKit

theorem orE_snoc {α : Type} (st : Option (Nat × Nat)) (x : PR α) : ∀ l : List (PR α), orE st (seqP (l ++ [x])) = orE (orE st (seqP l)) x
  | [] => by cases st <;> cases x <;> rfl
  | .error e :: l => by cases st <;> cases x <;> rfl
  | .ok y :: l => by
    have ih := orE_snoc st x l
    have e1 : ∀ k : List (PR α), orE st (seqP (.ok y :: k)) = orE st (seqP k) := by
      intro k
      simp only [seqP]
      cases seqP k <;> cases st <;> rfl
    rw [List.cons_append, e1, e1, ih]
theorem seqP_err {α : Type} : ∀ {l : List (PR α)} {e : Nat × Nat}, seqP l = .error e → .error e ∈ l
  | [], e, h => by cases h
  | .error x :: l, e, h => by cases h; exact List.mem_cons_self ..
  | .ok y :: l, e, h => by
    simp only [seqP] at h
    cases h2 : seqP l with
    | error e' =>
      rw [h2] at h
      cases h
      exact List.mem_cons_of_mem _ (seqP_err h2)
    | ok xs => rw [h2] at h; cases h
theorem sw_seq {α β : Type} {st : Option (Nat × Nat)} {l : List β} {f : β → PR α} (h : Sw st) (hf : ∀ x e, f x = .error e → e.1 ≠ 0) : Sw (orE st (seqP (l.map f))) := by
  refine sw_orE h (fun e he => ?_)
  obtain ⟨x, _, hx⟩ := List.mem_map.1 (seqP_err he)
  exact hf x e hx
theorem suchs_ok {f : List UInt8 → Bool} : ∀ {l : List Tr} {xs : List (List UInt8)}, seqP (l.map (suchP f)) = .ok xs → xs = l.map (·.text)
  | [], xs, h => by cases h; rfl
  | t :: l, xs, h => by
    simp only [List.map_cons] at h
    cases ht : suchP f t with
    | error e => rw [ht] at h; cases h
    | ok x =>
      rw [ht] at h
      simp only [seqP] at h
      cases h2 : seqP (l.map (suchP f)) with
      | error e => rw [h2] at h; cases h
      | ok ys =>
        rw [h2] at h
        cases h
        have : x = t.text := by
          unfold suchP at ht
          split at ht
          · cases ht; rfl
          · cases ht
        rw [this, suchs_ok h2]
        rfl
def txts (l : List Tr) : List Value := l.map (fun t => .string (str t.text))
theorem DIs.new {w : World} {rb : Nat} {m : List UInt8} {tv : Value} {st : Option (Nat × Nat)} (h : DIs w rb m tv st) (o : Obj) : DIs (w.alloc o) rb m tv st := (Below.heap_alloc _ _ _ h.lt).trans h
theorem Kept.rb_frame {F : Nat → Prop} {rb : Nat} {w w' : World} (h : Kept (fun k => k = rb) w w') (hF : ∀ b, F b → b < rb) (hr : rb < w.heap.size) : ∀ b, F b → w'.heap[b]? = w.heap[b]? := fun b hb => h.block b (by have := hF b hb; omega) (by have := hF b hb; omega)
theorem At.kept {S : Nat → Prop} {u v : World} {d : Nat} {pre xs post : List Value} {T : Nat} (h : At u d pre xs post T) (k : Kept S u v) (hS : ¬ S d) : At v d pre xs post T := (k.block d h.lt hS).trans h
theorem at_step {u : World} {g : Nat} {a z b : List Value} {T : Nat} (h : At u g a (z ++ b) [] T) : At u g a z b T := by
  unfold At at h ⊢
  rw [h, List.append_nil, List.append_assoc]
theorem at_done {u : World} {g : Nat} {a z b : List Value} {T : Nat} (h : At u g a z b T) : At u g (a ++ z) b [] T := by
  unfold At at h ⊢
  rw [h, List.append_nil]
def NamesQ (m : List UInt8) (tv : Value) (rb : Nat) (st : Option (Nat × Nat)) (l : List Tr) (w : World) (e : Ending) (w' : World) : Prop :=
  e = .returned (.slice (some ⟨w.heap.size, 0, none⟩) l.length l.length) ∧ At w' w.heap.size [] (txts l) [] 9 ∧ DIs w' rb m tv st ∧ Kept (fun k => k = rb) w w'
set_option maxHeartbeats 2000000 in
set_option maxRecDepth 1000000 in
theorem readNames_Nam (F : Nat → Prop) (v : Value) (l : List Tr) (w : World) (rb : Nat) (m : List UInt8) (tv : Value) (st : Option (Nat × Nat)) (h : DIs w rb m tv st) (hs : Sw st) (hS : SL F w v l) (hF : ∀ b, F b → b < rb) (hl : l.length ≤ 20000) (htx : ∀ t ∈ l, t.text.length ≤ 8192) :
    Calls Try.prog 28 #[.pointer (some ⟨rb, 0, none⟩), v, .func (.func 52) #[] #[]] w (NamesQ m tv rb (orE st (seqP (l.map (suchP nameR)))) l w) := by
  obtain ⟨a, c, rfl⟩ := hS.shape
  have hrb := h.lt
  have hmk := mk_S w l.length hl
  have hA0 : At (w.alloc (.cells (zeros strz l.length).toArray 9)) w.heap.size [] (zeros strz l.length) [] 9 := at_new w _ _
  have hD0 : DIs (w.alloc (.cells (zeros strz l.length).toArray 9)) rb m tv (orE st (seqP (([] : List Tr).map (suchP nameR)))) := by
    have := h.new (.cells (zeros strz l.length).toArray 9)
    rwa [List.map_nil, show (seqP ([] : List (PR (List UInt8)))) = .ok [] from rfl, orE_ok]
  have hK0 : Kept (fun k => k = rb) w (w.alloc (.cells (zeros strz l.length).toArray 9)) := (Kept.refl _ w).alloc _
  generalize w.alloc (.cells (zeros strz l.length).toArray 9) = w0 at *
  go_enter Try.func28, Try.ntmps28
  go_wp2
  clear hmk
  go_loopg [14] l.length (fun n i wr => ∃ k : Nat, k + n = l.length ∧ i = .int .i64 (k : Int) ∧ At wr w.heap.size (txts (l.take k)) (zeros strz (l.length - k)) [] 9 ∧ DIs wr rb m tv (orE st (seqP ((l.take k).map (suchP nameR)))) ∧ Kept (fun k => k = rb) w wr)
  case atStart => exact ⟨0, by omega, rfl, hA0, hD0, hK0⟩
  case round =>
    clear hA0 hD0 hK0
    obtain ⟨k, hk, rfl, hA, hD, hK⟩ := hrel
    by_cases hlt : k < l.length
    · have hS' := hS.frame (hK.rb_frame hF hrb)
      rcases hS' with ⟨a', c', e1, e2⟩ | ⟨g, o, cap, e1, hg, hP⟩
      · subst e2
        simp at hlt
      simp only [Value.slice.injEq, true_and] at e1
      obtain ⟨rfl, rfl⟩ := e1
      have hrd := readName_Nam F l[k] g (o + k * 4) wr rb m tv _ hD (sw_seq hs (fun x e he => suchP_err he)) (hP k hlt) hF (htx _ (List.getElem_mem hlt))
      have hz : l.length - k = (l.length - (k + 1)) + 1 := by omega
      rw [hz, zeros_succ] at hA
      have hA1 := at_step hA
      have hpl : (txts (l.take k)).length = k := by simp [txts]; omega
      have hgl := hA1.lt
      have hne : ¬ w.heap.size = rb := by omega
      have HT : Hid (l.take (k + 1) = l.take k ++ [l[k]]) := List.take_succ_eq_append_getElem hlt
      generalize l[k] = t at *
      have hlt' : (k : Int) < (l.length : Int) := by omega
      clear hP hA hD hS
      go_wp2_with fail
      refine hrd.mono ?_
      rintro e w1 ⟨rfl, hD1, hK1⟩
      have hA2 := hA1.kept hK1 hne
      have c0 := hA2.cell (j := 0) (v := .string (str [])) rfl
      have f0 := hA2.frozen k
      have hA3 := at_done (hA2.set 0 (by decide) (.string (str t.text)))
      rw [hpl, Nat.add_zero] at c0 hA3
      have hA4 : At (w1.setCell ⟨w.heap.size, k, none⟩ (.string (str t.text))) w.heap.size (txts (l.take (k + 1))) (zeros strz (l.length - (k + 1))) [] 9 := by
        rw [HT.out]
        unfold txts at hA3 ⊢
        rw [List.map_append]
        exact hA3
      have hD4 : DIs (w1.setCell ⟨w.heap.size, k, none⟩ (.string (str t.text))) rb m tv (orE st (seqP ((l.take (k + 1)).map (suchP nameR)))) := by
        rw [HT.out, List.map_append, List.map_cons, List.map_nil, orE_snoc]
        exact hD1.kept ((Kept.refl (fun b => b = w.heap.size) w1).setCell (p := ⟨w.heap.size, k, none⟩) (fun _ => rfl) _) (fun e => hne e.symm)
      have hK4 : Kept (fun k => k = rb) w (w1.setCell ⟨w.heap.size, k, none⟩ (.string (str t.text))) := (hK.trans hK1 (fun _ _ h => h) (fun _ _ h => h)).setCell (p := ⟨w.heap.size, k, none⟩) (fun h => absurd h (Nat.lt_irrefl _)) _
      clear hA1 hA2 hA3 hD1 hK1 hK hrd HT
      go_wp2
      go_roundg (l.length - (k + 1))
      case measure => omega
      case rel => exact ⟨k + 1, by omega, by simp, hA4, hD4, hK4⟩
    · have hlt' : ¬ (k : Int) < (l.length : Int) := by omega
      have hA5 : At wr w.heap.size [] (txts l) [] 9 := by
        rw [List.take_of_length_le (by omega), show l.length - k = 0 from by omega] at hA
        unfold At at hA ⊢
        rw [hA]
        simp [zeros]
      rw [List.take_of_length_le (by omega)] at hD
      clear hA hS
      go_wp2
      go_ret
      exact ⟨rfl, hA5, hD, hK⟩
set_option maxHeartbeats 2000000 in
set_option maxRecDepth 1000000 in
theorem readNames_Bind (F : Nat → Prop) (v : Value) (l : List Tr) (w : World) (rb : Nat) (m : List UInt8) (tv : Value) (st : Option (Nat × Nat)) (h : DIs w rb m tv st) (hs : Sw st) (hS : SL F w v l) (hF : ∀ b, F b → b < rb) (hl : l.length ≤ 20000) (htx : ∀ t ∈ l, t.text.length ≤ 8192) :
    Calls Try.prog 28 #[.pointer (some ⟨rb, 0, none⟩), v, .func (.func 29) #[] #[]] w (NamesQ m tv rb (orE st (seqP (l.map (suchP bindR)))) l w) := by
  obtain ⟨a, c, rfl⟩ := hS.shape
  have hrb := h.lt
  have hmk := mk_S w l.length hl
  have hA0 : At (w.alloc (.cells (zeros strz l.length).toArray 9)) w.heap.size [] (zeros strz l.length) [] 9 := at_new w _ _
  have hD0 : DIs (w.alloc (.cells (zeros strz l.length).toArray 9)) rb m tv (orE st (seqP (([] : List Tr).map (suchP bindR)))) := by
    have := h.new (.cells (zeros strz l.length).toArray 9)
    rwa [List.map_nil, show (seqP ([] : List (PR (List UInt8)))) = .ok [] from rfl, orE_ok]
  have hK0 : Kept (fun k => k = rb) w (w.alloc (.cells (zeros strz l.length).toArray 9)) := (Kept.refl _ w).alloc _
  generalize w.alloc (.cells (zeros strz l.length).toArray 9) = w0 at *
  go_enter Try.func28, Try.ntmps28
  go_wp2
  clear hmk
  go_loopg [14] l.length (fun n i wr => ∃ k : Nat, k + n = l.length ∧ i = .int .i64 (k : Int) ∧ At wr w.heap.size (txts (l.take k)) (zeros strz (l.length - k)) [] 9 ∧ DIs wr rb m tv (orE st (seqP ((l.take k).map (suchP bindR)))) ∧ Kept (fun k => k = rb) w wr)
  case atStart => exact ⟨0, by omega, rfl, hA0, hD0, hK0⟩
  case round =>
    clear hA0 hD0 hK0
    obtain ⟨k, hk, rfl, hA, hD, hK⟩ := hrel
    by_cases hlt : k < l.length
    · have hS' := hS.frame (hK.rb_frame hF hrb)
      rcases hS' with ⟨a', c', e1, e2⟩ | ⟨g, o, cap, e1, hg, hP⟩
      · subst e2
        simp at hlt
      simp only [Value.slice.injEq, true_and] at e1
      obtain ⟨rfl, rfl⟩ := e1
      have hrd := readName_Bind F l[k] g (o + k * 4) wr rb m tv _ hD (sw_seq hs (fun x e he => suchP_err he)) (hP k hlt) hF (htx _ (List.getElem_mem hlt))
      have hz : l.length - k = (l.length - (k + 1)) + 1 := by omega
      rw [hz, zeros_succ] at hA
      have hA1 := at_step hA
      have hpl : (txts (l.take k)).length = k := by simp [txts]; omega
      have hgl := hA1.lt
      have hne : ¬ w.heap.size = rb := by omega
      have HT : Hid (l.take (k + 1) = l.take k ++ [l[k]]) := List.take_succ_eq_append_getElem hlt
      generalize l[k] = t at *
      have hlt' : (k : Int) < (l.length : Int) := by omega
      clear hP hA hD hS
      go_wp2_with fail
      refine hrd.mono ?_
      rintro e w1 ⟨rfl, hD1, hK1⟩
      have hA2 := hA1.kept hK1 hne
      have c0 := hA2.cell (j := 0) (v := .string (str [])) rfl
      have f0 := hA2.frozen k
      have hA3 := at_done (hA2.set 0 (by decide) (.string (str t.text)))
      rw [hpl, Nat.add_zero] at c0 hA3
      have hA4 : At (w1.setCell ⟨w.heap.size, k, none⟩ (.string (str t.text))) w.heap.size (txts (l.take (k + 1))) (zeros strz (l.length - (k + 1))) [] 9 := by
        rw [HT.out]
        unfold txts at hA3 ⊢
        rw [List.map_append]
        exact hA3
      have hD4 : DIs (w1.setCell ⟨w.heap.size, k, none⟩ (.string (str t.text))) rb m tv (orE st (seqP ((l.take (k + 1)).map (suchP bindR)))) := by
        rw [HT.out, List.map_append, List.map_cons, List.map_nil, orE_snoc]
        exact hD1.kept ((Kept.refl (fun b => b = w.heap.size) w1).setCell (p := ⟨w.heap.size, k, none⟩) (fun _ => rfl) _) (fun e => hne e.symm)
      have hK4 : Kept (fun k => k = rb) w (w1.setCell ⟨w.heap.size, k, none⟩ (.string (str t.text))) := (hK.trans hK1 (fun _ _ h => h) (fun _ _ h => h)).setCell (p := ⟨w.heap.size, k, none⟩) (fun h => absurd h (Nat.lt_irrefl _)) _
      clear hA1 hA2 hA3 hD1 hK1 hK hrd HT
      go_wp2
      go_roundg (l.length - (k + 1))
      case measure => omega
      case rel => exact ⟨k + 1, by omega, by simp, hA4, hD4, hK4⟩
    · have hlt' : ¬ (k : Int) < (l.length : Int) := by omega
      have hA5 : At wr w.heap.size [] (txts l) [] 9 := by
        rw [List.take_of_length_le (by omega), show l.length - k = 0 from by omega] at hA
        unfold At at hA ⊢
        rw [hA]
        simp [zeros]
      rw [List.take_of_length_le (by omega)] at hD
      clear hA hS
      go_wp2
      go_ret
      exact ⟨rfl, hA5, hD, hK⟩
end Go.Proofs.Ytchfhkfepghfjaa

namespace Go.Proofs.Ytchfhkfepghfjaa
open Go.RowKit

theorem seqE_err : ∀ {l : List RR} {e : Nat × Nat}, seqE l = .error e → .error e ∈ l
  | [], e, h => by cases h
  | .error x :: l, e, h => by cases h; exact List.mem_cons_self ..
  | .ok y :: l, e, h => by
    simp only [seqE] at h
    cases h2 : seqE l with
    | error e' =>
      rw [h2] at h
      cases h
      exact List.mem_cons_of_mem _ (seqE_err h2)
    | ok xs => rw [h2] at h; cases h
theorem readR_err {m : List UInt8} {t : Tr} {e : Nat × Nat} (h : readR m t = .error e) : e.1 ≠ 0 := by
  have key : ∀ (N : Nat) (t : Tr), nodes t ≤ N → ∀ e, readR m t = .error e → e.1 ≠ 0 := by
    intro N
    induction N with
    | zero => intro t h; have := nodes_eq t; omega
    | succ N ih =>
      intro t hN e h
      rw [readR_eq] at h
      cases hs : seqE ((partsT t).map (readR m)) with
      | error e' =>
        rw [hs] at h
        cases h
        obtain ⟨p, hp, hpe⟩ := List.mem_map.1 (seqE_err hs)
        have h1 := mem_nodes hp
        have h2 := parts_nodes t
        exact ih p (by omega) _ hpe
      | ok ys =>
        rw [hs] at h
        simp only [fin] at h
        cases hm : madeR m t ys with
        | error y =>
          rw [hm] at h
          cases h
          rcases madeR_err hm with rfl | rfl | rfl <;> exact Nat.succ_ne_zero _
        | ok x => rw [hm] at h; cases h
  exact key _ t (Nat.le_refl _) e h
def TypeQ (m : List UInt8) (tv : Value) (rb : Nat) (st : Option (Nat × Nat)) (r : RR) (w : World) (e : Ending) (w' : World) : Prop :=
  ∃ x, e = .returned (.string (str x)) ∧ (∀ y, r = .ok y → x = y) ∧ DIs w' rb m tv (orE st r) ∧ Kept (fun k => k = rb) w w'
theorem kept_below {rb : Nat} {w w1 w2 : World} (h : Below w.heap.size w w1) (k : Kept (fun b => b = rb) w1 w2) : Kept (fun b => b = rb) w w2 :=
  ⟨k.os.trans h.os, k.tape.trans h.tape, k.output.trans h.output, Nat.le_trans h.size k.size, fun i hi hn => (k.block i (Nat.lt_of_lt_of_le hi h.size) hn).trans (h.block i hi)⟩
theorem kept_of {rb : Nat} {w w1 : World} (h : Below w.heap.size w w1) : Kept (fun b => b = rb) w w1 := ⟨h.os, h.tape, h.output, h.size, fun i hi _ => h.block i hi⟩
theorem readE_at {F : Nat → Prop} {t : Tr} {g o : Nat} {w : World} {m : List UInt8} (hF : ∀ b, F b → b < w.heap.size) (hT : PT F w g o t) (htx : TxOk t) (hnd : nodes t ≤ 20000) (hm : m.length ≤ 8192) : ∃ kv, w.cell? ⟨g, o, none⟩ = some (.int .i64 (t.kind : Int)) ∧ w.cell? ⟨g, o + 1, none⟩ = some (.int .i64 (t.place : Int)) ∧ w.cell? ⟨g, o + 2, none⟩ = some (.string (str t.text)) ∧ w.cell? ⟨g, o + 3, none⟩ = some kv ∧
    ∀ u, Below w.heap.size w u → Calls Try.prog 50 #[.agg #[.int .i64 (t.kind : Int), .int .i64 (t.place : Int), .string (str t.text), kv], .string (str m)] u (ReadE (readR m t) u) := by
  obtain ⟨hFg, kv, hTT, q0, q1, q2, q3⟩ := hT
  exact ⟨kv, q0, q1, q2, q3, fun u hu => read F t kv m u (fun b hb => Nat.lt_of_lt_of_le (hF b hb) hu.size) (hTT.below hu hF) htx hnd (by omega)⟩
set_option maxHeartbeats 2000000 in
set_option maxRecDepth 1000000 in
theorem readType (F : Nat → Prop) (t : Tr) (g o : Nat) (w : World) (rb : Nat) (m : List UInt8) (tv : Value) (st : Option (Nat × Nat)) (h : DIs w rb m tv st) (hs : Sw st) (hT : PT F w g o t) (hF : ∀ b, F b → b < rb) (htx : TxOk t) (hnd : nodes t ≤ 20000) (hm : m.length ≤ 8192) :
    Calls Try.prog 34 #[.pointer (some ⟨rb, 0, none⟩), .pointer (some ⟨g, o, none⟩)] w (TypeQ m tv rb st (readR m t) w) := by
  have hrb := h.lt
  obtain ⟨kv, q0, q1, q2, q3, hrd⟩ := readE_at (m := m) (fun b hb => Nat.lt_trans (hF b hb) hrb) hT htx hnd hm
  obtain ⟨m0, m1, m2, m3, fz⟩ := h.cells
  cases hr : readR m t with
  | ok y =>
    have HR : Hid (orE st (readR m t) = st) := by rw [hid_iff, hr, orE_ok]
    have HX : Hid (∀ y', readR m t = .ok y' → y = y') := by rw [hid_iff, hr]; intro y' e; cases e; rfl
    rw [hr] at hrd HR HX
    clear hT htx hnd fz m1 m2 m3 hr
    unfold ReadE at hrd
    go_enter Try.func34, Try.ntmps34
    go_wp2_with fail
    go_region_with (first
      | (go_at_call 50; refine (hrd _ (below_drewN (Below.refl _ _) _)).mono ?_; rintro e w3 ⟨rfl, hb3⟩))
    all_goals (
      have hb4 : Below w.heap.size w w3 := below_trans (below_drewN (Below.refl _ _) _) hb3
      have hD := h.below hb4 hrb
      clear hrd q0 q1 q2 q3 m0 hb3
      go_wp2
      go_ret
      exact ⟨y, rfl, HX.out, by rw [HR.out]; exact hD, kept_of hb4⟩)
  | error e0 =>
    obtain ⟨y, b⟩ := e0
    have HX : Hid (∀ y', (.error (y, b) : RR) = .ok y' → ([] : List UInt8) = y') := by rw [hid_iff]; intro y' e; cases e
    have hy := readR_err hr
    have hy' : ((y : Int) != 0) = true := by simp; exact hy
    rw [hr] at hrd
    have hrf := fun (u : World) (hu : DIs u rb m tv st) => refuse u rb m tv st y b hu hs
    have HR : Hid (orE st (.error (y, b) : PR Unit) = orE st (.error (y, b) : RR)) := by rw [hid_iff]; cases st <;> rfl
    clear hT htx hnd fz m1 m2 m3 hy hr
    unfold ReadE at hrd
    go_enter Try.func34, Try.ntmps34
    go_wp2_with fail
    go_region_with (first
      | (go_at_call 50; refine (hrd _ (below_drewN (Below.refl _ _) _)).mono ?_; rintro e w3 ⟨rfl, hb3⟩))
    all_goals (
      have hb4 : Below w.heap.size w w3 := below_trans (below_drewN (Below.refl _ _) _) hb3
      have hD := h.below hb4 hrb
      clear hrd q0 q1 q2 q3 m0 hb3
      go_wp2_with fail
      refine (hrf _ hD).mono ?_
      rintro e w4 ⟨rfl, hD4, hK4⟩
      have hK5 := kept_below hb4 hK4
      rw [HR.out] at hD4
      clear hrf hD hK4
      go_wp2
      go_ret
      exact ⟨[], rfl, HX.out, hD4, hK5⟩)
end Go.Proofs.Ytchfhkfepghfjaa
