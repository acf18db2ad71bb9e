/-
  The Reader's methods: what each call does.
  And: Bytes as a text. The Reader's other methods. 'known', the law's own run of the chapter's examples: it answers true.
-/
import Derived.Test.YtfjppbpicmniaaaGreatDoorG15
import Derived.Deep.QuietTactic
import Derived.BigQuiet
import Derived.Laws.DeepNot64
namespace Go.Proofs.YtfjppbpicmniaaaGreatDoor.Wire
open Go.RowKit

/-- A Reader in block b over the bytes l (in block g), at place p, refused with why (0: not). -/
def RIs (w : World) (b g : Nat) (l : List Nat) (p why : Nat) : Prop := ∃ v, Box w b #[v, .int .i64 p, .int .i64 why] ∧ Row w g v l ∧ v.ownBlock ≠ some b ∧ g < w.heap.size

theorem RIs.kept {S : Nat → Prop} {w w' : World} {b g : Nat} {l : List Nat} {p why : Nat} (h : RIs w b g l p why) (k : Kept S w w') (hb : ¬ S b) (hg : ¬ S g) : RIs w' b g l p why := by
  obtain ⟨v, h1, h2, h3, h4⟩ := h
  exact ⟨v, h1.kept k hb, h2.kept k (fun _ => hg), h3, Nat.lt_of_lt_of_le h4 k.size⟩
theorem RIs.gt {w : World} {b g : Nat} {l : List Nat} {p why : Nat} (h : RIs w b g l p why) : g < w.heap.size := by
  obtain ⟨v, _, _, _, h1⟩ := h
  exact h1
theorem RIs.lt {w : World} {b g : Nat} {l : List Nat} {p why : Nat} (h : RIs w b g l p why) : b < w.heap.size := by
  obtain ⟨v, h1, _⟩ := h
  exact h1.lt
theorem Row.set {w : World} {b g : Nat} {v : Value} {l : List Nat} (h : Row w g v l) (hb : v.ownBlock ≠ some b) (o : Nat) (u : Value) : Row (w.setCell ⟨b, o, none⟩ u) g v l :=
  h.kept (S := fun k => k = b) ((Kept.refl (fun k => k = b) w).setCell (p := ⟨b, o, none⟩) (fun _ => rfl) u) (fun e h => by subst h; exact hb e)
theorem kept_set (w : World) (b o : Nat) (u : Value) : Kept (fun k => k = b) w (w.setCell ⟨b, o, none⟩ u) := (Kept.refl (fun k => k = b) w).setCell (p := ⟨b, o, none⟩) (fun _ => rfl) u
theorem ret_int {k : IntKind} {a b : Int} (h : a = b) : Ending.returned (.int k a) = .returned (.int k b) := by rw [h]
theorem kept_drewN (w : World) (n : Nat) : Kept (fun _ => False) w (w.drewN n) := ⟨rfl, rfl, rfl, Nat.le_refl _, fun _ _ _ => rfl⟩

theorem newreader (v : Value) (b0 : Nat) (l : List Nat) (w : World) (hl : l.length ≤ 140737488355328) (hv : Rd w b0 v l) :
    Calls Tryz.prog 56 #[v] w fun e w' => ∃ b g, e = .returned (.pointer (some ⟨b, 0, none⟩)) ∧ RIs w' b g l 0 0 ∧ w.heap.size ≤ b ∧ w.heap.size ≤ g ∧ Kept (fun _ => False) w w' := by
  go_enter Tryz.func56, Tryz.ntmps56
  go_wp2_with fail
  refine (clone v b0 l _ hl hv).mono ?_
  rintro e w1 ⟨v', g', rfl, h1, h2, h3⟩
  have hs := h3.size
  have hne : v'.ownBlock ≠ some w1.heap.size := by
    intro e
    have := h1.lt e
    omega
  have hg : ∃ g, Row w1 g v' l ∧ w.heap.size ≤ g ∧ g < w1.heap.size + 1 := by
    rcases h1.shape with ⟨rfl, rfl⟩ | ⟨cap, rfl, _⟩
    · exact ⟨w1.heap.size, Row.nil _ _, hs, by omega⟩
    · have := h1.lt (k := g') rfl
      exact ⟨g', h1, h2, by omega⟩
  obtain ⟨g, k1, k2, k3⟩ := hg
  obtain ⟨a', c', rfl⟩ := h1.rd.shape
  go_wp2
  go_ret
  exact ⟨w1.heap.size, g, rfl, ⟨_, ⟨_, heap_alloc_new w1 _⟩, k1.alloc _, hne, by simpa using k3⟩, hs, k2, h3.alloc _⟩

set_option maxHeartbeats 400000 in
theorem rfail (y : Nat) (b g : Nat) (l : List Nat) (p why : Nat) (w : World) (hr : RIs w b g l p why) :
    Calls Tryz.prog 209 #[.pointer (some ⟨b, 0, none⟩), .int .i64 y] w fun e w' => e = .returned (.tuple #[]) ∧ RIs w' b g l p (if why = 0 then y else why) ∧ Kept (fun k => k = b) w w' := by
  obtain ⟨v, hb, hv, hvb, hgs⟩ := hr
  have hc2 := hb.cell 2
  have hf2 := hb.frozen 2
  simp only [List.getElem?_toArray, List.getElem?_cons_succ, List.getElem?_cons_zero] at hc2
  by_cases h0 : why = 0
  · subst h0
    go_enter Tryz.func209, Tryz.ntmps209
    go_wp2
    go_end0
    exact ⟨rfl, ⟨v, hb.set 2 _, hv.set hvb 2 _, hvb, set_size hgs _ _⟩, kept_set w b 2 _⟩
  · go_enter Tryz.func209, Tryz.ntmps209
    go_wp2
    go_end0
    exact ⟨rfl, ⟨v, hb, hv, hvb, hgs⟩, Kept.refl _ _⟩

/-- What End tells. -/
def rEnd (l : List Nat) (p why : Nat) : Nat × Nat := if why ≠ 0 then (why, p) else if p < l.length then (11, p) else (0, 0)

set_option maxHeartbeats 400000 in
theorem rend (b g : Nat) (l : List Nat) (p why : Nat) (w : World) (_hl : l.length ≤ 140737488355328) (hr : RIs w b g l p why) :
    Calls Tryz.prog 58 #[.pointer (some ⟨b, 0, none⟩)] w fun e w' => e = .returned (.tuple #[.int .i64 (rEnd l p why).1, .int .i64 (rEnd l p why).2]) ∧ Kept (fun _ => False) w w' := by
  obtain ⟨v, hb, hv, hvb, hgs⟩ := hr
  have hc0 := hb.cell 0
  have hc1 := hb.cell 1
  have hc2 := hb.cell 2
  simp only [List.getElem?_toArray, List.getElem?_cons_succ, List.getElem?_cons_zero] at hc0 hc1 hc2
  obtain ⟨a, c, rfl⟩ := hv.rd.shape
  by_cases h0 : why = 0
  · subst h0
    by_cases h1 : p < l.length
    · have HE : Hid (rEnd l p 0 = (11, p)) := by simp [Hid, rEnd, h1]
      go_enter Tryz.func58, Tryz.ntmps58
      go_wp2
      go_quiet (fail)
      go_wp2
      go_quiet (fail)
      go_wp2
      go_ret2
      rw [HE.out]
      exact ⟨rfl, ((kept_drewN _ _).trans (kept_drewN _ _) (fun _ _ h => h) (fun _ _ h => h))⟩
    · have HE : Hid (rEnd l p 0 = (0, 0)) := by simp [Hid, rEnd, h1]
      go_enter Tryz.func58, Tryz.ntmps58
      go_wp2
      go_quiet (fail)
      go_wp2
      go_ret2
      rw [HE.out]
      exact ⟨rfl, kept_drewN _ _⟩
  · have HE : Hid (rEnd l p why = (why, p)) := by simp [Hid, rEnd, h0]
    go_enter Tryz.func58, Tryz.ntmps58
    go_wp2
    go_quiet (fail)
    go_wp2
    go_ret2
    rw [HE.out]
    exact ⟨rfl, kept_drewN _ _⟩

set_option maxHeartbeats 400000 in
theorem rshort (b g : Nat) (l : List Nat) (p : Nat) (w : World) (_hl : l.length ≤ 140737488355328) (hr : RIs w b g l p 0) :
    Calls Tryz.prog 207 #[.pointer (some ⟨b, 0, none⟩)] w fun e w' => e = .returned (.tuple #[]) ∧ RIs w' b g l l.length 10 ∧ Kept (fun k => k = b) w w' := by
  obtain ⟨v, hb, hv, hvb, hgs⟩ := hr
  have hc0 := hb.cell 0
  have hc1 := hb.cell 1
  have hf1 := hb.frozen 1
  simp only [List.getElem?_toArray, List.getElem?_cons_succ, List.getElem?_cons_zero] at hc0 hc1
  obtain ⟨a, c, rfl⟩ := hv.rd.shape
  go_enter Tryz.func207, Tryz.ntmps207
  go_wp2_with fail
  have hr1 : RIs (w.setCell ⟨b, 1, none⟩ (.int .i64 l.length)) b g l l.length 0 := ⟨_, hb.set 1 _, hv.set hvb 1 _, hvb, set_size hgs _ _⟩
  refine (rfail 10 b g l l.length 0 _ hr1).mono ?_
  rintro e w' ⟨rfl, h1, h2⟩
  go_wp2
  go_end0
  exact ⟨rfl, h1, (kept_set w b 1 _).trans h2 (fun _ _ h => h) (fun _ _ h => h)⟩

/-- What Number answers, and where the Reader stands then, and why. -/
def rNum (l : List Nat) (p why most : Nat) : Nat × Nat × Nat :=
  if why ≠ 0 then (0, p, why) else
  if (dec (l.drop p) 0 0).2.2 = 10 then (0, l.length, 10) else
  if (dec (l.drop p) 0 0).2.2 ≠ 0 then (0, p, (dec (l.drop p) 0 0).2.2) else
  if most < (dec (l.drop p) 0 0).1 then (0, p, 3) else ((dec (l.drop p) 0 0).1, p + (dec (l.drop p) 0 0).2.1, 0)

/-- The slice that Number hands on. -/
theorem rn_slice {w : World} {g : Nat} {v : Value} {l : List Nat} (p : Nat) (hp : p ≤ l.length) (hv : Row w g v l) :
    ∃ ao cap', Sl w (.slice ao (l.length - p) cap') (l.drop p) ∧ (v = .slice none 0 0 → ao = none ∧ cap' = 0) ∧ ∀ cap, v = .slice (some ⟨g, 0, none⟩) l.length cap → ao = (if cap = p then some ⟨g, 0, none⟩ else some ⟨g, p, none⟩) ∧ cap' = cap - p := by
  rcases hv.shape with ⟨rfl, rfl⟩ | ⟨cap, rfl, hcap, _⟩
  · exact ⟨none, 0, .inl ⟨by simp, none, 0, by simp⟩, fun _ => ⟨rfl, rfl⟩, fun cap h => by simp at h⟩
  · refine ⟨if cap = p then some ⟨g, 0, none⟩ else some ⟨g, p, none⟩, cap - p, ?_, fun h => by simp at h, fun cap' h => by simp at h; subst h; exact ⟨rfl, rfl⟩⟩
    by_cases e : p = l.length
    · left
      refine ⟨by simp [e], _, cap - p, by rw [e, Nat.sub_self]⟩
    · right
      refine ⟨g, p, cap - p, by rw [if_neg (by omega), List.length_drop], fun j hj => ?_⟩
      simp only [List.length_drop] at hj
      rw [hv.cell (p + j) (by omega)]
      simp [List.getD, List.getElem?_drop]

set_option maxHeartbeats 800000 in
theorem rn_short (b g : Nat) (l : List Nat) (p most dn ds dw : Nat) (w : World) (hp : p ≤ l.length) (_hm : most < 18446744073709551616) (hnum : ∀ (v' : Value), Sl w v' (l.drop p) → ∀ n, Calls Tryz.prog 208 #[v'] (w.drewN n) fun e w' => e = .returned (.tuple #[.int .u64 dn, .int .i64 ds, .int .i64 dw]) ∧ w' = w.drewN n)
    (h10 : dw = 10) (hl : l.length ≤ 140737488355328) (hr : RIs w b g l p 0) :
    Calls Tryz.prog 194 #[.pointer (some ⟨b, 0, none⟩), .int .u64 most] w fun e w' => e = .returned (.int .u64 (((0, l.length, 10) : Nat × Nat × Nat)).1) ∧ RIs w' b g l (((0, l.length, 10) : Nat × Nat × Nat)).2.1 (((0, l.length, 10) : Nat × Nat × Nat)).2.2 ∧ Kept (fun k => k = b) w w' := by
  obtain ⟨v, hb, hv, hvb, hgs⟩ := hr
  have hc0 := hb.cell 0
  have hc1 := hb.cell 1
  have hc2 := hb.cell 2
  simp only [List.getElem?_toArray, List.getElem?_cons_succ, List.getElem?_cons_zero] at hc0 hc1 hc2
  obtain ⟨ao, cap', hsl, hs1, hs2⟩ := rn_slice p hp hv
  have hnum' := hnum _ hsl
  clear hnum
  subst h10
  rcases hv.shape with ⟨rfl, rfl⟩ | ⟨cap, rfl, hcap, _⟩
  · obtain ⟨rfl, rfl⟩ := hs1 rfl
    obtain rfl : p = 0 := by simpa using hp
    simp only [List.length_nil, Nat.sub_zero] at hnum'
    clear hs1 hs2 hsl
    go_enter Tryz.func194, Tryz.ntmps194
    go_wp2
    go_quiet ((go_at_call 208; exact Calls.quiet_of_same (hnum' _)))
    go_wp2_with fail
    refine (rshort b g [] 0 _ (by simp) (RIs.kept (l := []) (p := 0) (why := 0) ⟨Value.slice none 0 0, hb, hv, hvb, hgs⟩ (kept_drewN w _) (fun h => h) (fun h => h))).mono ?_
    rintro e w' ⟨rfl, h1, h2⟩
    go_wp2
    go_ret
    exact ⟨rfl, h1, (kept_drewN _ _).trans h2 (fun _ _ h => h.elim) (fun _ _ h => h)⟩
  · obtain ⟨rfl, rfl⟩ := hs2 cap rfl
    by_cases hcp : cap = p
    · obtain rfl : p = l.length := by omega
      subst hcp
      rw [if_pos rfl] at hnum'
      simp only [Nat.sub_self] at hnum'
      clear hs1 hs2 hsl
      go_enter Tryz.func194, Tryz.ntmps194
      go_wp2
      go_quiet ((go_at_call 208; exact Calls.quiet_of_same (hnum' _)))
      go_wp2_with fail
      refine (rshort b g l _ _ hl (RIs.kept (l := l) (why := 0) ⟨_, hb, hv, hvb, hgs⟩ (kept_drewN w _) (fun h => h) (fun h => h))).mono ?_
      rintro e w' ⟨rfl, h1, h2⟩
      go_wp2
      go_ret
      exact ⟨rfl, h1, (kept_drewN _ _).trans h2 (fun _ _ h => h.elim) (fun _ _ h => h)⟩
    · rw [if_neg hcp] at hnum'
      have hcp' : p < cap := by omega
      clear hs1 hs2 hsl
      go_enter Tryz.func194, Tryz.ntmps194
      go_wp2
      go_quiet ((go_at_call 208; exact Calls.quiet_of_same (hnum' _)))
      go_wp2_with fail
      refine (rshort b g l _ _ hl (RIs.kept (l := l) (why := 0) ⟨_, hb, hv, hvb, hgs⟩ (kept_drewN w _) (fun h => h) (fun h => h))).mono ?_
      rintro e w' ⟨rfl, h1, h2⟩
      go_wp2
      go_ret
      exact ⟨rfl, h1, (kept_drewN _ _).trans h2 (fun _ _ h => h.elim) (fun _ _ h => h)⟩

set_option maxHeartbeats 800000 in
theorem rn_form (b g : Nat) (l : List Nat) (p most dn ds dw : Nat) (w : World) (hp : p ≤ l.length) (_hm : most < 18446744073709551616) (hnum : ∀ (v' : Value), Sl w v' (l.drop p) → ∀ n, Calls Tryz.prog 208 #[v'] (w.drewN n) fun e w' => e = .returned (.tuple #[.int .u64 dn, .int .i64 ds, .int .i64 dw]) ∧ w' = w.drewN n)
    (h12 : dw = 12) (hr : RIs w b g l p 0) :
    Calls Tryz.prog 194 #[.pointer (some ⟨b, 0, none⟩), .int .u64 most] w fun e w' => e = .returned (.int .u64 (((0, p, 12) : Nat × Nat × Nat)).1) ∧ RIs w' b g l (((0, p, 12) : Nat × Nat × Nat)).2.1 (((0, p, 12) : Nat × Nat × Nat)).2.2 ∧ Kept (fun k => k = b) w w' := by
  obtain ⟨v, hb, hv, hvb, hgs⟩ := hr
  have hc0 := hb.cell 0
  have hc1 := hb.cell 1
  have hc2 := hb.cell 2
  simp only [List.getElem?_toArray, List.getElem?_cons_succ, List.getElem?_cons_zero] at hc0 hc1 hc2
  obtain ⟨ao, cap', hsl, hs1, hs2⟩ := rn_slice p hp hv
  have hnum' := hnum _ hsl
  clear hnum
  subst h12
  rcases hv.shape with ⟨rfl, rfl⟩ | ⟨cap, rfl, hcap, _⟩
  · obtain ⟨rfl, rfl⟩ := hs1 rfl
    obtain rfl : p = 0 := by simpa using hp
    simp only [List.length_nil, Nat.sub_zero] at hnum'
    clear hs1 hs2 hsl
    go_enter Tryz.func194, Tryz.ntmps194
    go_wp2
    go_quiet ((go_at_call 208; exact Calls.quiet_of_same (hnum' _)))
    go_wp2_with fail
    refine (rfail 12 b g [] 0 0 _ (RIs.kept (l := []) (p := 0) (why := 0) ⟨Value.slice none 0 0, hb, hv, hvb, hgs⟩ (kept_drewN w _) (fun h => h) (fun h => h))).mono ?_
    rintro e w' ⟨rfl, h1, h2⟩
    go_wp2
    go_ret
    exact ⟨rfl, h1, (kept_drewN _ _).trans h2 (fun _ _ h => h.elim) (fun _ _ h => h)⟩
  · obtain ⟨rfl, rfl⟩ := hs2 cap rfl
    by_cases hcp : cap = p
    · obtain rfl : p = l.length := by omega
      subst hcp
      rw [if_pos rfl] at hnum'
      simp only [Nat.sub_self] at hnum'
      clear hs1 hs2 hsl
      go_enter Tryz.func194, Tryz.ntmps194
      go_wp2
      go_quiet ((go_at_call 208; exact Calls.quiet_of_same (hnum' _)))
      go_wp2_with fail
      refine (rfail 12 b g l _ 0 _ (RIs.kept (l := l) (why := 0) ⟨_, hb, hv, hvb, hgs⟩ (kept_drewN w _) (fun h => h) (fun h => h))).mono ?_
      rintro e w' ⟨rfl, h1, h2⟩
      go_wp2
      go_ret
      exact ⟨rfl, h1, (kept_drewN _ _).trans h2 (fun _ _ h => h.elim) (fun _ _ h => h)⟩
    · rw [if_neg hcp] at hnum'
      have hcp' : p < cap := by omega
      clear hs1 hs2 hsl
      go_enter Tryz.func194, Tryz.ntmps194
      go_wp2
      go_quiet ((go_at_call 208; exact Calls.quiet_of_same (hnum' _)))
      go_wp2_with fail
      refine (rfail 12 b g l _ 0 _ (RIs.kept (l := l) (why := 0) ⟨_, hb, hv, hvb, hgs⟩ (kept_drewN w _) (fun h => h) (fun h => h))).mono ?_
      rintro e w' ⟨rfl, h1, h2⟩
      go_wp2
      go_ret
      exact ⟨rfl, h1, (kept_drewN _ _).trans h2 (fun _ _ h => h.elim) (fun _ _ h => h)⟩

set_option maxHeartbeats 800000 in
theorem rn_long (b g : Nat) (l : List Nat) (p most dn ds dw : Nat) (w : World) (hp : p ≤ l.length) (_hm : most < 18446744073709551616) (hnum : ∀ (v' : Value), Sl w v' (l.drop p) → ∀ n, Calls Tryz.prog 208 #[v'] (w.drewN n) fun e w' => e = .returned (.tuple #[.int .u64 dn, .int .i64 ds, .int .i64 dw]) ∧ w' = w.drewN n)
    (h0 : dw = 0) (hmd : most < dn) (hr : RIs w b g l p 0) :
    Calls Tryz.prog 194 #[.pointer (some ⟨b, 0, none⟩), .int .u64 most] w fun e w' => e = .returned (.int .u64 (((0, p, 3) : Nat × Nat × Nat)).1) ∧ RIs w' b g l (((0, p, 3) : Nat × Nat × Nat)).2.1 (((0, p, 3) : Nat × Nat × Nat)).2.2 ∧ Kept (fun k => k = b) w w' := by
  obtain ⟨v, hb, hv, hvb, hgs⟩ := hr
  have hc0 := hb.cell 0
  have hc1 := hb.cell 1
  have hc2 := hb.cell 2
  simp only [List.getElem?_toArray, List.getElem?_cons_succ, List.getElem?_cons_zero] at hc0 hc1 hc2
  obtain ⟨ao, cap', hsl, hs1, hs2⟩ := rn_slice p hp hv
  have hnum' := hnum _ hsl
  clear hnum
  subst h0
  rcases hv.shape with ⟨rfl, rfl⟩ | ⟨cap, rfl, hcap, _⟩
  · obtain ⟨rfl, rfl⟩ := hs1 rfl
    obtain rfl : p = 0 := by simpa using hp
    simp only [List.length_nil, Nat.sub_zero] at hnum'
    clear hs1 hs2 hsl
    go_enter Tryz.func194, Tryz.ntmps194
    go_wp2
    go_quiet ((go_at_call 208; exact Calls.quiet_of_same (hnum' _)))
    go_wp2_with fail
    refine (rfail 3 b g [] 0 0 _ (RIs.kept (l := []) (p := 0) (why := 0) ⟨Value.slice none 0 0, hb, hv, hvb, hgs⟩ (kept_drewN w _) (fun h => h) (fun h => h))).mono ?_
    rintro e w' ⟨rfl, h1, h2⟩
    go_wp2
    go_ret
    exact ⟨rfl, h1, (kept_drewN _ _).trans h2 (fun _ _ h => h.elim) (fun _ _ h => h)⟩
  · obtain ⟨rfl, rfl⟩ := hs2 cap rfl
    by_cases hcp : cap = p
    · obtain rfl : p = l.length := by omega
      subst hcp
      rw [if_pos rfl] at hnum'
      simp only [Nat.sub_self] at hnum'
      clear hs1 hs2 hsl
      go_enter Tryz.func194, Tryz.ntmps194
      go_wp2
      go_quiet ((go_at_call 208; exact Calls.quiet_of_same (hnum' _)))
      go_wp2_with fail
      refine (rfail 3 b g l _ 0 _ (RIs.kept (l := l) (why := 0) ⟨_, hb, hv, hvb, hgs⟩ (kept_drewN w _) (fun h => h) (fun h => h))).mono ?_
      rintro e w' ⟨rfl, h1, h2⟩
      go_wp2
      go_ret
      exact ⟨rfl, h1, (kept_drewN _ _).trans h2 (fun _ _ h => h.elim) (fun _ _ h => h)⟩
    · rw [if_neg hcp] at hnum'
      have hcp' : p < cap := by omega
      clear hs1 hs2 hsl
      go_enter Tryz.func194, Tryz.ntmps194
      go_wp2
      go_quiet ((go_at_call 208; exact Calls.quiet_of_same (hnum' _)))
      go_wp2_with fail
      refine (rfail 3 b g l _ 0 _ (RIs.kept (l := l) (why := 0) ⟨_, hb, hv, hvb, hgs⟩ (kept_drewN w _) (fun h => h) (fun h => h))).mono ?_
      rintro e w' ⟨rfl, h1, h2⟩
      go_wp2
      go_ret
      exact ⟨rfl, h1, (kept_drewN _ _).trans h2 (fun _ _ h => h.elim) (fun _ _ h => h)⟩

set_option maxHeartbeats 800000 in
theorem rn_ok (b g : Nat) (l : List Nat) (p most dn ds dw : Nat) (w : World) (hp : p ≤ l.length) (_hm : most < 18446744073709551616) (hnum : ∀ (v' : Value), Sl w v' (l.drop p) → ∀ n, Calls Tryz.prog 208 #[v'] (w.drewN n) fun e w' => e = .returned (.tuple #[.int .u64 dn, .int .i64 ds, .int .i64 dw]) ∧ w' = w.drewN n)
    (h0 : dw = 0) (hmd : dn ≤ most) (hyp : 0 < ds ∧ ds ≤ l.length - p) (hl : l.length ≤ 140737488355328) (hr : RIs w b g l p 0) :
    Calls Tryz.prog 194 #[.pointer (some ⟨b, 0, none⟩), .int .u64 most] w fun e w' => e = .returned (.int .u64 (((dn, p + ds, 0) : Nat × Nat × Nat)).1) ∧ RIs w' b g l (((dn, p + ds, 0) : Nat × Nat × Nat)).2.1 (((dn, p + ds, 0) : Nat × Nat × Nat)).2.2 ∧ Kept (fun k => k = b) w w' := by
  obtain ⟨v, hb, hv, hvb, hgs⟩ := hr
  have hc0 := hb.cell 0
  have hc1 := hb.cell 1
  have hc2 := hb.cell 2
  simp only [List.getElem?_toArray, List.getElem?_cons_succ, List.getElem?_cons_zero] at hc0 hc1 hc2
  obtain ⟨ao, cap', hsl, hs1, hs2⟩ := rn_slice p hp hv
  have hnum' := hnum _ hsl
  clear hnum
  subst h0
  have hf1 := hb.frozen 1
  rcases hv.shape with ⟨rfl, rfl⟩ | ⟨cap, rfl, hcap, _⟩
  · exfalso; simp at hyp; omega
  · obtain ⟨rfl, rfl⟩ := hs2 cap rfl
    by_cases hcp : cap = p
    · exfalso; omega
    · rw [if_neg hcp] at hnum'
      have hcp' : p < cap := by omega
      clear hs1 hs2 hsl
      go_enter Tryz.func194, Tryz.ntmps194
      go_wp2
      go_quiet ((go_at_call 208; exact Calls.quiet_of_same (hnum' _)))
      go_wp2
      go_ret
      exact ⟨rfl, ⟨_, Box.set (w := w.drewN nq) hb 1 _, Row.set (w := w.drewN nq) hv hvb 1 _, hvb, set_size (w := w.drewN nq) hgs _ _⟩, (kept_drewN w nq).trans (kept_set (w.drewN nq) b 1 _) (fun _ _ h => h.elim) (fun _ _ h => h)⟩

theorem rnumber (b g : Nat) (l : List Nat) (p why most : Nat) (w : World) (hl : l.length ≤ 140737488355328) (h256 : ∀ x ∈ l, x < 256) (hp : p ≤ l.length) (hm : most < 18446744073709551616) (hr : RIs w b g l p why) :
    Calls Tryz.prog 194 #[.pointer (some ⟨b, 0, none⟩), .int .u64 most] w fun e w' => e = .returned (.int .u64 (rNum l p why most).1) ∧ RIs w' b g l (rNum l p why most).2.1 (rNum l p why most).2.2 ∧ Kept (fun k => k = b) w w' := by
  by_cases h0 : why = 0
  · subst h0
    obtain ⟨dn, ds, dw, hd⟩ : ∃ dn ds dw, dec (l.drop p) 0 0 = (dn, ds, dw) := ⟨_, _, _, rfl⟩
    have hbd := dec_bounds (l.drop p) 10 0 0 (by omega) (by decide)
    have HE : rNum l p 0 most = if dw = 10 then (0, l.length, 10) else if dw ≠ 0 then (0, p, dw) else if most < dn then (0, p, 3) else (dn, p + ds, 0) := by simp [rNum, hd]
    rw [hd] at hbd
    simp only [List.length_drop, Prod.mk.injEq] at hbd
    have hnum : ∀ (v' : Value), Sl w v' (l.drop p) → ∀ n, Calls Tryz.prog 208 #[v'] (w.drewN n) fun e w' => e = .returned (.tuple #[.int .u64 dn, .int .i64 ds, .int .i64 dw]) ∧ w' = w.drewN n := by
      intro v' hsl n
      have h := number_any v' (l.drop p) (w.drewN n) (by simp; omega) (fun x hx => h256 x (List.mem_of_mem_drop hx)) hsl
      rw [hd] at h
      exact h
    rcases hbd with ⟨h0, hds0, hds, hds1, hdn⟩ | ⟨h1, h2, h3⟩ | ⟨h1, h2, h3⟩
    · by_cases hmd : most < dn
      · rw [HE, if_neg (by omega), if_neg (by omega), if_pos hmd]
        exact rn_long b g l p most dn ds dw w hp hm hnum h0 hmd hr
      · rw [HE, if_neg (by omega), if_neg (by omega), if_neg hmd]
        exact rn_ok b g l p most dn ds dw w hp hm hnum h0 (by omega) ⟨hds0, hds⟩ hl hr
    · rw [HE, if_pos h3]
      exact rn_short b g l p most dn ds dw w hp hm hnum h3 hl hr
    · rw [HE, if_neg (by omega), if_pos (by omega), h3]
      exact rn_form b g l p most dn ds 12 w hp hm (h3 ▸ hnum) rfl hr
  · obtain ⟨v, hb, hv, hvb, hgs⟩ := hr
    have hc2 := hb.cell 2
    simp only [List.getElem?_toArray, List.getElem?_cons_succ, List.getElem?_cons_zero] at hc2
    have HE : Hid (rNum l p why most = (0, p, why)) := by simp [Hid, rNum, h0]
    go_enter Tryz.func194, Tryz.ntmps194
    go_wp2
    go_ret
    rw [HE.out]
    exact ⟨rfl, ⟨v, hb, hv, hvb, hgs⟩, Kept.refl _ _⟩
end Go.Proofs.YtfjppbpicmniaaaGreatDoor.Wire

namespace Go.Proofs.YtfjppbpicmniaaaGreatDoor.Wire
open Go.RowKit

/-- Bytes as a text. -/
def toStr (l : List Nat) : ByteArray := (l.map Int.ofNat).foldl (fun r n => r.push (UInt8.ofNat n.toNat)) ByteArray.empty

theorem Rd.string {w : World} {b : Nat} {v : Value} {l : List Nat} (h : Rd w b v l) : (convert 42 9 v).run Tryz.prog w = .ok (.string (toStr l)) w := by
  rcases h with ⟨rfl, rfl⟩ | ⟨a, cap, rfl, h2, h3⟩
  · rw [run_convert_bytes_string w 42 9 5 none 0 0 Tryz.underlying42 Tryz.underlying5 Tryz.underlying9]
    simp [Conv.bytesToString, toStr]
  · rw [run_convert_bytes_string w 42 9 5 _ _ _ Tryz.underlying42 Tryz.underlying5 Tryz.underlying9]
    refine run_bytesToString w a l.length cap (l.map Int.ofNat) ?_
    have := run_loadCells_list (P := Tryz.prog) w a (bs l) h3
    rw [bs_length] at this
    rw [this]
    simp [bs, Function.comp_def]

theorem toStr_push (l : List Nat) : ∀ (s : ByteArray), (l.map Int.ofNat).foldl (fun r n => r.push (UInt8.ofNat n.toNat)) s = ⟨s.data ++ (l.map UInt8.ofNat).toArray⟩ := by
  induction l with
  | nil => intro s; simp
  | cons a r ih =>
    intro s
    rw [List.map_cons, List.foldl_cons, ih]
    congr 1
    apply Array.ext'
    simp [ByteArray.push]
theorem toStr_eq (l : List Nat) : toStr l = ⟨(l.map UInt8.ofNat).toArray⟩ := by
  unfold toStr
  rw [toStr_push, show ByteArray.empty.data = #[] from rfl, Array.empty_append]
theorem toStr_bytes (s : ByteArray) : toStr (s.data.toList.map UInt8.toNat) = s := by
  rw [toStr_eq]
  have e : (s.data.toList.map UInt8.toNat).map UInt8.ofNat = s.data.toList := by
    rw [List.map_map]
    conv => rhs; rw [← List.map_id s.data.toList]
    apply List.map_congr_left
    intro x _
    simp
  rw [e]

end Go.Proofs.YtfjppbpicmniaaaGreatDoor.Wire

namespace Go.Proofs.YtfjppbpicmniaaaGreatDoor.Wire
open Go.RowKit

/-- A number as one with a sign. -/
def zag (n : Nat) : Int := if n % 2 = 1 then -((n / 2 : Nat) : Int) - 1 else ((n / 2 : Nat) : Int)

theorem rNum_lt (l : List Nat) (p why most : Nat) : (rNum l p why most).1 < 18446744073709551616 := by
  have hbd := dec_bounds (l.drop p) 10 0 0 (by omega) (by decide)
  unfold rNum
  split
  · simp
  · split
    · simp
    · split
      · simp
      · split
        · simp
        · rcases hbd with h | h | h
          · exact h.2.2.2.2
          · rw [h]; simp
          · rw [h]; simp
theorem rNum_most (l : List Nat) (p why most : Nat) : (rNum l p why most).1 ≤ most := by
  unfold rNum
  split
  · simp
  · split
    · simp
    · split
      · simp
      · split
        · simp
        · omega
theorem rNum_le (l : List Nat) (p why most : Nat) (hp : p ≤ l.length) : (rNum l p why most).2.1 ≤ l.length := by
  have hbd := dec_bounds (l.drop p) 10 0 0 (by omega) (by decide)
  simp only [List.length_drop] at hbd
  unfold rNum
  split
  · exact hp
  · split
    · exact Nat.le_refl _
    · split
      · exact hp
      · split
        · exact hp
        · rcases hbd with h | h | h
          · show p + _ ≤ _
            omega
          · rw [h]; exact hp
          · rw [h]; exact hp

/-- What is taken: the bytes, the place, the refusal. -/
def rTake (l : List Nat) (p why : Nat) (n : Int) : List Nat × Nat × Nat :=
  if why ≠ 0 ∨ n ≤ 0 then ([], p, why) else if ((l.length - p : Nat) : Int) < n then ([], l.length, 10) else ((l.drop p).take n.toNat, p + n.toNat, 0)

theorem Row.sub {w : World} {g cap : Nat} {l : List Nat} (hv : Row w g (.slice (some ⟨g, 0, none⟩) l.length cap) l) (p n c : Nat) (h : p + n ≤ l.length) : Rd w g (.slice (some ⟨g, p, none⟩) n c) ((l.drop p).take n) := by
  have hlen : ((l.drop p).take n).length = n := by simp; omega
  refine .inr ⟨⟨g, p, none⟩, c, by rw [hlen], rfl, fun j u hu => ?_⟩
  have hj : j < n := by
    have := (List.getElem?_eq_some_iff.1 hu).1
    rw [bs_length, hlen] at this
    exact this
  have e : (⟨g, p, none⟩ : Addr).add j = ⟨g, p + j, none⟩ := by unfold Addr.add; split <;> simp_all
  rw [e, hv.cell (p + j) (by omega)]
  rw [bs, List.getElem?_map, List.getElem?_take, if_pos hj, List.getElem?_drop] at hu
  rw [← hu]
  simp [List.getD, show p + j < l.length by omega]

set_option maxHeartbeats 800000 in
set_option maxRecDepth 1000000 in
theorem rtake (n : Int) (b g : Nat) (l : List Nat) (p why : Nat) (w : World) (hn : n < 9223372036854775808) (hl : l.length ≤ 140737488355328) (hp : p ≤ l.length) (hr : RIs w b g l p why) :
    Calls Tryz.prog 193 #[.pointer (some ⟨b, 0, none⟩), .int .i64 n] w fun e w' => ∃ v', e = .returned v' ∧ Rd w' g v' (rTake l p why n).1 ∧ RIs w' b g l (rTake l p why n).2.1 (rTake l p why n).2.2 ∧ Kept (fun k => k = b) w w' := by
  obtain ⟨v, hb, hv, hvb, hgs⟩ := hr
  have hc0 := hb.cell 0
  have hc1 := hb.cell 1
  have hc2 := hb.cell 2
  simp only [List.getElem?_toArray, List.getElem?_cons_succ, List.getElem?_cons_zero] at hc0 hc1 hc2
  by_cases h0 : why = 0
  · subst h0
    by_cases hn0 : n ≤ 0
    · have HE : Hid (rTake l p 0 n = ([], p, 0)) := by simp [Hid, rTake, hn0]
      go_enter Tryz.func193, Tryz.ntmps193
      go_wp2
      go_ret
      rw [HE.out]
      exact ⟨_, rfl, .inl ⟨rfl, rfl⟩, ⟨v, hb, hv, hvb, hgs⟩, Kept.refl _ _⟩
    · have hn1 : 0 < n := by omega
      clear hn0
      by_cases hlt : (l.length : Int) - p < n
      · have HE : Hid (rTake l p 0 n = ([], l.length, 10)) := by
          rw [Hid, rTake, if_neg (by omega), if_pos (by omega)]
        obtain ⟨a, c, rfl⟩ := hv.rd.shape
        go_enter Tryz.func193, Tryz.ntmps193
        go_wp2
        go_quiet (fail)
        go_wp2_with fail
        refine (rshort b g l _ _ hl (RIs.kept (l := l) (why := 0) ⟨_, hb, hv, hvb, hgs⟩ (kept_drewN w _) (fun h => h) (fun h => h))).mono ?_
        rintro e w' ⟨rfl, h1, h2⟩
        go_wp2
        go_ret
        rw [HE.out]
        exact ⟨_, rfl, .inl ⟨rfl, rfl⟩, h1, (kept_drewN _ _).trans h2 (fun _ _ h => h.elim) (fun _ _ h => h)⟩
      · have HE : Hid (rTake l p 0 n = ((l.drop p).take n.toNat, p + n.toNat, 0)) := by
          rw [Hid, rTake, if_neg (by omega), if_neg (by omega)]
        rcases hv.shape with ⟨rfl, rfl⟩ | ⟨cap, rfl, hcap, _⟩
        · exfalso; simp at hlt; omega
        · have hf1 := hb.frozen 1
          have hpc : p < cap := by omega
          have hpm : (p : Int) + n ≤ l.length := by omega
          go_enter Tryz.func193, Tryz.ntmps193
          go_wp2
          go_quiet (fail)
          go_wp2
          have hb1 : Box ((w.drewN nq).setCell ⟨b, 1, none⟩ (.int .i64 (p + n))) b #[.slice (some ⟨g, 0, none⟩) l.length cap, .int .i64 (p + n), .int .i64 0] := Box.set (w := w.drewN nq) hb 1 (.int .i64 (p + n))
          have hv1 : Row ((w.drewN nq).setCell ⟨b, 1, none⟩ (.int .i64 (p + n))) g (.slice (some ⟨g, 0, none⟩) l.length cap) l := Row.set (w := w.drewN nq) hv hvb 1 _
          have hk1 : Kept (fun k => k = b) w ((w.drewN nq).setCell ⟨b, 1, none⟩ (.int .i64 (p + n))) := (kept_drewN w nq).trans (kept_set (w.drewN nq) b 1 _) (fun _ _ h => h.elim) (fun _ _ h => h)
          have hgs1 : g < ((w.drewN nq).setCell ⟨b, 1, none⟩ (.int .i64 (p + n))).heap.size := set_size (w := w.drewN nq) hgs _ _
          have k0 := hb1.cell 0
          have k1 := hb1.cell 1
          simp only [List.getElem?_toArray, List.getElem?_cons_succ, List.getElem?_cons_zero] at k0 k1
          clear hc0 hc1 hc2 hf1 hb hv
          generalize (w.drewN nq).setCell ⟨b, 1, none⟩ (.int .i64 (p + n)) = w1 at hb1 hv1 hk1 hgs1 k0 k1 ⊢
          go_quiet (fail)
          go_wp2
          go_ret
          refine ⟨.slice (some ⟨g, p, none⟩) (((p : Int) + n).toNat - p) (cap - p), rfl, ?_, ?_, hk1.trans (kept_drewN w1 nq) (fun _ _ h => h) (fun _ _ h => h.elim)⟩
          · rw [HE.out, show ((p : Int) + n).toNat - p = n.toNat by omega]
            exact Row.sub (w := w1.drewN nq) hv1 p n.toNat _ (by omega)
          · rw [HE.out]
            have e : (p : Int) + n = ((p + n.toNat : Nat) : Int) := by omega
            rw [e] at hb1
            exact ⟨_, hb1, hv1, hvb, hgs1⟩
  · have HE : Hid (rTake l p why n = ([], p, why)) := by simp [Hid, rTake, h0]
    go_enter Tryz.func193, Tryz.ntmps193
    go_wp2
    go_ret
    rw [HE.out]
    exact ⟨_, rfl, .inl ⟨rfl, rfl⟩, ⟨v, hb, hv, hvb, hgs⟩, Kept.refl _ _⟩

set_option maxHeartbeats 1600000 in
set_option maxRecDepth 1000000 in
theorem rraw (n : Int) (b g : Nat) (l : List Nat) (p why : Nat) (w : World) (hn : n < 9223372036854775808) (hl : l.length ≤ 140737488355328) (hp : p ≤ l.length) (hr : RIs w b g l p why) :
    Calls Tryz.prog 169 #[.pointer (some ⟨b, 0, none⟩), .int .i64 n] w fun e w' => ∃ v' g', e = .returned v' ∧ Row w' g' v' (rTake l p why n).1 ∧ w.heap.size ≤ g' ∧ RIs w' b g l (rTake l p why n).2.1 (rTake l p why n).2.2 ∧ Kept (fun k => k = b) w w' := by
  have hlen : (rTake l p why n).1.length ≤ l.length := by
    unfold rTake
    split
    · simp
    · split <;> simp; omega
  go_enter Tryz.func169, Tryz.ntmps169
  go_wp2_with fail
  refine (rtake n b g l p why _ hn hl hp hr).mono ?_
  rintro e w1 ⟨v1, rfl, h1, h2, h3⟩
  obtain ⟨a', c', rfl⟩ := h1.shape
  go_wp2_with fail
  refine (clone _ g _ _ (by omega) h1).mono ?_
  rintro e w2 ⟨v2, g2, rfl, k1, k2, k3⟩
  obtain ⟨a2, c2, rfl⟩ := k1.rd.shape
  go_wp2
  go_ret
  have := h3.size
  exact ⟨_, g2, rfl, k1, by omega, h2.kept k3 (fun h => h) (fun h => h), h3.trans k3 (fun _ _ h => h) (fun _ _ h => h.elim)⟩

set_option maxHeartbeats 1600000 in
set_option maxRecDepth 1000000 in
theorem rtext (most : Int) (b g : Nat) (l : List Nat) (p why : Nat) (w : World) (h0 : -9223372036854775808 ≤ most) (h1 : most < 9223372036854775808) (hl : l.length ≤ 140737488355328) (h256 : ∀ x ∈ l, x < 256) (hp : p ≤ l.length) (hr : RIs w b g l p why) :
    Calls Tryz.prog 164 #[.pointer (some ⟨b, 0, none⟩), .int .i64 most] w fun e w' => ∃ R, R = rNum l p why most.toNat ∧ e = .returned (.string (toStr (rTake l R.2.1 R.2.2 R.1).1)) ∧ RIs w' b g l (rTake l R.2.1 R.2.2 R.1).2.1 (rTake l R.2.1 R.2.2 R.1).2.2 ∧ Kept (fun k => k = b) w w' := by
  have hcall := rnumber b g l p why most.toNat w hl h256 hp (by omega) hr
  have hlt := rNum_lt l p why most.toNat
  have hmost := rNum_most l p why most.toNat
  have hple := rNum_le l p why most.toNat hp
  obtain ⟨R, HR⟩ : ∃ R, Hid (R = rNum l p why most.toNat) := ⟨_, rfl⟩
  rw [← HR.out] at hcall hlt hmost hple
  obtain ⟨n, p', why'⟩ := R
  simp only at hcall hlt hmost hple
  by_cases hm : most < 0
  · have e : ((most.toNat : Nat) : Int) = 0 := by omega
    rw [e] at hcall
    have hn0 : n < 9223372036854775808 := by omega
    clear e hmost
    go_enter Tryz.func164, Tryz.ntmps164
    go_wp2_with fail
    try rw [show max most 0 = (0 : Int) by omega]
    refine hcall.mono ?_
    rintro e w1 ⟨rfl, k1, k2⟩
    go_wp2_with fail
    refine (rtake n b g l p' why' _ (by omega) hl hple k1).mono ?_
    rintro e w2 ⟨v2, rfl, j1, j2, j3⟩
    have hcv := j1.string
    obtain ⟨a2, c2, rfl⟩ := j1.shape
    go_wp2
    go_ret
    exact ⟨_, HR.out, rfl, j2, k2.trans j3 (fun _ _ h => h) (fun _ _ h => h)⟩
  · have e : ((most.toNat : Nat) : Int) = most := by omega
    rw [e] at hcall
    have hn0 : n < 9223372036854775808 := by omega
    have hm' : 0 ≤ most := by omega
    clear e hmost hm
    go_enter Tryz.func164, Tryz.ntmps164
    go_wp2_with fail
    try rw [show max most 0 = most by omega]
    refine hcall.mono ?_
    rintro e w1 ⟨rfl, k1, k2⟩
    go_wp2_with fail
    refine (rtake n b g l p' why' _ (by omega) hl hple k1).mono ?_
    rintro e w2 ⟨v2, rfl, j1, j2, j3⟩
    have hcv := j1.string
    obtain ⟨a2, c2, rfl⟩ := j1.shape
    go_wp2
    go_ret
    exact ⟨_, HR.out, rfl, j2, k2.trans j3 (fun _ _ h => h) (fun _ _ h => h)⟩
end Go.Proofs.YtfjppbpicmniaaaGreatDoor.Wire

namespace Go.Proofs.YtfjppbpicmniaaaGreatDoor.Wire
open Go.RowKit

theorem Kept.on {S : Nat → Prop} {w a b : World} (h : Kept (fun _ => False) w a) (k : Kept S a b) (hS : ∀ x, S x → w.heap.size ≤ x) : Kept (fun _ => False) w b :=
  h.trans k (fun _ _ h => h) (fun x hx hs => by have := hS x hs; omega)
theorem enc300 : enc 300 = [172, 2] := by rw [enc_big (by omega), enc_small (by omega)]
theorem enc1 : enc (zig (-1)) = [1] := by rw [enc_small (by decide)]; rfl
theorem dec_80_00 : dec [128, 0] 0 0 = (0, 0, 12) := by
  rw [dec_on (x := 128) (by omega) rfl (by omega), dec_bad (x := 0) (by omega) rfl (by omega) (by omega)]
theorem rNum_80_00 : rNum [128, 0] 0 0 9 = (0, 0, 12) := by simp [rNum, dec_80_00]
theorem rEnd_80_00 : rEnd [128, 0] 0 12 = (12, 0) := by simp [rEnd]

end Go.Proofs.YtfjppbpicmniaaaGreatDoor.Wire
