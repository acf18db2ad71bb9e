/-
  What follows of the chapter on types: a type is read alike whatever comes behind it; its parts; what is made of types is one. No program in it.
-/
import Derived.Lib.Join
import Derived.Test.YtcjddbponknnoaaGreatDoorTypesSpec
namespace Go.Proofs.YtcjddbponknnoaaGreatDoor

/-- Behind a word: nothing, or a sign. -/
def okB (l : List UInt8) : Prop := l = [] ∨ ∃ c r, l = c :: r ∧ isSign c = true
theorem gF_suffix : ∀ (f k : Nat) (l r : List UInt8), gF f k l = some r → ∃ x, x ≠ [] ∧ l = x ++ r
  | 0, _, _, _, h => by simp [gF] at h
  | f + 1, 0, [], _, h => by simp [gF] at h
  | f + 1, 0, c :: l, r, h => by
    rw [gF] at h
    split at h
    · obtain ⟨x, h1, h2⟩ := Option.bind_eq_some_iff.1 h
      obtain ⟨z, _, e⟩ := gF_suffix f 0 l x h1
      split at h2
      · cases h2
      · rename_i d y
        split at h2
        · cases h2
          exact ⟨c :: (z ++ [d]), by simp, by simp [e]⟩
        · cases h2
    · split at h
      · split at h
        · rename_i hh
          obtain ⟨d, y, rfl, _⟩ := isHead_pos hh
          obtain ⟨z, _, e⟩ := gF_suffix f 0 y r h
          exact ⟨c :: d :: z, by simp, by simp [e]⟩
        · obtain ⟨x, h1, h2⟩ := Option.bind_eq_some_iff.1 h
          obtain ⟨y, h3, h4⟩ := Option.bind_eq_some_iff.1 h2
          obtain ⟨z1, _, e1⟩ := gF_suffix f 0 _ x h1
          obtain ⟨z2, _, e2⟩ := gF_suffix f 1 x y h3
          obtain ⟨z3, _, e3⟩ := gF_suffix f 0 y r h4
          exact ⟨c :: (z1 ++ z2 ++ z3), by simp, by simp [e1, e2, e3]⟩
      · split at h
        · rename_i hw
          have := wordOk_pos hw
          cases h
          exact ⟨wordR (c :: l), fun e => by rw [e] at this; simp at this, by
            conv => lhs; rw [← List.take_append_drop (wordR (c :: l)).length (c :: l)]
            rw [wordR, take_tw]⟩
        · cases h
  | f + 1, k + 1, [], _, h => by simp [gF] at h
  | f + 1, k + 1, c :: l, r, h => by
    rw [gF] at h
    split at h
    · cases h; exact ⟨[c], by simp, rfl⟩
    · split at h
      · obtain ⟨x, h1, h2⟩ := Option.bind_eq_some_iff.1 h
        obtain ⟨z1, _, e1⟩ := gF_suffix f 0 l x h1
        obtain ⟨z2, _, e2⟩ := gF_suffix f (k + 2) x r h2
        exact ⟨c :: (z1 ++ z2), by simp, by simp [e1, e2]⟩
      · cases h
theorem one_suffix {l r : List UInt8} (h : one l = some r) : ∃ x, x ≠ [] ∧ l = x ++ r := gF_suffix _ _ _ _ h

theorem word_all (l : List UInt8) : ∀ x ∈ wordR l, notSign x = true := fun x hx => List.all_eq_true.1 (List.all_takeWhile (l := l)) x hx
theorem word_stop {x r : List UInt8} (h : ∀ c ∈ x, notSign c = true) (hr : okB r) : wordR (x ++ r) = x := by
  rw [wordR, List.takeWhile_append_of_pos h]
  rcases hr with rfl | ⟨c, r, rfl, hc⟩
  · simp
  · simp [notSign, hc]
theorem sign_of {c : UInt8} (h : c.toNat = 91 ∨ c.toNat = 93 ∨ c.toNat = 40 ∨ c.toNat = 41 ∨ c.toNat = 44) : isSign c = true := by
  rcases h with h | h | h | h | h <;> simp [isSign, h]

/-- What is read of a text hangs on what is read alone. -/
theorem gF_loc : ∀ (f k : Nat) (x r : List UInt8), gF f k (x ++ r) = some r →
    (k = 0 → ∀ r', okB r' → one (x ++ r') = some r') ∧ (∀ j, k = j + 1 → ∀ r', tl j (x ++ r') = some r')
  | 0, _, _, _, h => by simp [gF] at h
  | f + 1, k, [], r, h => by
    have := gF_len _ _ _ _ h
    simp at this
  | f + 1, 0, c :: x, r, h => by
    refine ⟨fun _ r' hr' => ?_, fun j hj => by omega⟩
    rw [List.cons_append] at h ⊢
    rw [gF] at h
    split at h
    · rename_i hc
      obtain ⟨q, h1, h2⟩ := Option.bind_eq_some_iff.1 h
      split at h2
      · cases h2
      · rename_i d y
        split at h2
        · rename_i hd
          simp only [Option.some.injEq] at h2
          subst h2
          obtain ⟨z, _, e⟩ := gF_suffix f 0 _ _ h1
          have e' : x = z ++ [d] := by
            have : x ++ y = (z ++ [d]) ++ y := by rw [e]; simp
            exact List.append_cancel_right this
          subst e'
          rw [e] at h1
          have := (gF_loc f 0 z (d :: y) h1).1 rfl (d :: r') (.inr ⟨d, r', rfl, sign_of (by omega)⟩)
          rw [one_arr _ hc, List.append_assoc, List.singleton_append, this]
          simp [hd]
        · cases h2
    · rename_i h91
      split at h
      · rename_i hc
        split at h
        · rename_i hh
          obtain ⟨d, y, e, hd⟩ := isHead_pos hh
          rw [e, List.tail_cons] at h
          obtain ⟨z, _, e2⟩ := gF_suffix f 0 _ _ h
          have e' : x = d :: z := by
            have : x ++ r = (d :: z) ++ r := by rw [e, e2]; simp
            exact List.append_cancel_right this
          subst e'
          rw [e2] at h
          rw [List.cons_append, one_fn0 _ hc hd]
          exact (gF_loc f 0 z r h).1 rfl r' hr'
        · rename_i hh
          obtain ⟨a, h1, h2⟩ := Option.bind_eq_some_iff.1 h
          obtain ⟨b, h3, h4⟩ := Option.bind_eq_some_iff.1 h2
          obtain ⟨z1, n1, e1⟩ := gF_suffix f 0 _ a h1
          obtain ⟨z2, n2, e2⟩ := gF_suffix f 1 a b h3
          obtain ⟨z3, _, e3⟩ := gF_suffix f 0 b r h4
          have e' : x = z1 ++ z2 ++ z3 := by
            have : x ++ r = (z1 ++ z2 ++ z3) ++ r := by rw [e1, e2, e3]; simp
            exact List.append_cancel_right this
          have i1 := (gF_loc f 0 z1 a (by rw [← e1]; exact h1)).1 rfl
          have i2 := (gF_loc f 1 z2 b (by rw [← e2]; exact h3)).2 0 rfl
          have i3 := (gF_loc f 0 z3 r (by rw [← e3]; exact h4)).1 rfl r' hr'
          have ha : okB (z2 ++ (z3 ++ r')) := by
            cases z2 with
            | nil => exact absurd rfl n2
            | cons d z2 =>
              refine .inr ⟨d, _, rfl, ?_⟩
              rw [e2, List.cons_append] at h3
              cases f with
              | zero => simp [gF] at h3
              | succ f =>
                rw [gF] at h3
                split at h3
                · rename_i hd; exact sign_of (by omega)
                · split at h3
                  · rename_i hd; exact sign_of (by omega)
                  · cases h3
          have hnh : ∀ d y, x ++ r' = d :: y → d.toNat ≠ 41 := by
            intro d y he hd
            refine hh ?_
            cases z1 with
            | nil => exact absurd rfl n1
            | cons d' z1 =>
              rw [e', List.cons_append, List.cons_append, List.cons_append] at he
              simp only [List.cons.injEq] at he
              rw [e1, List.cons_append, isHead_cons]
              exact decide_eq_true (by rw [he.1]; exact hd)
          rw [one_fn _ hc hnh, e', show z1 ++ z2 ++ z3 ++ r' = z1 ++ (z2 ++ (z3 ++ r')) from by simp, i1 _ ha]
          simp only [Option.bind_some]
          rw [i2]
          simp only [Option.bind_some]
          exact i3
      · rename_i h40
        split at h
        · rename_i hw
          simp only [Option.some.injEq] at h
          have hx : wordR (c :: (x ++ r)) = c :: x := by
            have h1 := List.take_append_drop (wordR (c :: (x ++ r))).length (c :: (x ++ r))
            rw [h, wordR, take_tw] at h1
            have h2 : wordR (c :: (x ++ r)) ++ r = (c :: x) ++ r := h1
            exact List.append_cancel_right h2
          rw [hx] at hw
          have hall := word_all (c :: (x ++ r))
          rw [hx] at hall
          rw [one_word _ h91 h40, ← List.cons_append, word_stop hall hr', if_pos hw]
          simp
        · cases h
  | f + 1, k + 1, c :: x, r, h => by
    refine ⟨fun hk => by omega, fun j hj r' => ?_⟩
    obtain rfl : k = j := by omega
    rw [List.cons_append] at h ⊢
    rw [gF] at h
    split at h
    · rename_i hc
      simp only [Option.some.injEq] at h
      have e' : x = [] := by
        have : x ++ r = [] ++ r := h
        exact List.append_cancel_right this
      subst e'
      exact tl_close k r' hc
    · split at h
      · rename_i hc
        obtain ⟨a, h1, h2⟩ := Option.bind_eq_some_iff.1 h
        obtain ⟨z1, _, e1⟩ := gF_suffix f 0 _ a h1
        obtain ⟨z2, n2, e2⟩ := gF_suffix f (k + 2) a r h2
        have e' : x = z1 ++ z2 := by
          have : x ++ r = (z1 ++ z2) ++ r := by rw [e1, e2]; simp
          exact List.append_cancel_right this
        have i1 := (gF_loc f 0 z1 a (by rw [← e1]; exact h1)).1 rfl
        have i2 := (gF_loc f (k + 2) z2 r (by rw [← e2]; exact h2)).2 (k + 1) rfl r'
        have ha : okB (z2 ++ r') := by
          cases z2 with
          | nil => exact absurd rfl n2
          | cons d z2 =>
            refine .inr ⟨d, _, rfl, ?_⟩
            rw [e2, List.cons_append] at h2
            cases f with
            | zero => simp [gF] at h2
            | succ f =>
              rw [gF] at h2
              split at h2
              · rename_i hd; exact sign_of (by omega)
              · split at h2
                · rename_i hd; exact sign_of (by omega)
                · cases h2
        rw [tl_comma k _ hc.1 hc.2, e', List.append_assoc, i1 _ ha]
        simp only [Option.bind_some]
        exact i2
      · cases h
theorem one_loc {x r r' : List UInt8} (h : one (x ++ r) = some r) (hr : okB r') : one (x ++ r') = some r' := (gF_loc _ _ _ _ h).1 rfl r' hr
theorem one_ahead {x r : List UInt8} (h : one x = some []) (hr : okB r) : one (x ++ r) = some r := one_loc (r := []) (by rw [List.append_nil]; exact h) hr
theorem one_piece {x r : List UInt8} (h : one (x ++ r) = some r) : one x = some [] := by
  have := one_loc (r' := []) h (.inl rfl)
  rwa [List.append_nil] at this

/-- Parameters parted by commas. -/
def joinR (ps : List (List UInt8)) : List UInt8 := Lib.join ps [44]
def arrR (x : List UInt8) : List UInt8 := 91 :: (x ++ [93])
def funcR (ps : List (List UInt8)) (r : List UInt8) : List UInt8 := 40 :: (joinR ps ++ 41 :: r)
theorem joinR_nil : joinR [] = [] := rfl
theorem joinR_one (x : List UInt8) : joinR [x] = x := Lib.join_one x [44]
theorem joinR_two (x y : List UInt8) (r : List (List UInt8)) : joinR (x :: y :: r) = x ++ 44 :: joinR (y :: r) := by
  rw [joinR, joinR, Lib.join_cons, Lib.join_cons]
  simp [Lib.joinTail]
theorem one_arrR {x : List UInt8} (h : one x = some []) : one (arrR x) = some [] := by
  rw [arrR, one_arr _ (by rfl), one_ahead h (.inr ⟨93, [], rfl, rfl⟩)]
  simp
/-- From behind k commas on. -/
theorem one_params : ∀ (ps : List (List UInt8)) (p : List UInt8) (k : Nat) (r : List UInt8), (∀ x ∈ p :: ps, one x = some []) → ps.length + k < 6 →
    (one (joinR (p :: ps) ++ 41 :: r)).bind (tl k) = some r
  | [], p, k, r, h, _ => by
    rw [joinR_one, one_ahead (h p (by simp)) (.inr ⟨41, r, rfl, rfl⟩)]
    exact tl_close k r rfl
  | q :: ps, p, k, r, h, hk => by
    simp only [List.length_cons] at hk
    rw [joinR_two, List.append_assoc, List.cons_append, one_ahead (h p (by simp)) (.inr ⟨44, _, rfl, rfl⟩)]
    simp only [Option.bind_some]
    rw [tl_comma k _ rfl (by omega)]
    exact one_params ps q (k + 1) r (fun x hx => h x (List.mem_cons_of_mem _ hx)) (by omega)
theorem right_head {p : List UInt8} (h : one p = some []) : ∀ d y r, p ++ r = d :: y → d.toNat ≠ 41 := by
  intro d y r he hd
  cases p with
  | nil => rw [one_nil] at h; cases h
  | cons c p =>
    rw [List.cons_append] at he
    simp only [List.cons.injEq] at he
    obtain ⟨rfl, _⟩ := he
    have hw : wordR (c :: p) = [] := by simp [wordR, notSign, sign_of (c := c) (by omega)]
    rw [one_word p (by omega) (by omega), hw, wordOk_nil] at h
    simp at h
theorem one_funcR {ps : List (List UInt8)} {r : List UInt8} (h : ∀ x ∈ ps, one x = some []) (hr : one r = some []) (hn : ps.length ≤ 6) : one (funcR ps r) = some [] := by
  cases ps with
  | nil => rw [funcR, joinR_nil, List.nil_append, one_fn0 r rfl rfl, hr]
  | cons p ps =>
    have hh : ∀ d y, joinR (p :: ps) ++ 41 :: r = d :: y → d.toNat ≠ 41 := by
      intro d y he
      cases ps with
      | nil => rw [joinR_one] at he; exact right_head (h p (by simp)) d y _ he
      | cons q ps => rw [joinR_two, List.append_assoc] at he; exact right_head (h p (by simp)) d y _ he
    rw [funcR, one_fn _ rfl hh]
    have := one_params ps p 0 r h (by simp at hn; omega)
    rw [← Option.bind_assoc, this]
    exact hr

/-- The parameters from here on, and what stands behind their bracket. -/
def psF : Nat → List UInt8 → List (List UInt8) × List UInt8
  | 0, _ => ([], [])
  | f + 1, l =>
    match one l with
    | none => ([], [])
    | some [] => ([], [])
    | some (c :: r) => if c.toNat = 44 then (l.take (l.length - (r.length + 1)) :: (psF f r).1, (psF f r).2) else ([l.take (l.length - (r.length + 1))], r)
theorem psF_fuel : ∀ (f g : Nat) (l : List UInt8), l.length < f → l.length < g → psF f l = psF g l
  | 0, _, _, h, _ => by omega
  | _ + 1, 0, _, _, h => by omega
  | f + 1, g + 1, l, hf, hg => by
    rw [psF, psF]
    split
    · rfl
    · rfl
    · rename_i c r h
      have := one_len h
      simp only [List.length_cons] at this
      rw [psF_fuel f g r (by omega) (by omega)]
def psQ (l : List UInt8) : List (List UInt8) × List UInt8 := psF (l.length + 1) l
theorem psQ_some {l r : List UInt8} {c : UInt8} (h : one l = some (c :: r)) : psQ l = if c.toNat = 44 then (l.take (l.length - (r.length + 1)) :: (psQ r).1, (psQ r).2) else ([l.take (l.length - (r.length + 1))], r) := by
  have hl := one_len h
  simp only [List.length_cons] at hl
  rw [psQ, psF, h]
  simp only
  rw [psF_fuel l.length (r.length + 1) r (by omega) (by omega)]
  rfl
theorem psQ_piece {p r : List UInt8} {c : UInt8} (h : one p = some []) (hc : c.toNat = 44 ∨ c.toNat = 41) : psQ (p ++ c :: r) = if c.toNat = 44 then (p :: (psQ r).1, (psQ r).2) else ([p], r) := by
  rw [psQ_some (one_ahead h (.inr ⟨c, r, rfl, sign_of (by omega)⟩))]
  simp
def partsR (l : List UInt8) : List (List UInt8) × List UInt8 := if isHead 41 l.tail then ([], l.tail.tail) else psQ l.tail
theorem psQ_join : ∀ (ps : List (List UInt8)) (p r : List UInt8), (∀ x ∈ p :: ps, one x = some []) → psQ (joinR (p :: ps) ++ 41 :: r) = (p :: ps, r)
  | [], p, r, h => by
    rw [joinR_one, psQ_piece (h p (by simp)) (.inr rfl)]
    rfl
  | q :: ps, p, r, h => by
    rw [joinR_two, List.append_assoc, List.cons_append, psQ_piece (h p (by simp)) (.inl rfl), psQ_join ps q r (fun x hx => h x (List.mem_cons_of_mem _ hx))]
    rfl
theorem partsR_funcR {ps : List (List UInt8)} (r : List UInt8) (h : ∀ x ∈ ps, one x = some []) : partsR (funcR ps r) = (ps, r) := by
  cases ps with
  | nil => rfl
  | cons p ps =>
    have hh : isHead 41 (joinR (p :: ps) ++ 41 :: r) = false := by
      rw [Bool.eq_false_iff]
      intro he
      obtain ⟨d, y, e, hd⟩ := isHead_pos he
      cases ps with
      | nil => rw [joinR_one] at e; exact right_head (h p (by simp)) d y _ e hd
      | cons q ps => rw [joinR_two, List.append_assoc] at e; exact right_head (h p (by simp)) d y _ e hd
    rw [partsR, funcR, List.tail_cons, hh]
    exact psQ_join ps p r h
/-- The parameters go on from here, k of them (and one) being read. -/
def Goes (k : Nat) (l : List UInt8) : Prop := (one l).bind (fun x => (tl k x).bind one) = some []
theorem goes_next {k : Nat} {l : List UInt8} (h : Goes k l) : ∃ c r, one l = some (c :: r) ∧ ((c.toNat = 41 ∧ one r = some []) ∨ (c.toNat = 44 ∧ k + 1 < 6 ∧ Goes (k + 1) r)) := by
  obtain ⟨x, h1, h2⟩ := Option.bind_eq_some_iff.1 h
  obtain ⟨y, h3, h4⟩ := Option.bind_eq_some_iff.1 h2
  cases x with
  | nil => rw [tl_nil] at h3; cases h3
  | cons c r =>
    refine ⟨c, r, h1, ?_⟩
    by_cases c1 : c.toNat = 41
    · rw [tl_close k r c1] at h3
      simp only [Option.some.injEq] at h3
      subst h3
      exact .inl ⟨c1, h4⟩
    · by_cases c2 : c.toNat = 44 ∧ k + 1 < 6
      · rw [tl_comma k r c2.1 c2.2] at h3
        refine .inr ⟨c2.1, c2.2, ?_⟩
        obtain ⟨z, h5, h6⟩ := Option.bind_eq_some_iff.1 h3
        unfold Goes
        rw [h5]
        simp only [Option.bind_some]
        rw [h6]
        exact h4
      · rw [tl_bad k r c1 c2] at h3
        cases h3
theorem goes_first {c : UInt8} {l : List UInt8} (hc : c.toNat = 40) (h : one (c :: l) = some []) (hn : isHead 41 l = false) : Goes 0 l := by
  rw [one_fn l hc (by rintro d y rfl hd; rw [isHead_cons, decide_eq_true hd] at hn; cases hn)] at h
  exact h
theorem goes_text : ∀ (n k : Nat) (l : List UInt8), l.length ≤ n → k < 6 → Goes k l → ∃ p ps r, psQ l = (p :: ps, r) ∧ l = joinR (p :: ps) ++ 41 :: r ∧ (∀ x ∈ p :: ps, one x = some []) ∧ one r = some [] ∧ ps.length + k < 6
  | 0, k, l, hn, _, h => by
    obtain ⟨c, r, h1, _⟩ := goes_next h
    have := one_len h1
    omega
  | n + 1, k, l, hn, hk6, h => by
    obtain ⟨c, r, h1, h2⟩ := goes_next h
    have hl := one_len h1
    simp only [List.length_cons] at hl
    obtain ⟨x, _, e⟩ := one_suffix h1
    have hx : one x = some [] := one_piece (by rw [← e]; exact h1)
    have hp : l.take (l.length - (r.length + 1)) = x := by rw [e]; simp
    have hq := psQ_some h1
    rw [hp] at hq
    rcases h2 with ⟨hc, hr⟩ | ⟨hc, hk, hg⟩
    · rw [if_neg (by omega)] at hq
      have hc' : c = 41 := UInt8.toNat_inj.1 hc
      refine ⟨x, [], r, hq, by rw [joinR_one, e, hc'], by simpa using hx, hr, by simpa using hk6⟩
    · rw [if_pos hc] at hq
      have hc' : c = 44 := UInt8.toNat_inj.1 hc
      obtain ⟨p, ps, r', e1, e2, e3, e4, e5⟩ := goes_text n (k + 1) r (by omega) hk hg
      rw [e1] at hq
      refine ⟨x, p :: ps, r', hq, by rw [joinR_two, e, hc', List.append_assoc, List.cons_append, ← e2], ?_, e4, by simp; omega⟩
      intro y hy
      simp only [List.mem_cons] at hy
      rcases hy with rfl | hy
      · exact hx
      · exact e3 y (by simpa using hy)
end Go.Proofs.YtcjddbponknnoaaGreatDoor
