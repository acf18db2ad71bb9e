/-
  What the chapter on brackets says, as functions over tokens: trees, their print, the stack that reads them. No program in it.
-/
import Derived.Test.YtcjddbponknnoaaGreatDoorLexMath2
namespace Go.Proofs.YtcjddbponknnoaaGreatDoor

/-- A tree; the token that shut it is kept beside it (no program sees it). -/
structure Tr where
  kind : Nat
  place : Nat
  text : List UInt8
  kids : List Tr
  shut : Tok

theorem tr_ind {P : Tr → Prop} (h : ∀ t : Tr, (∀ k ∈ t.kids, P k) → P t) (t : Tr) : P t := by
  have key : ∀ (n : Nat) (t : Tr), SizeOf.sizeOf t ≤ n → P t := by
    intro n
    induction n with
    | zero =>
      rintro ⟨_, _, _, _, _⟩ hs
      simp at hs
    | succ n ih =>
      rintro ⟨k, p, x, l, e⟩ hs
      refine h _ (fun t ht => ih t ?_)
      have := List.sizeOf_lt_of_mem ht
      simp at hs this
      omega
  exact key _ t (Nat.le_refl _)
theorem tr_kid_lt {t k : Tr} (h : k ∈ t.kids) : SizeOf.sizeOf k < SizeOf.sizeOf t := by
  obtain ⟨_, _, _, l, _⟩ := t
  have := List.sizeOf_lt_of_mem h
  simp at this ⊢
  omega

/-- Texts parted by one blank; the first one too, if something came ahead. -/
def seps : Bool → List (List UInt8) → List UInt8
  | _, [] => []
  | b, x :: r => (if b then [32] else []) ++ x ++ seps true r
/-- Print. -/
def pr : Tr → List UInt8
  | ⟨k, _, x, l, _⟩ => if k = 3 then x else if k = 4 then quoteR x else if k = 1 then 40 :: (seps false (l.map pr) ++ [41]) else []
theorem pr_eq (t : Tr) : pr t = if t.kind = 3 then t.text else if t.kind = 4 then quoteR t.text else if t.kind = 1 then 40 :: (seps false (t.kids.map pr) ++ [41]) else [] := by
  obtain ⟨k, p, x, l, e⟩ := t
  rw [pr]
/-- The tokens of a tree. -/
def toks : Tr → List Tok
  | ⟨k, p, x, l, e⟩ => if k = 1 then ⟨1, p, x⟩ :: ((l.map toks).flatten ++ [e]) else [⟨k, p, x⟩]
theorem toks_eq (t : Tr) : toks t = if t.kind = 1 then ⟨1, t.place, t.text⟩ :: ((t.kids.map toks).flatten ++ [t.shut]) else [⟨t.kind, t.place, t.text⟩] := by
  obtain ⟨k, p, x, l, e⟩ := t
  rw [toks]
/-- Brackets that are shut by a Close; other trees without Kids. -/
def Right : Tr → Prop
  | ⟨k, p, x, l, e⟩ => (k = 1 ∧ e.kind = 2 ∧ ∀ t ∈ l, Right t) ∨ (k ≠ 1 ∧ k ≠ 2 ∧ l = [] ∧ e = ⟨k, p, x⟩)
theorem Right_eq (t : Tr) : Right t = ((t.kind = 1 ∧ t.shut.kind = 2 ∧ ∀ k ∈ t.kids, Right k) ∨ (t.kind ≠ 1 ∧ t.kind ≠ 2 ∧ t.kids = [] ∧ t.shut = ⟨t.kind, t.place, t.text⟩)) := by
  obtain ⟨k, p, x, l, e⟩ := t
  rw [Right]
/-- At most d brackets open within each other. -/
def Fit : Nat → Tr → Prop
  | 0, t => t.kind ≠ 1
  | d + 1, t => t.kind = 1 → ∀ k ∈ t.kids, Fit d k
/-- The tree without its places. -/
def strip : Tr → Tr
  | ⟨k, _, x, l, _⟩ => ⟨k, 0, x, l.map strip, ⟨0, 0, []⟩⟩
theorem strip_eq (t : Tr) : strip t = ⟨t.kind, 0, t.text, t.kids.map strip, ⟨0, 0, []⟩⟩ := by
  obtain ⟨k, p, x, l, e⟩ := t
  rw [strip]
theorem strip_parts {t u : Tr} (h : strip t = strip u) : t.kind = u.kind ∧ t.text = u.text ∧ t.kids.map strip = u.kids.map strip := by
  rw [strip_eq, strip_eq] at h
  simp only [Tr.mk.injEq] at h
  exact ⟨h.1, h.2.2.1, h.2.2.2.1⟩
theorem map_strip_get : ∀ {l m : List Tr}, l.map strip = m.map strip → l.length = m.length ∧ ∀ i (h : i < l.length) (h' : i < m.length), strip l[i] = strip m[i]
  | [], [], _ => ⟨rfl, fun i h => by simp at h⟩
  | [], _ :: _, h => by simp at h
  | _ :: _, [], h => by simp at h
  | a :: l, b :: m, h => by
    simp only [List.map_cons, List.cons.injEq] at h
    obtain ⟨h1, h2⟩ := map_strip_get h.2
    refine ⟨by simp [h1], fun i hi hi' => ?_⟩
    cases i with
    | zero => exact h.1
    | succ i => exact h2 i (by simpa using hi) (by simpa using hi')
theorem pr_strip (t : Tr) : ∀ u, strip t = strip u → pr t = pr u := by
  induction t using tr_ind with
  | h t ih =>
    intro u h
    obtain ⟨h1, h2, h3⟩ := strip_parts h
    have key : ∀ (l m : List Tr), (∀ k ∈ l, ∀ u, strip k = strip u → pr k = pr u) → l.map strip = m.map strip → l.map pr = m.map pr := by
      intro l
      induction l with
      | nil => intro m _ h; cases m with | nil => rfl | cons => simp at h
      | cons a l ihl =>
        intro m hk h
        cases m with
        | nil => simp at h
        | cons b m =>
          simp only [List.map_cons, List.cons.injEq] at h
          rw [List.map_cons, List.map_cons, hk a (by simp) b h.1, ihl m (fun k hk' => hk k (by simp [hk'])) h.2]
    rw [pr_eq t, pr_eq u, h1, h2, key _ _ ih h3]

/-! The reading, by a stack: the top first. -/
def addKid (t k : Tr) : Tr := ⟨t.kind, t.place, t.text, t.kids ++ [k], t.shut⟩
def shutBy (t : Tr) (e : Tok) : Tr := ⟨t.kind, t.place, t.text, t.kids, e⟩
def leaf (t : Tok) : Tr := ⟨t.kind, t.place, t.text, [], t⟩
def root : Tr := ⟨0, 0, [], [], ⟨0, 0, []⟩⟩
/-- Why a token may not come next (0: it may). -/
def refu (ts : List Tr) (t : Tok) : Nat :=
  if t.kind = 1 ∧ ts.length = 41 then 14 else if t.kind = 2 ∧ ts.length = 1 then 12 else if ts.length = 1 ∧ (ts.getLast?.map (fun x => x.kids.length)).getD 0 ≠ 0 then 11 else 0
/-- The stack with a token put to it. -/
def put : List Tr → Tok → List Tr
  | [], _ => []
  | x :: r, t => if t.kind = 1 then leaf t :: x :: r else if t.kind = 2 then (match r with | [] => [] | y :: r' => addKid y (shutBy x t) :: r') else addKid x (leaf t) :: r
def run (n : Nat) : List Tr → List Tok → Except (Nat × Nat) Tr
  | ts, [] => if 1 < ts.length then .error (10, n) else match ts with | [] => .error (0, 0) | b :: _ => match b.kids with | [] => .error (0, 0) | k :: _ => .ok k
  | ts, t :: r => if refu ts t = 0 then run n (put ts t) r else .error (refu ts t, t.place)
/-- Parse. -/
def parseR (l : List UInt8) : Except (Nat × Nat) Tr :=
  match splitR l with
  | .error (y, b) => .error (y, b)
  | .ok ts => if ts = [] then .error (12, l.length) else run l.length [root] ts

theorem refu_open {ts : List Tr} {t : Tok} (h : refu ts t = 0) (h1 : ts.length = 1) : ∃ x, ts = [x] ∧ x.kids = [] ∧ t.kind ≠ 2 := by
  obtain ⟨x, rfl⟩ := List.length_eq_one_iff.1 h1
  unfold refu at h
  split at h
  · cases h
  · split at h
    · cases h
    · split at h
      · cases h
      · rename_i a b c
        refine ⟨x, rfl, ?_, fun e => b ⟨e, rfl⟩⟩
        simp at c
        exact c

/-- What a stack has taken in. -/
def took : List Tr → List Tok
  | [] => []
  | [b] => (b.kids.map toks).flatten
  | x :: r => took r ++ ⟨1, x.place, x.text⟩ :: (x.kids.map toks).flatten
theorem took_cons (x y : Tr) (r : List Tr) : took (x :: y :: r) = took (y :: r) ++ ⟨1, x.place, x.text⟩ :: (x.kids.map toks).flatten := rfl
theorem took_add (x : Tr) (r : List Tr) (k : Tr) : took (addKid x k :: r) = took (x :: r) ++ toks k := by
  cases r with
  | nil => simp [took, addKid]
  | cons y r => simp [took, addKid]
/-- What holds of a stack: all but the lowest are open brackets. -/
def Stk : List Tr → Prop
  | [] => False
  | [b] => b.kids.length ≤ 1 ∧ ∀ k ∈ b.kids, Right k
  | [x, b] => x.kind = 1 ∧ (∀ k ∈ x.kids, Right k) ∧ b.kids = []
  | x :: r => x.kind = 1 ∧ (∀ k ∈ x.kids, Right k) ∧ Stk r
theorem stk_kids {x : Tr} {r : List Tr} (h : Stk (x :: r)) : ∀ k ∈ x.kids, Right k := by
  match r, h with
  | [], h => exact h.2
  | [_], h => exact h.2.1
  | _ :: _ :: _, h => exact h.2.1
theorem stk_put {ts : List Tr} {t : Tok} (h : Stk ts) (hr : refu ts t = 0) (hk : t.kind ≠ 0) : Stk (put ts t) ∧ took (put ts t) = took ts ++ [t] ∧ (put ts t).length ≤ ts.length + 1 ∧ ts.length ≤ (put ts t).length + 1 := by
  match ts, h with
  | [], h => exact h.elim
  | x :: r, h =>
    unfold put
    by_cases k1 : t.kind = 1
    · simp only [k1, if_true]
      refine ⟨?_, ?_, by simp, by simp⟩
      · cases r with
        | nil =>
          obtain ⟨x', hx, hx2, _⟩ := refu_open hr rfl
          cases hx
          exact ⟨k1, by simp [leaf], hx2⟩
        | cons y r => exact ⟨k1, by simp [leaf], h⟩
      · rw [took_cons]
        obtain ⟨a, b, c⟩ := t
        simp at k1
        simp [leaf, k1]
    · simp only [k1, if_false]
      by_cases k2 : t.kind = 2
      · simp only [k2, if_true]
        cases r with
        | nil =>
          obtain ⟨_, _, _, h3⟩ := refu_open hr rfl
          exact absurd k2 h3
        | cons y r =>
          simp only
          have hx : x.kind = 1 ∧ (∀ k ∈ x.kids, Right k) := by
            cases r with
            | nil => exact ⟨h.1, h.2.1⟩
            | cons z r => exact ⟨h.1, h.2.1⟩
          have hR : Right (shutBy x t) := by
            rw [Right_eq]
            exact .inl ⟨hx.1, k2, hx.2⟩
          refine ⟨?_, ?_, by simp, by simp⟩
          · cases r with
            | nil =>
              have hb : y.kids = [] := h.2.2
              refine ⟨by simp [addKid, hb], ?_⟩
              intro k hk
              simp [addKid, hb] at hk
              subst hk
              exact hR
            | cons z r =>
              have hy : Stk (y :: z :: r) := h.2.2
              have key : ∀ k ∈ (addKid y (shutBy x t)).kids, Right k := by
                intro k hk
                simp [addKid] at hk
                rcases hk with hk | hk
                · exact stk_kids hy k hk
                · subst hk; exact hR
              cases r with
              | nil => exact ⟨hy.1, key, hy.2.2⟩
              | cons z' r => exact ⟨hy.1, key, hy.2.2⟩
          · rw [took_add, took_cons, toks_eq]
            simp [shutBy, hx.1]
      · simp only [k2, if_false]
        have hR : Right (leaf t) := by
          rw [Right_eq]
          exact .inr ⟨k1, k2, rfl, rfl⟩
        have key : ∀ k ∈ (addKid x (leaf t)).kids, Right k := by
          intro k hk
          simp [addKid] at hk
          rcases hk with hk | hk
          · exact stk_kids h k hk
          · subst hk; exact hR
        refine ⟨?_, ?_, by simp, by simp⟩
        · cases r with
          | nil =>
            obtain ⟨x', hx, hx2, _⟩ := refu_open hr rfl
            cases hx
            exact ⟨by simp [addKid, hx2], key⟩
          | cons y r =>
            cases r with
            | nil => exact ⟨h.1, key, h.2.2⟩
            | cons z r => exact ⟨h.1, key, h.2.2⟩
        · rw [took_add, toks_eq]
          simp [leaf, k1]
/-- What is read is spelled by its tokens. -/
theorem run_toks (n : Nat) : ∀ (l : List Tok) (ts : List Tr) (t : Tr), Stk ts → (∀ k ∈ l, k.kind ≠ 0) → run n ts l = .ok t → Right t ∧ toks t = took ts ++ l
  | [], ts, t, hs, _, h => by
    cases ts with
    | nil => exact hs.elim
    | cons b r =>
      unfold run at h
      split at h
      · cases h
      · rename_i h1
        have hr : r = [] := List.eq_nil_of_length_eq_zero (by simp only [List.length_cons] at h1; omega)
        subst hr
        simp only at h
        cases hk : b.kids with
        | nil => rw [hk] at h; cases h
        | cons k r =>
          rw [hk] at h
          cases h
          have : r = [] := List.eq_nil_of_length_eq_zero (by have := hs.1; rw [hk] at this; simp only [List.length_cons] at this; omega)
          subst this
          exact ⟨hs.2 t (by simp [hk]), by simp [took, hk]⟩
  | a :: l, ts, t, hs, hk, h => by
    unfold run at h
    split at h
    · rename_i hr
      obtain ⟨h1, h2, _⟩ := stk_put hs hr (hk a (by simp))
      obtain ⟨h3, h4⟩ := run_toks n l _ t h1 (fun k hk' => hk k (by simp [hk'])) h
      exact ⟨h3, by rw [h4, h2]; simp⟩
    · cases h
theorem stk_root : Stk [root] := ⟨by simp [root], by simp [root]⟩
theorem took_root : took [root] = [] := rfl

theorem refu_mid {x : Tr} {ts : List Tr} {t : Tok} (h1 : t.kind = 1 → ts.length < 40) (h2 : ts = [] → x.kids = []) (h3 : ts = [] → t.kind ≠ 2) (h4 : ts.length ≤ 40) : refu (x :: ts) t = 0 := by
  unfold refu
  rw [if_neg (fun h => by have := h1 h.1; simp at h; omega), if_neg (fun h => by
    have : ts = [] := List.eq_nil_of_length_eq_zero (by simpa using h.2)
    exact h3 this h.1), if_neg (fun h => by
    have e : ts = [] := List.eq_nil_of_length_eq_zero (by simpa using h.1)
    subst e
    simp [h2 rfl] at h)]
/-- A tree's tokens are taken in as the tree. -/
theorem run_fit (n : Nat) (t : Tr) : ∀ (d : Nat) (x : Tr) (ts : List Tr) (rest : List Tok), Right t → Fit d t → ts.length + d ≤ 40 → (ts = [] → x.kids = []) → run n (x :: ts) (toks t ++ rest) = run n (addKid x t :: ts) rest := by
  induction t using tr_ind with
  | h t ih =>
    intro d x ts rest hR hF hd hx
    have hR' := hR
    rw [Right_eq] at hR
    rcases hR with ⟨k1, ks, kk⟩ | ⟨k1, k2, kk, ke⟩
    · cases d with
      | zero => exact absurd k1 hF
      | succ d =>
        have hF2 := hF k1
        have key : ∀ (ks : List Tr) (y : Tr), (∀ k ∈ ks, k ∈ t.kids) → run n (y :: x :: ts) ((ks.map toks).flatten ++ ([t.shut] ++ rest)) = run n (⟨y.kind, y.place, y.text, y.kids ++ ks, y.shut⟩ :: x :: ts) ([t.shut] ++ rest) := by
          intro ks
          induction ks with
          | nil => intro y _; rw [List.map_nil, List.flatten_nil, List.nil_append, List.append_nil]; cases y; rfl
          | cons k ks ihk =>
            intro y hks
            rw [List.map_cons, List.flatten_cons, List.append_assoc, ih k (hks k (by simp)) d y (x :: ts) _ (kk k (hks k (by simp))) (hF2 k (hks k (by simp))) (by simp; omega) (by simp), ihk _ (fun k' hk' => hks k' (by simp [hk']))]
            simp [addKid]
        rw [toks_eq, if_pos k1, List.cons_append]
        rw [run, if_pos (refu_mid (fun _ => by omega) hx (fun _ => by simp) (by omega)), List.append_assoc]
        have e : put (x :: ts) ⟨1, t.place, t.text⟩ = leaf ⟨1, t.place, t.text⟩ :: x :: ts := rfl
        rw [e, key t.kids _ (fun _ h => h)]
        simp only [List.singleton_append]
        rw [run, if_pos (refu_mid (fun h => by rw [ks] at h; cases h) (by simp) (by simp) (by simp; omega))]
        congr 1
        simp only [put, ks]
        obtain ⟨a, b, c, d', e'⟩ := t
        simp at k1
        simp [shutBy, leaf, k1]
    · rw [toks_eq, if_neg k1]
      simp only [List.singleton_append]
      rw [run, if_pos (refu_mid (fun h => absurd h k1) hx (fun _ => k2) (by omega))]
      congr 1
      simp only [put, k1, k2, if_false]
      obtain ⟨a, b, c, d', e'⟩ := t
      simp only at kk ke
      subst kk
      subst ke
      rfl
end Go.Proofs.YtcjddbponknnoaaGreatDoor
