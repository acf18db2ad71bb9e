/-
  What the chapter on brackets says, as functions over tokens: trees, their print, the stack that reads them. No program in it.
  And: What follows from the chapter's functions on trees: what is printed is parted into the tree's own tokens; how long a print is. No program in it. Trees in memory: cells of a tree, rows of trees that can be read (TL), rows of the call's own that grow (OwnK), the stack of open brackets (StkM); what each step of memory leaves of them. The stack of open brackets in memory: a bracket more, one that is shut, a tree more in the topmost. The package's take: a token is put to the stack. The package's take at an Atom or a Quoted. The package's take at a Close: the topmost is shut and goes to the one below it. The package's Parse: its walk. The package's Parse: the loop over the tokens.
-/
import Derived.Test.YtcokihblicgbpaaLexAZ
import Derived.Deep.AppendLies
import Derived.OneCell
import Derived.Deep.RegionLaw
import Derived.Deep.Upon
import Derived.Deep.CutRange
import Derived.Deep.LoopGhost
import Derived.Laws.Rows
namespace Go.Proofs.Ytcokihblicgbpaa

/-- A tree; the token that shut it is kept beside it (no program sees it). -/
structure Tr where
  kind : Nat
  place : Nat
  text : List UInt8
  kids : List Tr
  shut : Tok

theorem tr_ind {P : Tr → Prop} (h : ∀ t : Tr, (∀ k ∈ t.kids, P k) → P t) (t : Tr) : P t := by
  have key : ∀ (n : Nat) (t : Tr), SizeOf.sizeOf t ≤ n → P t := by
    intro n
    induction n with
    | zero =>
      rintro ⟨_, _, _, _, _⟩ hs
      simp at hs
    | succ n ih =>
      rintro ⟨k, p, x, l, e⟩ hs
      refine h _ (fun t ht => ih t ?_)
      have := List.sizeOf_lt_of_mem ht
      simp at hs this
      omega
  exact key _ t (Nat.le_refl _)
theorem tr_kid_lt {t k : Tr} (h : k ∈ t.kids) : SizeOf.sizeOf k < SizeOf.sizeOf t := by
  obtain ⟨_, _, _, l, _⟩ := t
  have := List.sizeOf_lt_of_mem h
  simp at this ⊢
  omega

/-- Texts parted by one blank; the first one too, if something came ahead. -/
def seps : Bool → List (List UInt8) → List UInt8
  | _, [] => []
  | b, x :: r => (if b then [32] else []) ++ x ++ seps true r
/-- Print. -/
def pr : Tr → List UInt8
  | ⟨k, _, x, l, _⟩ => if k = 3 then x else if k = 4 then quoteR x else if k = 1 then 40 :: (seps false (l.map pr) ++ [41]) else []
theorem pr_eq (t : Tr) : pr t = if t.kind = 3 then t.text else if t.kind = 4 then quoteR t.text else if t.kind = 1 then 40 :: (seps false (t.kids.map pr) ++ [41]) else [] := by
  obtain ⟨k, p, x, l, e⟩ := t
  rw [pr]
/-- The tokens of a tree. -/
def toks : Tr → List Tok
  | ⟨k, p, x, l, e⟩ => if k = 1 then ⟨1, p, x⟩ :: ((l.map toks).flatten ++ [e]) else [⟨k, p, x⟩]
theorem toks_eq (t : Tr) : toks t = if t.kind = 1 then ⟨1, t.place, t.text⟩ :: ((t.kids.map toks).flatten ++ [t.shut]) else [⟨t.kind, t.place, t.text⟩] := by
  obtain ⟨k, p, x, l, e⟩ := t
  rw [toks]
/-- Brackets that are shut by a Close; other trees without Kids. -/
def Right : Tr → Prop
  | ⟨k, p, x, l, e⟩ => (k = 1 ∧ e.kind = 2 ∧ ∀ t ∈ l, Right t) ∨ (k ≠ 1 ∧ k ≠ 2 ∧ l = [] ∧ e = ⟨k, p, x⟩)
theorem Right_eq (t : Tr) : Right t = ((t.kind = 1 ∧ t.shut.kind = 2 ∧ ∀ k ∈ t.kids, Right k) ∨ (t.kind ≠ 1 ∧ t.kind ≠ 2 ∧ t.kids = [] ∧ t.shut = ⟨t.kind, t.place, t.text⟩)) := by
  obtain ⟨k, p, x, l, e⟩ := t
  rw [Right]
/-- At most d brackets open within each other. -/
def Fit : Nat → Tr → Prop
  | 0, t => t.kind ≠ 1
  | d + 1, t => t.kind = 1 → ∀ k ∈ t.kids, Fit d k
/-- The tree without its places. -/
def strip : Tr → Tr
  | ⟨k, _, x, l, _⟩ => ⟨k, 0, x, l.map strip, ⟨0, 0, []⟩⟩
theorem strip_eq (t : Tr) : strip t = ⟨t.kind, 0, t.text, t.kids.map strip, ⟨0, 0, []⟩⟩ := by
  obtain ⟨k, p, x, l, e⟩ := t
  rw [strip]
theorem strip_parts {t u : Tr} (h : strip t = strip u) : t.kind = u.kind ∧ t.text = u.text ∧ t.kids.map strip = u.kids.map strip := by
  rw [strip_eq, strip_eq] at h
  simp only [Tr.mk.injEq] at h
  exact ⟨h.1, h.2.2.1, h.2.2.2.1⟩
theorem map_strip_get : ∀ {l m : List Tr}, l.map strip = m.map strip → l.length = m.length ∧ ∀ i (h : i < l.length) (h' : i < m.length), strip l[i] = strip m[i]
  | [], [], _ => ⟨rfl, fun i h => by simp at h⟩
  | [], _ :: _, h => by simp at h
  | _ :: _, [], h => by simp at h
  | a :: l, b :: m, h => by
    simp only [List.map_cons, List.cons.injEq] at h
    obtain ⟨h1, h2⟩ := map_strip_get h.2
    refine ⟨by simp [h1], fun i hi hi' => ?_⟩
    cases i with
    | zero => exact h.1
    | succ i => exact h2 i (by simpa using hi) (by simpa using hi')
theorem pr_strip (t : Tr) : ∀ u, strip t = strip u → pr t = pr u := by
  induction t using tr_ind with
  | h t ih =>
    intro u h
    obtain ⟨h1, h2, h3⟩ := strip_parts h
    have key : ∀ (l m : List Tr), (∀ k ∈ l, ∀ u, strip k = strip u → pr k = pr u) → l.map strip = m.map strip → l.map pr = m.map pr := by
      intro l
      induction l with
      | nil => intro m _ h; cases m with | nil => rfl | cons => simp at h
      | cons a l ihl =>
        intro m hk h
        cases m with
        | nil => simp at h
        | cons b m =>
          simp only [List.map_cons, List.cons.injEq] at h
          rw [List.map_cons, List.map_cons, hk a (by simp) b h.1, ihl m (fun k hk' => hk k (by simp [hk'])) h.2]
    rw [pr_eq t, pr_eq u, h1, h2, key _ _ ih h3]

/-! The reading, by a stack: the top first. -/
def addKid (t k : Tr) : Tr := ⟨t.kind, t.place, t.text, t.kids ++ [k], t.shut⟩
def shutBy (t : Tr) (e : Tok) : Tr := ⟨t.kind, t.place, t.text, t.kids, e⟩
def leaf (t : Tok) : Tr := ⟨t.kind, t.place, t.text, [], t⟩
def root : Tr := ⟨0, 0, [], [], ⟨0, 0, []⟩⟩
/-- Why a token may not come next (0: it may). -/
def refu (ts : List Tr) (t : Tok) : Nat :=
  if t.kind = 1 ∧ ts.length = 41 then 14 else if t.kind = 2 ∧ ts.length = 1 then 12 else if ts.length = 1 ∧ (ts.getLast?.map (fun x => x.kids.length)).getD 0 ≠ 0 then 11 else 0
/-- The stack with a token put to it. -/
def put : List Tr → Tok → List Tr
  | [], _ => []
  | x :: r, t => if t.kind = 1 then leaf t :: x :: r else if t.kind = 2 then (match r with | [] => [] | y :: r' => addKid y (shutBy x t) :: r') else addKid x (leaf t) :: r
def run (n : Nat) : List Tr → List Tok → Except (Nat × Nat) Tr
  | ts, [] => if 1 < ts.length then .error (10, n) else match ts with | [] => .error (0, 0) | b :: _ => match b.kids with | [] => .error (0, 0) | k :: _ => .ok k
  | ts, t :: r => if refu ts t = 0 then run n (put ts t) r else .error (refu ts t, t.place)
/-- Parse. -/
def parseR (l : List UInt8) : Except (Nat × Nat) Tr :=
  match splitR l with
  | .error (y, b) => .error (y, b)
  | .ok ts => if ts = [] then .error (12, l.length) else run l.length [root] ts

theorem refu_open {ts : List Tr} {t : Tok} (h : refu ts t = 0) (h1 : ts.length = 1) : ∃ x, ts = [x] ∧ x.kids = [] ∧ t.kind ≠ 2 := by
  obtain ⟨x, rfl⟩ := List.length_eq_one_iff.1 h1
  unfold refu at h
  split at h
  · cases h
  · split at h
    · cases h
    · split at h
      · cases h
      · rename_i a b c
        refine ⟨x, rfl, ?_, fun e => b ⟨e, rfl⟩⟩
        simp at c
        exact c

/-- What a stack has taken in. -/
def took : List Tr → List Tok
  | [] => []
  | [b] => (b.kids.map toks).flatten
  | x :: r => took r ++ ⟨1, x.place, x.text⟩ :: (x.kids.map toks).flatten
theorem took_cons (x y : Tr) (r : List Tr) : took (x :: y :: r) = took (y :: r) ++ ⟨1, x.place, x.text⟩ :: (x.kids.map toks).flatten := rfl
theorem took_add (x : Tr) (r : List Tr) (k : Tr) : took (addKid x k :: r) = took (x :: r) ++ toks k := by
  cases r with
  | nil => simp [took, addKid]
  | cons y r => simp [took, addKid]
/-- What holds of a stack: all but the lowest are open brackets. -/
def Stk : List Tr → Prop
  | [] => False
  | [b] => b.kids.length ≤ 1 ∧ ∀ k ∈ b.kids, Right k
  | [x, b] => x.kind = 1 ∧ (∀ k ∈ x.kids, Right k) ∧ b.kids = []
  | x :: r => x.kind = 1 ∧ (∀ k ∈ x.kids, Right k) ∧ Stk r
theorem stk_kids {x : Tr} {r : List Tr} (h : Stk (x :: r)) : ∀ k ∈ x.kids, Right k := by
  match r, h with
  | [], h => exact h.2
  | [_], h => exact h.2.1
  | _ :: _ :: _, h => exact h.2.1
theorem stk_put {ts : List Tr} {t : Tok} (h : Stk ts) (hr : refu ts t = 0) (hk : t.kind ≠ 0) : Stk (put ts t) ∧ took (put ts t) = took ts ++ [t] ∧ (put ts t).length ≤ ts.length + 1 ∧ ts.length ≤ (put ts t).length + 1 := by
  match ts, h with
  | [], h => exact h.elim
  | x :: r, h =>
    unfold put
    by_cases k1 : t.kind = 1
    · simp only [k1, if_true]
      refine ⟨?_, ?_, by simp, by simp⟩
      · cases r with
        | nil =>
          obtain ⟨x', hx, hx2, _⟩ := refu_open hr rfl
          cases hx
          exact ⟨k1, by simp [leaf], hx2⟩
        | cons y r => exact ⟨k1, by simp [leaf], h⟩
      · rw [took_cons]
        obtain ⟨a, b, c⟩ := t
        simp at k1
        simp [leaf, k1]
    · simp only [k1, if_false]
      by_cases k2 : t.kind = 2
      · simp only [k2, if_true]
        cases r with
        | nil =>
          obtain ⟨_, _, _, h3⟩ := refu_open hr rfl
          exact absurd k2 h3
        | cons y r =>
          simp only
          have hx : x.kind = 1 ∧ (∀ k ∈ x.kids, Right k) := by
            cases r with
            | nil => exact ⟨h.1, h.2.1⟩
            | cons z r => exact ⟨h.1, h.2.1⟩
          have hR : Right (shutBy x t) := by
            rw [Right_eq]
            exact .inl ⟨hx.1, k2, hx.2⟩
          refine ⟨?_, ?_, by simp, by simp⟩
          · cases r with
            | nil =>
              have hb : y.kids = [] := h.2.2
              refine ⟨by simp [addKid, hb], ?_⟩
              intro k hk
              simp [addKid, hb] at hk
              subst hk
              exact hR
            | cons z r =>
              have hy : Stk (y :: z :: r) := h.2.2
              have key : ∀ k ∈ (addKid y (shutBy x t)).kids, Right k := by
                intro k hk
                simp [addKid] at hk
                rcases hk with hk | hk
                · exact stk_kids hy k hk
                · subst hk; exact hR
              cases r with
              | nil => exact ⟨hy.1, key, hy.2.2⟩
              | cons z' r => exact ⟨hy.1, key, hy.2.2⟩
          · rw [took_add, took_cons, toks_eq]
            simp [shutBy, hx.1]
      · simp only [k2, if_false]
        have hR : Right (leaf t) := by
          rw [Right_eq]
          exact .inr ⟨k1, k2, rfl, rfl⟩
        have key : ∀ k ∈ (addKid x (leaf t)).kids, Right k := by
          intro k hk
          simp [addKid] at hk
          rcases hk with hk | hk
          · exact stk_kids h k hk
          · subst hk; exact hR
        refine ⟨?_, ?_, by simp, by simp⟩
        · cases r with
          | nil =>
            obtain ⟨x', hx, hx2, _⟩ := refu_open hr rfl
            cases hx
            exact ⟨by simp [addKid, hx2], key⟩
          | cons y r =>
            cases r with
            | nil => exact ⟨h.1, key, h.2.2⟩
            | cons z r => exact ⟨h.1, key, h.2.2⟩
        · rw [took_add, toks_eq]
          simp [leaf, k1]
/-- What is read is spelled by its tokens. -/
theorem run_toks (n : Nat) : ∀ (l : List Tok) (ts : List Tr) (t : Tr), Stk ts → (∀ k ∈ l, k.kind ≠ 0) → run n ts l = .ok t → Right t ∧ toks t = took ts ++ l
  | [], ts, t, hs, _, h => by
    cases ts with
    | nil => exact hs.elim
    | cons b r =>
      unfold run at h
      split at h
      · cases h
      · rename_i h1
        have hr : r = [] := List.eq_nil_of_length_eq_zero (by simp only [List.length_cons] at h1; omega)
        subst hr
        simp only at h
        cases hk : b.kids with
        | nil => rw [hk] at h; cases h
        | cons k r =>
          rw [hk] at h
          cases h
          have : r = [] := List.eq_nil_of_length_eq_zero (by have := hs.1; rw [hk] at this; simp only [List.length_cons] at this; omega)
          subst this
          exact ⟨hs.2 t (by simp [hk]), by simp [took, hk]⟩
  | a :: l, ts, t, hs, hk, h => by
    unfold run at h
    split at h
    · rename_i hr
      obtain ⟨h1, h2, _⟩ := stk_put hs hr (hk a (by simp))
      obtain ⟨h3, h4⟩ := run_toks n l _ t h1 (fun k hk' => hk k (by simp [hk'])) h
      exact ⟨h3, by rw [h4, h2]; simp⟩
    · cases h
theorem stk_root : Stk [root] := ⟨by simp [root], by simp [root]⟩
theorem took_root : took [root] = [] := rfl

theorem refu_mid {x : Tr} {ts : List Tr} {t : Tok} (h1 : t.kind = 1 → ts.length < 40) (h2 : ts = [] → x.kids = []) (h3 : ts = [] → t.kind ≠ 2) (h4 : ts.length ≤ 40) : refu (x :: ts) t = 0 := by
  unfold refu
  rw [if_neg (fun h => by have := h1 h.1; simp at h; omega), if_neg (fun h => by
    have : ts = [] := List.eq_nil_of_length_eq_zero (by simpa using h.2)
    exact h3 this h.1), if_neg (fun h => by
    have e : ts = [] := List.eq_nil_of_length_eq_zero (by simpa using h.1)
    subst e
    simp [h2 rfl] at h)]
/-- A tree's tokens are taken in as the tree. -/
theorem run_fit (n : Nat) (t : Tr) : ∀ (d : Nat) (x : Tr) (ts : List Tr) (rest : List Tok), Right t → Fit d t → ts.length + d ≤ 40 → (ts = [] → x.kids = []) → run n (x :: ts) (toks t ++ rest) = run n (addKid x t :: ts) rest := by
  induction t using tr_ind with
  | h t ih =>
    intro d x ts rest hR hF hd hx
    have hR' := hR
    rw [Right_eq] at hR
    rcases hR with ⟨k1, ks, kk⟩ | ⟨k1, k2, kk, ke⟩
    · cases d with
      | zero => exact absurd k1 hF
      | succ d =>
        have hF2 := hF k1
        have key : ∀ (ks : List Tr) (y : Tr), (∀ k ∈ ks, k ∈ t.kids) → run n (y :: x :: ts) ((ks.map toks).flatten ++ ([t.shut] ++ rest)) = run n (⟨y.kind, y.place, y.text, y.kids ++ ks, y.shut⟩ :: x :: ts) ([t.shut] ++ rest) := by
          intro ks
          induction ks with
          | nil => intro y _; rw [List.map_nil, List.flatten_nil, List.nil_append, List.append_nil]; cases y; rfl
          | cons k ks ihk =>
            intro y hks
            rw [List.map_cons, List.flatten_cons, List.append_assoc, ih k (hks k (by simp)) d y (x :: ts) _ (kk k (hks k (by simp))) (hF2 k (hks k (by simp))) (by simp; omega) (by simp), ihk _ (fun k' hk' => hks k' (by simp [hk']))]
            simp [addKid]
        rw [toks_eq, if_pos k1, List.cons_append]
        rw [run, if_pos (refu_mid (fun _ => by omega) hx (fun _ => by simp) (by omega)), List.append_assoc]
        have e : put (x :: ts) ⟨1, t.place, t.text⟩ = leaf ⟨1, t.place, t.text⟩ :: x :: ts := rfl
        rw [e, key t.kids _ (fun _ h => h)]
        simp only [List.singleton_append]
        rw [run, if_pos (refu_mid (fun h => by rw [ks] at h; cases h) (by simp) (by simp) (by simp; omega))]
        congr 1
        simp only [put, ks]
        obtain ⟨a, b, c, d', e'⟩ := t
        simp at k1
        simp [shutBy, leaf, k1]
    · rw [toks_eq, if_neg k1]
      simp only [List.singleton_append]
      rw [run, if_pos (refu_mid (fun h => absurd h k1) hx (fun _ => k2) (by omega))]
      congr 1
      simp only [put, k1, k2, if_false]
      obtain ⟨a, b, c, d', e'⟩ := t
      simp only at kk ke
      subst kk
      subst ke
      rfl
end Go.Proofs.Ytcokihblicgbpaa

namespace Go.Proofs.Ytcokihblicgbpaa

/-- As many brackets as there are may be too many; nothing else is refused of a tree's tokens. -/
theorem run_or (n : Nat) (t : Tr) : ∀ (x : Tr) (ts : List Tr) (rest : List Tok), Right t → ts.length ≤ 40 → (ts = [] → x.kids = []) → (∃ b, run n (x :: ts) (toks t ++ rest) = .error (14, b)) ∨ run n (x :: ts) (toks t ++ rest) = run n (addKid x t :: ts) rest := by
  induction t using tr_ind with
  | h t ih =>
    intro x ts rest hR hd hx
    rw [Right_eq] at hR
    rcases hR with ⟨k1, ks, kk⟩ | ⟨k1, k2, kk, ke⟩
    · by_cases h40 : ts.length = 40
      · left
        rw [toks_eq, if_pos k1, List.cons_append, run]
        have e : refu (x :: ts) ⟨1, t.place, t.text⟩ = 14 := by simp [refu, h40]
        rw [e]
        exact ⟨_, rfl⟩
      have key : ∀ (ks : List Tr) (y : Tr), (∀ k ∈ ks, k ∈ t.kids) → (∃ b, run n (y :: x :: ts) ((ks.map toks).flatten ++ ([t.shut] ++ rest)) = .error (14, b)) ∨ run n (y :: x :: ts) ((ks.map toks).flatten ++ ([t.shut] ++ rest)) = run n (⟨y.kind, y.place, y.text, y.kids ++ ks, y.shut⟩ :: x :: ts) ([t.shut] ++ rest) := by
        intro ks
        induction ks with
        | nil => intro y _; right; rw [List.map_nil, List.flatten_nil, List.nil_append, List.append_nil]; cases y; rfl
        | cons k ks ihk =>
          intro y hks
          rw [List.map_cons, List.flatten_cons, List.append_assoc]
          rcases ih k (hks k (by simp)) y (x :: ts) ((ks.map toks).flatten ++ ([t.shut] ++ rest)) (kk k (hks k (by simp))) (by simp; omega) (by simp) with h | h
          · exact .inl h
          · rw [h]
            rcases ihk (addKid y k) (fun k' hk' => hks k' (by simp [hk'])) with h | h
            · exact .inl h
            · right
              rw [h]
              simp [addKid]
      rw [toks_eq, if_pos k1, List.cons_append, run, if_pos (refu_mid (fun _ => by omega) hx (fun _ => by simp) (by omega)), List.append_assoc]
      have e : put (x :: ts) ⟨1, t.place, t.text⟩ = leaf ⟨1, t.place, t.text⟩ :: x :: ts := rfl
      rw [e]
      rcases key t.kids (leaf ⟨1, t.place, t.text⟩) (fun _ h => h) with h | h
      · exact .inl h
      · right
        rw [h]
        simp only [List.singleton_append]
        rw [run, if_pos (refu_mid (fun h => by rw [ks] at h; cases h) (by simp) (by simp) (by simp; omega))]
        congr 1
        simp only [put, ks]
        obtain ⟨a, b, c, d', e'⟩ := t
        simp at k1
        simp [shutBy, leaf, k1]
    · right
      rw [toks_eq, if_neg k1]
      simp only [List.singleton_append]
      rw [run, if_pos (refu_mid (fun h => absurd h k1) hx (fun _ => k2) (by omega))]
      congr 1
      simp only [put, k1, k2, if_false]
      obtain ⟨a, b, c, d', e'⟩ := t
      simp only at kk ke
      subst kk
      subst ke
      rfl
theorem runs_or (n : Nat) : ∀ (ks : List Tr) (y x : Tr) (ts : List Tr) (rest : List Tok), (∀ k ∈ ks, Right k) → ts.length ≤ 39 → (∃ b, run n (y :: x :: ts) ((ks.map toks).flatten ++ rest) = .error (14, b)) ∨ run n (y :: x :: ts) ((ks.map toks).flatten ++ rest) = run n (⟨y.kind, y.place, y.text, y.kids ++ ks, y.shut⟩ :: x :: ts) rest
  | [], y, x, ts, rest, _, _ => by right; rw [List.map_nil, List.flatten_nil, List.nil_append, List.append_nil]; cases y; rfl
  | k :: ks, y, x, ts, rest, hk, hl => by
    rw [List.map_cons, List.flatten_cons, List.append_assoc]
    rcases run_or n k y (x :: ts) ((ks.map toks).flatten ++ rest) (hk k (by simp)) (by simp; omega) (by simp) with h | h
    · exact .inl h
    · rw [h]
      rcases runs_or n ks (addKid y k) x ts rest (fun k' hk' => hk k' (by simp [hk'])) hl with h | h
      · exact .inl h
      · right
        rw [h]
        simp [addKid]

/-- A token as parting a text gives them. -/
def GTok (k : Tok) : Prop := (k.kind = 1 ∧ k.text = []) ∨ (k.kind = 2 ∧ k.text = []) ∨ (k.kind = 3 ∧ k.text ≠ [] ∧ ∀ c ∈ k.text, isAtom c = true) ∨ (k.kind = 4 ∧ k.text.length ≤ 200)
theorem GTok.kind {k : Tok} (h : GTok k) : k.kind ≠ 0 := by
  rcases h with h | h | h | h <;> omega
theorem tw_mem (f : UInt8 → Bool) : ∀ (r : List UInt8), ∀ c ∈ r.takeWhile f, f c = true
  | [], c, h => by cases h
  | a :: r, c, h => by
    by_cases ha : f a = true
    · rw [List.takeWhile_cons_of_pos ha] at h
      rcases List.mem_cons.1 h with rfl | h
      · exact ha
      · exact tw_mem f r c h
    · rw [List.takeWhile_cons_of_neg ha] at h
      cases h
theorem sp_good : ∀ (n : Nat) (l : List UInt8) (p : Nat) (acc out : List Tok), l.length ≤ n → (∀ k ∈ acc, GTok k) → sp l p acc = .ok out → ∀ k ∈ out, GTok k := by
  have add : ∀ (acc : List Tok) (t : Tok), (∀ k ∈ acc, GTok k) → GTok t → ∀ k ∈ acc ++ [t], GTok k := by
    intro acc t h1 h2 k hk
    rcases List.mem_append.1 hk with h | h
    · exact h1 k h
    · rw [List.mem_singleton.1 h]; exact h2
  intro n
  induction n with
  | zero =>
    intro l p acc out hn ha h
    have : l = [] := List.eq_nil_of_length_eq_zero (by omega)
    subst this
    rw [sp_nil] at h
    cases h
    exact ha
  | succ n ih =>
    intro l p acc out hn ha h
    cases l with
    | nil =>
      rw [sp_nil] at h
      cases h
      exact ha
    | cons c r =>
      simp only [List.length_cons] at hn
      by_cases c0 : isAtom c = true
      · rw [sp_atom r p acc c0] at h
        refine ih _ _ _ _ (by simp; omega) (add _ _ ha (.inr (.inr (.inl ⟨rfl, by simp, ?_⟩)))) h
        intro x hx
        rcases List.mem_cons.1 hx with rfl | hx
        · exact c0
        · exact tw_mem _ _ _ hx
      by_cases c1 : c.toNat = 34
      · rw [sp_quoted r p acc c1] at h
        split at h
        · cases h
        · rename_i t nx hq
          obtain ⟨_, _, _, n4⟩ := q_next _ _ _ _ _ _ _ (Nat.le_refl _) hq
          exact ih _ _ _ _ (by simp; omega) (add _ _ ha (.inr (.inr (.inr ⟨rfl, n4⟩)))) h
      by_cases c2 : c.toNat = 59
      · rw [sp_remark r p acc c2] at h
        exact ih _ _ _ _ (by simp; omega) ha h
      by_cases c3 : c.toNat = 40
      · rw [sp_open r p acc c3] at h
        exact ih _ _ _ _ (by omega) (add _ _ ha (.inl ⟨rfl, rfl⟩)) h
      by_cases c4 : c.toNat = 41
      · rw [sp_close r p acc c4] at h
        exact ih _ _ _ _ (by omega) (add _ _ ha (.inr (.inl ⟨rfl, rfl⟩))) h
      by_cases c5 : isParts c = true
      · rw [sp_parts r p acc c5] at h
        exact ih _ _ _ _ (by omega) ha h
      rw [sp_bad r p acc (Bool.eq_false_iff.2 c0) c1 c2 c3 c4 (Bool.eq_false_iff.2 c5)] at h
      cases h
theorem split_good {L : List UInt8} {l : List Tok} (h : splitR L = .ok l) : ∀ k ∈ l, GTok k := by
  unfold splitR at h
  split at h
  · cases h
  · exact sp_good _ _ _ _ _ (Nat.le_refl _) (by simp) h
theorem places_text (L : List UInt8) : ∀ (l : List Tok) (a : Nat), places L l a → ∀ k ∈ l, k.kind = 3 → k.text.length ≤ L.length
  | [], _, _, k, hk, _ => by cases hk
  | t :: r, a, ⟨h1, h2, h3⟩, k, hk, k3 => by
    rcases List.mem_cons.1 hk with rfl | hk
    · rcases h3 with h | h | h | h
      · omega
      · omega
      · have := h.2.2.2.1; omega
      · omega
    · rcases h3 with h | h | h | h
      · exact places_text L r _ h.2.2 k hk k3
      · exact places_text L r _ h.2.2 k hk k3
      · exact places_text L r _ h.2.2.2.2 k hk k3
      · exact places_text L r _ h.2.2 k hk k3
/-- What parting a text gives: not many tokens, none long. -/
theorem split_size {L : List UInt8} {l : List Tok} (h : splitR L = .ok l) : l.length ≤ 8192 ∧ ∀ k ∈ l, k.text.length ≤ 8192 := by
  obtain ⟨h1, h2⟩ := split_places L l h
  have h3 := places_length L l 0 h1
  refine ⟨by omega, fun k hk => ?_⟩
  rcases split_good h k hk with g | g | g | g
  · rw [g.2]; simp
  · rw [g.2]; simp
  · have := places_text L l 0 h1 k hk g.1
    omega
  · omega

/-- What comes behind ends an Atom. -/
def Ends (Y : List UInt8) : Prop := ∀ c r, Y = c :: r → isAtom c = false
theorem tw_ends {x Y : List UInt8} (hx : ∀ c ∈ x, isAtom c = true) (hY : Ends Y) : (x ++ Y).takeWhile isAtom = x := by
  cases Y with
  | nil => rw [List.append_nil]; exact tw_all _ _ hx
  | cons c r => rw [tw_tail isAtom c r (hY c r rfl)]; exact tw_all _ _ hx
theorem sp_print (t : Tr) : Right t → (∀ k ∈ toks t, GTok k) → ∀ (Y : List UInt8) (p : Nat) (acc : List Tok), Ends Y →
    ∃ t' : Tr, strip t = strip t' ∧ Right t' ∧ sp (pr t ++ Y) p acc = sp Y (p + (pr t).length) (acc ++ toks t') := by
  induction t using tr_ind with
  | h t ih =>
    intro hR hG Y p acc hY
    rw [Right_eq] at hR
    rcases hR with ⟨k1, ks, kk⟩ | ⟨k1, k2, kk, ke⟩
    · rw [toks_eq, if_pos k1] at hG
      have hx : t.text = [] := by
        rcases hG ⟨1, t.place, t.text⟩ (by simp) with g | g | g | g
        · exact g.2
        · exact g.2
        · cases g.1
        · cases g.1
      have key : ∀ (ks : List Tr) (b : Bool) (p : Nat) (acc : List Tok) (Y : List UInt8), Ends Y → (∀ k ∈ ks, k ∈ t.kids) → ∃ ks' : List Tr, ks.map strip = ks'.map strip ∧ (∀ k ∈ ks', Right k) ∧ sp (seps b (ks.map pr) ++ Y) p acc = sp Y (p + (seps b (ks.map pr)).length) (acc ++ (ks'.map toks).flatten) := by
        intro ks
        induction ks with
        | nil => intro b p acc Y _ _; exact ⟨[], rfl, by simp, by simp [seps]⟩
        | cons k ks ihk =>
          intro b p acc Y hY hks
          have hkt := hks k (by simp)
          have hE : Ends (seps true (ks.map pr) ++ Y) := by
            cases ks with
            | nil => exact hY
            | cons k2 ks =>
              intro c r h
              simp [seps] at h
              rw [← h.1]
              decide
          have hGk : ∀ j ∈ toks k, GTok j := fun j hj => hG j (by
            simp only [List.mem_cons, List.mem_append, List.mem_flatten, List.mem_map]
            exact .inr (.inl ⟨toks k, ⟨k, hkt, rfl⟩, hj⟩))
          obtain ⟨k', e1, e2, e3⟩ := ih k hkt (kk k hkt) hGk (seps true (ks.map pr) ++ Y) (p + (if b then [32] else [] : List UInt8).length) acc hE
          obtain ⟨ks', f1, f2, f3⟩ := ihk true (p + (if b then [32] else [] : List UInt8).length + (pr k).length) (acc ++ toks k') Y hY (fun j hj => hks j (by simp [hj]))
          refine ⟨k' :: ks', by simp [e1, f1], ?_, ?_⟩
          · intro j hj
            rcases List.mem_cons.1 hj with rfl | hj
            · exact e2
            · exact f2 j hj
          · have e4 : seps b ((k :: ks).map pr) ++ Y = (if b then [32] else [] : List UInt8) ++ (pr k ++ (seps true (ks.map pr) ++ Y)) := by simp [seps]
            rw [e4, sp_blanks _ _ _ _ (by cases b <;> simp [isParts]), e3, f3]
            congr 1
            · simp [seps]; omega
            · simp
      obtain ⟨ks', f1, f2, f3⟩ := key t.kids false (p + 1) (acc ++ [⟨1, p, []⟩]) (41 :: Y) (by intro c r h; cases h; decide) (fun _ h => h)
      refine ⟨⟨1, p, [], ks', ⟨2, p + 1 + (seps false (t.kids.map pr)).length, []⟩⟩, ?_, ?_, ?_⟩
      · rw [strip_eq t, strip_eq, k1, hx, f1]
      · rw [Right_eq]
        exact .inl ⟨rfl, rfl, f2⟩
      · have e : pr t = 40 :: (seps false (t.kids.map pr) ++ [41]) := by rw [pr_eq, if_neg (by omega), if_neg (by omega), if_pos k1]
        rw [e, List.cons_append, sp_open _ _ _ rfl, List.append_assoc, List.singleton_append, f3, sp_close _ _ _ rfl, toks_eq, if_pos rfl]
        congr 1
        · simp; omega
        · simp
    · rw [toks_eq, if_neg k1] at hG
      have g := hG ⟨t.kind, t.place, t.text⟩ (by simp)
      rcases g with g | g | g | g
      · exact absurd g.1 k1
      · exact absurd g.1 k2
      · obtain ⟨g1, g2, g3⟩ := g
        simp only at g1 g2 g3
        have e : pr t = t.text := by rw [pr_eq, if_pos g1]
        refine ⟨⟨3, p, t.text, [], ⟨3, p, t.text⟩⟩, ?_, ?_, ?_⟩
        · rw [strip_eq t, strip_eq, g1, kk]
        · rw [Right_eq]
          exact .inr ⟨by simp, by simp, rfl, rfl⟩
        · rw [e, toks_eq, if_neg (by simp)]
          cases hx : t.text with
          | nil => exact absurd hx g2
          | cons c r =>
            rw [hx] at g3
            have tw : (r ++ Y).takeWhile isAtom = r := tw_ends (fun c hc => g3 c (by simp [hc])) hY
            rw [List.cons_append, sp_atom _ _ _ (g3 c (by simp)), tw, List.drop_left]
            congr 1
            simp; omega
      · obtain ⟨g1, g2⟩ := g
        simp only at g1 g2
        have e : pr t = quoteR t.text := by rw [pr_eq, if_neg (by omega), if_pos g1]
        refine ⟨⟨4, p, t.text, [], ⟨4, p, t.text⟩⟩, ?_, ?_, ?_⟩
        · rw [strip_eq t, strip_eq, g1, kk]
        · rw [Right_eq]
          exact .inr ⟨by simp, by simp, rfl, rfl⟩
        · rw [e, toks_eq, if_neg (by simp), sp_quote _ _ _ _ g2]
theorem prints_or (ks : List Tr) : ∀ (p : Nat) (acc : List Tok) (Y : List UInt8), Ends Y → (∀ k ∈ ks, Right k ∧ ∀ j ∈ toks k, GTok j) → ∃ ks' : List Tr, ks.map strip = ks'.map strip ∧ (∀ k ∈ ks', Right k) ∧ sp (seps true (ks.map pr) ++ Y) p acc = sp Y (p + (seps true (ks.map pr)).length) (acc ++ (ks'.map toks).flatten) := by
  induction ks with
  | nil => intro p acc Y _ _; exact ⟨[], rfl, by simp, by simp [seps]⟩
  | cons k ks ihk =>
    intro p acc Y hY hks
    have hE : Ends (seps true (ks.map pr) ++ Y) := by
      cases ks with
      | nil => exact hY
      | cons k2 ks =>
        intro c r h
        simp [seps] at h
        rw [← h.1]
        decide
    obtain ⟨k', e1, e2, e3⟩ := sp_print k (hks k (by simp)).1 (hks k (by simp)).2 (seps true (ks.map pr) ++ Y) (p + 1) acc hE
    obtain ⟨ks', f1, f2, f3⟩ := ihk (p + 1 + (pr k).length) (acc ++ toks k') Y hY (fun j hj => hks j (by simp [hj]))
    refine ⟨k' :: ks', by simp [e1, f1], ?_, ?_⟩
    · intro j hj
      rcases List.mem_cons.1 hj with rfl | hj
      · exact e2
      · exact f2 j hj
    · have e4 : seps true ((k :: ks).map pr) ++ Y = 32 :: (pr k ++ (seps true (ks.map pr) ++ Y)) := by simp [seps]
      rw [e4, sp_parts _ _ _ (by decide), e3, f3]
      congr 1
      · simp [seps]; omega
      · simp

/-- How long a print is. -/
def cost (l : List Tok) : Nat := (l.map fun k => 4 * k.text.length + 3).sum
theorem quoteR_length (b : List UInt8) : (quoteR b).length ≤ 4 * b.length + 2 ∧ b.length ≤ (quoteR b).length := by
  have h := quote_length b
  have h2 : b.length ≤ (b.flatMap qByte).length := by
    clear h
    induction b with
    | nil => simp
    | cons c r ih =>
      have : 1 ≤ (qByte c).length := by
        unfold qByte
        split
        · simp
        · split
          · simp
          · split <;> simp
      rw [List.flatMap_cons, List.length_append, List.length_cons]
      omega
  simp only [quoteR, List.length_cons, List.length_append, List.length_nil]
  omega
theorem pr_cost (t : Tr) : (pr t).length + 1 ≤ cost (toks t) := by
  induction t using tr_ind with
  | h t ih =>
    have key : ∀ (ks : List Tr) (b : Bool), (∀ k ∈ ks, (pr k).length + 1 ≤ cost (toks k)) → (seps b (ks.map pr)).length ≤ cost ((ks.map toks).flatten) := by
      intro ks
      induction ks with
      | nil => intro b _; simp [seps]
      | cons k ks ihk =>
        intro b h
        have h1 := h k (by simp)
        have h2 := ihk true (fun j hj => h j (by simp [hj]))
        have e : cost (((k :: ks).map toks).flatten) = cost (toks k) + cost ((ks.map toks).flatten) := by simp [cost]
        rw [e]
        cases b <;> simp [seps] <;> omega
    rw [pr_eq, toks_eq]
    by_cases k1 : t.kind = 1
    · have h := key t.kids false ih
      simp only [k1, if_true]
      rw [if_neg (by decide), if_neg (by decide)]
      simp only [cost, List.map_cons, List.sum_cons, List.map_append, List.sum_append, List.length_cons, List.length_append, List.length_nil, List.map_nil, List.sum_nil] at h ⊢
      omega
    · rw [if_neg k1, if_neg k1]
      have e : cost [⟨t.kind, t.place, t.text⟩] = 4 * t.text.length + 3 := by simp [cost]
      rw [e]
      have := (quoteR_length t.text).1
      split
      · omega
      · split
        · omega
        · simp
theorem cost_le (M : Nat) : ∀ (l : List Tok), (∀ k ∈ l, k.text.length ≤ M) → cost l ≤ l.length * (4 * M + 3)
  | [], _ => by simp [cost]
  | k :: l, h => by
    have h1 := h k (by simp)
    have h2 := cost_le M l (fun j hj => h j (by simp [hj]))
    have e : cost (k :: l) = 4 * k.text.length + 3 + cost l := by simp [cost]
    rw [e, List.length_cons, Nat.add_mul, Nat.one_mul]
    omega
/-- What is read: its tokens, and how long its print is. -/
theorem parse_ok {L : List UInt8} {t : Tr} (h : parseR L = .ok t) : Right t ∧ splitR L = .ok (toks t) ∧ (∀ k ∈ toks t, GTok k) ∧ (pr t).length ≤ 300000000 := by
  unfold parseR at h
  cases hs : splitR L with
  | error e => rw [hs] at h; cases h
  | ok l =>
    rw [hs] at h
    simp only at h
    split at h
    · cases h
    · obtain ⟨h1, h2⟩ := run_toks _ l [root] t stk_root (fun k hk => (split_good hs k hk).kind) h
      rw [took_root, List.nil_append] at h2
      obtain ⟨h3, h4⟩ := split_size hs
      have h5 := pr_cost t
      have h6 := cost_le 8192 l h4
      have h7 : l.length * (4 * 8192 + 3) ≤ 8192 * (4 * 8192 + 3) := Nat.mul_le_mul_right _ h3
      rw [h2] at h5 ⊢
      exact ⟨h1, rfl, split_good hs, by omega⟩
theorem fit_strip : ∀ (d : Nat) (t u : Tr), strip t = strip u → Fit d t → Fit d u
  | 0, t, u, h, f => by
    rw [Fit] at f ⊢
    rw [← (strip_parts h).1]
    exact f
  | d + 1, t, u, h, f => by
    obtain ⟨h1, _, h3⟩ := strip_parts h
    obtain ⟨h4, h5⟩ := map_strip_get h3
    rw [Fit] at f ⊢
    intro k1 k hk
    obtain ⟨i, hi, rfl⟩ := List.getElem_of_mem hk
    exact fit_strip d _ _ (h5 i (by omega) hi) (f (by omega) _ (List.getElem_mem _))
/-- A tree that is printed is read as itself, but for places. -/
theorem parse_print {t : Tr} {d : Nat} (hR : Right t) (hG : ∀ k ∈ toks t, GTok k) (hF : Fit d t) (hd : d ≤ 40) (hl : (pr t).length ≤ 8192) : ∃ t', parseR (pr t) = .ok t' ∧ strip t = strip t' := by
  obtain ⟨t', h1, h2, h3⟩ := sp_print t hR hG [] 0 [] (by intro c r h; cases h)
  rw [List.append_nil, sp_nil] at h3
  refine ⟨t', ?_, h1⟩
  have hne : toks t' ≠ [] := by rw [toks_eq]; split <;> simp
  unfold parseR splitR
  rw [if_neg (by omega), h3]
  simp only [List.nil_append, hne, if_false]
  have := run_fit (pr t).length t' d root [] [] h2 (fit_strip d _ _ h1 hF) (by simp; omega) (fun _ => rfl)
  rw [List.append_nil] at this
  rw [this]
  simp [run, addKid, root]
/-- Trees within brackets are the Kids. -/
theorem parse_kids {ks : List Tr} (hk : ∀ k ∈ ks, Right k ∧ ∀ j ∈ toks k, GTok j) (hl : (seps true (ks.map pr)).length + 2 ≤ 8192) :
    (∃ b, parseR (40 :: (seps true (ks.map pr) ++ [41])) = .error (14, b)) ∨ ∃ t, parseR (40 :: (seps true (ks.map pr) ++ [41])) = .ok t ∧ t.kind = 1 ∧ t.kids.map strip = ks.map strip := by
  obtain ⟨ks', f1, f2, f3⟩ := prints_or ks 1 [⟨1, 0, []⟩] [41] (by intro c r h; cases h; decide) hk
  have e : splitR (40 :: (seps true (ks.map pr) ++ [41])) = .ok ([⟨1, 0, []⟩] ++ ((ks'.map toks).flatten ++ [⟨2, 1 + (seps true (ks.map pr)).length, []⟩])) := by
    unfold splitR
    rw [if_neg (by simp; omega), sp_open _ _ _ rfl]
    simp only [List.nil_append, Nat.zero_add]
    rw [f3, sp_close _ _ _ rfl, sp_nil]
    simp
  unfold parseR
  rw [e]
  simp only [List.cons_append, List.nil_append, reduceCtorEq, if_false]
  generalize (40 :: (seps true (ks.map pr) ++ [41])).length = n
  rw [run, if_pos (by rfl)]
  have e2 : put [root] ⟨1, 0, []⟩ = [leaf ⟨1, 0, []⟩, root] := rfl
  rw [e2]
  rcases runs_or n ks' (leaf ⟨1, 0, []⟩) root [] [⟨2, 1 + (seps true (ks.map pr)).length, []⟩] f2 (by simp) with h | h
  · exact .inl h
  · right
    rw [h]
    refine ⟨⟨1, 0, [], ks', ⟨2, 1 + (seps true (ks.map pr)).length, []⟩⟩, ?_, rfl, f1.symm⟩
    simp [run, refu, put, leaf, shutBy, addKid, root]
end Go.Proofs.Ytcokihblicgbpaa

namespace Go.Proofs.Ytcokihblicgbpaa
open Go.RowKit

structure Kept (S : Nat → Prop) (w w' : World) : Prop where
  os : w'.os = w.os
  tape : w'.tape = w.tape
  output : w'.output = w.output
  size : w.heap.size ≤ w'.heap.size
  block : ∀ k, k < w.heap.size → ¬ S k → w'.heap[k]? = w.heap[k]?
theorem Kept.refl (S : Nat → Prop) (w : World) : Kept S w w := ⟨rfl, rfl, rfl, Nat.le_refl _, fun _ _ _ => rfl⟩
theorem Kept.trans {S T U : Nat → Prop} {a b c : World} (h : Kept S a b) (k : Kept T b c) (hS : ∀ x, x < a.heap.size → S x → U x) (hT : ∀ x, x < a.heap.size → T x → U x) : Kept U a c :=
  ⟨k.os.trans h.os, k.tape.trans h.tape, k.output.trans h.output, Nat.le_trans h.size k.size, fun i hi hu => (k.block i (Nat.lt_of_lt_of_le hi h.size) (fun e => hu (hT i hi e))).trans (h.block i hi (fun e => hu (hS i hi e)))⟩
theorem Kept.mono {S T : Nat → Prop} {a b : World} (h : Kept S a b) (hS : ∀ x, x < a.heap.size → S x → T x) : Kept T a b :=
  ⟨h.os, h.tape, h.output, h.size, fun i hi hu => h.block i hi (fun e => hu (hS i hi e))⟩
theorem Kept.alloc {S : Nat → Prop} {a w : World} (h : Kept S a w) (o : Obj) : Kept S a (w.alloc o) :=
  ⟨h.os, h.tape, h.output, Nat.le_trans h.size (by simp), fun i hi hu => (Below.heap_alloc _ _ _ (Nat.lt_of_lt_of_le hi h.size)).trans (h.block i hi hu)⟩
theorem Kept.drew {S : Nat → Prop} {a w : World} (h : Kept S a w) : Kept S a w.drew := ⟨h.os, h.tape, h.output, h.size, h.block⟩
theorem Kept.setCell {S : Nat → Prop} {a w : World} (h : Kept S a w) {p : Addr} (hp : p.block < a.heap.size → S p.block) (u : Value) : Kept S a (w.setCell p u) :=
  ⟨h.os, h.tape, h.output, by simpa [World.setCell] using h.size, fun i hi hu => (Below.heap_setCell _ _ _ _ (fun e => hu (by subst e; exact hp hi))).trans (h.block i hi hu)⟩
theorem Kept.grown {S : Nat → Prop} {a w w' : World} {row : Option Nat} (h : Kept S a w) (hg : w.grownBy w' row) (hr : ∀ k, row = some k → k < a.heap.size → S k) : Kept S a w' :=
  ⟨hg.os.trans h.os, hg.tape.trans h.tape, hg.output.trans h.output, Nat.le_trans h.size hg.size, fun i hi hu => (hg.block i (Nat.lt_of_lt_of_le hi h.size) (fun e => hu (hr i e.symm hi))).trans (h.block i hi hu)⟩
theorem Kept.below {S : Nat → Prop} {a w : World} {B : Nat} (h : Kept S a w) (hB : B ≤ a.heap.size) (hS : ∀ x, x < B → ¬ S x) : Below B a w :=
  ⟨h.os, h.tape, h.output, h.size, fun k hk => h.block k (by omega) (hS k hk)⟩
theorem Kept.of_below {a w : World} {B : Nat} (h : Below B a w) : Kept (fun k => B ≤ k) a w := ⟨h.os, h.tape, h.output, h.size, fun k _ hn => h.block k (by omega)⟩
theorem Kept.cell {S : Nat → Prop} {a w : World} (h : Kept S a w) {p : Addr} {v : Value} (hc : a.cell? p = some v) (hp : ¬ S p.block) : w.cell? p = some v :=
  (World.cell?_of_block (h.block p.block (World.block_lt_of_cell? a p hc) hp)).trans hc
theorem Kept.own {S : Nat → Prop} {w w' : World} {B e size n : Nat} {v : Value} {xs : List Value} (k : Kept S w w') (h : w.ownsRow B e size v n xs) (hg : ∀ g, v.ownBlock = some g → ¬ S g) : w'.ownsRow B e size v n xs := by
  refine ⟨h.1, ?_⟩
  rcases h.2 with hn | ⟨g, cap, cur, rfl, hb, hgg, rest⟩
  · exact .inl hn
  · exact .inr ⟨g, cap, cur, rfl, hb, (k.block g (Array.getElem?_eq_some_iff.1 hgg).1 (hg g rfl)).trans hgg, rest⟩

/-- A tree's cells; as a value. -/
def trc (t : Tr) (kv : Value) : List Value := [.int .i64 (t.kind : Int), .int .i64 (t.place : Int), .string (str t.text), kv]
def trv (t : Tr) (kv : Value) : Value := .agg #[.int .i64 (t.kind : Int), .int .i64 (t.place : Int), .string (str t.text), kv]
/-- The Kids of a tree can be read through kv, in blocks of F. -/
def TI (F : Nat → Prop) (w : World) : Value → Tr → Prop
  | kv, ⟨_, _, _, l, _⟩ => (kv = .slice none 0 0 ∧ l = []) ∨ ∃ g cap, kv = .slice (some ⟨g, 0, none⟩) l.length cap ∧ F g ∧ l.length ≤ cap ∧
      ∀ i (h : i < l.length), have _hm := List.getElem_mem h; ∃ kv', TI F w kv' l[i] ∧ ∀ j u, (trc l[i] kv')[j]? = some u → w.cell? ⟨g, i * 4 + j, none⟩ = some u
def TL (F : Nat → Prop) (w : World) (kv : Value) (l : List Tr) : Prop := TI F w kv ⟨0, 0, [], l, ⟨0, 0, []⟩⟩
theorem TI_iff (F : Nat → Prop) (w : World) (kv : Value) (t : Tr) : TI F w kv t ↔ TL F w kv t.kids := by
  obtain ⟨k, p, x, l, e⟩ := t
  unfold TL
  rw [TI, TI]
theorem TL_iff (F : Nat → Prop) (w : World) (kv : Value) (l : List Tr) : TL F w kv l ↔ (kv = .slice none 0 0 ∧ l = []) ∨ ∃ g cap, kv = .slice (some ⟨g, 0, none⟩) l.length cap ∧ F g ∧ l.length ≤ cap ∧
      ∀ i (h : i < l.length), ∃ kv', TL F w kv' l[i].kids ∧ ∀ j u, (trc l[i] kv')[j]? = some u → w.cell? ⟨g, i * 4 + j, none⟩ = some u := by
  unfold TL
  rw [TI]
  simp only [TI_iff]
theorem TL.frame {F G : Nat → Prop} {w w' : World} (hF : ∀ g, F g → G g ∧ w'.heap[g]? = w.heap[g]?) {kv : Value} {l : List Tr} (h : TL F w kv l) : TL G w' kv l := by
  have key : ∀ (t : Tr) (kv : Value), TI F w kv t → TI G w' kv t := by
    intro t
    induction t using tr_ind with
    | h t ih =>
      intro kv h
      rw [TI_iff, TL_iff] at h ⊢
      rcases h with h | ⟨g, cap, h1, h2, hc, h3⟩
      · exact .inl h
      · refine .inr ⟨g, cap, h1, (hF g h2).1, hc, fun i hi => ?_⟩
        obtain ⟨kv', h4, h5⟩ := h3 i hi
        refine ⟨kv', (TI_iff _ _ _ _).1 (ih _ (List.getElem_mem hi) kv' ((TI_iff _ _ _ _).2 h4)), fun j u hj => ?_⟩
        rw [World.cell?_of_block (w := w) (hF g h2).2]
        exact h5 j u hj
  exact key _ kv h
theorem TL.mono {F G : Nat → Prop} {w : World} (hF : ∀ g, F g → G g) {kv : Value} {l : List Tr} (h : TL F w kv l) : TL G w kv l := h.frame fun g hg => ⟨hF g hg, rfl⟩
theorem TL.kept {F S : Nat → Prop} {w w' : World} {kv : Value} {l : List Tr} (h : TL F w kv l) (k : Kept S w w') (hF : ∀ g, F g → g < w.heap.size ∧ ¬ S g) : TL F w' kv l := h.frame fun g hg => ⟨hg, k.block g (hF g hg).1 (hF g hg).2⟩
theorem TL.shape {F : Nat → Prop} {w : World} {kv : Value} {l : List Tr} (h : TL F w kv l) : ∃ a c, kv = .slice a l.length c := by
  rcases (TL_iff _ _ _ _).1 h with ⟨rfl, rfl⟩ | ⟨g, cap, rfl, _⟩
  · exact ⟨none, 0, rfl⟩
  · exact ⟨_, _, rfl⟩
theorem TL.cap {F : Nat → Prop} {w : World} {a : Option Addr} {n c : Nat} {l : List Tr} (h : TL F w (.slice a n c) l) : n ≤ c := by
  rcases (TL_iff _ _ _ _).1 h with ⟨e, _⟩ | ⟨g, cap, e, _, hc, _⟩
  · simp only [Value.slice.injEq] at e
    omega
  · simp only [Value.slice.injEq] at e
    omega
theorem TL.nil (F : Nat → Prop) (w : World) : TL F w (.slice none 0 0) [] := (TL_iff _ _ _ _).2 (.inl ⟨rfl, rfl⟩)
/-- One of them. -/
theorem TL.at {F : Nat → Prop} {w : World} {kv : Value} {l : List Tr} (h : TL F w kv l) (i : Nat) (hi : i < l.length) : ∃ g cap kv', kv = .slice (some ⟨g, 0, none⟩) l.length cap ∧ F g ∧ TL F w kv' l[i].kids ∧
    w.cell? ⟨g, i * 4, none⟩ = some (.int .i64 (l[i].kind : Int)) ∧ w.cell? ⟨g, i * 4 + 1, none⟩ = some (.int .i64 (l[i].place : Int)) ∧ w.cell? ⟨g, i * 4 + 2, none⟩ = some (.string (str l[i].text)) ∧ w.cell? ⟨g, i * 4 + 3, none⟩ = some kv' := by
  rcases (TL_iff _ _ _ _).1 h with ⟨rfl, rfl⟩ | ⟨g, cap, rfl, hg, _, h⟩
  · simp at hi
  · obtain ⟨kv', h1, h2⟩ := h i hi
    exact ⟨g, cap, kv', rfl, hg, h1, h2 0 _ rfl, h2 1 _ rfl, h2 2 _ rfl, h2 3 _ rfl⟩

/-- The cells of a row of trees. -/
def rowc : List Tr → List Value → List Value
  | t :: ts, v :: vs => trc t v ++ rowc ts vs
  | _, _ => []
theorem trc_length (t : Tr) (v : Value) : (trc t v).length = 4 := rfl
theorem rowc_length : ∀ {ts : List Tr} {vs : List Value}, vs.length = ts.length → (rowc ts vs).length = ts.length * 4
  | [], [], _ => rfl
  | [], _ :: _, h => by simp at h
  | _ :: _, [], h => by simp at h
  | t :: ts, v :: vs, h => by
    rw [rowc, List.length_append, trc_length, rowc_length (by simpa using h), List.length_cons]
    omega
theorem rowc_append : ∀ {ts : List Tr} {vs : List Value} (ts' : List Tr) (vs' : List Value), vs.length = ts.length → rowc (ts ++ ts') (vs ++ vs') = rowc ts vs ++ rowc ts' vs'
  | [], [], _, _, _ => rfl
  | [], _ :: _, _, _, h => by simp at h
  | _ :: _, [], _, _, h => by simp at h
  | t :: ts, v :: vs, ts', vs', h => by
    rw [List.cons_append, List.cons_append, rowc, rowc, rowc_append ts' vs' (by simpa using h), List.append_assoc]
theorem rowc_one (t : Tr) (v : Value) : rowc [t] [v] = trc t v := by simp [rowc]
theorem rowc_get : ∀ {ts : List Tr} {vs : List Value} {i j : Nat} {t : Tr} {v : Value}, ts[i]? = some t → vs[i]? = some v → j < 4 → (rowc ts vs)[i * 4 + j]? = (trc t v)[j]?
  | [], _, i, _, _, _, h, _, _ => by simp at h
  | _ :: _, [], i, _, _, _, _, h, _ => by simp at h
  | t' :: ts, v' :: vs, 0, j, t, v, h1, h2, hj => by
    simp at h1 h2
    subst h1
    subst h2
    rw [rowc, Nat.zero_mul, Nat.zero_add, List.getElem?_append_left (by rw [trc_length]; exact hj)]
  | t' :: ts, v' :: vs, i + 1, j, t, v, h1, h2, hj => by
    rw [rowc, List.getElem?_append_right (by rw [trc_length]; omega), trc_length, show (i + 1) * 4 + j - 4 = i * 4 + j from by omega]
    exact rowc_get (by simpa using h1) (by simpa using h2) hj
/-- The Kids of one of them are set. -/
theorem rowc_set : ∀ {ts : List Tr} {vs : List Value} {i : Nat} (t' : Tr) (u : Value), vs.length = ts.length → (∀ t, ts[i]? = some t → t'.kind = t.kind ∧ t'.place = t.place ∧ t'.text = t.text) → (rowc ts vs).set (i * 4 + 3) u = rowc (ts.set i t') (vs.set i u)
  | [], [], _, _, _, _, _ => by simp [rowc]
  | [], _ :: _, _, _, _, h, _ => by simp at h
  | _ :: _, [], _, _, _, h, _ => by simp at h
  | t :: ts, v :: vs, 0, t', u, h, ht => by
    obtain ⟨h1, h2, h3⟩ := ht t rfl
    simp [rowc, trc, h1, h2, h3]
  | t :: ts, v :: vs, i + 1, t', u, h, ht => by
    rw [List.set_cons_succ, List.set_cons_succ, rowc, rowc, List.set_append_right _ _ (by rw [trc_length]; omega), trc_length, show (i + 1) * 4 + 3 - 4 = i * 4 + 3 from by omega, rowc_set t' u (by simpa using h) (by simpa using ht)]
theorem trc_one (t : Tr) (v : Value) (hv : v.oneCell' = true) : ∀ u ∈ trc t v, u.oneCell' = true := by
  intro u hu
  simp only [trc, List.mem_cons, List.not_mem_nil, or_false] at hu
  rcases hu with rfl | rfl | rfl | rfl
  · rfl
  · rfl
  · rfl
  · exact hv

/-- A row of trees of the call's own. -/
def OwnK (e : Nat) (B : Nat) (F : Nat → Prop) (w : World) (kv : Value) (l : List Tr) : Prop :=
  ∃ vs : List Value, vs.length = l.length ∧ w.ownsRow B e 4 kv l.length (rowc l vs) ∧ ∀ (i : Nat) (t : Tr) (v : Value), l[i]? = some t → vs[i]? = some v → TL F w v t.kids
theorem OwnK.nil (e B : Nat) (F : Nat → Prop) (w : World) : OwnK e B F w (.slice none 0 0) [] := ⟨[], rfl, World.ownsRow_nil _ _ _ _, by simp⟩
theorem OwnK.kept {e B : Nat} {F S : Nat → Prop} {w w' : World} {kv : Value} {l : List Tr} (h : OwnK e B F w kv l) (k : Kept S w w') (hF : ∀ g, F g → g < w.heap.size ∧ ¬ S g) (hg : ∀ g, kv.ownBlock = some g → ¬ S g) : OwnK e B F w' kv l := by
  obtain ⟨vs, h1, h2, h3⟩ := h
  exact ⟨vs, h1, k.own h2 hg, fun i t v ht hv => (h3 i t v ht hv).kept k hF⟩
theorem OwnK.mono {e B : Nat} {F G : Nat → Prop} {w : World} {kv : Value} {l : List Tr} (h : OwnK e B F w kv l) (hF : ∀ g, F g → G g) : OwnK e B G w kv l := by
  obtain ⟨vs, h1, h2, h3⟩ := h
  exact ⟨vs, h1, h2, fun i t v ht hv => (h3 i t v ht hv).mono hF⟩
theorem OwnK.lt {e B : Nat} {F : Nat → Prop} {w : World} {kv : Value} {l : List Tr} (h : OwnK e B F w kv l) : ∀ g, kv.ownBlock = some g → B ≤ g ∧ g < w.heap.size := by
  obtain ⟨vs, h1, h2, h3⟩ := h
  exact h2.lt
theorem OwnK.shape {e B : Nat} {F : Nat → Prop} {w : World} {kv : Value} {l : List Tr} (h : OwnK e B F w kv l) : ∃ a c, kv = .slice a l.length c := by
  obtain ⟨vs, h1, h2, h3⟩ := h
  rcases h2.2 with ⟨rfl, hn⟩ | ⟨g, cap, cur, rfl, _⟩
  · exact ⟨none, 0, by rw [hn]⟩
  · exact ⟨_, _, rfl⟩
/-- It can be read. -/
theorem OwnK.shut {e B : Nat} {F : Nat → Prop} {w : World} {kv : Value} {l : List Tr} (h : OwnK e B F w kv l) : TL (fun g => F g ∨ kv.ownBlock = some g) w kv l := by
  obtain ⟨vs, h1, h2, h3⟩ := h
  rw [TL_iff]
  rcases h2.2 with ⟨rfl, hn⟩ | ⟨g, cap, cur, rfl, hb, hgg, hcap, _⟩
  · exact .inl ⟨rfl, List.eq_nil_of_length_eq_zero hn⟩
  · refine .inr ⟨g, cap, rfl, .inr rfl, hcap, fun i hi => ?_⟩
    have hi' : i < vs.length := by omega
    refine ⟨vs[i], (h3 i l[i] vs[i] (List.getElem?_eq_getElem hi) (List.getElem?_eq_getElem hi')).mono fun g h => .inl h, fun j u hj => ?_⟩
    have hj4 : j < 4 := by
      rcases Nat.lt_or_ge j 4 with h | h
      · exact h
      · rw [List.getElem?_eq_none (by rw [trc_length]; exact h)] at hj; cases hj
    rw [h2.cellAt _ (by omega), rowc_get (List.getElem?_eq_getElem hi) (List.getElem?_eq_getElem hi') hj4]
    exact hj
/-- A tree is appended: what the law on append gives. -/
theorem OwnK.add {e B : Nat} {F : Nat → Prop} {w w' : World} {kv kv' : Value} {l : List Tr} {t : Tr} {u : Value} {vs : List Value} (h1 : vs.length = l.length) (h3 : ∀ (i : Nat) (t : Tr) (v : Value), l[i]? = some t → vs[i]? = some v → TL F w v t.kids)
    (hF : ∀ g, F g → g < w.heap.size ∧ kv.ownBlock ≠ some g) (hown : w'.ownsRow B e 4 kv' (l.length + 1) (rowc l vs ++ trc t u)) (k : Kept (fun g => kv.ownBlock = some g) w w') (ht : TL F w u t.kids) : OwnK e B F w' kv' (l ++ [t]) := by
  refine ⟨vs ++ [u], by simp [h1], ?_, fun i t' v ht' hv => ?_⟩
  · rw [rowc_append _ _ h1, rowc_one, List.length_append]
    exact hown
  · refine TL.kept ?_ k hF
    rw [List.getElem?_append] at ht' hv
    split at ht'
    · rw [if_pos (by omega)] at hv
      exact h3 i t' v ht' hv
    · rw [if_neg (by omega)] at hv
      rw [h1] at hv
      obtain ⟨hlt, e1⟩ := List.getElem?_eq_some_iff.1 ht'
      have hz : i - l.length = 0 := by simp at hlt; omega
      rw [hz] at ht' hv
      simp at ht' hv
      subst ht'
      subst hv
      exact ht

theorem infoRf : (Try.prog.info? 43).map (fun i => (i.zero.map (fun z => z.cells.size), i.size, i.bytes)) = some (some 4, 4, 56) := by kernel_rfl
end Go.Proofs.Ytcokihblicgbpaa

namespace Go.Proofs.Ytcokihblicgbpaa
open Go.RowKit

theorem set4 (xs : List Value) (n : Nat) (hx : xs.length = n * 4) (z a b c d : Value) (y1 y2 y3 : Value) : ((((xs ++ [z, y1, y2, y3]).set (n * 4) a).set (n * 4 + 1) b).set (n * 4 + 2) c).set (n * 4 + 3) d = xs ++ [a, b, c, d] := by
  rw [List.set_append_right _ _ (by omega), List.set_append_right _ _ (by omega), List.set_append_right _ _ (by omega), List.set_append_right _ _ (by omega), hx, show n * 4 - n * 4 = 0 from by omega, show n * 4 + 1 - n * 4 = 1 from by omega, show n * 4 + 2 - n * 4 = 2 from by omega, show n * 4 + 3 - n * 4 = 3 from by omega]
  rfl
end Go.Proofs.Ytcokihblicgbpaa

namespace Go.Proofs.Ytcokihblicgbpaa
open Go.RowKit

theorem cells_at (w : World) (xs : List Value) (t : TypeId) {g : Nat} (hg : g = w.heap.size) : ∀ j u, xs[j]? = some u → (w.alloc (.cells xs.toArray t)).cell? ((⟨g, 0, none⟩ : Addr).add j) = some u := by
  subst hg
  exact cells_new w xs t
def tkv (t : Tok) : Value := .agg #[.int .i64 (t.kind : Int), .int .i64 (t.place : Int), .string (str t.text)]
theorem zone : ∀ u ∈ ([.int .i64 0, .int .i64 0, .string ⟨#[]⟩, .slice none 0 0] : List Value), u.oneCell' = true := by
  intro u hu
  simp only [List.mem_cons, List.not_mem_nil, or_false] at hu
  rcases hu with rfl | rfl | rfl | rfl <;> rfl
theorem setCell_comm (w : World) {a b : Addr} (h : a.block ≠ b.block) (u v : Value) : (w.setCell a u).setCell b v = (w.setCell b v).setCell a u := by
  unfold World.setCell
  simp only [World.mk.injEq, and_true]
  apply Array.ext
  · simp
  · intro i h1 h2
    simp only [Array.getElem_modify]
    by_cases ha : a.block = i
    · by_cases hb : b.block = i
      · exact absurd (ha.trans hb.symm) h
      · simp [ha, hb]
    · by_cases hb : b.block = i
      · simp [ha, hb]
      · simp [ha, hb]
end Go.Proofs.Ytcokihblicgbpaa

namespace Go.Proofs.Ytcokihblicgbpaa
open Go.RowKit

end Go.Proofs.Ytcokihblicgbpaa

namespace Go.Proofs.Ytcokihblicgbpaa
open Go.RowKit

theorem split_last {vs : List Value} {n : Nat} (h : vs.length = n + 1) : ∃ vs0 k, vs = vs0 ++ [k] ∧ vs0.length = n := by
  have hne : vs ≠ [] := fun e => by rw [e] at h; simp at h
  exact ⟨vs.dropLast, vs.getLast hne, (List.dropLast_concat_getLast hne).symm, by simp [h]⟩
end Go.Proofs.Ytcokihblicgbpaa

namespace Go.Proofs.Ytcokihblicgbpaa
open Go.RowKit

def refI (k n m : Nat) : Int := if k = 1 ∧ n = 41 then 14 else if k = 2 ∧ n = 1 then 12 else if n = 1 ∧ m ≠ 0 then 11 else 0
theorem refI_eq {rs : List Tr} {b : Tr} (hb : rs.getLast? = some b) (t : Tok) : refI t.kind rs.length b.kids.length = (refu rs t : Int) := by
  unfold refI refu
  rw [hb]
  simp only [Option.map_some, Option.getD_some]
  repeat' split
  all_goals first | rfl | (exfalso; simp_all)
end Go.Proofs.Ytcokihblicgbpaa

namespace Go.Proofs.Ytcokihblicgbpaa
open Go.RowKit

/-- What Parse answers. -/
def PE (r : Except (Nat × Nat) Tr) (w : World) (e : Ending) (w' : World) : Prop :=
  (match r with
  | .ok t => ∃ kv, e = .returned (.tuple #[trv t kv, .int .i64 0, .int .i64 0]) ∧ TL (fun g => w.heap.size ≤ g ∧ g < w'.heap.size) w' kv t.kids
  | .error (y, b) => e = .returned (.tuple #[trv root (.slice none 0 0), .int .i64 (y : Int), .int .i64 (b : Int)])) ∧ Below w.heap.size w w'
theorem pe_no {r : Except (Nat × Nat) Tr} {w w' : World} {y b : Nat} {z x : Int} {e : Ending} (h : r = .error (y, b)) (hz : z = (y : Int)) (hx : x = (b : Int)) (he : e = .returned (.tuple #[.agg #[.int .i64 0, .int .i64 0, .string ⟨#[]⟩, .slice none 0 0], .int .i64 z, .int .i64 x])) (hb : Below w.heap.size w w') : PE r w e w' := by
  subst h hz hx he
  exact ⟨rfl, hb⟩
theorem pe_ok {r : Except (Nat × Nat) Tr} {w w' : World} {t : Tr} {kv : Value} {e : Ending} (h : r = .ok t) (he : e = .returned (.tuple #[trv t kv, .int .i64 0, .int .i64 0])) (ht : TL (fun g => w.heap.size ≤ g ∧ g < w'.heap.size) w' kv t.kids) (hb : Below w.heap.size w w') : PE r w e w' := by
  subst h he
  exact ⟨⟨kv, rfl, ht⟩, hb⟩

theorem run_end {n : Nat} {ts : List Tr} (h : 1 < ts.length) : run n ts [] = .error (10, n) := by
  unfold run
  rw [if_pos h]
theorem run_whole {n : Nat} {b x : Tr} {r : List Tr} (h : b.kids = x :: r) : run n [b] [] = .ok x := by
  unfold run
  rw [if_neg (by simp)]
  simp only [h]
theorem toks_ne (t : Tr) : 1 ≤ (toks t).length := by rw [toks_eq]; split <;> simp
theorem kids_toks : ∀ (l : List Tr), l.length ≤ ((l.map toks).flatten).length
  | [] => by simp
  | t :: l => by
    have := toks_ne t
    have := kids_toks l
    simp only [List.length_cons, List.map_cons, List.flatten_cons, List.length_append]
    omega
theorem took_kids : ∀ (rs : List Tr), ∀ t ∈ rs, t.kids.length ≤ (took rs).length
  | [], t, h => by cases h
  | [b], t, h => by
    simp at h
    subst h
    exact kids_toks _
  | x :: y :: r, t, h => by
    rw [took_cons, List.length_append, List.length_cons]
    rcases List.mem_cons.1 h with rfl | h
    · have := kids_toks t.kids
      omega
    · have := took_kids (y :: r) t h
      omega
theorem refu_lt {rs : List Tr} {t : Tok} (h : refu rs t = 0) (hl : rs.length ≤ 41) : (put rs t).length ≤ 41 := by
  unfold put
  split
  · simp
  · rename_i x r
    split
    · rename_i k1
      simp only [List.length_cons] at hl ⊢
      have : r.length + 1 ≠ 41 := fun e => by simp [refu, k1, e] at h
      omega
    · split
      · split
        · simp
        · simp only [List.length_cons] at hl ⊢; omega
      · simpa using hl
theorem bottom {rs : List Tr} (h : rs ≠ []) : ∃ b, rs.getLast? = some b ∧ rs.reverse[0]? = some b := by
  refine ⟨rs.getLast h, List.getLast?_eq_some_getLast h, ?_⟩
  rw [← List.head?_eq_getElem?, List.head?_reverse, List.getLast?_eq_some_getLast h]
theorem stk_ne {rs : List Tr} (h : Stk rs) : rs ≠ [] := fun e => by subst e; exact h
theorem refu_cases (rs : List Tr) (t : Tok) : refu rs t = 0 ∨ refu rs t = 11 ∨ refu rs t = 12 ∨ refu rs t = 14 := by
  unfold refu
  repeat' split
  all_goals simp
theorem four_cells {w : World} {b : Nat} {z0 z1 z2 z3 : Value} {e : TypeId} (h : w.heap[b]? = some (.cells #[z0, z1, z2, z3] e (0, 0))) : w.cell? ⟨b, 0, none⟩ = some z0 ∧ w.cell? ⟨b, 1, none⟩ = some z1 ∧ w.cell? ⟨b, 2, none⟩ = some z2 ∧ w.cell? ⟨b, 3, none⟩ = some z3 ∧ w.frozen? ⟨b, 0, none⟩ = false ∧ w.frozen? ⟨b, 1, none⟩ = false ∧ w.frozen? ⟨b, 2, none⟩ = false ∧ w.frozen? ⟨b, 3, none⟩ = false := by
  refine ⟨?_, ?_, ?_, ?_, frozen_of_row w b 0 _ e h, frozen_of_row w b 1 _ e h, frozen_of_row w b 2 _ e h, frozen_of_row w b 3 _ e h⟩ <;> rw [cell_of_row w b _ _ e (0, 0) h] <;> rfl
theorem box_set {w : World} {b : Nat} {z0 z1 z2 z3 : Value} {e : TypeId} (h : w.heap[b]? = some (.cells #[z0, z1, z2, z3] e (0, 0))) (a0 a1 a2 a3 : Value) : ((((w.setCell ⟨b, 0, none⟩ a0).setCell ⟨b, 1, none⟩ a1).setCell ⟨b, 2, none⟩ a2).setCell ⟨b, 3, none⟩ a3).heap[b]? = some (.cells #[a0, a1, a2, a3] e (0, 0)) :=
  heap_setCell_same _ _ 3 _ e a3 (heap_setCell_same _ _ 2 _ e a2 (heap_setCell_same _ _ 1 _ e a1 (heap_setCell_same _ _ 0 _ e a0 h)))
theorem box_kept {S : Nat → Prop} {w w' : World} (h : Kept S w w') (b : Nat) (a0 a1 a2 a3 : Value) : Kept (fun k => S k ∨ k = b) w ((((w'.setCell ⟨b, 0, none⟩ a0).setCell ⟨b, 1, none⟩ a1).setCell ⟨b, 2, none⟩ a2).setCell ⟨b, 3, none⟩ a3) :=
  ((((h.mono (T := fun k => S k ∨ k = b) (fun _ _ h => .inl h)).setCell (p := ⟨b, 0, none⟩) (fun _ => .inr rfl) _).setCell (p := ⟨b, 1, none⟩) (fun _ => .inr rfl) _).setCell (p := ⟨b, 2, none⟩) (fun _ => .inr rfl) _).setCell (p := ⟨b, 3, none⟩) (fun _ => .inr rfl) _
theorem box_below {B : Nat} {w w' : World} (h : Below B w w') {b : Nat} (hb : B ≤ b) (a0 a1 a2 a3 : Value) : Below B w ((((w'.setCell ⟨b, 0, none⟩ a0).setCell ⟨b, 1, none⟩ a1).setCell ⟨b, 2, none⟩ a2).setCell ⟨b, 3, none⟩ a3) :=
  (((h.setCell (p := ⟨b, 0, none⟩) hb _).setCell (p := ⟨b, 1, none⟩) hb _).setCell (p := ⟨b, 2, none⟩) hb _).setCell (p := ⟨b, 3, none⟩) hb _
theorem res_cell3 {P : Program} {fn : Func} {p u v : Tmp} {ty : TypeId} (h : fn.results = #[.cell p ty, .tmp u, .tmp v]) (tmps : Array Value) (w : World) (g : Nat) (t : TypeId) (cs : Array Value) (fr : Nat × Nat) (d : TypeDesc)
    (hp : tmps.getD p undef = .pointer (some ⟨g, 0, none⟩)) (hg : w.heap[g]? = some (.cells cs t fr))
    (hu : P.underlying ty = some d) (hd : (match d with | .struct _ | .array _ _ => true | _ => false) = true) (hi : (P.info? ty).map (·.size) = some cs.size) :
    (results fn tmps).run P w = .ok (.tuple #[.agg cs, tmps.getD u undef, tmps.getD v undef]) w := by
  have hp' : tmps[p]?.getD undef = .pointer (some ⟨g, 0, none⟩) := by simpa using hp
  simp [results, h, hp', asAddr, run_loadVar_row w g t ty cs fr d hg hu hd hi]
end Go.Proofs.Ytcokihblicgbpaa
