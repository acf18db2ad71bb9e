/-
  What the chapter on brackets says, as functions over tokens: trees, their print, the stack that reads them. No program in it.
  And: What the chapter on types says, as functions over lists of bytes: the words, the type with which a text begins, what stands behind it; the named types in it. No program in it. Runes that are no ASCII ones, in bytes: how far one goes; none is a sign. strings.IndexAny at the signs of a type, in any bytes. strings.IndexRune of a rune that is no ASCII one, in ASCII bytes.
-/
import Derived.Test.YtchfhkfepghfjaaPfAd
import Derived.Laws.RangeAny
import Derived.Laws.Runes
import Derived.Lib.IndexAny
import Derived.BigQuiet
import Derived.Test.YtchfhkfepghfjaaPfAc
namespace Go.Proofs.Ytchfhkfepghfjaa

/-- A tree; the token that shut it is kept beside it (no program sees it). -/
structure Tr where
  kind : Nat
  place : Nat
  text : List UInt8
  kids : List Tr
  shut : Tok

theorem tr_ind {P : Tr → Prop} (h : ∀ t : Tr, (∀ k ∈ t.kids, P k) → P t) (t : Tr) : P t := by
  have key : ∀ (n : Nat) (t : Tr), SizeOf.sizeOf t ≤ n → P t := by
    intro n
    induction n with
    | zero =>
      rintro ⟨_, _, _, _, _⟩ hs
      simp at hs
    | succ n ih =>
      rintro ⟨k, p, x, l, e⟩ hs
      refine h _ (fun t ht => ih t ?_)
      have := List.sizeOf_lt_of_mem ht
      simp at hs this
      omega
  exact key _ t (Nat.le_refl _)
theorem tr_kid_lt {t k : Tr} (h : k ∈ t.kids) : SizeOf.sizeOf k < SizeOf.sizeOf t := by
  obtain ⟨_, _, _, l, _⟩ := t
  have := List.sizeOf_lt_of_mem h
  simp at this ⊢
  omega

/-- Texts parted by one blank; the first one too, if something came ahead. -/
def seps : Bool → List (List UInt8) → List UInt8
  | _, [] => []
  | b, x :: r => (if b then [32] else []) ++ x ++ seps true r
/-- Print. -/
def pr : Tr → List UInt8
  | ⟨k, _, x, l, _⟩ => if k = 3 then x else if k = 4 then quoteR x else if k = 1 then 40 :: (seps false (l.map pr) ++ [41]) else []
theorem pr_eq (t : Tr) : pr t = if t.kind = 3 then t.text else if t.kind = 4 then quoteR t.text else if t.kind = 1 then 40 :: (seps false (t.kids.map pr) ++ [41]) else [] := by
  obtain ⟨k, p, x, l, e⟩ := t
  rw [pr]
/-- The tokens of a tree. -/
def toks : Tr → List Tok
  | ⟨k, p, x, l, e⟩ => if k = 1 then ⟨1, p, x⟩ :: ((l.map toks).flatten ++ [e]) else [⟨k, p, x⟩]
theorem toks_eq (t : Tr) : toks t = if t.kind = 1 then ⟨1, t.place, t.text⟩ :: ((t.kids.map toks).flatten ++ [t.shut]) else [⟨t.kind, t.place, t.text⟩] := by
  obtain ⟨k, p, x, l, e⟩ := t
  rw [toks]
/-- Brackets that are shut by a Close; other trees without Kids. -/
def Right : Tr → Prop
  | ⟨k, p, x, l, e⟩ => (k = 1 ∧ e.kind = 2 ∧ ∀ t ∈ l, Right t) ∨ (k ≠ 1 ∧ k ≠ 2 ∧ l = [] ∧ e = ⟨k, p, x⟩)
theorem Right_eq (t : Tr) : Right t = ((t.kind = 1 ∧ t.shut.kind = 2 ∧ ∀ k ∈ t.kids, Right k) ∨ (t.kind ≠ 1 ∧ t.kind ≠ 2 ∧ t.kids = [] ∧ t.shut = ⟨t.kind, t.place, t.text⟩)) := by
  obtain ⟨k, p, x, l, e⟩ := t
  rw [Right]
/-- At most d brackets open within each other. -/
def Fit : Nat → Tr → Prop
  | 0, t => t.kind ≠ 1
  | d + 1, t => t.kind = 1 → ∀ k ∈ t.kids, Fit d k
/-- The tree without its places. -/
def strip : Tr → Tr
  | ⟨k, _, x, l, _⟩ => ⟨k, 0, x, l.map strip, ⟨0, 0, []⟩⟩
theorem strip_eq (t : Tr) : strip t = ⟨t.kind, 0, t.text, t.kids.map strip, ⟨0, 0, []⟩⟩ := by
  obtain ⟨k, p, x, l, e⟩ := t
  rw [strip]
theorem strip_parts {t u : Tr} (h : strip t = strip u) : t.kind = u.kind ∧ t.text = u.text ∧ t.kids.map strip = u.kids.map strip := by
  rw [strip_eq, strip_eq] at h
  simp only [Tr.mk.injEq] at h
  exact ⟨h.1, h.2.2.1, h.2.2.2.1⟩
theorem map_strip_get : ∀ {l m : List Tr}, l.map strip = m.map strip → l.length = m.length ∧ ∀ i (h : i < l.length) (h' : i < m.length), strip l[i] = strip m[i]
  | [], [], _ => ⟨rfl, fun i h => by simp at h⟩
  | [], _ :: _, h => by simp at h
  | _ :: _, [], h => by simp at h
  | a :: l, b :: m, h => by
    simp only [List.map_cons, List.cons.injEq] at h
    obtain ⟨h1, h2⟩ := map_strip_get h.2
    refine ⟨by simp [h1], fun i hi hi' => ?_⟩
    cases i with
    | zero => exact h.1
    | succ i => exact h2 i (by simpa using hi) (by simpa using hi')
theorem pr_strip (t : Tr) : ∀ u, strip t = strip u → pr t = pr u := by
  induction t using tr_ind with
  | h t ih =>
    intro u h
    obtain ⟨h1, h2, h3⟩ := strip_parts h
    have key : ∀ (l m : List Tr), (∀ k ∈ l, ∀ u, strip k = strip u → pr k = pr u) → l.map strip = m.map strip → l.map pr = m.map pr := by
      intro l
      induction l with
      | nil => intro m _ h; cases m with | nil => rfl | cons => simp at h
      | cons a l ihl =>
        intro m hk h
        cases m with
        | nil => simp at h
        | cons b m =>
          simp only [List.map_cons, List.cons.injEq] at h
          rw [List.map_cons, List.map_cons, hk a (by simp) b h.1, ihl m (fun k hk' => hk k (by simp [hk'])) h.2]
    rw [pr_eq t, pr_eq u, h1, h2, key _ _ ih h3]

/-! The reading, by a stack: the top first. -/
def addKid (t k : Tr) : Tr := ⟨t.kind, t.place, t.text, t.kids ++ [k], t.shut⟩
def shutBy (t : Tr) (e : Tok) : Tr := ⟨t.kind, t.place, t.text, t.kids, e⟩
def leaf (t : Tok) : Tr := ⟨t.kind, t.place, t.text, [], t⟩
def root : Tr := ⟨0, 0, [], [], ⟨0, 0, []⟩⟩
/-- Why a token may not come next (0: it may). -/
def refu (ts : List Tr) (t : Tok) : Nat :=
  if t.kind = 1 ∧ ts.length = 41 then 14 else if t.kind = 2 ∧ ts.length = 1 then 12 else if ts.length = 1 ∧ (ts.getLast?.map (fun x => x.kids.length)).getD 0 ≠ 0 then 11 else 0
/-- The stack with a token put to it. -/
def put : List Tr → Tok → List Tr
  | [], _ => []
  | x :: r, t => if t.kind = 1 then leaf t :: x :: r else if t.kind = 2 then (match r with | [] => [] | y :: r' => addKid y (shutBy x t) :: r') else addKid x (leaf t) :: r
def run (n : Nat) : List Tr → List Tok → Except (Nat × Nat) Tr
  | ts, [] => if 1 < ts.length then .error (10, n) else match ts with | [] => .error (0, 0) | b :: _ => match b.kids with | [] => .error (0, 0) | k :: _ => .ok k
  | ts, t :: r => if refu ts t = 0 then run n (put ts t) r else .error (refu ts t, t.place)
/-- Parse. -/
def parseR (l : List UInt8) : Except (Nat × Nat) Tr :=
  match splitR l with
  | .error (y, b) => .error (y, b)
  | .ok ts => if ts = [] then .error (12, l.length) else run l.length [root] ts

theorem refu_open {ts : List Tr} {t : Tok} (h : refu ts t = 0) (h1 : ts.length = 1) : ∃ x, ts = [x] ∧ x.kids = [] ∧ t.kind ≠ 2 := by
  obtain ⟨x, rfl⟩ := List.length_eq_one_iff.1 h1
  unfold refu at h
  split at h
  · cases h
  · split at h
    · cases h
    · split at h
      · cases h
      · rename_i a b c
        refine ⟨x, rfl, ?_, fun e => b ⟨e, rfl⟩⟩
        simp at c
        exact c

/-- What a stack has taken in. -/
def took : List Tr → List Tok
  | [] => []
  | [b] => (b.kids.map toks).flatten
  | x :: r => took r ++ ⟨1, x.place, x.text⟩ :: (x.kids.map toks).flatten
theorem took_cons (x y : Tr) (r : List Tr) : took (x :: y :: r) = took (y :: r) ++ ⟨1, x.place, x.text⟩ :: (x.kids.map toks).flatten := rfl
theorem took_add (x : Tr) (r : List Tr) (k : Tr) : took (addKid x k :: r) = took (x :: r) ++ toks k := by
  cases r with
  | nil => simp [took, addKid]
  | cons y r => simp [took, addKid]
/-- What holds of a stack: all but the lowest are open brackets. -/
def Stk : List Tr → Prop
  | [] => False
  | [b] => b.kids.length ≤ 1 ∧ ∀ k ∈ b.kids, Right k
  | [x, b] => x.kind = 1 ∧ (∀ k ∈ x.kids, Right k) ∧ b.kids = []
  | x :: r => x.kind = 1 ∧ (∀ k ∈ x.kids, Right k) ∧ Stk r
theorem stk_kids {x : Tr} {r : List Tr} (h : Stk (x :: r)) : ∀ k ∈ x.kids, Right k := by
  match r, h with
  | [], h => exact h.2
  | [_], h => exact h.2.1
  | _ :: _ :: _, h => exact h.2.1
theorem stk_put {ts : List Tr} {t : Tok} (h : Stk ts) (hr : refu ts t = 0) (hk : t.kind ≠ 0) : Stk (put ts t) ∧ took (put ts t) = took ts ++ [t] ∧ (put ts t).length ≤ ts.length + 1 ∧ ts.length ≤ (put ts t).length + 1 := by
  match ts, h with
  | [], h => exact h.elim
  | x :: r, h =>
    unfold put
    by_cases k1 : t.kind = 1
    · simp only [k1, if_true]
      refine ⟨?_, ?_, by simp, by simp⟩
      · cases r with
        | nil =>
          obtain ⟨x', hx, hx2, _⟩ := refu_open hr rfl
          cases hx
          exact ⟨k1, by simp [leaf], hx2⟩
        | cons y r => exact ⟨k1, by simp [leaf], h⟩
      · rw [took_cons]
        obtain ⟨a, b, c⟩ := t
        simp at k1
        simp [leaf, k1]
    · simp only [k1, if_false]
      by_cases k2 : t.kind = 2
      · simp only [k2, if_true]
        cases r with
        | nil =>
          obtain ⟨_, _, _, h3⟩ := refu_open hr rfl
          exact absurd k2 h3
        | cons y r =>
          simp only
          have hx : x.kind = 1 ∧ (∀ k ∈ x.kids, Right k) := by
            cases r with
            | nil => exact ⟨h.1, h.2.1⟩
            | cons z r => exact ⟨h.1, h.2.1⟩
          have hR : Right (shutBy x t) := by
            rw [Right_eq]
            exact .inl ⟨hx.1, k2, hx.2⟩
          refine ⟨?_, ?_, by simp, by simp⟩
          · cases r with
            | nil =>
              have hb : y.kids = [] := h.2.2
              refine ⟨by simp [addKid, hb], ?_⟩
              intro k hk
              simp [addKid, hb] at hk
              subst hk
              exact hR
            | cons z r =>
              have hy : Stk (y :: z :: r) := h.2.2
              have key : ∀ k ∈ (addKid y (shutBy x t)).kids, Right k := by
                intro k hk
                simp [addKid] at hk
                rcases hk with hk | hk
                · exact stk_kids hy k hk
                · subst hk; exact hR
              cases r with
              | nil => exact ⟨hy.1, key, hy.2.2⟩
              | cons z' r => exact ⟨hy.1, key, hy.2.2⟩
          · rw [took_add, took_cons, toks_eq]
            simp [shutBy, hx.1]
      · simp only [k2, if_false]
        have hR : Right (leaf t) := by
          rw [Right_eq]
          exact .inr ⟨k1, k2, rfl, rfl⟩
        have key : ∀ k ∈ (addKid x (leaf t)).kids, Right k := by
          intro k hk
          simp [addKid] at hk
          rcases hk with hk | hk
          · exact stk_kids h k hk
          · subst hk; exact hR
        refine ⟨?_, ?_, by simp, by simp⟩
        · cases r with
          | nil =>
            obtain ⟨x', hx, hx2, _⟩ := refu_open hr rfl
            cases hx
            exact ⟨by simp [addKid, hx2], key⟩
          | cons y r =>
            cases r with
            | nil => exact ⟨h.1, key, h.2.2⟩
            | cons z r => exact ⟨h.1, key, h.2.2⟩
        · rw [took_add, toks_eq]
          simp [leaf, k1]
/-- What is read is spelled by its tokens. -/
theorem run_toks (n : Nat) : ∀ (l : List Tok) (ts : List Tr) (t : Tr), Stk ts → (∀ k ∈ l, k.kind ≠ 0) → run n ts l = .ok t → Right t ∧ toks t = took ts ++ l
  | [], ts, t, hs, _, h => by
    cases ts with
    | nil => exact hs.elim
    | cons b r =>
      unfold run at h
      split at h
      · cases h
      · rename_i h1
        have hr : r = [] := List.eq_nil_of_length_eq_zero (by simp only [List.length_cons] at h1; omega)
        subst hr
        simp only at h
        cases hk : b.kids with
        | nil => rw [hk] at h; cases h
        | cons k r =>
          rw [hk] at h
          cases h
          have : r = [] := List.eq_nil_of_length_eq_zero (by have := hs.1; rw [hk] at this; simp only [List.length_cons] at this; omega)
          subst this
          exact ⟨hs.2 t (by simp [hk]), by simp [took, hk]⟩
  | a :: l, ts, t, hs, hk, h => by
    unfold run at h
    split at h
    · rename_i hr
      obtain ⟨h1, h2, _⟩ := stk_put hs hr (hk a (by simp))
      obtain ⟨h3, h4⟩ := run_toks n l _ t h1 (fun k hk' => hk k (by simp [hk'])) h
      exact ⟨h3, by rw [h4, h2]; simp⟩
    · cases h
theorem stk_root : Stk [root] := ⟨by simp [root], by simp [root]⟩
theorem took_root : took [root] = [] := rfl

theorem refu_mid {x : Tr} {ts : List Tr} {t : Tok} (h1 : t.kind = 1 → ts.length < 40) (h2 : ts = [] → x.kids = []) (h3 : ts = [] → t.kind ≠ 2) (h4 : ts.length ≤ 40) : refu (x :: ts) t = 0 := by
  unfold refu
  rw [if_neg (fun h => by have := h1 h.1; simp at h; omega), if_neg (fun h => by
    have : ts = [] := List.eq_nil_of_length_eq_zero (by simpa using h.2)
    exact h3 this h.1), if_neg (fun h => by
    have e : ts = [] := List.eq_nil_of_length_eq_zero (by simpa using h.1)
    subst e
    simp [h2 rfl] at h)]
/-- A tree's tokens are taken in as the tree. -/
theorem run_fit (n : Nat) (t : Tr) : ∀ (d : Nat) (x : Tr) (ts : List Tr) (rest : List Tok), Right t → Fit d t → ts.length + d ≤ 40 → (ts = [] → x.kids = []) → run n (x :: ts) (toks t ++ rest) = run n (addKid x t :: ts) rest := by
  induction t using tr_ind with
  | h t ih =>
    intro d x ts rest hR hF hd hx
    have hR' := hR
    rw [Right_eq] at hR
    rcases hR with ⟨k1, ks, kk⟩ | ⟨k1, k2, kk, ke⟩
    · cases d with
      | zero => exact absurd k1 hF
      | succ d =>
        have hF2 := hF k1
        have key : ∀ (ks : List Tr) (y : Tr), (∀ k ∈ ks, k ∈ t.kids) → run n (y :: x :: ts) ((ks.map toks).flatten ++ ([t.shut] ++ rest)) = run n (⟨y.kind, y.place, y.text, y.kids ++ ks, y.shut⟩ :: x :: ts) ([t.shut] ++ rest) := by
          intro ks
          induction ks with
          | nil => intro y _; rw [List.map_nil, List.flatten_nil, List.nil_append, List.append_nil]; cases y; rfl
          | cons k ks ihk =>
            intro y hks
            rw [List.map_cons, List.flatten_cons, List.append_assoc, ih k (hks k (by simp)) d y (x :: ts) _ (kk k (hks k (by simp))) (hF2 k (hks k (by simp))) (by simp; omega) (by simp), ihk _ (fun k' hk' => hks k' (by simp [hk']))]
            simp [addKid]
        rw [toks_eq, if_pos k1, List.cons_append]
        rw [run, if_pos (refu_mid (fun _ => by omega) hx (fun _ => by simp) (by omega)), List.append_assoc]
        have e : put (x :: ts) ⟨1, t.place, t.text⟩ = leaf ⟨1, t.place, t.text⟩ :: x :: ts := rfl
        rw [e, key t.kids _ (fun _ h => h)]
        simp only [List.singleton_append]
        rw [run, if_pos (refu_mid (fun h => by rw [ks] at h; cases h) (by simp) (by simp) (by simp; omega))]
        congr 1
        simp only [put, ks]
        obtain ⟨a, b, c, d', e'⟩ := t
        simp at k1
        simp [shutBy, leaf, k1]
    · rw [toks_eq, if_neg k1]
      simp only [List.singleton_append]
      rw [run, if_pos (refu_mid (fun h => absurd h k1) hx (fun _ => k2) (by omega))]
      congr 1
      simp only [put, k1, k2, if_false]
      obtain ⟨a, b, c, d', e'⟩ := t
      simp only at kk ke
      subst kk
      subst ke
      rfl
end Go.Proofs.Ytchfhkfepghfjaa

namespace Go.Proofs.Ytchfhkfepghfjaa

def isSign (c : UInt8) : Bool := decide (c.toNat = 91) || decide (c.toNat = 93) || decide (c.toNat = 40) || decide (c.toNat = 41) || decide (c.toNat = 44)
def notSign (c : UInt8) : Bool := !isSign c
/-- What a text begins with, up to a sign. -/
def wordR (l : List UInt8) : List UInt8 := l.takeWhile notSign
def notDot (c : UInt8) : Bool := !decide (c.toNat = 46)
def aheadR (l : List UInt8) : List UInt8 := l.takeWhile notDot
def behindR (l : List UInt8) : List UInt8 := l.drop ((aheadR l).length + 1)
/-- A named type. -/
def namedR (l : List UInt8) : Bool := valueR (aheadR l) && bigR (behindR l)
def numL : List UInt8 := [110, 117, 109]
def bytesL : List UInt8 := [98, 121, 116, 101, 115]
def wordOk (l : List UInt8) : Bool := namedR l || decide (l = numL) || decide (l = bytesL)

def isHead (n : Nat) (l : List UInt8) : Bool := l.head?.any (fun d => decide (d.toNat = n))
theorem isHead_cons (n : Nat) (d : UInt8) (y : List UInt8) : isHead n (d :: y) = decide (d.toNat = n) := rfl
theorem isHead_pos {n : Nat} {l : List UInt8} (h : isHead n l = true) : ∃ d y, l = d :: y ∧ d.toNat = n := by
  cases l with
  | nil => cases h
  | cons d y => exact ⟨d, y, rfl, by rw [isHead_cons] at h; exact of_decide_eq_true h⟩
/-- What is left behind the type with which a text begins (0); behind the parameters of which k are read, up to their bracket (k). -/
def gF : Nat → Nat → List UInt8 → Option (List UInt8)
  | 0, _, _ => none
  | _ + 1, 0, [] => none
  | f + 1, 0, c :: r =>
    if c.toNat = 91 then (gF f 0 r).bind (fun x => match x with | [] => none | d :: y => if d.toNat = 93 then some y else none)
    else if c.toNat = 40 then
      if isHead 41 r then gF f 0 r.tail else (gF f 0 r).bind (fun x => (gF f 1 x).bind (gF f 0))
    else if wordOk (wordR (c :: r)) then some ((c :: r).drop (wordR (c :: r)).length) else none
  | _ + 1, _ + 1, [] => none
  | f + 1, k + 1, c :: r => if c.toNat = 41 then some r else if c.toNat = 44 ∧ k + 1 < 6 then (gF f 0 r).bind (gF f (k + 2)) else none

theorem wordOk_nil : wordOk [] = false := by decide
theorem wordOk_pos {l : List UInt8} (h : wordOk l = true) : 0 < l.length := by
  cases l with
  | nil => rw [wordOk_nil] at h; cases h
  | cons => simp

theorem gF_len : ∀ (f k : Nat) (l r : List UInt8), gF f k l = some r → r.length < l.length
  | 0, _, _, _, h => by simp [gF] at h
  | f + 1, 0, [], _, h => by simp [gF] at h
  | f + 1, 0, c :: l, r, h => by
    rw [gF] at h
    split at h
    · obtain ⟨x, h1, h2⟩ := Option.bind_eq_some_iff.1 h
      have := gF_len f 0 l x h1
      split at h2
      · cases h2
      · rename_i d y
        split at h2
        · cases h2; simp at this ⊢; omega
        · cases h2
    · split at h
      · split at h
        · rename_i hh
          obtain ⟨d, y, rfl, _⟩ := isHead_pos hh
          have := gF_len f 0 y r h
          simp at this ⊢; omega
        · obtain ⟨x, h1, h2⟩ := Option.bind_eq_some_iff.1 h
          obtain ⟨z, h3, h4⟩ := Option.bind_eq_some_iff.1 h2
          have a1 := gF_len f 0 _ x h1
          have a2 := gF_len f 1 x z h3
          have a3 := gF_len f 0 z r h4
          simp; omega
      · split at h
        · rename_i hw
          have := wordOk_pos hw
          cases h
          simp at this ⊢
          omega
        · cases h
  | f + 1, k + 1, [], _, h => by simp [gF] at h
  | f + 1, k + 1, c :: l, r, h => by
    rw [gF] at h
    split at h
    · cases h; simp
    · split at h
      · obtain ⟨x, h1, h2⟩ := Option.bind_eq_some_iff.1 h
        have a1 := gF_len f 0 l x h1
        have a2 := gF_len f (k + 2) x r h2
        simp; omega
      · cases h

theorem bind_same {α β : Type} {a : Option α} {f g : α → Option β} (h : ∀ x, a = some x → f x = g x) : a.bind f = a.bind g := by
  cases a with
  | none => rfl
  | some x => exact h x rfl

theorem gF_fuel : ∀ (f g k : Nat) (l : List UInt8), l.length < f → l.length < g → gF f k l = gF g k l
  | 0, _, _, _, h, _ => by omega
  | _ + 1, 0, _, _, _, h => by omega
  | f + 1, g + 1, 0, [], _, _ => by simp [gF]
  | f + 1, g + 1, k + 1, [], _, _ => by simp [gF]
  | f + 1, g + 1, 0, c :: l, hf, hg => by
    simp only [List.length_cons] at hf hg
    have e : gF f 0 l = gF g 0 l := gF_fuel f g 0 l (by omega) (by omega)
    rw [gF, gF, e]
    split
    · rfl
    · split
      · split
        · exact gF_fuel f g 0 _ (by simp; omega) (by simp; omega)
        · refine bind_same (fun x hx => ?_)
          have a1 := gF_len g 0 _ x hx
          rw [gF_fuel f g 1 x (by omega) (by omega)]
          refine bind_same (fun z hz => ?_)
          have a2 := gF_len g 1 x z hz
          exact gF_fuel f g 0 z (by omega) (by omega)
      · rfl
  | f + 1, g + 1, k + 1, c :: l, hf, hg => by
    simp only [List.length_cons] at hf hg
    rw [gF, gF]
    split
    · rfl
    · split
      · rw [gF_fuel f g 0 l (by omega) (by omega)]
        refine bind_same (fun x hx => ?_)
        have a1 := gF_len g 0 _ x hx
        exact gF_fuel f g (k + 2) x (by omega) (by omega)
      · rfl

/-- What is left behind the type with which a text begins. -/
def one (l : List UInt8) : Option (List UInt8) := gF (l.length + 1) 0 l
/-- What is left behind the parameters, k of which (and one) are read. -/
def tl (k : Nat) (l : List UInt8) : Option (List UInt8) := gF (l.length + 1) (k + 1) l

theorem one_len {l r : List UInt8} (h : one l = some r) : r.length < l.length := gF_len _ _ _ _ h
theorem tl_len {k : Nat} {l r : List UInt8} (h : tl k l = some r) : r.length < l.length := gF_len _ _ _ _ h
theorem one_nil : one [] = none := by simp [one, gF]
theorem one_arr {c : UInt8} (r : List UInt8) (h : c.toNat = 91) : one (c :: r) = (one r).bind (fun x => match x with | [] => none | d :: y => if d.toNat = 93 then some y else none) := by
  simp only [one, List.length_cons]
  rw [gF, if_pos h]
theorem one_fn0 {c d : UInt8} (r : List UInt8) (h : c.toNat = 40) (hd : d.toNat = 41) : one (c :: d :: r) = one r := by
  simp only [one, List.length_cons]
  rw [gF, if_neg (by omega), if_pos h, if_pos (by rw [isHead_cons]; exact decide_eq_true hd)]
  exact gF_fuel _ _ _ _ (by simp) (by simp)
theorem one_fn {c : UInt8} (r : List UInt8) (h : c.toNat = 40) (hd : ∀ d y, r = d :: y → d.toNat ≠ 41) : one (c :: r) = (one r).bind (fun x => (tl 0 x).bind one) := by
  simp only [one, List.length_cons]
  rw [gF, if_neg (by omega), if_pos h, if_neg (by
    intro hh
    obtain ⟨d, y, e, h1⟩ := isHead_pos hh
    exact hd d y e h1)]
  refine bind_same (fun x hx => ?_)
  have a1 := gF_len _ 0 _ x hx
  rw [tl, gF_fuel (r.length + 1) (x.length + 1) 1 x (by omega) (by omega)]
  refine bind_same (fun z hz => ?_)
  have a2 := gF_len _ 1 x z hz
  exact gF_fuel _ _ 0 z (by omega) (by omega)
theorem one_word {c : UInt8} (r : List UInt8) (h : c.toNat ≠ 91) (h2 : c.toNat ≠ 40) : one (c :: r) = if wordOk (wordR (c :: r)) then some ((c :: r).drop (wordR (c :: r)).length) else none := by
  simp only [one, List.length_cons]
  rw [gF, if_neg h, if_neg h2]
theorem tl_nil (k : Nat) : tl k [] = none := by simp [tl, gF]
theorem tl_close {c : UInt8} (k : Nat) (r : List UInt8) (h : c.toNat = 41) : tl k (c :: r) = some r := by
  simp only [tl, List.length_cons]
  rw [gF, if_pos h]
theorem tl_comma {c : UInt8} (k : Nat) (r : List UInt8) (h : c.toNat = 44) (hk : k + 1 < 6) : tl k (c :: r) = (one r).bind (tl (k + 1)) := by
  simp only [tl, one, List.length_cons]
  rw [gF, if_neg (by omega), if_pos ⟨h, hk⟩]
  refine bind_same (fun x hx => ?_)
  have a1 := gF_len _ 0 _ x hx
  exact gF_fuel _ _ _ x (by omega) (by omega)
theorem tl_bad {c : UInt8} (k : Nat) (r : List UInt8) (h : c.toNat ≠ 41) (h2 : ¬ (c.toNat = 44 ∧ k + 1 < 6)) : tl k (c :: r) = none := by
  simp only [tl, List.length_cons]
  rw [gF, if_neg h, if_neg h2]

/-! By a stack: of each open bracket its parameters so far, 0 if it is an array's; the top first. -/
def behS : List Nat → List UInt8 → Option (List UInt8)
  | [], l => some l
  | 0 :: st, l => (match l with | [] => none | d :: y => if d.toNat = 93 then some y else none).bind (behS st)
  | (k + 1) :: st, l => (tl k l).bind (fun r => (one r).bind (behS st))
def begS (st : List Nat) (l : List UInt8) : Option (List UInt8) := (one l).bind (behS st)

theorem begS_nil (st : List Nat) : begS st [] = none := by rw [begS, one_nil]; rfl
theorem begS_arr {c : UInt8} (st : List Nat) (r : List UInt8) (h : c.toNat = 91) : begS st (c :: r) = begS (0 :: st) r := by
  rw [begS, one_arr r h, Option.bind_assoc]; rfl
theorem begS_fn0 {c d : UInt8} (st : List Nat) (r : List UInt8) (h : c.toNat = 40) (hd : d.toNat = 41) : begS st (c :: d :: r) = begS st r := by
  rw [begS, one_fn0 r h hd]; rfl
theorem begS_fn {c : UInt8} (st : List Nat) (r : List UInt8) (h : c.toNat = 40) (hd : ∀ d y, r = d :: y → d.toNat ≠ 41) : begS st (c :: r) = begS (1 :: st) r := by
  rw [begS, one_fn r h hd, Option.bind_assoc, begS]
  refine bind_same (fun x _ => ?_)
  rw [Option.bind_assoc]; rfl
theorem begS_word {c : UInt8} (st : List Nat) (r : List UInt8) (h : c.toNat ≠ 91) (h2 : c.toNat ≠ 40) (hw : wordOk (wordR (c :: r)) = true) : begS st (c :: r) = behS st ((c :: r).drop (wordR (c :: r)).length) := by
  rw [begS, one_word r h h2, if_pos hw]; rfl
theorem begS_bad {c : UInt8} (st : List Nat) (r : List UInt8) (h : c.toNat ≠ 91) (h2 : c.toNat ≠ 40) (hw : wordOk (wordR (c :: r)) = false) : begS st (c :: r) = none := by
  rw [begS, one_word r h h2, if_neg (by rw [hw]; decide)]; rfl
theorem behS_end (l : List UInt8) : behS [] l = some l := rfl
theorem behS_nil (k : Nat) (st : List Nat) : behS (k :: st) [] = none := by
  cases k with
  | zero => rfl
  | succ k => rw [behS, tl_nil]; rfl
theorem behS_arr {d : UInt8} (st : List Nat) (y : List UInt8) (h : d.toNat = 93) : behS (0 :: st) (d :: y) = behS st y := by
  simp [behS, h]
theorem behS_arr_bad {d : UInt8} (st : List Nat) (y : List UInt8) (h : d.toNat ≠ 93) : behS (0 :: st) (d :: y) = none := by
  simp [behS, h]
theorem behS_close {d : UInt8} (k : Nat) (st : List Nat) (y : List UInt8) (h : d.toNat = 41) : behS ((k + 1) :: st) (d :: y) = begS st y := by
  rw [behS, tl_close k y h]; rfl
theorem behS_comma {d : UInt8} (k : Nat) (st : List Nat) (y : List UInt8) (h : d.toNat = 44) (hk : k + 1 < 6) : behS ((k + 1) :: st) (d :: y) = begS ((k + 2) :: st) y := by
  rw [behS, tl_comma k y h hk, Option.bind_assoc]; rfl
theorem behS_bad {d : UInt8} (k : Nat) (st : List Nat) (y : List UInt8) (h : d.toNat ≠ 41) (h2 : ¬ (d.toNat = 44 ∧ k + 1 < 6)) : behS ((k + 1) :: st) (d :: y) = none := by
  rw [behS, tl_bad k y h h2]; rfl

/-- Where the type ends that begins at a place. -/
def endI (L : List UInt8) (p : Nat) : Int :=
  match one (L.drop p) with
  | none => -1
  | some r => (L.length : Int) - (r.length : Int)
def rightR (l : List UInt8) : Bool := decide (l.length ≤ 200) && decide (one l = some [])

/-- The named types in a text, in its order. -/
def nwF : Nat → List UInt8 → List (List UInt8)
  | 0, _ => []
  | f + 1, l => (if namedR (wordR l) then [wordR l] else []) ++ (if l.length ≤ (wordR l).length + 1 then [] else nwF f (l.drop ((wordR l).length + 1)))
def nw (l : List UInt8) : List (List UInt8) := nwF (l.length + 1) l
theorem nwF_fuel : ∀ (f g : Nat) (l : List UInt8), l.length < f → l.length < g → nwF f l = nwF g l
  | 0, _, _, h, _ => by omega
  | _ + 1, 0, _, _, h => by omega
  | f + 1, g + 1, l, hf, hg => by
    rw [nwF, nwF]
    congr 1
    split
    · rfl
    · rename_i h
      exact nwF_fuel f g _ (by simp; omega) (by simp; omega)
theorem nw_eq (l : List UInt8) : nw l = (if namedR (wordR l) then [wordR l] else []) ++ (if l.length ≤ (wordR l).length + 1 then [] else nw (l.drop ((wordR l).length + 1))) := by
  rw [nw, nwF]
  congr 1
  split
  · rfl
  · rename_i h
    exact nwF_fuel _ _ _ (by simp; omega) (by omega)
theorem namedR_nil : namedR [] = false := by decide
theorem nw_nil : nw [] = [] := by rw [nw_eq]; simp [wordR, namedR_nil]
theorem nw_next (l : List UInt8) : nw l = (if namedR (wordR l) then [wordR l] else []) ++ nw (l.drop ((wordR l).length + 1)) := by
  rw [nw_eq]
  congr 1
  split
  · rename_i h
    rw [List.drop_eq_nil_of_le h, nw_nil]
  · rfl
/-- Behind a sign the named types go on by themselves. -/
theorem nw_append : ∀ (n : Nat) (a b : List UInt8) (c : UInt8), a.length ≤ n → isSign c = true → nw (a ++ c :: b) = nw a ++ nw b := by
  intro n
  induction n with
  | zero =>
    intro a b c h hc
    have : a = [] := List.eq_nil_of_length_eq_zero (by omega)
    subst this
    have hw : wordR (c :: b) = [] := by simp [wordR, notSign, hc]
    rw [List.nil_append, nw_next, hw, nw_nil]
    simp [namedR_nil]
  | succ n ih =>
    intro a b c h hc
    by_cases ha : wordR a = a
    · have hw : wordR (a ++ c :: b) = a := by
        have hall : ∀ x ∈ a, notSign x = true := by
          intro x hx
          rw [← ha] at hx
          exact List.all_eq_true.1 (List.all_takeWhile (l := a)) x hx
        rw [wordR, List.takeWhile_append_of_pos hall]
        simp [notSign, hc]
      rw [nw_next (a ++ c :: b), hw, nw_next a, ha]
      rw [List.drop_append, List.drop_eq_nil_of_le (by omega : a.length ≤ a.length + 1), nw_nil]
      simp
    · have hlt : (wordR a).length < a.length := by
        have h1 : (wordR a) <+: a := List.takeWhile_prefix _
        rcases Nat.lt_or_ge (wordR a).length a.length with h2 | h2
        · exact h2
        · exact absurd (h1.eq_of_length_le h2) ha
      have hw : wordR (a ++ c :: b) = wordR a := by
        rw [wordR, List.takeWhile_append, if_neg (by have : (List.takeWhile notSign a).length < a.length := hlt; omega)]
        rfl
      rw [nw_next (a ++ c :: b), hw, nw_next a, List.drop_append_of_le_length (by omega), ih _ b c (by simp; omega) hc, List.append_assoc]
end Go.Proofs.Ytchfhkfepghfjaa

namespace Go.Proofs.Ytchfhkfepghfjaa
open Go.RowKit Go.Lib

theorem below_drewN {H : Nat} {w w1 : World} (h : Below H w w1) (n : Nat) : Below H w (w1.drewN n) := ⟨h.os, h.tape, h.output, h.size, h.block⟩

theorem get_nat (s : ByteArray) (p : Nat) (h : p < s.size) : s.get! p = s[p] := get_at s p h
/-- How far a rune that is no ASCII one goes: over no ASCII byte. -/
theorem decode_wide (s : ByteArray) (pos : Nat) (h : pos < s.size) (ha : 128 ≤ (s[pos]'h).toNat) : pos + (Utf8.decode s pos).2 ≤ s.size ∧ ∀ j (hj : j < s.size), pos ≤ j → j < pos + (Utf8.decode s pos).2 → 128 ≤ (s[j]'hj).toNat := by
  have hn : ¬ (s[pos]'h).toNat < 128 := by omega
  have one : pos + 1 ≤ s.size ∧ ∀ j (hj : j < s.size), pos ≤ j → j < pos + 1 → 128 ≤ (s[j]'hj).toNat := by
    refine ⟨by omega, fun j hj h1 h2 => ?_⟩
    obtain rfl : j = pos := by omega
    exact ha
  have c : ∀ k, (decide (pos + k < s.size) && (s.get! (pos + k)).toNat / 64 == 2) = true → ∀ hj : pos + k < s.size, 128 ≤ (s[pos + k]'hj).toNat := by
    intro k hk hj
    rw [Bool.and_eq_true, beq_iff_eq, get_nat s _ hj] at hk
    omega
  have c' : ∀ k, (decide (pos + k < s.size) && (s.get! (pos + k)).toNat / 64 == 2) = true → pos + k < s.size := by
    intro k hk
    rw [Bool.and_eq_true] at hk
    exact of_decide_eq_true hk.1
  simp only [Utf8.decode, get_at s pos h, hn, if_false]
  split
  · rename_i h2
    rw [Bool.and_eq_true] at h2
    split
    · refine ⟨by have := c' 1 h2.2; omega, fun j hj h3 h4 => ?_⟩
      rcases (by omega : j = pos ∨ j = pos + 1) with rfl | rfl
      · exact ha
      · exact c 1 h2.2 hj
    · exact one
  · split
    · rename_i h2
      simp only [Bool.and_eq_true] at h2
      have q1 := c 1 (by simp only [Bool.and_eq_true]; exact h2.1.2)
      have q2 := c 2 (by simp only [Bool.and_eq_true]; exact h2.2)
      have q3 := c' 2 (by simp only [Bool.and_eq_true]; exact h2.2)
      split
      · refine ⟨by omega, fun j hj h3 h4 => ?_⟩
        rcases (by omega : j = pos ∨ j = pos + 1 ∨ j = pos + 2) with rfl | rfl | rfl
        · exact ha
        · exact q1 hj
        · exact q2 hj
      · exact one
    · split
      · rename_i h2
        simp only [Bool.and_eq_true] at h2
        have q1 := c 1 (by simp only [Bool.and_eq_true]; exact h2.1.1.2)
        have q2 := c 2 (by simp only [Bool.and_eq_true]; exact h2.1.2)
        have q3 := c 3 (by simp only [Bool.and_eq_true]; exact h2.2)
        have q4 := c' 3 (by simp only [Bool.and_eq_true]; exact h2.2)
        split
        · refine ⟨by omega, fun j hj h3 h4 => ?_⟩
          rcases (by omega : j = pos ∨ j = pos + 1 ∨ j = pos + 2 ∨ j = pos + 3) with rfl | rfl | rfl | rfl
          · exact ha
          · exact q1 hj
          · exact q2 hj
          · exact q3 hj
        · exact one
      · exact one

def sgn : ByteArray := ⟨#[91, 93, 40, 41, 44]⟩
theorem sgn_low : ∀ i (h : i < sgn.size), (sgn[i]'h).toNat < 128 := by decide
theorem indexByte_high : ∀ (l : List UInt8) (c : UInt8), 128 ≤ c.toNat → (∀ b ∈ l, b.toNat < 128) → indexByte l c = -1
  | [], _, _, _ => rfl
  | b :: l, c, h, hl => by
    have h1 : b ≠ c := by rintro rfl; have := hl b (by simp); omega
    rw [indexByte, if_neg (by simpa using h1), indexByte_high l c h (fun x hx => hl x (by simp [hx]))]
    rfl
theorem low_mem (s : ByteArray) (hs : ∀ i (h : i < s.size), (s[i]'h).toNat < 128) : ∀ b ∈ s.data.toList, b.toNat < 128 := by
  intro b hb
  obtain ⟨i, hi, rfl⟩ := List.getElem_of_mem hb
  exact hs i (by rw [← size_len]; exact hi)

theorem valid_of (r : Int) (h : Lib.validRune r = true) : Utf8.valid r = true := by
  simp only [Lib.validRune, decide_eq_true_eq] at h
  simp only [Utf8.valid, Bool.or_eq_true, Bool.and_eq_true, decide_eq_true_eq]
  omega
end Go.Proofs.Ytchfhkfepghfjaa

namespace Go.Proofs.Ytchfhkfepghfjaa
open Go.RowKit Go.Lib

end Go.Proofs.Ytchfhkfepghfjaa

namespace Go.Proofs.Ytchfhkfepghfjaa
open Go.RowKit Go.Lib

end Go.Proofs.Ytchfhkfepghfjaa
