/-
  The type of a tree, by a stack of what is begun. No program in it.
-/
import Derived.Test.YtcjlifhehiolkaaGreatTypesMath
namespace Go.Proofs.YtcjlifhehiolkaaGreat

def arrayL : List UInt8 := [97, 114, 114, 97, 121]
def fnL : List UInt8 := [102, 110]
def isWordR (t : Tr) (x : List UInt8) : Bool := decide (t.kind = 3) && decide (t.text = x)
def noTr : Tr := ⟨0, 0, [], [], ⟨0, 0, []⟩⟩
def kid (t : Tr) (i : Nat) : Tr := t.kids.getD i noTr
/-- What a tree stands for: 1 a word, 2 an array, 3 a function, 0 nothing. -/
def formR (t : Tr) : Nat :=
  if t.kind = 3 then 1 else if t.kind ≠ 1 then 0
  else if t.kids.length = 2 ∧ isWordR (kid t 0) arrayL = true then 2
  else if t.kids.length = 3 ∧ isWordR (kid t 0) fnL = true ∧ (kid t 1).kind = 1 then 3 else 0
/-- The trees that a type is made of. -/
def partsT (t : Tr) : List Tr := if formR t = 2 then [kid t 1] else if formR t = 3 then (kid t 1).kids ++ [kid t 2] else []
/-- The type that a word tells: nothing, if it tells none. -/
def atomR (x m : List UInt8) : List UInt8 := if wordOk x = true then x else if bigR x = true then m ++ 46 :: x else []
def lim (x : List UInt8) : Except Nat (List UInt8) := if x = [] then .error 12 else if 200 < x.length then .error 3 else .ok x
/-- The text of a tree whose parts are read. -/
def madeR (m : List UInt8) (t : Tr) (ys : List (List UInt8)) : Except Nat (List UInt8) :=
  if formR t = 1 then lim (atomR t.text m)
  else if formR t = 2 then lim (arrR (ys.getD 0 []))
  else if formR t = 3 then (if 6 < ys.length - 1 then .error 19 else lim (funcR (ys.take (ys.length - 1)) (ys.getD (ys.length - 1) [])))
  else .error 12
abbrev RR : Type := Except (Nat × Nat) (List UInt8)
def fin (m : List UInt8) (t : Tr) (ys : List (List UInt8)) : RR :=
  match madeR m t ys with
  | .error y => .error (y, t.place)
  | .ok x => .ok x
def seqE : List RR → Except (Nat × Nat) (List (List UInt8))
  | [] => .ok []
  | .error e :: _ => .error e
  | .ok x :: r => match seqE r with | .error e => .error e | .ok l => .ok (x :: l)
def pick (q : List (RR × List RR)) (f : Nat) : List RR :=
  if f = 2 then [(q.getD 1 (.ok [], [])).1] else if f = 3 then (q.getD 1 (.ok [], [])).2 ++ [(q.getD 2 (.ok [], [])).1] else []
def rr (m : List UInt8) : Tr → RR × List RR
  | ⟨k, p, x, l, e⟩ => (match seqE (pick (l.map (rr m)) (formR ⟨k, p, x, l, e⟩)) with | .error e => .error e | .ok ys => fin m ⟨k, p, x, l, e⟩ ys, (l.map (rr m)).map (·.1))
/-- Read. -/
def readR (m : List UInt8) (t : Tr) : RR := (rr m t).1
theorem rr_snd (m : List UInt8) (t : Tr) : (rr m t).2 = t.kids.map (readR m) := by
  obtain ⟨k, p, x, l, e⟩ := t
  rw [rr]
  simp [readR]
theorem form2 {t : Tr} (h : formR t = 2) : t.kids.length = 2 := by
  unfold formR at h
  repeat' split at h
  all_goals first | omega | (rename_i hh; exact hh.1)
theorem form3 {t : Tr} (h : formR t = 3) : t.kids.length = 3 := by
  unfold formR at h
  repeat' split at h
  all_goals first | omega | (rename_i hh; exact hh.1)
theorem readR_eq (m : List UInt8) (t : Tr) : readR m t = match seqE ((partsT t).map (readR m)) with | .error e => .error e | .ok ys => fin m t ys := by
  have key : pick (t.kids.map (rr m)) (formR t) = (partsT t).map (readR m) := by
    unfold pick partsT
    have hg : ∀ i, i < t.kids.length → (t.kids.map (rr m)).getD i (.ok [], []) = rr m (kid t i) := by
      intro i hi
      rw [kid, List.getD_eq_getElem?_getD, List.getD_eq_getElem?_getD, List.getElem?_map, List.getElem?_eq_getElem hi]
      rfl
    split
    · rename_i h
      rw [hg 1 (by have := form2 h; omega)]
      rfl
    · split
      · rename_i h
        rw [hg 1 (by have := form3 h; omega), hg 2 (by have := form3 h; omega), rr_snd]
        simp [readR]
      · rfl
  rw [← key]
  obtain ⟨k, p, x, l, e⟩ := t
  rw [readR, rr]
/-- Something that is begun: its tree, and the texts of its parts so far. -/
structure Fr where
  tree : Tr
  texts : List (List UInt8)
def goF (m : List UInt8) (f : Fr) : RR :=
  match seqE (((partsT f.tree).drop f.texts.length).map (readR m)) with
  | .error e => .error e
  | .ok zs => fin m f.tree (f.texts ++ zs)
def goS (m : List UInt8) : RR → List Fr → RR
  | x, [] => x
  | .error e, _ :: _ => .error e
  | .ok x, g :: r => goS m (goF m ⟨g.tree, g.texts ++ [x]⟩) r
theorem goS_error (m : List UInt8) (e : Nat × Nat) (r : List Fr) : goS m (.error e) r = .error e := by cases r <;> rfl
theorem goF_start (m : List UInt8) (t : Tr) : goF m ⟨t, []⟩ = readR m t := by
  rw [goF, readR_eq]
  rfl
/-- One thing more is begun. -/
theorem goS_push (m : List UInt8) (f : Fr) (r : List Fr) (h : f.texts.length < (partsT f.tree).length) : goS m (goF m ⟨(partsT f.tree)[f.texts.length], []⟩) (f :: r) = goS m (goF m f) r := by
  rw [goF_start]
  have hd : (partsT f.tree).drop f.texts.length = (partsT f.tree)[f.texts.length] :: (partsT f.tree).drop (f.texts.length + 1) := List.drop_eq_getElem_cons h
  cases hx : readR m (partsT f.tree)[f.texts.length] with
  | error e =>
    have : goF m f = .error e := by rw [goF, hd, List.map_cons, hx]; rfl
    rw [this, goS_error, goS_error]
  | ok x =>
    have : goF m f = goF m ⟨f.tree, f.texts ++ [x]⟩ := by
      rw [goF, goF, hd, List.map_cons, hx, seqE]
      simp only [List.length_append, List.length_singleton]
      cases seqE (((partsT f.tree).drop (f.texts.length + 1)).map (readR m)) <;> simp
    rw [this]
    rfl
/-- All its parts are read. -/
theorem goF_end (m : List UInt8) (f : Fr) (h : f.texts.length = (partsT f.tree).length) : goF m f = fin m f.tree f.texts := by
  rw [goF, h, List.drop_length]
  simp [seqE]
theorem goS_pop (m : List UInt8) (f g : Fr) (r : List Fr) (x : List UInt8) (h : f.texts.length = (partsT f.tree).length) (hx : madeR m f.tree f.texts = .ok x) : goS m (goF m f) (g :: r) = goS m (goF m ⟨g.tree, g.texts ++ [x]⟩) r := by
  rw [goF_end m f h, fin, hx]
  rfl
theorem goS_end (m : List UInt8) (f : Fr) (x : List UInt8) (h : f.texts.length = (partsT f.tree).length) (hx : madeR m f.tree f.texts = .ok x) : goS m (goF m f) [] = .ok x := by
  rw [goF_end m f h, fin, hx]
  rfl
theorem goS_bad (m : List UInt8) (f : Fr) (r : List Fr) (y : Nat) (h : f.texts.length = (partsT f.tree).length) (hx : madeR m f.tree f.texts = .error y) : goS m (goF m f) r = .error (y, f.tree.place) := by
  rw [goF_end m f h, fin, hx]
  exact goS_error _ _ _
theorem lim_len {x y : List UInt8} (h : lim x = .ok y) : y.length ≤ 200 ∧ y = x := by
  unfold lim at h
  split at h
  · cases h
  · split at h
    · cases h
    · cases h; exact ⟨by omega, rfl⟩
theorem madeR_len {m : List UInt8} {t : Tr} {ys : List (List UInt8)} {x : List UInt8} (h : madeR m t ys = .ok x) : x.length ≤ 200 := by
  unfold madeR at h
  repeat' split at h
  all_goals first | exact (lim_len h).1 | cases h

/-! How much is still to be done. -/
def nodes : Tr → Nat
  | ⟨_, _, _, l, _⟩ => 1 + (l.map nodes).sum
theorem nodes_eq (t : Tr) : nodes t = 1 + (t.kids.map nodes).sum := by
  obtain ⟨k, p, x, l, e⟩ := t
  rw [nodes]
theorem parts_nodes (t : Tr) : ((partsT t).map nodes).sum + 1 ≤ nodes t := by
  rw [nodes_eq]
  unfold partsT
  split
  · rename_i h
    have h2 := form2 h
    obtain ⟨k, p, x, l, e⟩ := t
    match l, h2 with
    | [a, b], _ => simp [kid]; omega
  · split
    · rename_i h
      have h2 := form3 h
      obtain ⟨k, p, x, l, e⟩ := t
      match l, h2 with
      | [a, b, c], _ =>
        have := nodes_eq b
        simp [kid]
        omega
    · simp
def left (f : Fr) (k : Nat) : Nat := 1 + 2 * (((partsT f.tree).drop (f.texts.length + k)).map nodes).sum
def todo : List Fr → Nat
  | [] => 0
  | f :: r => left f 0 + (r.map (fun g => left g 1)).sum
theorem todo_push (f : Fr) (r : List Fr) (h : f.texts.length < (partsT f.tree).length) : todo (⟨(partsT f.tree)[f.texts.length], []⟩ :: f :: r) < todo (f :: r) := by
  have hd : (partsT f.tree).drop f.texts.length = (partsT f.tree)[f.texts.length] :: (partsT f.tree).drop (f.texts.length + 1) := List.drop_eq_getElem_cons h
  have hn := parts_nodes (partsT f.tree)[f.texts.length]
  simp only [todo, left, List.map_cons, List.sum_cons, List.length_nil, Nat.add_zero, List.drop_zero, hd]
  omega
theorem todo_pop (f g : Fr) (r : List Fr) (x : List UInt8) : todo (⟨g.tree, g.texts ++ [x]⟩ :: r) < todo (f :: g :: r) := by
  simp only [todo, left, List.map_cons, List.sum_cons, List.length_append, List.length_singleton, Nat.add_zero]
  omega
end Go.Proofs.YtcjlifhehiolkaaGreat
