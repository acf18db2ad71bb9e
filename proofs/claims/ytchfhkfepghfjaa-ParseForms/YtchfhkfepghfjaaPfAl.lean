/-
  What the chapter on modules says, as functions over trees: expressions, items, modules; the first refusal from the left. No program in it.
  And: An expression's own part, and what is left of it to be read: which form a tree has, as the package tells it. No program in it.
-/
import Derived.Test.YtchfhkfepghfjaaPfAg
import Derived.Test.YtchfhkfepghfjaaPfAk
namespace Go.Proofs.Ytchfhkfepghfjaa

abbrev PR (α : Type) : Type := Except (Nat × Nat) α
def opsL : List (List UInt8) := [[97, 100, 100], [115, 117, 98], [109, 117, 108], [110, 101, 103], [99, 111, 110, 106], [114, 101], [105, 109], [101, 113], [108, 116], [99, 97, 116], [108, 101, 110], [97, 116], [99, 117, 116]]
def wordsL : List (List UInt8) := opsL ++ [[108, 101, 116], [105, 102], [97, 114, 114, 97, 121], [109, 97, 116, 99, 104], [102, 110], [99, 97, 108, 108], [110, 117, 109], [98, 121, 116, 101, 115], [109, 111, 100, 117, 108, 101], [105, 109, 112, 111, 114, 116], [101, 120, 112, 111, 114, 116], [116, 121, 112, 101], [99, 111, 110, 115, 116], [102, 117, 110]]
def isOp (s : List UInt8) : Bool := opsL.contains s
def isKey (s : List UInt8) : Bool := wordsL.contains s
def letK : List UInt8 := [108, 101, 116]
def ifK : List UInt8 := [105, 102]
def matchK : List UInt8 := [109, 97, 116, 99, 104]
def callK : List UInt8 := [99, 97, 108, 108]
def moduleK : List UInt8 := [109, 111, 100, 117, 108, 101]
def importK : List UInt8 := [105, 109, 112, 111, 114, 116]
def exportK : List UInt8 := [101, 120, 112, 111, 114, 116]
def typeK : List UInt8 := [116, 121, 112, 101]
def constK : List UInt8 := [99, 111, 110, 115, 116]
def funK : List UInt8 := [102, 117, 110]
def hasDotP (l : List UInt8) : Bool := !(l.all notDot)
/-- Two names with a point between, the second one large or small. -/
def dotR (big : Bool) (s : List UInt8) : Bool := hasDotP s && valueR (aheadR s) && (if big then bigR (behindR s) else valueR (behindR s))
/-! Numbers as texts: as the texts of stage 2 have them (dig, pre, numB, cutS, right3, tailW, restW, parseW). -/
def nDig (c : UInt8) : Bool := decide (48 ≤ c.toNat) && decide (c.toNat ≤ 57)
def nAcc (n : Nat) (c : UInt8) : Nat := if n < 1099511627776 then 10 * n + (c.toNat - 48) else n
def nPre (s : ByteArray) : List UInt8 := s.data.toList.takeWhile nDig
def nNum (s : ByteArray) : Nat := (nPre s).foldl nAcc 0
def nMinus (s : ByteArray) : Bool := s.data.toList.head? == some 45
def nCut (s : ByteArray) : ByteArray := if nMinus s then s.extract 1 s.size else s
def nRight3 (p q : Int) : Int × Int × Bool := if p.natAbs ≤ 1048576 ∧ q.natAbs ≤ 1048576 then (p, q, true) else (0, 0, false)
def nSgn (b : Bool) (n : Nat) : Int := if b then -(n : Int) else (n : Int)
def nTail (N : ByteArray → Nat) (p : Int) (m : Bool) (s2 : ByteArray) : Int × Int × Bool :=
  if (nPre s2).length = 0 then (0, 0, false) else if ((s2.extract (nPre s2).length s2.size).toList == [105]) = true then nRight3 p (nSgn m (N s2)) else (0, 0, false)
def nRest (N : ByteArray → Nat) (p : Int) (r : ByteArray) : Int × Int × Bool :=
  if r.toList.isEmpty = true then nRight3 p 0 else if (r.toList == [105]) = true then nRight3 0 p
  else if r.data.toList.head? = some 43 then nTail N p false (r.extract 1 r.size) else if r.data.toList.head? = some 45 then nTail N p true (r.extract 1 r.size) else (0, 0, false)
def nParse (N : ByteArray → Nat) (s : ByteArray) : Int × Int × Bool :=
  if (nPre (nCut s)).length = 0 then (0, 0, false) else nRest N (nSgn (nMinus s) (N (nCut s))) ((nCut s).extract (nPre (nCut s)).length (nCut s).size)
/-- The number that a text tells. -/
def numP (s : List UInt8) : Option (Int × Int) := if (nParse nNum (str s)).2.2 = true then some ((nParse nNum (str s)).1, (nParse nNum (str s)).2.1) else none
/-- An expression. -/
structure Ex where
  kind : Nat
  place : Nat
  name : List UInt8
  re : Int
  im : Int
  text : List UInt8
  ty : List UInt8
  kids : List Ex
  params : List (List UInt8 × List UInt8)
  arms : List (List UInt8 × List (List UInt8))
  bods : List Ex
def seqP {α : Type} : List (PR α) → PR (List α)
  | [] => .ok []
  | .error e :: _ => .error e
  | .ok x :: r => match seqP r with | .error e => .error e | .ok l => .ok (x :: l)
/-- A name that is bound. -/
def nameP (t : Tr) : PR (List UInt8) := if valueR t.text = true ∧ isKey t.text = false then .ok t.text else .error (13, t.place)
def paramP (m : List UInt8) (p : Tr) : PR (List UInt8 × List UInt8) :=
  if p.kind = 1 ∧ p.kids.length = 2 ∧ (kid p 0).kind = 3 then (nameP (kid p 0)).bind (fun n => (readR m (kid p 1)).bind (fun y => .ok (n, y))) else .error (12, p.place)
def exK (k : Nat) (t : Tr) (name : List UInt8) (kids : List Ex) : Ex := ⟨k, t.place, name, 0, 0, [], [], kids, [], [], []⟩
/-- One arm of a match, its body being read as r. -/
def armP (a : Tr) (r : PR Ex) : PR ((List UInt8 × List (List UInt8)) × Ex) :=
  if a.kind ≠ 1 ∨ a.kids.length ≠ 2 ∨ (kid a 0).kind ≠ 1 then .error (12, a.place)
  else if 4 < (kid a 0).kids.length - 1 then .error (19, a.place)
  else if (kid a 0).kids.length = 0 ∨ (kid a 0).kids.all (fun k => decide (k.kind = 3)) = false then .error (12, (kid a 0).place)
  else if bigR (kid (kid a 0) 0).text = false ∧ dotR true (kid (kid a 0) 0).text = false then .error (13, (kid (kid a 0) 0).place)
  else (seqP (((kid a 0).kids.drop 1).map nameP)).bind (fun vs => r.bind (fun b => .ok (((kid (kid a 0) 0).text, vs), b)))
def armsP : List (Tr × PR Ex) → PR (List ((List UInt8 × List (List UInt8)) × Ex)) := fun l => seqP (l.map (fun x => armP x.1 x.2))
/-- A tree with a word at its beginning; rs: what its Kids are read as, rss: what their Kids are. -/
def headP (m : List UInt8) (t : Tr) (h : List UInt8) (rs : List (PR Ex)) (rss : List (List (PR Ex))) : PR Ex :=
  if h = letK then
    if t.kids.length ≠ 4 ∨ (kid t 1).kind ≠ 3 then .error (12, t.place)
    else (nameP (kid t 1)).bind (fun x => (seqP (rs.drop 2)).bind (fun ks => .ok (exK 4 t x ks)))
  else if h = ifK then
    if t.kids.length ≠ 4 then .error (12, t.place) else (seqP (rs.drop 1)).bind (fun ks => .ok (exK 5 t [] ks))
  else if h = arrayL then
    if t.kids.length < 2 then .error (12, t.place) else if 34 < t.kids.length then .error (19, t.place)
    else (readR m (kid t 1)).bind (fun y => (seqP (rs.drop 2)).bind (fun ks => .ok ⟨7, t.place, [], 0, 0, [], y, ks, [], [], []⟩))
  else if h = matchK then
    if t.kids.length < 3 then .error (12, t.place) else if 6 < t.kids.length - 2 then .error (19, t.place)
    else (rs.getD 1 (.error (0, 0))).bind (fun k => (armsP ((t.kids.drop 2).zip ((rss.drop 2).map (fun l => l.getD 1 (.error (0, 0)))))).bind (fun az => .ok ⟨9, t.place, [], 0, 0, [], [], [k], [], az.map (·.1), az.map (·.2)⟩))
  else if h = fnL then
    if t.kids.length ≠ 4 ∨ (kid t 1).kind ≠ 1 then .error (12, t.place) else if 6 < (kid t 1).kids.length then .error (19, t.place)
    else (seqP ((kid t 1).kids.map (paramP m))).bind (fun ps => (readR m (kid t 2)).bind (fun y => (seqP (rs.drop 3)).bind (fun ks => .ok ⟨10, t.place, [], 0, 0, [], y, ks, ps, [], []⟩)))
  else if h = callK then
    if t.kids.length < 2 then .error (12, t.place) else if 6 < t.kids.length - 2 then .error (19, t.place) else (seqP (rs.drop 1)).bind (fun ks => .ok (exK 11 t [] ks))
  else if isOp h = true then (seqP (rs.drop 1)).bind (fun ks => .ok (exK 6 t h ks))
  else if bigR h = true ∨ dotR true h = true then
    if 4 < t.kids.length - 1 then .error (19, t.place) else (seqP (rs.drop 1)).bind (fun ks => .ok (exK 8 t h ks))
  else if (valueR h = true ∧ isKey h = false) ∨ dotR false h = true then
    if 6 < t.kids.length - 1 then .error (19, t.place) else (seqP (rs.drop 1)).bind (fun ks => .ok (exK 12 t h ks))
  else .error (12, t.place)
def formP (m : List UInt8) (t : Tr) (rs : List (PR Ex)) (rss : List (List (PR Ex))) : PR Ex :=
  if t.kind = 4 then .ok ⟨2, t.place, [], 0, 0, t.text, [], [], [], [], []⟩
  else if t.kind = 3 then
    match numP t.text with
    | some (a, b) => .ok ⟨1, t.place, [], a, b, [], [], [], [], [], []⟩
    | none => if valueR t.text = true ∨ dotR false t.text = true then .ok (exK 3 t t.text []) else .error (12, t.place)
  else if t.kind ≠ 1 ∨ t.kids.length = 0 ∨ (kid t 0).kind ≠ 3 then .error (12, t.place)
  else headP m t (kid t 0).text rs rss
def ee (m : List UInt8) : Tr → PR Ex × List (PR Ex)
  | ⟨k, p, x, l, e⟩ => (formP m ⟨k, p, x, l, e⟩ ((l.map (ee m)).map (·.1)) ((l.map (ee m)).map (·.2)), (l.map (ee m)).map (·.1))
/-- Expr. -/
def exprP (m : List UInt8) (t : Tr) : PR Ex := (ee m t).1
theorem ee_snd (m : List UInt8) (t : Tr) : (ee m t).2 = t.kids.map (exprP m) := by
  obtain ⟨k, p, x, l, e⟩ := t
  rw [ee]
  simp [exprP]
theorem exprP_eq (m : List UInt8) (t : Tr) : exprP m t = formP m t (t.kids.map (exprP m)) (t.kids.map (fun k => k.kids.map (exprP m))) := by
  have h1 : (t.kids.map (ee m)).map (·.1) = t.kids.map (exprP m) := by simp [exprP]
  have h2 : (t.kids.map (ee m)).map (·.2) = t.kids.map (fun k => k.kids.map (exprP m)) := by
    rw [List.map_map]
    exact List.map_congr_left (fun k _ => ee_snd m k)
  rw [← h1, ← h2]
  obtain ⟨k, p, x, l, e⟩ := t
  rw [exprP, ee]
/-- A module, or what an item adds to one. -/
structure Md where
  name : List UInt8
  imports : List (List UInt8 × List UInt8)
  exports : List (List UInt8)
  types : List (List UInt8 × List (List UInt8 × List (List UInt8)))
  consts : List (List UInt8 × List UInt8 × Ex)
  funs : List (List UInt8 × List (List UInt8 × List UInt8) × List UInt8 × Ex)
def Md.add (a b : Md) : Md := ⟨a.name, a.imports ++ b.imports, a.exports ++ b.exports, a.types ++ b.types, a.consts ++ b.consts, a.funs ++ b.funs⟩
def Md.none (n : List UInt8) : Md := ⟨n, [], [], [], [], []⟩
/-- A name, large or small. -/
def anyP (t : Tr) : PR (List UInt8) := if nameR t.text = true then .ok t.text else .error (13, t.place)
def bigP (t : Tr) : PR (List UInt8) := if bigR t.text = true then .ok t.text else .error (13, t.place)
def valP (t : Tr) : PR (List UInt8) := if valueR t.text = true then .ok t.text else .error (13, t.place)
def caseP (m : List UInt8) (k : Tr) : PR (List UInt8 × List (List UInt8)) :=
  if k.kind ≠ 1 ∨ k.kids.length = 0 ∨ (kid k 0).kind ≠ 3 then .error (12, k.place)
  else (bigP (kid k 0)).bind (fun n => (seqP ((k.kids.drop 1).map (readR m))).bind (fun fs => .ok (n, fs)))
def allAtoms (t : Tr) : Bool := t.kids.all (fun k => decide (k.kind = 3))
def itemP (m : List UInt8) (t : Tr) : PR Md :=
  if t.kind ≠ 1 ∨ t.kids.length = 0 ∨ (kid t 0).kind ≠ 3 then .error (12, t.place)
  else if (kid t 0).text = importK then
    if t.kids.length < 2 ∨ allAtoms t = false then .error (12, t.place)
    else (valP (kid t 1)).bind (fun fr => (seqP ((t.kids.drop 2).map anyP)).bind (fun ns => .ok ⟨[], ns.map (fun n => (fr, n)), [], [], [], []⟩))
  else if (kid t 0).text = exportK then
    if allAtoms t = false then .error (12, t.place) else (seqP ((t.kids.drop 1).map anyP)).bind (fun ns => .ok ⟨[], [], ns, [], [], []⟩)
  else if (kid t 0).text = typeK then
    if t.kids.length < 3 ∨ (kid t 1).kind ≠ 3 then .error (12, t.place)
    else if 6 < t.kids.length - 2 ∨ (t.kids.drop 2).any (fun k => decide (4 < k.kids.length - 1)) = true then .error (19, t.place)
    else (bigP (kid t 1)).bind (fun n => (seqP ((t.kids.drop 2).map (caseP m))).bind (fun cs => .ok ⟨[], [], [], [(n, cs)], [], []⟩))
  else if (kid t 0).text = constK then
    if t.kids.length ≠ 4 ∨ (kid t 1).kind ≠ 3 then .error (12, t.place)
    else (nameP (kid t 1)).bind (fun n => (readR m (kid t 2)).bind (fun y => (exprP m (kid t 3)).bind (fun b => .ok ⟨[], [], [], [], [(n, y, b)], []⟩)))
  else if (kid t 0).text = funK then
    if t.kids.length ≠ 5 ∨ (kid t 1).kind ≠ 3 ∨ (kid t 2).kind ≠ 1 then .error (12, t.place)
    else if 6 < (kid t 2).kids.length then .error (19, t.place)
    else (nameP (kid t 1)).bind (fun n => (seqP ((kid t 2).kids.map (paramP m))).bind (fun ps => (readR m (kid t 3)).bind (fun y => (exprP m (kid t 4)).bind (fun b => .ok ⟨[], [], [], [], [], [(n, ps, y, b)]⟩))))
  else .error (12, t.place)
def Md.many (a : Md) : Bool := decide (32 < a.imports.length) || decide (32 < a.exports.length) || decide (32 < a.types.length) || decide (32 < a.consts.length) || decide (32 < a.funs.length)
/-- Items one behind the other. -/
def itemsP (m : List UInt8) : Md → List Tr → PR Md
  | a, [] => .ok a
  | a, t :: r => match itemP m t with | .error e => .error e | .ok b => itemsP m (a.add b) r
def treeP (t : Tr) : PR Md :=
  if t.kind ≠ 1 ∨ t.kids.length < 2 ∨ (kid t 0).kind ≠ 3 ∨ (kid t 0).text ≠ moduleK ∨ (kid t 1).kind ≠ 3 then .error (12, t.place)
  else if valueR (kid t 1).text = false then .error (13, (kid t 1).place)
  else (itemsP (kid t 1).text (Md.none (kid t 1).text) (t.kids.drop 2)).bind (fun a => if a.many = true then .error (4, 0) else .ok a)
/-- Module. -/
def moduleP (l : List UInt8) : PR Md := match parseR l with | .error e => .error e | .ok t => treeP t
end Go.Proofs.Ytchfhkfepghfjaa

namespace Go.Proofs.Ytchfhkfepghfjaa

theorem bind_ok {α β : Type} (x : α) (f : α → PR β) : (Except.ok x : PR α).bind f = f x := rfl
theorem bind_error {α β : Type} (e : Nat × Nat) (f : α → PR β) : (Except.error e : PR α).bind f = .error e := rfl
theorem bind_bind {α β γ : Type} (r : PR α) (f : α → PR β) (g : β → PR γ) : (r.bind f).bind g = r.bind (fun x => (f x).bind g) := by
  cases r <;> rfl
def pathV (s : List UInt8) : Bool := valueR s || dotR false s
def pathB (s : List UInt8) : Bool := bigR s || dotR true s
/-- An arm, its body read. -/
def armX (m : List UInt8) (a : Tr) : PR ((List UInt8 × List (List UInt8)) × Ex) := armP a (exprP m (kid a 1))
def fillX (e : Ex) (ks : List Ex) (az : List ((List UInt8 × List (List UInt8)) × Ex)) : Ex := ⟨e.kind, e.place, e.name, e.re, e.im, e.text, e.ty, ks, e.params, az.map (·.1), az.map (·.2)⟩
def hasHeadX (t : Tr) : Bool := decide (t.kind = 1) && decide (0 < t.kids.length) && decide ((kid t 0).kind = 3)
def headX (t : Tr) : List UInt8 := if hasHeadX t = true then (kid t 0).text else []
/-- The Kind of what begins with h and has n Kids, the second of Kind k. -/
def kindH (h : List UInt8) (n k : Nat) : Nat :=
  if h = letK ∧ n = 4 ∧ k = 3 then 4 else if h = ifK ∧ n = 4 then 5 else if h = arrayL ∧ 2 ≤ n then 7 else if h = matchK ∧ 3 ≤ n then 9
  else if h = fnL ∧ n = 4 ∧ k = 1 then 10 else if h = callK ∧ 2 ≤ n then 11 else if isOp h = true then 6 else if isKey h = true then 0 else if pathB h = true then 8 else if pathV h = true then 12 else 0
def kindO (t : Tr) : Nat := kindH (headX t) t.kids.length (kid t 1).kind
def kindX (t : Tr) : Nat :=
  if t.kind = 4 then 2 else if t.kind = 1 then kindO t else if t.kind = 3 then (if (numP t.text).isSome = true then 1 else if pathV t.text = true then 3 else 0) else 0
/-- It has more of something than may be. -/
def crowdX (t : Tr) (k : Nat) : Bool :=
  if k = 7 then decide (34 < t.kids.length) else if k = 9 then decide (8 < t.kids.length) else if k = 8 then decide (5 < t.kids.length) else if k = 10 then decide (6 < (kid t 1).kids.length)
  else if k = 11 then decide (8 < t.kids.length) else if k = 12 then decide (7 < t.kids.length) else false
abbrev Shape : Type := Ex × List Tr × List Tr
/-- Of that Kind: the expression without Kids and Arms, and the trees that these are read of. -/
def shapeK (m : List UInt8) (t : Tr) (k : Nat) : PR Shape :=
  if k = 1 then .ok (⟨1, t.place, [], ((numP t.text).getD (0, 0)).1, ((numP t.text).getD (0, 0)).2, [], [], [], [], [], []⟩, [], [])
  else if k = 2 then .ok (⟨2, t.place, [], 0, 0, t.text, [], [], [], [], []⟩, [], [])
  else if k = 3 then .ok (exK 3 t t.text [], [], [])
  else if k = 4 then (nameP (kid t 1)).bind (fun x => .ok (exK 4 t x [], t.kids.drop 2, []))
  else if k = 5 then .ok (exK 5 t [] [], t.kids.drop 1, [])
  else if k = 7 then (readR m (kid t 1)).bind (fun y => .ok (⟨7, t.place, [], 0, 0, [], y, [], [], [], []⟩, t.kids.drop 2, []))
  else if k = 9 then .ok (exK 9 t [] [], [kid t 1], t.kids.drop 2)
  else if k = 10 then (seqP ((kid t 1).kids.map (paramP m))).bind (fun ps => (readR m (kid t 2)).bind (fun y => .ok (⟨10, t.place, [], 0, 0, [], y, [], ps, [], []⟩, t.kids.drop 3, [])))
  else if k = 11 then .ok (exK 11 t [] [], t.kids.drop 1, [])
  else .ok (exK k t (kid t 0).text [], t.kids.drop 1, [])
def shapeP (m : List UInt8) (t : Tr) : PR Shape :=
  if kindX t = 0 then .error (12, t.place) else if crowdX t (kindX t) = true then .error (19, t.place) else shapeK m t (kindX t)
def restP (m : List UInt8) (r : Shape) : PR Ex := (seqP (r.2.1.map (exprP m))).bind (fun ks => (seqP (r.2.2.map (armX m))).bind (fun az => .ok (fillX r.1 ks az)))
theorem fillX_nil (m : List UInt8) (e : Ex) (h1 : e.kids = []) (h2 : e.arms = []) (h3 : e.bods = []) : restP m (e, [], []) = .ok e := by
  obtain ⟨a, b, c, d, e, f, g, l, i, j, n⟩ := e
  simp only at h1 h2 h3
  subst h1 h2 h3
  rfl
theorem rest_kids (m : List UInt8) (e : Ex) (l : List Tr) (f : List Ex → Ex) (h : ∀ ks, fillX e ks [] = f ks) : restP m (e, l, []) = (seqP (l.map (exprP m))).bind (fun ks => .ok (f ks)) := by
  unfold restP
  congr 1
  funext ks
  rw [← h ks]
  rfl
theorem map_drop (m : List UInt8) (l : List Tr) (n : Nat) : (l.map (exprP m)).drop n = (l.drop n).map (exprP m) := (List.map_drop).symm
theorem kid_map {α : Type} (f : Tr → α) (t : Tr) (i : Nat) (d : α) (h : i < t.kids.length) : (t.kids.map f).getD i d = f (kid t i) := by
  simp [kid, List.getD_eq_getElem?_getD, h]
theorem arms_eq (m : List UInt8) (l : List Tr) : armsP (l.zip ((l.map (fun k => k.kids.map (exprP m))).map (fun l => l.getD 1 (.error (0, 0))))) = seqP (l.map (armX m)) := by
  unfold armsP
  congr 1
  induction l with
  | nil => rfl
  | cons a l ih =>
    simp only [List.map_cons, List.zip_cons_cons, List.cons.injEq]
    refine ⟨?_, ih⟩
    unfold armX armP
    by_cases h : a.kind ≠ 1 ∨ a.kids.length ≠ 2 ∨ (kid a 0).kind ≠ 1
    · rw [if_pos h, if_pos h]
    · rw [if_neg h, if_neg h, kid_map (exprP m) a 1 _ (by omega)]
theorem headP_rest (m : List UInt8) (t : Tr) (h : hasHeadX t = true) : headP m t (kid t 0).text (t.kids.map (exprP m)) (t.kids.map (fun k => k.kids.map (exprP m))) = (shapeP m t).bind (restP m) := by
  have hh := h
  simp only [hasHeadX, Bool.and_eq_true, decide_eq_true_eq] at hh
  obtain ⟨⟨h1, h2⟩, h3⟩ := hh
  have hX : headX t = (kid t 0).text := by rw [headX, if_pos h]
  have hk : kindX t = kindH (kid t 0).text t.kids.length (kid t 1).kind := by
    unfold kindX
    rw [if_neg (by omega), if_pos h1, kindO, hX]
  unfold shapeP
  rw [hk]
  generalize hw : (kid t 0).text = w at *
  have D : ∃ K, K = kindH w t.kids.length (kid t 1).kind := ⟨_, rfl⟩
  obtain ⟨K, D⟩ := D
  rw [← D]
  unfold kindH at D
  unfold headP
  by_cases c1 : w = letK
  · subst c1
    rw [if_pos rfl]
    by_cases c : t.kids.length ≠ 4 ∨ (kid t 1).kind ≠ 3
    · rw [if_neg (by rintro ⟨_, h⟩; omega), if_neg (by rintro ⟨h, _⟩; revert h; decide), if_neg (by rintro ⟨h, _⟩; revert h; decide), if_neg (by rintro ⟨h, _⟩; revert h; decide), if_neg (by rintro ⟨h, _⟩; revert h; decide), if_neg (by rintro ⟨h, _⟩; revert h; decide), if_neg (by decide), if_pos (by decide)] at D
      subst D
      rw [if_pos c, if_pos rfl]
      rfl
    · rw [if_pos ⟨rfl, by omega, by omega⟩] at D
      subst D
      rw [if_neg c, if_neg (by decide), if_neg (by simp [crowdX])]
      simp only [shapeK, if_neg (show ¬ (4 : Nat) = 1 by decide), if_neg (show ¬ (4 : Nat) = 2 by decide), if_neg (show ¬ (4 : Nat) = 3 by decide), if_true, bind_bind, bind_ok]
      congr 1
      funext x
      rw [rest_kids m _ _ (fun ks => exK 4 t x ks) (fun ks => rfl), map_drop]
  rw [if_neg c1]
  rw [if_neg (fun h => c1 h.1)] at D
  by_cases c2 : w = ifK
  · subst c2
    rw [if_pos rfl]
    by_cases c : t.kids.length ≠ 4
    · rw [if_neg (fun h => c h.2), if_neg (by rintro ⟨h, _⟩; revert h; decide), if_neg (by rintro ⟨h, _⟩; revert h; decide), if_neg (by rintro ⟨h, _⟩; revert h; decide), if_neg (by rintro ⟨h, _⟩; revert h; decide), if_neg (by decide), if_pos (by decide)] at D
      subst D
      rw [if_pos c, if_pos rfl]
      rfl
    · rw [if_pos ⟨rfl, by omega⟩] at D
      subst D
      rw [if_neg c, if_neg (by decide), if_neg (by simp [crowdX])]
      simp only [shapeK, if_neg (show ¬ (5 : Nat) = 1 by decide), if_neg (show ¬ (5 : Nat) = 2 by decide), if_neg (show ¬ (5 : Nat) = 3 by decide), if_neg (show ¬ (5 : Nat) = 4 by decide), if_true, bind_ok]
      rw [rest_kids m _ _ (fun ks => exK 5 t [] ks) (fun ks => rfl), map_drop]
  rw [if_neg c2]
  rw [if_neg (fun h => c2 h.1)] at D
  by_cases c3 : w = arrayL
  · subst c3
    rw [if_pos rfl]
    by_cases c : t.kids.length < 2
    · rw [if_neg (fun h => by omega), if_neg (by rintro ⟨h, _⟩; revert h; decide), if_neg (by rintro ⟨h, _⟩; revert h; decide), if_neg (by rintro ⟨h, _⟩; revert h; decide), if_neg (by decide), if_pos (by decide)] at D
      subst D
      rw [if_pos c, if_pos rfl]
      rfl
    · rw [if_pos ⟨rfl, by omega⟩] at D
      subst D
      rw [if_neg c, if_neg (show ¬ (7 : Nat) = 0 by decide)]
      by_cases c' : 34 < t.kids.length
      · rw [if_pos c', if_pos (by simp [crowdX]; omega)]
        rfl
      · rw [if_neg c', if_neg (by simp [crowdX]; omega)]
        simp only [shapeK, if_neg (show ¬ (7 : Nat) = 1 by decide), if_neg (show ¬ (7 : Nat) = 2 by decide), if_neg (show ¬ (7 : Nat) = 3 by decide), if_neg (show ¬ (7 : Nat) = 4 by decide), if_neg (show ¬ (7 : Nat) = 5 by decide), if_true, bind_bind, bind_ok]
        congr 1
        funext y
        rw [rest_kids m _ _ (fun ks => ⟨7, t.place, [], 0, 0, [], y, ks, [], [], []⟩) (fun ks => rfl), map_drop]
  rw [if_neg c3]
  rw [if_neg (fun h => c3 h.1)] at D
  by_cases c4 : w = matchK
  · subst c4
    rw [if_pos rfl]
    by_cases c : t.kids.length < 3
    · rw [if_neg (fun h => by omega), if_neg (by rintro ⟨h, _⟩; revert h; decide), if_neg (by rintro ⟨h, _⟩; revert h; decide), if_neg (by decide), if_pos (by decide)] at D
      subst D
      rw [if_pos c, if_pos rfl]
      rfl
    · rw [if_pos ⟨rfl, by omega⟩] at D
      subst D
      rw [if_neg c, if_neg (show ¬ (9 : Nat) = 0 by decide)]
      by_cases c' : 6 < t.kids.length - 2
      · rw [if_pos c', if_pos (by simp [crowdX]; omega)]
        rfl
      · rw [if_neg c', if_neg (by simp [crowdX]; omega)]
        simp only [shapeK, if_neg (show ¬ (9 : Nat) = 1 by decide), if_neg (show ¬ (9 : Nat) = 2 by decide), if_neg (show ¬ (9 : Nat) = 3 by decide), if_neg (show ¬ (9 : Nat) = 4 by decide), if_neg (show ¬ (9 : Nat) = 5 by decide), if_neg (show ¬ (9 : Nat) = 7 by decide), if_true, bind_ok]
        have e2 : (t.kids.map (fun k => k.kids.map (exprP m))).drop 2 = (t.kids.drop 2).map (fun k => k.kids.map (exprP m)) := (List.map_drop).symm
        rw [kid_map (exprP m) t 1 _ (by omega), e2, arms_eq]
        unfold restP
        simp only [List.map_cons, List.map_nil]
        cases exprP m (kid t 1) with
        | error e => rfl
        | ok k => rfl
  rw [if_neg c4]
  rw [if_neg (fun h => c4 h.1)] at D
  by_cases c5 : w = fnL
  · subst c5
    rw [if_pos rfl]
    by_cases c : t.kids.length ≠ 4 ∨ (kid t 1).kind ≠ 1
    · rw [if_neg (fun h => by omega), if_neg (by rintro ⟨h, _⟩; revert h; decide), if_neg (by decide), if_pos (by decide)] at D
      subst D
      rw [if_pos c, if_pos rfl]
      rfl
    · rw [if_pos ⟨rfl, by omega, by omega⟩] at D
      subst D
      rw [if_neg c, if_neg (show ¬ (10 : Nat) = 0 by decide)]
      by_cases c' : 6 < (kid t 1).kids.length
      · rw [if_pos c', if_pos (by simp [crowdX]; omega)]
        rfl
      · rw [if_neg c', if_neg (by simp [crowdX]; omega)]
        simp only [shapeK, if_neg (show ¬ (10 : Nat) = 1 by decide), if_neg (show ¬ (10 : Nat) = 2 by decide), if_neg (show ¬ (10 : Nat) = 3 by decide), if_neg (show ¬ (10 : Nat) = 4 by decide), if_neg (show ¬ (10 : Nat) = 5 by decide), if_neg (show ¬ (10 : Nat) = 7 by decide), if_neg (show ¬ (10 : Nat) = 9 by decide), if_true, bind_bind, bind_ok]
        congr 1
        funext ps
        congr 1
        funext y
        rw [rest_kids m _ _ (fun ks => ⟨10, t.place, [], 0, 0, [], y, ks, ps, [], []⟩) (fun ks => rfl), map_drop]
  rw [if_neg c5]
  rw [if_neg (fun h => c5 h.1)] at D
  by_cases c6 : w = callK
  · subst c6
    rw [if_pos rfl]
    by_cases c : t.kids.length < 2
    · rw [if_neg (fun h => by omega), if_neg (by decide), if_pos (by decide)] at D
      subst D
      rw [if_pos c, if_pos rfl]
      rfl
    · rw [if_pos ⟨rfl, by omega⟩] at D
      subst D
      rw [if_neg c, if_neg (show ¬ (11 : Nat) = 0 by decide)]
      by_cases c' : 6 < t.kids.length - 2
      · rw [if_pos c', if_pos (by simp [crowdX]; omega)]
        rfl
      · rw [if_neg c', if_neg (by simp [crowdX]; omega)]
        simp only [shapeK, if_neg (show ¬ (11 : Nat) = 1 by decide), if_neg (show ¬ (11 : Nat) = 2 by decide), if_neg (show ¬ (11 : Nat) = 3 by decide), if_neg (show ¬ (11 : Nat) = 4 by decide), if_neg (show ¬ (11 : Nat) = 5 by decide), if_neg (show ¬ (11 : Nat) = 7 by decide), if_neg (show ¬ (11 : Nat) = 9 by decide), if_neg (show ¬ (11 : Nat) = 10 by decide), if_true, bind_ok]
        rw [rest_kids m _ _ (fun ks => exK 11 t [] ks) (fun ks => rfl), map_drop]
  rw [if_neg c6]
  rw [if_neg (fun h => c6 h.1)] at D
  by_cases c7 : isOp w = true
  · rw [if_pos c7] at D
    subst D
    rw [if_pos c7, if_neg (show ¬ (6 : Nat) = 0 by decide), if_neg (by simp [crowdX])]
    simp only [shapeK, if_neg (show ¬ (6 : Nat) = 1 by decide), if_neg (show ¬ (6 : Nat) = 2 by decide), if_neg (show ¬ (6 : Nat) = 3 by decide), if_neg (show ¬ (6 : Nat) = 4 by decide), if_neg (show ¬ (6 : Nat) = 5 by decide), if_neg (show ¬ (6 : Nat) = 7 by decide), if_neg (show ¬ (6 : Nat) = 9 by decide), if_neg (show ¬ (6 : Nat) = 10 by decide), if_neg (show ¬ (6 : Nat) = 11 by decide), bind_ok]
    rw [rest_kids m _ _ (fun ks => exK 6 t (kid t 0).text ks) (fun ks => rfl), map_drop, hw]
  rw [if_neg c7]
  rw [if_neg c7] at D
  by_cases c8 : isKey w = true
  · have hb : ¬ (bigR w = true ∨ dotR true w = true) := by
      have : ∀ x ∈ wordsL, ¬ (bigR x = true ∨ dotR true x = true) := by decide
      exact this w (by simpa [isKey] using c8)
    have hv : ¬ ((valueR w = true ∧ isKey w = false) ∨ dotR false w = true) := by
      have : ∀ x ∈ wordsL, ¬ (dotR false x = true) := by decide
      rintro (⟨_, h⟩ | h)
      · rw [c8] at h; cases h
      · exact this w (by simpa [isKey] using c8) h
    rw [if_pos c8] at D
    subst D
    rw [if_neg hb, if_neg hv, if_pos rfl]
    rfl
  rw [if_neg c8] at D
  by_cases c9 : bigR w = true ∨ dotR true w = true
  · rw [if_pos (show pathB w = true by simpa [pathB] using c9)] at D
    subst D
    rw [if_pos c9, if_neg (show ¬ (8 : Nat) = 0 by decide)]
    by_cases c' : 4 < t.kids.length - 1
    · rw [if_pos c', if_pos (by simp [crowdX]; omega)]
      rfl
    · rw [if_neg c', if_neg (by simp [crowdX]; omega)]
      simp only [shapeK, if_neg (show ¬ (8 : Nat) = 1 by decide), if_neg (show ¬ (8 : Nat) = 2 by decide), if_neg (show ¬ (8 : Nat) = 3 by decide), if_neg (show ¬ (8 : Nat) = 4 by decide), if_neg (show ¬ (8 : Nat) = 5 by decide), if_neg (show ¬ (8 : Nat) = 7 by decide), if_neg (show ¬ (8 : Nat) = 9 by decide), if_neg (show ¬ (8 : Nat) = 10 by decide), if_neg (show ¬ (8 : Nat) = 11 by decide), bind_ok]
      rw [rest_kids m _ _ (fun ks => exK 8 t (kid t 0).text ks) (fun ks => rfl), map_drop, hw]
  rw [if_neg c9]
  rw [if_neg (show ¬ pathB w = true by simpa [pathB] using c9)] at D
  have hkf : isKey w = false := by simpa using c8
  by_cases c10 : (valueR w = true ∧ isKey w = false) ∨ dotR false w = true
  · have hp : pathV w = true := by
      rcases c10 with h | h
      · simp [pathV, h.1]
      · simp [pathV, h]
    rw [if_pos hp] at D
    subst D
    rw [if_pos c10, if_neg (show ¬ (12 : Nat) = 0 by decide)]
    by_cases c' : 6 < t.kids.length - 1
    · rw [if_pos c', if_pos (by simp [crowdX]; omega)]
      rfl
    · rw [if_neg c', if_neg (by simp [crowdX]; omega)]
      simp only [shapeK, if_neg (show ¬ (12 : Nat) = 1 by decide), if_neg (show ¬ (12 : Nat) = 2 by decide), if_neg (show ¬ (12 : Nat) = 3 by decide), if_neg (show ¬ (12 : Nat) = 4 by decide), if_neg (show ¬ (12 : Nat) = 5 by decide), if_neg (show ¬ (12 : Nat) = 7 by decide), if_neg (show ¬ (12 : Nat) = 9 by decide), if_neg (show ¬ (12 : Nat) = 10 by decide), if_neg (show ¬ (12 : Nat) = 11 by decide), bind_ok]
      rw [rest_kids m _ _ (fun ks => exK 12 t (kid t 0).text ks) (fun ks => rfl), map_drop, hw]
  · have hp : ¬ pathV w = true := by
      intro h
      simp only [pathV, Bool.or_eq_true] at h
      exact c10 (h.elim (fun h => .inl ⟨h, hkf⟩) .inr)
    rw [if_neg hp] at D
    subst D
    rw [if_neg c10, if_pos rfl]
    rfl
/-- An expression: its own part, then the rest. -/
theorem expr_shape (m : List UInt8) (t : Tr) : exprP m t = (shapeP m t).bind (restP m) := by
  rw [exprP_eq]
  unfold formP
  by_cases k4 : t.kind = 4
  · have : kindX t = 2 := by simp [kindX, k4]
    rw [if_pos k4, shapeP, this, if_neg (by decide), if_neg (by simp [crowdX])]
    rfl
  rw [if_neg k4]
  by_cases k3 : t.kind = 3
  · rw [if_pos k3]
    cases hn : numP t.text with
    | some p =>
      obtain ⟨a, b⟩ := p
      have : kindX t = 1 := by simp [kindX, k3, hn]
      simp only
      rw [shapeP, this, if_neg (by decide), if_neg (by simp [crowdX])]
      simp only [shapeK, if_true, hn, Option.getD_some]
      rfl
    | none =>
      simp only
      by_cases hv : valueR t.text = true ∨ dotR false t.text = true
      · have : kindX t = 3 := by simp [kindX, k3, hn, pathV, hv]
        rw [if_pos hv, shapeP, this, if_neg (by decide), if_neg (by simp [crowdX])]
        rfl
      · have : kindX t = 0 := by simp [kindX, k3, hn, pathV]; simpa using hv
        rw [if_neg hv, shapeP, this, if_pos rfl]
        rfl
  rw [if_neg k3]
  by_cases hh : hasHeadX t = true
  · have hh' := hh
    simp only [hasHeadX, Bool.and_eq_true, decide_eq_true_eq] at hh'
    rw [if_neg (by omega)]
    exact headP_rest m t hh
  · have hh' := hh
    simp only [hasHeadX, Bool.and_eq_true, decide_eq_true_eq] at hh'
    have : kindX t = 0 := by
      unfold kindX
      rw [if_neg k4]
      by_cases k1 : t.kind = 1
      · rw [if_pos k1, kindO, headX, if_neg hh]
        simp [kindH, letK, ifK, arrayL, matchK, fnL, callK]
        decide
      · rw [if_neg k1, if_neg k3]
    rw [if_pos (by omega), shapeP, this, if_pos rfl]
    rfl
end Go.Proofs.Ytchfhkfepghfjaa
