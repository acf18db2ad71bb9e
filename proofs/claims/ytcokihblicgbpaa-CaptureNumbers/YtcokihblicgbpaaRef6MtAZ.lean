/-
  The document's own reader of modules: what a match is, by its arms. No program in it.
-/
import Derived.Test.YtcokihblicgbpaaRef6MatchZ
namespace Go.Proofs.Ytcokihblicgbpaa

def armF (m : List UInt8) (a : Tr) : PR ((List UInt8 × List (List UInt8)) × Ex) := armP a ((a.kids.map (exprP m)).getD 1 (.error (0, 0)))
theorem zip_self {α β γ : Type} (f : α → β → γ) (g : α → β) : ∀ l : List α, (l.zip (l.map g)).map (fun x => f x.1 x.2) = l.map (fun a => f a (g a))
  | [] => rfl
  | a :: r => by
    rw [List.map_cons, List.zip_cons_cons, List.map_cons, zip_self f g r, List.map_cons]
theorem match_is (m : List UInt8) (t : Tr) (hk1 : t.kind = 1) (hp : 0 < t.kids.length) (hk3 : (kid t 0).kind = 3) (hh : (kid t 0).text = matchK) :
    exprP m t = if t.kids.length < 3 then .error (12, t.place) else if 6 < t.kids.length - 2 then .error (19, t.place)
      else (seqP ([kid t 1].map (exprP m))).bind (fun ks => (seqP ((t.kids.drop 2).map (armF m))).bind (fun az => .ok ⟨9, t.place, [], 0, 0, [], [], ks, [], az.map (·.1), az.map (·.2)⟩)) := by
  rw [exprP_head m t hk1 hp hk3, hh, headP, if_neg (by decide), if_neg (by decide), if_neg (by decide), if_pos rfl]
  by_cases h3 : t.kids.length < 3
  · rw [if_pos h3, if_pos h3]
  · rw [if_neg h3, if_neg h3]
    by_cases h6 : 6 < t.kids.length - 2
    · rw [if_pos h6, if_pos h6]
    · rw [if_neg h6, if_neg h6]
      have e1 : (t.kids.map (exprP m)).getD 1 (.error (0, 0)) = exprP m (kid t 1) := by
        rw [List.getD_eq_getElem?_getD, List.getElem?_map, List.getElem?_eq_getElem (by omega)]
        simp [kid, show 1 < t.kids.length by omega]
      have e2 : armsP ((t.kids.drop 2).zip (((t.kids.map (fun k => k.kids.map (exprP m))).drop 2).map (fun l => l.getD 1 (.error (0, 0))))) = seqP ((t.kids.drop 2).map (armF m)) := by
        unfold armsP
        rw [← List.map_drop, List.map_map]
        rw [zip_self (fun a b => armP a b)]
        rfl
      rw [e1, e2]
      show _ = Except.bind (seqP [exprP m (kid t 1)]) _
      cases exprP m (kid t 1) <;> rfl
/-- What one arm is refused for, in this order. -/
theorem armF_kind {m : List UInt8} {a : Tr} (h : a.kind ≠ 1 ∨ a.kids.length ≠ 2 ∨ (kid a 0).kind ≠ 1) : armF m a = .error (12, a.place) := by unfold armF armP; rw [if_pos h]
theorem armF_many {m : List UInt8} {a : Tr} (h : ¬ (a.kind ≠ 1 ∨ a.kids.length ≠ 2 ∨ (kid a 0).kind ≠ 1)) (h2 : 4 < (kid a 0).kids.length - 1) : armF m a = .error (19, a.place) := by unfold armF armP; rw [if_neg h, if_pos h2]
theorem armF_word {m : List UInt8} {a : Tr} (h : ¬ (a.kind ≠ 1 ∨ a.kids.length ≠ 2 ∨ (kid a 0).kind ≠ 1)) (h2 : ¬ 4 < (kid a 0).kids.length - 1) (h3 : (kid a 0).kids.length = 0 ∨ (kid a 0).kids.all (fun k => decide (k.kind = 3)) = false) : armF m a = .error (12, (kid a 0).place) := by unfold armF armP; rw [if_neg h, if_neg h2, if_pos h3]
/-- An arm that has its form: the case's name, the names, the body. -/
def caseQ6 (a : Tr) : PR (List UInt8) := if bigR (kid (kid a 0) 0).text = false ∧ dotR true (kid (kid a 0) 0).text = false then .error (13, (kid (kid a 0) 0).place) else .ok (kid (kid a 0) 0).text
theorem armF_is {m : List UInt8} {a : Tr} (h : ¬ (a.kind ≠ 1 ∨ a.kids.length ≠ 2 ∨ (kid a 0).kind ≠ 1)) (h2 : ¬ 4 < (kid a 0).kids.length - 1) (h3 : ¬ ((kid a 0).kids.length = 0 ∨ (kid a 0).kids.all (fun k => decide (k.kind = 3)) = false)) :
    armF m a = (caseQ6 a).bind (fun n => (seqP (((kid a 0).kids.drop 1).map nameP)).bind (fun vs => (exprP m (kid a 1)).bind (fun b => .ok ((n, vs), b)))) := by
  have h5 : a.kids.length = 2 := Classical.byContradiction (fun e => h (.inr (.inl e)))
  have e1 : (a.kids.map (exprP m)).getD 1 (.error (0, 0)) = exprP m (kid a 1) := by
    rw [List.getD_eq_getElem?_getD, List.getElem?_map, List.getElem?_eq_getElem (by omega)]
    simp [kid, show 1 < a.kids.length by omega]
  unfold armF armP
  rw [if_neg h, if_neg h2, if_neg h3, e1]
  unfold caseQ6
  by_cases hc : bigR (kid (kid a 0) 0).text = false ∧ dotR true (kid (kid a 0) 0).text = false
  · rw [if_pos hc, if_pos hc]
    rfl
  · rw [if_neg hc, if_neg hc]
    rfl
/-- What stays refused behind the case's name, the names and the body, if the body is read only where nothing is refused. -/
theorem arm_or {m : List UInt8} {a : Tr} (h : ¬ (a.kind ≠ 1 ∨ a.kids.length ≠ 2 ∨ (kid a 0).kind ≠ 1)) (h2 : ¬ 4 < (kid a 0).kids.length - 1) (h3 : ¬ ((kid a 0).kids.length = 0 ∨ (kid a 0).kids.all (fun k => decide (k.kind = 3)) = false)) :
    orR (orR (orR none (caseQ6 a)) (seqP (((kid a 0).kids.drop 1).map nameP))) (exprP m (kid a 1)) = orR none (armF m a) := by
  rw [armF_is h h2 h3, ← orR_bind3]
end Go.Proofs.Ytcokihblicgbpaa
