/-
  The package's Print: a stack of rows, what is left to print of them.
-/
import Derived.Lib.AppendStr
import Derived.Deep.RegionLaw
import Derived.Deep.Upon
import Derived.Deep.CutRange
import Derived.Deep.LoopGhost
import Derived.Test.YtmekjbplodnldaaLexQuote
import Derived.Test.YtmekjbplodnldaaTreeMem
namespace Go.Proofs.Ytmekjbplodnldaa
open Go.RowKit

/-- A row of trees of which the first n are printed. -/
structure Fr where
  l : List Tr
  n : Nat
  v : Value
def restF (f : Fr) : List UInt8 := seps (decide (0 < f.n)) ((f.l.drop f.n).map pr)
/-- What is left to print, the topmost first. -/
def remF : List Fr → List UInt8
  | [] => []
  | [f] => restF f
  | f :: r => restF f ++ 41 :: remF r
def tsz : Tr → Nat
  | ⟨_, _, _, l, _⟩ => 2 + (l.map tsz).sum
theorem tsz_eq (t : Tr) : tsz t = 2 + (t.kids.map tsz).sum := by
  obtain ⟨k, p, x, l, e⟩ := t
  rw [tsz]
def mzF (fs : List Fr) : Nat := (fs.map fun f => 1 + ((f.l.drop f.n).map tsz).sum).sum
theorem remF_cons (f g : Fr) (r : List Fr) : remF (f :: g :: r) = restF f ++ 41 :: remF (g :: r) := rfl
theorem restF_end {f : Fr} (h : f.n = f.l.length) : restF f = [] := by rw [restF, h, List.drop_length]; rfl
theorem restF_step {f : Fr} (h : f.n < f.l.length) : restF f = (if 0 < f.n then [32] else []) ++ (pr f.l[f.n] ++ restF ⟨f.l, f.n + 1, f.v⟩) := by
  unfold restF
  rw [List.drop_eq_getElem_cons h, List.map_cons, seps]
  simp
theorem remF_step {f : Fr} {r : List Fr} (h : f.n < f.l.length) : remF (f :: r) = (if 0 < f.n then [32] else []) ++ (pr f.l[f.n] ++ remF (⟨f.l, f.n + 1, f.v⟩ :: r)) := by
  cases r with
  | nil => exact restF_step h
  | cons g r => rw [remF_cons, remF_cons, restF_step h]; simp
theorem remF_open {f : Fr} {r : List Fr} (h : f.n < f.l.length) (hk : f.l[f.n].kind = 1) (kv : Value) : remF (f :: r) = (if 0 < f.n then [32] else []) ++ (40 :: remF (⟨f.l[f.n].kids, 0, kv⟩ :: ⟨f.l, f.n + 1, f.v⟩ :: r)) := by
  have e : pr f.l[f.n] = 40 :: (seps false (f.l[f.n].kids.map pr) ++ [41]) := by rw [pr_eq, if_neg (by omega), if_neg (by omega), if_pos hk]
  rw [remF_step h, remF_cons, e]
  simp [restF]
theorem mz_pop (f : Fr) (r : List Fr) : mzF r < mzF (f :: r) := by
  simp only [mzF, List.map_cons, List.sum_cons]
  omega
theorem mz_step {f : Fr} {r : List Fr} (h : f.n < f.l.length) : mzF (⟨f.l, f.n + 1, f.v⟩ :: r) < mzF (f :: r) := by
  have := tsz_eq f.l[f.n]
  simp only [mzF, List.map_cons, List.sum_cons]
  rw [List.drop_eq_getElem_cons h, List.map_cons, List.sum_cons]
  omega
theorem mz_open {f : Fr} {r : List Fr} (h : f.n < f.l.length) (kv : Value) : mzF (⟨f.l[f.n].kids, 0, kv⟩ :: ⟨f.l, f.n + 1, f.v⟩ :: r) < mzF (f :: r) := by
  have := tsz_eq f.l[f.n]
  simp only [mzF, List.map_cons, List.sum_cons, List.drop_zero]
  rw [List.drop_eq_getElem_cons h, List.map_cons, List.sum_cons]
  omega

/-- The cells of the stack, the lowest first. -/
def frc (fs : List Fr) : List Value := fs.flatMap fun f => [f.v, .int .i64 (f.n : Int)]
theorem frc_length (fs : List Fr) : (frc fs).length = fs.length * 2 := by
  induction fs with
  | nil => rfl
  | cons f r ih => simp only [frc, List.flatMap_cons, List.length_append, List.length_cons, List.length_nil] at ih ⊢; omega
theorem frc_append (a b : List Fr) : frc (a ++ b) = frc a ++ frc b := by simp [frc]
theorem frc_last (a : List Fr) (f : Fr) : (frc (a ++ [f]))[a.length * 2]? = some f.v ∧ (frc (a ++ [f]))[a.length * 2 + 1]? = some (.int .i64 (f.n : Int)) := by
  have h := frc_length a
  rw [frc_append]
  constructor
  · rw [List.getElem?_append_right (by omega), h, show a.length * 2 - a.length * 2 = 0 from by omega]; rfl
  · rw [List.getElem?_append_right (by omega), h, show a.length * 2 + 1 - a.length * 2 = 1 from by omega]; rfl
theorem frc_next (a : List Fr) (f : Fr) (k : Nat) : (frc (a ++ [f])).set (a.length * 2 + 1) (.int .i64 (k : Int)) = frc (a ++ [⟨f.l, k, f.v⟩]) := by
  have h := frc_length a
  rw [frc_append, frc_append, List.set_append_right _ _ (by omega), h, show a.length * 2 + 1 - a.length * 2 = 1 from by omega]
  rfl
theorem own_apart {w : World} {B B' e e' s s' n n' : Nat} {v v' : Value} {xs xs' : List Value} (h : w.ownsRow B e s v n xs) (h' : w.ownsRow B' e' s' v' n' xs') (he : e ≠ e') : v.ownBlock = none ∨ v.ownBlock ≠ v'.ownBlock := by
  rcases h.2 with ⟨rfl, _⟩ | ⟨g, cap, cur, rfl, _, hg, _⟩
  · exact .inl rfl
  · right
    rcases h'.2 with ⟨rfl, _⟩ | ⟨g', cap', cur', rfl, _, hg', _⟩
    · simp [Value.ownBlock]
    · intro e
      simp [Value.ownBlock] at e
      subst e
      rw [hg] at hg'
      cases hg'
      exact he rfl

theorem infoRow : (Try.prog.info? 56).map (fun i => (i.zero.map (fun z => z.cells.size), i.size, i.bytes)) = some (some 2, 2, 32) := by kernel_rfl
theorem infoByte0 : (Try.prog.info? 5).map (fun i => (i.zero, i.size, i.bytes)) = some (some (.int .u8 0), 1, 1) := by kernel_rfl
theorem append_row {w : World} {ops : Array Oper} {rest : List Oper} {o : Oper} {a : Act} {Q : Exit → Act → World → Prop} (hgd : o.guard = none) (s x : Operand)
    (ho : o.op = .call { callee := .builtin .append, args := #[s, x], argTypes := #[57, 57] })
    (B : Nat) (v : Value) (fs : List Fr) (hs : a.eval s = v) (hown : w.ownsRow B 56 2 v fs.length (frc fs))
    (ad : Addr) (c : Nat) (f : Fr) (hx : a.eval x = .slice (some ad) 1 c) (hnews : ∀ j u, (frc [f])[j]? = some u → w.cell? (ad.add j) = some u) (h1 : f.v.oneCell' = true)
    (hlen : fs.length ≤ 2000000000000) (hB : B ≤ w.heap.size)
    (h : ∀ g cap w', w'.ownsRow B 56 2 (.slice (some ⟨g, 0, none⟩) (fs.length + 1) cap) (fs ++ [f]).length (frc (fs ++ [f])) → w.grownBy w' v.ownBlock → wpList Try.prog ops Q rest (a.put o.dst (.slice (some ⟨g, 0, none⟩) (fs.length + 1) cap)) w') :
    wpList Try.prog ops Q (o :: rest) a w := by
  obtain ⟨i, z, hi, hz, k1, k2, k3⟩ := info_z infoRow
  refine wpList_append_lies w hgd s x 57 ho B 56 i z 2 32 Try.underlying57 hi hz k1 k2 k3 (by decide) v _ _ hs hown ad 1 c (frc [f]) hx rfl hnews (by
    intro u hu
    simp [frc] at hu
    rcases hu with rfl | rfl
    · exact h1
    · rfl) (by decide) (by unfold maxLen; omega) (by omega) hB _ rfl ?_
  intro g cap w' q1 q2 _ _
  refine h g cap w' ?_ q2
  rw [frc_append, List.length_append]
  exact q1
theorem strCells_bc (s : ByteArray) : Lib.strCells s = bc s.data.toList := by simp [Lib.strCells, bc]
/-- append of a text onto a row of bytes of the call's own. -/
theorem append_text {w : World} {ops : Array Oper} {rest : List Oper} {o : Oper} {a : Act} {Q : Exit → Act → World → Prop} (hgd : o.guard = none) (s x : Operand)
    (ho : o.op = .call { callee := .builtin .append, args := #[s, x], argTypes := #[54, 9] })
    (B : Nat) (v : Value) (acc : List UInt8) (hs : a.eval s = v) (hown : w.ownsRow B 5 1 v acc.length (bc acc)) (t : List UInt8) (hx : a.eval x = .string (str t))
    (hlen : acc.length + t.length ≤ 140737488355328) (hB : B ≤ w.heap.size)
    (h : ∀ v' w', w'.ownsRow B 5 1 v' (acc ++ t).length (bc (acc ++ t)) → w.grownBy w' v.ownBlock → wpList Try.prog ops Q rest (a.put o.dst v') w') :
    wpList Try.prog ops Q (o :: rest) a w := by
  obtain ⟨i, hi, hzz⟩ := Option.map_eq_some_iff.1 infoByte0
  simp only [Prod.mk.injEq] at hzz
  refine Lib.wpList_append_own_string w hgd s x 54 9 ho B 5 i Try.underlying54 Try.underlying9 hi hzz.1 hzz.2.1 hzz.2.2 v _ _ hs hown (str t) hx (by rw [str_size]; unfold maxLen; omega) (by rw [str_size]; omega) hB ?_
  intro v' w' q1 q2 _
  refine h v' w' ?_ q2
  rw [str_size, strCells_bc, str_data, ← bc_append, ← List.length_append] at q1
  exact q1
end Go.Proofs.Ytmekjbplodnldaa
