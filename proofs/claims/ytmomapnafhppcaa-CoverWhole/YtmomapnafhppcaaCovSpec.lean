/-
  Chapter 10 as functions over texts; no program.
-/
import Derived.Test.YtmomapnafhppcaaLexSpec
import Derived.Lib.LastIndexByte
namespace Go.Proofs.Ytmomapnafhppcaa

/-- Where what counts of a name begins. -/
def dotR : List UInt8 → Nat
  | [] => 0
  | c :: r => if dotR r ≠ 0 then dotR r + 1 else if c = 46 then 1 else 0
def endR (l : List UInt8) : List UInt8 := l.drop (dotR l)
def missR (cs xs : List (List UInt8)) : List (List UInt8) := cs.filter fun c => decide (c ∉ xs.map endR)
def extraR (cs xs : List (List UInt8)) : List (List UInt8) := xs.filter fun x => decide (endR x ∉ cs)
def twF : List (List UInt8) → List (List UInt8) → List (List UInt8)
  | _, [] => []
  | seen, x :: r => (if endR x ∈ seen then [x] else []) ++ twF (seen ++ [endR x]) r
def twiceR (xs : List (List UInt8)) : List (List UInt8) := twF [] xs
def numF : Nat → List (List UInt8) → List UInt8 → Int
  | _, [], _ => -1
  | k, c :: r, y => if c = y then (k : Int) else numF (k + 1) r y
def numR (cs : List (List UInt8)) (x : List UInt8) : Int := numF 0 cs (endR x)

theorem dotR_none : ∀ l : List UInt8, (∀ c ∈ l, c ≠ 46) → dotR l = 0
  | [], _ => rfl
  | c :: r, h => by
    rw [dotR, dotR_none r (fun x hx => h x (List.mem_cons_of_mem _ hx))]
    simp [h c (List.mem_cons_self ..)]
theorem dotR_at : ∀ (l : List UInt8) (i : Nat) (h : i < l.length), l[i] = 46 → (∀ c ∈ l.drop (i + 1), c ≠ 46) → dotR l = i + 1
  | [], i, h, _, _ => by simp at h
  | c :: r, 0, h, hc, hn => by
    simp only [List.getElem_cons_zero] at hc
    rw [dotR, dotR_none r (by simpa using hn)]
    simp [hc]
  | c :: r, i + 1, h, hc, hn => by
    have := dotR_at r i (by simpa using h) (by simpa using hc) (by simpa using hn)
    rw [dotR, this]
    simp
theorem dotR_cases : ∀ l : List UInt8, (dotR l = 0 ∧ ∀ c ∈ l, c ≠ 46) ∨ ∃ i, ∃ h : i < l.length, dotR l = i + 1 ∧ l[i] = 46 ∧ ∀ c ∈ l.drop (i + 1), c ≠ 46
  | [] => .inl ⟨rfl, by simp⟩
  | c :: r => by
    rcases dotR_cases r with ⟨h1, h2⟩ | ⟨i, h, h1, h2, h3⟩
    · by_cases hc : c = 46
      · exact .inr ⟨0, by simp, by rw [dotR, h1]; simp [hc], hc, by simpa using h2⟩
      · exact .inl ⟨by rw [dotR, h1]; simp [hc], by simpa [hc] using h2⟩
    · exact .inr ⟨i + 1, by simpa using h, by rw [dotR, h1]; simp, by simpa using h2, by simpa using h3⟩
theorem dotR_le (l : List UInt8) : dotR l ≤ l.length := by
  rcases dotR_cases l with ⟨h, _⟩ | ⟨i, h, h1, _⟩ <;> omega
theorem endR_nodot (l : List UInt8) : ∀ c ∈ endR l, c ≠ 46 := by
  rcases dotR_cases l with ⟨h, h2⟩ | ⟨i, h, h1, _, h3⟩
  · rw [endR, h]; simpa using h2
  · rw [endR, h1]; exact h3
theorem endR_end (l : List UInt8) : endR (endR l) = endR l := by
  conv => lhs; rw [endR, dotR_none _ (endR_nodot l)]
  rfl
theorem endR_len (l : List UInt8) : (endR l).length ≤ l.length := by rw [endR, List.length_drop]; omega
theorem lastIx_dot (l : List UInt8) : Lib.lastIndexByte (str l) 46 = (dotR l : Int) - 1 := by
  have hs : (str l).size = l.length := rfl
  have hg : ∀ j, j < l.length → (((str l).data[j]!).toNat : Int) = ((l[j]!).toNat : Int) := by
    intro j hj
    show (((l.toArray)[j]!).toNat : Int) = _
    simp [getElem!_def]
  have key := Lib.lastIdx_spec (str l) 46 (str l).size
  unfold Lib.lastIndexByte
  rcases key with ⟨h1, h2⟩ | ⟨i, hi, h1, h2, h3⟩
  · rw [h1, dotR_none l]
    · rfl
    · intro c hc e
      obtain ⟨j, hj, e2⟩ := List.getElem_of_mem hc
      have := h2 j (by omega)
      rw [hg j hj, getElem!_pos l j hj, e2, e] at this
      exact this rfl
  · rw [hs] at hi
    rw [hg i hi, getElem!_pos l i hi] at h2
    rw [h1, dotR_at l i hi (by apply UInt8.toNat_inj.1; simp only [UInt8.reduceToNat]; omega)]
    · omega
    · intro c hc e
      obtain ⟨j, hj, e2⟩ := List.getElem_of_mem hc
      rw [List.length_drop] at hj
      have := h3 (i + 1 + j) (by omega) (by omega)
      rw [hg _ (by omega), getElem!_pos l _ (by omega)] at this
      rw [List.getElem_drop] at e2
      rw [e2, e] at this
      exact this rfl
end Go.Proofs.Ytmomapnafhppcaa
