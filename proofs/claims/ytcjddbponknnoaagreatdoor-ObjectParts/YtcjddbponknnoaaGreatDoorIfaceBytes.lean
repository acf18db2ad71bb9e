/-
  An interface as bytes: what is written; how long it is. No program in it.
-/
import Derived.Test.YtcjddbponknnoaaGreatDoorIfaceSpec
import Derived.Test.YtcjddbponknnoaaGreatDoorWireBase
namespace Go.Proofs.YtcjddbponknnoaaGreatDoor

def txtB (x : List UInt8) : List Nat := Wire.enc x.length ++ x.map UInt8.toNat
def fieldsB : List (List UInt8) → List Nat
  | [] => []
  | f :: r => txtB f ++ fieldsB r
def caseB (c : Cs) : List Nat := txtB c.1 ++ (Wire.enc c.2.length ++ fieldsB c.2)
def casesB : List Cs → List Nat
  | [] => []
  | c :: r => caseB c ++ casesB r
def itemB (x : It) : List Nat := Wire.enc x.kind.toNat ++ (txtB x.name ++ (if x.kind = 1 then Wire.enc x.cases.length ++ casesB x.cases else txtB x.ty))
def itemsB : List It → List Nat
  | [] => []
  | x :: r => itemB x ++ itemsB r
def ifaceB (m : List UInt8) (l : List It) : List Nat := txtB m ++ (Wire.enc l.length ++ itemsB l)
theorem fieldsB_append : ∀ (a b : List (List UInt8)), fieldsB (a ++ b) = fieldsB a ++ fieldsB b
  | [], b => rfl
  | x :: r, b => by rw [List.cons_append, fieldsB, fieldsB_append r b, fieldsB, List.append_assoc]
theorem casesB_append : ∀ (a b : List Cs), casesB (a ++ b) = casesB a ++ casesB b
  | [], b => rfl
  | x :: r, b => by rw [List.cons_append, casesB, casesB_append r b, casesB, List.append_assoc]
theorem itemsB_append : ∀ (a b : List It), itemsB (a ++ b) = itemsB a ++ itemsB b
  | [], b => rfl
  | x :: r, b => by rw [List.cons_append, itemsB, itemsB_append r b, itemsB, List.append_assoc]
theorem fieldsB_at (fs : List (List UInt8)) (k : Nat) (h : k < fs.length) : fieldsB (fs.take (k + 1)) = fieldsB (fs.take k) ++ txtB fs[k] := by
  rw [List.take_succ_eq_append_getElem h, fieldsB_append]
  simp [fieldsB]
theorem casesB_at (fs : List Cs) (k : Nat) (h : k < fs.length) : casesB (fs.take (k + 1)) = casesB (fs.take k) ++ caseB fs[k] := by
  rw [List.take_succ_eq_append_getElem h, casesB_append]
  simp [casesB]
theorem itemsB_at (fs : List It) (k : Nat) (h : k < fs.length) : itemsB (fs.take (k + 1)) = itemsB (fs.take k) ++ itemB fs[k] := by
  rw [List.take_succ_eq_append_getElem h, itemsB_append]
  simp [itemsB]
theorem fieldsB_le (fs : List (List UInt8)) (k : Nat) : (fieldsB (fs.take k)).length ≤ (fieldsB fs).length := by
  have := congrArg List.length (fieldsB_append (fs.take k) (fs.drop k))
  rw [List.take_append_drop, List.length_append] at this
  omega
theorem casesB_le (fs : List Cs) (k : Nat) : (casesB (fs.take k)).length ≤ (casesB fs).length := by
  have := congrArg List.length (casesB_append (fs.take k) (fs.drop k))
  rw [List.take_append_drop, List.length_append] at this
  omega
theorem itemsB_le (fs : List It) (k : Nat) : (itemsB (fs.take k)).length ≤ (itemsB fs).length := by
  have := congrArg List.length (itemsB_append (fs.take k) (fs.drop k))
  rw [List.take_append_drop, List.length_append] at this
  omega
theorem txtB_len (x : List UInt8) (h : x.length < 18446744073709551616) : (txtB x).length ≤ x.length + 10 := by
  have := Wire.enc_ten x.length h
  simp [txtB]
  omega
theorem txtB_ge (x : List UInt8) : x.length ≤ (txtB x).length := by simp [txtB]
theorem fields_len : ∀ (fs : List (List UInt8)), (∀ f ∈ fs, f.length ≤ 200) → (fieldsB fs).length ≤ 210 * fs.length
  | [], _ => by simp [fieldsB]
  | f :: r, h => by
    have h1 := fields_len r (fun x hx => h x (by simp [hx]))
    have h2 := h f (by simp)
    have h3 := txtB_len f (by omega)
    simp only [fieldsB, List.length_append, List.length_cons]
    omega
theorem name_len {x : List UInt8} (h : nameR x = true) : x.length ≤ 24 := by
  unfold nameR at h
  simp only [Bool.and_eq_true, decide_eq_true_eq] at h
  exact h.1.1.2
theorem big_len {x : List UInt8} (h : bigR x = true) : x.length ≤ 24 := by
  unfold bigR at h
  rw [Bool.and_eq_true] at h
  exact name_len h.1
theorem value_len {x : List UInt8} (h : valueR x = true) : x.length ≤ 24 := by
  unfold valueR at h
  rw [Bool.and_eq_true] at h
  exact name_len h.1
theorem right_len {x : List UInt8} (h : rightR x = true) : x.length ≤ 200 := by
  unfold rightR at h
  simp only [Bool.and_eq_true, decide_eq_true_eq] at h
  exact h.1
theorem case_len {ah : List Cs} {c : Cs} (h : caseE ah c = 0) : (caseB c).length ≤ 1000 := by
  unfold caseE at h
  split at h
  · cases h
  · split at h
    · cases h
    · split at h
      · cases h
      · split at h
        · rename_i h1 _ h3 h4
          have h5 := big_len (x := c.1) (by simpa using h1)
          have h6 := txtB_len c.1 (by omega)
          have h7 := fields_len c.2 (fun f hf => right_len (List.all_eq_true.1 h4 f hf))
          have h8 := Wire.enc_ten c.2.length (by omega)
          simp only [caseB, List.length_append]
          omega
        · cases h
theorem cases_len : ∀ (cs ah : List Cs), casesE ah cs = 0 → (casesB cs).length ≤ 1000 * cs.length
  | [], _, _ => by simp [casesB]
  | c :: r, ah, h => by
    rw [casesE] at h
    split at h
    · rename_i h0
      have h1 := case_len h0
      have h2 := cases_len r _ h
      simp only [casesB, List.length_append, List.length_cons]
      omega
    · rename_i h0
      exact absurd h h0
theorem item_kind {p : Option (List UInt8)} {x : It} (h : itemE p x = 0) : kindE x.kind = true ∧ namedE x = true := by
  unfold itemE at h
  split at h
  · cases h
  · split at h
    · cases h
    · rename_i h1 h2
      exact ⟨by simpa using h1, by simpa using h2⟩
theorem kind_three {k : Int} (h : kindE k = true) : 1 ≤ k ∧ k ≤ 3 := by
  simp only [kindE, Bool.or_eq_true, decide_eq_true_eq] at h
  omega
theorem item_len {p : Option (List UInt8)} {x : It} (h : itemE p x = 0) : (itemB x).length ≤ 7000 := by
  obtain ⟨h1, h2⟩ := item_kind h
  have h3 := kind_three h1
  have h4 := Wire.enc_ten x.kind.toNat (by omega)
  have h5 : x.name.length ≤ 24 := by
    unfold namedE at h2
    split at h2
    · exact big_len h2
    · exact value_len h2
  have h6 := txtB_len x.name (by omega)
  unfold itemE at h
  split at h
  · cases h
  · split at h
    · cases h
    · split at h
      · cases h
      · split at h
        · rename_i hk
          unfold valueE at h
          split at h
          · cases h
          · split at h
            · cases h
            · rename_i hr
              have h7 := right_len (x := x.ty) (by simpa using hr)
              have h8 := txtB_len x.ty (by omega)
              simp only [itemB, if_neg hk, List.length_append]
              omega
        · rename_i hk
          have hk1 : x.kind = 1 := Classical.not_not.1 hk
          unfold typeE at h
          split at h
          · cases h
          · split at h
            · cases h
            · split at h
              · cases h
              · rename_i h6'
                have h7 := cases_len x.cases [] h
                have h8 := Wire.enc_ten x.cases.length (by omega)
                simp only [itemB, if_pos hk1, List.length_append]
                omega
theorem items_len : ∀ (l : List It) (p : Option (List UInt8)), itemsE p l = 0 → (itemsB l).length ≤ 7000 * l.length ∧ ∀ x ∈ l, ∃ q, itemE q x = 0
  | [], _, _ => ⟨by simp [itemsB], fun x hx => by simp at hx⟩
  | x :: r, p, h => by
    rw [itemsE] at h
    split at h
    · rename_i h0
      have h1 := item_len h0
      obtain ⟨h2, h3⟩ := items_len r _ h
      refine ⟨?_, fun y hy => ?_⟩
      · simp only [itemsB, List.length_append, List.length_cons]
        omega
      · rcases List.mem_cons.1 hy with rfl | hy
        · exact ⟨p, h0⟩
        · exact h3 y hy
    · rename_i h0
      exact absurd h h0
/-- What is let by is short. -/
theorem right_short {m : List UInt8} {l : List It} (h : rightI m l = 0) : (ifaceB m l).length ≤ 300000 ∧ m.length ≤ 24 ∧ l.length ≤ 32 ∧ ∀ x ∈ l, ∃ q, itemE q x = 0 := by
  unfold rightI at h
  split at h
  · cases h
  · split at h
    · cases h
    · rename_i h1 h2
      obtain ⟨h3, h4⟩ := items_len l none h
      have h5 := value_len (x := m) (by simpa using h1)
      have h6 := txtB_len m (by omega)
      have h7 := Wire.enc_ten l.length (by omega)
      refine ⟨?_, h5, by omega, h4⟩
      simp only [ifaceB, List.length_append]
      omega
end Go.Proofs.YtcjddbponknnoaaGreatDoor
