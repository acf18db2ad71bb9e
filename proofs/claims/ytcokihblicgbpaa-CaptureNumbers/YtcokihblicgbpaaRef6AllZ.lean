/-
  The document's own reader of modules: every expression, match being read as it should.
-/
import Derived.Test.YtcokihblicgbpaaRef6TreeZ
import Derived.Test.YtcokihblicgbpaaRef6IfZ
import Derived.Test.YtcokihblicgbpaaRef6CallZ
import Derived.Test.YtcokihblicgbpaaRef6OpZ
import Derived.Test.YtcokihblicgbpaaRef6MakeZ
import Derived.Test.YtcokihblicgbpaaRef6FunZ
import Derived.Test.YtcokihblicgbpaaRef6NoneZ
import Derived.Test.YtcokihblicgbpaaRef6LetZ
import Derived.Test.YtcokihblicgbpaaRef6ArrayZ
import Derived.Test.YtcokihblicgbpaaRef6FnZ
namespace Go.Proofs.Ytcokihblicgbpaa

theorem r6forms (m : List UInt8) (t : Tr) (hm : m.length ≤ 140737488351232) (hk1 : t.kind = 1) (hp : 0 < t.kids.length) (hk3 : (kid t 0).kind = 3) (htx : TxOk t) (IH : ∀ k ∈ t.kids, ExAll m k) (hnd : nodes t ≤ 8192) (hM : (kid t 0).text = matchK → FmAll m t) : FmAll m t := by
  by_cases h1 : (kid t 0).text = letK
  · exact r6let m t hk1 hp hk3 htx h1 IH hnd
  by_cases h2 : (kid t 0).text = ifK
  · exact r6if m t hk1 hp hk3 h2 IH hnd
  by_cases h3 : (kid t 0).text = arrayL
  · exact r6array m t hm hk1 hp hk3 htx h3 IH hnd
  by_cases h4 : (kid t 0).text = matchK
  · exact hM h4
  by_cases h5 : (kid t 0).text = fnL
  · exact r6fn m t hm hk1 hp hk3 htx h5 IH hnd
  by_cases h6 : (kid t 0).text = callK
  · exact r6call m t hk1 hp hk3 h6 IH hnd
  have hn : (kid t 0).text ≠ letK ∧ (kid t 0).text ≠ ifK ∧ (kid t 0).text ≠ arrayL ∧ (kid t 0).text ≠ matchK ∧ (kid t 0).text ≠ fnL ∧ (kid t 0).text ≠ callK := ⟨h1, h2, h3, h4, h5, h6⟩
  cases ho : isOp (kid t 0).text
  · cases hb : bigR (kid t 0).text
    · cases hd : dotR true (kid t 0).text
      · cases hv : valueR (kid t 0).text
        · cases hx : dotR false (kid t 0).text
          · exact r6noneB m t hk1 hp hk3 htx hn ho hb hd hv hx IH hnd
          · exact r6nameC m t hk1 hp hk3 htx hn ho hb hd hv hx IH hnd
        · cases hk : isKey (kid t 0).text
          · exact r6nameA m t hk1 hp hk3 htx hn ho hb hd hv hk IH hnd
          · cases hx : dotR false (kid t 0).text
            · exact r6noneA m t hk1 hp hk3 htx hn ho hb hd hv hk hx IH hnd
            · exact r6nameB m t hk1 hp hk3 htx hn ho hb hd hv hk hx IH hnd
      · exact r6makeB m t hk1 hp hk3 htx hn ho hb hd IH hnd
    · exact r6makeA m t hk1 hp hk3 htx hn ho hb IH hnd
  · exact r6opf m t hk1 hp hk3 htx hn ho IH hnd
/-- What lacks: a match. -/
def MatchOk (m : List UInt8) : Prop := ∀ t : Tr, t.kind = 1 → 0 < t.kids.length → (kid t 0).kind = 3 → TxOk t → (kid t 0).text = matchK → (∀ k : Tr, nodes k < nodes t → TxOk k → ExAll m k) → nodes t ≤ 8192 → FmAll m t
theorem exprAll (m : List UInt8) (hm : m.length ≤ 140737488351232) (hM : MatchOk m) : ∀ (n : Nat) (t : Tr), nodes t ≤ n → n ≤ 8192 → TxOk t → ExAll m t
  | 0, t, h, _, _ => by
    have := kids_lt6 t
    omega
  | n + 1, t, h, hn, htx => by
    have ih : ∀ k : Tr, nodes k < nodes t → TxOk k → ExAll m k := fun k hk hx => exprAll m hm hM n k (by omega) (by omega) hx
    by_cases h4 : t.kind = 4
    · exact r6text m t htx h4
    by_cases h3 : t.kind = 3
    · exact r6word3 m t htx h3
    refine r6tree m t h4 h3 (fun hk1 hp hk3 => r6forms m t hm hk1 hp hk3 htx (fun k hk => ?_) (by omega) (fun he => hM t hk1 hp hk3 htx he ih (by omega)))
    obtain ⟨i, hi, rfl⟩ := List.getElem_of_mem hk
    rw [kid_get hi]
    exact ih _ (kid_nodes hi) (kid_ok htx hi)
end Go.Proofs.Ytcokihblicgbpaa
