/-
  The statements' cases.
-/
import Derived.Deep.LoopGhost
import Derived.Test.YtmomapnafhppcaaCovSmall
namespace Go.Proofs.Ytmomapnafhppcaa
open Go.RowKit

def caC (l : List (List UInt8)) : List Value := l.flatMap fun x => [Value.string (str x), Value.slice none 0 0]
theorem caC_append (a b : List (List UInt8)) : caC (a ++ b) = caC a ++ caC b := by simp [caC]
theorem caC_at : ∀ (l : List (List UInt8)) (j : Nat) (x : List UInt8), l[j]? = some x → (caC l)[j * 2]? = some (.string (str x)) ∧ (caC l)[j * 2 + 1]? = some (.slice none 0 0)
  | [], j, x, h => by simp at h
  | y :: r, 0, x, h => by
    simp at h
    subst h
    exact ⟨rfl, rfl⟩
  | y :: r, j + 1, x, h => by
    have := caC_at r j x (by simpa using h)
    have e : caC (y :: r) = Value.string (str y) :: Value.slice none 0 0 :: caC r := rfl
    rw [e, show (j + 1) * 2 = j * 2 + 1 + 1 by omega]
    simpa using this
theorem infoCa : (Try.prog.info? 32).map (fun i => (i.zero.map (fun z => z.cells.size), i.size, i.bytes)) = some (some 2, 2, 40) := by kernel_rfl
theorem append_caseC {w : World} {ops : Array Oper} {rest : List Oper} {o : Oper} {a : Act} {Q : Exit → Act → World → Prop} (hgd : o.guard = none) (s x : Operand)
    (ho : o.op = .call { callee := .builtin .append, args := #[s, x], argTypes := #[22, 22] })
    (B : Nat) (v : Value) (acc : List (List UInt8)) (hs : a.eval s = v) (hown : w.ownsRow B 32 2 v acc.length (caC acc))
    (ad : Addr) (c : Nat) (n : List UInt8) (hx : a.eval x = .slice (some ad) 1 c) (hnews : ∀ j u, (caC [n])[j]? = some u → w.cell? (ad.add j) = some u)
    (hlen : acc.length + 1 ≤ 1000000) (hB : B ≤ w.heap.size)
    (h : ∀ ad' c' w', w'.ownsRow B 32 2 (.slice (some ad') (acc.length + 1) c') (acc ++ [n]).length (caC (acc ++ [n])) → w.grownBy w' v.ownBlock → wpList Try.prog ops Q rest (a.put o.dst (.slice (some ad') (acc.length + 1) c')) w') :
    wpList Try.prog ops Q (o :: rest) a w := by
  obtain ⟨i, z, hi, hz, h1, h2, h3⟩ := info_z infoCa
  refine wpList_append_own w hgd s x 22 ho B 32 i z 2 40 Try.underlying22 hi hz h1 h2 h3 (by decide) v acc.length (caC acc) hs hown ad 1 c (caC [n]) hx rfl hnews (fun u hu => ?_) (by unfold maxLen; omega) (by omega) hB ?_
  · simp only [caC, List.flatMap_cons, List.flatMap_nil, List.append_nil, List.mem_cons, List.not_mem_nil, or_false] at hu
    rcases hu with rfl | rfl <;> rfl
  intro v' w' k1 k2 k3
  rcases k1.2 with ⟨rfl, hz⟩ | ⟨g, cap, cur, rfl, _⟩
  · omega
  · rw [← caC_append] at k1
    exact h ⟨g, 0, none⟩ cap w' (by simpa using k1) k2
theorem caR_own {w : World} {B e : Nat} {v : Value} {xs : List (List UInt8)} (h : w.ownsRow B e 2 v xs.length (caC xs)) : CaR w v xs := by
  rcases h.2 with ⟨rfl, hn⟩ | ⟨g, cap, cur, rfl, hb, hg, h1, _⟩
  · exact .inl ⟨List.eq_nil_of_length_eq_zero hn, none, 0, rfl⟩
  · refine .inr ⟨g, 0, cap, rfl, (Array.getElem?_eq_some_iff.1 hg).1, h1, fun j x hj => ?_⟩
    have hlt := (List.getElem?_eq_some_iff.1 hj).1
    obtain ⟨k1, k2⟩ := caC_at xs j x hj
    rw [Nat.zero_add, h.cellAt (j * 2) (by omega), h.cellAt (j * 2 + 1) (by omega)]
    exact ⟨k1, k2⟩
def casesR (xs : List (List UInt8)) : List (List UInt8) := (xs.take 10).map endR
theorem casesR_len (xs : List (List UInt8)) : (casesR xs).length ≤ 10 := by rw [casesR, List.length_map, List.length_take]; omega
theorem casesR_tk {xs : List (List UInt8)} (h : ∀ x ∈ xs, Tk x) : ∀ x ∈ casesR xs, Tk x := by
  intro x hx
  obtain ⟨y, hy, rfl⟩ := List.mem_map.1 hx
  exact Nat.le_trans (endR_len _) (h y (List.mem_of_mem_take hy))
theorem take_mapC (xs : List (List UInt8)) (k : Nat) (h : k < xs.length) : (xs.take k).map endR ++ [endR xs[k]] = (xs.take (k + 1)).map endR := by
  rw [List.take_succ_eq_append_getElem h, List.map_append]
  rfl
set_option maxHeartbeats 4000000 in
set_option maxRecDepth 1000000 in
theorem covCases (xs : List (List UInt8)) (u : Value) (w : World) (hu : StrRow w u xs) (ht : ∀ x ∈ xs, Tk x) :
    Calls Try.prog 7 #[u] w fun e w' => ∃ v', e = .returned v' ∧ CaR w' v' (casesR xs) ∧ Below w.heap.size w w' := by
  obtain ⟨ua, uc, rfl⟩ := hu.shape
  have HU := hidden hu
  clear hu
  go_enter Try.func7, Try.ntmps7
  go_wp2
  go_loopg [3, 4] 10 (fun g v i wr => ∃ (k : Nat), g + k = 10 ∧ i = .int .i64 (k : Int) ∧ k ≤ xs.length ∧ wr.ownsRow w.heap.size 32 2 v ((xs.take k).map endR).length (caC ((xs.take k).map endR)) ∧ Below w.heap.size w wr)
  case atStart => exact ⟨0, rfl, rfl, Nat.zero_le _, World.ownsRow_nil _ _ _ _, Below.refl _ _⟩
  case round =>
    obtain ⟨k, hg, rfl, hkl, hown, hW⟩ := hrel
    have hsz := hW.size
    by_cases hk : k < xs.length
    · have hki : (k : Int) < (xs.length : Int) := by omega
      by_cases hk10 : k < 10
      · have hk10i : (k : Int) < 10 := by omega
        obtain ⟨bk, o, c, e1, qx⟩ := (HU.out.below hW).at k hk
        simp only [Value.slice.injEq, true_and] at e1
        obtain ⟨rfl, rfl⟩ := e1
        have hx := ht _ (List.getElem_mem hk)
        have he := covLast xs[k] wr hx
        have HT := hidden (take_mapC xs k hk)
        have hkn : ((xs.take k).map endR).length ≤ 10 := by rw [List.length_map, List.length_take]; omega
        clear HU
        generalize (xs.take k).map endR = ks at *
        generalize endR xs[k] = y at *
        generalize xs[k] = x at *
        go_wp2_with fail
        refine he.mono ?_
        rintro e w2 ⟨rfl, rfl⟩
        clear he
        go_wp2_with (at_builtin; refine append_caseC rfl (.tmp 15) (.tmp 22) rfl w.heap.size _ ks rfl (hown.alloc _) _ _ y rfl ?src ?len ?hB ?next)
        case src => first | exact cells_new _ (caC [y]) _ | exact fun j u h => h
        case len => first | omega | (simp; omega)
        case hB => first | omega | (simp; omega)
        case next =>
          intro ad c' w' k1 k2
          have k3 := below_grown (hown.alloc _) (by simp; omega) (hW.alloc hsz _) k2
          have e3 : (ks ++ [y]).length = ks.length + 1 := by simp
          rw [HT.out] at k1
          have HK : Hid (((xs.take (k + 1)).map endR).length = ks.length + 1) := by rw [hid_iff, ← HT.out, e3]
          clear k2 hown hW HT e3
          rw [← HK.out] at k1 ⊢
          clear HK
          generalize hks2 : (xs.take (k + 1)).map endR = ks2 at *
          have H2 := hidden hks2
          clear hks2
          go_wp2
          go_roundg (10 - (k + 1))
          case measure => omega
          case rel => exact ⟨k + 1, by omega, by go_num, by omega, by rw [H2.out]; exact k1, k3⟩
      · have hk10i : ¬ (k : Int) < 10 := by omega
        obtain rfl : k = 10 := by omega
        have HR := hidden (caR_own hown)
        clear HU hown
        go_wp2
        go_ret
        exact ⟨_, rfl, HR.out, hW⟩
    · have hki : ¬ (k : Int) < (xs.length : Int) := by omega
      have HR0 := caR_own hown
      have e0 : (xs.take k).map endR = casesR xs := by
        rw [casesR]
        have : xs.take 10 = xs.take k := by rw [List.take_of_length_le (by omega), List.take_of_length_le (by omega)]
        rw [this]
      rw [e0] at HR0
      have HR := hidden HR0
      clear HR0 e0 hown
      clear HU
      go_wp2
      go_ret
      exact ⟨_, rfl, HR.out, hW⟩
end Go.Proofs.Ytmomapnafhppcaa
