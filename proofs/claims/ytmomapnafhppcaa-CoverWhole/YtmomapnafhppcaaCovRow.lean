/-
  Rows of texts in memory (for a seat that has no types).
-/
import Derived.Deep.LoopGhost
import Derived.Test.YtmomapnafhppcaaLexMem
import Derived.Test.YtmomapnafhppcaaLexLabels
namespace Go.Proofs.Ytmomapnafhppcaa
open Go.RowKit

theorem hidden {p : Prop} (h : p) : Hid p := h
theorem hid_iff (p : Prop) : Hid p = p := rfl
theorem str_take (s : ByteArray) (n : Nat) : s.extract 0 n = str (s.data.toList.take n) := by rw [extract_str]; simp
theorem str_drop (s : ByteArray) (n : Nat) : s.extract n s.size = str (s.data.toList.drop n) := by
  rw [extract_str, List.take_of_length_le (by rw [List.length_drop, size_len]; omega)]
/-- A bool; nothing is drawn but the order. -/
def BoolE (b : Bool) (w : World) (e : Ending) (w' : World) : Prop := e = .returned (.bool b) ∧ ∃ n, w' = w.drewN n
/-- A row of texts that can be read. -/
def StrRow (w : World) (v : Value) (xs : List (List UInt8)) : Prop :=
  (xs = [] ∧ ∃ a c, v = .slice a 0 c) ∨ ∃ bk o c, v = .slice (some ⟨bk, o, none⟩) xs.length c ∧ bk < w.heap.size ∧ xs.length ≤ c ∧ ∀ (j : Nat) x, xs[j]? = some x → w.cell? ⟨bk, o + j, none⟩ = some (.string (str x))
theorem StrRow.below {w w' : World} {v : Value} {xs : List (List UInt8)} (h : StrRow w v xs) (hb : Below w.heap.size w w') : StrRow w' v xs := by
  rcases h with h | ⟨bk, o, c, rfl, h1, h2, h3⟩
  · exact .inl h
  · exact .inr ⟨bk, o, c, rfl, Nat.lt_of_lt_of_le h1 hb.size, h2, fun j x hj => by
      have := h3 j x hj
      unfold World.cell? at this ⊢
      rw [hb.block bk h1]
      exact this⟩
theorem StrRow.shape {w : World} {v : Value} {xs : List (List UInt8)} (h : StrRow w v xs) : ∃ a c, v = .slice a xs.length c := by
  rcases h with ⟨rfl, a, c, rfl⟩ | ⟨bk, o, c, rfl, _⟩
  · exact ⟨a, c, rfl⟩
  · exact ⟨_, c, rfl⟩
/-- Texts as cells. -/
def sc (l : List (List UInt8)) : List Value := l.map fun x => Value.string (str x)
theorem sc_length (l : List (List UInt8)) : (sc l).length = l.length := by simp [sc]
theorem sc_append (a b : List (List UInt8)) : sc (a ++ b) = sc a ++ sc b := by simp [sc]
theorem strRow_own {w : World} {B e : Nat} {v : Value} {xs : List (List UInt8)} (h : w.ownsRow B e 1 v xs.length (sc xs)) : StrRow w v xs := by
  rcases h.2 with ⟨rfl, hn⟩ | ⟨g, cap, cur, rfl, hb, hg, h1, _⟩
  · exact .inl ⟨List.eq_nil_of_length_eq_zero hn, none, 0, rfl⟩
  · refine .inr ⟨g, 0, cap, rfl, (Array.getElem?_eq_some_iff.1 hg).1, h1, fun j x hj => ?_⟩
    have hlt := (List.getElem?_eq_some_iff.1 hj).1
    rw [Nat.zero_add, h.cellAt j (by omega)]
    simp [sc, hj]
theorem infoS : (Try.prog.info? 9).map (fun i => (i.zero.map (fun z => z.cells.size), i.size, i.bytes)) = some (some 1, 1, 16) := by kernel_rfl
/-- A text that is no longer than any can be. -/
def Tk (x : List UInt8) : Prop := x.length ≤ 140737488355328
theorem sCloneT (x : List UInt8) (w : World) (h : Tk x) : Calls Try.prog 17 #[.string (str x)] w fun e w' => e = .returned (.string (str x)) ∧ Below w.heap.size w w' := by
  unfold Tk at h
  go_enter Try.func17, Try.ntmps17
  go_wp2_with fail
  refine (Try.stringslite_Clone (str x) _ (by rw [str_size]; omega)).mono ?_
  rintro e w1 ⟨rfl, hb⟩
  go_wp2
  go_ret
  exact ⟨rfl, hb⟩
theorem ownsMap_below {H : Type} {w w' : World} {B b n : Nat} {k : TypeId} {R : Value → Option (DataW H × List MemPlace)} {D : DataW H} (h : w.ownsMap Try.prog k R b n D) (hb : Below B w w') (hlt : b < B) : w'.ownsMap Try.prog k R b n D := by
  obtain ⟨es, c, h1, h2⟩ := h
  exact ⟨es, c, (hb.block b hlt).trans h1, h2⟩
theorem append_textN {w : World} {ops : Array Oper} {rest : List Oper} {o : Oper} {a : Act} {Q : Exit → Act → World → Prop} (hgd : o.guard = none) (s x : Operand)
    (ho : o.op = .call { callee := .builtin .append, args := #[s, x], argTypes := #[24, 24] })
    (B : Nat) (v : Value) (acc : List (List UInt8)) (hs : a.eval s = v) (hown : w.ownsRow B 9 1 v acc.length (sc acc))
    (ad : Addr) (c : Nat) (n : List UInt8) (hx : a.eval x = .slice (some ad) 1 c) (hnews : ∀ j u, (sc [n])[j]? = some u → w.cell? (ad.add j) = some u)
    (hlen : acc.length + 1 ≤ 8796093022208) (hB : B ≤ w.heap.size)
    (h : ∀ ad' c' w', w'.ownsRow B 9 1 (.slice (some ad') (acc.length + 1) c') (acc ++ [n]).length (sc (acc ++ [n])) → w.grownBy w' v.ownBlock → wpList Try.prog ops Q rest (a.put o.dst (.slice (some ad') (acc.length + 1) c')) w') :
    wpList Try.prog ops Q (o :: rest) a w := by
  obtain ⟨i, z, hi, hz, h1, h2, h3⟩ := info_z infoS
  refine wpList_append_own w hgd s x 24 ho B 9 i z 1 16 Try.underlying24 hi hz h1 h2 h3 (by decide) v acc.length (sc acc) hs hown ad 1 c (sc [n]) hx rfl hnews (fun u hu => ?_) (by unfold maxLen; omega) (by omega) hB ?_
  · obtain ⟨_, _, rfl⟩ := List.mem_map.1 hu
    rfl
  intro v' w' k1 k2 k3
  rcases k1.2 with ⟨rfl, hz⟩ | ⟨g, cap, cur, rfl, _⟩
  · omega
  · rw [← sc_append] at k1
    exact h ⟨g, 0, none⟩ cap w' (by simpa using k1) k2
theorem take_next {xs ys : List (List UInt8)} {k : Nat} (hx : k < xs.length) (hy : k < ys.length) (h : xs.take k = ys.take k) (he : xs[k] = ys[k]) : xs.take (k + 1) = ys.take (k + 1) := by
  rw [List.take_succ_eq_append_getElem hx, List.take_succ_eq_append_getElem hy, h, he]
theorem StrRow.at {w : World} {v : Value} {xs : List (List UInt8)} (h : StrRow w v xs) (i : Nat) (hi : i < xs.length) : ∃ bk o c, v = .slice (some ⟨bk, o, none⟩) xs.length c ∧ w.cell? ⟨bk, o + i, none⟩ = some (.string (str xs[i])) := by
  rcases h with ⟨rfl, _⟩ | ⟨bk, o, c, rfl, _, _, h3⟩
  · simp at hi
  · exact ⟨bk, o, c, rfl, h3 i _ (List.getElem?_eq_getElem hi)⟩
set_option maxHeartbeats 2000000 in
set_option maxRecDepth 1000000 in
theorem sameS (v v' : Value) (xs ys : List (List UInt8)) (w : World) (h : StrRow w v xs) (h' : StrRow w v' ys) (_hl : xs.length ≤ 8796093022208) (_hl' : ys.length ≤ 8796093022208) : Calls Try.prog 10 #[v, v'] w (BoolE (decide (xs = ys)) w) := by
  obtain ⟨va, vc, hv⟩ := h.shape
  obtain ⟨ua, uc, hu⟩ := h'.shape
  by_cases hn : xs.length = ys.length
  · have hn' : ((xs.length : Int) != (ys.length : Int)) = false := by simp; omega
    have h1 := hidden h
    have h2 := hidden h'
    have H1 : Hid (∃ va vc, v = .slice va xs.length vc) := ⟨va, vc, hv⟩
    clear h h'
    subst hv hu
    go_enter Try.func10, Try.ntmps10
    go_wp2
    go_loopg [5] xs.length (fun g i wr => ∃ (k n : Nat), g + k = xs.length ∧ i = .int .i64 (k : Int) ∧ Hid (xs.take k = ys.take k) ∧ wr = w.drewN n)
    case atStart => exact ⟨0, 0, rfl, rfl, rfl, rfl⟩
    case round =>
      obtain ⟨k, n, hg, rfl, ht, rfl⟩ := hrel
      by_cases hk : k < xs.length
      · have hky : k < ys.length := by omega
        obtain ⟨b1, o1, c1, e1, q1⟩ := h1.out.at k hk
        obtain ⟨b2, o2, c2, e2, q2⟩ := h2.out.at k hky
        simp only [Value.slice.injEq, true_and] at e1 e2
        obtain ⟨rfl, rfl⟩ := e1
        obtain ⟨rfl, rfl⟩ := e2
        have hki : (k : Int) < (xs.length : Int) := by omega
        have hkj : (k : Int) < (ys.length : Int) := by omega
        by_cases he : xs[k] = ys[k]
        · have HT : Hid (xs.take (k + 1) = ys.take (k + 1)) := take_next hk hky ht.out he
          rw [← he] at q2
          generalize xs[k] = x at *
          clear he ht hn
          go_wp2
          go_region
          go_wp2
          go_roundg (xs.length - (k + 1))
          case measure => omega
          case rel => exact ⟨k + 1, n + 1, by omega, by go_num, HT, rfl⟩
        · have HE : Hid (decide (xs = ys) = false) := decide_eq_false (fun e => he (by subst e; rfl))
          have hne : ((str xs[k]).toList == (str ys[k]).toList) = false := by
            rw [beq_eq_false_iff_ne, Lib.toList_data, Lib.toList_data, str_data, str_data]
            exact he
          have hne' : ((str xs[k]).toList != (str ys[k]).toList) = true := by simp only [bne, hne]; rfl
          clear he ht hn
          generalize xs[k] = x at *
          generalize ys[k] = y at *
          go_wp2
          go_region
          go_wp2
          go_ret
          exact ⟨by rw [HE.out]; rfl, n + 1, rfl⟩
      · have HE : Hid (decide (xs = ys) = true) := by
          refine decide_eq_true ?_
          have := ht.out
          rwa [List.take_of_length_le (by omega), List.take_of_length_le (by omega)] at this
        have hki : ¬ (k : Int) < (xs.length : Int) := by omega
        clear ht hn
        go_wp2
        go_ret
        exact ⟨by rw [HE.out]; rfl, n, rfl⟩
  · have hn' : ((xs.length : Int) != (ys.length : Int)) = true := by simp; omega
    have HE : Hid (decide (xs = ys) = false) := decide_eq_false (fun e => hn (by rw [e]))
    clear hn h h'
    subst hv hu
    go_enter Try.func10, Try.ntmps10
    go_wp2
    go_ret
    exact ⟨by rw [HE.out]; rfl, 0, rfl⟩
end Go.Proofs.Ytmomapnafhppcaa
