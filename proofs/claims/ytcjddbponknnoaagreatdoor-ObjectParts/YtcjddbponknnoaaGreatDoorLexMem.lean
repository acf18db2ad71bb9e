/-
  Appends of bytes and of tokens to a row of the call's own; a row of bytes as a string.
-/
import Derived.OwnWalk
import Derived.Laws.OwnMore
import Derived.Laws.BytesString
import Derived.WalkSmall
import Derived.Test.YtcjddbponknnoaaGreatDoorLexLabels
namespace Go.Proofs.YtcjddbponknnoaaGreatDoor
open Go.RowKit

theorem infoB : (Tryz.prog.info? 5).map (fun i => (i.zero.map (fun z => z.cells.size), i.size, i.bytes)) = some (some 1, 1, 1) := by kernel_rfl
theorem info_z {P : Program} {e : TypeId} {n size bytes : Nat} (h : (P.info? e).map (fun i => (i.zero.map (fun z => z.cells.size), i.size, i.bytes)) = some (some n, size, bytes)) :
    ∃ i z, P.info? e = some i ∧ i.zero = some z ∧ i.size = size ∧ i.bytes = bytes ∧ z.cells.size = n := by
  obtain ⟨i, hi, hzz⟩ := Option.map_eq_some_iff.1 h
  simp only [Prod.mk.injEq] at hzz
  obtain ⟨z, hz, hn⟩ := Option.map_eq_some_iff.1 hzz.1
  exact ⟨i, z, hi, hz, hzz.2.1, hzz.2.2, hn⟩

theorem add_at (g j : Nat) : (⟨g, 0, none⟩ : Addr).add j = ⟨g, j, none⟩ := by
  unfold Addr.add
  split
  · rename_i h
    subst h
    rfl
  · simp
theorem cells_new (w : World) (xs : List Value) (t : TypeId) : ∀ j u, xs[j]? = some u → (w.alloc (.cells xs.toArray t)).cell? ((⟨w.heap.size, 0, none⟩ : Addr).add j) = some u := by
  intro j u hj
  rw [add_at]
  simpa using hj

theorem tc_one (t : Tok) : ∀ u ∈ tc t, u.oneCell' = true := by
  intro u hu
  simp only [tc, List.mem_cons, List.not_mem_nil, or_false] at hu
  rcases hu with rfl | rfl | rfl <;> rfl

/-- append of bytes onto a row of the call's own. -/
theorem append_bytes {w : World} {ops : Array Oper} {rest : List Oper} {o : Oper} {a : Act} {Q : Exit → Act → World → Prop} (hgd : o.guard = none) (s x : Operand)
    (ho : o.op = .call { callee := .builtin .append, args := #[s, x], argTypes := #[42, 42] })
    (B : Nat) (v : Value) (acc : List UInt8) (hs : a.eval s = v) (hown : w.ownsRow B 5 1 v acc.length (bc acc))
    (ad : Addr) (c : Nat) (news : List UInt8) (hne : news ≠ []) (hx : a.eval x = .slice (some ad) news.length c) (hnews : ∀ j u, (bc news)[j]? = some u → w.cell? (ad.add j) = some u)
    (hlen : acc.length + news.length ≤ 140737488355328) (hB : B ≤ w.heap.size)
    (h : ∀ ad' c' w', w'.ownsRow B 5 1 (.slice (some ad') (acc ++ news).length c') (acc ++ news).length (bc (acc ++ news)) → w.grownBy w' v.ownBlock → wpList Tryz.prog ops Q rest (a.put o.dst (.slice (some ad') (acc ++ news).length c')) w') :
    wpList Tryz.prog ops Q (o :: rest) a w := by
  obtain ⟨i, z, hi, hz, h1, h2, h3⟩ := info_z infoB
  refine wpList_append_own w hgd s x 42 ho B 5 i z 1 1 Tryz.underlying42 hi hz h1 h2 h3 (by decide) v acc.length (bc acc) hs hown ad news.length c (bc news) hx (by rw [bc_length, Nat.mul_one]) hnews (bc_one _) (by unfold maxLen; omega) (by omega) hB ?_
  intro v' w' k1 k2 k3
  rcases k1.2 with ⟨rfl, hz⟩ | ⟨g, cap, cur, rfl, _⟩
  · exact absurd (by omega : news.length = 0) (fun e => hne (List.eq_nil_of_length_eq_zero e))
  · rw [← bc_append] at k1
    rw [← List.length_append] at k1
    have := h ⟨g, 0, none⟩ cap w' k1 k2
    rw [List.length_append] at this
    exact this
theorem str_push (l : List UInt8) : ∀ (s : ByteArray), (l.map fun c => (c.toNat : Int)).foldl (fun r n => r.push (UInt8.ofNat n.toNat)) s = ⟨s.data ++ l.toArray⟩ := by
  induction l with
  | nil => intro s; simp
  | cons a r ih =>
    intro s
    rw [List.map_cons, List.foldl_cons, ih]
    congr 1
    apply Array.ext'
    simp [ByteArray.push]
theorem bc_map (l : List UInt8) : bc l = (l.map fun c => (c.toNat : Int)).map (Value.int .u8) := by simp [bc]
/-- A row of bytes as a string. -/
theorem bytes_string {w : World} {a : Addr} {n cap : Nat} {l : List UInt8} (hn : n = l.length) (h : ∀ j u, (bc l)[j]? = some u → w.cell? (a.add j) = some u) : (convert 42 9 (.slice (some a) n cap)).run Tryz.prog w = .ok (.string (str l)) w := by
  subst hn
  rw [run_convert_bytes_string w 42 9 5 _ _ _ Tryz.underlying42 Tryz.underlying5 Tryz.underlying9]
  have e : str l = (l.map fun c => (c.toNat : Int)).foldl (fun r n => r.push (UInt8.ofNat n.toNat)) ByteArray.empty := by
    rw [str_push]; simp [str]
  rw [e]
  refine run_bytesToString w a l.length cap (l.map fun c => (c.toNat : Int)) ?_
  have := run_loadCells_list (P := Tryz.prog) w a (bc l) h
  rw [bc_length] at this
  rw [this, bc_map]
theorem nil_string (w : World) : (convert 42 9 (.slice none 0 0)).run Tryz.prog w = .ok (.string (str [])) w := by
  rw [run_convert_bytes_string w 42 9 5 _ _ _ Tryz.underlying42 Tryz.underlying5 Tryz.underlying9]
  simp [Conv.bytesToString, str]
  rfl
/-- The slice of a row of the call's own. -/
theorem owns_shape {w : World} {B e size n : Nat} {v : Value} {xs : List Value} (h : w.ownsRow B e size v n xs) : (v = .slice none 0 0 ∧ n = 0) ∨ ∃ g cap, v = .slice (some ⟨g, 0, none⟩) n cap ∧ B ≤ g ∧ g < w.heap.size ∧ ∀ j u, xs[j]? = some u → w.cell? ((⟨g, 0, none⟩ : Addr).add j) = some u := by
  rcases h.2 with ⟨rfl, hn⟩ | ⟨g, cap, cur, rfl, hb, hg, _⟩
  · exact .inl ⟨rfl, hn⟩
  · refine .inr ⟨g, cap, rfl, hb, (Array.getElem?_eq_some_iff.1 hg).1, fun j u hj => ?_⟩
    have hlt : j < n * size := by rw [← h.1]; exact (List.getElem?_eq_some_iff.1 hj).1
    have := h.cellAt j hlt
    rw [hj] at this
    rw [add_at]
    exact this
theorem owns_string {w : World} {B : Nat} {v : Value} {l : List UInt8} (h : w.ownsRow B 5 1 v l.length (bc l)) : (convert 42 9 v).run Tryz.prog w = .ok (.string (str l)) w := by
  rcases owns_shape h with ⟨rfl, hn⟩ | ⟨g, cap, rfl, _, _, hc⟩
  · rw [List.eq_nil_of_length_eq_zero hn]
    exact nil_string w
  · exact bytes_string rfl hc
end Go.Proofs.YtcjddbponknnoaaGreatDoor
