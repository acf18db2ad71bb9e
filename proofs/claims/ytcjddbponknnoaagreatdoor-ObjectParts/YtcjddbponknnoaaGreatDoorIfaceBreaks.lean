/-
  The package's Breaks.
-/
import Derived.Deep.CutRange
import Derived.Deep.RegionHeld3
import Derived.Deep.RegionWith
import Derived.Deep.LoopGhost
import Derived.Maps.OwnSet
import Derived.Maps.OwnOps
import Derived.Test.YtcjddbponknnoaaGreatDoorIfaceOnce
import Derived.Test.YtcjddbponknnoaaGreatDoorIfacePlaces
import Derived.Test.YtcjddbponknnoaaGreatDoorIfaceSameW
import Derived.Test.YtcjddbponknnoaaGreatDoorLexLabels
namespace Go.Proofs.YtcjddbponknnoaaGreatDoor
open Go.RowKit Go.Maps

theorem ownsMap_below {H : Type} {w w' : World} {B b n : Nat} {k : TypeId} {R : Value → Option (DataW H × List MemPlace)} {D : DataW H} (h : w.ownsMap Tryz.prog k R b n D) (hb : Below B w w') (hlt : b < B) : w'.ownsMap Tryz.prog k R b n D := by
  obtain ⟨es, c, h1, h2⟩ := h
  exact ⟨es, c, (hb.block b hlt).trans h1, h2⟩
theorem append_textN {w : World} {ops : Array Oper} {rest : List Oper} {o : Oper} {a : Act} {Q : Exit → Act → World → Prop} (hgd : o.guard = none) (s x : Operand)
    (ho : o.op = .call { callee := .builtin .append, args := #[s, x], argTypes := #[23, 23] })
    (B : Nat) (v : Value) (acc : List (List UInt8)) (hs : a.eval s = v) (hown : w.ownsRow B 9 1 v acc.length (sc acc))
    (ad : Addr) (c : Nat) (n : List UInt8) (hx : a.eval x = .slice (some ad) 1 c) (hnews : ∀ j u, (sc [n])[j]? = some u → w.cell? (ad.add j) = some u)
    (hlen : acc.length + 1 ≤ 8796093022208) (hB : B ≤ w.heap.size)
    (h : ∀ ad' c' w', w'.ownsRow B 9 1 (.slice (some ad') (acc.length + 1) c') (acc ++ [n]).length (sc (acc ++ [n])) → w.grownBy w' v.ownBlock → wpList Tryz.prog ops Q rest (a.put o.dst (.slice (some ad') (acc.length + 1) c')) w') :
    wpList Tryz.prog ops Q (o :: rest) a w := by
  obtain ⟨i, z, hi, hz, h1, h2, h3⟩ := info_z infoS
  refine wpList_append_own w hgd s x 23 ho B 9 i z 1 16 Tryz.underlying23 hi hz h1 h2 h3 (by decide) v acc.length (sc acc) hs hown ad 1 c (sc [n]) hx rfl hnews (fun u hu => ?_) (by unfold maxLen; omega) (by omega) hB ?_
  · obtain ⟨_, _, rfl⟩ := List.mem_map.1 hu
    rfl
  intro v' w' k1 k2 k3
  rcases k1.2 with ⟨rfl, hz⟩ | ⟨g, cap, cur, rfl, _⟩
  · omega
  · rw [← sc_append] at k1
    exact h ⟨g, 0, none⟩ cap w' (by simpa using k1) k2
theorem StrRow.atJ {w : World} {v : Value} {xs : List (List UInt8)} (h : StrRow w v xs) (i : Nat) (hi : i < xs.length) : ∃ bk o c, v = .slice (some ⟨bk, o, none⟩) xs.length c ∧ w.cell? ⟨bk, o + i, none⟩ = some (.string (str xs[i])) := by
  rcases h with ⟨rfl, _⟩ | ⟨bk, o, c, h1, _, _, h3⟩
  · simp at hi
  · exact ⟨bk, o, c, h1, h3 i _ (List.getElem?_eq_getElem hi)⟩
theorem broken_step (l l2 : List It) (ys acc : List (List UInt8)) (k : Nat) (h : k < ys.length) (hq : acc ++ (ys.drop k).filter (brokenI l l2) = ys.filter (brokenI l l2)) : (if brokenI l l2 ys[k] then acc ++ [ys[k]] else acc) ++ (ys.drop (k + 1)).filter (brokenI l l2) = ys.filter (brokenI l l2) := by
  rw [List.drop_eq_getElem_cons h, List.filter_cons] at hq
  rw [← hq]
  split <;> simp
theorem once_tk {xs : List (List UInt8)} (h : ∀ x ∈ xs, Tk x) : (∀ x ∈ onceR xs, Tk x) ∧ (onceR xs).length ≤ xs.length := by
  constructor
  · intro x hx
    exact h x ((onceR_mem xs x).1 hx)
  · rw [onceR_is]
    have := compactO_len (sortR xs)
    rwa [sortR_length] at this
end Go.Proofs.YtcjddbponknnoaaGreatDoor
