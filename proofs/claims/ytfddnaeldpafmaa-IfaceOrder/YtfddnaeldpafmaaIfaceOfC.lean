/-
  The package's Of, where a module has consts alone, one of them exported twice.
-/
import Derived.Test.YtfddnaeldpafmaaShelf4
import Derived.Test.YtfddnaeldpafmaaIfaceDefC
namespace Go.Proofs.Ytfddnaeldpafmaa
open Go.RowKit

def cIt (x : List UInt8 × List UInt8) : List Value := [.int .i64 2, .string (str x.1), .string (str x.2), .slice none 0 0]
def rowI (l : List (List UInt8 × List UInt8)) : List Value := l.flatMap cIt
theorem rowI_snoc (l : List (List UInt8 × List UInt8)) (x : List UInt8 × List UInt8) : rowI (l ++ [x]) = rowI l ++ cIt x := by simp [rowI]
def pickK (ks : List (List UInt8 × List UInt8)) (q : List UInt8) : List UInt8 × List UInt8 := (findK ks q).getD ([], [])
theorem infoIt4 : (Try.prog.info? 47).map (fun i => (i.zero.map (fun z => z.cells.size), i.size, i.bytes)) = some (some 4, 4, 64) := by kernel_rfl
theorem append_item {w : World} {ops : Array Oper} {rest : List Oper} {o : Oper} {a : Act} {Q : Exit → Act → World → Prop} (hgd : o.guard = none) (s x : Operand)
    (ho : o.op = .call { callee := .builtin .append, args := #[s, x], argTypes := #[39, 39] })
    (B : Nat) (v : Value) (acc : List (List UInt8 × List UInt8)) (hs : a.eval s = v) (hown : w.ownsRow B 47 4 v acc.length (rowI acc))
    (ad : Addr) (c : Nat) (n : List UInt8 × List UInt8) (hx : a.eval x = .slice (some ad) 1 c) (hnews : ∀ j u, (cIt n)[j]? = some u → w.cell? (ad.add j) = some u)
    (hlen : acc.length + 1 ≤ 2199023255552) (hB : B ≤ w.heap.size)
    (h : ∀ ad' c' w', w'.ownsRow B 47 4 (.slice (some ad') (acc.length + 1) c') (acc ++ [n]).length (rowI (acc ++ [n])) → w.grownBy w' v.ownBlock → wpList Try.prog ops Q rest (a.put o.dst (.slice (some ad') (acc.length + 1) c')) w') :
    wpList Try.prog ops Q (o :: rest) a w := by
  obtain ⟨i, z, hi, hz, h1, h2, h3⟩ := info_z infoIt4
  refine wpList_append_own w hgd s x 39 ho B 47 i z 4 64 Try.underlying39 hi hz h1 h2 h3 (by decide) v acc.length (rowI acc) hs hown ad 1 c (cIt n) hx rfl hnews (fun u hu => ?_) (by unfold maxLen; omega) (by omega) hB ?_
  · simp only [cIt, List.mem_cons, List.not_mem_nil, or_false] at hu
    rcases hu with rfl | rfl | rfl | rfl <;> rfl
  intro v' w' k1 k2 k3
  rcases k1.2 with ⟨rfl, hz⟩ | ⟨g, cap, cur, rfl, _⟩
  · omega
  · rw [← rowI_snoc] at k1
    exact h ⟨g, 0, none⟩ cap w' (by simpa using k1) k2
theorem contains_is (es : List (List UInt8)) (q : List UInt8) : Lib.containsS (es.map str) (str q) = es.any (fun y => decide (y = q)) := by
  rw [Bool.eq_iff_iff, Lib.containsS_iff, List.any_eq_true]
  constructor
  · intro h
    obtain ⟨y, hy, he⟩ := List.mem_map.1 h
    have := congrArg (fun b : ByteArray => b.data.toList) he
    simp only [str_data] at this
    exact ⟨y, hy, by simp [this]⟩
  · rintro ⟨y, hy, he⟩
    rw [decide_eq_true_eq] at he
    subst he
    exact List.mem_map.2 ⟨y, hy, rfl⟩
theorem containsT (F : Nat → Prop) (a : Option Addr) (cap k : Nat) (es : List (List UInt8)) (q : List UInt8) (w : World) (h : TxR F w (.slice a es.length cap) es) (hk : k ≤ es.length) (hl : es.length ≤ 1000000) :
    Calls Try.prog 10 #[.slice a k cap, .string (str q)] w fun e w' => e = .returned (.bool ((es.take k).any (fun y => decide (y = q)))) ∧ w' = w := by
  rcases h with ⟨a', c, h1, rfl⟩ | ⟨g, o, c, h1, _, h3⟩
  · simp only [List.length_nil, Nat.le_zero_eq] at hk
    subst hk
    exact (Try.slices_Contains_string_empty a cap (str q) w).mono fun e w' h => h
  · simp only [Value.slice.injEq, true_and] at h1
    obtain ⟨rfl, rfl⟩ := h1
    refine (Try.slices_Contains_string g o k cap (es.map str) (str q) w (by simpa using hk) (by omega) (fun j hj => ?_)).mono fun e w' h => ?_
    · simp only [List.length_map] at hj
      rw [h3 j _ (List.getElem?_eq_getElem hj)]
      simp [List.getD_eq_getElem?_getD, hj]
    · rw [← List.map_take, contains_is] at h
      exact h
theorem owns_set {w : World} {B e sz n b : Nat} {v : Value} {xs : List Value} (h : w.ownsRow B e sz v n xs) (hb : b < B) (i : Nat) (u : Value) : (w.setCell ⟨b, i, none⟩ u).ownsRow B e sz v n xs := by
  refine ⟨h.1, ?_⟩
  rcases h.2 with hn | ⟨g, cap, cur, h1, h2, h3, h4⟩
  · exact .inl hn
  · exact .inr ⟨g, cap, cur, h1, h2, (Below.heap_setCell w ⟨b, i, none⟩ u g (by show g ≠ b; omega)).trans h3, h4⟩
def OfBad (y : Nat) (w : World) (e : Ending) (w' : World) : Prop := e = .returned (.tuple #[.agg #[.string ⟨#[]⟩, .slice none 0 0], .int .i64 (y : Int)]) ∧ Below w.heap.size w w'
set_option maxHeartbeats 2000000 in
set_option maxRecDepth 1000000 in
theorem of_taken (F : Nat → Prop) (nm : List UInt8) (ea : Option Addr) (ec : Nat) (es : List (List UInt8)) (ka : Option Addr) (kc : Nat) (ks : List (List UInt8 × List UInt8)) (b2 b3 b4 b5 b6 b7 b8 b9 b10 : Value) (hone : ∀ cn ct : List UInt8, (#[.string (str cn), .string (str ct), b2, b3, b4, b5, b6, b7, b8, b9, b10] : Array Value).all (·.oneCell') = true) (w : World)
    (h : KdR F w b2 b3 b4 b5 b6 b7 b8 b9 b10 (.slice ka ks.length kc) ks) (hE : TxR F w (.slice ea es.length ec) es) (hF : ∀ g, F g → g < w.heap.size) (hok : ∀ x ∈ ks, Tk x.1 ∧ Tk x.2) (hnm : Tk nm) (het : ∀ x ∈ es, Tk x) (hl : ks.length ≤ 1000000) (hel : es.length ≤ 1000000) (hec : es.length ≤ ec)
    (n : Nat) (hn : n < es.length) (hdef : ∀ q ∈ es, (findK ks q).isSome = true) (hdis : ∀ i (hi : i < es.length), i < n → (es.take i).any (fun y => decide (y = es[i])) = false) (hbad : (es.take n).any (fun y => decide (y = es[n])) = true) :
    Calls Try.prog 6 #[.agg #[.string (str nm), .slice none 0 0, .slice ea es.length ec, .slice none 0 0, .slice ka ks.length kc, .slice none 0 0]] w (OfBad 15 w) := by
  have hb0 : Below w.heap.size w ((w.alloc (.cells #[.string (str nm), .slice none 0 0, .slice ea es.length ec, .slice none 0 0, .slice ka ks.length kc, .slice none 0 0] 28)).alloc (.cells #[.string ⟨#[]⟩, .slice none 0 0] 41)) := ((Below.refl _ _).alloc (Nat.le_refl _) _).alloc (by simp) _
  have hz2 : ((w.alloc (.cells #[.string (str nm), .slice none 0 0, .slice ea es.length ec, .slice none 0 0, .slice ka ks.length kc, .slice none 0 0] 28)).alloc (.cells #[.string ⟨#[]⟩, .slice none 0 0] 41)).heap.size = w.heap.size + 2 := by simp
  have hM0 : ((w.alloc (.cells #[.string (str nm), .slice none 0 0, .slice ea es.length ec, .slice none 0 0, .slice ka ks.length kc, .slice none 0 0] 28)).alloc (.cells #[.string ⟨#[]⟩, .slice none 0 0] 41)).heap[w.heap.size]? = some (.cells #[.string (str nm), .slice none 0 0, .slice ea es.length ec, .slice none 0 0, .slice ka ks.length kc, .slice none 0 0] 28 (0, 0)) := (Below.heap_alloc _ _ _ (by simp)).trans (World.alloc_heap_new w _)
  have hN0 : ((w.alloc (.cells #[.string (str nm), .slice none 0 0, .slice ea es.length ec, .slice none 0 0, .slice ka ks.length kc, .slice none 0 0] 28)).alloc (.cells #[.string ⟨#[]⟩, .slice none 0 0] 41)).heap[w.heap.size + 1]? = some (.cells #[.string ⟨#[]⟩, .slice none 0 0] 41 (0, 0)) := by have := World.alloc_heap_new (w.alloc (.cells #[.string (str nm), .slice none 0 0, .slice ea es.length ec, .slice none 0 0, .slice ka ks.length kc, .slice none 0 0] 28)) (.cells #[.string ⟨#[]⟩, .slice none 0 0] 41); simpa using this
  have c0 : ((w.alloc (.cells #[.string (str nm), .slice none 0 0, .slice ea es.length ec, .slice none 0 0, .slice ka ks.length kc, .slice none 0 0] 28)).alloc (.cells #[.string ⟨#[]⟩, .slice none 0 0] 41)).cell? ⟨w.heap.size, 0, none⟩ = some (.string (str nm)) := by rw [cell_of_row _ _ 0 _ _ _ hM0]; rfl
  have hcl := sCloneT nm ((w.alloc (.cells #[.string (str nm), .slice none 0 0, .slice ea es.length ec, .slice none 0 0, .slice ka ks.length kc, .slice none 0 0] 28)).alloc (.cells #[.string ⟨#[]⟩, .slice none 0 0] 41)) hnm
  have HZ := hidden hz2
  clear hz2
  go_enter Try.func6, Try.ntmps6
  go_wp2_with fail
  generalize ((w.alloc (.cells #[.string (str nm), .slice none 0 0, .slice ea es.length ec, .slice none 0 0, .slice ka ks.length kc, .slice none 0 0] 28)).alloc (.cells #[.string ⟨#[]⟩, .slice none 0 0] 41)) = V2 at *
  refine hcl.mono ?_
  rintro e w1 ⟨rfl, hb1⟩
  have hs1 : w.heap.size + 2 ≤ w1.heap.size := by have := hb1.size; rw [HZ.out] at this; exact this
  have hM1 := (hb1.block w.heap.size (by rw [HZ.out]; omega)).trans hM0
  have hN1 := (hb1.block (w.heap.size + 1) (by rw [HZ.out]; omega)).trans hN0
  have hbw1 : Below w.heap.size w w1 := hb0.trans (hb1.mono (by rw [HZ.out]; omega))
  have hB0 : (w1.alloc (.cells #[.string (str nm), .slice none 0 0] 41)).heap[w1.heap.size]? = some (.cells #[.string (str nm), .slice none 0 0] 41 (0, 0)) := World.alloc_heap_new w1 _
  have hbA : Below w1.heap.size w1 (w1.alloc (.cells #[.string (str nm), .slice none 0 0] 41)) := (Below.refl _ _).alloc (Nat.le_refl _) _
  have c2 : (w1.alloc (.cells #[.string (str nm), .slice none 0 0] 41)).cell? ⟨w.heap.size, 2, none⟩ = some (.slice ea es.length ec) := by rw [cell_of_row _ _ 2 _ _ _ ((hbA.block _ (by omega)).trans hM1)]; rfl
  clear hcl hM0 hN0 hb0 hb1 c0 HZ
  go_wp2_with fail
  have hL0 : (w1.alloc (.cells #[.string (str nm), .slice none 0 0] 41)).ownsRow (w1.heap.size + 1) 47 4 (.slice none 0 0) 0 (rowI []) := World.ownsRow_nil _ _ _ _
  generalize w1.alloc (.cells #[.string (str nm), .slice none 0 0] 41) = wA at *
  clear c2
  go_loopg [17] es.length (fun g i wr => ∃ (k : Nat) (v : Value) (acc : List (List UInt8 × List UInt8)), g + k = es.length ∧ k ≤ n ∧ Hid (acc.length = k) ∧ i = .int .i64 (k : Int) ∧ wr.heap[w1.heap.size]? = some (.cells #[.string (str nm), v] 41 (0, 0)) ∧ wr.ownsRow (w1.heap.size + 1) 47 4 v acc.length (rowI acc) ∧ Below w1.heap.size w1 wr)
  case atStart => exact ⟨0, _, [], by simp, Nat.zero_le _, rfl, rfl, hB0, hL0, hbA⟩
  case round =>
    obtain ⟨k, v, acc, hg, hkn, hak, rfl, hBr, hown, Kr⟩ := hrel
    have hk : k < es.length := by omega
    have hbr : Below w.heap.size w wr := hbw1.trans (Kr.mono (by omega))
    obtain ⟨eb, eo, ecc, e1, hgF, qx⟩ := (hE.below hbr hF).at k hk
    simp only [Value.slice.injEq, true_and] at e1
    obtain ⟨rfl, rfl⟩ := e1
    have hki : (k : Int) < (es.length : Int) := by omega
    have hq := List.getElem_mem hk
    obtain ⟨x, hx⟩ := Option.isSome_iff_exists.1 (hdef _ hq)
    obtain ⟨cn, ct⟩ := x
    have hMr := (Kr.block w.heap.size (by omega)).trans hM1
    have hNr := (Kr.block (w.heap.size + 1) (by omega)).trans hN1
    have m0 : wr.cell? ⟨w.heap.size, 0, none⟩ = some (.string (str nm)) := by rw [cell_of_row _ _ 0 _ _ _ hMr]; rfl
    have m1 : wr.cell? ⟨w.heap.size, 1, none⟩ = some (.slice none 0 0) := by rw [cell_of_row _ _ 1 _ _ _ hMr]; rfl
    have m2 : wr.cell? ⟨w.heap.size, 2, none⟩ = some (.slice (some ⟨eb, eo, none⟩) es.length ec) := by rw [cell_of_row _ _ 2 _ _ _ hMr]; rfl
    have m3 : wr.cell? ⟨w.heap.size, 3, none⟩ = some (.slice none 0 0) := by rw [cell_of_row _ _ 3 _ _ _ hMr]; rfl
    have m4 : wr.cell? ⟨w.heap.size, 4, none⟩ = some (.slice ka ks.length kc) := by rw [cell_of_row _ _ 4 _ _ _ hMr]; rfl
    have m5 : wr.cell? ⟨w.heap.size, 5, none⟩ = some (.slice none 0 0) := by rw [cell_of_row _ _ 5 _ _ _ hMr]; rfl
    have hsr : w1.heap.size ≤ wr.heap.size := Kr.size
    have hFr : ∀ g, F g → g < wr.heap.size := fun g hg => by have := hF g hg; omega
    have hdf := definedK F nm (some ⟨eb, eo, none⟩) es.length ec ka kc ks b2 b3 b4 b5 b6 b7 b8 b9 b10 hone es[k] wr (h.below hbr hF) hFr hok (het _ hq) hl
    unfold DefE at hdf
    rw [hx] at hdf
    simp only [Option.map_some, Option.getD_some, Option.isSome_some, kIt, itv] at hdf
    have hEr := hE.below hbr hF
    have hct : ∀ u, Below wr.heap.size wr u → Calls Try.prog 10 #[.slice (some ⟨eb, eo, none⟩) k ec, .string (str es[k])] u fun e w' => e = .returned (.bool ((es.take k).any (fun y => decide (y = es[k])))) ∧ w' = u := fun u hu => containsT F _ ec k es es[k] u (hEr.below hu hFr) (by omega) hel
    have hdk := hdis k hk
    have hbk : k = n → (es.take k).any (fun y => decide (y = es[k])) = true := fun e => by subst e; exact hbad
    clear hx hq hdef hdis hbad hE h het hok hone hB0 hL0 hbA
    generalize (es.take k).any (fun y => decide (y = es[k])) = bb at *
    generalize es[k] = qe at *
    go_wp2_with fail
    refine hdf.mono ?_
    rintro e w3 ⟨rfl, hb3⟩
    have hs3 := hb3.size
    have hbB : Below wr.heap.size wr (w3.alloc (.cells #[.int .i64 2, .string (str cn), .string (str ct), .slice none 0 0] 47)) := hb3.trans ((Below.refl _ w3).alloc (hb3.size) _)
    have hM4 := (hbB.block w.heap.size (by omega)).trans hMr
    have hN4 := (hbB.block (w.heap.size + 1) (by omega)).trans hNr
    have hB4 := (hbB.block w1.heap.size (Array.getElem?_eq_some_iff.1 hBr).1).trans hBr
    have n2 : (w3.alloc (.cells #[.int .i64 2, .string (str cn), .string (str ct), .slice none 0 0] 47)).cell? ⟨w.heap.size, 2, none⟩ = some (.slice (some ⟨eb, eo, none⟩) es.length ec) := by rw [cell_of_row _ _ 2 _ _ _ hM4]; rfl
    have hkc : (k : Int) ≤ (ec : Int) := by omega
    have hct4 := hct _ hbB
    clear hdf hct m0 m1 m2 m3 m4 m5 hb3
    go_wp2_with fail
    refine hct4.mono ?_
    rintro e w4 ⟨rfl, rfl⟩
    clear hct4 n2
    by_cases hkk : k = n
    · obtain rfl := hbk hkk
      have hb9 := (hbr.trans (hbB.mono (by omega))).trans ((setRow_below (w3.alloc (.cells #[.int .i64 2, .string (str cn), .string (str ct), .slice none 0 0] 47)) (w.heap.size + 1) #[.string ⟨#[]⟩, .slice none 0 0]).mono (by omega))
      clear hbk hdk
      go_wp2_with (refine wpList_store_row rfl 41 (.tmp 2) (.tmp 37) rfl (w.heap.size + 1) #[.string ⟨#[]⟩, .slice none 0 0] rfl rfl 41 #[.string ⟨#[]⟩, .slice none 0 0] hN4 sizeIf rfl (by kernel_rfl) ?_)
      (try simp only [Exit.inBlock, Exit.then])
      refine bodyPost_ret (res7 rfl _ _ (w.heap.size + 1) 41 #[.string ⟨#[]⟩, .slice none 0 0] (0, 0) _ rfl (setRow_heap _ (w.heap.size + 1) _ _ 41 (0, 0) hN4) Try.underlying41 rfl sizeIf) rfl ?_
      exact ⟨rfl, hb9⟩
    · have hkn2 : k < n := by omega
      obtain rfl := hdk hkn2
      obtain ⟨va, vc, rfl⟩ : ∃ va vc, v = .slice va acc.length vc := by
        rcases hown.2 with ⟨rfl, hz⟩ | ⟨g, cap, cur, rfl, _⟩
        · exact ⟨none, 0, by rw [hz]⟩
        · exact ⟨_, _, rfl⟩
      have ho4 := owns_below hown hbB
      have b1 : (w3.alloc (.cells #[.int .i64 2, .string (str cn), .string (str ct), .slice none 0 0] 47)).cell? ⟨w1.heap.size, 1, none⟩ = some (.slice va acc.length vc) := by rw [cell_of_row _ _ 1 _ _ _ hB4]; rfl
      have hz4 : w1.heap.size + 1 ≤ (w3.alloc (.cells #[.int .i64 2, .string (str cn), .string (str ct), .slice none 0 0] 47)).heap.size := by simp; omega
      have K4 := Kr.trans (hbB.mono hsr)
      clear hbk hdk hown hMr hNr hBr hM4 hN4 hbB hbr
      go_wp2_with (at_builtin; refine append_item rfl (.tmp 39) (.tmp 41) rfl (w1.heap.size + 1) _ acc rfl (ho4.alloc _) _ _ (cn, ct) rfl ?src ?len ?hB ?next)
      case src =>
        intro j u hju
        have hcn := cells_new (w3.alloc (.cells #[.int .i64 2, .string (str cn), .string (str ct), .slice none 0 0] 47)) [.int .i64 2, .string (str cn), .string (str ct), .slice none 0 0] 47 j u hju
        rw [World.size_alloc] at hcn
        exact hcn
      case len => have := hak.out; omega
      case hB => first | omega | (simp; omega)
      case next =>
        intro ad c' w5 j1 j2
        have hlt : w1.heap.size < (w3.alloc (.cells #[.int .i64 2, .string (str cn), .string (str ct), .slice none 0 0] 47)).heap.size := by omega
        have hB5 : w5.heap[w1.heap.size]? = some (.cells #[.string (str nm), .slice va acc.length vc] 41 (0, 0)) := (j2.block _ (by simp; omega) (fun e => by have := (owns_block ho4 e.symm).1; omega)).trans ((Below.heap_alloc _ _ _ hlt).trans hB4)
        have K5 : Below w1.heap.size w1 w5 := (K4.alloc K4.size _).grown j2 (by simp; omega) (fun b hb => by have := (owns_block ho4 hb).1; omega)
        have x1 : w5.cell? ⟨w1.heap.size, 1, none⟩ = some (.slice va acc.length vc) := by rw [cell_of_row _ _ 1 _ _ _ hB5]; rfl
        have f1 := frozen_of_row w5 w1.heap.size 1 _ _ hB5
        have hB6 := heap_setCell_same w5 w1.heap.size 1 _ _ (.slice (some ad) (acc.length + 1) c') hB5
        have ho6 := owns_set j1 (Nat.lt_succ_self w1.heap.size) 1 (.slice (some ad) (acc.length + 1) c')
        have K6 := K5.setCell (p := ⟨w1.heap.size, 1, none⟩) (Nat.le_refl _) (.slice (some ad) (acc.length + 1) c')
        clear j2 ho4 hB4 b1 hB5 K5 K4 j1
        go_wp2
        go_roundg (es.length - (k + 1))
        case measure => omega
        case rel => exact ⟨k + 1, _, acc ++ [(cn, ct)], by omega, by omega, by have := hak.out; simp [Hid]; omega, by go_num, by simpa using hB6, by simpa using ho6, K6⟩
end Go.Proofs.Ytfddnaeldpafmaa
