/-
  The package's Names: its walk.
-/
import Derived.Test.YtcjlifhehiolkaaGreatTreeMem
import Derived.Test.YtcjlifhehiolkaaGreatTypesParts
import Derived.Test.YtcjlifhehiolkaaGreatTypesSort
namespace Go.Proofs.YtcjlifhehiolkaaGreat
open Go.RowKit Go.Sort

/-- Texts in a row of the call's own, as sorting wants them. -/
def RowS (B : Nat) (w : World) (v : Value) (acc : List (List UInt8)) : Prop :=
  (acc = [] ∧ v = .slice none 0 0) ∨ ∃ g cap, v = .slice (some ⟨g, 0, none⟩) acc.length cap ∧ B ≤ g ∧ g < w.heap.size ∧ acc.length ≤ cap ∧ Holds encStr w g 0 acc.toArray
theorem rowS_own {w : World} {B e : Nat} {v : Value} {xs : List (List UInt8)} (h : w.ownsRow B e 1 v xs.length (sc xs)) : RowS B w v xs := by
  rcases h.2 with ⟨rfl, hn⟩ | ⟨g, cap, cur, rfl, hb, hg, h1, _⟩
  · exact .inl ⟨List.eq_nil_of_length_eq_zero hn, rfl⟩
  · refine .inr ⟨g, cap, rfl, hb, (Array.getElem?_eq_some_iff.1 hg).1, h1, fun j hj => ⟨?_, ?_⟩⟩
    · simp only [List.size_toArray] at hj
      rw [Nat.zero_add, h.cellAt j (by omega)]
      simp [sc, encStr, str, hj]
    · rw [Nat.zero_add]
      exact h.frozenAt j
theorem kept_putRow (w : World) (n g : Nat) (d : Array (List UInt8)) : Kept (fun k => k = g) w (putRow encStr (Sort.ahead w n) g 0 d) := by
  refine ⟨rfl, rfl, rfl, by simp, fun k hk hn => ?_⟩
  simp only [putRow, mapBlock, heap_ahead, Array.getElem?_modify]
  rw [if_neg (fun e => hn e.symm)]
theorem kept_grow {S : Nat → Prop} {w w1 : World} (h : Kept S w w1) (os : Array Obj) : Kept S w (grow w1 os) := by
  refine ⟨h.os, h.tape, h.output, by have := h.size; simp; omega, fun k hk hn => ?_⟩
  rw [heap_grow_old _ _ (Nat.lt_of_lt_of_le hk h.size)]
  exact h.block k hk hn
theorem sortOwn (B : Nat) (w : World) (v : Value) (acc : List (List UInt8)) (h : RowS B w v acc) (hn : acc.length ≤ 8192) :
    Calls Tryz.prog 26 #[v] w fun e w' => e = .returned (.tuple #[]) ∧ RowS B w' v (sortR acc) ∧ Below B w w' := by
  rcases h with ⟨rfl, rfl⟩ | ⟨g, cap, rfl, hB, hg, hc, hH⟩
  · refine (Tryz.slices_Sort_string_none none 0 w).mono ?_
    rintro e w1 ⟨rfl, rfl⟩
    exact ⟨rfl, .inl ⟨by simp [sortR], rfl⟩, Below.refl _ _⟩
  · refine (Tryz.slices_Sort_string g 0 cap acc w hH hg (by omega)).mono ?_
    rintro e w1 ⟨rfl, n, os, rfl⟩
    have hk := kept_grow (kept_putRow w n g (sortR acc).toArray) os
    refine ⟨rfl, .inr ⟨g, cap, by rw [sortR_length], hB, Nat.lt_of_lt_of_le hg hk.size, by rw [sortR_length]; exact hc, ?_⟩, hk.below (by omega) (fun k hk' e => by omega)⟩
    refine holds_grow _ _ _ _ _ _ (by simpa using hg) (holds_putRow _ _ _ _ acc.toArray _ (holds_ahead _ _ _ _ _ _ hH) (by simp))
theorem compact_length (zs : List (List UInt8)) : (Lib.compact zs).length ≤ zs.length := by
  rw [Lib.compact, Lib.compactUpTo, List.length_map]
  have := List.length_filter_le (Lib.keeps zs.toArray) (List.range zs.length)
  rwa [List.length_range] at this
theorem compactOwn (B : Nat) (w : World) (v : Value) (acc : List (List UInt8)) (h : RowS B w v acc) (hn : acc.length ≤ 8192) :
    Calls Tryz.prog 27 #[v] w fun e w' => ∃ v', e = .returned v' ∧ StrRow w' v' (Lib.compact acc) ∧ Below B w w' := by
  rcases h with ⟨rfl, rfl⟩ | ⟨g, cap, rfl, hB, hg, hc, hH⟩
  · refine (Tryz.slices_Compact_string_empty none 0 w).mono ?_
    rintro e w1 ⟨rfl, rfl⟩
    exact ⟨_, rfl, .inl ⟨by simp [Lib.compact, Lib.compactUpTo], none, 0, rfl⟩, Below.refl _ _⟩
  · refine (Tryz.slices_Compact_string g 0 cap acc w hH (by omega) hc).mono ?_
    rintro e w1 ⟨rfl, q, rfl⟩
    have hl := compact_length acc
    have hk := kept_putRow w q g (Lib.compact acc ++ List.replicate (acc.length - (Lib.compact acc).length) []).toArray
    have hz : (Lib.compact acc ++ List.replicate (acc.length - (Lib.compact acc).length) ([] : List UInt8)).toArray.size = acc.toArray.size := by simp; omega
    have hh := holds_putRow encStr (Sort.ahead w q) g 0 acc.toArray (Lib.compact acc ++ List.replicate (acc.length - (Lib.compact acc).length) []).toArray (holds_ahead _ _ _ _ _ _ hH) hz
    refine ⟨_, rfl, .inr ⟨g, 0, cap, rfl, Nat.lt_of_lt_of_le hg hk.size, Nat.le_trans hl hc, fun j x hj => ?_⟩, hk.below (by omega) (fun k hk' e => by omega)⟩
    have hlt := (List.getElem?_eq_some_iff.1 hj).1
    have := (hh j (by simp; omega)).1
    rw [this]
    have e : (Lib.compact acc ++ List.replicate (acc.length - (Lib.compact acc).length) ([] : List UInt8)).toArray[j]! = x := by
      rw [getElem!_def, List.getElem?_toArray, List.getElem?_append_left hlt, hj]
    rw [e]
    rfl
/-- The named types in a type, each once, in order. -/
def namesR (l : List UInt8) : List (List UInt8) := if rightR l = true then onceR (nw l) else []
def NamesE (l : List UInt8) (w : World) (e : Ending) (w' : World) : Prop := ∃ v, e = .returned v ∧ StrRow w' v (namesR l) ∧ Below w.heap.size w w'
theorem frame41 (a : Act) (h : a.tmps.size = 41) (hd : a.defers = []) : ∃ f : Nat → Value, a = { tmps := #[f 0, f 1, f 2, f 3, f 4, f 5, f 6, f 7, f 8, f 9, f 10, f 11, f 12, f 13, f 14, f 15, f 16, f 17, f 18, f 19, f 20, f 21, f 22, f 23, f 24, f 25, f 26, f 27, f 28, f 29, f 30, f 31, f 32, f 33, f 34, f 35, f 36, f 37, f 38, f 39, f 40], defers := [] } := by
  refine ⟨fun k => a.tmps.getD k undef, ?_⟩
  obtain ⟨t, d⟩ := a
  simp only at h hd
  subst hd
  have e := arr_map t
  rw [h] at e
  simp only [Act.mk.injEq, and_true]
  exact e

def nmJ (s : ByteArray) (w0 : World) (l : Nat) (a : Act) (w : World) : Prop :=
  ∃ (p : Nat) (acc : List (List UInt8)) (v : Value), a.tmps.size = 41 ∧ a.defers = [] ∧ a.tmps.getD 0 undef = .string s ∧ a.tmps.getD 3 undef = v ∧ a.tmps.getD 5 undef = .int .i64 (p : Int) ∧
    p < s.size ∧ acc.length ≤ p ∧ w.ownsRow w0.heap.size 9 1 v acc.length (sc acc) ∧ Below w0.heap.size w0 w ∧ l = 0 ∧ Hid (acc ++ nw (s.data.toList.drop p) = nw s.data.toList)
def nmM (s : ByteArray) (_ : Nat) (a : Act) (_ : World) : Nat := s.size - (intOf (a.tmps.getD 5 undef)).toNat
set_option maxHeartbeats 2000000 in
set_option maxRecDepth 1000000 in
theorem names_right (s : ByteArray) (w : World) (hr : rightR s.data.toList = true) : Calls Tryz.prog 13 #[.string s] w (NamesE s.data.toList w) := by
  have hl := rightR_len hr
  have HF : Hid (namesR s.data.toList = Lib.compact (sortR (nw s.data.toList))) := by rw [hid_iff, namesR, if_pos hr]; rfl
  have hrt := right s
  rw [hr] at hrt
  rw [size_len] at hl
  have hp0 : 0 < s.size := by have := rightR_pos hr; rw [size_len] at this; exact this
  clear hr
  go_enter Tryz.func13, Tryz.ntmps13
  go_wp2_with fail
  refine wp_scope_labels (nmJ s w) (nmM s) ?_ ?_
  · intro hp
    replace hp := hidden hp
    go_wp2_with (go_at_call 10; refine (hrt _).mono ?_; rintro e w0 ⟨rfl, hb0⟩)
    rename_i hK
    refine wp_label (hK _ _ (hp.out 0 _ _ _ rfl ⟨0, [], _, rfl, rfl, rfl, rfl, rfl, hp0, by simp, World.ownsRow_nil _ _ _ _, hb0, rfl, rfl⟩))
  · rintro l a w1 ⟨p, acc, v, ha1, ha2, ha3, ha4, ha5, hps, hacc, hown, hbl, rfl, hq⟩
    obtain ⟨f, rfl⟩ := frame41 a ha1 ha2
    replace ha3 : f 0 = .string s := ha3
    replace ha4 : f 3 = v := ha4
    replace ha5 : f 5 = .int .i64 (p : Int) := ha5
    rw [ha3, ha4, ha5]
    clear ha1 ha2 ha3 ha4 ha5
    have hB : w.heap.size ≤ w1.heap.size := hbl.size
    refine ⟨_, rfl, ?_⟩
    have hpi : (p : Int) ≤ (s.size : Int) := by omega
    have hwd := fun u => word (s.extract p s.size) u (by have := ext_size s p; omega)
    rw [ext_data] at hwd
    have hwl := word_le (s.data.toList.drop p)
    rw [List.length_drop, size_len] at hwl
    have hnx := nw_next (s.data.toList.drop p)
    have hct := fun u => cut (str (wordR (s.data.toList.drop p))) u (by rw [str_size]; omega)
    unfold CutE at hct
    rw [str_data] at hct
    have hcl := fun u => sClone (str (wordR (s.data.toList.drop p))) u (by rw [str_size]; omega)
    rw [List.drop_drop] at hnx
    generalize wordR (s.data.toList.drop p) = x at *
    have hxs : (str x).size = x.length := rfl
    have tail : ∀ (acc' : List (List UInt8)) (v' : Value) (w' : World), w'.ownsRow w.heap.size 9 1 v' acc'.length (sc acc') → Below w.heap.size w w' → acc' = nw s.data.toList → acc'.length ≤ 8192 →
        Calls Tryz.prog 26 #[v'] w' fun e w2 => e = .returned (.tuple #[]) ∧ Below w.heap.size w w2 ∧ Calls Tryz.prog 27 #[v'] w2 (NamesE s.data.toList w) := by
      intro acc' v' w' ho hb hn h8
      refine (sortOwn _ _ _ _ (rowS_own ho) h8).mono ?_
      rintro e w2 ⟨rfl, hrow, hb2⟩
      refine ⟨rfl, hb.trans hb2, ?_⟩
      refine (compactOwn _ _ _ _ hrow (by rw [sortR_length]; exact h8)).mono ?_
      rintro e w3 ⟨v3, rfl, hs3, hb3⟩
      exact ⟨v3, rfl, by rw [HF.out, ← hn]; exact hs3, (hb.trans hb2).trans hb3⟩
    cases hnm : namedR x
    · simp only [hnm, Bool.false_eq_true, if_false, List.nil_append] at hct hnx
      rw [hnx] at hq
      clear hnx hnm hcl
      by_cases hlt : p + (x.length + 1) < s.size
      · have hlt' : (p : Int) + ((x.length : Int) + 1) < (s.size : Int) := by omega
        clear tail
        go_wp2_with fail
        refine (hwd _).mono ?_
        rintro e w2 ⟨rfl, hb2⟩
        have ho2 := owns_below hown hb2
        have hb3 : Below w.heap.size w w2 := hbl.trans ⟨hb2.os, hb2.tape, hb2.output, hb2.size, fun k hk => hb2.block k (by omega)⟩
        clear hown hbl hb2
        go_wp2_with fail
        refine (hct _).mono ?_
        rintro e w3 ⟨rfl, n, rfl⟩
        have ho4 : (w2.drewN n).ownsRow w.heap.size 9 1 v acc.length (sc acc) := ho2
        have hb4 := below_drewN hb3 n
        clear ho2 hb3
        generalize w2.drewN n = w4 at *
        go_wp2
        refine wp_goto ⟨⟨p + (x.length + 1), acc, _, rfl, rfl, rfl, rfl, by go_num, hlt, by omega, ho4, hb4, rfl, hq⟩, ?_⟩
        simp [nmM, intOf]
        omega
      · have hlt' : ¬ (p : Int) + ((x.length : Int) + 1) < (s.size : Int) := by omega
        have HN : Hid (acc = nw s.data.toList) := by
          have := hq.out
          rw [drop_end s _ (by omega), nw_nil, List.append_nil] at this
          exact this
        clear hq
        go_wp2_with fail
        refine (hwd _).mono ?_
        rintro e w2 ⟨rfl, hb2⟩
        have ho2 := owns_below hown hb2
        have hb3 : Below w.heap.size w w2 := hbl.trans ⟨hb2.os, hb2.tape, hb2.output, hb2.size, fun k hk => hb2.block k (by omega)⟩
        clear hown hbl hb2
        go_wp2_with fail
        refine (hct _).mono ?_
        rintro e w3 ⟨rfl, n, rfl⟩
        have ho4 : (w2.drewN n).ownsRow w.heap.size 9 1 v acc.length (sc acc) := ho2
        have hb4 := below_drewN hb3 n
        clear ho2 hb3
        generalize w2.drewN n = w4 at *
        have ht := tail acc v w4 ho4 hb4 HN.out (by omega)
        clear tail ho4 hb4
        go_wp2_with fail
        refine ht.mono ?_
        rintro e w5 ⟨rfl, hb5, hcp⟩
        go_wp2_with fail
        refine hcp.mono ?_
        rintro e w6 ⟨v6, rfl, hs6, hb6⟩
        go_wp2
        go_ret
        exact ⟨v6, rfl, hs6, hb6⟩
    · simp only [hnm, if_true] at hct hnx
      rw [hnx, ← List.append_assoc] at hq
      clear hnx hnm
      generalize aheadR x = xa at *
      generalize behindR x = xb at *
      go_wp2_with fail
      refine (hwd _).mono ?_
      rintro e w2 ⟨rfl, hb2⟩
      have ho2 := owns_below hown hb2
      have hb3 : Below w.heap.size w w2 := hbl.trans ⟨hb2.os, hb2.tape, hb2.output, hb2.size, fun k hk => hb2.block k (by omega)⟩
      clear hown hbl hb2
      go_wp2_with fail
      refine (hct _).mono ?_
      rintro e w3 ⟨rfl, n, rfl⟩
      have ho4 : (w2.drewN n).ownsRow w.heap.size 9 1 v acc.length (sc acc) := ho2
      have hb4 := below_drewN hb3 n
      clear ho2 hb3
      generalize w2.drewN n = w4 at *
      have hB4 : w.heap.size ≤ w4.heap.size := hb4.size
      go_wp2_with fail
      refine (hcl _).mono ?_
      rintro e w5 ⟨rfl, hb5⟩
      have ho6 := owns_below ho4 hb5
      have hb6 : Below w.heap.size w w5 := hb4.trans ⟨hb5.os, hb5.tape, hb5.output, hb5.size, fun k hk => hb5.block k (by omega)⟩
      have hB6 : w.heap.size ≤ w5.heap.size := hb6.size
      clear ho4 hb4 hb5
      go_wp2_with (at_builtin; refine append_text rfl (.tmp 23) (.tmp 26) rfl w.heap.size v acc rfl (ho6.alloc _) _ _ x rfl ?src ?len ?hB ?next)
      case src => first | exact cells_new _ _ _ | exact fun j u h => h
      case len => first | omega | (simp; omega)
      case hB => first | omega | (simp; omega)
      case next =>
        intro ad c' w' k1 k2
        have k3 := below_grown (ho6.alloc _) (by simp; omega) (hb6.alloc hB6 _) k2
        clear k2 ho6 hb6
        by_cases hlt : p + (x.length + 1) < s.size
        · have hlt' : (p : Int) + ((x.length : Int) + 1) < (s.size : Int) := by omega
          clear tail
          go_wp2
          refine wp_goto ⟨⟨p + (x.length + 1), acc ++ [x], _, rfl, rfl, rfl, rfl, by go_num, hlt, by simp; omega, by simpa using k1, k3, rfl, hq⟩, ?_⟩
          simp [nmM, intOf]
          omega
        · have hlt' : ¬ (p : Int) + ((x.length : Int) + 1) < (s.size : Int) := by omega
          have HN : Hid (acc ++ [x] = nw s.data.toList) := by
            have := hq.out
            rw [drop_end s _ (by omega), nw_nil, List.append_nil] at this
            exact this
          have ht := tail (acc ++ [x]) (.slice (some ad) (acc.length + 1) c') w' (by rw [List.length_append]; exact k1) k3 HN.out (by simp; omega)
          clear hq tail k1 k3
          go_wp2_with fail
          refine ht.mono ?_
          rintro e w5 ⟨rfl, hb5, hcp⟩
          go_wp2_with fail
          refine hcp.mono ?_
          rintro e w6 ⟨v6, rfl, hs6, hb6⟩
          go_wp2
          go_ret
          exact ⟨v6, rfl, hs6, hb6⟩

set_option maxHeartbeats 1000000 in
set_option maxRecDepth 1000000 in
theorem namesOf (s : ByteArray) (w : World) : Calls Tryz.prog 13 #[.string s] w (NamesE s.data.toList w) := by
  have hrt := right s
  cases h0 : rightR s.data.toList
  · have HF : Hid (namesR s.data.toList = []) := by rw [hid_iff, namesR, h0]; rfl
    rw [h0] at hrt
    clear h0
    go_enter Tryz.func13, Tryz.ntmps13
    go_wp2_with fail
    refine wp_scope_labels (fun _ _ _ => False) (fun _ _ _ => 0) ?_ (fun _ _ _ h => h.elim)
    intro hz
    clear hz
    go_wp2_with (go_at_call 10; refine (hrt _).mono ?_; rintro e w0 ⟨rfl, hb0⟩)
    show bodyPost Tryz.prog Tryz.f13 (NamesE s.data.toList w) Exit.ret _ _
    go_ret
    exact ⟨_, rfl, by rw [HF.out]; exact .inl ⟨rfl, none, 0, rfl⟩, hb0⟩
  · exact names_right s w h0
end Go.Proofs.YtcjlifhehiolkaaGreat
