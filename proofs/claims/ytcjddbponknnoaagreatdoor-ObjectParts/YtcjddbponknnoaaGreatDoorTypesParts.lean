/-
  The package's Parts: its walk.
-/
import Derived.Test.YtcjddbponknnoaaGreatDoorTypesSmall
namespace Go.Proofs.YtcjddbponknnoaaGreatDoor
open Go.RowKit

theorem infoS : (Tryz.prog.info? 9).map (fun i => (i.zero.map (fun z => z.cells.size), i.size, i.bytes)) = some (some 1, 1, 16) := by kernel_rfl
/-- append of one text onto a row of the call's own. -/
theorem append_text {w : World} {ops : Array Oper} {rest : List Oper} {o : Oper} {a : Act} {Q : Exit → Act → World → Prop} (hgd : o.guard = none) (s x : Operand)
    (ho : o.op = .call { callee := .builtin .append, args := #[s, x], argTypes := #[23, 23] })
    (B : Nat) (v : Value) (acc : List (List UInt8)) (hs : a.eval s = v) (hown : w.ownsRow B 9 1 v acc.length (sc acc))
    (ad : Addr) (c : Nat) (n : List UInt8) (hx : a.eval x = .slice (some ad) 1 c) (hnews : ∀ j u, (sc [n])[j]? = some u → w.cell? (ad.add j) = some u)
    (hlen : acc.length + 1 ≤ 8193) (hB : B ≤ w.heap.size)
    (h : ∀ ad' c' w', w'.ownsRow B 9 1 (.slice (some ad') (acc.length + 1) c') (acc ++ [n]).length (sc (acc ++ [n])) → w.grownBy w' v.ownBlock → wpList Tryz.prog ops Q rest (a.put o.dst (.slice (some ad') (acc.length + 1) c')) w') :
    wpList Tryz.prog ops Q (o :: rest) a w := by
  obtain ⟨i, z, hi, hz, h1, h2, h3⟩ := info_z infoS
  refine wpList_append_own w hgd s x 23 ho B 9 i z 1 16 Tryz.underlying23 hi hz h1 h2 h3 (by decide) v acc.length (sc acc) hs hown ad 1 c (sc [n]) hx rfl hnews (fun u hu => ?_) (by unfold maxLen; omega) (by omega) hB ?_
  · obtain ⟨_, _, rfl⟩ := List.mem_map.1 hu
    rfl
  intro v' w' k1 k2 k3
  rcases k1.2 with ⟨rfl, hz⟩ | ⟨g, cap, cur, rfl, _⟩
  · omega
  · rw [← sc_append] at k1
    exact h ⟨g, 0, none⟩ cap w' (by simpa using k1) k2
theorem frame44 (a : Act) (h : a.tmps.size = 44) (hd : a.defers = []) : ∃ f : Nat → Value, a = { tmps := #[f 0, f 1, f 2, f 3, f 4, f 5, f 6, f 7, f 8, f 9, f 10, f 11, f 12, f 13, f 14, f 15, f 16, f 17, f 18, f 19, f 20, f 21, f 22, f 23, f 24, f 25, f 26, f 27, f 28, f 29, f 30, f 31, f 32, f 33, f 34, f 35, f 36, f 37, f 38, f 39, f 40, f 41, f 42, f 43], defers := [] } := by
  refine ⟨fun k => a.tmps.getD k undef, ?_⟩
  obtain ⟨t, d⟩ := a
  simp only at h hd
  subst hd
  have e := arr_map t
  rw [h] at e
  simp only [Act.mk.injEq, and_true]
  exact e

/-- The parts of a function; nothing, if it is none. -/
def PartsE (l : List UInt8) (w : World) (e : Ending) (w' : World) : Prop :=
  ((isFn l = true ∧ ∃ v, e = .returned (.tuple #[v, .string (str (partsR l).2), .bool true]) ∧ StrRow w' v (partsR l).1) ∨ (isFn l = false ∧ e = .returned (.tuple #[.slice none 0 0, .string (str []), .bool false]))) ∧ Below w.heap.size w w'
/-- Where a parameter ends. -/
theorem param_at {L : List UInt8} {p : Nat} {c : UInt8} {r : List UInt8} (h : one (L.drop p) = some (c :: r)) : ∃ q, p < q ∧ q < L.length ∧ endI L p = (q : Int) ∧ L.drop q = c :: r ∧ (L.drop p).take ((L.drop p).length - (r.length + 1)) = (L.drop p).take (q - p) ∧ L.drop (q + 1) = r := by
  obtain ⟨x, hx, e⟩ := one_suffix h
  have hl := congrArg List.length e
  simp only [List.length_drop, List.length_append, List.length_cons] at hl
  have hx' : 0 < x.length := List.length_pos_iff.2 hx
  have hq : L.drop (p + x.length) = c :: r := by rw [← List.drop_drop, e]; simp
  refine ⟨p + x.length, by omega, by omega, ?_, hq, ?_, drop_cons hq⟩
  · rw [endI, h]
    simp
    omega
  · rw [List.length_drop]
    congr 1
    omega
def ptJ (s : ByteArray) (w0 : World) (lp lc l : Nat) (a : Act) (w : World) : Prop :=
  ∃ (p : Nat) (acc : List (List UInt8)) (v : Value), a.tmps.size = 44 ∧ a.defers = [] ∧ a.tmps.getD 0 undef = .string s ∧ a.tmps.getD 5 undef = v ∧ a.tmps.getD 7 undef = .int .i64 (p : Int) ∧
    p < s.size ∧ acc.length ≤ 6 ∧ w.ownsRow w0.heap.size 9 1 v acc.length (sc acc) ∧ Below w0.heap.size w0 w ∧
    ((l = lp ∧ acc.length < 6 ∧ Hid (Goes acc.length (s.data.toList.drop p)) ∧ Hid (partsR s.data.toList = (acc ++ (psQ (s.data.toList.drop p)).1, (psQ (s.data.toList.drop p)).2))) ∨
     (l = lc ∧ Hid (partsR s.data.toList = (acc, s.data.toList.drop (p + 1)))))
def ptM (s : ByteArray) (lp l : Nat) (a : Act) (_ : World) : Nat :=
  if l = lp then (s.size - (intOf (a.tmps.getD 7 undef)).toNat) + 1 else 0
set_option maxHeartbeats 2000000 in
set_option maxRecDepth 1000000 in
theorem parts_fn (s : ByteArray) (w : World) (hr : rightR s.data.toList = true) (hh : isHead 40 s.data.toList = true) : Calls Tryz.prog 211 #[.string s] w (PartsE s.data.toList w) := by
  have hl := rightR_len hr
  have h1 := rightR_one hr
  have HF : Hid (isFn s.data.toList = true) := by rw [hid_iff, isFn, hr, hh]; rfl
  have hrt := right s
  rw [hr] at hrt
  rw [size_len] at hl
  have hp0 : 0 < s.size := by have := rightR_pos hr; rw [size_len] at this; exact this
  have hd0 := drop_at s 0 hp0
  rw [List.drop_zero] at hd0
  rw [isHead_at s 40 hp0] at hh
  have c0 := of_decide_eq_true hh
  have hp1 : 1 < s.size := by
    rw [hd0] at h1
    rcases Nat.lt_or_ge 1 s.size with h | h
    · exact h
    · rw [drop_end s (0 + 1) (by omega)] at h1
      rw [one_fn [] c0 (by simp), one_nil] at h1
      cases h1
  have hd1 := drop_at s 1 hp1
  have c0' : ((s[0].toNat : Int) != 40) = false := by simp; omega
  have hpz : (0 : Int) < (s.size : Int) := by omega
  have hpo : (1 : Int) < (s.size : Int) := by omega
  have hti : s.data.toList.tail = s.data.toList.drop 1 := by rw [hd0]; simp
  have HP1 : s[1].toNat = 41 → Hid (partsR s.data.toList = ([], s.data.toList.drop (1 + 1))) := by
    intro h
    rw [hid_iff, partsR, hti, hd1, isHead_cons, decide_eq_true h]
    simp
  have HP2 : s[1].toNat ≠ 41 → Hid (partsR s.data.toList = ([] ++ (psQ (s.data.toList.drop 1)).1, (psQ (s.data.toList.drop 1)).2)) := by
    intro h
    rw [hid_iff, partsR, hti, show isHead 41 (s.data.toList.drop 1) = false from by rw [hd1, isHead_cons, decide_eq_false h]]
    rfl
  have HP3 : s[1].toNat ≠ 41 → Hid (Goes 0 (s.data.toList.drop 1)) := by
    intro h
    rw [hd0] at h1
    exact goes_first c0 h1 (by rw [hd1, isHead_cons, decide_eq_false h])
  clear hr hh h1 hd0 hd1 c0 hti
  go_enter Tryz.func211, Tryz.ntmps211
  go_wp2_with fail
  refine wp_scope_fall (ptJ s w 1 0) (ptM s 1) ?_ ?_
  · intro hp
    replace hp := hidden hp
    by_cases c1 : s[1].toNat = 41
    · have c1' : ((s[1].toNat : Int) == 41) = true := by rw [beq_iff_eq]; omega
      have HQ := HP1 c1
      clear HP1 HP2 HP3 c1
      go_wp2_with (go_at_call 76; refine (hrt _).mono ?_; rintro e w0 ⟨rfl, hb0⟩)
      refine wp_goto ⟨1, [], _, rfl, rfl, rfl, rfl, rfl, hp1, by simp, World.ownsRow_nil _ _ _ _, hb0, .inr ⟨rfl, HQ⟩⟩
    · have c1' : ((s[1].toNat : Int) == 41) = false := by rw [beq_eq_false_iff_ne]; omega
      have HQ := HP2 c1
      have HG := HP3 c1
      clear HP1 HP2 HP3 c1
      go_wp2_with (go_at_call 76; refine (hrt _).mono ?_; rintro e w0 ⟨rfl, hb0⟩)
      rename_i hK
      refine wp_label (hK _ _ (hp.out 1 _ _ _ rfl ⟨1, [], _, rfl, rfl, rfl, rfl, rfl, hp1, by simp, World.ownsRow_nil _ _ _ _, hb0, .inl ⟨rfl, by simp, HG, HQ⟩⟩))
  · rintro l a w1 ⟨p, acc, v, ha1, ha2, ha3, ha4, ha5, hps, hacc, hown, hbl, hl'⟩ hfall
    replace hfall := hidden hfall
    obtain ⟨f, rfl⟩ := frame44 a ha1 ha2
    replace ha3 : f 0 = .string s := ha3
    replace ha4 : f 5 = v := ha4
    replace ha5 : f 7 = .int .i64 (p : Int) := ha5
    rw [ha3, ha4, ha5] at hfall ⊢
    clear ha1 ha2 ha3 ha4 ha5 HP1 HP2 HP3
    have hB : w.heap.size ≤ w1.heap.size := hbl.size
    rcases hl' with ⟨rfl, hac6, hg, hq⟩ | ⟨rfl, hq⟩
    · refine ⟨_, rfl, ?_⟩
      obtain ⟨c, r, h1, h2⟩ := goes_next hg.out
      obtain ⟨q, hq1, hq2, hq3, hq4, hq5, hq6⟩ := param_at h1
      rw [size_len] at hq2
      have hqq := psQ_some h1
      rw [hq5] at hqq
      have he := fun u => endAt s p u hl (by omega)
      rw [hq3] at he
      have hcx : s[q] = c := by
        have := drop_at s q hq2
        rw [hq4] at this
        simp only [List.cons.injEq] at this
        exact this.1.symm
      have hcl := fun u => sClone (s.extract p q) u (by simp; omega)
      have hex : s.extract p q = str ((s.data.toList.drop p).take (q - p)) := extract_str s p q
      rw [hex] at hcl
      have hpq : (p : Int) ≤ (q : Int) := by omega
      have hqs : (q : Int) ≤ (s.size : Int) := by omega
      have hqs' : (q : Int) < (s.size : Int) := by omega
      rcases h2 with ⟨hc, hone⟩ | ⟨hc, hk6, hgo⟩
      · rw [if_neg (by omega)] at hqq
        have HQ : Hid (partsR s.data.toList = (acc ++ [(s.data.toList.drop p).take (q - p)], s.data.toList.drop (q + 1))) := by
          rw [hid_iff, hq.out, hqq, hq6]
        have c1' : ((s[q].toNat : Int) == 44) = false := by rw [beq_eq_false_iff_ne, hcx]; omega
        generalize (s.data.toList.drop p).take (q - p) = x at *
        clear hg hq h1 hq3 hq4 hq5 hq6 hqq hcx hc hone
        go_wp2_with fail
        refine (he _).mono ?_
        rintro e w2 ⟨rfl, hb2⟩
        have ho2 := owns_below hown hb2
        have hb3 : Below w.heap.size w w2 := hbl.trans ⟨hb2.os, hb2.tape, hb2.output, hb2.size, fun k hk => hb2.block k (by omega)⟩
        clear hb2 hbl hown
        go_wp2_with fail
        refine (hcl _).mono ?_
        rintro e w3 ⟨rfl, hb4⟩
        have hB2 : w.heap.size ≤ w2.heap.size := hb3.size
        have ho4 := owns_below ho2 hb4
        have hb5 : Below w.heap.size w w3 := hb3.trans ⟨hb4.os, hb4.tape, hb4.output, hb4.size, fun k hk => hb4.block k (by omega)⟩
        have hB3 : w.heap.size ≤ w3.heap.size := hb5.size
        clear hb3 hb4 ho2
        go_wp2_with (at_builtin; refine append_text rfl (.tmp 24) (.tmp 30) rfl w.heap.size v acc rfl (ho4.alloc _) _ _ x rfl ?src ?len ?hB ?next)
        case src => first | exact cells_new _ _ _ | exact fun j u h => h
        case len => first | omega | (simp; omega)
        case hB => first | omega | (simp; omega)
        case next =>
          intro ad c' w' k1 k2
          have k3 := below_grown (ho4.alloc _) (by simp; omega) (hb5.alloc hB3 _) k2
          clear k2 ho4 hb5
          go_wp2
          rename_i hK
          refine wp_label (hK _ _ (hfall.out 0 _ _ _ rfl ⟨q, acc ++ [x], _, rfl, rfl, rfl, rfl, rfl, hq2, by simp; omega, by simpa using k1, k3, .inr ⟨rfl, HQ⟩⟩ ?_))
          simp [ptM]
      · rw [if_pos hc] at hqq
        have HQ : Hid (partsR s.data.toList = ((acc ++ [(s.data.toList.drop p).take (q - p)]) ++ (psQ (s.data.toList.drop (q + 1))).1, (psQ (s.data.toList.drop (q + 1))).2)) := by
          rw [hid_iff, hq.out, hqq, hq6]; simp
        have HG : Hid (Goes (acc ++ [(s.data.toList.drop p).take (q - p)]).length (s.data.toList.drop (q + 1))) := by
          rw [hid_iff, hq6, List.length_append]; exact hgo
        have hqe : q + 1 < s.size := by
          obtain ⟨c', r', h3, _⟩ := goes_next HG.out
          have := one_len h3
          rw [List.length_drop, size_len] at this
          omega
        have c1' : ((s[q].toNat : Int) == 44) = true := by rw [beq_iff_eq, hcx]; omega
        generalize (s.data.toList.drop p).take (q - p) = x at *
        clear hg hq h1 hq3 hq4 hq5 hq6 hqq hcx hc hgo hfall
        go_wp2_with fail
        refine (he _).mono ?_
        rintro e w2 ⟨rfl, hb2⟩
        have ho2 := owns_below hown hb2
        have hb3 : Below w.heap.size w w2 := hbl.trans ⟨hb2.os, hb2.tape, hb2.output, hb2.size, fun k hk => hb2.block k (by omega)⟩
        clear hb2 hbl hown
        go_wp2_with fail
        refine (hcl _).mono ?_
        rintro e w3 ⟨rfl, hb4⟩
        have hB2 : w.heap.size ≤ w2.heap.size := hb3.size
        have ho4 := owns_below ho2 hb4
        have hb5 : Below w.heap.size w w3 := hb3.trans ⟨hb4.os, hb4.tape, hb4.output, hb4.size, fun k hk => hb4.block k (by omega)⟩
        have hB3 : w.heap.size ≤ w3.heap.size := hb5.size
        clear hb3 hb4 ho2
        go_wp2_with (at_builtin; refine append_text rfl (.tmp 24) (.tmp 30) rfl w.heap.size v acc rfl (ho4.alloc _) _ _ x rfl ?src ?len ?hB ?next)
        case src => first | exact cells_new _ _ _ | exact fun j u h => h
        case len => first | omega | (simp; omega)
        case hB => first | omega | (simp; omega)
        case next =>
          intro ad c' w' k1 k2
          have k3 := below_grown (ho4.alloc _) (by simp; omega) (hb5.alloc hB3 _) k2
          clear k2 ho4 hb5
          go_wp2
          refine wp_goto ⟨⟨q + 1, acc ++ [x], _, rfl, rfl, rfl, rfl, by go_num, hqe, by simp; omega, by simpa using k1, k3, .inl ⟨rfl, by simp; omega, HG, HQ⟩⟩, ?_⟩
          simp [ptM, intOf]
          omega
    · refine ⟨_, rfl, ?_⟩
      have hcl := fun u => sClone (s.extract (p + 1) s.size) u (by have := ext_size s (p + 1); omega)
      have HX : Hid (s.extract (p + 1) s.size = str (s.data.toList.drop (p + 1))) := str_drop s (p + 1)
      have hp2 : (p : Int) + 1 ≤ (s.size : Int) := by omega
      clear hfall
      go_wp2_with fail
      refine (hcl _).mono ?_
      rintro e w2 ⟨rfl, hb2⟩
      have ho2 := owns_below hown hb2
      have hb3 : Below w.heap.size w w2 := hbl.trans ⟨hb2.os, hb2.tape, hb2.output, hb2.size, fun k hk => hb2.block k (by omega)⟩
      go_wp2
      go_ret3
      refine ⟨.inl ⟨HF.out, v, ?_, ?_⟩, hb3⟩
      · rw [hq.out, ← HX.out]; rfl
      · rw [hq.out]; exact strRow_own ho2

set_option maxHeartbeats 1000000 in
set_option maxRecDepth 1000000 in
theorem partsOf (s : ByteArray) (w : World) : Calls Tryz.prog 211 #[.string s] w (PartsE s.data.toList w) := by
  have hrt := right s
  cases h0 : rightR s.data.toList
  · have HF : Hid (isFn s.data.toList = false) := by rw [hid_iff, isFn, h0]; rfl
    rw [h0] at hrt
    clear h0
    go_enter Tryz.func211, Tryz.ntmps211
    go_wp2_with fail
    refine wp_scope_labels (fun _ _ _ => False) (fun _ _ _ => 0) ?_ (fun _ _ _ h => h.elim)
    intro hz
    clear hz
    go_wp2_with (go_at_call 76; refine (hrt _).mono ?_; rintro e w0 ⟨rfl, hb0⟩)
    show bodyPost Tryz.prog Tryz.f211 (PartsE s.data.toList w) Exit.ret _ _
    go_ret3
    exact ⟨.inr ⟨HF.out, rfl⟩, hb0⟩
  · cases h1 : isHead 40 s.data.toList
    · have HF : Hid (isFn s.data.toList = false) := by rw [hid_iff, isFn, h0, h1]; rfl
      have hp0 : 0 < s.size := by have := rightR_pos h0; rw [size_len] at this; exact this
      rw [isHead_at s 40 hp0] at h1
      have c0' : ((s[0].toNat : Int) != 40) = true := by have := of_decide_eq_false h1; simp; omega
      have hpz : (0 : Int) < (s.size : Int) := by omega
      rw [h0] at hrt
      clear h0 h1
      go_enter Tryz.func211, Tryz.ntmps211
      go_wp2_with fail
      refine wp_scope_labels (fun _ _ _ => False) (fun _ _ _ => 0) ?_ (fun _ _ _ h => h.elim)
      intro hz
      clear hz
      go_wp2_with (go_at_call 76; refine (hrt _).mono ?_; rintro e w0 ⟨rfl, hb0⟩)
      show bodyPost Tryz.prog Tryz.f211 (PartsE s.data.toList w) Exit.ret _ _
      go_ret3
      exact ⟨.inr ⟨HF.out, rfl⟩, hb0⟩
    · exact parts_fn s w h0 h1
end Go.Proofs.YtcjddbponknnoaaGreatDoor
