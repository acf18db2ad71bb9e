/-
  The package's Parts: its walk.
  And: What follows from the chapter's functions on trees: what is printed is parted into the tree's own tokens; how long a print is. No program in it.
-/
import Derived.Test.YtfjppbpicmniaaaGreatDoorG07
import Derived.Test.YtfjppbpicmniaaaGreatDoorG02
namespace Go.Proofs.YtfjppbpicmniaaaGreatDoor
open Go.RowKit

theorem infoS : (Tryz.prog.info? 9).map (fun i => (i.zero.map (fun z => z.cells.size), i.size, i.bytes)) = some (some 1, 1, 16) := by kernel_rfl
/-- append of one text onto a row of the call's own. -/
theorem append_text {w : World} {ops : Array Oper} {rest : List Oper} {o : Oper} {a : Act} {Q : Exit → Act → World → Prop} (hgd : o.guard = none) (s x : Operand)
    (ho : o.op = .call { callee := .builtin .append, args := #[s, x], argTypes := #[23, 23] })
    (B : Nat) (v : Value) (acc : List (List UInt8)) (hs : a.eval s = v) (hown : w.ownsRow B 9 1 v acc.length (sc acc))
    (ad : Addr) (c : Nat) (n : List UInt8) (hx : a.eval x = .slice (some ad) 1 c) (hnews : ∀ j u, (sc [n])[j]? = some u → w.cell? (ad.add j) = some u)
    (hlen : acc.length + 1 ≤ 8193) (hB : B ≤ w.heap.size)
    (h : ∀ ad' c' w', w'.ownsRow B 9 1 (.slice (some ad') (acc.length + 1) c') (acc ++ [n]).length (sc (acc ++ [n])) → w.grownBy w' v.ownBlock → wpList Tryz.prog ops Q rest (a.put o.dst (.slice (some ad') (acc.length + 1) c')) w') :
    wpList Tryz.prog ops Q (o :: rest) a w := by
  obtain ⟨i, z, hi, hz, h1, h2, h3⟩ := info_z infoS
  refine wpList_append_own w hgd s x 23 ho B 9 i z 1 16 Tryz.underlying23 hi hz h1 h2 h3 (by decide) v acc.length (sc acc) hs hown ad 1 c (sc [n]) hx rfl hnews (fun u hu => ?_) (by unfold maxLen; omega) (by omega) hB ?_
  · obtain ⟨_, _, rfl⟩ := List.mem_map.1 hu
    rfl
  intro v' w' k1 k2 k3
  rcases k1.2 with ⟨rfl, hz⟩ | ⟨g, cap, cur, rfl, _⟩
  · omega
  · rw [← sc_append] at k1
    exact h ⟨g, 0, none⟩ cap w' (by simpa using k1) k2
theorem frame44 (a : Act) (h : a.tmps.size = 44) (hd : a.defers = []) : ∃ f : Nat → Value, a = { tmps := #[f 0, f 1, f 2, f 3, f 4, f 5, f 6, f 7, f 8, f 9, f 10, f 11, f 12, f 13, f 14, f 15, f 16, f 17, f 18, f 19, f 20, f 21, f 22, f 23, f 24, f 25, f 26, f 27, f 28, f 29, f 30, f 31, f 32, f 33, f 34, f 35, f 36, f 37, f 38, f 39, f 40, f 41, f 42, f 43], defers := [] } := by
  refine ⟨fun k => a.tmps.getD k undef, ?_⟩
  obtain ⟨t, d⟩ := a
  simp only at h hd
  subst hd
  have e := arr_map t
  rw [h] at e
  simp only [Act.mk.injEq, and_true]
  exact e

/-- The parts of a function; nothing, if it is none. -/
def PartsE (l : List UInt8) (w : World) (e : Ending) (w' : World) : Prop :=
  ((isFn l = true ∧ ∃ v, e = .returned (.tuple #[v, .string (str (partsR l).2), .bool true]) ∧ StrRow w' v (partsR l).1) ∨ (isFn l = false ∧ e = .returned (.tuple #[.slice none 0 0, .string (str []), .bool false]))) ∧ Below w.heap.size w w'
/-- Where a parameter ends. -/
theorem param_at {L : List UInt8} {p : Nat} {c : UInt8} {r : List UInt8} (h : one (L.drop p) = some (c :: r)) : ∃ q, p < q ∧ q < L.length ∧ endI L p = (q : Int) ∧ L.drop q = c :: r ∧ (L.drop p).take ((L.drop p).length - (r.length + 1)) = (L.drop p).take (q - p) ∧ L.drop (q + 1) = r := by
  obtain ⟨x, hx, e⟩ := one_suffix h
  have hl := congrArg List.length e
  simp only [List.length_drop, List.length_append, List.length_cons] at hl
  have hx' : 0 < x.length := List.length_pos_iff.2 hx
  have hq : L.drop (p + x.length) = c :: r := by rw [← List.drop_drop, e]; simp
  refine ⟨p + x.length, by omega, by omega, ?_, hq, ?_, drop_cons hq⟩
  · rw [endI, h]
    simp
    omega
  · rw [List.length_drop]
    congr 1
    omega
def ptJ (s : ByteArray) (w0 : World) (lp lc l : Nat) (a : Act) (w : World) : Prop :=
  ∃ (p : Nat) (acc : List (List UInt8)) (v : Value), a.tmps.size = 44 ∧ a.defers = [] ∧ a.tmps.getD 0 undef = .string s ∧ a.tmps.getD 5 undef = v ∧ a.tmps.getD 7 undef = .int .i64 (p : Int) ∧
    p < s.size ∧ acc.length ≤ 6 ∧ w.ownsRow w0.heap.size 9 1 v acc.length (sc acc) ∧ Below w0.heap.size w0 w ∧
    ((l = lp ∧ acc.length < 6 ∧ Hid (Goes acc.length (s.data.toList.drop p)) ∧ Hid (partsR s.data.toList = (acc ++ (psQ (s.data.toList.drop p)).1, (psQ (s.data.toList.drop p)).2))) ∨
     (l = lc ∧ Hid (partsR s.data.toList = (acc, s.data.toList.drop (p + 1)))))
def ptM (s : ByteArray) (lp l : Nat) (a : Act) (_ : World) : Nat :=
  if l = lp then (s.size - (intOf (a.tmps.getD 7 undef)).toNat) + 1 else 0
set_option maxHeartbeats 2000000 in
set_option maxRecDepth 1000000 in
theorem parts_fn (s : ByteArray) (w : World) (hr : rightR s.data.toList = true) (hh : isHead 40 s.data.toList = true) : Calls Tryz.prog 210 #[.string s] w (PartsE s.data.toList w) := by
  have hl := rightR_len hr
  have h1 := rightR_one hr
  have HF : Hid (isFn s.data.toList = true) := by rw [hid_iff, isFn, hr, hh]; rfl
  have hrt := right s
  rw [hr] at hrt
  rw [size_len] at hl
  have hp0 : 0 < s.size := by have := rightR_pos hr; rw [size_len] at this; exact this
  have hd0 := drop_at s 0 hp0
  rw [List.drop_zero] at hd0
  rw [isHead_at s 40 hp0] at hh
  have c0 := of_decide_eq_true hh
  have hp1 : 1 < s.size := by
    rw [hd0] at h1
    rcases Nat.lt_or_ge 1 s.size with h | h
    · exact h
    · rw [drop_end s (0 + 1) (by omega)] at h1
      rw [one_fn [] c0 (by simp), one_nil] at h1
      cases h1
  have hd1 := drop_at s 1 hp1
  have c0' : ((s[0].toNat : Int) != 40) = false := by simp; omega
  have hpz : (0 : Int) < (s.size : Int) := by omega
  have hpo : (1 : Int) < (s.size : Int) := by omega
  have hti : s.data.toList.tail = s.data.toList.drop 1 := by rw [hd0]; simp
  have HP1 : s[1].toNat = 41 → Hid (partsR s.data.toList = ([], s.data.toList.drop (1 + 1))) := by
    intro h
    rw [hid_iff, partsR, hti, hd1, isHead_cons, decide_eq_true h]
    simp
  have HP2 : s[1].toNat ≠ 41 → Hid (partsR s.data.toList = ([] ++ (psQ (s.data.toList.drop 1)).1, (psQ (s.data.toList.drop 1)).2)) := by
    intro h
    rw [hid_iff, partsR, hti, show isHead 41 (s.data.toList.drop 1) = false from by rw [hd1, isHead_cons, decide_eq_false h]]
    rfl
  have HP3 : s[1].toNat ≠ 41 → Hid (Goes 0 (s.data.toList.drop 1)) := by
    intro h
    rw [hd0] at h1
    exact goes_first c0 h1 (by rw [hd1, isHead_cons, decide_eq_false h])
  clear hr hh h1 hd0 hd1 c0 hti
  go_enter Tryz.func210, Tryz.ntmps210
  go_wp2_with fail
  refine wp_scope_fall (ptJ s w 1 0) (ptM s 1) ?_ ?_
  · intro hp
    replace hp := hidden hp
    by_cases c1 : s[1].toNat = 41
    · have c1' : ((s[1].toNat : Int) == 41) = true := by rw [beq_iff_eq]; omega
      have HQ := HP1 c1
      clear HP1 HP2 HP3 c1
      go_wp2_with (go_at_call 75; refine (hrt _).mono ?_; rintro e w0 ⟨rfl, hb0⟩)
      refine wp_goto ⟨1, [], _, rfl, rfl, rfl, rfl, rfl, hp1, by simp, World.ownsRow_nil _ _ _ _, hb0, .inr ⟨rfl, HQ⟩⟩
    · have c1' : ((s[1].toNat : Int) == 41) = false := by rw [beq_eq_false_iff_ne]; omega
      have HQ := HP2 c1
      have HG := HP3 c1
      clear HP1 HP2 HP3 c1
      go_wp2_with (go_at_call 75; refine (hrt _).mono ?_; rintro e w0 ⟨rfl, hb0⟩)
      rename_i hK
      refine wp_label (hK _ _ (hp.out 1 _ _ _ rfl ⟨1, [], _, rfl, rfl, rfl, rfl, rfl, hp1, by simp, World.ownsRow_nil _ _ _ _, hb0, .inl ⟨rfl, by simp, HG, HQ⟩⟩))
  · rintro l a w1 ⟨p, acc, v, ha1, ha2, ha3, ha4, ha5, hps, hacc, hown, hbl, hl'⟩ hfall
    replace hfall := hidden hfall
    obtain ⟨f, rfl⟩ := frame44 a ha1 ha2
    replace ha3 : f 0 = .string s := ha3
    replace ha4 : f 5 = v := ha4
    replace ha5 : f 7 = .int .i64 (p : Int) := ha5
    rw [ha3, ha4, ha5] at hfall ⊢
    clear ha1 ha2 ha3 ha4 ha5 HP1 HP2 HP3
    have hB : w.heap.size ≤ w1.heap.size := hbl.size
    rcases hl' with ⟨rfl, hac6, hg, hq⟩ | ⟨rfl, hq⟩
    · refine ⟨_, rfl, ?_⟩
      obtain ⟨c, r, h1, h2⟩ := goes_next hg.out
      obtain ⟨q, hq1, hq2, hq3, hq4, hq5, hq6⟩ := param_at h1
      rw [size_len] at hq2
      have hqq := psQ_some h1
      rw [hq5] at hqq
      have he := fun u => endAt s p u hl (by omega)
      rw [hq3] at he
      have hcx : s[q] = c := by
        have := drop_at s q hq2
        rw [hq4] at this
        simp only [List.cons.injEq] at this
        exact this.1.symm
      have hcl := fun u => sClone (s.extract p q) u (by simp; omega)
      have hex : s.extract p q = str ((s.data.toList.drop p).take (q - p)) := extract_str s p q
      rw [hex] at hcl
      have hpq : (p : Int) ≤ (q : Int) := by omega
      have hqs : (q : Int) ≤ (s.size : Int) := by omega
      have hqs' : (q : Int) < (s.size : Int) := by omega
      rcases h2 with ⟨hc, hone⟩ | ⟨hc, hk6, hgo⟩
      · rw [if_neg (by omega)] at hqq
        have HQ : Hid (partsR s.data.toList = (acc ++ [(s.data.toList.drop p).take (q - p)], s.data.toList.drop (q + 1))) := by
          rw [hid_iff, hq.out, hqq, hq6]
        have c1' : ((s[q].toNat : Int) == 44) = false := by rw [beq_eq_false_iff_ne, hcx]; omega
        generalize (s.data.toList.drop p).take (q - p) = x at *
        clear hg hq h1 hq3 hq4 hq5 hq6 hqq hcx hc hone
        go_wp2_with fail
        refine (he _).mono ?_
        rintro e w2 ⟨rfl, hb2⟩
        have ho2 := owns_below hown hb2
        have hb3 : Below w.heap.size w w2 := hbl.trans ⟨hb2.os, hb2.tape, hb2.output, hb2.size, fun k hk => hb2.block k (by omega)⟩
        clear hb2 hbl hown
        go_wp2_with fail
        refine (hcl _).mono ?_
        rintro e w3 ⟨rfl, hb4⟩
        have hB2 : w.heap.size ≤ w2.heap.size := hb3.size
        have ho4 := owns_below ho2 hb4
        have hb5 : Below w.heap.size w w3 := hb3.trans ⟨hb4.os, hb4.tape, hb4.output, hb4.size, fun k hk => hb4.block k (by omega)⟩
        have hB3 : w.heap.size ≤ w3.heap.size := hb5.size
        clear hb3 hb4 ho2
        go_wp2_with (at_builtin; refine append_text rfl (.tmp 24) (.tmp 30) rfl w.heap.size v acc rfl (ho4.alloc _) _ _ x rfl ?src ?len ?hB ?next)
        case src => first | exact cells_new _ _ _ | exact fun j u h => h
        case len => first | omega | (simp; omega)
        case hB => first | omega | (simp; omega)
        case next =>
          intro ad c' w' k1 k2
          have k3 := below_grown (ho4.alloc _) (by simp; omega) (hb5.alloc hB3 _) k2
          clear k2 ho4 hb5
          go_wp2
          rename_i hK
          refine wp_label (hK _ _ (hfall.out 0 _ _ _ rfl ⟨q, acc ++ [x], _, rfl, rfl, rfl, rfl, rfl, hq2, by simp; omega, by simpa using k1, k3, .inr ⟨rfl, HQ⟩⟩ ?_))
          simp [ptM]
      · rw [if_pos hc] at hqq
        have HQ : Hid (partsR s.data.toList = ((acc ++ [(s.data.toList.drop p).take (q - p)]) ++ (psQ (s.data.toList.drop (q + 1))).1, (psQ (s.data.toList.drop (q + 1))).2)) := by
          rw [hid_iff, hq.out, hqq, hq6]; simp
        have HG : Hid (Goes (acc ++ [(s.data.toList.drop p).take (q - p)]).length (s.data.toList.drop (q + 1))) := by
          rw [hid_iff, hq6, List.length_append]; exact hgo
        have hqe : q + 1 < s.size := by
          obtain ⟨c', r', h3, _⟩ := goes_next HG.out
          have := one_len h3
          rw [List.length_drop, size_len] at this
          omega
        have c1' : ((s[q].toNat : Int) == 44) = true := by rw [beq_iff_eq, hcx]; omega
        generalize (s.data.toList.drop p).take (q - p) = x at *
        clear hg hq h1 hq3 hq4 hq5 hq6 hqq hcx hc hgo hfall
        go_wp2_with fail
        refine (he _).mono ?_
        rintro e w2 ⟨rfl, hb2⟩
        have ho2 := owns_below hown hb2
        have hb3 : Below w.heap.size w w2 := hbl.trans ⟨hb2.os, hb2.tape, hb2.output, hb2.size, fun k hk => hb2.block k (by omega)⟩
        clear hb2 hbl hown
        go_wp2_with fail
        refine (hcl _).mono ?_
        rintro e w3 ⟨rfl, hb4⟩
        have hB2 : w.heap.size ≤ w2.heap.size := hb3.size
        have ho4 := owns_below ho2 hb4
        have hb5 : Below w.heap.size w w3 := hb3.trans ⟨hb4.os, hb4.tape, hb4.output, hb4.size, fun k hk => hb4.block k (by omega)⟩
        have hB3 : w.heap.size ≤ w3.heap.size := hb5.size
        clear hb3 hb4 ho2
        go_wp2_with (at_builtin; refine append_text rfl (.tmp 24) (.tmp 30) rfl w.heap.size v acc rfl (ho4.alloc _) _ _ x rfl ?src ?len ?hB ?next)
        case src => first | exact cells_new _ _ _ | exact fun j u h => h
        case len => first | omega | (simp; omega)
        case hB => first | omega | (simp; omega)
        case next =>
          intro ad c' w' k1 k2
          have k3 := below_grown (ho4.alloc _) (by simp; omega) (hb5.alloc hB3 _) k2
          clear k2 ho4 hb5
          go_wp2
          refine wp_goto ⟨⟨q + 1, acc ++ [x], _, rfl, rfl, rfl, rfl, by go_num, hqe, by simp; omega, by simpa using k1, k3, .inl ⟨rfl, by simp; omega, HG, HQ⟩⟩, ?_⟩
          simp [ptM, intOf]
          omega
    · refine ⟨_, rfl, ?_⟩
      have hcl := fun u => sClone (s.extract (p + 1) s.size) u (by have := ext_size s (p + 1); omega)
      have HX : Hid (s.extract (p + 1) s.size = str (s.data.toList.drop (p + 1))) := str_drop s (p + 1)
      have hp2 : (p : Int) + 1 ≤ (s.size : Int) := by omega
      clear hfall
      go_wp2_with fail
      refine (hcl _).mono ?_
      rintro e w2 ⟨rfl, hb2⟩
      have ho2 := owns_below hown hb2
      have hb3 : Below w.heap.size w w2 := hbl.trans ⟨hb2.os, hb2.tape, hb2.output, hb2.size, fun k hk => hb2.block k (by omega)⟩
      go_wp2
      go_ret3
      refine ⟨.inl ⟨HF.out, v, ?_, ?_⟩, hb3⟩
      · rw [hq.out, ← HX.out]; rfl
      · rw [hq.out]; exact strRow_own ho2

set_option maxHeartbeats 1000000 in
set_option maxRecDepth 1000000 in
theorem partsOf (s : ByteArray) (w : World) : Calls Tryz.prog 210 #[.string s] w (PartsE s.data.toList w) := by
  have hrt := right s
  cases h0 : rightR s.data.toList
  · have HF : Hid (isFn s.data.toList = false) := by rw [hid_iff, isFn, h0]; rfl
    rw [h0] at hrt
    clear h0
    go_enter Tryz.func210, Tryz.ntmps210
    go_wp2_with fail
    refine wp_scope_labels (fun _ _ _ => False) (fun _ _ _ => 0) ?_ (fun _ _ _ h => h.elim)
    intro hz
    clear hz
    go_wp2_with (go_at_call 75; refine (hrt _).mono ?_; rintro e w0 ⟨rfl, hb0⟩)
    show bodyPost Tryz.prog Tryz.f210 (PartsE s.data.toList w) Exit.ret _ _
    go_ret3
    exact ⟨.inr ⟨HF.out, rfl⟩, hb0⟩
  · cases h1 : isHead 40 s.data.toList
    · have HF : Hid (isFn s.data.toList = false) := by rw [hid_iff, isFn, h0, h1]; rfl
      have hp0 : 0 < s.size := by have := rightR_pos h0; rw [size_len] at this; exact this
      rw [isHead_at s 40 hp0] at h1
      have c0' : ((s[0].toNat : Int) != 40) = true := by have := of_decide_eq_false h1; simp; omega
      have hpz : (0 : Int) < (s.size : Int) := by omega
      rw [h0] at hrt
      clear h0 h1
      go_enter Tryz.func210, Tryz.ntmps210
      go_wp2_with fail
      refine wp_scope_labels (fun _ _ _ => False) (fun _ _ _ => 0) ?_ (fun _ _ _ h => h.elim)
      intro hz
      clear hz
      go_wp2_with (go_at_call 75; refine (hrt _).mono ?_; rintro e w0 ⟨rfl, hb0⟩)
      show bodyPost Tryz.prog Tryz.f210 (PartsE s.data.toList w) Exit.ret _ _
      go_ret3
      exact ⟨.inr ⟨HF.out, rfl⟩, hb0⟩
    · exact parts_fn s w h0 h1
end Go.Proofs.YtfjppbpicmniaaaGreatDoor

namespace Go.Proofs.YtfjppbpicmniaaaGreatDoor

/-- As many brackets as there are may be too many; nothing else is refused of a tree's tokens. -/
theorem run_or (n : Nat) (t : Tr) : ∀ (x : Tr) (ts : List Tr) (rest : List Tok), Right t → ts.length ≤ 40 → (ts = [] → x.kids = []) → (∃ b, run n (x :: ts) (toks t ++ rest) = .error (14, b)) ∨ run n (x :: ts) (toks t ++ rest) = run n (addKid x t :: ts) rest := by
  induction t using tr_ind with
  | h t ih =>
    intro x ts rest hR hd hx
    rw [Right_eq] at hR
    rcases hR with ⟨k1, ks, kk⟩ | ⟨k1, k2, kk, ke⟩
    · by_cases h40 : ts.length = 40
      · left
        rw [toks_eq, if_pos k1, List.cons_append, run]
        have e : refu (x :: ts) ⟨1, t.place, t.text⟩ = 14 := by simp [refu, h40]
        rw [e]
        exact ⟨_, rfl⟩
      have key : ∀ (ks : List Tr) (y : Tr), (∀ k ∈ ks, k ∈ t.kids) → (∃ b, run n (y :: x :: ts) ((ks.map toks).flatten ++ ([t.shut] ++ rest)) = .error (14, b)) ∨ run n (y :: x :: ts) ((ks.map toks).flatten ++ ([t.shut] ++ rest)) = run n (⟨y.kind, y.place, y.text, y.kids ++ ks, y.shut⟩ :: x :: ts) ([t.shut] ++ rest) := by
        intro ks
        induction ks with
        | nil => intro y _; right; rw [List.map_nil, List.flatten_nil, List.nil_append, List.append_nil]; cases y; rfl
        | cons k ks ihk =>
          intro y hks
          rw [List.map_cons, List.flatten_cons, List.append_assoc]
          rcases ih k (hks k (by simp)) y (x :: ts) ((ks.map toks).flatten ++ ([t.shut] ++ rest)) (kk k (hks k (by simp))) (by simp; omega) (by simp) with h | h
          · exact .inl h
          · rw [h]
            rcases ihk (addKid y k) (fun k' hk' => hks k' (by simp [hk'])) with h | h
            · exact .inl h
            · right
              rw [h]
              simp [addKid]
      rw [toks_eq, if_pos k1, List.cons_append, run, if_pos (refu_mid (fun _ => by omega) hx (fun _ => by simp) (by omega)), List.append_assoc]
      have e : put (x :: ts) ⟨1, t.place, t.text⟩ = leaf ⟨1, t.place, t.text⟩ :: x :: ts := rfl
      rw [e]
      rcases key t.kids (leaf ⟨1, t.place, t.text⟩) (fun _ h => h) with h | h
      · exact .inl h
      · right
        rw [h]
        simp only [List.singleton_append]
        rw [run, if_pos (refu_mid (fun h => by rw [ks] at h; cases h) (by simp) (by simp) (by simp; omega))]
        congr 1
        simp only [put, ks]
        obtain ⟨a, b, c, d', e'⟩ := t
        simp at k1
        simp [shutBy, leaf, k1]
    · right
      rw [toks_eq, if_neg k1]
      simp only [List.singleton_append]
      rw [run, if_pos (refu_mid (fun h => absurd h k1) hx (fun _ => k2) (by omega))]
      congr 1
      simp only [put, k1, k2, if_false]
      obtain ⟨a, b, c, d', e'⟩ := t
      simp only at kk ke
      subst kk
      subst ke
      rfl
theorem runs_or (n : Nat) : ∀ (ks : List Tr) (y x : Tr) (ts : List Tr) (rest : List Tok), (∀ k ∈ ks, Right k) → ts.length ≤ 39 → (∃ b, run n (y :: x :: ts) ((ks.map toks).flatten ++ rest) = .error (14, b)) ∨ run n (y :: x :: ts) ((ks.map toks).flatten ++ rest) = run n (⟨y.kind, y.place, y.text, y.kids ++ ks, y.shut⟩ :: x :: ts) rest
  | [], y, x, ts, rest, _, _ => by right; rw [List.map_nil, List.flatten_nil, List.nil_append, List.append_nil]; cases y; rfl
  | k :: ks, y, x, ts, rest, hk, hl => by
    rw [List.map_cons, List.flatten_cons, List.append_assoc]
    rcases run_or n k y (x :: ts) ((ks.map toks).flatten ++ rest) (hk k (by simp)) (by simp; omega) (by simp) with h | h
    · exact .inl h
    · rw [h]
      rcases runs_or n ks (addKid y k) x ts rest (fun k' hk' => hk k' (by simp [hk'])) hl with h | h
      · exact .inl h
      · right
        rw [h]
        simp [addKid]

/-- A token as parting a text gives them. -/
def GTok (k : Tok) : Prop := (k.kind = 1 ∧ k.text = []) ∨ (k.kind = 2 ∧ k.text = []) ∨ (k.kind = 3 ∧ k.text ≠ [] ∧ ∀ c ∈ k.text, isAtom c = true) ∨ (k.kind = 4 ∧ k.text.length ≤ 200)
theorem GTok.kind {k : Tok} (h : GTok k) : k.kind ≠ 0 := by
  rcases h with h | h | h | h <;> omega
theorem tw_mem (f : UInt8 → Bool) : ∀ (r : List UInt8), ∀ c ∈ r.takeWhile f, f c = true
  | [], c, h => by cases h
  | a :: r, c, h => by
    by_cases ha : f a = true
    · rw [List.takeWhile_cons_of_pos ha] at h
      rcases List.mem_cons.1 h with rfl | h
      · exact ha
      · exact tw_mem f r c h
    · rw [List.takeWhile_cons_of_neg ha] at h
      cases h
theorem sp_good : ∀ (n : Nat) (l : List UInt8) (p : Nat) (acc out : List Tok), l.length ≤ n → (∀ k ∈ acc, GTok k) → sp l p acc = .ok out → ∀ k ∈ out, GTok k := by
  have add : ∀ (acc : List Tok) (t : Tok), (∀ k ∈ acc, GTok k) → GTok t → ∀ k ∈ acc ++ [t], GTok k := by
    intro acc t h1 h2 k hk
    rcases List.mem_append.1 hk with h | h
    · exact h1 k h
    · rw [List.mem_singleton.1 h]; exact h2
  intro n
  induction n with
  | zero =>
    intro l p acc out hn ha h
    have : l = [] := List.eq_nil_of_length_eq_zero (by omega)
    subst this
    rw [sp_nil] at h
    cases h
    exact ha
  | succ n ih =>
    intro l p acc out hn ha h
    cases l with
    | nil =>
      rw [sp_nil] at h
      cases h
      exact ha
    | cons c r =>
      simp only [List.length_cons] at hn
      by_cases c0 : isAtom c = true
      · rw [sp_atom r p acc c0] at h
        refine ih _ _ _ _ (by simp; omega) (add _ _ ha (.inr (.inr (.inl ⟨rfl, by simp, ?_⟩)))) h
        intro x hx
        rcases List.mem_cons.1 hx with rfl | hx
        · exact c0
        · exact tw_mem _ _ _ hx
      by_cases c1 : c.toNat = 34
      · rw [sp_quoted r p acc c1] at h
        split at h
        · cases h
        · rename_i t nx hq
          obtain ⟨_, _, _, n4⟩ := q_next _ _ _ _ _ _ _ (Nat.le_refl _) hq
          exact ih _ _ _ _ (by simp; omega) (add _ _ ha (.inr (.inr (.inr ⟨rfl, n4⟩)))) h
      by_cases c2 : c.toNat = 59
      · rw [sp_remark r p acc c2] at h
        exact ih _ _ _ _ (by simp; omega) ha h
      by_cases c3 : c.toNat = 40
      · rw [sp_open r p acc c3] at h
        exact ih _ _ _ _ (by omega) (add _ _ ha (.inl ⟨rfl, rfl⟩)) h
      by_cases c4 : c.toNat = 41
      · rw [sp_close r p acc c4] at h
        exact ih _ _ _ _ (by omega) (add _ _ ha (.inr (.inl ⟨rfl, rfl⟩))) h
      by_cases c5 : isParts c = true
      · rw [sp_parts r p acc c5] at h
        exact ih _ _ _ _ (by omega) ha h
      rw [sp_bad r p acc (Bool.eq_false_iff.2 c0) c1 c2 c3 c4 (Bool.eq_false_iff.2 c5)] at h
      cases h
theorem split_good {L : List UInt8} {l : List Tok} (h : splitR L = .ok l) : ∀ k ∈ l, GTok k := by
  unfold splitR at h
  split at h
  · cases h
  · exact sp_good _ _ _ _ _ (Nat.le_refl _) (by simp) h
theorem places_text (L : List UInt8) : ∀ (l : List Tok) (a : Nat), places L l a → ∀ k ∈ l, k.kind = 3 → k.text.length ≤ L.length
  | [], _, _, k, hk, _ => by cases hk
  | t :: r, a, ⟨h1, h2, h3⟩, k, hk, k3 => by
    rcases List.mem_cons.1 hk with rfl | hk
    · rcases h3 with h | h | h | h
      · omega
      · omega
      · have := h.2.2.2.1; omega
      · omega
    · rcases h3 with h | h | h | h
      · exact places_text L r _ h.2.2 k hk k3
      · exact places_text L r _ h.2.2 k hk k3
      · exact places_text L r _ h.2.2.2.2 k hk k3
      · exact places_text L r _ h.2.2 k hk k3
/-- What parting a text gives: not many tokens, none long. -/
theorem split_size {L : List UInt8} {l : List Tok} (h : splitR L = .ok l) : l.length ≤ 8192 ∧ ∀ k ∈ l, k.text.length ≤ 8192 := by
  obtain ⟨h1, h2⟩ := split_places L l h
  have h3 := places_length L l 0 h1
  refine ⟨by omega, fun k hk => ?_⟩
  rcases split_good h k hk with g | g | g | g
  · rw [g.2]; simp
  · rw [g.2]; simp
  · have := places_text L l 0 h1 k hk g.1
    omega
  · omega

/-- What comes behind ends an Atom. -/
def Ends (Y : List UInt8) : Prop := ∀ c r, Y = c :: r → isAtom c = false
theorem tw_ends {x Y : List UInt8} (hx : ∀ c ∈ x, isAtom c = true) (hY : Ends Y) : (x ++ Y).takeWhile isAtom = x := by
  cases Y with
  | nil => rw [List.append_nil]; exact tw_all _ _ hx
  | cons c r => rw [tw_tail isAtom c r (hY c r rfl)]; exact tw_all _ _ hx
theorem sp_print (t : Tr) : Right t → (∀ k ∈ toks t, GTok k) → ∀ (Y : List UInt8) (p : Nat) (acc : List Tok), Ends Y →
    ∃ t' : Tr, strip t = strip t' ∧ Right t' ∧ sp (pr t ++ Y) p acc = sp Y (p + (pr t).length) (acc ++ toks t') := by
  induction t using tr_ind with
  | h t ih =>
    intro hR hG Y p acc hY
    rw [Right_eq] at hR
    rcases hR with ⟨k1, ks, kk⟩ | ⟨k1, k2, kk, ke⟩
    · rw [toks_eq, if_pos k1] at hG
      have hx : t.text = [] := by
        rcases hG ⟨1, t.place, t.text⟩ (by simp) with g | g | g | g
        · exact g.2
        · exact g.2
        · cases g.1
        · cases g.1
      have key : ∀ (ks : List Tr) (b : Bool) (p : Nat) (acc : List Tok) (Y : List UInt8), Ends Y → (∀ k ∈ ks, k ∈ t.kids) → ∃ ks' : List Tr, ks.map strip = ks'.map strip ∧ (∀ k ∈ ks', Right k) ∧ sp (seps b (ks.map pr) ++ Y) p acc = sp Y (p + (seps b (ks.map pr)).length) (acc ++ (ks'.map toks).flatten) := by
        intro ks
        induction ks with
        | nil => intro b p acc Y _ _; exact ⟨[], rfl, by simp, by simp [seps]⟩
        | cons k ks ihk =>
          intro b p acc Y hY hks
          have hkt := hks k (by simp)
          have hE : Ends (seps true (ks.map pr) ++ Y) := by
            cases ks with
            | nil => exact hY
            | cons k2 ks =>
              intro c r h
              simp [seps] at h
              rw [← h.1]
              decide
          have hGk : ∀ j ∈ toks k, GTok j := fun j hj => hG j (by
            simp only [List.mem_cons, List.mem_append, List.mem_flatten, List.mem_map]
            exact .inr (.inl ⟨toks k, ⟨k, hkt, rfl⟩, hj⟩))
          obtain ⟨k', e1, e2, e3⟩ := ih k hkt (kk k hkt) hGk (seps true (ks.map pr) ++ Y) (p + (if b then [32] else [] : List UInt8).length) acc hE
          obtain ⟨ks', f1, f2, f3⟩ := ihk true (p + (if b then [32] else [] : List UInt8).length + (pr k).length) (acc ++ toks k') Y hY (fun j hj => hks j (by simp [hj]))
          refine ⟨k' :: ks', by simp [e1, f1], ?_, ?_⟩
          · intro j hj
            rcases List.mem_cons.1 hj with rfl | hj
            · exact e2
            · exact f2 j hj
          · have e4 : seps b ((k :: ks).map pr) ++ Y = (if b then [32] else [] : List UInt8) ++ (pr k ++ (seps true (ks.map pr) ++ Y)) := by simp [seps]
            rw [e4, sp_blanks _ _ _ _ (by cases b <;> simp [isParts]), e3, f3]
            congr 1
            · simp [seps]; omega
            · simp
      obtain ⟨ks', f1, f2, f3⟩ := key t.kids false (p + 1) (acc ++ [⟨1, p, []⟩]) (41 :: Y) (by intro c r h; cases h; decide) (fun _ h => h)
      refine ⟨⟨1, p, [], ks', ⟨2, p + 1 + (seps false (t.kids.map pr)).length, []⟩⟩, ?_, ?_, ?_⟩
      · rw [strip_eq t, strip_eq, k1, hx, f1]
      · rw [Right_eq]
        exact .inl ⟨rfl, rfl, f2⟩
      · have e : pr t = 40 :: (seps false (t.kids.map pr) ++ [41]) := by rw [pr_eq, if_neg (by omega), if_neg (by omega), if_pos k1]
        rw [e, List.cons_append, sp_open _ _ _ rfl, List.append_assoc, List.singleton_append, f3, sp_close _ _ _ rfl, toks_eq, if_pos rfl]
        congr 1
        · simp; omega
        · simp
    · rw [toks_eq, if_neg k1] at hG
      have g := hG ⟨t.kind, t.place, t.text⟩ (by simp)
      rcases g with g | g | g | g
      · exact absurd g.1 k1
      · exact absurd g.1 k2
      · obtain ⟨g1, g2, g3⟩ := g
        simp only at g1 g2 g3
        have e : pr t = t.text := by rw [pr_eq, if_pos g1]
        refine ⟨⟨3, p, t.text, [], ⟨3, p, t.text⟩⟩, ?_, ?_, ?_⟩
        · rw [strip_eq t, strip_eq, g1, kk]
        · rw [Right_eq]
          exact .inr ⟨by simp, by simp, rfl, rfl⟩
        · rw [e, toks_eq, if_neg (by simp)]
          cases hx : t.text with
          | nil => exact absurd hx g2
          | cons c r =>
            rw [hx] at g3
            have tw : (r ++ Y).takeWhile isAtom = r := tw_ends (fun c hc => g3 c (by simp [hc])) hY
            rw [List.cons_append, sp_atom _ _ _ (g3 c (by simp)), tw, List.drop_left]
            congr 1
            simp; omega
      · obtain ⟨g1, g2⟩ := g
        simp only at g1 g2
        have e : pr t = quoteR t.text := by rw [pr_eq, if_neg (by omega), if_pos g1]
        refine ⟨⟨4, p, t.text, [], ⟨4, p, t.text⟩⟩, ?_, ?_, ?_⟩
        · rw [strip_eq t, strip_eq, g1, kk]
        · rw [Right_eq]
          exact .inr ⟨by simp, by simp, rfl, rfl⟩
        · rw [e, toks_eq, if_neg (by simp), sp_quote _ _ _ _ g2]
theorem prints_or (ks : List Tr) : ∀ (p : Nat) (acc : List Tok) (Y : List UInt8), Ends Y → (∀ k ∈ ks, Right k ∧ ∀ j ∈ toks k, GTok j) → ∃ ks' : List Tr, ks.map strip = ks'.map strip ∧ (∀ k ∈ ks', Right k) ∧ sp (seps true (ks.map pr) ++ Y) p acc = sp Y (p + (seps true (ks.map pr)).length) (acc ++ (ks'.map toks).flatten) := by
  induction ks with
  | nil => intro p acc Y _ _; exact ⟨[], rfl, by simp, by simp [seps]⟩
  | cons k ks ihk =>
    intro p acc Y hY hks
    have hE : Ends (seps true (ks.map pr) ++ Y) := by
      cases ks with
      | nil => exact hY
      | cons k2 ks =>
        intro c r h
        simp [seps] at h
        rw [← h.1]
        decide
    obtain ⟨k', e1, e2, e3⟩ := sp_print k (hks k (by simp)).1 (hks k (by simp)).2 (seps true (ks.map pr) ++ Y) (p + 1) acc hE
    obtain ⟨ks', f1, f2, f3⟩ := ihk (p + 1 + (pr k).length) (acc ++ toks k') Y hY (fun j hj => hks j (by simp [hj]))
    refine ⟨k' :: ks', by simp [e1, f1], ?_, ?_⟩
    · intro j hj
      rcases List.mem_cons.1 hj with rfl | hj
      · exact e2
      · exact f2 j hj
    · have e4 : seps true ((k :: ks).map pr) ++ Y = 32 :: (pr k ++ (seps true (ks.map pr) ++ Y)) := by simp [seps]
      rw [e4, sp_parts _ _ _ (by decide), e3, f3]
      congr 1
      · simp [seps]; omega
      · simp

/-- How long a print is. -/
def cost (l : List Tok) : Nat := (l.map fun k => 4 * k.text.length + 3).sum
theorem quoteR_length (b : List UInt8) : (quoteR b).length ≤ 4 * b.length + 2 ∧ b.length ≤ (quoteR b).length := by
  have h := quote_length b
  have h2 : b.length ≤ (b.flatMap qByte).length := by
    clear h
    induction b with
    | nil => simp
    | cons c r ih =>
      have : 1 ≤ (qByte c).length := by
        unfold qByte
        split
        · simp
        · split
          · simp
          · split <;> simp
      rw [List.flatMap_cons, List.length_append, List.length_cons]
      omega
  simp only [quoteR, List.length_cons, List.length_append, List.length_nil]
  omega
theorem pr_cost (t : Tr) : (pr t).length + 1 ≤ cost (toks t) := by
  induction t using tr_ind with
  | h t ih =>
    have key : ∀ (ks : List Tr) (b : Bool), (∀ k ∈ ks, (pr k).length + 1 ≤ cost (toks k)) → (seps b (ks.map pr)).length ≤ cost ((ks.map toks).flatten) := by
      intro ks
      induction ks with
      | nil => intro b _; simp [seps]
      | cons k ks ihk =>
        intro b h
        have h1 := h k (by simp)
        have h2 := ihk true (fun j hj => h j (by simp [hj]))
        have e : cost (((k :: ks).map toks).flatten) = cost (toks k) + cost ((ks.map toks).flatten) := by simp [cost]
        rw [e]
        cases b <;> simp [seps] <;> omega
    rw [pr_eq, toks_eq]
    by_cases k1 : t.kind = 1
    · have h := key t.kids false ih
      simp only [k1, if_true]
      rw [if_neg (by decide), if_neg (by decide)]
      simp only [cost, List.map_cons, List.sum_cons, List.map_append, List.sum_append, List.length_cons, List.length_append, List.length_nil, List.map_nil, List.sum_nil] at h ⊢
      omega
    · rw [if_neg k1, if_neg k1]
      have e : cost [⟨t.kind, t.place, t.text⟩] = 4 * t.text.length + 3 := by simp [cost]
      rw [e]
      have := (quoteR_length t.text).1
      split
      · omega
      · split
        · omega
        · simp
theorem cost_le (M : Nat) : ∀ (l : List Tok), (∀ k ∈ l, k.text.length ≤ M) → cost l ≤ l.length * (4 * M + 3)
  | [], _ => by simp [cost]
  | k :: l, h => by
    have h1 := h k (by simp)
    have h2 := cost_le M l (fun j hj => h j (by simp [hj]))
    have e : cost (k :: l) = 4 * k.text.length + 3 + cost l := by simp [cost]
    rw [e, List.length_cons, Nat.add_mul, Nat.one_mul]
    omega
/-- What is read: its tokens, and how long its print is. -/
theorem parse_ok {L : List UInt8} {t : Tr} (h : parseR L = .ok t) : Right t ∧ splitR L = .ok (toks t) ∧ (∀ k ∈ toks t, GTok k) ∧ (pr t).length ≤ 300000000 := by
  unfold parseR at h
  cases hs : splitR L with
  | error e => rw [hs] at h; cases h
  | ok l =>
    rw [hs] at h
    simp only at h
    split at h
    · cases h
    · obtain ⟨h1, h2⟩ := run_toks _ l [root] t stk_root (fun k hk => (split_good hs k hk).kind) h
      rw [took_root, List.nil_append] at h2
      obtain ⟨h3, h4⟩ := split_size hs
      have h5 := pr_cost t
      have h6 := cost_le 8192 l h4
      have h7 : l.length * (4 * 8192 + 3) ≤ 8192 * (4 * 8192 + 3) := Nat.mul_le_mul_right _ h3
      rw [h2] at h5 ⊢
      exact ⟨h1, rfl, split_good hs, by omega⟩
theorem fit_strip : ∀ (d : Nat) (t u : Tr), strip t = strip u → Fit d t → Fit d u
  | 0, t, u, h, f => by
    rw [Fit] at f ⊢
    rw [← (strip_parts h).1]
    exact f
  | d + 1, t, u, h, f => by
    obtain ⟨h1, _, h3⟩ := strip_parts h
    obtain ⟨h4, h5⟩ := map_strip_get h3
    rw [Fit] at f ⊢
    intro k1 k hk
    obtain ⟨i, hi, rfl⟩ := List.getElem_of_mem hk
    exact fit_strip d _ _ (h5 i (by omega) hi) (f (by omega) _ (List.getElem_mem _))
/-- A tree that is printed is read as itself, but for places. -/
theorem parse_print {t : Tr} {d : Nat} (hR : Right t) (hG : ∀ k ∈ toks t, GTok k) (hF : Fit d t) (hd : d ≤ 40) (hl : (pr t).length ≤ 8192) : ∃ t', parseR (pr t) = .ok t' ∧ strip t = strip t' := by
  obtain ⟨t', h1, h2, h3⟩ := sp_print t hR hG [] 0 [] (by intro c r h; cases h)
  rw [List.append_nil, sp_nil] at h3
  refine ⟨t', ?_, h1⟩
  have hne : toks t' ≠ [] := by rw [toks_eq]; split <;> simp
  unfold parseR splitR
  rw [if_neg (by omega), h3]
  simp only [List.nil_append, hne, if_false]
  have := run_fit (pr t).length t' d root [] [] h2 (fit_strip d _ _ h1 hF) (by simp; omega) (fun _ => rfl)
  rw [List.append_nil] at this
  rw [this]
  simp [run, addKid, root]
/-- Trees within brackets are the Kids. -/
theorem parse_kids {ks : List Tr} (hk : ∀ k ∈ ks, Right k ∧ ∀ j ∈ toks k, GTok j) (hl : (seps true (ks.map pr)).length + 2 ≤ 8192) :
    (∃ b, parseR (40 :: (seps true (ks.map pr) ++ [41])) = .error (14, b)) ∨ ∃ t, parseR (40 :: (seps true (ks.map pr) ++ [41])) = .ok t ∧ t.kind = 1 ∧ t.kids.map strip = ks.map strip := by
  obtain ⟨ks', f1, f2, f3⟩ := prints_or ks 1 [⟨1, 0, []⟩] [41] (by intro c r h; cases h; decide) hk
  have e : splitR (40 :: (seps true (ks.map pr) ++ [41])) = .ok ([⟨1, 0, []⟩] ++ ((ks'.map toks).flatten ++ [⟨2, 1 + (seps true (ks.map pr)).length, []⟩])) := by
    unfold splitR
    rw [if_neg (by simp; omega), sp_open _ _ _ rfl]
    simp only [List.nil_append, Nat.zero_add]
    rw [f3, sp_close _ _ _ rfl, sp_nil]
    simp
  unfold parseR
  rw [e]
  simp only [List.cons_append, List.nil_append, reduceCtorEq, if_false]
  generalize (40 :: (seps true (ks.map pr) ++ [41])).length = n
  rw [run, if_pos (by rfl)]
  have e2 : put [root] ⟨1, 0, []⟩ = [leaf ⟨1, 0, []⟩, root] := rfl
  rw [e2]
  rcases runs_or n ks' (leaf ⟨1, 0, []⟩) root [] [⟨2, 1 + (seps true (ks.map pr)).length, []⟩] f2 (by simp) with h | h
  · exact .inl h
  · right
    rw [h]
    refine ⟨⟨1, 0, [], ks', ⟨2, 1 + (seps true (ks.map pr)).length, []⟩⟩, ?_, rfl, f1.symm⟩
    simp [run, refu, put, leaf, shutBy, addKid, root]
end Go.Proofs.YtfjppbpicmniaaaGreatDoor
