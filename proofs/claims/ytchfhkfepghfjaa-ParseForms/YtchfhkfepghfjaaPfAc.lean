/-
  Appends of bytes and of tokens to a row of the call's own; a row of bytes as a string.
  And: The package's readQuoted: its walk, from label to label. The package's Split: its walk, from label to label. Nothing more.
-/
import Derived.OwnWalk
import Derived.Laws.OwnMore
import Derived.Laws.BytesString
import Derived.WalkSmall
import Derived.Test.YtchfhkfepghfjaaPfAb
import Derived.Test.YtchfhkfepghfjaaPfAa
namespace Go.Proofs.Ytchfhkfepghfjaa
open Go.RowKit

theorem infoB : (Try.prog.info? 5).map (fun i => (i.zero.map (fun z => z.cells.size), i.size, i.bytes)) = some (some 1, 1, 1) := by kernel_rfl
theorem infoT : (Try.prog.info? 45).map (fun i => (i.zero.map (fun z => z.cells.size), i.size, i.bytes)) = some (some 3, 3, 32) := by kernel_rfl
theorem info_z {P : Program} {e : TypeId} {n size bytes : Nat} (h : (P.info? e).map (fun i => (i.zero.map (fun z => z.cells.size), i.size, i.bytes)) = some (some n, size, bytes)) :
    ∃ i z, P.info? e = some i ∧ i.zero = some z ∧ i.size = size ∧ i.bytes = bytes ∧ z.cells.size = n := by
  obtain ⟨i, hi, hzz⟩ := Option.map_eq_some_iff.1 h
  simp only [Prod.mk.injEq] at hzz
  obtain ⟨z, hz, hn⟩ := Option.map_eq_some_iff.1 hzz.1
  exact ⟨i, z, hi, hz, hzz.2.1, hzz.2.2, hn⟩

theorem add_at (g j : Nat) : (⟨g, 0, none⟩ : Addr).add j = ⟨g, j, none⟩ := by
  unfold Addr.add
  split
  · rename_i h
    subst h
    rfl
  · simp
theorem cells_new (w : World) (xs : List Value) (t : TypeId) : ∀ j u, xs[j]? = some u → (w.alloc (.cells xs.toArray t)).cell? ((⟨w.heap.size, 0, none⟩ : Addr).add j) = some u := by
  intro j u hj
  rw [add_at]
  simpa using hj

theorem tc_one (t : Tok) : ∀ u ∈ tc t, u.oneCell' = true := by
  intro u hu
  simp only [tc, List.mem_cons, List.not_mem_nil, or_false] at hu
  rcases hu with rfl | rfl | rfl <;> rfl

/-- append of bytes onto a row of the call's own. -/
theorem append_bytes {w : World} {ops : Array Oper} {rest : List Oper} {o : Oper} {a : Act} {Q : Exit → Act → World → Prop} (hgd : o.guard = none) (s x : Operand)
    (ho : o.op = .call { callee := .builtin .append, args := #[s, x], argTypes := #[76, 76] })
    (B : Nat) (v : Value) (acc : List UInt8) (hs : a.eval s = v) (hown : w.ownsRow B 5 1 v acc.length (bc acc))
    (ad : Addr) (c : Nat) (news : List UInt8) (hne : news ≠ []) (hx : a.eval x = .slice (some ad) news.length c) (hnews : ∀ j u, (bc news)[j]? = some u → w.cell? (ad.add j) = some u)
    (hlen : acc.length + news.length ≤ 140737488355328) (hB : B ≤ w.heap.size)
    (h : ∀ ad' c' w', w'.ownsRow B 5 1 (.slice (some ad') (acc ++ news).length c') (acc ++ news).length (bc (acc ++ news)) → w.grownBy w' v.ownBlock → wpList Try.prog ops Q rest (a.put o.dst (.slice (some ad') (acc ++ news).length c')) w') :
    wpList Try.prog ops Q (o :: rest) a w := by
  obtain ⟨i, z, hi, hz, h1, h2, h3⟩ := info_z infoB
  refine wpList_append_own w hgd s x 76 ho B 5 i z 1 1 Try.underlying76 hi hz h1 h2 h3 (by decide) v acc.length (bc acc) hs hown ad news.length c (bc news) hx (by rw [bc_length, Nat.mul_one]) hnews (bc_one _) (by unfold maxLen; omega) (by omega) hB ?_
  intro v' w' k1 k2 k3
  rcases k1.2 with ⟨rfl, hz⟩ | ⟨g, cap, cur, rfl, _⟩
  · exact absurd (by omega : news.length = 0) (fun e => hne (List.eq_nil_of_length_eq_zero e))
  · rw [← bc_append] at k1
    rw [← List.length_append] at k1
    have := h ⟨g, 0, none⟩ cap w' k1 k2
    rw [List.length_append] at this
    exact this
/-- append of one token onto a row of the call's own. -/
theorem append_tok {w : World} {ops : Array Oper} {rest : List Oper} {o : Oper} {a : Act} {Q : Exit → Act → World → Prop} (hgd : o.guard = none) (s x : Operand)
    (ho : o.op = .call { callee := .builtin .append, args := #[s, x], argTypes := #[41, 41] })
    (B : Nat) (v : Value) (acc : List Tok) (hs : a.eval s = v) (hown : w.ownsRow B 45 3 v acc.length (tcs acc))
    (ad : Addr) (c : Nat) (t : Tok) (hx : a.eval x = .slice (some ad) 1 c) (hnews : ∀ j u, (tc t)[j]? = some u → w.cell? (ad.add j) = some u)
    (hlen : acc.length + 1 ≤ 8193) (hB : B ≤ w.heap.size)
    (h : ∀ ad' c' w', w'.ownsRow B 45 3 (.slice (some ad') (acc ++ [t]).length c') (acc ++ [t]).length (tcs (acc ++ [t])) → w.grownBy w' v.ownBlock → wpList Try.prog ops Q rest (a.put o.dst (.slice (some ad') (acc.length + 1) c')) w') :
    wpList Try.prog ops Q (o :: rest) a w := by
  obtain ⟨i, z, hi, hz, h1, h2, h3⟩ := info_z infoT
  refine wpList_append_own w hgd s x 41 ho B 45 i z 3 32 Try.underlying41 hi hz h1 h2 h3 (by decide) v acc.length (tcs acc) hs hown ad 1 c (tc t) hx rfl hnews (tc_one _) (by unfold maxLen; omega) (by omega) hB ?_
  intro v' w' k1 k2 k3
  rcases k1.2 with ⟨rfl, hz⟩ | ⟨g, cap, cur, rfl, _⟩
  · omega
  · rw [← tcs_one t, ← tcs_append] at k1
    exact h ⟨g, 0, none⟩ cap w' (by simpa using k1) k2
theorem str_push (l : List UInt8) : ∀ (s : ByteArray), (l.map fun c => (c.toNat : Int)).foldl (fun r n => r.push (UInt8.ofNat n.toNat)) s = ⟨s.data ++ l.toArray⟩ := by
  induction l with
  | nil => intro s; simp
  | cons a r ih =>
    intro s
    rw [List.map_cons, List.foldl_cons, ih]
    congr 1
    apply Array.ext'
    simp [ByteArray.push]
theorem bc_map (l : List UInt8) : bc l = (l.map fun c => (c.toNat : Int)).map (Value.int .u8) := by simp [bc]
/-- A row of bytes as a string. -/
theorem bytes_string {w : World} {a : Addr} {n cap : Nat} {l : List UInt8} (hn : n = l.length) (h : ∀ j u, (bc l)[j]? = some u → w.cell? (a.add j) = some u) : (convert 76 9 (.slice (some a) n cap)).run Try.prog w = .ok (.string (str l)) w := by
  subst hn
  rw [run_convert_bytes_string w 76 9 5 _ _ _ Try.underlying76 Try.underlying5 Try.underlying9]
  have e : str l = (l.map fun c => (c.toNat : Int)).foldl (fun r n => r.push (UInt8.ofNat n.toNat)) ByteArray.empty := by
    rw [str_push]; simp [str]
  rw [e]
  refine run_bytesToString w a l.length cap (l.map fun c => (c.toNat : Int)) ?_
  have := run_loadCells_list (P := Try.prog) w a (bc l) h
  rw [bc_length] at this
  rw [this, bc_map]
theorem nil_string (w : World) : (convert 76 9 (.slice none 0 0)).run Try.prog w = .ok (.string (str [])) w := by
  rw [run_convert_bytes_string w 76 9 5 _ _ _ Try.underlying76 Try.underlying5 Try.underlying9]
  simp [Conv.bytesToString, str]
  rfl
/-- The slice of a row of the call's own. -/
theorem owns_shape {w : World} {B e size n : Nat} {v : Value} {xs : List Value} (h : w.ownsRow B e size v n xs) : (v = .slice none 0 0 ∧ n = 0) ∨ ∃ g cap, v = .slice (some ⟨g, 0, none⟩) n cap ∧ B ≤ g ∧ g < w.heap.size ∧ ∀ j u, xs[j]? = some u → w.cell? ((⟨g, 0, none⟩ : Addr).add j) = some u := by
  rcases h.2 with ⟨rfl, hn⟩ | ⟨g, cap, cur, rfl, hb, hg, _⟩
  · exact .inl ⟨rfl, hn⟩
  · refine .inr ⟨g, cap, rfl, hb, (Array.getElem?_eq_some_iff.1 hg).1, fun j u hj => ?_⟩
    have hlt : j < n * size := by rw [← h.1]; exact (List.getElem?_eq_some_iff.1 hj).1
    have := h.cellAt j hlt
    rw [hj] at this
    rw [add_at]
    exact this
theorem owns_string {w : World} {B : Nat} {v : Value} {l : List UInt8} (h : w.ownsRow B 5 1 v l.length (bc l)) : (convert 76 9 v).run Try.prog w = .ok (.string (str l)) w := by
  rcases owns_shape h with ⟨rfl, hn⟩ | ⟨g, cap, rfl, _, _, hc⟩
  · rw [List.eq_nil_of_length_eq_zero hn]
    exact nil_string w
  · exact bytes_string rfl hc
end Go.Proofs.Ytchfhkfepghfjaa

namespace Go.Proofs.Ytchfhkfepghfjaa
open Go.RowKit

/-- What reading a Quoted answers. -/
def QE (r : QR) (w : World) (e : Ending) (w' : World) : Prop :=
  (match r with
  | .ok (t, nx) => e = .returned (.tuple #[.string (str t), .int .i64 0, .int .i64 (nx : Int)])
  | .error (y, b) => e = .returned (.tuple #[.string (str []), .int .i64 (y : Int), .int .i64 (b : Int)])) ∧ Below w.heap.size w w'

/-- What holds at each label of readQuoted. -/
def rqJ (s : ByteArray) (fr : Nat) (w0 : World) (l : Nat) (a : Act) (w : World) : Prop :=
  ∃ (p : Nat) (acc : List UInt8) (v : Value) (u2 u3 u4 u5 u6 u8 u9 u11 u12 u13 u14 u15 u16 u17 u18 u19 u20 u21 u22 u23 u24 u25 u26 u27 u28 u29 u30 u31 u32 u33 u34 u35 u36 u37 u38 u39 u40 u41 u42 u43 u44 u45 u46 u47 u48 u49 u50 u51 u52 u53 u54 u55 u56 u57 u58 u59 u60 u61 u62 u63 u64 u65 u66 u67 u68 : Value), a = { tmps := #[.string s, .int .i64 (fr : Int), u2, u3, u4, u5, u6, v, u8, u9, .int .i64 (p : Int), u11, u12, u13, u14, u15, u16, u17, u18, u19, u20, u21, u22, u23, u24, u25, u26, u27, u28, u29, u30, u31, u32, u33, u34, u35, u36, u37, u38, u39, u40, u41, u42, u43, u44, u45, u46, u47, u48, u49, u50, u51, u52, u53, u54, u55, u56, u57, u58, u59, u60, u61, u62, u63, u64, u65, u66, u67, u68], defers := [] } ∧
    fr < p ∧ p ≤ s.size ∧ acc.length ≤ p ∧ Hid (q (s.data.toList.drop p) p fr acc = q (s.data.toList.drop (fr + 1)) (fr + 1) fr []) ∧ w.ownsRow w0.heap.size 5 1 v acc.length (bc acc) ∧ Below w0.heap.size w0 w ∧
    (l = 2 ∨ (l = 1 ∧ ∃ h : p < s.size, s[p].toNat = 92) ∨ (l = 0 ∧ ∃ h : p < s.size, s[p].toNat = 34))
def rqM (s : ByteArray) (l : Nat) (a : Act) (_ : World) : Nat :=
  match l with
  | 2 => 2 * (s.size - (intOf (a.tmps.getD 10 undef)).toNat) + 1
  | 1 => 2 * (s.size - (intOf (a.tmps.getD 10 undef)).toNat)
  | _ => 0

theorem hidden {p : Prop} (h : p) : Hid p := h
theorem qe_no {r : QR} {w w' : World} {y b : Nat} {z x : Int} {t : ByteArray} (h : r = .error (y, b)) (hz : z = (y : Int)) (hx : x = (b : Int)) (ht : t = str []) (hb : Below w.heap.size w w') : QE r w (.returned (.tuple #[.string t, .int .i64 z, .int .i64 x])) w' := by
  subst h hz hx ht
  exact ⟨rfl, hb⟩
theorem qe_ok {r : QR} {w w' : World} {l : List UInt8} {nx : Nat} {x : Int} {t : ByteArray} (h : r = .ok (l, nx)) (hx : x = (nx : Int)) (ht : t = str l) (hb : Below w.heap.size w w') : QE r w (.returned (.tuple #[.string t, .int .i64 0, .int .i64 x])) w' := by
  subst h hx ht
  exact ⟨rfl, hb⟩

set_option maxHeartbeats 1600000 in
set_option maxRecDepth 1000000 in
theorem readQuoted (s : ByteArray) (fr : Nat) (w : World) (hs : s.size ≤ 8192) (hfr : fr < s.size) :
    Calls Try.prog 17 #[.string s, .int .i64 (fr : Int)] w (QE (q (s.data.toList.drop (fr + 1)) (fr + 1) fr []) w) := by
  go_enter Try.func17, Try.ntmps17
  go_wp2
  refine wp_scope_labels (rqJ s fr w) (rqM s) ?_ ?_
  · intro hp
    replace hp := hidden hp
    refine wp_seq ?_
    go_wp2
    rename_i hK
    refine wp_label (hK _ _ (hp.out 2 _ _ _ rfl ⟨fr + 1, [], _, _, _, _, _, _, _, _, _, _, _, _, _, _, _, _, _, _, _, _, _, _, _, _, _, _, _, _, _, _, _, _, _, _, _, _, _, _, _, _, _, _, _, _, _, _, _, _, _, _, _, _, _, _, _, _, _, _, _, _, _, _, _, _, _, _, by go_num, by omega, by omega, by simp, rfl, World.ownsRow_nil _ _ _ _, Below.refl _ _, .inl rfl⟩))
  · rintro l a w1 ⟨p, acc, v, u2, u3, u4, u5, u6, u8, u9, u11, u12, u13, u14, u15, u16, u17, u18, u19, u20, u21, u22, u23, u24, u25, u26, u27, u28, u29, u30, u31, u32, u33, u34, u35, u36, u37, u38, u39, u40, u41, u42, u43, u44, u45, u46, u47, u48, u49, u50, u51, u52, u53, u54, u55, u56, u57, u58, u59, u60, u61, u62, u63, u64, u65, u66, u67, u68, rfl, hp1, hp2, hacc, hq, hown, hbl, hl⟩
    have hB : w.heap.size ≤ w1.heap.size := hbl.size
    rcases hl with rfl | ⟨rfl, hp, hc⟩ | ⟨rfl, hp, hc⟩
    · refine ⟨_, rfl, ?_⟩
      by_cases hp : p < s.size
      · by_cases c1 : s[p].toNat = 34
        · have c1' : ((s[p].toNat : Int) == 34) = true := by rw [beq_iff_eq]; omega
          have C1 : Hid (s[p].toNat = 34) := c1
          clear c1
          go_wp2
          refine wp_goto ⟨⟨p, acc, v, _, _, _, _, _, _, _, _, _, _, _, _, _, _, _, _, _, _, _, _, _, _, _, _, _, _, _, _, _, _, _, _, _, _, _, _, _, _, _, _, _, _, _, _, _, _, _, _, _, _, _, _, _, _, _, _, _, _, _, _, _, _, _, _, _, rfl, hp1, hp2, hacc, hq, hown, hbl, .inr (.inr ⟨rfl, hp, C1.out⟩)⟩, ?_⟩
          exact Nat.succ_pos _
        · have c1' : ((s[p].toNat : Int) == 34) = false := by rw [beq_eq_false_iff_ne]; omega
          by_cases c2 : s[p].toNat = 92
          · have c2' : ((s[p].toNat : Int) == 92) = true := by rw [beq_iff_eq]; omega
            have C2 : Hid (s[p].toNat = 92) := c2
            clear c1 c2
            go_wp2
            refine wp_goto ⟨⟨p, acc, v, _, _, _, _, _, _, _, _, _, _, _, _, _, _, _, _, _, _, _, _, _, _, _, _, _, _, _, _, _, _, _, _, _, _, _, _, _, _, _, _, _, _, _, _, _, _, _, _, _, _, _, _, _, _, _, _, _, _, _, _, _, _, _, _, _, rfl, hp1, hp2, hacc, hq, hown, hbl, .inr (.inl ⟨rfl, hp, C2.out⟩)⟩, ?_⟩
            exact Nat.lt_succ_self _
          · have c2' : ((s[p].toNat : Int) == 92) = false := by rw [beq_eq_false_iff_ne]; omega
            have hpl := plain s[p]
            rcases (by cases isPlain s[p] <;> simp : isPlain s[p] = false ∨ isPlain s[p] = true) with c3 | c3
            · have HR : Hid (q (s.data.toList.drop (fr + 1)) (fr + 1) fr [] = .error (12, p)) := by
                rw [← hq.out, drop_at s p hp]
                exact q_bad _ _ _ _ c1 c2 c3
              rw [c3] at hpl
              clear c1 c2 c3 hq
              go_wp2_with fail
              refine (hpl _).mono ?_
              rintro e w2 ⟨rfl, rfl⟩
              go_wp2
              go_ret3
              exact qe_no HR.out rfl rfl rfl hbl
            · have HR : Hid (q (s.data.toList.drop (p + 1)) (p + 1) fr (acc ++ [s[p]]) = q (s.data.toList.drop (fr + 1)) (fr + 1) fr []) := by
                rw [← hq.out, drop_at s p hp]
                exact (q_plain _ _ _ _ c1 c2 c3).symm
              rw [c3] at hpl
              clear c1 c2 c3 hq
              go_wp2_with fail
              refine (hpl _).mono ?_
              rintro e w2 ⟨rfl, rfl⟩
              go_wp2_with (at_builtin; refine append_bytes rfl (.tmp 36) (.tmp 40) rfl w.heap.size v acc rfl (hown.alloc _) _ _ [s[p]] (by simp) rfl ?src ?len ?hB ?next)
              case src => exact cells_new _ _ _
              case len => simp; omega
              case hB => simp; omega
              case next =>
                intro ad c' w' k1 k2
                have k3 := below_grown (hown.alloc _) (by simp; omega) (hbl.alloc hB _) k2
                clear k2 hown hbl
                go_wp2
                refine wp_goto ⟨⟨p + 1, acc ++ [s[p]], _, _, _, _, _, _, _, _, _, _, _, _, _, _, _, _, _, _, _, _, _, _, _, _, _, _, _, _, _, _, _, _, _, _, _, _, _, _, _, _, _, _, _, _, _, _, _, _, _, _, _, _, _, _, _, _, _, _, _, _, _, _, _, _, _, _, by go_num, by omega, by omega, by simp; omega, HR, by simpa using k1, k3, .inl rfl⟩, ?_⟩
                simp [rqM, intOf]
                omega
      · have HR : Hid (q (s.data.toList.drop (fr + 1)) (fr + 1) fr [] = .error (10, fr)) := by
          rw [← hq.out, drop_end s p (by omega)]
          exact q_nil _ _ _
        have hp' : p = s.size := by omega
        subst hp'
        clear hq
        go_wp2
        go_ret3
        exact qe_no HR.out rfl rfl rfl hbl
    · refine ⟨_, rfl, ?_⟩
      have hre := readEscape (s.extract p s.size)
      have hd : (s.extract p s.size).data.toList.drop 1 = s.data.toList.drop (p + 1) := by
        rw [Lib.extract_data, List.take_of_length_le (by rw [List.length_drop, size_len]; omega), List.drop_drop]
      rw [hd] at hre
      have hqq := hq.out
      rw [drop_at s p hp, q_esc _ _ _ _ hc] at hqq
      generalize he : esc (s.data.toList.drop (p + 1)) = r at *
      clear hd hq hc
      cases r with
      | none =>
        simp only at hqq
        have HR : Hid (q (s.data.toList.drop (fr + 1)) (fr + 1) fr [] = .error (12, p)) := hqq.symm
        clear hqq he
        have hps : (p : Int) ≤ (s.size : Int) := by omega
        go_wp2_with fail
        refine (hre _).mono ?_
        rintro e w2 ⟨h2, n, rfl⟩
        simp only at h2
        subst h2
        have hbl2 : Below w.heap.size w (w1.drewN n) := ⟨hbl.os, hbl.tape, hbl.output, hbl.size, hbl.block⟩
        clear hown hbl
        generalize w1.drewN n = w2 at *
        go_wp2
        go_ret3
        exact qe_no HR.out rfl rfl rfl hbl2
      | some bk =>
        obtain ⟨b, k⟩ := bk
        have hk := esc_size he
        simp only [List.drop_drop] at hqq
        rw [show p + 1 + (k - 1) = p + k from by omega] at hqq
        have HR : Hid (q (s.data.toList.drop (p + k)) (p + k) fr (acc ++ [b]) = q (s.data.toList.drop (fr + 1)) (fr + 1) fr []) := hqq
        rw [List.length_drop, size_len] at hk
        have hk0 : ((k : Int) == 0) = false := by rw [beq_eq_false_iff_ne]; omega
        have hk1 : 2 ≤ k := hk.1
        have hk2 : p + k ≤ s.size := by omega
        clear hqq he hk
        have hps : (p : Int) ≤ (s.size : Int) := by omega
        go_wp2_with fail
        refine (hre _).mono ?_
        rintro e w2 ⟨h2, n, rfl⟩
        simp only at h2
        subst h2
        have hbl2 : Below w.heap.size w (w1.drewN n) := ⟨hbl.os, hbl.tape, hbl.output, hbl.size, hbl.block⟩
        have hown2 : (w1.drewN n).ownsRow w.heap.size 5 1 v acc.length (bc acc) := hown
        have hB2 : w.heap.size ≤ (w1.drewN n).heap.size := hB
        clear hown hbl hB
        generalize w1.drewN n = w2 at *
        go_wp2_with (at_builtin; refine append_bytes rfl (.tmp 54) (.tmp 56) rfl w.heap.size v acc rfl (hown2.alloc _) _ _ [b] (by simp) rfl ?src ?len ?hB ?next)
        case src => exact cells_new _ _ _
        case len => simp; omega
        case hB => simp; omega
        case next =>
          intro ad c' w' k1 k2
          have k3 := below_grown (hown2.alloc _) (by simp; omega) (hbl2.alloc hB2 _) k2
          clear k2 hown2 hbl2
          go_wp2
          refine wp_goto ⟨⟨p + k, acc ++ [b], _, _, _, _, _, _, _, _, _, _, _, _, _, _, _, _, _, _, _, _, _, _, _, _, _, _, _, _, _, _, _, _, _, _, _, _, _, _, _, _, _, _, _, _, _, _, _, _, _, _, _, _, _, _, _, _, _, _, _, _, _, _, _, _, _, _, by go_num, by omega, by omega, by simp; omega, HR, by simpa using k1, k3, .inl rfl⟩, ?_⟩
          simp [rqM, intOf]
          omega
    · refine ⟨_, rfl, ?_⟩
      have hqq := hq.out
      rw [drop_at s p hp, q_end _ _ _ _ hc] at hqq
      clear hq hc
      have hcv := owns_string hown
      obtain ⟨ao, cap, rfl⟩ : ∃ ao cap, v = .slice ao acc.length cap := by
        rcases owns_shape hown with ⟨rfl, hn⟩ | ⟨g, cap, rfl, _⟩
        · exact ⟨none, 0, by rw [hn]⟩
        · exact ⟨_, _, rfl⟩
      by_cases h200 : 200 < acc.length
      · rw [if_pos h200] at hqq
        have HR : Hid (q (s.data.toList.drop (fr + 1)) (fr + 1) fr [] = .error (3, fr)) := hqq.symm
        have h200' : (200 : Int) < (acc.length : Int) := by omega
        clear hqq hcv h200
        go_wp2
        go_ret3
        exact qe_no HR.out rfl rfl rfl hbl
      · rw [if_neg h200] at hqq
        have HR : Hid (q (s.data.toList.drop (fr + 1)) (fr + 1) fr [] = .ok (acc, p + 1)) := hqq.symm
        have h200' : ¬ (200 : Int) < (acc.length : Int) := by omega
        clear hqq h200
        go_wp2
        go_ret3
        exact qe_ok HR.out (by go_num) rfl hbl

end Go.Proofs.Ytchfhkfepghfjaa

namespace Go.Proofs.Ytchfhkfepghfjaa
open Go.RowKit

/-- What parting a text answers. -/
def SE (r : SR) (w : World) (e : Ending) (w' : World) : Prop :=
  (match r with
  | .ok l => ∃ v, e = .returned (.tuple #[v, .int .i64 0, .int .i64 0]) ∧ w'.ownsRow w.heap.size 45 3 v l.length (tcs l)
  | .error (y, b) => e = .returned (.tuple #[.slice none 0 0, .int .i64 (y : Int), .int .i64 (b : Int)])) ∧ Below w.heap.size w w'
theorem se_ok {r : SR} {w w' : World} {l : List Tok} {v : Value} (h : r = .ok l) (ho : w'.ownsRow w.heap.size 45 3 v l.length (tcs l)) (hb : Below w.heap.size w w') : SE r w (.returned (.tuple #[v, .int .i64 0, .int .i64 0])) w' := by
  subst h
  exact ⟨⟨v, rfl, ho⟩, hb⟩
theorem se_no {r : SR} {w w' : World} {y b : Nat} {z x : Int} (h : r = .error (y, b)) (hz : z = (y : Int)) (hx : x = (b : Int)) (hb : Below w.heap.size w w') : SE r w (.returned (.tuple #[.slice none 0 0, .int .i64 z, .int .i64 x])) w' := by
  subst h hz hx
  exact ⟨rfl, hb⟩

set_option maxRecDepth 1000000 in
theorem sClone (s : ByteArray) (w : World) (h : s.size ≤ 8192) : Calls Try.prog 16 #[.string s] w fun e w' => e = .returned (.string s) ∧ Below w.heap.size w w' := by
  go_enter Try.func16, Try.ntmps16
  go_wp2_with fail
  refine (Try.stringslite_Clone s _ (by omega)).mono ?_
  rintro e w1 ⟨rfl, hb⟩
  go_wp2
  go_ret
  exact ⟨rfl, hb⟩

theorem arr_map (t : Array Value) : t = ((List.range t.size).map fun k => t.getD k undef).toArray := by
  apply Array.ext
  · simp
  · intro i h1 h2
    simp [Array.getD, h1]
theorem frame115 (a : Act) (h : a.tmps.size = 115) (hd : a.defers = []) : ∃ f : Nat → Value, a = { tmps := #[f 0, f 1, f 2, f 3, f 4, f 5, f 6, f 7, f 8, f 9, f 10, f 11, f 12, f 13, f 14, f 15, f 16, f 17, f 18, f 19, f 20, f 21, f 22, f 23, f 24, f 25, f 26, f 27, f 28, f 29, f 30, f 31, f 32, f 33, f 34, f 35, f 36, f 37, f 38, f 39, f 40, f 41, f 42, f 43, f 44, f 45, f 46, f 47, f 48, f 49, f 50, f 51, f 52, f 53, f 54, f 55, f 56, f 57, f 58, f 59, f 60, f 61, f 62, f 63, f 64, f 65, f 66, f 67, f 68, f 69, f 70, f 71, f 72, f 73, f 74, f 75, f 76, f 77, f 78, f 79, f 80, f 81, f 82, f 83, f 84, f 85, f 86, f 87, f 88, f 89, f 90, f 91, f 92, f 93, f 94, f 95, f 96, f 97, f 98, f 99, f 100, f 101, f 102, f 103, f 104, f 105, f 106, f 107, f 108, f 109, f 110, f 111, f 112, f 113, f 114], defers := [] } := by
  refine ⟨fun k => a.tmps.getD k undef, ?_⟩
  obtain ⟨t, d⟩ := a
  simp only at h hd
  subst hd
  have e := arr_map t
  rw [h] at e
  simp only [Act.mk.injEq, and_true]
  exact e
/-- What holds at each label of Split. -/
def spJ (s : ByteArray) (R : SR) (w0 : World) (l : Nat) (a : Act) (w : World) : Prop :=
  ∃ (p fr : Nat) (acc : List Tok) (v : Value), a.tmps.size = 115 ∧ a.defers = [] ∧ a.tmps.getD 0 undef = .string s ∧ a.tmps.getD 5 undef = v ∧ a.tmps.getD 7 undef = .int .i64 (p : Int) ∧ a.tmps.getD 8 undef = .int .i64 (fr : Int) ∧
    p ≤ s.size ∧ acc.length ≤ p ∧ w.ownsRow w0.heap.size 45 3 v acc.length (tcs acc) ∧ Below w0.heap.size w0 w ∧
    ((l = 0 ∧ Hid (sp (s.data.toList.drop p) p acc = R)) ∨
     (l = 1 ∧ fr ≤ p ∧ acc.length ≤ fr ∧ (p = fr → ∃ h : p < s.size, isAtom s[p] = true) ∧ Hid (aS s.data.toList fr p acc = R)) ∨
     (l = 3 ∧ fr ≤ p ∧ (p = fr → ∃ h : p < s.size, s[p].toNat = 59) ∧ Hid (rS s.data.toList p acc = R)) ∨
     (l = 2 ∧ fr = p ∧ (∃ h : p < s.size, s[p].toNat = 34) ∧ Hid (sp (s.data.toList.drop p) p acc = R)))
def spM (s : ByteArray) (l : Nat) (a : Act) (_ : World) : Nat :=
  match l with
  | 0 => 3 * (s.size - (intOf (a.tmps.getD 7 undef)).toNat)
  | 2 => 3 * (s.size - (intOf (a.tmps.getD 7 undef)).toNat) - 1
  | _ => if (intOf (a.tmps.getD 7 undef)).toNat = (intOf (a.tmps.getD 8 undef)).toNat then 3 * (s.size - (intOf (a.tmps.getD 7 undef)).toNat) - 1 else 3 * (s.size - (intOf (a.tmps.getD 7 undef)).toNat) + 1

set_option maxHeartbeats 4000000 in
set_option maxRecDepth 1000000 in
theorem split_short (s : ByteArray) (w : World) (hs : s.size ≤ 8192) : Calls Try.prog 8 #[.string s] w (SE (sp s.data.toList 0 []) w) := by
  have hs' : ¬ (8192 : Int) < (s.size : Int) := by omega
  go_enter Try.func8, Try.ntmps8
  go_wp2
  refine wp_scope_labels (spJ s (sp s.data.toList 0 []) w) (spM s) ?_ ?_
  · intro hp
    replace hp := hidden hp
    refine wp_seq ?_
    go_wp2
    rename_i hK
    refine wp_label (hK _ _ (hp.out 0 _ _ _ rfl ⟨0, 0, [], _, rfl, rfl, rfl, rfl, rfl, rfl, by omega, by simp, World.ownsRow_nil _ _ _ _, Below.refl _ _, .inl ⟨rfl, rfl⟩⟩))
  · rintro l a w1 ⟨p, fr, acc, v, ha1, ha2, ha3, ha4, ha5, ha6, hp1, hacc, hown, hbl, hl⟩
    obtain ⟨f, rfl⟩ := frame115 a ha1 ha2
    replace ha3 : f 0 = .string s := ha3
    replace ha4 : f 5 = v := ha4
    replace ha5 : f 7 = .int .i64 (p : Int) := ha5
    replace ha6 : f 8 = .int .i64 (fr : Int) := ha6
    rw [ha3, ha4, ha5, ha6]
    clear ha1 ha2 ha3 ha4 ha5 ha6
    have hB : w.heap.size ≤ w1.heap.size := hbl.size
    rcases hl with ⟨rfl, hq⟩ | ⟨rfl, hfr, haf, hst, hq⟩ | ⟨rfl, hfr, hst, hq⟩ | ⟨rfl, rfl, ⟨hp, hc⟩, hq⟩
    · refine ⟨_, rfl, ?_⟩
      by_cases hp : p < s.size
      · have hia := inAtom s[p]
        rcases (by cases isAtom s[p] <;> simp : isAtom s[p] = true ∨ isAtom s[p] = false) with c0 | c0
        · have C : Hid (aS s.data.toList p p acc = sp s.data.toList 0 []) := by
            rw [← hq.out]
            exact (aS_start (drop_at s p hp) c0 acc).symm
          rw [c0] at hia
          have C0 : Hid (isAtom s[p] = true) := c0
          clear c0 hq
          go_wp2_with fail
          refine (hia _).mono ?_
          rintro e w2 ⟨rfl, rfl⟩
          go_wp2
          refine wp_goto ⟨⟨p, p, acc, _, rfl, rfl, rfl, rfl, rfl, rfl, by omega, hacc, hown, hbl, .inr (.inl ⟨rfl, Nat.le_refl _, hacc, fun _ => ⟨hp, C0.out⟩, C⟩)⟩, ?_⟩
          simp [spM, intOf]
          omega
        · rw [c0] at hia
          by_cases c : s[p].toNat = 34
          · have c' : ((s[p].toNat : Int) == 34) = true := by rw [beq_iff_eq]; omega
            have C0 : Hid (s[p].toNat = 34) := c
            clear c c0
            go_wp2_with fail
            refine (hia _).mono ?_
            rintro e w2 ⟨rfl, rfl⟩
            go_wp2
            refine wp_goto ⟨⟨p, p, acc, _, rfl, rfl, rfl, rfl, rfl, rfl, by omega, hacc, hown, hbl, .inr (.inr (.inr ⟨rfl, rfl, ⟨hp, C0.out⟩, hq⟩))⟩, ?_⟩
            simp [spM, intOf]
            omega
          have c1 := c
          have c1' : ((s[p].toNat : Int) == 34) = false := by rw [beq_eq_false_iff_ne]; omega
          clear c
          by_cases c : s[p].toNat = 59
          · have C : Hid (rS s.data.toList p acc = sp s.data.toList 0 []) := by
              rw [← hq.out]
              exact (rS_start (drop_at s p hp) c acc).symm
            have c' : ((s[p].toNat : Int) == 59) = true := by rw [beq_iff_eq]; omega
            have C0 : Hid (s[p].toNat = 59) := c
            clear c c0 c1 hq
            go_wp2_with fail
            refine (hia _).mono ?_
            rintro e w2 ⟨rfl, rfl⟩
            go_wp2
            refine wp_goto ⟨⟨p, p, acc, _, rfl, rfl, rfl, rfl, rfl, rfl, by omega, hacc, hown, hbl, .inr (.inr (.inl ⟨rfl, Nat.le_refl _, fun _ => ⟨hp, C0.out⟩, C⟩))⟩, ?_⟩
            simp [spM, intOf]
            omega
          have c2 := c
          have c2' : ((s[p].toNat : Int) == 59) = false := by rw [beq_eq_false_iff_ne]; omega
          clear c
          by_cases c : s[p].toNat = 40
          · skip
            have C : Hid (sp (s.data.toList.drop (p + 1)) (p + 1) (acc ++ [⟨1, p, []⟩]) = sp s.data.toList 0 []) := by
              rw [← hq.out, drop_at s p hp]
              exact (sp_open _ _ _ c).symm
            have c' : ((s[p].toNat : Int) == 40) = true := by rw [beq_iff_eq]; omega
            clear c hq c0 c1 c2
            go_wp2_with fail
            refine (hia _).mono ?_
            rintro e w2 ⟨rfl, rfl⟩
            go_wp2_with (at_builtin; refine append_tok rfl (.tmp 40) (.tmp 43) rfl w.heap.size v acc rfl (hown.alloc _) _ _ ⟨1, p, []⟩ rfl ?src ?len ?hB ?next)
            case src => exact cells_new _ _ _
            case len => omega
            case hB => simp; omega
            case next =>
              intro ad c' w' k1 k2
              have k3 := below_grown (hown.alloc _) (by simp; omega) (hbl.alloc hB _) k2
              clear k2 hown hbl
              go_wp2
              refine wp_goto ⟨⟨p + 1, _, acc ++ [⟨1, p, []⟩], _, rfl, rfl, rfl, rfl, by go_num, rfl, by omega, by simp; omega, by simpa using k1, k3, .inl ⟨rfl, C⟩⟩, ?_⟩
              simp [spM, intOf]
              omega

          have c3 := c
          have c3' : ((s[p].toNat : Int) == 40) = false := by rw [beq_eq_false_iff_ne]; omega
          clear c
          by_cases c : s[p].toNat = 41
          · skip
            have C : Hid (sp (s.data.toList.drop (p + 1)) (p + 1) (acc ++ [⟨2, p, []⟩]) = sp s.data.toList 0 []) := by
              rw [← hq.out, drop_at s p hp]
              exact (sp_close _ _ _ c).symm
            have c' : ((s[p].toNat : Int) == 41) = true := by rw [beq_iff_eq]; omega
            clear c hq c0 c1 c2 c3
            go_wp2_with fail
            refine (hia _).mono ?_
            rintro e w2 ⟨rfl, rfl⟩
            go_wp2_with (at_builtin; refine append_tok rfl (.tmp 50) (.tmp 53) rfl w.heap.size v acc rfl (hown.alloc _) _ _ ⟨2, p, []⟩ rfl ?src ?len ?hB ?next)
            case src => exact cells_new _ _ _
            case len => omega
            case hB => simp; omega
            case next =>
              intro ad c' w' k1 k2
              have k3 := below_grown (hown.alloc _) (by simp; omega) (hbl.alloc hB _) k2
              clear k2 hown hbl
              go_wp2
              refine wp_goto ⟨⟨p + 1, _, acc ++ [⟨2, p, []⟩], _, rfl, rfl, rfl, rfl, by go_num, rfl, by omega, by simp; omega, by simpa using k1, k3, .inl ⟨rfl, C⟩⟩, ?_⟩
              simp [spM, intOf]
              omega

          have c4 := c
          have c4' : ((s[p].toNat : Int) == 41) = false := by rw [beq_eq_false_iff_ne]; omega
          clear c
          have hpa := parts s[p]
          rcases (by cases isParts s[p] <;> simp : isParts s[p] = true ∨ isParts s[p] = false) with c | c
          · have C : Hid (sp (s.data.toList.drop (p + 1)) (p + 1) acc = sp s.data.toList 0 []) := by
              rw [← hq.out, drop_at s p hp]
              exact (sp_parts _ _ _ c).symm
            rw [c] at hpa
            clear c c0 c1 c2 c3 c4 hq
            go_wp2_with fail
            refine (hia _).mono ?_
            rintro e w2 ⟨rfl, rfl⟩
            go_wp2_with fail
            refine (hpa _).mono ?_
            rintro e w2 ⟨rfl, rfl⟩
            go_wp2
            refine wp_goto ⟨⟨p + 1, _, acc, _, rfl, rfl, rfl, rfl, by go_num, rfl, by omega, by omega, hown, hbl, .inl ⟨rfl, C⟩⟩, ?_⟩
            simp [spM, intOf]
            omega
          · have HR : Hid (sp s.data.toList 0 [] = .error (12, p)) := by
              rw [← hq.out, drop_at s p hp]
              exact sp_bad _ _ _ c0 c1 c2 c3 c4 c
            rw [c] at hpa
            clear c c0 c1 c2 c3 c4 hq
            go_wp2_with fail
            refine (hia _).mono ?_
            rintro e w2 ⟨rfl, rfl⟩
            go_wp2_with fail
            refine (hpa _).mono ?_
            rintro e w2 ⟨rfl, rfl⟩
            go_wp2
            go_ret3
            exact se_no HR.out rfl rfl hbl
      · have HR : Hid (sp s.data.toList 0 [] = .ok acc) := by
          rw [← hq.out, drop_end s p (by omega)]
          exact sp_nil _ _
        have hp' : p = s.size := by omega
        subst hp'
        clear hq
        go_wp2
        go_ret3
        exact se_ok HR.out hown hbl
    · refine ⟨_, rfl, ?_⟩
      by_cases hp : p < s.size
      · have hps : (p : Int) < (s.size : Int) := by omega
        have hia := inAtom s[p]
        rcases (by cases isAtom s[p] <;> simp : isAtom s[p] = true ∨ isAtom s[p] = false) with c0 | c0
        · have C : Hid (aS s.data.toList fr (p + 1) acc = sp s.data.toList 0 []) := by
            rw [← hq.out]
            exact (aS_step (drop_at s p hp) c0 acc).symm
          rw [c0] at hia
          clear c0 hq hst
          go_wp2_with fail
          refine (hia _).mono ?_
          rintro e w2 ⟨rfl, rfl⟩
          go_wp2
          refine wp_goto ⟨⟨p + 1, fr, acc, _, rfl, rfl, rfl, rfl, by go_num, rfl, by omega, by omega, hown, hbl, .inr (.inl ⟨rfl, by omega, haf, fun h => by omega, C⟩)⟩, ?_⟩
          simp [spM, intOf]
          split <;> split <;> omega
        · have hne : p ≠ fr := fun h => by
            obtain ⟨_, h2⟩ := hst h
            rw [c0] at h2
            cases h2
          have C : Hid (sp (s.data.toList.drop p) p (acc ++ [⟨3, fr, (s.data.toList.drop fr).take (p - fr)⟩]) = sp s.data.toList 0 []) := by
            rw [← hq.out]
            exact (aS_stop (fun c r h => by rw [drop_at s p hp] at h; cases h; exact c0) acc).symm
          rw [c0] at hia
          clear c0 hq hst
          have hfp : (fr : Int) ≤ (p : Int) := by omega
          have hpp : (p : Int) ≤ (s.size : Int) := by omega
          go_wp2_with fail
          refine (hia _).mono ?_
          rintro e w2 ⟨rfl, rfl⟩
          go_wp2_with fail
          refine (sClone _ _ (by rw [extract_str, str_size]; simp; omega)).mono ?_
          rintro e w3 ⟨rfl, hcl⟩
          rw [extract_str]
          have hown3 := owns_below hown hcl
          have hbl3 := hbl.trans (hcl.mono hB)
          have hB3 := hbl3.size
          clear hown hbl hcl
          go_wp2_with (at_builtin; refine append_tok rfl (.tmp 88) (.tmp 96) rfl w.heap.size v acc rfl (hown3.alloc _) _ _ ⟨3, fr, (s.data.toList.drop fr).take (p - fr)⟩ rfl ?src ?len ?hB ?next)
          case src => exact cells_new _ _ _
          case len => omega
          case hB => simp; omega
          case next =>
            intro ad c' w' k1 k2
            have k3 := below_grown (hown3.alloc _) (by simp; omega) (hbl3.alloc hB3 _) k2
            clear k2 hown3 hbl3
            go_wp2
            refine wp_goto ⟨⟨p, _, _, _, rfl, rfl, rfl, rfl, rfl, rfl, by omega, by simp; omega, by simpa using k1, k3, .inl ⟨rfl, C⟩⟩, ?_⟩
            simp [spM, intOf]
            split <;> omega
      · have hne : p ≠ fr := fun h => by
          obtain ⟨h2, _⟩ := hst h
          exact hp h2
        have C : Hid (sp (s.data.toList.drop p) p (acc ++ [⟨3, fr, (s.data.toList.drop fr).take (p - fr)⟩]) = sp s.data.toList 0 []) := by
          rw [← hq.out]
          exact (aS_stop (fun c r h => by rw [drop_end s p (by omega)] at h; cases h) acc).symm
        clear hq hst
        have hps : ¬ (p : Int) < (s.size : Int) := by omega
        have hfp : (fr : Int) ≤ (p : Int) := by omega
        have hpp : (p : Int) ≤ (s.size : Int) := by omega
        go_wp2_with fail
        refine (sClone _ _ (by rw [extract_str, str_size]; simp; omega)).mono ?_
        rintro e w3 ⟨rfl, hcl⟩
        rw [extract_str]
        have hown3 := owns_below hown hcl
        have hbl3 := hbl.trans (hcl.mono hB)
        have hB3 := hbl3.size
        clear hown hbl hcl
        go_wp2_with (at_builtin; refine append_tok rfl (.tmp 88) (.tmp 96) rfl w.heap.size v acc rfl (hown3.alloc _) _ _ ⟨3, fr, (s.data.toList.drop fr).take (p - fr)⟩ rfl ?src ?len ?hB ?next)
        case src => exact cells_new _ _ _
        case len => omega
        case hB => simp; omega
        case next =>
          intro ad c' w' k1 k2
          have k3 := below_grown (hown3.alloc _) (by simp; omega) (hbl3.alloc hB3 _) k2
          clear k2 hown3 hbl3
          go_wp2
          refine wp_goto ⟨⟨p, _, _, _, rfl, rfl, rfl, rfl, rfl, rfl, by omega, by simp; omega, by simpa using k1, k3, .inl ⟨rfl, C⟩⟩, ?_⟩
          simp [spM, intOf]
          split <;> omega
    · refine ⟨_, rfl, ?_⟩
      by_cases hp : p < s.size
      · have hps : (p : Int) < (s.size : Int) := by omega
        by_cases c : s[p].toNat = 10
        · have C : Hid (sp (s.data.toList.drop p) p acc = sp s.data.toList 0 []) := by
            rw [← hq.out]
            exact (rS_stop (fun c' r h => by rw [drop_at s p hp] at h; cases h; simp [notNl, c]) acc).symm
          have hne : p ≠ fr := fun h => by
            obtain ⟨_, h2⟩ := hst h
            omega
          have c' : ((s[p].toNat : Int) != 10) = false := by rw [bne_eq_false_iff_eq]; omega
          clear c hq hst
          go_wp2
          refine wp_goto ⟨⟨p, fr, acc, _, rfl, rfl, rfl, rfl, rfl, rfl, by omega, by omega, hown, hbl, .inl ⟨rfl, C⟩⟩, ?_⟩
          simp [spM, intOf]
          split <;> omega
        · have C : Hid (rS s.data.toList (p + 1) acc = sp s.data.toList 0 []) := by
            rw [← hq.out]
            exact (rS_step (drop_at s p hp) (by simp [notNl, c]) acc).symm
          have c' : ((s[p].toNat : Int) != 10) = true := by rw [bne_iff_ne]; omega
          clear c hq hst
          go_wp2
          refine wp_goto ⟨⟨p + 1, fr, acc, _, rfl, rfl, rfl, rfl, by go_num, rfl, by omega, by omega, hown, hbl, .inr (.inr (.inl ⟨rfl, by omega, fun h => by omega, C⟩))⟩, ?_⟩
          simp [spM, intOf]
          split <;> split <;> omega
      · have hne : p ≠ fr := fun h => by
          obtain ⟨h2, _⟩ := hst h
          exact hp h2
        have C : Hid (sp (s.data.toList.drop p) p acc = sp s.data.toList 0 []) := by
          rw [← hq.out]
          exact (rS_stop (fun c r h => by rw [drop_end s p (by omega)] at h; cases h) acc).symm
        have hps : ¬ (p : Int) < (s.size : Int) := by omega
        clear hq hst
        go_wp2
        refine wp_goto ⟨⟨p, fr, acc, _, rfl, rfl, rfl, rfl, rfl, rfl, by omega, by omega, hown, hbl, .inl ⟨rfl, C⟩⟩, ?_⟩
        simp [spM, intOf]
        split <;> omega
    · refine ⟨_, rfl, ?_⟩
      have hrq := fun w => readQuoted s fr w hs hp
      have hqq := hq.out
      rw [drop_at s fr hp, sp_quoted _ _ _ hc] at hqq
      have hnx := q_next (s.data.toList.drop (fr + 1)).length (s.data.toList.drop (fr + 1)) (fr + 1) fr []
      have hwy := q_why (s.data.toList.drop (fr + 1)).length (s.data.toList.drop (fr + 1)) (fr + 1) fr []
      generalize q (s.data.toList.drop (fr + 1)) (fr + 1) fr [] = r at *
      clear hq hc
      cases r with
      | error yb =>
        obtain ⟨y, b⟩ := yb
        have hy := hwy y b (Nat.le_refl _) rfl
        have hy' : ((y : Int) != 0) = true := by rw [bne_iff_ne]; omega
        simp only at hqq
        have HR : Hid (sp s.data.toList 0 [] = .error (y, b)) := hqq.symm
        clear hqq hy hwy hnx
        go_wp2_with fail
        refine (hrq _).mono ?_
        rintro e w3 ⟨he, hcl⟩
        simp only at he
        subst he
        have hbl3 := hbl.trans (hcl.mono hB)
        clear hown hbl hcl
        go_wp2
        go_ret3
        exact se_no HR.out rfl rfl hbl3
      | ok tn =>
        obtain ⟨tx, nx⟩ := tn
        have hn := hnx tx nx (Nat.le_refl _) rfl
        rw [List.length_drop, size_len] at hn
        simp only [List.drop_drop] at hqq
        rw [show fr + 1 + (nx - (fr + 1)) = nx from by omega] at hqq
        have C : Hid (sp (s.data.toList.drop nx) nx (acc ++ [⟨4, fr, tx⟩]) = sp s.data.toList 0 []) := hqq
        have hn1 : fr + 2 ≤ nx := by omega
        have hn2 : nx ≤ s.size := by omega
        clear hqq hn hnx hwy
        go_wp2_with fail
        refine (hrq _).mono ?_
        rintro e w3 ⟨he, hcl⟩
        simp only at he
        subst he
        have hown3 := owns_below hown hcl
        have hbl3 := hbl.trans (hcl.mono hB)
        have hB3 := hbl3.size
        clear hown hbl hcl
        go_wp2_with (at_builtin; refine append_tok rfl (.tmp 109) (.tmp 113) rfl w.heap.size v acc rfl (hown3.alloc _) _ _ ⟨4, fr, tx⟩ rfl ?src ?len ?hB ?next)
        case src => exact cells_new _ _ _
        case len => omega
        case hB => simp; omega
        case next =>
          intro ad c' w' k1 k2
          have k3 := below_grown (hown3.alloc _) (by simp; omega) (hbl3.alloc hB3 _) k2
          clear k2 hown3 hbl3
          go_wp2
          refine wp_goto ⟨⟨nx, fr, _, _, rfl, rfl, rfl, rfl, rfl, rfl, by omega, by simp; omega, by simpa using k1, k3, .inl ⟨rfl, C⟩⟩, ?_⟩
          simp [spM, intOf]
          omega

set_option maxRecDepth 1000000 in
theorem split_long (s : ByteArray) (w : World) (hs : 8192 < s.size) : Calls Try.prog 8 #[.string s] w (SE (.error (3, 0)) w) := by
  have hs' : (8192 : Int) < (s.size : Int) := by omega
  go_enter Try.func8, Try.ntmps8
  go_wp2
  go_step3
  go_wp2
  rw [Exit.noGoto_ret]
  go_ret3
  exact se_no rfl rfl rfl (Below.refl _ _)
/-- What Split answers. -/
theorem split (s : ByteArray) (w : World) : Calls Try.prog 8 #[.string s] w (SE (splitR s.data.toList) w) := by
  unfold splitR
  rw [size_len]
  split
  · rename_i h
    exact split_long s w h
  · rename_i h
    exact split_short s w (by omega)

end Go.Proofs.Ytchfhkfepghfjaa

namespace Go.Proofs
end Go.Proofs
