/-
  The document's own Parts: its walk.
  And: append of texts; what follows of names: those of an array, of a function, of a name. The document's own Put: its walk. The document's own Names: its walk.
-/
import Derived.Deep.LoopGhost
import Derived.Test.YtcjlifhehiolkaaGreatRefA
import Derived.Laws.AppendOwnNone
import Derived.Test.YtcjlifhehiolkaaGreatTypesNames
import Derived.Test.YtcjlifhehiolkaaGreatTypesRef
import Derived.Test.YtcjlifhehiolkaaGreatTypesKnown
namespace Go.Proofs.YtcjlifhehiolkaaGreat
open Go.RowKit

theorem one_first {c : UInt8} {r x : List UInt8} (h : one (c :: r) = some x) : c.toNat ≠ 41 ∧ c.toNat ≠ 44 := by
  have key : isSign c = true → c.toNat ≠ 91 → c.toNat ≠ 40 → False := by
    intro hs h1 h2
    have hw : wordR (c :: r) = [] := by simp [wordR, notSign, hs]
    rw [one_word r h1 h2, hw, wordOk_nil] at h
    simp at h
  exact ⟨fun e => key (sign_of (by omega)) (by omega) (by omega), fun e => key (sign_of (by omega)) (by omega) (by omega)⟩
/-- Where the reading of parameters stands. -/
def PtA (L : List UInt8) (acc : List (List UInt8)) (p : Nat) : Prop := ∃ j, Goes j (L.drop p) ∧ partsR L = (acc ++ (psQ (L.drop p)).1, (psQ (L.drop p)).2)
def PtB (L : List UInt8) (acc : List (List UInt8)) (p : Nat) : Prop := ∃ c r, L.drop p = c :: r ∧ ((c.toNat = 44 ∧ PtA L acc (p + 1)) ∨ (c.toNat = 41 ∧ partsR L = (acc, r)))
theorem pt_start {l : List UInt8} (h : isFn l = true) : PtA l [] 1 ∨ PtB l [] 1 := by
  rw [isFn, Bool.and_eq_true] at h
  have h1 := rightR_one h.1
  obtain ⟨c, y, rfl, hc⟩ := isHead_pos h.2
  by_cases h41 : isHead 41 y = true
  · obtain ⟨d, r, rfl, hd⟩ := isHead_pos h41
    exact .inr ⟨d, r, rfl, .inr ⟨hd, by rw [partsR, List.tail_cons, if_pos h41]; rfl⟩⟩
  · exact .inl ⟨0, goes_first hc h1 (by simpa using h41), by rw [partsR, List.tail_cons, if_neg h41]; rfl⟩
/-- One parameter more is read. -/
theorem pt_param {L : List UInt8} {acc : List (List UInt8)} {p : Nat} (h : PtA L acc p) : ∃ c r m, one (L.drop p) = some (c :: r) ∧ rOne (L.drop p) = some (c :: r) ∧ m = oneN (L.drop p) ∧ 0 < m ∧ p + m < L.length ∧ L.drop (p + m) = c :: r ∧ PtB L (acc ++ [(L.drop p).take m]) (p + m) := by
  obtain ⟨j, hg, hp⟩ := h
  obtain ⟨c, r, h1, h2⟩ := goes_next hg
  have h3 := rOne_of h1
  obtain ⟨m1, m2, m3⟩ := oneN_some h3
  have hlen := congrArg List.length m3
  rw [List.length_drop, List.length_cons] at hlen
  rw [List.drop_drop] at m3
  have hl2 := m2
  rw [List.length_drop] at hl2 hlen
  refine ⟨c, r, _, h1, h3, rfl, m1, by omega, m3.symm, c, r, m3.symm, ?_⟩
  have hq := psQ_some h1
  have htk : (L.drop p).take ((L.drop p).length - (r.length + 1)) = (L.drop p).take (oneN (L.drop p)) := by
    congr 1
    rw [List.length_drop]
    omega
  have hr : L.drop (p + oneN (L.drop p) + 1) = r := by rw [← List.drop_drop, ← m3]; rfl
  rw [htk] at hq
  rcases h2 with ⟨hc, _⟩ | ⟨hc, _, hg2⟩
  · rw [if_neg (by omega)] at hq
    exact .inr ⟨hc, by rw [hp, hq]⟩
  · rw [if_pos hc] at hq
    refine .inl ⟨hc, j + 1, by rw [hr]; exact hg2, ?_⟩
    rw [hp, hq, hr]
    simp

set_option maxHeartbeats 2000000 in
set_option maxRecDepth 1000000 in
theorem refPartsOf (s : ByteArray) (w : World) : Calls Tryz.prog 7 #[.string s] w (PartsE s.data.toList w) := by
  have h1 := fun u => refKind s u
  cases hi : isFn s.data.toList with
  | false =>
    have HI := hidden hi
    have hk : ((kindV s.data.toList : Int) != 3) = true := by
      rw [bne_iff_ne]; intro h; rw [(kind_fn _).1 (by omega)] at hi; cases hi
    clear hi
    generalize kindV s.data.toList = k at *
    go_enter Tryz.func7, Tryz.ntmps7
    go_wp2_with (go_at_call 21; refine (h1 _).mono ?_; rintro e w1 ⟨rfl, rfl⟩)
    go_ret3
    exact ⟨.inr ⟨HI.out, rfl⟩, Below.refl _ _⟩
  | true =>
    have HI := hidden hi
    have hk : ((kindV s.data.toList : Int) != 3) = false := by
      rw [bne_eq_false_iff_eq, (kind_fn _).2 hi]; rfl
    have hst := hidden (pt_start hi)
    have hi' := hi
    rw [isFn, Bool.and_eq_true] at hi'
    have hl := rightR_len hi'.1
    rw [size_len] at hl
    have hall := refOneAll 201 (Nat.le_refl _)
    clear hi hi'
    generalize kindV s.data.toList = kk at *
    go_enter Tryz.func7, Tryz.ntmps7
    go_wp2_with (go_at_call 21; refine (h1 _).mono ?_; rintro e w1 ⟨rfl, rfl⟩)
    clear h1
    go_loopg [5, 6] (s.size + 1) (fun g v n wr => ∃ (p : Nat) (acc : List (List UInt8)), g + p = s.size + 2 ∧ n = .int .i64 (p : Int) ∧ acc.length < p ∧ p ≤ 202 ∧ Hid (PtA s.data.toList acc p ∨ PtB s.data.toList acc p) ∧ wr.ownsRow w1.heap.size 9 1 v acc.length (sc acc) ∧ Below w1.heap.size w1 wr)
    case atStart => exact ⟨1, [], by omega, rfl, by simp, by omega, hst, World.ownsRow_nil _ _ _ _, Below.refl _ _⟩
    case round =>
      obtain ⟨p, acc, hg, rfl, hap, hp2, HP, hown, hbl⟩ := hrel
      have hB := hbl.size
      rcases HP.out with hA | hB'
      · obtain ⟨c, r, m, h2, h3, hm, m1, m2, m3, m4⟩ := pt_param hA
        rw [size_len] at m2
        have hps : p < s.size := by omega
        have hpi : (p : Int) < (s.size : Int) := by omega
        have hpl : (p : Int) ≤ (s.size : Int) := by omega
        have hdp := drop_at s p hps
        have hne := one_first (c := s[p]) (r := s.data.toList.drop (p + 1)) (by rw [← hdp]; exact h2)
        have c41 : ((s[p].toNat : Int) != 41) = true := by rw [bne_iff_ne]; have := hne.1; omega
        have c44 : ((s[p].toNat : Int) == 44) = false := by rw [beq_eq_false_iff_ne]; have := hne.2; omega
        have ho := oneAt (s := s) (fun s' h' => hall s' (by omega)) p (by omega) (by omega) (by omega)
        rw [← hm] at ho
        have hx : s.extract p (p + m) = str ((s.data.toList.drop p).take m) := by rw [extract_str]; congr 2; omega
        have HN : Hid (PtA s.data.toList (acc ++ [(s.data.toList.drop p).take m]) (p + m) ∨ PtB s.data.toList (acc ++ [(s.data.toList.drop p).take m]) (p + m)) := .inr m4
        have k1 : (p : Int) ≤ (p : Int) + (m : Int) := by omega
        have k2 : (p : Int) + (m : Int) ≤ (s.size : Int) := by omega
        generalize (s.data.toList.drop p).take m = x at *
        have HX := hidden hx
        clear hm h2 h3 m3 m4 hdp hne hA HP hx hst
        go_wp2_with fail
        refine (ho _).mono ?_
        rintro e w2 ⟨k7, rfl, rfl⟩
        go_wp2_with (at_builtin; refine append_text rfl (.tmp 29) (.tmp 36) rfl w1.heap.size _ acc rfl (hown.alloc _) _ _ x rfl ?src ?len ?hB ?next)
        case src =>
          rw [show (sc [x]) = [.string (s.extract p (p + m))] from by rw [HX.out]; rfl]
          first | exact cells_new _ _ _ | exact fun j u h => h
        case len => first | omega | (simp; omega)
        case hB => first | omega | (simp; omega)
        case next =>
          intro ad c' w' q1 q2
          have b1 := below_grown (hown.alloc _) (by simp; omega) (hbl.alloc (by omega) _) q2
          clear q2 hown hbl
          go_wp2
          go_roundg (s.size + 2 - (p + m))
          case measure => omega
          case rel => exact ⟨p + m, acc ++ [x], by omega, by go_num, by simp; omega, by omega, HN, by simpa using q1, b1⟩
      · obtain ⟨c, r, hd, hcase⟩ := hB'
        have hps : p < s.size := by
          rcases Nat.lt_or_ge p s.size with h | h
          · exact h
          · rw [List.drop_eq_nil_of_le (by rw [size_len]; exact h)] at hd; cases hd
        have hpi : (p : Int) < (s.size : Int) := by omega
        have hdp := drop_at s p hps
        rw [hd] at hdp
        simp only [List.cons.injEq] at hdp
        rcases hcase with ⟨hc, hA⟩ | ⟨hc, hE⟩
        · have c41 : ((s[p].toNat : Int) != 41) = true := by rw [bne_iff_ne, ← hdp.1]; omega
          have c44 : ((s[p].toNat : Int) == 44) = true := by rw [beq_iff_eq, ← hdp.1]; omega
          have HN : Hid (PtA s.data.toList acc (p + 1) ∨ PtB s.data.toList acc (p + 1)) := .inl hA
          clear hd hdp hc hA HP hst
          go_wp2
          go_roundg (s.size + 2 - (p + 1))
          case measure => omega
          case rel => exact ⟨p + 1, acc, by omega, by go_num, by omega, by omega, HN, hown, hbl⟩
        · have c41 : ((s[p].toNat : Int) != 41) = false := by rw [bne_eq_false_iff_eq, ← hdp.1]; omega
          have HX : Hid (s.extract (p + 1) s.size = str (partsR s.data.toList).2) := by rw [hid_iff, hE, str_drop, hdp.2]
          have HY : Hid ((partsR s.data.toList).1 = acc) := by rw [hid_iff, hE]
          have q1 : (p : Int) + 1 ≤ (s.size : Int) := by omega
          have q3 : IntKind.i64.wrap ((p : Int) + 1) = (p : Int) + 1 := by rw [IntKind.wrap_i64]; omega
          have hsr := strRow_own hown
          clear hd hdp hc hE HP hst
          go_wp2
          go_region
          go_wp2
          go_ret3
          exact ⟨.inl ⟨HI.out, _, by rw [← HX.out]; rfl, by rw [HY.out]; exact hsr⟩, hbl.drew⟩
end Go.Proofs.YtcjlifhehiolkaaGreat

namespace Go.Proofs.YtcjlifhehiolkaaGreat
open Go.RowKit

/-- append of texts onto a row of the call's own. -/
theorem append_srow {w : World} {ops : Array Oper} {rest : List Oper} {o : Oper} {a : Act} {Q : Exit → Act → World → Prop} (hgd : o.guard = none) (s x : Operand)
    (ho : o.op = .call { callee := .builtin .append, args := #[s, x], argTypes := #[24, 24] })
    (B : Nat) (v : Value) (acc : List (List UInt8)) (hs : a.eval s = v) (hown : w.ownsRow B 9 1 v acc.length (sc acc))
    (xv : Value) (xs : List (List UInt8)) (hx : a.eval x = xv) (hxs : StrRow w xv xs)
    (hlen : acc.length + xs.length ≤ 8192) (hB : B ≤ w.heap.size)
    (h : ∀ v' w', w'.ownsRow B 9 1 v' (acc ++ xs).length (sc (acc ++ xs)) → w.grownBy w' v.ownBlock → wpList Tryz.prog ops Q rest (a.put o.dst v') w') :
    wpList Tryz.prog ops Q (o :: rest) a w := by
  obtain ⟨i, z, hi, hz, h1, h2, h3⟩ := info_z infoS
  have key : ∀ ad c, xv = .slice (some ad) xs.length c → (∀ j u, (sc xs)[j]? = some u → w.cell? (ad.add j) = some u) → wpList Tryz.prog ops Q (o :: rest) a w := by
    intro ad c he hc
    refine wpList_append_own w hgd s x 24 ho B 9 i z 1 16 Tryz.underlying24 hi hz h1 h2 h3 (by decide) v acc.length (sc acc) hs hown ad xs.length c (sc xs) (by rw [hx, he]) (by rw [sc_length]; omega) hc (fun u hu => ?_) (by unfold maxLen; omega) (by omega) hB ?_
    · obtain ⟨_, _, rfl⟩ := List.mem_map.1 hu
      rfl
    intro v' w' k1 k2 k3
    rw [← sc_append] at k1
    exact h v' w' (by rw [List.length_append]; exact k1) k2
  rcases hxs with ⟨rfl, ad, c, rfl⟩ | ⟨bk, of, c, rfl, _, _, h4⟩
  · cases ad with
    | none =>
      refine wpList_plain hgd fun K hK => ?_
      have hrun : (Builtin.append_ #[24, 24] o.type #[v, .slice none 0 c]).run Tryz.prog w = .ok v w := by
        rcases hown.2 with ⟨rfl, h0⟩ | ⟨g, cap, cur, rfl, _, _, hnc, _⟩
        · simp [Builtin.append_, run_underlying Tryz.underlying24, sizeOf, typeInfo, hi, Builtin.lenOf, Builtin.firstCells]
        · simp [Builtin.append_, run_underlying Tryz.underlying24, sizeOf, typeInfo, hi, Builtin.lenOf, Builtin.firstCells, hnc, storeCells]
      unfold Oper.wp
      simp [execOp, ho, resolve, invoke, builtin, hs, hx, hrun, Result.andThen]
      exact hK _ _ (h v w (by rw [List.append_nil]; exact hown) ⟨rfl, rfl, rfl, Nat.le_refl _, fun _ _ _ => rfl⟩)
    | some ad => exact key ad c rfl (fun j u hj => by simp [sc] at hj)
  · refine key ⟨bk, of, none⟩ c rfl (fun j u hj => ?_)
    rw [sc, List.getElem?_map] at hj
    obtain ⟨y, hy, rfl⟩ := Option.map_eq_some_iff.1 hj
    have : (⟨bk, of, none⟩ : Addr).add j = ⟨bk, of + j, none⟩ := by unfold Addr.add; split <;> simp_all
    rw [this]
    exact h4 j y hy

/-! What follows of names, with no program. -/
theorem nwF_length : ∀ (f : Nat) (l : List UInt8), (nwF f l).length ≤ l.length
  | 0, l => by simp [nwF]
  | f + 1, [] => by simp [nwF, wordR, namedR_nil]
  | f + 1, c :: l => by
    rw [nwF, List.length_append]
    have h1 : (if namedR (wordR (c :: l)) then [wordR (c :: l)] else []).length ≤ 1 := by split <;> simp
    have h3 : (c :: l).length = l.length + 1 := rfl
    by_cases h2 : (c :: l).length ≤ (wordR (c :: l)).length + 1
    · rw [if_pos h2, List.length_nil]; omega
    · rw [if_neg h2]
      have := nwF_length f ((c :: l).drop ((wordR (c :: l)).length + 1))
      rw [List.length_drop] at this
      omega
theorem names_len (l : List UInt8) (h : l.length ≤ 400) : (namesR l).length ≤ 400 := by
  rw [namesR]
  split
  · have h1 := compact_length (sortR (nw l))
    have h2 := nwF_length (l.length + 1) l
    rw [sortR_length] at h1
    have h3 : (nw l).length ≤ l.length := h2
    unfold onceR
    omega
  · simp
theorem nw_cons {c : UInt8} (l : List UInt8) (h : isSign c = true) : nw (c :: l) = nw l := by
  have := nw_append 0 [] l c (by simp) h
  rw [List.nil_append, nw_nil, List.nil_append] at this
  exact this
theorem nw_two {a l : List UInt8} {c : UInt8} (h : isSign c = true) : nw (a ++ c :: l) = nw a ++ nw l := nw_append _ a l c (Nat.le_refl _) h
theorem nw_arr (x : List UInt8) : nw (arrR x) = nw x := by
  rw [arrR, nw_cons _ rfl, nw_two rfl, nw_nil, List.append_nil]
theorem nw_f (a b : List UInt8) : nw (funcR [a, b, a] (arrR b)) = nw a ++ (nw b ++ (nw a ++ nw b)) := by
  rw [funcR, joinR_two, joinR_two, joinR_one, nw_cons _ rfl]
  simp only [List.append_assoc, List.cons_append]
  rw [nw_two rfl, nw_two rfl, nw_two rfl, nw_arr]
theorem names_f {a b : List UInt8} (ha : one a = some []) (hb : one b = some []) (hl : (funcR [a, b, a] (arrR b)).length ≤ 200) : namesR (funcR [a, b, a] (arrR b)) = putsR [] (namesR a ++ namesR b) := by
  have hla : a.length ≤ 200 ∧ b.length ≤ 200 := by
    simp [funcR, joinR_two, joinR_one, arrR] at hl
    omega
  have hra : rightR a = true := by simp [rightR, hla.1, ha]
  have hrb : rightR b = true := by simp [rightR, hla.2, hb]
  have hrf : rightR (funcR [a, b, a] (arrR b)) = true := by
    rw [rightR, decide_eq_true hl, one_funcR (by intro x hx; simp at hx; rcases hx with rfl | rfl | rfl <;> assumption) (one_arrR hb) (by simp)]
    simp
  rw [namesR, if_pos hrf, namesR, if_pos hra, namesR, if_pos hrb, nw_f]
  refine onceR_eq (putsR_asc _ _ (by simp [Asc])) (fun x => ?_)
  rw [putsR_mem]
  simp only [List.mem_append, onceR_mem, List.not_mem_nil, false_or]
  constructor
  · rintro (h | h)
    · exact .inl h
    · exact .inr (.inl h)
  · rintro (h | h | h | h)
    · exact .inl h
    · exact .inr h
    · exact .inl h
    · exact .inr h
theorem names_arr {a : List UInt8} (ha : one a = some []) (hl : a.length ≤ 198) : namesR (arrR a) = namesR a := by
  have hra : rightR a = true := by simp [rightR, ha]; omega
  have hrf : rightR (arrR a) = true := by
    rw [rightR, one_arrR ha]
    simp [arrR]; omega
  rw [namesR, if_pos hrf, namesR, if_pos hra, nw_arr]
theorem putF_length (s : List UInt8) : ∀ (l : List (List UInt8)) (b : Bool), (putF s b l).length ≤ l.length + (if b then 0 else 1)
  | [], b => by cases b <;> simp [putF]
  | x :: r, b => by
    rw [putF, List.length_append, List.length_append, List.length_cons]
    have ih := putF_length s r
    cases b with
    | true =>
      have := ih true
      have h1 : (if x ≠ s then [x] else []).length ≤ 1 := by split <;> simp
      simp at this h1 ⊢
      omega
    | false =>
      have h1 : (if x ≠ s then [x] else []).length ≤ 1 := by split <;> simp
      by_cases h : s ≤ x
      · have := ih true
        simp [h] at this h1 ⊢
        omega
      · have := ih false
        simp [h] at this h1 ⊢
        omega
theorem putR_length (l : List (List UInt8)) (s : List UInt8) : (putR l s).length ≤ l.length + 1 := putF_length s l false
theorem putsR_length : ∀ (m l : List (List UInt8)), (putsR l m).length ≤ l.length + m.length
  | [], l => by simp [putsR]
  | s :: m, l => by
    have h1 := putsR_length m (putR l s)
    have h2 := putR_length l s
    unfold putsR at h1 ⊢
    rw [List.foldl_cons]
    simp
    omega
theorem puts_next {m l : List (List UInt8)} {k : Nat} (h : k < m.length) : putsR l (m.take (k + 1)) = putR (putsR l (m.take k)) m[k] := by
  unfold putsR
  rw [List.take_succ_eq_append_getElem h, List.foldl_append]
  rfl

/-! Names of functions' types. -/
theorem nw_join : ∀ (ps : List (List UInt8)) (r : List UInt8), nw (joinR ps ++ 41 :: r) = ps.flatMap nw ++ nw r
  | [], r => by rw [joinR_nil, List.nil_append, nw_cons _ rfl]; rfl
  | [p], r => by rw [joinR_one, nw_two rfl]; simp
  | p :: q :: ps, r => by
    rw [joinR_two, List.append_assoc, List.cons_append, nw_two rfl, nw_join (q :: ps) r]
    simp
theorem nw_fn (ps : List (List UInt8)) (r : List UInt8) : nw (funcR ps r) = ps.flatMap nw ++ nw r := by
  rw [funcR, nw_cons _ rfl, nw_join]
theorem join_mem_len : ∀ (ps : List (List UInt8)) (x : List UInt8), x ∈ ps → x.length ≤ (joinR ps).length
  | [], x, h => by cases h
  | [p], x, h => by simp at h; subst h; rw [joinR_one]; exact Nat.le_refl _
  | p :: q :: ps, x, h => by
    rw [joinR_two]
    simp only [List.mem_cons] at h
    rcases h with rfl | h
    · simp
    · have := join_mem_len (q :: ps) x (by simpa using h)
      simp at this ⊢
      omega
/-- A function's type in its parts. -/
theorem fn_text {l : List UInt8} (h : isFn l = true) : ∃ ps r, partsR l = (ps, r) ∧ l = funcR ps r ∧ (∀ x ∈ ps, one x = some []) ∧ one r = some [] ∧ ps.length ≤ 6 ∧ l.length ≤ 200 := by
  rw [isFn, Bool.and_eq_true] at h
  have hl := rightR_len h.1
  have h1 := rightR_one h.1
  obtain ⟨c, y, rfl, hc⟩ := isHead_pos h.2
  have hc' : c = 40 := UInt8.toNat_inj.1 hc
  by_cases h41 : isHead 41 y = true
  · obtain ⟨d, r, rfl, hd⟩ := isHead_pos h41
    have hd' : d = 41 := UInt8.toNat_inj.1 hd
    rw [one_fn0 r hc hd] at h1
    exact ⟨[], r, by rw [partsR, List.tail_cons, if_pos h41]; rfl, by rw [funcR, joinR_nil, hc', hd']; rfl, by simp, h1, by simp, hl⟩
  · obtain ⟨p, ps, r, e1, e2, e3, e4, e5⟩ := goes_text y.length 0 y (Nat.le_refl _) (by decide) (goes_first hc h1 (by simpa using h41))
    exact ⟨p :: ps, r, by rw [partsR, List.tail_cons, if_neg h41, e1], by rw [funcR, hc', ← e2], e3, e4, by simp; omega, hl⟩
theorem names_fn {l : List UInt8} {ps : List (List UInt8)} {r : List UInt8} (h : isFn l = true) (hp : partsR l = (ps, r)) : namesR l = putsR [] ((ps ++ [r]).flatMap namesR) ∧ (ps ++ [r]).length ≤ 7 ∧ ∀ x ∈ ps ++ [r], x.length < l.length := by
  obtain ⟨ps', r', e1, e2, e3, e4, e5, e6⟩ := fn_text h
  rw [hp] at e1
  cases e1
  have hlen : ∀ x ∈ ps ++ [r], x.length < l.length := by
    intro x hx
    simp only [List.mem_append, List.mem_singleton] at hx
    rw [e2, funcR]
    rcases hx with hx | rfl
    · have := join_mem_len ps x hx
      simp; omega
    · simp; omega
  refine ⟨?_, by simp; omega, hlen⟩
  have hri : ∀ x ∈ ps ++ [r], namesR x = onceR (nw x) := by
    intro x hx
    have h1 := hlen x hx
    have h2 : one x = some [] := by
      simp only [List.mem_append, List.mem_singleton] at hx
      rcases hx with hx | rfl
      · exact e3 x hx
      · exact e4
    rw [namesR, if_pos (by rw [rightR, h2]; simp; omega)]
  rw [isFn, Bool.and_eq_true] at h
  rw [namesR, if_pos h.1, e2, nw_fn]
  refine onceR_eq (putsR_asc _ _ (by simp [Asc])) (fun x => ?_)
  rw [putsR_mem]
  simp only [List.not_mem_nil, false_or, List.mem_flatMap, List.mem_append]
  constructor
  · rintro ⟨p, hp1, hp2⟩
    rw [hri p (by simpa using hp1), onceR_mem] at hp2
    rcases hp1 with hp1 | hp1
    · exact .inl ⟨p, hp1, hp2⟩
    · simp at hp1; subst hp1; exact .inr hp2
  · rintro (⟨p, hp1, hp2⟩ | hx)
    · exact ⟨p, .inl hp1, by rw [hri p (by simp [hp1]), onceR_mem]; exact hp2⟩
    · exact ⟨r, .inr (by simp), by rw [hri r (by simp), onceR_mem]; exact hx⟩
/-- An array's type. -/
theorem arr_text {l : List UInt8} (h : isArr l = true) : ∃ x, l = arrR x ∧ one x = some [] ∧ elemR l = x ∧ l.length ≤ 200 := by
  rw [isArr, Bool.and_eq_true] at h
  have hl := rightR_len h.1
  have h1 := rightR_one h.1
  obtain ⟨c, y, rfl, hc⟩ := isHead_pos h.2
  have hc' : c = 91 := UInt8.toNat_inj.1 hc
  rw [one_arr y hc] at h1
  obtain ⟨z, h2, h3⟩ := Option.bind_eq_some_iff.1 h1
  split at h3
  · cases h3
  · rename_i d t
    split at h3
    · rename_i hd
      simp only [Option.some.injEq] at h3
      subst h3
      have hd' : d = 93 := UInt8.toNat_inj.1 hd
      obtain ⟨x, _, e⟩ := one_suffix h2
      refine ⟨x, by rw [e, hc', hd', arrR], one_piece (r := [d]) (by rw [← e]; exact h2), ?_, hl⟩
      rw [e, elemR]
      simp
    · cases h3
theorem names_elem {l : List UInt8} (h : isArr l = true) : namesR l = namesR (elemR l) ∧ (elemR l).length < l.length := by
  obtain ⟨x, e, h1, h2, h3⟩ := arr_text h
  rw [h2]
  subst e
  have : (arrR x).length = x.length + 2 := by simp [arrR]
  exact ⟨names_arr h1 (by omega), by omega⟩
theorem wordR_all {l : List UInt8} (h : ∀ c ∈ l, notSign c = true) : wordR l = l := by
  have := word_stop (r := []) h (.inl rfl)
  rwa [List.append_nil] at this
theorem nw_word {l : List UInt8} (h : wordR l = l) : nw l = if namedR l = true then [l] else [] := by
  rw [nw_next, h, List.drop_eq_nil_of_le (by omega), nw_nil, List.append_nil]
theorem names_named {l : List UInt8} (h : namedR l = true) : namesR l = [l] := by
  have hr := ((kind_named l).2 h).1
  rw [namesR, if_pos hr]
  obtain ⟨a, b, e, ha, hb, _, _⟩ := named_split h
  have hw : wordR l = l := by
    refine wordR_all (fun c hc => ?_)
    rw [e] at hc
    simp only [List.mem_append, List.mem_cons] at hc
    rcases hc with hc | rfl | hc
    · exact letter_sign (value_all ha c hc)
    · rfl
    · exact letter_sign (big_all hb c hc)
  rw [nw_word hw, if_pos h]
  exact onceR_eq (by simp [Asc]) (fun x => Iff.rfl)
theorem names_none {l : List UInt8} (h1 : isArr l = false) (h2 : isFn l = false) (h3 : namedR l = false) : namesR l = [] := by
  rw [namesR]
  split
  · rename_i hr
    have ho := rightR_one hr
    cases l with
    | nil => rw [one_nil] at ho; cases ho
    | cons c y =>
      have c1 : c.toNat ≠ 91 := by intro e; rw [isArr, hr, isHead_cons, decide_eq_true e] at h1; cases h1
      have c2 : c.toNat ≠ 40 := by intro e; rw [isFn, hr, isHead_cons, decide_eq_true e] at h2; cases h2
      rw [one_word y c1 c2] at ho
      split at ho
      · simp only [Option.some.injEq] at ho
        have e := word_split (c :: y)
        rw [ho, List.append_nil] at e
        rw [nw_word e.symm, if_neg (by rw [h3]; decide)]
        exact onceR_eq (by simp [Asc]) (fun x => Iff.rfl)
      · cases ho
  · rfl
theorem flat_len : ∀ (qs : List (List UInt8)), (∀ x ∈ qs, x.length ≤ 400) → (qs.flatMap namesR).length ≤ 400 * qs.length
  | [], _ => by simp
  | q :: qs, h => by
    have h1 := names_len q (h q (by simp))
    have h2 := flat_len qs (fun x hx => h x (by simp [hx]))
    rw [List.flatMap_cons, List.length_append, List.length_cons]
    omega
theorem puts_append (l a b : List (List UInt8)) : putsR l (a ++ b) = putsR (putsR l a) b := by simp [putsR]
end Go.Proofs.YtcjlifhehiolkaaGreat

namespace Go.Proofs.YtcjlifhehiolkaaGreat
open Go.RowKit

theorem less_is (a b : List UInt8) : Op.bytesLess (str a).toList (str b).toList = decide (a < b) := by
  rw [Lib.toList_data, Lib.toList_data, str_data, str_data, bytesLess_eq]
theorem geq_is (a b : List UInt8) : (!Op.bytesLess (str a).toList (str b).toList) = decide (b ≤ a) := by
  rw [less_is, ← decide_not, Bool.eq_iff_iff, decide_eq_true_iff, decide_eq_true_iff, List.not_lt]
theorem neq_is (a b : List UInt8) : ((str a).toList != (str b).toList) = decide (a ≠ b) := by
  rw [Lib.toList_data, Lib.toList_data, str_data, str_data, Bool.eq_iff_iff, bne_iff_ne, decide_eq_true_iff]
theorem eq_is (a b : List UInt8) : ((str a).toList == (str b).toList) = decide (a = b) := by
  rw [Lib.toList_data, Lib.toList_data, str_data, str_data, Bool.eq_iff_iff, beq_iff_eq, decide_eq_true_iff]

set_option maxHeartbeats 8000000 in
set_option maxRecDepth 1000000 in
theorem put5 (v : Value) (xs : List (List UInt8)) (s : List UInt8) (w : World) (h : StrRow w v xs) (hl : xs.length ≤ 4000) : Calls Tryz.prog 28 #[v, .string (str s)] w fun e w' => ∃ v', e = .returned v' ∧ StrRow w' v' (putR xs s) ∧ Below w.heap.size w w' := by
  obtain ⟨va, vc, rfl⟩ := h.shape
  have H := hidden h
  clear h
  go_enter Tryz.func28, Tryz.ntmps28
  go_wp2
  go_loopg [5, 6, 7] xs.length (fun g o d i wr => ∃ (k : Nat) (acc : List (List UInt8)) (b : Bool), g + k = xs.length ∧ i = .int .i64 (k : Int) ∧ d = .bool b ∧ acc.length ≤ 2 * k ∧ Hid (acc ++ putF s b (xs.drop k) = putR xs s) ∧ wr.ownsRow w.heap.size 9 1 o acc.length (sc acc) ∧ Below w.heap.size w wr)
  case atStart => exact ⟨0, [], false, by omega, rfl, rfl, by simp, by rw [hid_iff]; rfl, World.ownsRow_nil _ _ _ _, Below.refl _ _⟩
  case round =>
    obtain ⟨k, acc, b, hg, rfl, rfl, hal, hq, hown, hbl⟩ := hrel
    have hB := hbl.size
    by_cases hk : k < xs.length
    · obtain ⟨bk, o, c, e1, q1⟩ := (H.out.below hbl).at k hk
      simp only [Value.slice.injEq, true_and] at e1
      obtain ⟨rfl, rfl⟩ := e1
      have q1b : ∀ u, Below w.heap.size w u → u.cell? ⟨bk, o + k, none⟩ = some (.string (str xs[k])) := by
        intro u hu
        obtain ⟨bk', o', c', e1, q1⟩ := (H.out.below hu).at k hk
        simp only [Value.slice.injEq, Option.some.injEq, Addr.mk.injEq, and_true, true_and] at e1
        obtain ⟨⟨rfl, rfl⟩, _⟩ := e1
        exact q1
      have hki : (k : Int) < (xs.length : Int) := by omega
      have hdr : xs.drop k = xs[k] :: xs.drop (k + 1) := List.drop_eq_getElem_cons hk
      generalize xs[k] = x at *
      have hge := geq_is x s
      have hne := neq_is x s
      have heq := eq_is x s
      by_cases hxs : x = s
      · rw [decide_eq_false (fun h => h hxs)] at hne
        rw [decide_eq_true hxs] at heq
        subst hxs
        cases b with
        | false =>
          have hc : x ≤ x := List.le_refl _
          rw [decide_eq_true hc] at hge
          have HQ : Hid ((acc ++ [x]) ++ putF x true (xs.drop (k + 1)) = putR xs x) := by
            rw [hid_iff, ← hq.out, hdr, putF]
            simp
          clear hq hdr
          go_wp2_with (at_builtin; refine append_text rfl (.tmp 24) (.tmp 26) rfl w.heap.size _ acc rfl (hown.alloc _) _ _ x rfl ?src1 ?len1 ?hB1 ?next1)
          case src1 => first | exact cells_new _ _ _ | exact fun j u h => h
          case len1 => first | omega | (simp; omega)
          case hB1 => first | omega | (simp; omega)
          case next1 =>
            intro ad1 c1 wz1 a1 g1
            have b1 := below_grown (hown.alloc _) (by simp; omega) (hbl.alloc (by omega) _) g1
            have s1 := b1.size
            clear g1 hown hbl
            have q2 := q1b _ b1
            clear q1b q1
            go_wp2
            go_roundg (xs.length - (k + 1))
            case measure => omega
            case rel => exact ⟨k + 1, acc ++ [x], true, by omega, by go_num, rfl, by first | omega | (simp; omega), HQ, by simpa using a1, b1⟩
        | true =>
          have HQ : Hid (acc ++ putF x true (xs.drop (k + 1)) = putR xs x) := by
            rw [hid_iff, ← hq.out, hdr, putF]
            simp
          clear hq hdr q1b
          go_wp2
          go_roundg (xs.length - (k + 1))
          case measure => omega
          case rel => exact ⟨k + 1, acc, true, by omega, by go_num, rfl, by first | omega | (simp; omega), HQ, hown, hbl⟩
      · rw [decide_eq_true hxs] at hne
        rw [decide_eq_false hxs] at heq
        cases b with
        | false =>
          by_cases hc : s ≤ x
          · rw [decide_eq_true hc] at hge
            have HQ : Hid (((acc ++ [s]) ++ [x]) ++ putF s true (xs.drop (k + 1)) = putR xs s) := by
              rw [hid_iff, ← hq.out, hdr, putF]
              simp [hc, hxs]
            clear hq hdr
            go_wp2_with (at_builtin; refine append_text rfl (.tmp 24) (.tmp 26) rfl w.heap.size _ acc rfl (hown.alloc _) _ _ s rfl ?src1 ?len1 ?hB1 ?next1)
            case src1 => first | exact cells_new _ _ _ | exact fun j u h => h
            case len1 => first | omega | (simp; omega)
            case hB1 => first | omega | (simp; omega)
            case next1 =>
              intro ad1 c1 wz1 a1 g1
              have b1 := below_grown (hown.alloc _) (by simp; omega) (hbl.alloc (by omega) _) g1
              have s1 := b1.size
              clear g1 hown hbl
              have q2 := q1b _ b1
              clear q1b q1
              have a1x : wz1.ownsRow w.heap.size 9 1 (.slice (some ad1) (acc.length + 1) c1) (acc ++ [s]).length (sc (acc ++ [s])) := by simpa using a1
              have hlen1 : (acc ++ [s]).length = acc.length + 1 := by simp
              go_wp2_with (at_builtin; refine append_text rfl (.tmp 34) (.tmp 39) rfl w.heap.size _ (acc ++ [s]) rfl (a1x.alloc _) _ _ x rfl ?src2 ?len2 ?hB2 ?next2)
              case src2 => first | exact cells_new _ _ _ | exact fun j u h => h
              case len2 => first | omega | (simp; omega)
              case hB2 => first | omega | (simp; omega)
              case next2 =>
                intro ad2 c2 wz2 a2 g2
                have b2 := below_grown (a1x.alloc _) (by simp; omega) (b1.alloc (by omega) _) g2
                have s2 := b2.size
                clear g2 a1x b1
                go_wp2
                go_roundg (xs.length - (k + 1))
                case measure => omega
                case rel => exact ⟨k + 1, (acc ++ [s]) ++ [x], true, by omega, by go_num, rfl, by first | omega | (simp; omega), HQ, by simpa using a2, b2⟩
          · rw [decide_eq_false hc] at hge
            have HQ : Hid ((acc ++ [x]) ++ putF s false (xs.drop (k + 1)) = putR xs s) := by
              rw [hid_iff, ← hq.out, hdr, putF]
              simp [hc, hxs]
            clear hq hdr q1b
            go_wp2_with (at_builtin; refine append_text rfl (.tmp 34) (.tmp 39) rfl w.heap.size _ acc rfl (hown.alloc _) _ _ x rfl ?src1 ?len1 ?hB1 ?next1)
            case src1 => first | exact cells_new _ _ _ | exact fun j u h => h
            case len1 => first | omega | (simp; omega)
            case hB1 => first | omega | (simp; omega)
            case next1 =>
              intro ad1 c1 wz1 a1 g1
              have b1 := below_grown (hown.alloc _) (by simp; omega) (hbl.alloc (by omega) _) g1
              have s1 := b1.size
              clear g1 hown hbl
              go_wp2
              go_roundg (xs.length - (k + 1))
              case measure => omega
              case rel => exact ⟨k + 1, acc ++ [x], false, by omega, by go_num, rfl, by first | omega | (simp; omega), HQ, by simpa using a1, b1⟩
        | true =>
          have HQ : Hid ((acc ++ [x]) ++ putF s true (xs.drop (k + 1)) = putR xs s) := by
            rw [hid_iff, ← hq.out, hdr, putF]
            simp [hxs]
          clear hq hdr q1b
          go_wp2_with (at_builtin; refine append_text rfl (.tmp 34) (.tmp 39) rfl w.heap.size _ acc rfl (hown.alloc _) _ _ x rfl ?src1 ?len1 ?hB1 ?next1)
          case src1 => first | exact cells_new _ _ _ | exact fun j u h => h
          case len1 => first | omega | (simp; omega)
          case hB1 => first | omega | (simp; omega)
          case next1 =>
            intro ad1 c1 wz1 a1 g1
            have b1 := below_grown (hown.alloc _) (by simp; omega) (hbl.alloc (by omega) _) g1
            have s1 := b1.size
            clear g1 hown hbl
            go_wp2
            go_roundg (xs.length - (k + 1))
            case measure => omega
            case rel => exact ⟨k + 1, acc ++ [x], true, by omega, by go_num, rfl, by first | omega | (simp; omega), HQ, by simpa using a1, b1⟩
    · have hki : ¬ (k : Int) < (xs.length : Int) := by omega
      cases b with
      | false =>
        have HQ : Hid (acc ++ [s] = putR xs s) := by rw [hid_iff, ← hq.out, List.drop_eq_nil_of_le (by omega)]; rfl
        clear hq
        go_wp2_with (at_builtin; refine append_text rfl (.tmp 43) (.tmp 45) rfl w.heap.size _ acc rfl (hown.alloc _) _ _ s rfl ?src1 ?len1 ?hB1 ?next1)
        case src1 => first | exact cells_new _ _ _ | exact fun j u h => h
        case len1 => first | omega | (simp; omega)
        case hB1 => first | omega | (simp; omega)
        case next1 =>
          intro ad1 c1 wz1 a1 g1
          have b1 := below_grown (hown.alloc _) (by simp; omega) (hbl.alloc (by omega) _) g1
          have s1 := b1.size
          clear g1 hown hbl
          go_wp2
          go_ret
          exact ⟨_, rfl, by rw [← HQ.out]; exact strRow_own (by simpa using a1), b1⟩
      | true =>
        have HQ : Hid (acc = putR xs s) := by rw [hid_iff, ← hq.out, List.drop_eq_nil_of_le (by omega)]; simp [putF]
        clear hq
        go_wp2
        go_ret
        exact ⟨_, rfl, by rw [← HQ.out]; exact strRow_own hown, hbl⟩
end Go.Proofs.YtcjlifhehiolkaaGreat

namespace Go.Proofs.YtcjlifhehiolkaaGreat
open Go.RowKit

theorem strRow_drew {w : World} {v : Value} {xs : List (List UInt8)} (h : StrRow w v xs) (n : Nat) : StrRow (w.drewN n) v xs := h

set_option maxHeartbeats 4000000 in
set_option maxRecDepth 1000000 in
theorem refNamesStep (s : ByteArray) (w : World) (IH : ∀ s' : ByteArray, s'.size < s.size → ∀ u, Calls Tryz.prog 14 #[.string s'] u (NamesE s'.data.toList u)) : Calls Tryz.prog 14 #[.string s] w (NamesE s.data.toList w) := by
  have hel := fun u => refElem s u
  have hpt := fun u => refPartsOf s u
  have hkd := fun u => refKind s u
  unfold RElemE at hel
  cases hA : isArr s.data.toList with
  | true =>
    obtain ⟨hn, hlt⟩ := names_elem hA
    rw [size_len] at hlt
    have hrec := fun u => IH (str (elemR s.data.toList)) (by rw [str_size]; exact hlt) u
    rw [str_data] at hrec
    simp only [hA, if_true] at hel
    have HN := hidden hn
    clear hA IH hpt hkd hn
    generalize elemR s.data.toList = x at *
    go_enter Tryz.func14, Tryz.ntmps14
    go_wp2_with fail
    refine (hel _).mono ?_
    rintro e w1 ⟨rfl, rfl⟩
    go_wp2_with fail
    refine (hrec _).mono ?_
    rintro e w2 ⟨v, rfl, hv, hb⟩
    go_wp2
    go_ret
    exact ⟨v, rfl, by rw [HN.out]; exact hv, hb⟩
  | false =>
    simp only [hA, Bool.false_eq_true, if_false] at hel
    cases hF : isFn s.data.toList with
    | false =>
      have hpt' : ∀ u, Calls Tryz.prog 7 #[.string s] u fun e w' => e = .returned (.tuple #[.slice none 0 0, .string (str []), .bool false]) ∧ Below u.heap.size u w' := by
        intro u
        refine (hpt u).mono ?_
        rintro e w' ⟨⟨h2, _⟩ | ⟨_, h2⟩, h4⟩
        · rw [hF] at h2; cases h2
        · exact ⟨h2, h4⟩
      clear hpt
      cases hM : namedR s.data.toList with
      | true =>
        have hk : ((kindV s.data.toList : Int) == 4) = true := by rw [beq_iff_eq, (kind_nm _).2 hM]; rfl
        have HN := hidden (names_named hM)
        have HS : Hid (str s.data.toList = s) := str_toList s
        clear hA hF hM IH
        generalize kindV s.data.toList = kk at *
        go_enter Tryz.func14, Tryz.ntmps14
        go_wp2_with fail
        refine (hel _).mono ?_
        rintro e w1 ⟨rfl, rfl⟩
        go_wp2_with fail
        refine (hpt' _).mono ?_
        rintro e w2 ⟨rfl, hb⟩
        go_wp2_with fail
        refine (hkd _).mono ?_
        rintro e w3 ⟨rfl, rfl⟩
        go_wp2
        go_ret
        refine ⟨_, rfl, ?_, hb.alloc hb.size _⟩
        rw [HN.out]
        refine .inr ⟨w3.heap.size, 0, 1, rfl, by simp, by simp, fun j x hj => ?_⟩
        match j, hj with
        | 0, hj => simp at hj; subst hj; rw [HS.out]; simp
        | j + 1, hj => simp at hj
      | false =>
        have hk : ((kindV s.data.toList : Int) == 4) = false := by
          rw [beq_eq_false_iff_ne]; intro h; rw [(kind_nm _).1 (by omega)] at hM; cases hM
        have HN := hidden (names_none hA hF hM)
        clear hA hF hM IH
        generalize kindV s.data.toList = kk at *
        go_enter Tryz.func14, Tryz.ntmps14
        go_wp2_with fail
        refine (hel _).mono ?_
        rintro e w1 ⟨rfl, rfl⟩
        go_wp2_with fail
        refine (hpt' _).mono ?_
        rintro e w2 ⟨rfl, hb⟩
        go_wp2_with fail
        refine (hkd _).mono ?_
        rintro e w3 ⟨rfl, rfl⟩
        go_wp2
        go_ret
        exact ⟨_, rfl, by rw [HN.out]; exact .inl ⟨rfl, none, 0, rfl⟩, hb⟩
    | true =>
      obtain ⟨ps, r, hpr⟩ : ∃ ps r, partsR s.data.toList = (ps, r) := ⟨_, _, rfl⟩
      obtain ⟨hn1, hn2, hn3⟩ := names_fn hF hpr
      rw [size_len] at hn3
      have hl200 : s.size ≤ 200 := by
        rw [isFn, Bool.and_eq_true] at hF
        have := rightR_len hF.1
        rwa [size_len] at this
      have hpt' : ∀ u, Calls Tryz.prog 7 #[.string s] u fun e w' => ∃ v, e = .returned (.tuple #[v, .string (str r), .bool true]) ∧ StrRow w' v ps ∧ Below u.heap.size u w' := by
        intro u
        refine (hpt u).mono ?_
        rintro e w' ⟨⟨_, v, h2, h3⟩ | ⟨h2, _⟩, h4⟩
        · rw [hpr] at h2 h3
          exact ⟨v, h2, h3, h4⟩
        · rw [hF] at h2; cases h2
      have hps : ps.length ≤ 6 := by rw [List.length_append, List.length_singleton] at hn2; omega
      have hrec : ∀ x ∈ ps ++ [r], ∀ u, Calls Tryz.prog 14 #[.string (str x)] u (NamesE x u) := fun x hx u => by
        have := IH (str x) (by rw [str_size]; exact hn3 x hx) u
        rwa [str_data] at this
      have hfl : ∀ k, ((((ps ++ [r]).take k).flatMap namesR)).length ≤ 2800 := by
        intro k
        have := flat_len ((ps ++ [r]).take k) (fun x hx => by have := hn3 x (List.mem_of_mem_take hx); omega)
        have h2 : ((ps ++ [r]).take k).length ≤ 7 := by rw [List.length_take]; omega
        omega
      have hnl : ∀ x ∈ ps ++ [r], (namesR x).length ≤ 400 := fun x hx => names_len x (by have := hn3 x hx; omega)
      have HN := hidden hn1
      have HC := hidden hrec
      have HFL := hidden hfl
      have HNL := hidden hnl
      clear hA hF IH hpt hkd hpr hn1 hn3 hrec hfl hnl
      go_enter Tryz.func14, Tryz.ntmps14
      go_wp2_with fail
      refine (hel _).mono ?_
      rintro e w1 ⟨rfl, rfl⟩
      go_wp2_with fail
      refine (hpt' _).mono ?_
      rintro e w6 ⟨v, rfl, hx6, hb6⟩
      obtain ⟨xa, xc, rfl⟩ := hx6.shape
      have hown0 : (w6.alloc (.cells #[] 9)).ownsRow w6.heap.size 9 1 (.slice (some ⟨w6.heap.size, 0, none⟩) 0 0) ([] : List (List UInt8)).length (sc []) := World.ownsRow_made w6 #[] 0 (Nat.le_refl _) (by decide) rfl
      have hs6 : (w6.alloc (.cells #[] 9)).heap.size = w6.heap.size + 1 := by simp
      have hb7 : Below w6.heap.size w6 (w6.alloc (.cells #[] 9)) := (Below.refl _ _).alloc (Nat.le_refl _) _
      clear hel hpt'
      go_wp2_with (at_builtin; refine append_srow rfl (.tmp 27) (.tmp 28) rfl w6.heap.size _ [] rfl hown0 _ ps rfl (hx6.below hb7) ?len1 ?hB1 ?next1)
      case len1 => simp; omega
      case hB1 => omega
      case next1 =>
        intro v1 w8 k1 g1
        have hb8 := below_grown hown0 (by omega) hb7 g1
        clear hown0 hb7 g1 hs6
        have k1 : w8.ownsRow w6.heap.size 9 1 v1 ps.length (sc ps) := k1
        have hs8 := hb8.size
        go_wp2_with (at_builtin; refine append_text rfl (.tmp 29) (.tmp 31) rfl w6.heap.size _ ps rfl (k1.alloc _) _ _ r rfl ?src2 ?len2 ?hB2 ?next2)
        case src2 => first | exact cells_new _ _ _ | exact fun j u h => h
        case len2 => first | omega | (simp; omega)
        case hB2 => first | omega | (simp; omega)
        case next2 =>
          intro ad2 c2 w9 k2 g2
          have hb9 := below_grown (k1.alloc _) (by simp; omega) (hb8.alloc (by omega) _) g2
          have hr9 := strRow_own (xs := ps ++ [r]) (by simpa using k2)
          have hbl9 := below_trans hb6 hb9
          clear k1 k2 g2 hb8 hb9 hx6 hb6 hs8
          have hll : (ps ++ [r]).length = ps.length + 1 := by simp
          generalize hzz : ps ++ [r] = qs at *
          rw [← hll] at hr9 ⊢
          have H9 := hidden hr9
          clear hr9 hzz hll
          go_wp2
          go_loopg [3, 9] qs.length (fun g v k wr => ∃ (j : Nat), g + j = qs.length ∧ k = .int .i64 (j : Int) ∧ StrRow wr v (putsR [] ((qs.take j).flatMap namesR)) ∧ Below w9.heap.size w9 wr)
          case atStart => exact ⟨0, by omega, rfl, .inl ⟨rfl, none, 0, rfl⟩, Below.refl _ _⟩
          case round =>
            obtain ⟨j, hg, rfl, hrw, hbr⟩ := hrel
            by_cases hj : j < qs.length
            · obtain ⟨bk, o, c, e1, q1⟩ := (H9.out.below hbr).at j hj
              simp only [Value.slice.injEq, true_and, Option.some.injEq] at e1
              obtain ⟨rfl, rfl⟩ := e1
              have hji : (j : Int) < (qs.length : Int) := by omega
              have hnm := HC.out qs[j] (List.getElem_mem hj)
              have hnl := HNL.out qs[j] (List.getElem_mem hj)
              have hf1 := HFL.out j
              have HP : Hid (putsR [] ((qs.take (j + 1)).flatMap namesR) = putsR (putsR [] ((qs.take j).flatMap namesR)) (namesR qs[j])) := by
                rw [hid_iff, List.take_succ_eq_append_getElem hj, List.flatMap_append, puts_append]
                simp
              have hpl := putsR_length ((qs.take j).flatMap namesR) []
              rw [List.length_nil] at hpl
              unfold NamesE at hnm
              generalize putsR [] ((qs.take j).flatMap namesR) = acc at *
              generalize namesR qs[j] = ns at *
              generalize qs[j] = q at *
              go_wp2_with fail
              refine (hnm _).mono ?_
              rintro e w10 ⟨nv, rfl, hr10, hb10⟩
              have hacc := hrw.below hb10
              have hbr10 := below_trans hbr hb10
              clear hrw hbr hb10 hnm q1
              obtain ⟨na, nc, rfl⟩ := hr10.shape
              have H10 := hidden hr10
              clear hr10
              go_wp2
              go_loopg [3, 11] ns.length (fun g v k wr => ∃ (i : Nat), g + i = ns.length ∧ k = .int .i64 (i : Int) ∧ StrRow wr v (putsR acc (ns.take i)) ∧ Below w10.heap.size w10 wr)
              case atStart => exact ⟨0, by omega, rfl, hacc, Below.refl _ _⟩
              case round =>
                obtain ⟨i, hg2, rfl, hrw2, hbr2⟩ := hrel
                by_cases hi : i < ns.length
                · obtain ⟨bk2, o2, c2', e1, q2⟩ := (H10.out.below hbr2).at i hi
                  simp only [Value.slice.injEq, true_and] at e1
                  obtain ⟨rfl, rfl⟩ := e1
                  have hii : (i : Int) < (ns.length : Int) := by omega
                  have hpl2 := putsR_length (ns.take i) acc
                  rw [List.length_take] at hpl2
                  have HP2 : Hid (putsR acc (ns.take (i + 1)) = putR (putsR acc (ns.take i)) ns[i]) := puts_next hi
                  generalize putsR acc (ns.take i) = acc2 at *
                  generalize ns[i] = n at *
                  have hput := put5 _ acc2 n _ hrw2 (by omega)
                  clear hrw2
                  go_wp2_with fail
                  refine hput.mono ?_
                  rintro e w11 ⟨v11, rfl, hr11, hb11⟩
                  have hb12 := below_trans hbr2 hb11
                  clear hput hbr2 hb11
                  go_wp2
                  go_roundg (ns.length - (i + 1))
                  case measure => omega
                  case rel => exact ⟨i + 1, by omega, by go_num, by rw [HP2.out]; exact hr11, hb12⟩
                · have hii : ¬ (i : Int) < (ns.length : Int) := by omega
                  rw [List.take_of_length_le (by omega)] at hrw2
                  have hb12 := below_trans hbr10 hbr2
                  go_wp2
                  go_roundg (qs.length - (j + 1))
                  case measure => omega
                  case rel => exact ⟨j + 1, by omega, by go_num, by rw [HP.out]; exact hrw2, hb12⟩
            · have hji : ¬ (j : Int) < (qs.length : Int) := by omega
              rw [List.take_of_length_le (by omega)] at hrw
              have hbl10 := below_trans hbl9 hbr
              clear H9 hbr hbl9
              go_wp2
              go_ret
              exact ⟨_, rfl, by rw [HN.out]; exact hrw, hbl10⟩
theorem refNamesAll : ∀ (n : Nat) (s : ByteArray), s.size < n → ∀ u, Calls Tryz.prog 14 #[.string s] u (NamesE s.data.toList u)
  | 0, s, h => by omega
  | n + 1, s, h => fun u => refNamesStep s u (fun s' h' => refNamesAll n s' (by omega))
theorem refNames (s : ByteArray) (u : World) : Calls Tryz.prog 14 #[.string s] u (NamesE s.data.toList u) := refNamesAll (s.size + 1) s (by omega) u
end Go.Proofs.YtcjlifhehiolkaaGreat
