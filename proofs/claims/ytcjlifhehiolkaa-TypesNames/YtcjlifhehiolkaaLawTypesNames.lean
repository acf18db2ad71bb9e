/-
  TypesNames: the named types of a type are those of its parts, each once, in order: for any numbers. No condition but those of the row.
-/
import Derived.Deep.LoopGhost
import Derived.Laws.AppendOwnNone
import Derived.Test.YtcjlifhehiolkaaRows
import Derived.Test.YtcjlifhehiolkaaTypesMadeS
import Derived.Test.YtcjlifhehiolkaaTypesNames
import Derived.Test.YtcjlifhehiolkaaTypesPut
import Derived.ProofKit
import Derived.OpenShut
import Derived.Deep.Slices
namespace Go.Proofs.Ytcjlifhehiolkaa
open Go.ChangeShapes Go.WideShapes Go.ChangeAt Go.RowKit Go.Deep

theorem ints_rows {H : Type} {enc : TypeId × Value → H} {W : World} {fuel : Nat} {a0 : Option Addr} {len0 cap0 : Nat} {x : DataW H × List MemPlace} (hf : DataW.trod enc Try.prog W 0 (fun _ => true) true fuel 43 [.slice a0 len0 cap0] = some x) :
    ∃ zs : List Int, zs.length = len0 ∧ len0 ≤ cap0 ∧ cap0 ≤ maxLen ∧ (∀ z ∈ zs, -9223372036854775808 ≤ z ∧ z ≤ 9223372036854775807) ∧ (0 < len0 → ∃ b, a0 = some b) ∧ ∀ b, a0 = some b → 0 < len0 → b.block < W.heap.size ∧ ∀ (j : Nat) z, zs[j]? = some z → W.cell? (b.add j) = some (.int .i64 z) := by
  rcases open_ints Try.underlying43 Try.underlying3 (by kernel_rfl) hf with ⟨hcs, _⟩ | ⟨a, ln, c, zs, hcs, _, hl, hm, hz, _, hcell, hwz⟩
  · simp at hcs
    obtain ⟨rfl, rfl, rfl⟩ := hcs
    exact ⟨[], rfl, Nat.le_refl _, by unfold maxLen; omega, by simp, by simp, by simp⟩
  · simp at hcs
    obtain ⟨rfl, rfl, rfl⟩ := hcs
    simp at hz
    have hc : ∀ (j : Nat) z, (zs.take len0)[j]? = some z → W.cell? (a.add j) = some (.int .i64 z) := by
      intro j z hj
      rw [List.getElem?_take] at hj
      split at hj
      · have hlt : j < zs.length := (List.getElem?_eq_some_iff.1 hj).1
        rw [hcell j hlt]
        simp [List.getD, hj]
      · cases hj
    refine ⟨zs.take len0, by rw [List.length_take]; omega, hl, hm, fun z h => bounds_i64 (hwz z (List.mem_of_mem_take h)), fun _ => ⟨a, rfl⟩, fun b hb h0 => ?_⟩
    cases hb
    refine ⟨?_, hc⟩
    have h1 : 0 < (zs.take len0).length := by rw [List.length_take]; omega
    have := World.block_lt_of_cell? W _ (hc 0 _ (List.getElem?_eq_getElem h1))
    rwa [add_block] at this

theorem at_start (w : World) : AtIs (w.alloc (.cells #[.int .i64 0] 3)) w.heap.size 0 := heap_alloc_new w _
theorem below_kept {w w' : World} {o : Obj} (h : Kept (fun b => b = w.heap.size) (w.alloc o) w') : Below w.heap.size w w' :=
  ((Below.refl _ _).alloc (Nat.le_refl _) o).trans (h.below (by simp) (fun k hk e => by omega))

/-- append of texts onto a row of the call's own. -/
theorem append_srow {w : World} {ops : Array Oper} {rest : List Oper} {o : Oper} {a : Act} {Q : Exit → Act → World → Prop} (hgd : o.guard = none) (s x : Operand)
    (ho : o.op = .call { callee := .builtin .append, args := #[s, x], argTypes := #[22, 22] })
    (B : Nat) (v : Value) (acc : List (List UInt8)) (hs : a.eval s = v) (hown : w.ownsRow B 9 1 v acc.length (sc acc))
    (xv : Value) (xs : List (List UInt8)) (hx : a.eval x = xv) (hxs : StrRow w xv xs)
    (hlen : acc.length + xs.length ≤ 8192) (hB : B ≤ w.heap.size)
    (h : ∀ v' w', w'.ownsRow B 9 1 v' (acc ++ xs).length (sc (acc ++ xs)) → w.grownBy w' v.ownBlock → wpList Try.prog ops Q rest (a.put o.dst v') w') :
    wpList Try.prog ops Q (o :: rest) a w := by
  obtain ⟨i, z, hi, hz, h1, h2, h3⟩ := info_z infoS
  have key : ∀ ad c, xv = .slice (some ad) xs.length c → (∀ j u, (sc xs)[j]? = some u → w.cell? (ad.add j) = some u) → wpList Try.prog ops Q (o :: rest) a w := by
    intro ad c he hc
    refine wpList_append_own w hgd s x 22 ho B 9 i z 1 16 Try.underlying22 hi hz h1 h2 h3 (by decide) v acc.length (sc acc) hs hown ad xs.length c (sc xs) (by rw [hx, he]) (by rw [sc_length]; omega) hc (fun u hu => ?_) (by unfold maxLen; omega) (by omega) hB ?_
    · obtain ⟨_, _, rfl⟩ := List.mem_map.1 hu
      rfl
    intro v' w' k1 k2 k3
    rw [← sc_append] at k1
    exact h v' w' (by rw [List.length_append]; exact k1) k2
  rcases hxs with ⟨rfl, ad, c, rfl⟩ | ⟨bk, of, c, rfl, _, _, h4⟩
  · cases ad with
    | none =>
      refine wpList_plain hgd fun K hK => ?_
      have hrun : (Builtin.append_ #[22, 22] o.type #[v, .slice none 0 c]).run Try.prog w = .ok v w := by
        rcases hown.2 with ⟨rfl, h0⟩ | ⟨g, cap, cur, rfl, _, _, hnc, _⟩
        · simp [Builtin.append_, run_underlying Try.underlying22, sizeOf, typeInfo, hi, Builtin.lenOf, Builtin.firstCells]
        · simp [Builtin.append_, run_underlying Try.underlying22, sizeOf, typeInfo, hi, Builtin.lenOf, Builtin.firstCells, hnc, storeCells]
      unfold Oper.wp
      simp [execOp, ho, resolve, invoke, builtin, hs, hx, hrun, Result.andThen]
      exact hK _ _ (h v w (by rw [List.append_nil]; exact hown) ⟨rfl, rfl, rfl, Nat.le_refl _, fun _ _ _ => rfl⟩)
    | some ad => exact key ad c rfl (fun j u hj => by simp [sc] at hj)
  · refine key ⟨bk, of, none⟩ c rfl (fun j u hj => ?_)
    rw [sc, List.getElem?_map] at hj
    obtain ⟨y, hy, rfl⟩ := Option.map_eq_some_iff.1 hj
    have : (⟨bk, of, none⟩ : Addr).add j = ⟨bk, of + j, none⟩ := by unfold Addr.add; split <;> simp_all
    rw [this]
    exact h4 j y hy

/-! What follows of names, with no program. -/
theorem nwF_length : ∀ (f : Nat) (l : List UInt8), (nwF f l).length ≤ l.length
  | 0, l => by simp [nwF]
  | f + 1, [] => by simp [nwF, wordR, namedR_nil]
  | f + 1, c :: l => by
    rw [nwF, List.length_append]
    have h1 : (if namedR (wordR (c :: l)) then [wordR (c :: l)] else []).length ≤ 1 := by split <;> simp
    have h3 : (c :: l).length = l.length + 1 := rfl
    by_cases h2 : (c :: l).length ≤ (wordR (c :: l)).length + 1
    · rw [if_pos h2, List.length_nil]; omega
    · rw [if_neg h2]
      have := nwF_length f ((c :: l).drop ((wordR (c :: l)).length + 1))
      rw [List.length_drop] at this
      omega
theorem names_len (l : List UInt8) (h : l.length ≤ 400) : (namesR l).length ≤ 400 := by
  rw [namesR]
  split
  · have h1 := compact_length (sortR (nw l))
    have h2 := nwF_length (l.length + 1) l
    rw [sortR_length] at h1
    have h3 : (nw l).length ≤ l.length := h2
    unfold onceR
    omega
  · simp
theorem nw_cons {c : UInt8} (l : List UInt8) (h : isSign c = true) : nw (c :: l) = nw l := by
  have := nw_append 0 [] l c (by simp) h
  rw [List.nil_append, nw_nil, List.nil_append] at this
  exact this
theorem nw_two {a l : List UInt8} {c : UInt8} (h : isSign c = true) : nw (a ++ c :: l) = nw a ++ nw l := nw_append _ a l c (Nat.le_refl _) h
theorem nw_arr (x : List UInt8) : nw (arrR x) = nw x := by
  rw [arrR, nw_cons _ rfl, nw_two rfl, nw_nil, List.append_nil]
theorem nw_f (a b : List UInt8) : nw (funcR [a, b, a] (arrR b)) = nw a ++ (nw b ++ (nw a ++ nw b)) := by
  rw [funcR, joinR_two, joinR_two, joinR_one, nw_cons _ rfl]
  simp only [List.append_assoc, List.cons_append]
  rw [nw_two rfl, nw_two rfl, nw_two rfl, nw_arr]
theorem names_f {a b : List UInt8} (ha : one a = some []) (hb : one b = some []) (hl : (funcR [a, b, a] (arrR b)).length ≤ 200) : namesR (funcR [a, b, a] (arrR b)) = putsR [] (namesR a ++ namesR b) := by
  have hla : a.length ≤ 200 ∧ b.length ≤ 200 := by
    simp [funcR, joinR_two, joinR_one, arrR] at hl
    omega
  have hra : rightR a = true := by simp [rightR, hla.1, ha]
  have hrb : rightR b = true := by simp [rightR, hla.2, hb]
  have hrf : rightR (funcR [a, b, a] (arrR b)) = true := by
    rw [rightR, decide_eq_true hl, one_funcR (by intro x hx; simp at hx; rcases hx with rfl | rfl | rfl <;> assumption) (one_arrR hb) (by simp)]
    simp
  rw [namesR, if_pos hrf, namesR, if_pos hra, namesR, if_pos hrb, nw_f]
  refine onceR_eq (putsR_asc _ _ (by simp [Asc])) (fun x => ?_)
  rw [putsR_mem]
  simp only [List.mem_append, onceR_mem, List.not_mem_nil, false_or]
  constructor
  · rintro (h | h)
    · exact .inl h
    · exact .inr (.inl h)
  · rintro (h | h | h | h)
    · exact .inl h
    · exact .inr h
    · exact .inl h
    · exact .inr h
theorem names_arr {a : List UInt8} (ha : one a = some []) (hl : a.length ≤ 198) : namesR (arrR a) = namesR a := by
  have hra : rightR a = true := by simp [rightR, ha]; omega
  have hrf : rightR (arrR a) = true := by
    rw [rightR, one_arrR ha]
    simp [arrR]; omega
  rw [namesR, if_pos hrf, namesR, if_pos hra, nw_arr]
theorem putF_length (s : List UInt8) : ∀ (l : List (List UInt8)) (b : Bool), (putF s b l).length ≤ l.length + (if b then 0 else 1)
  | [], b => by cases b <;> simp [putF]
  | x :: r, b => by
    rw [putF, List.length_append, List.length_append, List.length_cons]
    have ih := putF_length s r
    cases b with
    | true =>
      have := ih true
      have h1 : (if x ≠ s then [x] else []).length ≤ 1 := by split <;> simp
      simp at this h1 ⊢
      omega
    | false =>
      have h1 : (if x ≠ s then [x] else []).length ≤ 1 := by split <;> simp
      by_cases h : s ≤ x
      · have := ih true
        simp [h] at this h1 ⊢
        omega
      · have := ih false
        simp [h] at this h1 ⊢
        omega
theorem putR_length (l : List (List UInt8)) (s : List UInt8) : (putR l s).length ≤ l.length + 1 := putF_length s l false
theorem putsR_length : ∀ (m l : List (List UInt8)), (putsR l m).length ≤ l.length + m.length
  | [], l => by simp [putsR]
  | s :: m, l => by
    have h1 := putsR_length m (putR l s)
    have h2 := putR_length l s
    unfold putsR at h1 ⊢
    rw [List.foldl_cons]
    simp
    omega
theorem puts_next {m l : List (List UInt8)} {k : Nat} (h : k < m.length) : putsR l (m.take (k + 1)) = putR (putsR l (m.take k)) m[k] := by
  unfold putsR
  rw [List.take_succ_eq_append_getElem h, List.foldl_append]
  rfl

set_option maxHeartbeats 4000000 in
set_option maxRecDepth 1000000 in
theorem names_walk (lv : Value) (zs : List Int) (w : World) (hrow : ∀ ba, w.heap.size ≤ ba → IntRow w ba lv zs) (hz : zs.length ≤ 9223372036854775807) : Calls Try.prog 5 #[lv] w (KnownE w) := by
  have hk := known
  have hA0 := at_start w
  have hI0 : IntRow (w.alloc (.cells #[.int .i64 0] 3)) w.heap.size lv zs := (hrow w.heap.size (Nat.le_refl _)).kept ((Kept.refl _ w).alloc _)
  obtain ⟨la, lc, rfl⟩ := hI0.shape
  have hm2 := made_two
  have hbk : ∀ w', Kept (fun b => b = w.heap.size) (w.alloc (.cells #[.int .i64 0] 3)) w' → Below w.heap.size w w' := fun w' h => below_kept h
  clear hrow
  go_enter Try.func5, Try.ntmps5
  go_wp2_with fail
  generalize w.alloc (.cells #[.int .i64 0] 3) = w0 at *
  refine (hm2 w0 _ zs w.heap.size 0 zs.length hI0 hA0 (by omega) (Nat.le_refl _) hz).mono ?_
  rintro e w1 ⟨a, p1, rfl, ha1, ha2, hA1, hp1, hK1⟩
  go_wp2_with fail
  refine (hm2 w1 _ zs w.heap.size p1 zs.length (hI0.kept hK1) hA1 hp1 (Nat.le_refl _) hz).mono ?_
  rintro e w2 ⟨b, p2, rfl, hb1, hb2, hA2, hp2, hK2⟩
  have hbl2 := hbk w2 (hK1.trans hK2 (fun _ _ h => h) (fun _ _ h => h))
  have har := fun u => array b u (by omega)
  have hlit : StrRow (w2.alloc (.cells #[.string (str a), .string (str b), .string (str a)] 9)) (.slice (some ⟨w2.heap.size, 0, none⟩) 3 3) [a, b, a] := by
    refine .inr ⟨w2.heap.size, 0, 3, rfl, by simp, by simp, fun j x hj => ?_⟩
    match j, hj with
    | 0, hj => simp at hj; subst hj; simp
    | 1, hj => simp at hj; subst hj; simp
    | 2, hj => simp at hj; subst hj; simp
    | j + 3, hj => simp at hj
  have hbl3 : Below w.heap.size w (w2.alloc (.cells #[.string (str a), .string (str b), .string (str a)] 9)) := hbl2.alloc hbl2.size _
  have hj3 : (joinR [a, b, a]).length ≤ 1000 := by simp [joinR_two, joinR_one]; omega
  have hal : (arrR b).length ≤ 1000 := by simp [arrR]; omega
  have hfl : (funcR [a, b, a] (arrR b)).length ≤ 3000 := by simp only [funcR, List.length_cons, List.length_append]; omega
  have hfs : (str (funcR [a, b, a] (arrR b))).size = (funcR [a, b, a] (arrR b)).length := rfl
  have hfn := func _ [a, b, a] (arrR b) _ hlit (by simp) (by omega) (by omega)
  have HN := names_f (a := a) (b := b) ha1 hb1
  have HA := names_arr (a := a) ha1
  have hlf : (funcR [a, b, a] (arrR b)).length = 2 * a.length + 2 * b.length + 6 := by simp [funcR, joinR_two, joinR_one, arrR]; omega
  clear hbl2 hK1 hK2 hA2 hA1 hI0 hA0 hm2 hbk hj3 hlit
  go_wp2_with fail
  refine (har _).mono ?_
  rintro e w3 ⟨rfl, rfl⟩
  clear har
  generalize w2.alloc (.cells #[.string (str a), .string (str b), .string (str a)] 9) = w3 at *
  go_wp2_with fail
  refine hfn.mono ?_
  rintro e w4 ⟨rfl, hb4⟩
  have hbl4 := below_trans hbl3 hb4
  clear hfn hbl3 hb4
  by_cases c1 : 200 < (funcR [a, b, a] (arrR b)).length
  · have c1' : (200 : Int) < ((funcR [a, b, a] (arrR b)).length : Int) := by omega
    clear HN HA hlf
    generalize funcR [a, b, a] (arrR b) = fx at *
    go_wp2_with fail
    refine (hk _).mono ?_
    rintro e w7 ⟨rfl, hb7⟩
    go_wp2
    go_ret
    exact ⟨rfl, below_trans hbl4 hb7⟩
  · have c1' : ¬ (200 : Int) < ((funcR [a, b, a] (arrR b)).length : Int) := by omega
    have HN' : Hid (namesR (funcR [a, b, a] (arrR b)) = putsR [] (namesR a ++ namesR b)) := HN (by omega)
    have HA' : Hid (namesR (arrR a) = namesR a) := HA (by omega)
    have hna := names_len a (by omega)
    have hnb := names_len b (by omega)
    have haa := fun u => array a u (by omega)
    have hnA := fun u => namesOf (str a) u
    have hnB := fun u => namesOf (str b) u
    have hnF := fun u => namesOf (str (funcR [a, b, a] (arrR b))) u
    have hnR := fun u => namesOf (str (arrR a)) u
    unfold NamesE at hnA hnB hnF hnR
    simp only [str_data] at hnA hnB hnF hnR
    rw [HN'.out] at hnF
    rw [HA'.out] at hnR
    clear HN HA HN' HA' hlf ha1 hb1
    generalize funcR [a, b, a] (arrR b) = fx at *
    generalize arrR a = aa at *
    generalize namesR a = xs at *
    generalize namesR b = ys at *
    go_wp2_with fail
    refine (hnA _).mono ?_
    rintro e w5 ⟨xv, rfl, hx5, hb5⟩
    have hbl5 := below_trans hbl4 hb5
    clear hbl4 hb5 hnA
    go_wp2_with fail
    refine (hnB _).mono ?_
    rintro e w6 ⟨yv, rfl, hy6, hb6⟩
    have hbl6 := below_trans hbl5 hb6
    have hx6 := hx5.below hb6
    clear hbl5 hx5 hb6 hnB
    obtain ⟨xa, xc, rfl⟩ := hx6.shape
    obtain ⟨ya, yc, rfl⟩ := hy6.shape
    have hown0 : (w6.alloc (.cells #[] 9)).ownsRow w6.heap.size 9 1 (.slice (some ⟨w6.heap.size, 0, none⟩) 0 0) ([] : List (List UInt8)).length (sc []) := World.ownsRow_made w6 #[] 0 (Nat.le_refl _) (by decide) rfl
    have hs6 : (w6.alloc (.cells #[] 9)).heap.size = w6.heap.size + 1 := by simp
    have hb7 : Below w6.heap.size w6 (w6.alloc (.cells #[] 9)) := (Below.refl _ _).alloc (Nat.le_refl _) _
    go_wp2_with (at_builtin; refine append_srow rfl (.tmp 31) (.tmp 32) rfl w6.heap.size _ [] rfl hown0 _ xs rfl (hx6.below hb7) ?len1 ?hB1 ?next1)
    case len1 => simp; omega
    case hB1 => omega
    case next1 =>
      intro v1 w8 k1 g1
      have hb8 := below_grown hown0 (by omega) hb7 g1
      clear hown0 hb7 g1 hs6
      have k1 : w8.ownsRow w6.heap.size 9 1 v1 xs.length (sc xs) := k1
      have hs8 := hb8.size
      go_wp2_with (at_builtin; refine append_srow rfl (.tmp 33) (.tmp 34) rfl w6.heap.size _ xs rfl k1 _ ys rfl (hy6.below hb8) ?len2 ?hB2 ?next2)
      case len2 => omega
      case hB2 => omega
      case next2 =>
        intro v2 w9 k2 g2
        have hb9 := below_grown k1 (by omega) hb8 g2
        have hr9 := strRow_own (xs := xs ++ ys) (by rw [List.length_append]; exact k2)
        have hx9 := hx6.below hb9
        have hbl9 := below_trans hbl6 hb9
        clear k1 k2 g2 hb8 hb9 hx6 hy6 hbl6 hs8
        have hll : (xs ++ ys).length ≤ 800 := by rw [List.length_append]; omega
        obtain ⟨va, vc, rfl⟩ := hr9.shape
        generalize hzz : xs ++ ys = ns at *
        have H9 := hidden hr9
        have HX9 := hidden hx9
        clear hr9 hx9
        go_wp2
        go_loopg [9, 37] ns.length (fun g v k wr => ∃ (j : Nat), g + j = ns.length ∧ k = .int .i64 (j : Int) ∧ StrRow wr v (putsR [] (ns.take j)) ∧ Below w9.heap.size w9 wr)
        case atStart => exact ⟨0, rfl, rfl, .inl ⟨rfl, none, 0, rfl⟩, Below.refl _ _⟩
        case round =>
          obtain ⟨j, hg, rfl, hrw, hbr⟩ := hrel
          by_cases hj : j < ns.length
          · obtain ⟨bk, o, c, e1, q1⟩ := (H9.out.below hbr).at j hj
            simp only [Value.slice.injEq, true_and] at e1
            obtain ⟨rfl, rfl⟩ := e1
            have hji : (j : Int) < (ns.length : Int) := by omega
            have hpl := putsR_length (ns.take j) []
            rw [List.length_take, List.length_nil] at hpl
            have HP : Hid (putsR [] (ns.take (j + 1)) = putR (putsR [] (ns.take j)) ns[j]) := puts_next hj
            generalize putsR [] (ns.take j) = acc at *
            generalize ns[j] = n at *
            have hput := put5 _ acc n wr hrw (by omega)
            clear hrw
            go_wp2_with fail
            refine hput.mono ?_
            rintro e w10 ⟨v10, rfl, hr10, hb10⟩
            have hb11 := below_trans hbr hb10
            clear hput hbr hb10
            go_wp2
            go_roundg (ns.length - (j + 1))
            case measure => omega
            case rel => exact ⟨j + 1, by omega, by go_num, by rw [HP.out]; exact hr10, hb11⟩
          · have hji : ¬ (j : Int) < (ns.length : Int) := by omega
            have hpl := putsR_length (ns.take j) []
            rw [List.length_take, List.length_nil] at hpl
            rw [List.take_of_length_le (by omega)] at hrw hpl
            have hx10 := HX9.out.below hbr
            have hbl10 := below_trans hbl9 hbr
            clear H9 HX9 hbr hbl9
            generalize putsR [] ns = want at *
            go_wp2_with fail
            refine (hnF _).mono ?_
            rintro e w11 ⟨v11, rfl, hr11, hb11⟩
            have hsm := sameS _ _ _ _ _ hr11 (hrw.below hb11) (by omega) (by omega)
            rw [decide_eq_true rfl] at hsm
            have hbl11 := below_trans hbl10 hb11
            have hx11 := hx10.below hb11
            clear hr11 hrw hb11 hbl10 hx10 hnF
            go_wp2_with fail
            refine hsm.mono ?_
            rintro e w12 ⟨rfl, n, rfl⟩
            have hbl12 := below_drewN hbl11 n
            have hx12 : StrRow (w11.drewN n) (.slice xa xs.length xc) xs := hx11
            clear hbl11 hx11 hsm
            generalize w11.drewN n = w12 at *
            go_wp2_with fail
            refine (haa _).mono ?_
            rintro e w13 ⟨rfl, rfl⟩
            go_wp2_with fail
            refine (hnR _).mono ?_
            rintro e w14 ⟨v14, rfl, hr14, hb14⟩
            have hsm := sameS _ _ _ _ _ hr14 (hx12.below hb14) (by omega) (by omega)
            rw [decide_eq_true rfl] at hsm
            have hbl14 := below_trans hbl12 hb14
            clear hr14 hx12 hb14 hbl12 hnR
            go_wp2_with fail
            refine hsm.mono ?_
            rintro e w15 ⟨rfl, n', rfl⟩
            have hbl15 := below_drewN hbl14 n'
            clear hbl14 hsm
            generalize World.drewN _ n' = w15 at *
            go_wp2_with fail
            refine (hk _).mono ?_
            rintro e w16 ⟨rfl, hb16⟩
            go_wp2
            go_ret
            exact ⟨rfl, below_trans hbl15 hb16⟩

theorem ownTypesNames : ownKnob Try.prog.godebug = none := by kernel_rfl
theorem laidTypesNames : laidOutB Try.prog = true := by kernel_rfl
set_option maxRecDepth 100000 in
theorem typesNames_lifted (os : Os) (started : os.Started) (H : Type) (enc : TypeId × Value → H) :
    ReturnsInHanded {} Try.checked os 5 .any (Rows.typesNamesSpec.pre6 enc Try.prog Try.f5 Rows.typesNamesRow.domain false) (Rows.typesNamesSpec.post enc Try.prog Try.f5 false true false false) := by
  refine returnsInHanded_of_change (C := Try.checked) ownTypesNames started (by kernel_rfl) Try.func5
    (ChangeSpec.witness6 (enc := enc) (C := Try.checked) false ⟨#[], #[.slice none 0 0], []⟩ 8 (by kernel_rfl) (by kernel_rfl) (by kernel_rfl) (by kernel_rfl)) ?_
  intro W base args ds gs before hval0 hW hcnd _
  have hval : ∀ (j : Nat) t v, Try.f5.params[j]? = some t → args[j]? = some v → Value.okWide Try.prog W .any base t v := hval0
  have hW' := hW
  obtain ⟨p, q, hA0, hV, rfl, hfz, hnd⟩ := hW
  have hA : DataW.TrodAll enc Try.prog W 0 (fun _ => true) true Try.f5.params.toList args.toList ds p := hA0
  rw [Try.params5] at hA hval
  obtain ⟨v0, vs0, d0, ds0, p0, q0, hargs, rfl, rfl, h0, r0⟩ := trodAll_cons hA
  obtain ⟨rfl, rfl, rfl⟩ := trodAll_nil r0
  obtain rfl : args = #[v0] := by cases args; simp_all
  obtain ⟨rfl, rfl⟩ := trodVars_none hV
  obtain ⟨a1, len1, cap1, rfl⟩ := okWide_slice Try.underlying43 (hval 0 43 v0 rfl rfl)
  have k0 := h0
  have lt0 : ∀ x ∈ p0, x.block < W.heap.size := by obtain ⟨m, hm⟩ := k0; exact DataW.trod_lt m _ _ _ hm
  obtain ⟨f0, hf0⟩ := h0
  obtain ⟨zs, z1, z2, z3, z4, z5, z6⟩ := ints_rows (by simpa [Value.cells] using hf0)
  unfold maxLen at z3
  have hrow : ∀ ba, W.heap.size ≤ ba → IntRow W ba (.slice a1 len1 cap1) zs := by
    intro ba hba
    refine ⟨z4, ?_⟩
    subst z1
    rcases Nat.eq_zero_or_pos zs.length with h | h
    · exact .inl ⟨List.eq_nil_of_length_eq_zero h, a1, cap1, by rw [h]⟩
    · obtain ⟨b, rfl⟩ := z5 h
      obtain ⟨h1, h2⟩ := z6 b rfl h
      exact .inr ⟨b, cap1, rfl, h1, by omega, h2⟩
  have hwalk : Calls Try.prog 5 #[.slice a1 len1 cap1] W (KnownE W) := names_walk (.slice a1 len1 cap1) zs W hrow (by omega)
  clear hA0 hval0
  simp only [List.append_nil] at hW'
  refine hwalk.mono fun e W' ⟨he, bel⟩ => ?_
  subst he
  exact ⟨_, rfl, _, _, _, [], _, [], hW', trodAll_mk1 (shut_bool Try.underlying4 _), (trodAll_cons_mk (Below.trod laidTypesNames (by kernel_rfl) (of_decide_eq_true (by kernel_rfl)) k0 bel lt0) trodAll_mk0), rfl, bel.frame _, fun h => by cases h⟩

theorem typesNames_holds : Rows.TypesNamesSaid :=
  OpenClaim.holds_of_wide 5 Try.f5 rfl rfl rfl rfl rfl rfl rfl ⟨rfl, rfl, rfl, rfl, rfl⟩ rfl rfl rfl rfl rfl (by kernel_rfl) Try.func5 (by kernel_rfl)
    (of_decide_eq_true (by kernel_rfl)) (by unfold Func.isWrapper; first | (rw [if_pos (by decide +kernel)]; kernel_rfl) | (rw [if_neg (by decide +kernel)]; exact ⟨rfl, rfl⟩))
    (fun os started H enc _ => typesNames_lifted os started H enc)
#print axioms typesNames_holds
end Go.Proofs.Ytcjlifhehiolkaa
