/-
  TypesRead: types are told, parted and read from trees, or refused, as the document says: for any text and any module's name. No condition but those of the row.
-/
import Derived.Test.YtcjlifhehiolkaaGreatRows
import Derived.Test.YtcjlifhehiolkaaGreatTreeRefParse
import Derived.Test.YtcjlifhehiolkaaGreatTypesKnown
import Derived.Test.YtcjlifhehiolkaaGreatRefC
import Derived.ProofKit
import Derived.OpenShut
import Derived.ShutString
import Derived.SizedLaws
namespace Go.Proofs.YtcjlifhehiolkaaGreat
open Go.ChangeShapes Go.WideShapes Go.ChangeAt Go.RowKit
open Go.ChangeMaps (open_string shut_string)

theorem nodes_toks (t : Tr) : Right t → nodes t ≤ (toks t).length := by
  induction t using tr_ind with
  | h t ih =>
    intro hR
    rw [Right_eq] at hR
    rw [nodes_eq, toks_eq]
    rcases hR with ⟨h1, _, h3⟩ | ⟨h1, _, h3, _⟩
    · rw [if_pos h1]
      have key : ∀ l : List Tr, (∀ k ∈ l, k ∈ t.kids) → (l.map nodes).sum ≤ ((l.map toks).flatten).length := by
        intro l
        induction l with
        | nil => intro _; simp
        | cons a l ihl =>
          intro hl
          have h5 := ih a (hl a (by simp)) (h3 a (hl a (by simp)))
          have h6 := ihl (fun k hk => hl k (by simp [hk]))
          simp only [List.map_cons, List.sum_cons, List.flatten_cons, List.length_append]
          omega
      have := key t.kids (fun k hk => hk)
      simp only [List.length_cons, List.length_append, List.length_nil]
      omega
    · rw [h3]
      simp [h1]
theorem tx_toks (t : Tr) : Right t → (∀ k ∈ toks t, k.text.length ≤ 8192) → TxOk t := by
  induction t using tr_ind with
  | h t ih =>
    intro hR hk
    rw [TxOk_iff]
    rw [toks_eq] at hk
    rw [Right_eq] at hR
    rcases hR with ⟨h1, _, h3⟩ | ⟨h1, _, h3, _⟩
    · rw [if_pos h1] at hk
      refine ⟨hk ⟨1, t.place, t.text⟩ (by simp), fun k hkk => ih k hkk (h3 k hkk) (fun j hj => hk j ?_)⟩
      simp only [List.mem_cons, List.mem_append, List.mem_flatten, List.mem_map]
      exact .inr (.inl ⟨toks k, ⟨k, hkk, rfl⟩, hj⟩)
    · rw [if_neg h1] at hk
      refine ⟨hk ⟨t.kind, t.place, t.text⟩ (by simp), fun k hkk => ?_⟩
      rw [h3] at hkk
      cases hkk
theorem parse_fit {L : List UInt8} {t : Tr} (h : parseR L = .ok t) : TxOk t ∧ nodes t ≤ 8192 := by
  obtain ⟨h1, h2, _, _⟩ := parse_ok h
  obtain ⟨h3, h4⟩ := split_size h2
  have h5 := nodes_toks t h1
  exact ⟨tx_toks t h1 h4, by omega⟩
theorem run_no0 (n : Nat) : ∀ (l : List Tok) (ts : List Tr) (y b : Nat), Stk ts → (∀ k ∈ l, k.kind ≠ 0) → took ts ++ l ≠ [] → run n ts l = .error (y, b) → y ≠ 0
  | [], ts, y, b, hs, _, hne, h => by
    cases ts with
    | nil => exact hs.elim
    | cons x r =>
      by_cases h1 : 1 < (x :: r).length
      · rw [run_end h1] at h
        cases h
        decide
      · have hr : r = [] := List.eq_nil_of_length_eq_zero (by simp only [List.length_cons] at h1; omega)
        subst hr
        cases hk : x.kids with
        | nil => simp [took, hk] at hne
        | cons k r => rw [run_whole hk] at h; cases h
  | a :: l, ts, y, b, hs, hk, _, h => by
    rw [run] at h
    by_cases hr : refu ts a = 0
    · rw [if_pos hr] at h
      obtain ⟨h1, h2, _⟩ := stk_put hs hr (hk a (by simp))
      exact run_no0 n l _ y b h1 (fun k hk' => hk k (by simp [hk'])) (by rw [h2]; simp) h
    · rw [if_neg hr] at h
      cases h
      exact hr
theorem parse_no0 {L : List UInt8} {y b : Nat} (h : parseR L = .error (y, b)) : y ≠ 0 := by
  unfold parseR at h
  cases hs : splitR L with
  | error e =>
    obtain ⟨y', b'⟩ := e
    rw [hs] at h
    simp only at h
    cases h
    have := split_why _ _ _ hs
    omega
  | ok l =>
    rw [hs] at h
    simp only at h
    split at h
    · cases h; decide
    · rename_i hl
      exact run_no0 _ l [root] y b stk_root (fun k hk => (split_good hs k hk).kind) (by rw [took_root]; simpa using hl) h
def pP (l : List UInt8) : List (List UInt8) := if isFn l = true then (partsR l).1 else []
def pR (l : List UInt8) : List UInt8 := if isFn l = true then (partsR l).2 else []
theorem PartsE.flat {l : List UInt8} {w w' : World} {e : Ending} (h : PartsE l w e w') : ∃ v, e = .returned (.tuple #[v, .string (str (pR l)), .bool (isFn l)]) ∧ StrRow w' v (pP l) ∧ Below w.heap.size w w' := by
  obtain ⟨⟨h1, v, h2, h3⟩ | ⟨h1, h2⟩, h4⟩ := h
  · exact ⟨v, by rw [pR, if_pos h1, h1]; exact h2, by rw [pP, if_pos h1]; exact h3, h4⟩
  · refine ⟨.slice none 0 0, by rw [pR, if_neg (by rw [h1]; decide), h1]; exact h2, by rw [pP, if_neg (by rw [h1]; decide)]; exact .inl ⟨rfl, none, 0, rfl⟩, h4⟩
theorem pP_len (l : List UInt8) : (pP l).length ≤ 6 := by
  rw [pP]
  split
  · rename_i h
    obtain ⟨ps, r, e1, _, _, _, h5, _⟩ := fn_text h
    rw [e1]
    exact h5
  · simp
theorem names_short (l : List UInt8) : (namesR l).length ≤ 400 := by
  cases h : rightR l with
  | true => exact names_len l (by have := rightR_len h; omega)
  | false => rw [namesR, h]; simp

set_option maxHeartbeats 8000000 in
set_option maxRecDepth 1000000 in
theorem read_walk (s mo : ByteArray) (w : World) (hs : s.size ≤ 140737488351232) (hmo : mo.size ≤ 140737488351232) : Calls Tryz.prog 3 #[.string s, .string mo] w (KnownE w) := by
  obtain ⟨m, rfl⟩ : ∃ m, mo = str m := ⟨mo.data.toList, (str_toList mo).symm⟩
  rw [str_size] at hmo
  have hk := known
  have hel := fun u => elem s u
  have hre := fun u => refElem s u
  unfold ElemE at hel
  unfold RElemE at hre
  obtain ⟨X1, B1, hE⟩ : ∃ X B, (if isArr s.data.toList = true then Value.tuple #[.string (str (elemR s.data.toList)), .bool true] else .tuple #[.string (str []), .bool false]) = .tuple #[.string X, .bool B] := by
    cases isArr s.data.toList
    · exact ⟨_, _, rfl⟩
    · exact ⟨_, _, rfl⟩
  rw [hE] at hel hre
  have hna := fun u => named s u (by omega)
  have hrn := fun u => refNamed s u
  unfold NamedE at hna
  unfold RNamedE at hrn
  obtain ⟨X2, X3, B2, hE2⟩ : ∃ X Y B, (if namedR s.data.toList = true then Value.tuple #[.string (str (aheadR s.data.toList)), .string (str (behindR s.data.toList)), .bool true] else .tuple #[.string (str []), .string (str []), .bool false]) = .tuple #[.string X, .string Y, .bool B] := by
    cases namedR s.data.toList
    · exact ⟨_, _, _, rfl⟩
    · exact ⟨_, _, _, rfl⟩
  rw [hE2] at hna hrn
  have hpa := fun u => (partsOf s u).mono (fun e w' h => PartsE.flat h)
  have hrp := fun u => (refPartsOf s u).mono (fun e w' h => PartsE.flat h)
  have hpl := pP_len s.data.toList
  have hri := fun u => right s u
  have hrr := fun u => refRight s u
  have hnm := fun u => namesOf s u
  have hrm := fun u => refNames s u
  unfold NamesE at hnm hrm
  have hnl := names_short s.data.toList
  have hps := fun u => parse s u
  have hrs := fun u => refParse s u
  clear hE hE2
  generalize pP s.data.toList = ps at *
  generalize pR s.data.toList = pr5 at *
  generalize isFn s.data.toList = B3 at *
  generalize rightR s.data.toList = B4 at *
  generalize namesR s.data.toList = ns at *
  go_enter Tryz.func3, Tryz.ntmps3
  go_wp2_with fail
  refine (hel _).mono ?_
  rintro e w1 ⟨rfl, hb1⟩
  go_wp2_with fail
  refine (hre _).mono ?_
  rintro e w2 ⟨rfl, rfl⟩
  go_wp2_with fail
  refine (hpa _).mono ?_
  rintro e w3 ⟨v3, rfl, hr3, hb3⟩
  have hB3 := below_trans hb1 hb3
  clear hel hre hpa hb1 hb3
  go_wp2_with fail
  refine (hrp _).mono ?_
  rintro e w4 ⟨v4, rfl, hr4, hb4⟩
  have hB4 := below_trans hB3 hb4
  have hr3' := hr3.below hb4
  clear hrp hb4 hr3 hB3
  go_wp2_with fail
  refine (hna _).mono ?_
  rintro e w5 ⟨rfl, hb5⟩
  have hB5 := below_trans hB4 hb5
  have hr5 := hr3'.below hb5
  have hr5' := hr4.below hb5
  clear hna hb5 hr3' hr4 hB4
  go_wp2_with fail
  refine (hrn _).mono ?_
  rintro e w6 ⟨rfl, n6, rfl⟩
  have hB6 := below_drewN hB5 n6
  have hr6 := strRow_drew hr5 n6
  have hr6' := strRow_drew hr5' n6
  clear hrn hB5 hr5 hr5'
  generalize w5.drewN n6 = w6 at *
  go_wp2_with fail
  refine (hri _).mono ?_
  rintro e w7 ⟨rfl, hb7⟩
  have hB7 := below_trans hB6 hb7
  have hsm := sameS _ _ _ _ _ (hr6.below hb7) (hr6'.below hb7) (by omega) (by omega)
  rw [decide_eq_true rfl] at hsm
  clear hri hb7 hB6 hr6 hr6'
  go_wp2_with fail
  refine (hrr _).mono ?_
  rintro e w8 ⟨rfl, rfl⟩
  clear hrr
  go_wp2_with fail
  refine hsm.mono ?_
  rintro e w9 ⟨rfl, n9, rfl⟩
  have hB9 := below_drewN hB7 n9
  clear hsm hB7
  generalize World.drewN _ n9 = w9 at *
  go_wp2_with fail
  refine (hnm _).mono ?_
  rintro e w10 ⟨v10, rfl, hr10, hb10⟩
  have hB10 := below_trans hB9 hb10
  clear hnm hb10 hB9
  go_wp2_with fail
  refine (hrm _).mono ?_
  rintro e w11 ⟨v11, rfl, hr11, hb11⟩
  have hB11 := below_trans hB10 hb11
  have hsm := sameS _ _ _ _ _ (hr10.below hb11) hr11 (by omega) (by omega)
  rw [decide_eq_true rfl] at hsm
  clear hrm hb11 hB10 hr10 hr11
  go_wp2_with fail
  refine hsm.mono ?_
  rintro e w12 ⟨rfl, n12, rfl⟩
  have hB12 := below_drewN hB11 n12
  clear hsm hB11
  generalize w11.drewN n12 = w12 at *
  cases hP : parseR s.data.toList with
  | error yb =>
    obtain ⟨y, b⟩ := yb
    have hy := parse_no0 hP
    have hy1 : ((y : Int) != 0) = true := by rw [bne_iff_ne]; omega
    have hy2 : ((y : Int) == 0) = false := by rw [beq_eq_false_iff_ne]; omega
    rw [hP] at hps hrs
    clear hP hy
    go_wp2_with fail
    refine (hps _).mono ?_
    rintro e w13 ⟨he, hb13⟩
    simp only at he
    subst he
    have hB13 := below_trans hB12 hb13
    clear hb13 hB12
    unfold trv root
    go_wp2_with fail
    refine (hrs _).mono ?_
    rintro e w14 ⟨he, hb14⟩
    simp only at he
    subst he
    have hB14 := (hB13.alloc hB13.size (.cells #[.int .i64 0, .int .i64 0, .string ⟨#[]⟩, .slice none 0 0] 34)).trans (hb14.mono (by have := hB13.size; simp; omega))
    clear hb14
    unfold trv root
    have hB15 := hB14.alloc hB14.size (.cells #[.int .i64 0, .int .i64 0, .string ⟨#[]⟩, .slice none 0 0] 40)
    clear hB13 hB14
    go_wp2_with fail
    refine (hk _).mono ?_
    rintro e w16 ⟨rfl, hb16⟩
    have hB16 := below_trans hB15 hb16
    go_wp2
    go_ret
    exact ⟨rfl, hB16⟩
  | ok T =>
    obtain ⟨htx, hnd⟩ := parse_fit hP
    rw [hP] at hps hrs
    clear hP
    go_wp2_with fail
    refine (hps _).mono ?_
    rintro e w13 ⟨⟨kv1, rfl, ht1⟩, hb13⟩
    obtain ⟨ka, kc, rfl⟩ := ht1.shape
    have hB13 := below_trans hB12 hb13
    have hz12 := hb13.size
    clear hb13 hB12
    unfold trv
    have hbA : Below w13.heap.size w13 (w13.alloc (.cells #[.int .i64 (T.kind : Int), .int .i64 (T.place : Int), .string (str T.text), .slice ka T.kids.length kc] 34)) := (Below.refl _ _).alloc (Nat.le_refl _) _
    have hbx1 : (w13.alloc (.cells #[.int .i64 (T.kind : Int), .int .i64 (T.place : Int), .string (str T.text), .slice ka T.kids.length kc] 34)).heap[w13.heap.size]? = some (.cells #[.int .i64 (T.kind : Int), .int .i64 (T.place : Int), .string (str T.text), .slice ka T.kids.length kc] 34) := heap_alloc_new w13 _
    have hsA : (w13.alloc (.cells #[.int .i64 (T.kind : Int), .int .i64 (T.place : Int), .string (str T.text), .slice ka T.kids.length kc] 34)).heap.size = w13.heap.size + 1 := by simp
    have ht1A := ht1.below hbA (fun g hg => hg.2)
    have hBA := below_trans hB13 hbA
    clear hbA ht1 hB13
    go_wp2_with fail
    generalize w13.alloc (.cells #[.int .i64 (T.kind : Int), .int .i64 (T.place : Int), .string (str T.text), .slice ka T.kids.length kc] 34) = wA at *
    refine (hrs _).mono ?_
    rintro e w14 ⟨⟨kv2, rfl, ht2⟩, hb14⟩
    obtain ⟨la, lc, rfl⟩ := ht2.shape
    unfold trv
    have hz14 := hb14.size
    have hbB : Below w14.heap.size w14 (w14.alloc (.cells #[.int .i64 (T.kind : Int), .int .i64 (T.place : Int), .string (str T.text), .slice la T.kids.length lc] 40)) := (Below.refl _ _).alloc (Nat.le_refl _) _
    have hbx2 : (w14.alloc (.cells #[.int .i64 (T.kind : Int), .int .i64 (T.place : Int), .string (str T.text), .slice la T.kids.length lc] 40)).heap[w14.heap.size]? = some (.cells #[.int .i64 (T.kind : Int), .int .i64 (T.place : Int), .string (str T.text), .slice la T.kids.length lc] 40) := heap_alloc_new w14 _
    have hsB : (w14.alloc (.cells #[.int .i64 (T.kind : Int), .int .i64 (T.place : Int), .string (str T.text), .slice la T.kids.length lc] 40)).heap.size = w14.heap.size + 1 := by simp
    have ht1B := (ht1A.below hb14 (fun g hg => by have := hg.2; omega)).below hbB (fun g hg => by have := hg.2; omega)
    have ht2B := ht2.below hbB (fun g hg => hg.2)
    have hbx1B : (w14.alloc (.cells #[.int .i64 (T.kind : Int), .int .i64 (T.place : Int), .string (str T.text), .slice la T.kids.length lc] 40)).heap[w13.heap.size]? = some (.cells #[.int .i64 (T.kind : Int), .int .i64 (T.place : Int), .string (str T.text), .slice ka T.kids.length kc] 34) := by
      rw [hbB.block _ (by omega), hb14.block _ (by omega)]
      exact hbx1
    have hBB := below_trans (below_trans hBA hb14) hbB
    clear hbB hb14 ht1A ht2 hBA hbx1
    generalize hWB : w14.alloc (.cells #[.int .i64 (T.kind : Int), .int .i64 (T.place : Int), .string (str T.text), .slice la T.kids.length lc] 40) = wB at *
    obtain ⟨y0, y1, y2, y3, _⟩ := four_cells hbx1B
    have hrd := read _ T _ m wB (fun g (hg : w12.heap.size ≤ g ∧ g < w13.heap.size) => by have := hg.2; omega) ht1B htx (by omega) (by omega)
    unfold trv at hrd
    cases hR : readR m T with
    | error yb =>
      obtain ⟨y, b⟩ := yb
      have hrf := fun u (hu : Below wB.heap.size wB u) => refRead m (by omega) T (.slice la T.kids.length lc) _ u (ht2B.below hu (fun g hg => by have := hg.2; omega)) (fun g hg => by have := hg.2; have := hu.size; omega) htx hnd
      rw [hR] at hrd hrf
      unfold trv at hrf
      clear hR ht1B ht2B htx hnd
      go_wp2_with fail
      clear hWB
      refine hrd.mono ?_
      rintro e w15 ⟨he, hb15⟩
      simp only at he
      subst he
      obtain ⟨z0, z1, z2, z3, _⟩ := four_cells ((hb15.block w14.heap.size (by omega)).trans hbx2)
      have hc := hrf w15 hb15
      have hB15 := below_trans hBB hb15
      clear hb15 hrd hrf hBB y0 y1 y2 y3 hbx2 hbx1B
      go_wp2_with fail
      refine hc.mono ?_
      rintro e w16 ⟨he, hb16⟩
      simp only at he
      subst he
      have hB16 := below_trans hB15 hb16
      clear hb16 hB15 z0 z1 z2 z3
      go_wp2_with fail
      refine (hk _).mono ?_
      rintro e w17 ⟨rfl, hb17⟩
      go_wp2
      go_ret
      exact ⟨rfl, below_trans hB16 hb17⟩
    | ok x =>
      have hrf := fun u (hu : Below wB.heap.size wB u) => refRead m (by omega) T (.slice la T.kids.length lc) _ u (ht2B.below hu (fun g hg => by have := hg.2; omega)) (fun g hg => by have := hg.2; have := hu.size; omega) htx hnd
      rw [hR] at hrd hrf
      unfold trv at hrf
      clear hR ht1B ht2B htx hnd
      go_wp2_with fail
      clear hWB
      refine hrd.mono ?_
      rintro e w15 ⟨he, hb15⟩
      simp only at he
      subst he
      obtain ⟨z0, z1, z2, z3, _⟩ := four_cells ((hb15.block w14.heap.size (by omega)).trans hbx2)
      have hc := hrf w15 hb15
      have hB15 := below_trans hBB hb15
      clear hb15 hrd hrf hBB y0 y1 y2 y3 hbx2 hbx1B
      go_wp2_with fail
      refine hc.mono ?_
      rintro e w16 ⟨he, hb16⟩
      simp only at he
      subst he
      have hB16 := below_trans hB15 hb16
      clear hb16 hB15 z0 z1 z2 z3
      go_wp2_with fail
      refine (hk _).mono ?_
      rintro e w17 ⟨rfl, hb17⟩
      go_wp2
      go_ret
      exact ⟨rfl, below_trans hB16 hb17⟩

theorem ownTypesRead : ownKnob Tryz.prog.godebug = none := by kernel_rfl
set_option maxRecDepth 100000 in
theorem typesRead_lifted (os : Os) (started : os.Started) (H : Type) (enc : TypeId × Value → H) :
    ReturnsInHanded {} Tryz.checked os 3 .any (Rows.typesReadSpec.pre6 enc Tryz.prog Tryz.f3 Rows.typesReadRow.domain false) (Rows.typesReadSpec.post enc Tryz.prog Tryz.f3 false true false false) := by
  refine returnsInHanded_of_change_sized (C := Tryz.checked) ownTypesRead started (by kernel_rfl) Tryz.func3
    (ChangeSpec.witness6 (enc := enc) (C := Tryz.checked) false ⟨#[], #[.string ByteArray.empty, .string ByteArray.empty], []⟩ 8 (by kernel_rfl) (by kernel_rfl) (by kernel_rfl) (by kernel_rfl)) ?_
  intro W base args ds gs before hval0 hW hcnd hsz0 _
  have hval : ∀ (j : Nat) t v, Tryz.f3.params[j]? = some t → args[j]? = some v → Value.okWide Tryz.prog W .any base t v := hval0
  have hsz : (DataW.weightsEach Tryz.prog (Tryz.f3.params.toList ++ Rows.typesReadSpec.plain.varTypes Tryz.prog) (ds ++ gs)).all (· ≤ reachBytes) = true := hsz0
  have hW' := hW
  obtain ⟨p, q, hA0, hV, rfl, hfz, hnd⟩ := hW
  have hA : DataW.TrodAll enc Tryz.prog W 0 (fun _ => true) true Tryz.f3.params.toList args.toList ds p := hA0
  rw [Tryz.params3] at hA hval hsz
  obtain ⟨v0, vs0, d0, ds0, p0, q0, hargs, rfl, rfl, h0, r0⟩ := trodAll_cons hA
  obtain ⟨v1, vs1, d1, ds1, p1, q1, rfl, rfl, rfl, h1, r1⟩ := trodAll_cons r0
  obtain ⟨rfl, rfl, rfl⟩ := trodAll_nil r1
  obtain rfl : args = #[v0, v1] := by cases args; simp_all
  obtain ⟨rfl, rfl⟩ := trodVars_none hV
  obtain ⟨a0, rfl, rfl, rfl, w0⟩ := open_string Tryz.underlying9 (hval 0 9 v0 rfl rfl) h0
  have b0 : a0.size ≤ 140737488351232 := by
    have h1 := sized_string hsz (j := 0) (t := 9) rfl rfl
    have h2 : reachBytes = 140737488351232 := by decide
    have e1 : a0.size = a0.data.size := rfl
    have e2 : a0.data.toList.length = a0.data.size := Array.length_toList
    omega
  obtain ⟨a1, rfl, rfl, rfl, w1⟩ := open_string Tryz.underlying9 (hval 1 9 v1 rfl rfl) h1
  have b1 : a1.size ≤ 140737488351232 := by
    have h1 := sized_string hsz (j := 1) (t := 9) rfl rfl
    have h2 : reachBytes = 140737488351232 := by decide
    have e1 : a1.size = a1.data.size := rfl
    have e2 : a1.data.toList.length = a1.data.size := Array.length_toList
    omega
  clear hA0 hval0
  simp only [List.append_nil] at hW'
  refine (read_walk a0 a1 W b0 b1).mono fun e W' ⟨he, bel⟩ => ?_
  subst he
  exact ⟨_, rfl, _, _, _, [], _, [], hW', trodAll_mk1 (shut_bool Tryz.underlying4 _), (trodAll_cons_mk (shut_string Tryz.underlying9 w0) (trodAll_cons_mk (shut_string Tryz.underlying9 w1) trodAll_mk0)), rfl, bel.frame _, fun h => by cases h⟩

theorem typesRead_holds : Rows.TypesReadSaid :=
  OpenClaim.holds_of_wide 3 Tryz.f3 rfl rfl rfl rfl rfl rfl rfl ⟨rfl, rfl, rfl, rfl, rfl⟩ rfl rfl rfl rfl rfl (by kernel_rfl) Tryz.func3 (by kernel_rfl)
    (of_decide_eq_true (by kernel_rfl)) (by unfold Func.isWrapper; first | (rw [if_pos (by decide +kernel)]; kernel_rfl) | (rw [if_neg (by decide +kernel)]; exact ⟨rfl, rfl⟩))
    (fun os started H enc _ => typesRead_lifted os started H enc)
#print axioms typesRead_holds
end Go.Proofs.YtcjlifhehiolkaaGreat
