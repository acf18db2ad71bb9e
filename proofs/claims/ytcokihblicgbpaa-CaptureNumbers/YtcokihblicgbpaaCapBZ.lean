/-
  Captures: the package's measure: how deep and how many the expressions are.
  And: Captures: the package's measure, Depth and Count. Captures: a map that counts bindings; what the package tells, part by part. Captures: the package's Free, its inner function: what it keeps in memory; what it tells of an expression itself.
-/
import Derived.Deep.LoopGhost
import Derived.Deep.DeepCutAuto
import Derived.Test.YtcokihblicgbpaaCapPartsZ
import Derived.Test.YtcokihblicgbpaaCapAZ
import Derived.Maps.OwnSet
import Derived.Maps.OwnOps
import Derived.StringKeys
import Derived.Deep.AppendLies
import Derived.Deep.RegionLaw
import Derived.Deep.QuietTactic
import Derived.BigQuiet
import Derived.Test.YtcokihblicgbpaaShelf3
import Derived.Test.YtcokihblicgbpaaTypAZ
namespace Go.Proofs.Ytcokihblicgbpaa
open Go.RowKit Go.Shelf
attribute [local go_sem] Oper.semAt_some

/-- The parts of an expression, and the names that are bound in the k-th. -/
def pts (e : Ex) : List Ex := e.kids ++ e.bods
def nmP (e : Ex) (k : Nat) : List (List UInt8) := if k < e.kids.length then bindN e k else (e.arms.getD (k - e.kids.length) ([], [])).2
theorem pts_kid (e : Ex) (k : Nat) (hk : k < e.kids.length) : k < (pts e).length ∧ (pts e)[k]? = some e.kids[k] ∧ nmP e k = bindN e k := by
  refine ⟨by simp [pts]; omega, ?_, by rw [nmP, if_pos hk]⟩
  rw [pts, List.getElem?_append_left hk]
  exact List.getElem?_eq_getElem hk
theorem pts_bod (e : Ex) (k : Nat) (hk : k < e.bods.length) : e.kids.length + k < (pts e).length ∧ (pts e)[e.kids.length + k]? = some e.bods[k] ∧ nmP e (e.kids.length + k) = (e.arms.getD k ([], [])).2 := by
  refine ⟨by simp [pts]; omega, ?_, by rw [nmP, if_neg (by omega), Nat.add_sub_cancel_left]⟩
  rw [pts, List.getElem?_append_right (by omega), Nat.add_sub_cancel_left]
  exact List.getElem?_eq_getElem hk
theorem pts_mem (e : Ex) {k : Nat} {x : Ex} (h : (pts e)[k]? = some x) : x ∈ e.kids ∨ x ∈ e.bods := by
  have := List.mem_of_getElem? h
  rw [pts, List.mem_append] at this
  exact this
theorem pts_dep (e : Ex) : depX e = ((pts e).map depX).foldl max 0 + 1 := by rw [depX_eq, pts, List.map_append, List.foldl_append]
theorem pts_cnt (e : Ex) : cntX e = 1 + ((pts e).map cntX).sum := by rw [cntX_eq, pts, List.map_append, List.sum_append]; omega
/-- What is asked of a round: one for each part. -/
def PartY (G : Nat → Prop) (e : Ex) (l : Nat) (J : Nat → World → Prop) (Jx : World → Prop) : Prop :=
  ∀ k x W0 W pb po k' p' a' nv, (pts e)[k]? = some x → J k W0 → Below W0.heap.size W0 W → EA G W pb po x k' p' a' → TxR (fun g => G g ∨ Fq W0 W g) W nv (nmP e k) → YieldAt Fence.wide 7 Try.prog l #[.pointer (some ⟨pb, po, none⟩), nv] W (YldE (J (k + 1)) Jx)
def SmP (e : Ex) : Prop := e.kids.length ≤ 20000 ∧ e.params.length ≤ 20000 ∧ e.bods.length ≤ 20000
theorem parts2 (l Be : Nat) (G : Nat → Prop) (e : Ex) (b o : Nat) (kv pv av : Value) (J : Nat → World → Prop) (Jx : World → Prop) (hsm : SmP e)
    (hJE : ∀ k W, J k W → W.cell? ⟨Be, 0, none⟩ = some (.pointer (some ⟨b, o, none⟩)) ∧ Be < W.heap.size ∧ EA G W b o e kv pv av ∧ ∀ g, G g → g < W.heap.size)
    (hY : PartY G e l J Jx) (W : World) (h0 : J 0 W) :
    CallsIn Fence.wide 8 Try.prog 40 #[.func (.yield l) #[] #[], .pointer (some ⟨Be, 0, none⟩)] W fun r W' => (∃ v, r = .returned v) ∧ (J (pts e).length W' ∨ Jx W') := by
  obtain ⟨⟨ka, kc, rfl⟩, _, ⟨aa, ac, rfl⟩⟩ := (hJE 0 W h0).2.2.1.xi.shapes
  have hl : (pts e).length = e.kids.length + e.bods.length := by simp [pts]
  rw [hl]
  refine parts1 l Be G e b o ka kc pv aa ac J Jx hsm.1 hsm.2.1 hsm.2.2 hJE ?_ ?_ W h0
  · intro k hk W0 W pb po k' p' a' nv h1 h2 h3 h4
    obtain ⟨_, q2, q3⟩ := pts_kid e k hk
    rw [← q3] at h4
    exact hY k _ W0 W pb po k' p' a' nv q2 h1 h2 h3 h4
  · intro k hk W0 W pb po k' p' a' nv h1 h2 h3 h4
    obtain ⟨_, q2, q3⟩ := pts_bod e k hk
    rw [← q3] at h4
    exact hY _ _ W0 W pb po k' p' a' nv q2 h1 h2 h3 h4
theorem Boxed.blk {W W' : World} {B : Nat} {t : TypeId} {v : Value} (h : Boxed W B t v) (e : W'.heap[B]? = W.heap[B]?) : Boxed W' B t v := e.trans h
theorem Kept.box {S : Nat → Prop} {W W' : World} (k : Kept S W W') {B : Nat} {t : TypeId} {v : Value} (h : Boxed W B t v) (hS : ¬ S B) : Boxed W' B t v := Boxed.blk h (k.block B h.lt hS)
theorem Kept.put {S : Nat → Prop} {a w : World} (h : Kept S a w) {l : Nat} (hl : l < a.heap.size → S l) (ob : Obj) : Kept S a (w.putObj l ob) := h.grown (grownBy_putObj' w l ob) (fun k e hk => by cases e; exact hl hk)
theorem Kept.ea {S : Nat → Prop} {w w' : World} (k : Kept S w w') {G : Nat → Prop} {b o : Nat} {e : Ex} {kv pv av : Value} (h : EA G w b o e kv pv av) (hG : ∀ g, G g → g < w.heap.size) (hS : ∀ g, G g → ¬ S g) : EA G w' b o e kv pv av := h.frame fun g hg => ⟨hg, k.block g (hG g hg) (hS g hg)⟩
theorem kept_put1 (W : World) (l : Nat) (ob : Obj) : Kept (fun q => q = l) W (W.putObj l ob) := Kept.put (S := fun q => q = l) (Kept.refl _ W) (fun _ => rfl) ob
theorem results_cell1 {P : Program} {fn : Func} {p : Tmp} {ty : TypeId} (h : fn.results = #[.cell p ty]) (tmps : Array Value) (w : World) (a : Addr) (v : Value) (hp : tmps.getD p undef = .pointer (some a)) (hl : (loadVar ty a).run P w = .ok v w) : (results fn tmps).run P w = .ok v w := by
  have hp' : tmps[p]?.getD undef = .pointer (some a) := by simpa using hp
  simp [results, h, hp', asAddr, hl]
theorem load_bool (w : World) (a : Addr) (v : Value) (h : w.cell? a = some v) : (loadVar 4 a).run Try.prog w = .ok v w := by
  simp [loadVar, go_sem, Try.isAgg4, h]
abbrev pB (b : Nat) : Value := .pointer (some ⟨b, 0, none⟩)
/-- What within leaves. -/
def WthE (e : Ex) (deep d c bd bc : Nat) (w : World) (r : Ending) (w' : World) : Prop :=
  r = .returned (.bool true) ∧ Boxed w' bd 3 (.int .i64 ((max d (deep + depX e - 1) : Nat) : Int)) ∧ Boxed w' bc 3 (.int .i64 ((c + cntX e : Nat) : Int)) ∧ Kept (fun k => k = bd ∨ k = bc) w w'
set_option maxRecDepth 1000000 in
set_option maxHeartbeats 2000000 in
theorem within1 (e : Ex) : ∀ (G : Nat → Prop) (b o : Nat) (kv pv av : Value) (deep d c bd bc bw : Nat) (w : World), EA G w b o e kv pv av → (∀ g, G g → g < w.heap.size) → ¬ G bd → ¬ G bc → bd ≠ bc → bw ≠ bd → bw ≠ bc →
    Boxed w bd 3 (.int .i64 (d : Int)) → Boxed w bc 3 (.int .i64 (c : Int)) → Boxed w bw 85 (.func (.func 37) #[] #[pB bd, pB bc, pB bw]) →
    deep + depX e ≤ 262145 → c + cntX e ≤ 2147483647 → d ≤ 262144 → 1 ≤ deep → AllX SmP e →
    Calls Try.prog 37 #[.pointer (some ⟨b, o, none⟩), .int .i64 (deep : Int), pB bd, pB bc, pB bw] w (WthE e deep d c bd bc w) := by
  induction e using ex_ind with
  | h e ih1 ih2 =>
    intro G b o kv pv av deep d c bd bc bw w hE hG nGd nGc ndc nwd nwc hBd hBc hBw hdp hct hd h1 hSm
    obtain ⟨W1, hW1⟩ : ∃ W1, W1 = (w.alloc (.cells #[.int .i64 (deep : Int)] 3)).alloc (.cells #[.bool false] 4) := ⟨_, rfl⟩
    have hK1 : Kept (fun _ => False) w W1 := by rw [hW1]; exact ((Kept.refl _ w).alloc _).alloc _
    have b1d := hK1.box hBd (fun h => h)
    have b1c := hK1.box hBc (fun h => h)
    have b1w := hK1.box hBw (fun h => h)
    have b1p : Boxed W1 w.heap.size 3 (.int .i64 (deep : Int)) := by rw [hW1]; exact (Boxed.new w _ _).alloc _
    have b1r : Boxed W1 (w.heap.size + 1) 4 (.bool false) := by
      rw [hW1]
      have := Boxed.new (w.alloc (.cells #[.int .i64 (deep : Int)] 3)) 4 (.bool false)
      rwa [World.size_alloc] at this
    have hs1 : W1.heap.size = w.heap.size + 2 := by rw [hW1]; simp
    have E1 : EA G W1 b o e kv pv av := hK1.ea hE hG (fun _ _ h => h)
    have HS1 := hidden hs1
    have hmx : ((max d deep : Nat) : Int) = max (d : Int) (deep : Int) := by omega
    have HG := hidden hG
    have HI1 := hidden ih1
    have HI2 := hidden ih2
    have x1 := b1d.cell
    have x2 := b1d.frozen
    have x3 := b1c.cell
    have x4 := b1c.frozen
    have x5 := b1p.cell
    clear hs1 hG ih1 ih2
    simp only [pB] at b1w ⊢
    refine (callsIn_wide (n := 9)).1 (callsIn_of_wp_marks Try.func37 rfl trivial (wpIn_wide.2 ?_) rfl)
    simp only [Try.ntmps37, List.size_toArray, List.length_cons, List.length_nil, Nat.reduceAdd, Nat.reduceSub, Array.replicate_succ, Array.replicate_zero, List.push_toArray, List.append_toArray, List.nil_append, List.cons_append]
    go_wp2_with fail
    simp only [← hW1]
    clear hW1
    go_cut [] from 9 to 29 (fun wx => Boxed wx bd 3 (.int .i64 ((max d deep : Nat) : Int)) ∧ Boxed wx bc 3 (.int .i64 ((c + 1 : Nat) : Int)) ∧ Kept (fun k => k = bd ∨ k = bc) W1 wx)
    case first =>
      go_region
      all_goals
        go_wp2_with fail
        go_meet
        first
          | exact ⟨by rw [hmx]; exact (b1d.set _).other ndc _, (b1c.other (Ne.symm ndc) _).set _, (((Kept.refl _ W1).setCell (p := ⟨bd, 0, none⟩) (fun _ => .inl rfl) _).setCell (p := ⟨bc, 0, none⟩) (fun _ => .inr rfl) _).drew⟩
          | exact ⟨by rw [hmx]; exact (b1d.other ndc _).set _, (b1c.set _).other (Ne.symm ndc) _, (((Kept.refl _ W1).setCell (p := ⟨bc, 0, none⟩) (fun _ => .inr rfl) _).setCell (p := ⟨bd, 0, none⟩) (fun _ => .inl rfl) _).drew⟩
    case rest =>
      obtain ⟨bcd, bcc, hKc⟩ := hcut
      have ld := hBd.lt
      have lc := hBc.lt
      have lw := hBw.lt
      have lb := HG.out _ hE.fb
      have hs1 := HS1.out
      have bcp := hKc.box b1p (by omega)
      have bcr := hKc.box b1r (by omega)
      have bcw := hKc.box b1w (by omega)
      have hszc := hKc.size
      have Ec : EA G wc b o e kv pv av := hKc.ea E1 (fun g hg => by have := HG.out g hg; omega) (fun g hg h => by rcases h with rfl | rfl; exact nGd hg; exact nGc hg)
      have hdp1 : 1 ≤ depX e := by rw [depX_eq]; omega
      have hcp1 := cntX_pos e
      have t1 : ¬ (262144 : Int) < (deep : Int) := by omega
      have t2 : ¬ (2147483647 : Int) < (c : Int) + 1 := by omega
      have y1 := bcp.cell
      have y2 := bcc.cell
      obtain ⟨W5, hW5⟩ : ∃ W5, W5 = wc.alloc (.cells #[.pointer (some ⟨b, o, none⟩)] 50) := ⟨_, rfl⟩
      have hK5 : Kept (fun _ => False) wc W5 := by rw [hW5]; exact (Kept.refl _ wc).alloc _
      have b5e : Boxed W5 wc.heap.size 50 (.pointer (some ⟨b, o, none⟩)) := by rw [hW5]; exact Boxed.new wc _ _
      have hp0 := parts0 (some ⟨b, o, none⟩) wc
      rw [← hW5] at hp0
      have HS5 : Hid (W5.heap.size = wc.heap.size + 1) := by rw [hid_iff, hW5]; simp
      have HN : Hid (1 ≤ depX e ∧ 1 ≤ cntX e ∧ deep + depX e ≤ 262145 ∧ c + cntX e ≤ 2147483647 ∧ d ≤ 262144 ∧ W1.heap.size = w.heap.size + 2 ∧ W1.heap.size ≤ wc.heap.size) := ⟨hdp1, hcp1, hdp, hct, hd, hs1, hszc⟩
      clear hmx hW5 x1 x2 x3 x4 x5 b1d b1c b1w b1p b1r E1 hdp1 hcp1 hdp hct hd hs1 hszc
      go_wp2_with (go_at_call 26; refine hp0.mono ?_; rintro r w6 ⟨rfl, hw6⟩; obtain rfl := hw6.symm)
      refine wpIn_wide.1 (range_own (n := 9) rfl rfl (gf := 40) (lb := #[.pointer (some ⟨wc.heap.size, 0, none⟩)]) rfl trivial (enters_of Try.func40 (by kernel_rfl) rfl) ?_)
      intro fn hfn
      have hs5 := Nat.le_antisymm_iff.1 HS5.out
      obtain ⟨n1, n2, n3, n4, n5, n6', n7⟩ := HN.out
      have n6 := Nat.le_antisymm_iff.1 n6'
      clear n6'
      generalize hrc : recL fn _ _ _ _ W5.heap.size = rc
      obtain ⟨W6, hW6⟩ : ∃ W6, W6 = (W5.alloc (.deferred (some []))).alloc (rc .ready none) := ⟨_, rfl⟩
      have hK6 : Kept (fun _ => False) W5 W6 := by rw [hW6]; exact ((Kept.refl _ W5).alloc _).alloc _
      have hs6 : W6.heap.size ≤ W5.heap.size + 2 ∧ W5.heap.size + 2 ≤ W6.heap.size := by rw [hW6]; simp
      have r6 : W6.heap[W5.heap.size + 1]? = some (rc .ready none) := by
        rw [hW6]
        have := World.alloc_heap_new (W5.alloc (.deferred (some []))) (rc .ready none)
        rwa [World.size_alloc] at this
      have d6 : W6.heap[W5.heap.size]? = some (.deferred (some [])) := by
        rw [hW6]
        exact (Below.heap_alloc _ _ _ (by simp)).trans (World.alloc_heap_new W5 _)
      rw [← hW6]
      have hK16 : Kept (fun q => q = bd ∨ q = bc) w W6 := ((hK1.mono (fun _ _ h => h.elim)).trans (hKc.trans (hK5.trans hK6 (U := fun _ => False) (fun _ _ h => h) (fun _ _ h => h)) (fun _ _ h => h) (fun _ _ h => h.elim)) (fun _ _ h => h) (fun _ _ h => h))
      have b6d : Boxed W6 bd 3 _ := hK6.box (hK5.box bcd (fun h => h)) (fun h => h)
      have b6c : Boxed W6 bc 3 _ := hK6.box (hK5.box bcc (fun h => h)) (fun h => h)
      have b6w : Boxed W6 bw _ _ := hK6.box (hK5.box bcw (fun h => h)) (fun h => h)
      have b6p : Boxed W6 w.heap.size _ _ := hK6.box (hK5.box bcp (fun h => h)) (fun h => h)
      have b6r : Boxed W6 (w.heap.size + 1) _ _ := hK6.box (hK5.box bcr (fun h => h)) (fun h => h)
      have b6e : Boxed W6 wc.heap.size _ _ := hK6.box b5e (fun h => h)
      have E6 : EA G W6 b o e kv pv av := hK16.ea hE HG.out (fun g hg h => by rcases h with rfl | rfl; exact nGd hg; exact nGc hg)
      clear hW6 hK6 hK5 bcd bcc bcw bcp bcr b5e Ec hp0 y1 y2 t1 t2 hBd hBc hBw hE hKc hK1
      obtain ⟨hSme, hSk, hSb⟩ := (AllX_iff _ _).1 hSm
      have HIH : ∀ k x, (pts e)[k]? = some x → AllX SmP x ∧ ∀ (G : Nat → Prop) (b o : Nat) (kv pv av : Value) (deep d c bd bc bw : Nat) (w : World), EA G w b o x kv pv av → (∀ g, G g → g < w.heap.size) → ¬ G bd → ¬ G bc → bd ≠ bc → bw ≠ bd → bw ≠ bc →
          Boxed w bd 3 (.int .i64 (d : Int)) → Boxed w bc 3 (.int .i64 (c : Int)) → Boxed w bw 85 (.func (.func 37) #[] #[pB bd, pB bc, pB bw]) →
          deep + depX x ≤ 262145 → c + cntX x ≤ 2147483647 → d ≤ 262144 → 1 ≤ deep → AllX SmP x →
          Calls Try.prog 37 #[.pointer (some ⟨b, o, none⟩), .int .i64 (deep : Int), pB bd, pB bc, pB bw] w (WthE x deep d c bd bc w) := fun k x hx => by
        rcases pts_mem e hx with h | h
        · exact ⟨hSk x h, HI1.out x h⟩
        · exact ⟨hSb x h, HI2.out x h⟩
      clear HI1 HI2 hSm hSk hSb
      refine (parts2 (W5.heap.size + 1) wc.heap.size G e b o kv pv av
        (fun k W => Boxed W bd 3 (.int .i64 ((max d (deep + (((pts e).take k).map depX).foldl max 0) : Nat) : Int)) ∧ Boxed W bc 3 (.int .i64 ((c + 1 + (((pts e).take k).map cntX).sum : Nat) : Int)) ∧ Kept (fun q => q = bd ∨ q = bc ∨ q = W5.heap.size + 1) W6 W ∧ W.heap[W5.heap.size + 1]? = some (rc .ready none))
        (fun _ => False) hSme ?je ?yy W6 ?j0).mono ?done
      case j0 => exact ⟨by simpa using b6d, by simpa using b6c, Kept.refl _ _, r6⟩
      case je =>
        rintro k W ⟨_, _, hK, _⟩
        have hz := hK.size
        exact ⟨(hK.box b6e (by omega)).cell, by omega, hK.ea E6 (fun g hg => by have := HG.out g hg; omega) (fun g hg h => by rcases h with rfl | rfl | rfl; exact nGd hg; exact nGc hg; have := HG.out _ hg; omega), fun g hg => by have := HG.out g hg; omega⟩
      case yy =>
        intro k x W0 W pb po k' p' a' nv hx hJ hb hEx htx
        obtain ⟨j1, j2, j3, j4⟩ := hJ
        obtain ⟨hSx, hIx⟩ := HIH k x hx
        have hz0 := j3.size
        have hzb := hb.size
        have g1 := Boxed.blk j1 (hb.block _ j1.lt)
        have g2 := Boxed.blk j2 (hb.block _ j2.lt)
        have jw := j3.box b6w (by omega)
        have jp := j3.box b6p (by omega)
        have g3 := Boxed.blk jw (hb.block _ jw.lt)
        have g4 := Boxed.blk jp (hb.block _ jp.lt)
        have hl : W.heap[W5.heap.size + 1]? = some (rc .ready none) := (hb.block _ (by omega)).trans j4
        have hK9 : Kept (fun q => q = bd ∨ q = bc ∨ q = W5.heap.size + 1) W6 W := j3.trans (Kept.of_below hb) (fun _ _ h => h) (fun q hq h => by omega)
        have hkl : k < (pts e).length := (List.getElem?_eq_some_iff.1 hx).1
        have hxe : (pts e)[k] = x := (List.getElem?_eq_some_iff.1 hx).2
        have m1 := max_take (pts e) k hkl depX 0
        have m2 := sum_take (pts e) k hkl cntX
        have m3 := sum_take_le (pts e) (k + 1) cntX
        have m4 := pts_cnt e
        have m5 := pts_dep e
        have m6 : (((pts e).take (k + 1)).map depX).foldl max 0 ≤ ((pts e).map depX).foldl max 0 := by
          have h := congrArg (fun z => (List.map depX z).foldl max 0) (List.take_append_drop (k + 1) (pts e))
          simp only [List.map_append, List.foldl_append] at h
          rw [← h]
          exact (maxN_ge _ _).1
        rw [hxe] at m1 m2
        obtain ⟨R, hR⟩ : ∃ R, R = YldE (fun W => Boxed W bd 3 (.int .i64 ((max d (deep + (((pts e).take (k + 1)).map depX).foldl max 0) : Nat) : Int)) ∧ Boxed W bc 3 (.int .i64 ((c + 1 + (((pts e).take (k + 1)).map cntX).sum : Nat) : Int)) ∧ Kept (fun q => q = bd ∨ q = bc ∨ q = W5.heap.size + 1) W6 W ∧ W.heap[W5.heap.size + 1]? = some (rc .ready none)) (fun _ => False) := ⟨_, rfl⟩
        rw [← hR]
        have HR := hidden hR
        clear hR
        rw [m1, m2] at HR
        generalize (((pts e).take k).map depX).foldl max 0 = mk at *
        generalize (((pts e).take k).map cntX).sum = ck at *
        generalize hdx : depX x = dx at *
        generalize hcx : cntX x = cx at *
        have hKV : Kept (fun q => q = W5.heap.size + 1) W (W.putObj (W5.heap.size + 1) (rc .busy none)) := kept_put1 _ _ _
        have hlt : W5.heap.size + 1 < W.heap.size := (Array.getElem?_eq_some_iff.1 hl).1
        have rb : (W.putObj (W5.heap.size + 1) (rc .busy none)).heap[W5.heap.size + 1]? = some (rc .busy none) := World.putObj_heap_same hlt
        have f1 := hKV.box g1 (by omega)
        have f2 := hKV.box g2 (by omega)
        have f3 := hKV.box g3 (by omega)
        have f4 := hKV.box g4 (by omega)
        have hKV2 := hKV.size
        have hcall := hIx G pb po k' p' a' (deep + 1) (max d (deep + mk)) (c + 1 + ck) bd bc bw (W.putObj (W5.heap.size + 1) (rc .busy none)) (hKV.ea hEx (fun g hg => by have := HG.out g hg; omega) (fun g hg h => by have := HG.out g hg; omega)) (fun g hg => by have := HG.out g hg; omega) nGd nGc ndc nwd nwc f1 f2 f3 (by omega) (by omega) (by omega) (by omega) hSx
        rw [show ((deep + 1 : Nat) : Int) = (deep : Int) + 1 from rfl] at hcall
        have hK9' : Kept (fun q => q = bd ∨ q = bc ∨ q = W5.heap.size + 1) W6 (W.putObj (W5.heap.size + 1) (rc .busy none)) := hK9.put (fun _ => .inr (.inr rfl)) _
        have c3 := f3.cell
        have c4 := f4.cell
        have t3 : (deep : Int) ≤ 262144 := by omega
        simp only [pB] at hcall
        have HW : Hid (∀ r V9, WthE x (deep + 1) (max d (deep + mk)) (c + 1 + ck) bd bc (W.putObj (W5.heap.size + 1) (rc .busy none)) r V9 → r = .returned (.bool true) ∧ V9.heap[W5.heap.size + 1]? = some (rc .busy none) ∧ R (.returned (.bool true)) (V9.putObj (W5.heap.size + 1) (rc .ready none))) := by
          rw [hid_iff]
          rintro r V9 ⟨h1, h2, h3, h4⟩
          have h5 : V9.heap[W5.heap.size + 1]? = some (rc .busy none) := (h4.block _ (by simpa using hlt) (by omega)).trans rb
          have hlt9 : W5.heap.size + 1 < V9.heap.size := (Array.getElem?_eq_some_iff.1 h5).1
          refine ⟨h1, h5, ?_⟩
          rw [HR.out]
          refine ⟨true, rfl, fun _ => ?_, fun h => by cases h⟩
          have hKr : Kept (fun q => q = W5.heap.size + 1) V9 (V9.putObj (W5.heap.size + 1) (rc .ready none)) := kept_put1 _ _ _
          refine ⟨?_, ?_, (hK9'.trans h4 (fun _ _ h => h) (fun _ _ h => h.elim .inl (fun h => .inr (.inl h)))).put (fun _ => .inr (.inr rfl)) _, World.putObj_heap_same hlt9⟩
          · have := hKr.box h2 (by omega)
            rw [hdx] at this
            rw [show max d (deep + max mk dx) = max (max d (deep + mk)) (deep + 1 + dx - 1) by omega]
            exact this
          · have := hKr.box h3 (by omega)
            rw [hcx] at this
            rw [← Nat.add_assoc]
            exact this
        clear HR hK9' rb f1 f2 f3 f4 g1 g2 g3 g4 hIx hSx hx hEx htx hb j1 j2 j3 j4 jw jp hdx hcx m1 m2 m3 m4 m5 m6 hxe hkl hK9 hKV hKV2 hlt hz0 hzb b6d b6c b6w b6p b6r b6e E6 hK16 HIH hs6 r6 d6
        subst hrc
        refine yield_round hfn hl rfl ?_
        generalize recL fn _ _ _ _ W5.heap.size = rc at *
        gi_wp2_with fail
        refine ⟨hl, ?_⟩
        gi_wp2_with fail
        refine ⟨trivial, (CallsIn.inRound _ (callsIn_wide.2 hcall)).mono ?_⟩
        rintro r V9 hV9
        obtain ⟨rfl, h5, h6⟩ := HW.out r V9 hV9
        clear hcall HW hV9 c3 c4 hl
        gi_wp2
        exact ⟨h5, h6⟩
      case done =>
        rintro r W7 ⟨⟨v, rfl⟩, hJ | hJ⟩
        · obtain ⟨q1, q2, q3, q4⟩ := hJ
          refine ⟨⟨v, rfl⟩, .inl ⟨q4, ?_⟩⟩
          rw [List.take_of_length_le (Nat.le_refl _)] at q1 q2
          have hX := kept_put1 W7 (W5.heap.size + 1) (rc .exhausted none)
          have p1 := hX.box q1 (by omega)
          have p2 := hX.box q2 (by omega)
          have p3 := hX.box (q3.box b6r (by omega)) (by omega)
          have p4 : (W7.putObj (W5.heap.size + 1) (rc .exhausted none)).heap[W5.heap.size]? = some (.deferred (some [])) := (hX.block _ (by have := q3.size; omega) (by omega)).trans ((q3.block _ (by omega) (by omega)).trans d6)
          have hKX : Kept (fun q => q = bd ∨ q = bc ∨ q = W5.heap.size + 1) W6 (W7.putObj (W5.heap.size + 1) (rc .exhausted none)) := q3.put (fun _ => .inr (.inr rfl)) _
          have e1 : deep + depX e - 1 = deep + ((pts e).map depX).foldl max 0 := by rw [pts_dep e]; omega
          have e2 : c + cntX e = c + 1 + ((pts e).map cntX).sum := by rw [pts_cnt e]; omega
          rw [← e1] at p1
          rw [← e2] at p2
          have p5 := p3.cell
          have p6 := p3.frozen
          generalize W7.putObj (W5.heap.size + 1) (rc .exhausted none) = X at *
          clear e1 e2 hX q1 q2 q3 q4 b6d b6c b6w b6p b6r b6e E6 HIH r6 d6 hrc HG
          go_wp2
          have p7 := p3.set (.bool true)
          have p8 : (X.setCell ⟨w.heap.size + 1, 0, none⟩ (.bool true)).heap[W5.heap.size]? = some (.deferred (some [])) := (Below.heap_setCell X _ _ _ (by simp; omega)).trans p4
          have o1 := p1.other (B' := w.heap.size + 1) (by omega) (.bool true)
          have o2 := p2.other (B' := w.heap.size + 1) (by omega) (.bool true)
          have hKY : Kept (fun q => q = bd ∨ q = bc) w (X.setCell ⟨w.heap.size + 1, 0, none⟩ (.bool true)) := (hK16.trans hKX (U := fun q => q = bd ∨ q = bc) (fun _ _ h => h) (fun q hq h => by omega)).setCell (p := ⟨w.heap.size + 1, 0, none⟩) (fun h => by simp at h; omega) _
          generalize X.setCell ⟨w.heap.size + 1, 0, none⟩ (.bool true) = Y at *
          have hD := kept_put1 Y W5.heap.size (.deferred none)
          refine ⟨by simp, .inl ⟨_, _, rfl, run_takeDeferred p8, ?_⟩⟩
          refine ⟨.bool true, results_cell1 rfl _ _ ⟨w.heap.size + 1, 0, none⟩ _ rfl (load_bool _ _ _ (hD.box p7 (by omega)).cell), rfl, hD.box o1 (by omega), hD.box o2 (by omega), hKY.put (fun h => by omega) _⟩
        · exact hJ.elim
end Go.Proofs.Ytcokihblicgbpaa

namespace Go.Proofs.Ytcokihblicgbpaa
open Go.RowKit Go.Shelf

theorem results_cct {P : Program} {fn : Func} {p q u : Tmp} {ty ty' : TypeId} (h : fn.results = #[.cell p ty, .cell q ty', .tmp u]) (tmps : Array Value) (w : World) (a b : Addr) (v v' : Value) (hp : tmps.getD p undef = .pointer (some a)) (hq : tmps.getD q undef = .pointer (some b)) (hl : (loadVar ty a).run P w = .ok v w) (hl' : (loadVar ty' b).run P w = .ok v' w) : (results fn tmps).run P w = .ok (.tuple #[v, v', tmps.getD u undef]) w := by
  have hp' : tmps[p]?.getD undef = .pointer (some a) := by simpa using hp
  have hq' : tmps[q]?.getD undef = .pointer (some b) := by simpa using hq
  simp [results, h, hp', hq', asAddr, hl, hl']
theorem load_int (w : World) (a : Addr) (v : Value) (h : w.cell? a = some v) : (loadVar 3 a).run Try.prog w = .ok v w := by
  simp [loadVar, go_sem, Try.isAgg3, h]
theorem store_box {P : Program} {W : World} {B : Nat} {t : TypeId} {v v' : Value} (h : Boxed W B t v) (hv : v'.oneCell' = true) : (store ⟨B, 0, none⟩ v').run P W = .ok () (W.setCell ⟨B, 0, none⟩ v') := by
  rw [run_store _ _ _ _ _ hv]
  simp [h.cell, h.frozen]
/-- What measure answers. -/
def MeaE (e : Ex) (w : World) (r : Ending) (w' : World) : Prop := r = .returned (.tuple #[.int .i64 (depX e : Int), .int .i64 (cntX e : Int), .bool true]) ∧ Below w.heap.size w w'
set_option maxRecDepth 1000000 in
set_option maxHeartbeats 2000000 in
theorem measure0 (e : Ex) (G : Nat → Prop) (b o : Nat) (kv pv av : Value) (w : World) (hE : EA G w b o e kv pv av) (hG : ∀ g, G g → g < w.heap.size) (hdp : depX e ≤ 262144) (hct : cntX e ≤ 2147483647) (hSm : AllX SmP e) :
    Calls Try.prog 22 #[.pointer (some ⟨b, o, none⟩)] w (MeaE e w) := by
  obtain ⟨W2, hW2⟩ : ∃ W2, W2 = ((w.alloc (.cells #[.int .i64 0] 3)).alloc (.cells #[.int .i64 0] 3)).alloc (.cells #[.nilFunc] 85) := ⟨_, rfl⟩
  have hK2 : Kept (fun _ => False) w W2 := by rw [hW2]; exact (((Kept.refl _ w).alloc _).alloc _).alloc _
  have z1 : Boxed W2 w.heap.size 3 (.int .i64 ((0 : Nat) : Int)) := by rw [hW2]; exact ((Boxed.new w _ _).alloc _).alloc _
  have z2 : Boxed W2 (w.heap.size + 1) 3 (.int .i64 ((0 : Nat) : Int)) := by
    rw [hW2]
    have := (Boxed.new (w.alloc (.cells #[.int .i64 0] 3)) 3 (.int .i64 0)).alloc (.cells #[.nilFunc] 85)
    rwa [World.size_alloc] at this
  have z3 : Boxed W2 (w.heap.size + 1 + 1) 85 .nilFunc := by
    rw [hW2]
    have := Boxed.new ((w.alloc (.cells #[.int .i64 0] 3)).alloc (.cells #[.int .i64 0] 3)) 85 .nilFunc
    rwa [World.size_alloc, World.size_alloc] at this
  have hst := store_box (P := Try.prog) z3 (v' := .func (.func 37) #[] #[pB w.heap.size, pB (w.heap.size + 1), pB (w.heap.size + 1 + 1)]) rfl
  have s1 := z1.other (B' := w.heap.size + 1 + 1) (by omega) (.func (.func 37) #[] #[pB w.heap.size, pB (w.heap.size + 1), pB (w.heap.size + 1 + 1)])
  have s2 := z2.other (B' := w.heap.size + 1 + 1) (by omega) (.func (.func 37) #[] #[pB w.heap.size, pB (w.heap.size + 1), pB (w.heap.size + 1 + 1)])
  have s3 := z3.set (.func (.func 37) #[] #[pB w.heap.size, pB (w.heap.size + 1), pB (w.heap.size + 1 + 1)])
  have hK3 := hK2.setCell (p := ⟨w.heap.size + 1 + 1, 0, none⟩) (fun h => by simp at h; omega) (.func (.func 37) #[] #[pB w.heap.size, pB (w.heap.size + 1), pB (w.heap.size + 1 + 1)])
  generalize W2.setCell ⟨w.heap.size + 1 + 1, 0, none⟩ (.func (.func 37) #[] #[pB w.heap.size, pB (w.heap.size + 1), pB (w.heap.size + 1 + 1)]) = W3 at hst s1 s2 s3 hK3
  rw [hW2] at hst
  clear hW2 hK2 z1 z2 z3
  have hz := hK3.size
  have hcall := within1 e G b o kv pv av 1 0 0 w.heap.size (w.heap.size + 1) (w.heap.size + 1 + 1) W3 (hK3.ea hE hG (fun _ _ h => h)) (fun g hg => by have := hG g hg; omega) (fun h => by have := hG _ h; omega) (fun h => by have := hG _ h; omega) (by omega) (by omega) (by omega) s1 s2 s3 (by omega) (by omega) (by omega) (by omega) hSm
  have c3 := s3.cell
  simp only [pB] at hcall c3 hst
  have HW : Hid (∀ r V, WthE e 1 0 0 w.heap.size (w.heap.size + 1) W3 r V → r = .returned (.bool true) ∧ Boxed V w.heap.size 3 (.int .i64 (depX e : Int)) ∧ Boxed V (w.heap.size + 1) 3 (.int .i64 (cntX e : Int)) ∧ Below w.heap.size w V) := by
    rw [hid_iff]
    rintro r V ⟨h1, h2, h3, h4⟩
    rw [show max 0 (1 + depX e - 1) = depX e by omega] at h2
    rw [show 0 + cntX e = cntX e by omega] at h3
    exact ⟨h1, h2, h3, ((hK3.mono (fun _ _ h => h.elim)).trans h4 (U := fun q => w.heap.size ≤ q) (fun _ _ h => h) (fun q _ h => by omega)).below (Nat.le_refl _) (fun x hx h => by omega)⟩
  clear hE hG hdp hct hSm hK3 s1 s2 s3 hz
  go_enter Try.func22, Try.ntmps22
  go_wp2_with fail
  refine hcall.mono ?_
  rintro r V hV
  obtain ⟨rfl, v1, v2, v3⟩ := HW.out r V hV
  clear hV HW hcall c3
  have x1 := v1.cell
  have x2 := v1.frozen
  have x3 := v2.cell
  have x4 := v2.frozen
  go_wp2_with fail
  go_region
  all_goals
    go_wp2_with fail
    have o1 := (v1.set (.int .i64 (depX e : Int))).other (B' := w.heap.size + 1) (by omega) (.int .i64 (cntX e : Int))
    have o2 := (v2.other (B' := w.heap.size) (by omega) (.int .i64 (depX e : Int))).set (.int .i64 (cntX e : Int))
    refine bodyPost_ret (results_cct rfl _ _ ⟨w.heap.size, 0, none⟩ ⟨w.heap.size + 1, 0, none⟩ (.int .i64 (depX e : Int)) (.int .i64 (cntX e : Int)) rfl rfl (load_int _ _ _ o1.cell) (load_int _ _ _ o2.cell)) rfl ?_
    exact ⟨rfl, ((v3.setCell (p := ⟨w.heap.size, 0, none⟩) (Nat.le_refl _) _).setCell (p := ⟨w.heap.size + 1, 0, none⟩) (Nat.le_succ _) _).drew⟩
/-- The call's own copy of an expression. -/
theorem ea_box {G : Nat → Prop} {w : World} {e : Ex} {kv pv av : Value} (hX : XI G w kv pv av e) (hG : ∀ g, G g → g < w.heap.size) : EA (fun g => G g ∨ g = w.heap.size) (w.alloc (.cells (exc e kv pv av).toArray 27)) w.heap.size 0 e kv pv av := by
  have hn := heap_alloc_new w (.cells (exc e kv pv av).toArray 27)
  refine ⟨.inr rfl, XI.frame (fun g hg => ⟨.inl hg, Below.heap_alloc w _ g (hG g hg)⟩) _ hX, fun j u hj => ?_⟩
  rw [Nat.zero_add, cell_of_row _ _ j _ _ _ hn]
  simpa using hj
theorem ea_lt {G : Nat → Prop} {w : World} (hG : ∀ g, G g → g < w.heap.size) (ob : Obj) : ∀ g, (G g ∨ g = w.heap.size) → g < (w.alloc ob).heap.size := fun g hg => by
  rw [World.size_alloc]
  rcases hg with h | h
  · have := hG g h
    omega
  · omega
set_option maxRecDepth 1000000 in
set_option maxHeartbeats 1000000 in
theorem capDepth (e : Ex) (G : Nat → Prop) (kv pv av : Value) (w : World) (hX : XI G w kv pv av e) (hG : ∀ g, G g → g < w.heap.size) (hdp : depX e ≤ 262144) (hct : cntX e ≤ 2147483647) (hSm : AllX SmP e) :
    Calls Try.prog 10 #[exv e kv pv av] w (NatE (depX e) w) := by
  have hcall := measure0 e _ _ _ kv pv av _ (ea_box hX hG) (ea_lt hG _) hdp hct hSm
  obtain ⟨⟨y1, y2, rfl⟩, ⟨y3, y4, rfl⟩, ⟨y5, y6, rfl⟩⟩ := hX.shapes
  have hb : Below w.heap.size w (w.alloc (.cells (exc e (.slice y1 e.kids.length y2) (.slice y3 e.params.length y4) (.slice y5 e.bods.length y6)).toArray 27)) := (Below.refl _ w).alloc (Nat.le_refl _) _
  unfold exc at hcall hb
  unfold exv
  clear hX hG hdp hct hSm
  go_enter Try.func10, Try.ntmps10
  go_wp2_with (go_at_call 22; refine hcall.mono ?_; rintro r w9 ⟨rfl, hb9⟩)
  go_ret
  exact ⟨rfl, hb.trans (hb9.mono hb.size)⟩
set_option maxRecDepth 1000000 in
set_option maxHeartbeats 1000000 in
theorem capCount (e : Ex) (G : Nat → Prop) (kv pv av : Value) (w : World) (hX : XI G w kv pv av e) (hG : ∀ g, G g → g < w.heap.size) (hdp : depX e ≤ 262144) (hct : cntX e ≤ 2147483647) (hSm : AllX SmP e) :
    Calls Try.prog 11 #[exv e kv pv av] w (NatE (cntX e) w) := by
  have hcall := measure0 e _ _ _ kv pv av _ (ea_box hX hG) (ea_lt hG _) hdp hct hSm
  obtain ⟨⟨y1, y2, rfl⟩, ⟨y3, y4, rfl⟩, ⟨y5, y6, rfl⟩⟩ := hX.shapes
  have hb : Below w.heap.size w (w.alloc (.cells (exc e (.slice y1 e.kids.length y2) (.slice y3 e.params.length y4) (.slice y5 e.bods.length y6)).toArray 27)) := (Below.refl _ w).alloc (Nat.le_refl _) _
  unfold exc at hcall hb
  unfold exv
  clear hX hG hdp hct hSm
  go_enter Try.func11, Try.ntmps11
  go_wp2_with (go_at_call 22; refine hcall.mono ?_; rintro r w9 ⟨rfl, hb9⟩)
  go_ret
  exact ⟨rfl, hb.trans (hb9.mono hb.size)⟩
end Go.Proofs.Ytcokihblicgbpaa

namespace Go.Proofs.Ytcokihblicgbpaa
open Go.RowKit Go.Maps

/-- A map that counts: n updates at most have been. -/
def MapN (w : World) (b n : Nat) (c : List UInt8 → Nat) : Prop :=
  (∃ D, w.ownsMap Try.prog 9 (plainElem (H := Nat) Try.prog 3) b n D ∧ IsMap D ∧ ∀ q, D.atKey (.string q) (.lit (.int .i64 0)) = .lit (.int .i64 ((c q : Nat) : Int))) ∧ ∀ q, c q ≤ n
theorem MapN.lt {w : World} {b n : Nat} {c : List UInt8 → Nat} (h : MapN w b n c) : b < w.heap.size := by
  obtain ⟨⟨D, h1, _⟩, _⟩ := h
  exact h1.lt
theorem MapN.kept {S : Nat → Prop} {w w' : World} {b n : Nat} {c : List UInt8 → Nat} (h : MapN w b n c) (k : Kept S w w') (hb : ¬ S b) : MapN w' b n c := by
  obtain ⟨⟨D, h1, h2⟩, h3⟩ := h
  have e := k.block b h1.lt hb
  obtain ⟨es, ck, hb', hr⟩ := h1
  exact ⟨⟨D, ⟨es, ck, e.trans hb', hr⟩, h2⟩, h3⟩
theorem MapN.new (w : World) : MapN (w.alloc (.map #[] 0)) w.heap.size 0 (fun _ => 0) := ⟨⟨_, World.ownsMap_made _ _ _ _, ⟨[], rfl⟩, fun _ => rfl⟩, fun _ => Nat.le_refl _⟩
theorem MapN.drew {w : World} {b n : Nat} {c : List UInt8 → Nat} (h : MapN w b n c) : MapN w.drew b n c := h.kept (S := fun _ => False) ((Kept.refl _ w).drew) (fun h => h)
theorem keyN {x : List UInt8} (hx : x.length ≤ 100000) : keyOf Try.prog 9 (.string (str x)) = some (.string x) := Go.WideMaps.keyOf_string_mk Try.underlying9 (by rw [str_size]; unfold maxLen; omega)
theorem MapN.look {w : World} {b n : Nat} {c : List UInt8 → Nat} (h : MapN w b n c) (q : List UInt8) (hq : q.length ≤ 100000) : (Instr.lookup 51 (.map (some b)) (.string (str q)) false).run Try.prog w = .ok (.int .i64 ((c q : Nat) : Int)) w := by
  obtain ⟨⟨D, h1, h2, h3⟩, _⟩ := h
  obtain ⟨x, hrun, hat, _⟩ := h1.lookup_int (string_keyed Try.underlying9) Try.underlying51 Try.underlying3 (Try.zeroValue3 _) (keyN hq)
  rw [h3] at hat
  simp only [DataW.lit.injEq, Lit.int.injEq, true_and] at hat
  rw [hrun, hat]
theorem MapN.put {w : World} {b n : Nat} {c : List UInt8 → Nat} (h : MapN w b n c) (hn : n ≤ 8796093022208) (q : List UInt8) (hq : q.length ≤ 100000) (v : Nat) (hv : v ≤ n + 1) :
    ∃ w', (Instr.mapUpdate 51 (.map (some b)) (.string (str q)) (.int .i64 (v : Int))).run Try.prog w = .ok () w' ∧ MapN w' b (n + 1) (fun x => if x = q then v else c x) ∧ Kept (fun k => k = b) w w' := by
  obtain ⟨⟨D, h1, h2, h3⟩, h4⟩ := h
  have hwf : (Lit.int .i64 (v : Int)).wf = true := Go.WalkArith.wf_i64 ⟨by omega, by omega⟩
  obtain ⟨w', hrun, r1, r2⟩ := h1.update (string_keyed Try.underlying9) Try.underlying51 (by unfold maxLen; omega) (keyN hq) (plainElem_int Try.underlying3 hwf)
  refine ⟨w', hrun, ⟨⟨_, r1, by obtain ⟨es, rfl⟩ := h2; exact ⟨_, rfl⟩, fun x => ?_⟩, fun x => ?_⟩, (Kept.refl _ w).grown r2 (fun k e _ => by cases e; rfl)⟩
  · by_cases e : x = q
    · subst e
      rw [atKey_put_same h2 (show WideAt.IsKeyLit (.string x) from trivial)]
      simp
    · rw [atKey_put_other (by simp; exact e), h3]
      simp [e]
  · have := h4 x
    simp only []
    split <;> omega
theorem incs_snoc (c : List UInt8 → Nat) (ns : List (List UInt8)) (q : List UInt8) : (fun x => if x = q then incs c ns q + 1 else incs c ns x) = incs c (ns ++ [q]) := by
  funext x
  simp only [incs, List.count_append]
  by_cases e : x = q
  · subst e
    simp
    omega
  · rw [if_neg e, show List.count x [q] = 0 from (List.count_eq_zero (a := x) (l := [q])).2 (by simp; exact e)]
    omega
theorem decs_snoc (c : List UInt8 → Nat) (ns : List (List UInt8)) (q : List UInt8) : (fun x => if x = q then decs c ns q - 1 else decs c ns x) = decs c (ns ++ [q]) := by
  funext x
  simp only [decs, List.count_append]
  by_cases e : x = q
  · subst e
    simp
    omega
  · rw [if_neg e, show List.count x [q] = 0 from (List.count_eq_zero (a := x) (l := [q])).2 (by simp; exact e)]
    omega
theorem incs_nil (c : List UInt8 → Nat) : incs c [] = c := by funext x; simp [incs]
theorem decs_nil (c : List UInt8 → Nat) : decs c [] = c := by funext x; simp [decs]
/-- What is told first, of the expression itself. -/
def lk0 (e : Ex) (st : LkS) : LkS := if e.kind = 3 ∧ st.2 e.name = 0 ∧ noDot e.name = true then (st.1 ++ [e.name], incs st.2 [e.name]) else st
def lkS (e : Ex) (st : LkS) (k : Nat) : LkS := ((pts e).zipIdx.take k).foldl (fun s p => inN (nmP e p.2) s p.1) (lk0 e st)
theorem lkS_zero (e : Ex) (st : LkS) : lkS e st 0 = lk0 e st := rfl
theorem lkS_succ (e : Ex) (st : LkS) (k : Nat) (x : Ex) (h : (pts e)[k]? = some x) : lkS e st (k + 1) = inN (nmP e k) (lkS e st k) x := by
  have hk : k < (pts e).zipIdx.length := by rw [List.length_zipIdx]; exact (List.getElem?_eq_some_iff.1 h).1
  have hx := (List.getElem?_eq_some_iff.1 h).2
  rw [lkS, List.take_succ_eq_append_getElem hk, List.foldl_append]
  simp only [List.foldl_cons, List.foldl_nil, List.getElem_zipIdx, hx, Nat.zero_add]
  rfl
theorem zip_fold {α : Type} (l : List Ex) (f g : Nat → α → Ex → α) (z : α) (n : Nat) (h : ∀ i, i < l.length → f (n + i) = g i) : (l.zipIdx n).foldl (fun s p => f p.2 s p.1) z = l.zipIdx.foldl (fun s p => g p.2 s p.1) z := by
  rw [List.zipIdx_eq_map_add, List.foldl_map]
  have hh : ∀ (m : List (Ex × Nat)), (∀ p ∈ m, p.2 < l.length) → ∀ z, m.foldl (fun s p => f (n + p.2) s p.1) z = m.foldl (fun s p => g p.2 s p.1) z := by
    intro m
    induction m with
    | nil => exact fun _ _ => rfl
    | cons p r ih =>
      intro hp z
      rw [List.foldl_cons, List.foldl_cons, h _ (hp p (by simp))]
      exact ih (fun q hq => hp q (by simp [hq])) _
  exact hh l.zipIdx (fun p hp => by have := List.snd_lt_add_of_mem_zipIdx hp; omega) z
theorem look_pts (e : Ex) (h : ShP e) (st : LkS) : lookX e st = lkS e st (pts e).length := by
  rw [lkS, List.take_of_length_le (by rw [List.length_zipIdx]; exact Nat.le_refl _), lookX_eq, pts, List.zipIdx_append, List.foldl_append]
  have e1 : e.kids.zipIdx.foldl (fun s p => inN (nmP e p.2) s p.1) (lk0 e st) = e.kids.zipIdx.foldl (fun s p => inN (bindR e.kind e.name e.params e.kids.length p.2) s p.1) (lk0 e st) :=
    zip_fold e.kids (fun i s x => inN (nmP e i) s x) (fun i s x => inN (bindR e.kind e.name e.params e.kids.length i) s x) _ 0 (fun i hi => by
      rw [Nat.zero_add, nmP, if_pos hi, bindN, bindR]
      by_cases h4 : e.kind = 4 ∧ i + 1 = e.kids.length
      · have := (h.2.1 h4.1).1
        rw [if_pos h4, if_pos ⟨h4.1, h4.2, by omega⟩]
      · rw [if_neg h4, if_neg (show ¬ (e.kind = 4 ∧ i + 1 = e.kids.length ∧ 0 < i) from fun g => h4 ⟨g.1, g.2.1⟩)])
  rw [e1, Nat.zero_add]
  exact (zip_fold e.bods (fun i s x => inN (nmP e i) s x) (fun i s x => inN (e.arms.getD i ([], [])).2 s x) _ e.kids.length (fun i hi => by
      rw [nmP, if_neg (by omega), Nat.add_sub_cancel_left])).symm
theorem inN_ge (ns : List (List UInt8)) (x : Ex) (h : ∀ st q, st.2 q ≤ (lookX x st).2 q) (s : LkS) (q : List UInt8) : s.2 q ≤ (inN ns s x).2 q := by
  have h1 := h (s.1, incs s.2 ns) q
  simp only [inN, decs, incs] at h1 ⊢
  omega
theorem look_ge (e : Ex) : AllX ShP e → ∀ (st : LkS) (q : List UInt8), st.2 q ≤ (lookX e st).2 q := by
  induction e using ex_ind with
  | h e ih1 ih2 =>
    intro hS st q
    obtain ⟨h1, h2, h3⟩ := (AllX_iff _ _).1 hS
    rw [look_pts e h1]
    have hb : st.2 q ≤ (lk0 e st).2 q := by
      unfold lk0
      split
      · simp only [incs]
        omega
      · exact Nat.le_refl _
    have hk : ∀ k, k ≤ (pts e).length → st.2 q ≤ (lkS e st k).2 q := by
      intro k
      induction k with
      | zero => exact fun _ => hb
      | succ k ih =>
        intro hkl
        have hx : (pts e)[k]? = some (pts e)[k] := List.getElem?_eq_getElem (by omega)
        rw [lkS_succ e st k _ hx]
        refine Nat.le_trans (ih (by omega)) (inN_ge _ _ (fun st q => ?_) _ _)
        rcases pts_mem e hx with hm | hm
        · exact ih1 _ hm (h2 _ hm) st q
        · exact ih2 _ hm (h3 _ hm) st q
    exact hk _ (Nat.le_refl _)
end Go.Proofs.Ytcokihblicgbpaa

namespace Go.Proofs.Ytcokihblicgbpaa
open Go.RowKit Go.Shelf
attribute [local go_sem] Oper.semAt_some

theorem cloneT (x : List UInt8) (w : World) (h : x.length ≤ 100000) : Calls Try.prog 25 #[.string (str x)] w fun e w' => e = .returned (.string (str x)) ∧ Below w.heap.size w w' := by
  go_enter Try.func25, Try.ntmps25
  go_wp2_with fail
  refine (Try.stringslite_Clone (str x) _ (by rw [str_size]; omega)).mono ?_
  rintro e w1 ⟨rfl, hb⟩
  go_wp2
  go_ret
  exact ⟨rfl, hb⟩
theorem index_dot (l : List UInt8) : decide (0 ≤ Lib.indexByte l 46) = !noDot l := by
  induction l with
  | nil => rfl
  | cons c r ih =>
    unfold Lib.indexByte
    rw [noDot, List.all_cons, ← noDot]
    by_cases h : c = 46
    · subst h
      simp
    · have hb : (c == 46) = false := by simpa using h
      have hn : (c != 46) = true := by simp [bne, hb]
      have := Lib.indexByte_ge r 46
      simp only [hn, Bool.true_and, ← ih]
      simp [h]
      constructor
      · intro g
        split at g <;> omega
      · intro g
        split <;> omega
theorem contDot (x : List UInt8) (w : World) : Calls Try.prog 24 #[.string (str x), .string ⟨#[46]⟩] w fun e w' => e = .returned (.bool (!noDot x)) ∧ w' = w := by
  have h := Try.strings_Contains_one (str x) 46 w
  rw [show (str x).data.toList = x by simp [str], index_dot] at h
  exact h
theorem step_textL {w : World} {ops : Array Oper} {o : Oper} {a : Act} {K : Act → World → Prop} {Q : Exit → Act → World → Prop} {E : Prop} (hgd : o.guard = none) (s x : Operand)
    (ho : o.op = .call { callee := .builtin .append, args := #[s, x], argTypes := #[30, 30] })
    (B : Nat) (v : Value) (ks : List (List UInt8)) (hs : a.eval s = v) (hown : w.ownsRow B 9 1 v ks.length (sc ks)) (n : List UInt8) (ad : Addr) (cp : Nat) (hx : a.eval x = .slice (some ad) 1 cp)
    (hnews : ∀ j u, ([.string (str n)] : List Value)[j]? = some u → w.cell? (ad.add j) = some u) (hlen : ks.length + 1 ≤ 100000) (hB : B ≤ w.heap.size)
    (h : ∀ g cap w', w'.ownsRow B 9 1 (.slice (some ⟨g, 0, none⟩) (ks.length + 1) cap) (ks ++ [n]).length (sc (ks ++ [n])) → w.grownBy w' v.ownBlock → (v.ownBlock = some g ∨ g = w.heap.size) → K (a.put o.dst (.slice (some ⟨g, 0, none⟩) (ks.length + 1) cap)) w') :
    if Region.wanted o (yielded ops a.tmps) = true then Oper.wp Try.prog o a w K Q else E := by
  obtain ⟨i, z, hi, hz, h1, h2, h3⟩ := info_z infoS
  refine step_append_lies w hgd s x 30 ho B 9 i z 1 16 Try.underlying30 hi hz h1 h2 h3 (by decide) v _ (sc ks) hs hown ad 1 cp [.string (str n)] hx rfl hnews (fun u hu => ?_) (by decide) (by unfold maxLen; omega) (by omega) hB w.heap.size rfl ?_
  · simp only [List.mem_cons, List.not_mem_nil, or_false] at hu
    subst hu
    rfl
  · intro g cap w' q1 q2 q3 q4
    refine h g cap w' ?_ q2 q3
    have e : sc (ks ++ [n]) = sc ks ++ [.string (str n)] := by simp [sc]
    rw [e]
    simpa using q1
theorem txr_shape2 {F : Nat → Prop} {w : World} {v : Value} {xs : List (List UInt8)} (h : TxR F w v xs) : ∃ a c, v = .slice a xs.length c := by
  rcases h with ⟨a, c, rfl, rfl⟩ | ⟨g, o, c, rfl, _⟩
  · exact ⟨a, c, rfl⟩
  · exact ⟨_, _, rfl⟩
/-- What look keeps: the boxes, the names told (a row of its own), the counts. -/
structure LSt (bf mb bm bk : Nat) (W : World) (v : Value) (n : Nat) (st : LkS) : Prop where
  m : Boxed W bm 51 (.map (some mb))
  k : Boxed W bk 52 (.func (.func 23) #[] #[pB bm, pB bf, pB bk])
  f : Boxed W bf 30 v
  o : W.ownsRow (bk + 1) 9 1 v st.1.length (sc st.1)
  p : MapN W mb n st.2
theorem own_lt {W : World} {B e s k : Nat} {v : Value} {xs : List Value} (h : W.ownsRow B e s v k xs) {g : Nat} (hg : v.ownBlock = some g) : B ≤ g ∧ g < W.heap.size := by
  rcases h.2 with ⟨rfl, _⟩ | ⟨g', cap, cur, rfl, h1, h2, _⟩
  · simp [Value.ownBlock] at hg
  · have : g' = g := by simpa [Value.ownBlock] using hg
    subst this
    exact ⟨h1, (Array.getElem?_eq_some_iff.1 h2).1⟩
theorem LSt.kept {bf mb bm bk : Nat} {W W' : World} {v : Value} {n : Nat} {st : LkS} (h : LSt bf mb bm bk W v n st) {S : Nat → Prop} (K : Kept S W W') (hf : ¬ S bf) (hm : ¬ S mb) (hb : ¬ S bm) (hk : ¬ S bk) (ho : ∀ g, v.ownBlock = some g → ¬ S g) : LSt bf mb bm bk W' v n st :=
  ⟨K.box h.m hb, K.box h.k hk, K.box h.f hf, K.own h.o ho, h.p.kept K hm⟩
/-- How v' may lie, beside v. -/
def OwL (v v' : Value) (N : Nat) : Prop := ∀ g, v'.ownBlock = some g → v.ownBlock = some g ∨ N ≤ g
theorem OwL.refl (v : Value) (N : Nat) : OwL v v N := fun _ h => .inl h
theorem LSt.tell {bf mb bm bk : Nat} {W w' : World} {v : Value} {n : Nat} {st : LkS} (h : LSt bf mb bm bk W v n st) (l1 : bf < mb) (l2 : mb < bm) (l3 : bm < bk) {g cap : Nat} {nm : List UInt8}
    (ho : w'.ownsRow (bk + 1) 9 1 (.slice (some ⟨g, 0, none⟩) (st.1.length + 1) cap) (st.1 ++ [nm]).length (sc (st.1 ++ [nm]))) (hg : W.grownBy w' v.ownBlock) (hl : v.ownBlock = some g ∨ g = W.heap.size) :
    (w'.cell? ⟨bf, 0, none⟩ = some v ∧ w'.frozen? ⟨bf, 0, none⟩ = false) ∧ LSt bf mb bm bk (w'.setCell ⟨bf, 0, none⟩ (.slice (some ⟨g, 0, none⟩) (st.1.length + 1) cap)) (.slice (some ⟨g, 0, none⟩) (st.1.length + 1) cap) n (st.1 ++ [nm], st.2) ∧
      Kept (fun q => q = bf ∨ q = mb ∨ v.ownBlock = some q) W (w'.setCell ⟨bf, 0, none⟩ (.slice (some ⟨g, 0, none⟩) (st.1.length + 1) cap)) ∧ OwL v (.slice (some ⟨g, 0, none⟩) (st.1.length + 1) cap) W.heap.size := by
  have hK : Kept (fun q => v.ownBlock = some q) W w' := (Kept.refl _ W).grown hg (fun k e _ => e)
  have hno : ∀ q, q ≤ bk → ¬ v.ownBlock = some q := fun q hq e => by have := (own_lt h.o e).1; omega
  have f1 := hK.box h.f (hno _ (by omega))
  have m1 := hK.box h.m (hno _ (by omega))
  have k1 := hK.box h.k (hno _ (by omega))
  have p1 := h.p.kept hK (hno _ (by omega))
  have hS := (Kept.refl (fun q => q = bf) w').setCell (p := ⟨bf, 0, none⟩) (fun _ => rfl) (.slice (some ⟨g, 0, none⟩) (st.1.length + 1) cap)
  have hgb := (own_lt ho (g := g) rfl).1
  refine ⟨⟨f1.cell, f1.frozen⟩, ⟨hS.box m1 (by omega), hS.box k1 (by omega), f1.set _, hS.own ho (fun q hq e => ?_), p1.kept hS (by omega)⟩, hK.trans hS (fun _ _ h => .inr (.inr h)) (fun _ _ h => .inl h), fun q hq => ?_⟩
  · have : g = q := by simpa [Value.ownBlock] using hq
    omega
  · have : g = q := by simpa [Value.ownBlock] using hq
    subst this
    rcases hl with h | h
    · exact .inl h
    · exact .inr (by omega)
theorem LSt.drew {bf mb bm bk : Nat} {W : World} {v : Value} {n : Nat} {st : LkS} (h : LSt bf mb bm bk W v n st) : LSt bf mb bm bk W.drew v n st := h.kept (S := fun _ => False) ((Kept.refl _ W).drew) (fun h => h) (fun h => h) (fun h => h) (fun h => h) (fun _ _ h => h)
/-- One more binding, or one less. -/
theorem LSt.more {bf mb bm bk : Nat} {W : World} {v : Value} {n : Nat} {st : LkS} (h : LSt bf mb bm bk W v n st) (l1 : bf < mb) (l2 : mb < bm) (l3 : bm < bk) (hn : n ≤ 8796093022208) (q : List UInt8) (hq : q.length ≤ 100000) (x : Nat) (hx : x ≤ n + 1) (c : List UInt8 → Nat) (hc : (fun y => if y = q then x else st.2 y) = c) :
    ∃ w', (Instr.mapUpdate 51 (.map (some mb)) (.string (str q)) (.int .i64 (x : Int))).run Try.prog W = .ok () w' ∧ LSt bf mb bm bk w' v (n + 1) (st.1, c) ∧ Kept (fun k => k = mb) W w' := by
  obtain ⟨w', r1, r2, r3⟩ := h.p.put hn q hq x hx
  rw [hc] at r2
  refine ⟨w', r1, ⟨r3.box h.m (by omega), r3.box h.k (by omega), r3.box h.f (by omega), r3.own h.o (fun g hg e => ?_), r2⟩, r3⟩
  have := (own_lt h.o hg).1
  omega
theorem LSt.below {bf mb bm bk : Nat} {W W' : World} {v : Value} {n : Nat} {st : LkS} (h : LSt bf mb bm bk W v n st) (hb : Below W.heap.size W W') : LSt bf mb bm bk W' v n st := by
  have h1 := h.f.lt
  have h2 := h.p.lt
  have h3 := h.m.lt
  have h4 := h.k.lt
  exact h.kept (Kept.of_below hb) (by omega) (by omega) (by omega) (by omega) (fun g hg e => by have := (own_lt h.o hg).2; omega)
theorem OwL.mono {v v' : Value} {N M : Nat} (h : OwL v v' N) (hm : M ≤ N) : OwL v v' M := fun g hg => by
  rcases h g hg with h | h
  · exact .inl h
  · exact .inr (Nat.le_trans hm h)
theorem LSt.told {bf mb bm bk : Nat} {W wa w7 : World} {v : Value} {n : Nat} {st : LkS} (h : LSt bf mb bm bk W v n st) (l1 : bf < mb) (l2 : mb < bm) (l3 : bm < bk) (hba : Below W.heap.size W wa) (ob : Obj) {g cap : Nat} {nm : List UInt8} (hnm : nm.length ≤ 100000) (hn : n ≤ 8796093022208)
    (ho : w7.ownsRow (bk + 1) 9 1 (.slice (some ⟨g, 0, none⟩) (st.1.length + 1) cap) (st.1 ++ [nm]).length (sc (st.1 ++ [nm]))) (hg : (wa.alloc ob).grownBy w7 v.ownBlock) (hl : v.ownBlock = some g ∨ g = (wa.alloc ob).heap.size) :
    (w7.cell? ⟨bf, 0, none⟩ = some v ∧ w7.frozen? ⟨bf, 0, none⟩ = false) ∧ (w7.setCell ⟨bf, 0, none⟩ (.slice (some ⟨g, 0, none⟩) (st.1.length + 1) cap)).drew.cell? ⟨bm, 0, none⟩ = some (.map (some mb)) ∧
      (∀ p x, W.cell? p = some x → p.block < bf → (w7.setCell ⟨bf, 0, none⟩ (.slice (some ⟨g, 0, none⟩) (st.1.length + 1) cap)).drew.cell? p = some x) ∧
      (Instr.lookup 51 (.map (some mb)) (.string (str nm)) false).run Try.prog (w7.setCell ⟨bf, 0, none⟩ (.slice (some ⟨g, 0, none⟩) (st.1.length + 1) cap)).drew = .ok (.int .i64 ((st.2 nm : Nat) : Int)) (w7.setCell ⟨bf, 0, none⟩ (.slice (some ⟨g, 0, none⟩) (st.1.length + 1) cap)).drew ∧
      ∃ w8, (Instr.mapUpdate 51 (.map (some mb)) (.string (str nm)) (.int .i64 (((st.2 nm : Nat) : Int) + 1))).run Try.prog (w7.setCell ⟨bf, 0, none⟩ (.slice (some ⟨g, 0, none⟩) (st.1.length + 1) cap)).drew = .ok () w8 ∧
        LSt bf mb bm bk w8 (.slice (some ⟨g, 0, none⟩) (st.1.length + 1) cap) (n + 1) (st.1 ++ [nm], incs st.2 [nm]) ∧ Kept (fun q => q = bf ∨ q = mb ∨ v.ownBlock = some q) W w8 ∧ OwL v (.slice (some ⟨g, 0, none⟩) (st.1.length + 1) cap) W.heap.size := by
  have hb1 : Below W.heap.size W (wa.alloc ob) := hba.alloc hba.size _
  have hLa := h.below hb1
  obtain ⟨hs, hLz, hKz, hOz⟩ := hLa.tell l1 l2 l3 ho hg hl
  have hKw : Kept (fun q => q = bf ∨ q = mb ∨ v.ownBlock = some q) W (w7.setCell ⟨bf, 0, none⟩ (.slice (some ⟨g, 0, none⟩) (st.1.length + 1) cap)) := (Kept.of_below hb1).trans hKz (fun q hq e => absurd hq (by omega)) (fun _ _ h => h)
  have hLd := hLz.drew
  obtain ⟨w8, r1, r2, r3⟩ := hLd.more l1 l2 l3 hn nm hnm (st.2 nm + 1) (by have := h.p.2 nm; omega) (incs st.2 [nm]) (by have := incs_snoc st.2 [] nm; simpa [incs_nil] using this)
  refine ⟨hs, hLd.m.cell, fun p x hp hpb => ?_, hLd.p.look nm hnm, w8, r1, r2, hKw.drew.trans r3 (fun _ _ h => h) (fun _ _ h => .inr (.inl h)), hOz.mono hb1.size⟩
  refine hKw.drew.cell hp (fun e => ?_)
  rcases e with e | e | e
  · omega
  · omega
  · have := (own_lt h.o e).1
    have := h.k.lt
    omega
end Go.Proofs.Ytcokihblicgbpaa
