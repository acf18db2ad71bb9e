/-
  For any bytes: the law LexBack answers true: what is quoted is read as itself; brackets and a remark around it change nothing. No condition but those of the row.
-/
import Derived.Test.YtkhbngadlaofcaaRows
import Derived.Test.YtkhbngadlaofcaaLexKnown
import Derived.Test.YtkhbngadlaofcaaLexMath2
import Derived.Test.YtkhbngadlaofcaaLexQuote
import Derived.Test.YtkhbngadlaofcaaLexBytes
import Derived.Deep.RegionHeld3
import Derived.SizedLaws
namespace Go.Proofs.Ytkhbngadlaofcaa
open Go.ChangeShapes Go.WideShapes Go.ChangeAt Go.RowKit Go.Deep

theorem sameB (l : List Tok) (va vb : Value) (w : World) (hl : l.length ≤ 8193) (ha : RdT w va l) (hb : RdT w vb l) : Calls Try.prog 10 #[va, vb] w fun e w' => e = .returned (.bool true) ∧ Below w.heap.size w w' :=
  (same l va vb w hl ha hb).mono fun _ _ ⟨he, n, hn⟩ => ⟨he, by rw [hn]; exact drewN_below (Below.refl _ _) n⟩
theorem RdB.alloc {w : World} {v : Value} {l : List UInt8} (h : RdB w v l) (o : Obj) : RdB (w.alloc o) v l := h.below ((Below.refl _ w).alloc (Nat.le_refl _) o)
theorem RdB.allocD {w : World} {v : Value} {l : List UInt8} (h : RdB w v l) (o : Obj) : RdB (w.alloc o).drew v l := h.alloc o
theorem RdT.allocD {w : World} {v : Value} {l : List Tok} (h : RdT w v l) (o : Obj) : RdT (w.alloc o).drew v l := h.alloc o
theorem RdT.newD (w : World) (e : TypeId) (l : List Tok) : RdT (w.alloc (.cells (tcs l).toArray e)).drew (.slice (some ⟨w.heap.size, 0, none⟩) l.length l.length) l := RdT.new w e l
theorem below_allocD {B : Nat} {a w : World} (h : Below B a w) (hB : B ≤ w.heap.size) (o : Obj) : Below B a (w.alloc o).drew := (h.alloc hB o).drew
def aroundToks (b : List UInt8) : List Tok := [⟨1, 1, []⟩, ⟨4, 2, b⟩, ⟨2, 2 + (quoteR b).length + 5, []⟩]
theorem RdT.cells3 {w : World} {g cap : Nat} {b : List UInt8} (h : RdT w (.slice (some ⟨g, 0, none⟩) 3 cap) (aroundToks b)) :
    w.cell? ⟨g, 0, none⟩ = some (.int .i64 1) ∧ w.cell? ⟨g, 3, none⟩ = some (.int .i64 4) ∧ w.cell? ⟨g, 4, none⟩ = some (.int .i64 2) ∧ w.cell? ⟨g, 5, none⟩ = some (.string (str b)) ∧ w.cell? ⟨g, 6, none⟩ = some (.int .i64 2) := by
  rcases h with ⟨h, _⟩ | ⟨g', cap', h, hc⟩
  · cases h
  · cases h
    exact ⟨hc 0 _ rfl, hc 3 _ rfl, hc 4 _ rfl, hc 5 _ rfl, hc 6 _ rfl⟩



set_option maxHeartbeats 4000000 in
set_option maxRecDepth 1000000 in
theorem lexBack_short (bl : List UInt8) (v : Value) (w : World) (hr : RdB w v bl) (hbl : bl.length ≤ 150) : Calls Try.prog 5 #[v] w fun e w' => e = .returned (.bool true) ∧ Below w.heap.size w w' := by
  have h1 : ∀ w, Calls Try.prog 8 #[.string (str (quoteR bl))] w (SE (.ok [⟨4, 0, bl⟩]) w) := by
    intro w
    have := split (str (quoteR bl)) w
    rwa [str_data, split_quote bl (by omega)] at this
  have h2 : ∀ w, Calls Try.prog 8 #[.string (⟨#[32, 40]⟩ ++ str (quoteR bl) ++ ⟨#[59, 32, 40, 10, 32, 41]⟩)] w (SE (.ok (aroundToks bl)) w) := by
    intro w
    have := split (⟨#[32, 40]⟩ ++ str (quoteR bl) ++ ⟨#[59, 32, 40, 10, 32, 41]⟩) w
    rw [show (⟨#[32, 40]⟩ : ByteArray) = str [32, 40] from rfl, show (⟨#[59, 32, 40, 10, 32, 41]⟩ : ByteArray) = str [59, 32, 40, 10, 32, 41] from rfl, str_append, str_append, str_data, split_around bl (by omega)] at this
    rwa [show (⟨#[32, 40]⟩ : ByteArray) = str [32, 40] from rfl, show (⟨#[59, 32, 40, 10, 32, 41]⟩ : ByteArray) = str [59, 32, 40, 10, 32, 41] from rfl, str_append, str_append]
  have hql : (str (quoteR bl)).size ≤ 1000 := by
    rw [str_size]
    have := quote_length bl
    simp only [quoteR, List.length_cons, List.length_append, List.length_nil]
    omega
  have hcv := hr.string
  obtain ⟨av, cv, rfl, hcc⟩ := hr.shape
  have hbl' : ¬ (150 : Int) < (bl.length : Int) := by omega
  go_enter Try.func5, Try.ntmps5
  go_wp2_with fail
  refine (quote (str bl) _ (by rw [str_size]; omega)).mono ?_
  rintro e w1 ⟨rfl, hb1⟩
  rw [str_data]
  have hr1 := hr.below hb1
  clear hcv
  go_wp2_with fail
  refine (h1 _).mono ?_
  rintro e w2 ⟨⟨v2, rfl, ho2⟩, hb2⟩
  have hr2 := hr1.below hb2
  have hB2 := hb1.trans (hb2.mono hb1.size)
  have ht2 := RdT.own ho2
  obtain ⟨a2, c2, rfl⟩ := ht2.shape
  clear ho2 hr1 hb2 hb1
  go_wp2_with fail
  refine (h2 _).mono ?_
  rintro e w3 ⟨⟨v3, rfl, ho3⟩, hb3⟩
  have hr3 := hr2.below hb3
  have hB3 := hB2.trans (hb3.mono hB2.size)
  have ht3 := ht2.below hb3
  have hm3 := RdT.own ho3
  rcases hm3 with ⟨_, h⟩ | ⟨gm, cm, h, hcm⟩
  · cases h
  have h' : v3 = .slice (some ⟨gm, 0, none⟩) 3 cm := h
  clear h
  subst h'
  have hm3 : RdT w3 (.slice (some ⟨gm, 0, none⟩) 3 cm) (aroundToks bl) := .inr ⟨gm, cm, rfl, hcm⟩
  have hcv3 := (show RdB w3.drew (.slice av bl.length cv) bl from hr3).string
  have hS0 : ∀ o, (fun u : World => u.cell? ⟨gm, 0, none⟩ = some (.int .i64 1) ∧ u.cell? ⟨gm, 3, none⟩ = some (.int .i64 4) ∧ u.cell? ⟨gm, 4, none⟩ = some (.int .i64 2) ∧ u.cell? ⟨gm, 5, none⟩ = some (.string (str bl)) ∧ u.cell? ⟨gm, 6, none⟩ = some (.int .i64 2) ∧ (convert 27 9 (.slice av bl.length cv)).run Try.prog u = .ok (.string (str bl)) u) (w3.alloc o).drew := fun o => by
    obtain ⟨x0, x1, x2, x3, x4⟩ := (hm3.allocD o).cells3
    exact ⟨x0, x1, x2, x3, x4, (hr3.allocD o).string⟩
  obtain ⟨n0, n3, n4, n5, n6⟩ := hm3.cells3
  clear ho3 hr2 hb3 hB2 ht2 hcm h1 h2
  go_wp2
  go_region_held3 (fun u => u.cell? ⟨gm, 0, none⟩ = some (.int .i64 1) ∧ u.cell? ⟨gm, 3, none⟩ = some (.int .i64 4) ∧ u.cell? ⟨gm, 4, none⟩ = some (.int .i64 2) ∧ u.cell? ⟨gm, 5, none⟩ = some (.string (str bl)) ∧ u.cell? ⟨gm, 6, none⟩ = some (.int .i64 2) ∧ (convert 27 9 (.slice av bl.length cv)).run Try.prog u = .ok (.string (str bl)) u) (first | go_keep | exact hS0 _ | exact ⟨by assumption, by assumption, by assumption, by assumption, by assumption, by assumption⟩) (first | (go_at_call 10; refine (sameB [⟨4, 0, bl⟩] _ _ _ (by simp) (ht3.allocD _) (RdT.newD _ _ [⟨4, 0, bl⟩])).mono ?_; rintro e w4 ⟨rfl, hb4⟩; have hB4 := (below_allocD hB3 hB3.size _).trans (hb4.mono (below_allocD hB3 hB3.size _).size); have hr4 := (hr3.allocD _).below hb4; have hm4 := (hm3.allocD _).below hb4; have hcv4 := hr4.string; obtain ⟨m0, m3, m4, m5, m6⟩ := hm4.cells3; clear hb4) | (go_at_call 15; refine (known _).mono ?_; rintro e w5 ⟨rfl, hb5⟩; have hB5 := hB4.trans (hb5.mono hB4.size); have hcv5 := (hr4.below hb5).string; obtain ⟨k0, k3, k4, k5, k6⟩ := (hm4.below hb5).cells3; clear hb5 hB4))
  all_goals (
    go_wp2
    go_ret
    exact ⟨rfl, hB5⟩)


set_option maxHeartbeats 4000000 in
set_option maxRecDepth 1000000 in
theorem lexBack_long (l : List UInt8) (v : Value) (w : World) (hr0 : RdB w v l) (hl : 150 < l.length) (_hmax : l.length ≤ maxLen) : Calls Try.prog 5 #[v] w fun e w' => e = .returned (.bool true) ∧ Below w.heap.size w w' := by
  generalize hbe : l.take 150 = bl
  have hbl : bl.length = 150 := by rw [← hbe]; simp; omega
  have h1 : ∀ w, Calls Try.prog 8 #[.string (str (quoteR bl))] w (SE (.ok [⟨4, 0, bl⟩]) w) := by
    intro w
    have := split (str (quoteR bl)) w
    rwa [str_data, split_quote bl (by omega)] at this
  have h2 : ∀ w, Calls Try.prog 8 #[.string (⟨#[32, 40]⟩ ++ str (quoteR bl) ++ ⟨#[59, 32, 40, 10, 32, 41]⟩)] w (SE (.ok (aroundToks bl)) w) := by
    intro w
    have := split (⟨#[32, 40]⟩ ++ str (quoteR bl) ++ ⟨#[59, 32, 40, 10, 32, 41]⟩) w
    rw [show (⟨#[32, 40]⟩ : ByteArray) = str [32, 40] from rfl, show (⟨#[59, 32, 40, 10, 32, 41]⟩ : ByteArray) = str [59, 32, 40, 10, 32, 41] from rfl, str_append, str_append, str_data, split_around bl (by omega)] at this
    rwa [show (⟨#[32, 40]⟩ : ByteArray) = str [32, 40] from rfl, show (⟨#[59, 32, 40, 10, 32, 41]⟩ : ByteArray) = str [59, 32, 40, 10, 32, 41] from rfl, str_append, str_append]
  have hql : (str (quoteR bl)).size ≤ 1000 := by
    rw [str_size]
    have := quote_length bl
    simp only [quoteR, List.length_cons, List.length_append, List.length_nil]
    omega
  obtain ⟨av, cv, rfl, hcc⟩ := hr0.shape
  have hr := hr0.take 150 (by omega) (by omega)
  rw [hbe] at hr
  have hcv := hr.string
  have hbl' : (150 : Int) < (l.length : Int) := by omega
  have hcc' : (150 : Int) ≤ (cv : Int) := by omega
  unfold maxLen at _hmax
  clear hbe hr0
  go_enter Try.func5, Try.ntmps5
  go_wp2_with fail
  refine (quote (str bl) _ (by rw [str_size]; omega)).mono ?_
  rintro e w1 ⟨rfl, hb1⟩
  rw [str_data]
  have hr1 := hr.below hb1
  clear hcv
  go_wp2_with fail
  refine (h1 _).mono ?_
  rintro e w2 ⟨⟨v2, rfl, ho2⟩, hb2⟩
  have hr2 := hr1.below hb2
  have hB2 := hb1.trans (hb2.mono hb1.size)
  have ht2 := RdT.own ho2
  obtain ⟨a2, c2, rfl⟩ := ht2.shape
  clear ho2 hr1 hb2 hb1
  go_wp2_with fail
  refine (h2 _).mono ?_
  rintro e w3 ⟨⟨v3, rfl, ho3⟩, hb3⟩
  have hr3 := hr2.below hb3
  have hB3 := hB2.trans (hb3.mono hB2.size)
  have ht3 := ht2.below hb3
  have hm3 := RdT.own ho3
  rcases hm3 with ⟨_, h⟩ | ⟨gm, cm, h, hcm⟩
  · cases h
  have h' : v3 = .slice (some ⟨gm, 0, none⟩) 3 cm := h
  clear h
  subst h'
  have hm3 : RdT w3 (.slice (some ⟨gm, 0, none⟩) 3 cm) (aroundToks bl) := .inr ⟨gm, cm, rfl, hcm⟩
  have hcv3 := (show RdB w3.drew (.slice av 150 cv) bl from hr3).string
  have hS0 : ∀ o, (fun u : World => u.cell? ⟨gm, 0, none⟩ = some (.int .i64 1) ∧ u.cell? ⟨gm, 3, none⟩ = some (.int .i64 4) ∧ u.cell? ⟨gm, 4, none⟩ = some (.int .i64 2) ∧ u.cell? ⟨gm, 5, none⟩ = some (.string (str bl)) ∧ u.cell? ⟨gm, 6, none⟩ = some (.int .i64 2) ∧ (convert 27 9 (.slice av 150 cv)).run Try.prog u = .ok (.string (str bl)) u) (w3.alloc o).drew := fun o => by
    obtain ⟨x0, x1, x2, x3, x4⟩ := (hm3.allocD o).cells3
    exact ⟨x0, x1, x2, x3, x4, (hr3.allocD o).string⟩
  obtain ⟨n0, n3, n4, n5, n6⟩ := hm3.cells3
  clear ho3 hr2 hb3 hB2 ht2 hcm h1 h2
  go_wp2
  go_region_held3 (fun u => u.cell? ⟨gm, 0, none⟩ = some (.int .i64 1) ∧ u.cell? ⟨gm, 3, none⟩ = some (.int .i64 4) ∧ u.cell? ⟨gm, 4, none⟩ = some (.int .i64 2) ∧ u.cell? ⟨gm, 5, none⟩ = some (.string (str bl)) ∧ u.cell? ⟨gm, 6, none⟩ = some (.int .i64 2) ∧ (convert 27 9 (.slice av 150 cv)).run Try.prog u = .ok (.string (str bl)) u) (first | go_keep | exact hS0 _ | exact ⟨by assumption, by assumption, by assumption, by assumption, by assumption, by assumption⟩) (first | (go_at_call 10; refine (sameB [⟨4, 0, bl⟩] _ _ _ (by simp) (ht3.allocD _) (RdT.newD _ _ [⟨4, 0, bl⟩])).mono ?_; rintro e w4 ⟨rfl, hb4⟩; have hB4 := (below_allocD hB3 hB3.size _).trans (hb4.mono (below_allocD hB3 hB3.size _).size); have hr4 := (hr3.allocD _).below hb4; have hm4 := (hm3.allocD _).below hb4; have hcv4 := hr4.string; obtain ⟨m0, m3, m4, m5, m6⟩ := hm4.cells3; clear hb4) | (go_at_call 15; refine (known _).mono ?_; rintro e w5 ⟨rfl, hb5⟩; have hB5 := hB4.trans (hb5.mono hB4.size); have hcv5 := (hr4.below hb5).string; obtain ⟨k0, k3, k4, k5, k6⟩ := (hm4.below hb5).cells3; clear hb5 hB4))
  all_goals (
    go_wp2
    go_ret
    exact ⟨rfl, hB5⟩)

theorem lexBack_walk (l : List UInt8) (v : Value) (w : World) (hr : RdB w v l) (hmax : l.length ≤ maxLen) : Calls Try.prog 5 #[v] w fun e w' => e = .returned (.bool true) ∧ Below w.heap.size w w' := by
  by_cases h : l.length ≤ 150
  · exact lexBack_short l v w hr h
  · exact lexBack_long l v w hr (by omega) hmax

theorem ownLexBack : ownKnob Try.prog.godebug = none := by kernel_rfl
theorem laidLexBack : laidOutB Try.prog = true := by kernel_rfl
set_option maxRecDepth 100000 in
theorem lexBack_lifted (os : Os) (started : os.Started) (H : Type) (enc : TypeId × Value → H) :
    ReturnsInHanded {} Try.checked os 5 .any (Rows.lexBackSpec.pre6 enc Try.prog Try.f5 Rows.lexBackRow.domain false) (Rows.lexBackSpec.post enc Try.prog Try.f5 false true false false) := by
  refine returnsInHanded_of_change (C := Try.checked) ownLexBack started (by kernel_rfl) Try.func5
    (ChangeSpec.witness6 (enc := enc) (C := Try.checked) false ⟨#[], #[.slice none 0 0], []⟩ 8 (by kernel_rfl) (by kernel_rfl) (by kernel_rfl) (by kernel_rfl)) ?_
  intro W base args ds gs before hval0 hW hcnd _
  have hval : ∀ (j : Nat) t v, Try.f5.params[j]? = some t → args[j]? = some v → Value.okWide Try.prog W .any base t v := hval0
  have hW' := hW
  obtain ⟨p, q, hA0, hV, rfl, hfz, hnd⟩ := hW
  have hA : DataW.TrodAll enc Try.prog W 0 (fun _ => true) true Try.f5.params.toList args.toList ds p := hA0
  rw [Try.params5] at hA hval
  obtain ⟨v0, vs0, d0, ds0, p0, q0, hargs, rfl, rfl, h0, r0⟩ := trodAll_cons hA
  obtain ⟨rfl, rfl, rfl⟩ := trodAll_nil r0
  obtain rfl : args = #[v0] := by cases args; simp_all
  obtain ⟨rfl, rfl⟩ := trodVars_none hV
  obtain ⟨a1, len1, cap1, rfl⟩ := okWide_slice Try.underlying27 (hval 0 27 v0 rfl rfl)
  have k0 := h0
  have lt0 : ∀ x ∈ p0, x.block < W.heap.size := by obtain ⟨m, hm⟩ := k0; exact DataW.trod_lt m _ _ _ hm
  obtain ⟨l, hl, hm⟩ : ∃ l, RdB W (.slice a1 len1 cap1) l ∧ l.length ≤ maxLen := by
    obtain ⟨fuel, hf⟩ := h0
    exact bytes_open (by simpa [Value.cells] using hf)
  clear hA0 hval0
  simp only [List.append_nil] at hW'
  refine (lexBack_walk l _ W hl hm).mono fun e W' ⟨he, bel⟩ => ?_
  subst he
  exact ⟨_, rfl, _, _, _, [], _, [], hW', trodAll_mk1 (shut_bool Try.underlying4 _), (trodAll_cons_mk (Below.trod laidLexBack (by kernel_rfl) (of_decide_eq_true (by kernel_rfl)) k0 bel lt0) trodAll_mk0), rfl, bel.frame _, fun h => by cases h⟩

theorem lexBack_holds : Rows.LexBackSaid :=
  OpenClaim.holds_of_wide 5 Try.f5 rfl rfl rfl rfl rfl rfl rfl ⟨rfl, rfl, rfl, rfl, rfl⟩ rfl rfl rfl rfl rfl (by kernel_rfl) Try.func5 (by kernel_rfl)
    (of_decide_eq_true (by kernel_rfl)) (by unfold Func.isWrapper; first | (rw [if_pos (by decide +kernel)]; kernel_rfl) | (rw [if_neg (by decide +kernel)]; exact ⟨rfl, rfl⟩))
    (fun os started H enc _ => lexBack_lifted os started H enc)
#print axioms lexBack_holds

end Go.Proofs.Ytkhbngadlaofcaa
