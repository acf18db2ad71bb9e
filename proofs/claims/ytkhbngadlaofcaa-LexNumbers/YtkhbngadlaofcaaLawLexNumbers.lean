/-
  The law LexNumbers, chapter 3's runs, answers true. It has no argument and no condition.
-/
import Derived.Test.YtkhbngadlaofcaaRows
import Derived.Test.YtkhbngadlaofcaaLexKnown
import Derived.Test.YtkhbngadlaofcaaLexMath2
import Derived.Test.YtkhbngadlaofcaaLexMany
import Derived.Test.YtkhbngadlaofcaaLexQuote
import Derived.Test.YtkhbngadlaofcaaLexNames
import Derived.ProofKit
import Derived.OpenShut
namespace Go.Proofs.Ytkhbngadlaofcaa
open Go.ChangeShapes Go.WideShapes Go.ChangeAt Go.RowKit

def xText (n : Nat) : ByteArray := str (List.replicate n 120)
def nText : ByteArray := str (List.replicate 8193 0)
theorem flat_x : ∀ n : Nat, (List.replicate n (120 : UInt8)).flatMap qByte = List.replicate n 120
  | 0 => rfl
  | n + 1 => by rw [List.replicate_succ, List.flatMap_cons, flat_x n]; rfl
theorem xText_quote (n : Nat) : (⟨#[34]⟩ : ByteArray) ++ xText n ++ ⟨#[34]⟩ = str (quoteR (List.replicate n 120)) := by
  rw [show (⟨#[34]⟩ : ByteArray) = str [34] from rfl, xText, str_append, str_append]
  unfold quoteR
  rw [flat_x n]
  simp
theorem split_x201 (w : World) : Calls Try.prog 8 #[.string (⟨#[34]⟩ ++ xText 201 ++ ⟨#[34]⟩)] w (SE (.error (3, 0)) w) := by
  have := split (str (quoteR (List.replicate 201 120))) w
  rw [str_data, split_long_quote _ (by rw [List.length_replicate]; decide) (by rw [List.length_replicate]; decide)] at this
  rw [xText_quote]
  exact this
theorem split_x200 (w : World) : Calls Try.prog 8 #[.string (⟨#[34]⟩ ++ xText 200 ++ ⟨#[34]⟩)] w (SE (.ok [⟨4, 0, List.replicate 200 120⟩]) w) := by
  have := split (str (quoteR (List.replicate 200 120))) w
  rw [str_data, split_quote _ (by rw [List.length_replicate]; decide)] at this
  rw [xText_quote]
  exact this
theorem split_n (w : World) : Calls Try.prog 8 #[.string nText] w (SE (.error (3, 0)) w) := by
  have := split nText w
  have e : splitR nText.data.toList = .error (3, 0) := by
    unfold nText splitR
    rw [str_data, List.length_replicate, if_pos (by decide)]
  rwa [e] at this
theorem xText_size (n : Nat) : (xText n).size = n := by rw [xText, str_size, List.length_replicate]
theorem nText_size : nText.size = 8193 := by rw [nText, str_size, List.length_replicate]
/-- What many answers, as a text. -/
def ManyT (n : Nat) (w : World) (e : Ending) (w' : World) : Prop := ∃ a cap, e = .returned (.slice a n cap) ∧ (convert 27 9 (.slice a n cap)).run Try.prog w' = .ok (.string (xText n)) w' ∧ Below w.heap.size w w'
theorem manyT (n : Nat) (w : World) (hn : n ≤ 8192) : Calls Try.prog 9 #[.int .i64 (n : Int)] w (ManyT n w) := by
  refine (many n w hn).mono ?_
  rintro e w' ⟨g, cap, rfl, ho, hb⟩
  refine ⟨_, _, rfl, ?_, hb⟩
  have h := owns_string (v := .slice (some ⟨g, 0, none⟩) n cap) (l := List.replicate n 120) (by rw [List.length_replicate]; exact ho)
  exact h
theorem many201 (w : World) : Calls Try.prog 9 #[.int .i64 201] w (ManyT 201 w) := manyT 201 w (by decide)
theorem many200 (w : World) : Calls Try.prog 9 #[.int .i64 200] w (ManyT 200 w) := manyT 200 w (by decide)
def fourC : List Value := [.string ⟨#[34, 92, 116, 34]⟩, .string ⟨#[34, 92, 120, 65, 66, 34]⟩, .string ⟨#[34, 92, 120, 97, 34]⟩, .string ⟨#[34, 92]⟩]
theorem made_string {w : World} {g B n : Nat} (h : w.ownsRow B 5 1 (.slice (some ⟨g, 0, none⟩) 8193 8193) 8193 (madeCells #[.int .u8 0] n).toList) (hn : n = 8193 := by rfl) : (convert 27 9 (.slice (some ⟨g, 0, none⟩) 8193 8193)).run Try.prog w = .ok (.string nText) w := by
  subst hn
  rw [toList_madeCells_one] at h
  have e : bc (List.replicate 8193 0) = List.replicate 8193 (Value.int .u8 0) := by rw [bc, List.map_replicate]; rfl
  exact owns_string (v := .slice (some ⟨g, 0, none⟩) 8193 8193) (l := List.replicate 8193 0) (by rw [List.length_replicate, e]; exact h)
def abToks : List Tok := [⟨3, 0, [97]⟩, ⟨4, 1, [98]⟩]

set_option maxHeartbeats 4000000 in
set_option maxRecDepth 1000000 in
theorem lexNumbers_walk (w : World) : Calls Try.prog 3 #[] w fun e w' => e = .returned (.bool true) ∧ Below w.heap.size w w' := by
  have hs0 : ∀ w, Calls Try.prog 8 #[.string ⟨#[34, 92, 116, 34]⟩] w (SE (.error (12, 1)) w) := fun w => by
    have := split ⟨#[34, 92, 116, 34]⟩ w
    rwa [show splitR [34, 92, 116, 34] = .error (12, 1) from rfl] at this
  have hs1 : ∀ w, Calls Try.prog 8 #[.string ⟨#[34, 92, 120, 65, 66, 34]⟩] w (SE (.error (12, 1)) w) := fun w => by
    have := split ⟨#[34, 92, 120, 65, 66, 34]⟩ w
    rwa [show splitR [34, 92, 120, 65, 66, 34] = .error (12, 1) from rfl] at this
  have hs2 : ∀ w, Calls Try.prog 8 #[.string ⟨#[34, 92, 120, 97, 34]⟩] w (SE (.error (12, 1)) w) := fun w => by
    have := split ⟨#[34, 92, 120, 97, 34]⟩ w
    rwa [show splitR [34, 92, 120, 97, 34] = .error (12, 1) from rfl] at this
  have hs3 : ∀ w, Calls Try.prog 8 #[.string ⟨#[34, 92]⟩] w (SE (.error (12, 1)) w) := fun w => by
    have := split ⟨#[34, 92]⟩ w
    rwa [show splitR [34, 92] = .error (12, 1) from rfl] at this
  have hs4 : ∀ w, Calls Try.prog 8 #[.string ⟨#[34, 97, 10, 98, 34]⟩] w (SE (.error (12, 2)) w) := fun w => by
    have := split ⟨#[34, 97, 10, 98, 34]⟩ w
    rwa [show splitR [34, 97, 10, 98, 34] = .error (12, 2) from rfl] at this
  have hs5 : ∀ w, Calls Try.prog 8 #[.string ⟨#[34, 92, 113, 34]⟩] w (SE (.error (12, 1)) w) := fun w => by
    have := split ⟨#[34, 92, 113, 34]⟩ w
    rwa [show splitR [34, 92, 113, 34] = .error (12, 1) from rfl] at this
  have hs6 : ∀ w, Calls Try.prog 8 #[.string ⟨#[59, 32, 120, 32, 40]⟩] w (SE (.ok []) w) := fun w => by
    have := split ⟨#[59, 32, 120, 32, 40]⟩ w
    rwa [show splitR [59, 32, 120, 32, 40] = .ok [] from rfl] at this
  have hs7 : ∀ w, Calls Try.prog 8 #[.string ⟨#[97, 34, 98, 34]⟩] w (SE (.ok abToks) w) := fun w => by
    have := split ⟨#[97, 34, 98, 34]⟩ w
    rwa [show splitR [97, 34, 98, 34] = .ok abToks from rfl] at this
  have hs8 : ∀ w, Calls Try.prog 8 #[.string ⟨#[97, 0]⟩] w (SE (.error (12, 1)) w) := fun w => by
    have := split ⟨#[97, 0]⟩ w
    rwa [show splitR [97, 0] = .error (12, 1) from rfl] at this
  have hn1 : ∀ w, Calls Try.prog 12 #[.string ⟨#[95, 57]⟩] w (Pu (.bool true) w) := fun w => by
    have := name ⟨#[95, 57]⟩ w (by decide)
    exact this
  have hn2 : ∀ w, Calls Try.prog 12 #[.string ⟨#[57]⟩] w (Pu (.bool false) w) := fun w => by
    have := name ⟨#[57]⟩ w (by decide)
    exact this
  have hn3 : ∀ w, Calls Try.prog 12 #[.string ⟨#[]⟩] w (Pu (.bool false) w) := fun w => by
    have := name ⟨#[]⟩ w (by decide)
    exact this
  have hn4 : ∀ w, Calls Try.prog 13 #[.string ⟨#[95]⟩] w (Pu (.bool true) w) := fun w => by
    have := value ⟨#[95]⟩ w (by decide)
    exact this
  have hn5 : ∀ w, Calls Try.prog 13 #[.string ⟨#[65]⟩] w (Pu (.bool false) w) := fun w => by
    have := value ⟨#[65]⟩ w (by decide)
    exact this
  have hn6 : ∀ w, Calls Try.prog 14 #[.string ⟨#[65]⟩] w (Pu (.bool true) w) := fun w => by
    have := big ⟨#[65]⟩ w (by decide)
    exact this
  have hn7 : ∀ w, Calls Try.prog 14 #[.string ⟨#[95]⟩] w (Pu (.bool false) w) := fun w => by
    have := big ⟨#[95]⟩ w (by decide)
    exact this
  have hn8 : ∀ w, Calls Try.prog 12 #[.string ⟨#[97, 98, 99, 100, 101, 102, 103, 104, 105, 106, 107, 108, 109, 110, 111, 112, 113, 114, 115, 116, 117, 118, 119, 120, 121]⟩] w (Pu (.bool false) w) := fun w => by
    have := name ⟨#[97, 98, 99, 100, 101, 102, 103, 104, 105, 106, 107, 108, 109, 110, 111, 112, 113, 114, 115, 116, 117, 118, 119, 120, 121]⟩ w (by decide)
    exact this
  have hq : ∀ w, Calls Try.prog 11 #[.string ⟨#[97, 10, 34, 1]⟩] w (TextE [34, 97, 92, 110, 92, 34, 92, 120, 48, 49, 34] w) := fun w => by
    have := quote ⟨#[97, 10, 34, 1]⟩ w (by decide)
    exact this
  have hx1 := xText_size 201
  have hx0 := xText_size 200
  have hm1 := many201
  have hm0 := many200
  have hsx1 := split_x201
  have hsx0 := split_x200
  have hxn := nText_size
  have hsn := split_n
  obtain ⟨ib, hib, hbz, hb1, hb2⟩ := info_parts infoByte
  go_enter Try.func3, Try.ntmps3
  go_wp2
  go_loopg [32] 4 (fun g i wr => ∃ k : Nat, g + k = 4 ∧ i = .int .i64 k ∧ Below (w.heap.size + 1) (w.alloc (.cells (fourC.toArray) 9)) wr)
  case atStart => exact ⟨0, rfl, rfl, Below.refl _ _⟩
  case round =>
    obtain ⟨k, hg, rfl, hwr⟩ := hrel
    by_cases hk : k < 4
    · have hcell : ∀ j u, fourC[j]? = some u → wr.cell? ⟨w.heap.size, j, none⟩ = some u := fun j u hj => by
        rw [hwr.cell (by simp)]
        have := cells_new w fourC 9 j u hj
        rwa [add_at] at this
      have hsz : w.heap.size + 1 ≤ wr.heap.size := by simpa using hwr.size
      rcases (by omega : k = 0 ∨ k = 1 ∨ k = 2 ∨ k = 3) with rfl | rfl | rfl | rfl
      · have hc := hcell 0 _ rfl
        clear hcell
        go_wp2_with fail
        refine (hs0 _).mono ?_
        rintro e w2 ⟨he, hb2⟩
        simp only at he
        subst he
        have hwr2 := hwr.trans (hb2.mono hsz)
        clear hb2
        go_wp2
        go_roundg (3)
        case measure => omega
        case rel => exact ⟨1, by omega, by go_num, hwr2⟩
      · have hc := hcell 1 _ rfl
        clear hcell
        go_wp2_with fail
        refine (hs1 _).mono ?_
        rintro e w2 ⟨he, hb2⟩
        simp only at he
        subst he
        have hwr2 := hwr.trans (hb2.mono hsz)
        clear hb2
        go_wp2
        go_roundg (2)
        case measure => omega
        case rel => exact ⟨2, by omega, by go_num, hwr2⟩
      · have hc := hcell 2 _ rfl
        clear hcell
        go_wp2_with fail
        refine (hs2 _).mono ?_
        rintro e w2 ⟨he, hb2⟩
        simp only at he
        subst he
        have hwr2 := hwr.trans (hb2.mono hsz)
        clear hb2
        go_wp2
        go_roundg (1)
        case measure => omega
        case rel => exact ⟨3, by omega, by go_num, hwr2⟩
      · have hc := hcell 3 _ rfl
        clear hcell
        go_wp2_with fail
        refine (hs3 _).mono ?_
        rintro e w2 ⟨he, hb2⟩
        simp only at he
        subst he
        have hwr2 := hwr.trans (hb2.mono hsz)
        clear hb2
        go_wp2
        go_roundg (0)
        case measure => omega
        case rel => exact ⟨4, by omega, by go_num, hwr2⟩
    · have hk' : k = 4 := by omega
      subst hk'
      have B0 : Below w.heap.size w wr := (((Below.refl _ w).alloc (Nat.le_refl _) (.cells fourC.toArray 9)).trans (hwr.mono (by omega)))
      clear hwr hg hk hs0 hs1 hs2 hs3
      go_wp2_with fail
      refine (hs4 _).mono ?_
      rintro e w1 ⟨he, hb⟩
      simp only at he
      subst he
      have Bw1 := B0.trans (hb.mono B0.size)
      clear hb B0
      go_wp2_with fail
      refine (hm1 _).mono ?_
      rintro e w2 ⟨a2, c2, rfl, hcv, hb⟩
      have B2 := Bw1.trans (hb.mono Bw1.size)
      clear hb Bw1
      go_wp2_with fail
      refine (hsx1 _).mono ?_
      rintro e w3 ⟨he, hb⟩
      simp only at he
      subst he
      have Bw3 := B2.trans (hb.mono B2.size)
      clear hb B2
      clear hcv
      go_wp2_with fail
      refine (hm0 _).mono ?_
      rintro e w4 ⟨a4, c4, rfl, hcv, hb⟩
      have B4 := Bw3.trans (hb.mono Bw3.size)
      clear hb Bw3
      go_wp2_with fail
      refine (hsx0 _).mono ?_
      rintro e w5 ⟨⟨v5, rfl, ho⟩, hb⟩
      obtain ⟨a5, c5, rfl⟩ := (RdT.own ho).shape
      have B5 := B4.trans (hb.mono B4.size)
      clear hb B4 ho hcv hm0 hm1 hsx0 hsx1 hx0 hx1
      go_wp2_with fail
      refine (hs5 _).mono ?_
      rintro e w6 ⟨he, hb⟩
      simp only at he
      subst he
      have Bw6 := B5.trans (hb.mono B5.size)
      clear hb B5
      go_wp2_with fail
      refine (hs6 _).mono ?_
      rintro e w7 ⟨⟨v7, rfl, ho⟩, hb⟩
      obtain ⟨a7, c7, rfl⟩ := (RdT.own ho).shape
      have B7 := Bw6.trans (hb.mono Bw6.size)
      clear hb Bw6 ho
      go_wp2_with fail
      refine (hs7 _).mono ?_
      rintro e w8 ⟨⟨v8, rfl, ho⟩, hb⟩
      have hr8 := RdT.own ho
      obtain ⟨a8, c8, rfl⟩ := hr8.shape
      have B8 := B7.trans (hb.mono B7.size)
      clear hb B7 ho
      go_wp2_with fail
      refine (hs8 _).mono ?_
      rintro e w9 ⟨he, hb⟩
      simp only at he
      subst he
      have hr9 := hr8.below hb
      have B9 := B8.trans (hb.mono B8.size)
      clear hb B8 hr8
      go_wp2_with (at_make; refine wpList_make_full _ rfl _ _ 27 rfl w9.heap.size 5 ib (.int .u8 0) 1 Try.underlying27 hib hbz hb1 .i64 .i64 _ _ 8193 rfl rfl rfl rfl (by rw [hb2]; decide) (by decide) (Nat.le_refl _) ?_)
      intro w10 ho hg
      have hcv : (convert 27 9 (.slice (some ⟨w9.heap.size, 0, none⟩) 8193 8193)).run Try.prog w10 = .ok (.string nText) w10 := made_string ho
      have hb10 := (Below.refl w9.heap.size w9).grown hg (Nat.le_refl _) (fun k hk => by cases hk)
      have hr10 := hr9.below hb10
      have B10 := B9.trans (hb10.mono B9.size)
      clear ho hg hb10 hr9 B9
      go_wp2_with fail
      refine (hsn _).mono ?_
      rintro e w11 ⟨he, hb⟩
      simp only at he
      subst he
      have hr11 := hr10.below hb
      have B11 := B10.trans (hb.mono B10.size)
      clear hb hr10 B10 hcv hsn
      go_wp2_with fail
      refine (same abToks _ _ _ (by decide) (hr11.alloc _) (RdT.new _ _ abToks)).mono ?_
      rintro e w12 ⟨rfl, n12, rfl⟩
      have B12 := drewN_below (B11.alloc B11.size (.cells (tcs abToks).toArray 31)) n12
      clear hr11 B11
      go_wp2_with fail
      refine (hq _).mono ?_
      rintro e w13 ⟨rfl, hb⟩
      rw [show str [34, 97, 92, 110, 92, 34, 92, 120, 48, 49, 34] = ⟨#[34, 97, 92, 110, 92, 34, 92, 120, 48, 49, 34]⟩ from rfl]
      have B13 := B12.trans (hb.mono B12.size)
      clear hb B12
      go_wp2_with fail
      refine (hn1 _).mono ?_
      rintro e wn1 ⟨rfl, rfl⟩
      go_wp2_with fail
      refine (hn2 _).mono ?_
      rintro e wn2 ⟨rfl, rfl⟩
      go_wp2_with fail
      refine (hn3 _).mono ?_
      rintro e wn3 ⟨rfl, rfl⟩
      go_wp2_with fail
      refine (hn4 _).mono ?_
      rintro e wn4 ⟨rfl, rfl⟩
      go_wp2_with fail
      refine (hn5 _).mono ?_
      rintro e wn5 ⟨rfl, rfl⟩
      go_wp2_with fail
      refine (hn6 _).mono ?_
      rintro e wn6 ⟨rfl, rfl⟩
      go_wp2_with fail
      refine (hn7 _).mono ?_
      rintro e wn7 ⟨rfl, rfl⟩
      go_wp2_with fail
      refine (hn8 _).mono ?_
      rintro e wn8 ⟨rfl, rfl⟩
      go_wp2_with fail
      refine (known _).mono ?_
      rintro e w14 ⟨rfl, hb⟩
      go_wp2
      go_ret
      exact ⟨rfl, B13.trans (hb.mono B13.size)⟩


theorem ownLexNumbers : ownKnob Try.prog.godebug = none := by kernel_rfl
set_option maxRecDepth 100000 in
theorem lexNumbers_lifted (os : Os) (started : os.Started) (H : Type) (enc : TypeId × Value → H) :
    ReturnsInHanded {} Try.checked os 3 .any (Rows.lexNumbersSpec.pre6 enc Try.prog Try.f3 Rows.lexNumbersRow.domain false) (Rows.lexNumbersSpec.post enc Try.prog Try.f3 false true false false) := by
  refine returnsInHanded_of_change (C := Try.checked) ownLexNumbers started (by kernel_rfl) Try.func3
    (ChangeSpec.witness6 (enc := enc) (C := Try.checked) false ⟨#[], #[], []⟩ 8 (by kernel_rfl) (by kernel_rfl) (by kernel_rfl) (by kernel_rfl)) ?_
  intro W base args ds gs before hval0 hW hcnd _
  have hval : ∀ (j : Nat) t v, Try.f3.params[j]? = some t → args[j]? = some v → Value.okWide Try.prog W .any base t v := hval0
  have hW' := hW
  obtain ⟨p, q, hA0, hV, rfl, hfz, hnd⟩ := hW
  have hA : DataW.TrodAll enc Try.prog W 0 (fun _ => true) true Try.f3.params.toList args.toList ds p := hA0
  rw [Try.params3] at hA
  obtain ⟨hargs, rfl, rfl⟩ := trodAll_nil hA
  obtain rfl : args = #[] := by cases args; simp_all
  obtain ⟨rfl, rfl⟩ := trodVars_none hV
  clear hA0 hval0
  refine (lexNumbers_walk W).mono fun e W' ⟨he, bel⟩ => ?_
  subst he
  exact ⟨_, rfl, _, _, _, [], _, [], hW', trodAll_mk1 (shut_bool Try.underlying4 _), trodAll_mk0, rfl, bel.frame _, fun h => by cases h⟩

theorem lexNumbers_holds : Rows.LexNumbersSaid :=
  OpenClaim.holds_of_wide 3 Try.f3 rfl rfl rfl rfl rfl rfl rfl ⟨rfl, rfl, rfl, rfl, rfl⟩ rfl rfl rfl rfl rfl (by kernel_rfl) Try.func3 (by kernel_rfl)
    (of_decide_eq_true (by kernel_rfl)) (by unfold Func.isWrapper; first | (rw [if_pos (by decide +kernel)]; kernel_rfl) | (rw [if_neg (by decide +kernel)]; exact ⟨rfl, rfl⟩))
    (fun os started H enc _ => lexNumbers_lifted os started H enc)
#print axioms lexNumbers_holds

end Go.Proofs.Ytkhbngadlaofcaa
