/-
  The document's own Read: words, and what is no type.
  And: The document's own Read: arrays, functions; any tree. The document's own Read: functions; any tree. The document's own reader of modules: names, types, trees that are all words. The document's own reader of modules: types; trees that are all words; parts of a row of trees. Rows of structs that a call makes, whatever they hold: one put behind the others. No function in it. The document's own reader of modules: parameters.
-/
import Derived.Deep.LoopGhost
import Derived.Test.YtcokihblicgbpaaTypAZ
import Derived.Test.YtcokihblicgbpaaRefAZ
import Derived.BigQuiet
import Derived.Deep.AppendLies
import Derived.Test.YtcokihblicgbpaaTreAZ
namespace Go.Proofs.Ytcokihblicgbpaa
open Go.RowKit

theorem readE_ok' {r : RR} {x : List UInt8} {s : ByteArray} {w w' : World} (h : r = .ok x) (hs : s = str x) (hb : Below w.heap.size w w') : ReadE r w (.returned (.tuple #[.string s, .int .i64 0, .int .i64 0])) w' := by
  subst hs
  exact readE_ok h hb
def hasDot (l : List UInt8) : Bool := !(l.all notDot)
theorem ahead_all {l : List UInt8} (h : hasDot l = false) : aheadR l = l := by
  rw [hasDot, Bool.not_eq_false'] at h
  have := List.takeWhile_append_of_pos (p := notDot) (l₁ := l) (l₂ := []) (List.all_eq_true.1 h)
  rw [List.append_nil] at this
  rw [aheadR, this]
  simp
theorem nodot_named {l : List UInt8} (h : hasDot l = false) : namedR l = false := by
  rw [namedR, behindR, ahead_all h, List.drop_eq_nil_of_le (by omega), bigR_nil, Bool.and_false]
theorem dot_big {l : List UInt8} (h : hasDot l = true) : bigR l = false := by
  rw [Bool.eq_false_iff]
  intro hb
  rw [hasDot, Bool.not_eq_true', Bool.eq_false_iff] at h
  exact h (List.all_eq_true.2 (fun c hc => letter_dot (big_all hb c hc)))
theorem dot_num {l : List UInt8} (h : hasDot l = true) : l ≠ numL ∧ l ≠ bytesL := by
  refine ⟨fun e => ?_, fun e => ?_⟩ <;> subst e <;> revert h <;> decide
theorem form_atom {t : Tr} (h : t.kind = 3) : formR t = 1 := by rw [formR, if_pos h]
theorem read_atom_eq (m : List UInt8) {t : Tr} (h : t.kind = 3) : readR m t = match lim (atomR t.text m) with | .error y => .error (y, t.place) | .ok x => .ok x := by
  have hf := form_atom h
  rw [readR_eq, partsT_no (by omega) (by omega)]
  simp only [List.map_nil, seqE, fin, madeR, if_pos hf]
  cases lim (atomR t.text m) <;> rfl
theorem atom_word (m : List UInt8) {t : Tr} (h : t.kind = 3) (hw : wordOk t.text = true) : readR m t = .ok t.text := by
  have hp := wordOk_pos hw
  have hl : t.text.length ≤ 200 := by
    simp only [wordOk, Bool.or_eq_true, decide_eq_true_eq] at hw
    rcases hw with (hn | hn) | hn
    · obtain ⟨a, b, e, ha, hb, _, _⟩ := named_split hn
      have := value_len ha
      have := big_len hb
      rw [e]; simp; omega
    · rw [hn]; decide
    · rw [hn]; decide
  rw [read_atom_eq m h, atomR, if_pos hw, lim, if_neg (by intro e; rw [e] at hp; simp at hp), if_neg (by omega)]
theorem atom_big (m : List UInt8) {t : Tr} (h : t.kind = 3) (hw : wordOk t.text = false) (hb : bigR t.text = true) : readR m t = if (m ++ 46 :: t.text).length ≤ 200 then .ok (m ++ 46 :: t.text) else .error (3, t.place) := by
  rw [read_atom_eq m h, atomR, if_neg (by rw [hw]; decide), if_pos hb, lim, if_neg (by simp)]
  by_cases h2 : (m ++ 46 :: t.text).length ≤ 200
  · rw [if_neg (by omega), if_pos h2]
  · rw [if_pos (by omega), if_neg h2]
theorem atom_no (m : List UInt8) {t : Tr} (h : t.kind = 3) (hw : wordOk t.text = false) (hb : bigR t.text = false) : readR m t = .error (12, t.place) := by
  rw [read_atom_eq m h, atomR, if_neg (by rw [hw]; decide), if_neg (by rw [hb]; decide), lim, if_pos rfl]
theorem read_none_eq (m : List UInt8) {t : Tr} (h : formR t = 0) : readR m t = .error (12, t.place) := by
  rw [readR_eq, partsT_no (by omega) (by omega)]
  simp only [List.map_nil, seqE, fin, madeR, h]
  rfl
theorem nodot_word {l : List UInt8} (h : hasDot l = false) (h1 : l ≠ numL) (h2 : l ≠ bytesL) : wordOk l = false := by
  simp [wordOk, nodot_named h, h1, h2]
theorem dot_word {l : List UInt8} (h : hasDot l = true) : wordOk l = (valueR (aheadR l) && bigR (behindR l)) := by
  obtain ⟨h1, h2⟩ := dot_num h
  simp [wordOk, h1, h2, namedR]

/-- Ahead of the first point, and behind it. -/
def DotE (l : List UInt8) (w : World) (e : Ending) (w' : World) : Prop :=
  e = .returned (if hasDot l = true then .tuple #[.string (str (aheadR l)), .string (str (behindR l)), .bool true] else .tuple #[.string (str l), .string (str []), .bool false]) ∧ ∃ n, w' = w.drewN n
set_option maxHeartbeats 1000000 in
set_option maxRecDepth 1000000 in
theorem refDotted (s : ByteArray) (w : World) (hs : s.size ≤ 8192) : Calls Try.prog 66 #[.string s] w (DotE s.data.toList w) := by
  go_enter Try.func66, Try.ntmps66
  go_wp2
  go_loopg [5] s.size (fun g i wr => ∃ (k : Nat), g + k = s.size ∧ i = .int .i64 (k : Int) ∧ Hid ((s.data.toList.take k).all notDot = true) ∧ wr = w)
  case atStart => exact ⟨0, by omega, rfl, rfl, rfl⟩
  case round =>
    obtain ⟨k, hg, rfl, hall, rfl⟩ := hrel
    by_cases hks : k < s.size
    · have hki : (k : Int) < (s.size : Int) := by omega
      have hdk := drop_at s k hks
      by_cases c46 : s[k].toNat = 46
      · have c46' : ((s[k].toNat : Int) == 46) = true := by rw [beq_iff_eq]; omega
        have hah := ahead_at hall.out (r := s.data.toList.drop (k + 1)) (by rw [hdk, show s[k] = 46 from UInt8.toNat_inj.1 c46])
        have hlt : (s.data.toList.take k).length = k := by rw [List.length_take, size_len]; omega
        have HD : Hid (hasDot s.data.toList = true) := by
          rw [hid_iff, hasDot, Bool.not_eq_true', Bool.eq_false_iff]
          intro h
          have := List.all_eq_true.1 h s[k] (by
            have h2 : s[k] ∈ s.data.toList.drop k := by rw [hdk]; simp
            exact List.mem_of_mem_drop h2)
          simp [notDot, c46] at this
        have HX : Hid (s.extract 0 k = str (aheadR s.data.toList)) := by rw [hid_iff, hah, str_take]
        have HY : Hid (s.extract (k + 1) s.size = str (behindR s.data.toList)) := by rw [hid_iff, behindR, hah, hlt, str_drop]
        have q1 : (k : Int) + 1 ≤ (s.size : Int) := by omega
        have q2 : (k : Int) ≤ (s.size : Int) := by omega
        have q3 : IntKind.i64.wrap ((k : Int) + 1) = (k : Int) + 1 := by rw [IntKind.wrap_i64]; omega
        clear hall hdk hah hlt c46
        go_wp2
        go_region
        go_wp2
        go_ret3
        exact ⟨by rw [if_pos HD.out, ← HX.out, ← HY.out]; rfl, _, rfl⟩
      · have c46' : ((s[k].toNat : Int) == 46) = false := by rw [beq_eq_false_iff_ne]; omega
        have HA' : Hid ((s.data.toList.take (k + 1)).all notDot = true) := dots_next hall.out hdk c46
        clear hall hdk c46
        go_wp2
        go_roundg (s.size - (k + 1))
        case measure => omega
        case rel => exact ⟨k + 1, by omega, by go_num, HA', rfl⟩
    · have hki : ¬ (k : Int) < (s.size : Int) := by omega
      have HD : Hid (hasDot s.data.toList = false) := by
        have := hall.out
        rw [List.take_of_length_le (by rw [size_len]; omega)] at this
        rw [hid_iff, hasDot, this]; rfl
      have HS : Hid (str s.data.toList = s) := str_toList s
      clear hall
      go_wp2
      go_ret3
      exact ⟨by rw [if_neg (by rw [HD.out]; decide), HS.out]; rfl, 0, rfl⟩

set_option maxHeartbeats 2000000 in
set_option maxRecDepth 1000000 in
theorem refRead_atom (m : List UInt8) (hm : m.length ≤ 140737488351232) (t : Tr) (kv : Value) (w : World) (h3 : t.kind = 3) (hx : t.text.length ≤ 8192) : Calls Try.prog 87 #[trv t kv, .string (str m)] w (ReadE (readR m t) w) := by
  have hdt := fun u => refDotted (str t.text) u (by rw [str_size]; exact hx)
  unfold DotE at hdt
  rw [str_data] at hdt
  unfold trv
  have k3 : ((t.kind : Int) == 3) = true := by rw [beq_iff_eq]; omega
  have hms : (str m).size = m.length := rfl
  have hxs : (str t.text).size = t.text.length := rfl
  have hbg := fun u => refBig (str t.text) u (by rw [str_size]; omega)
  rw [str_data] at hbg
  cases hD : hasDot t.text with
  | false =>
    simp only [hD, Bool.false_eq_true, if_false] at hdt
    by_cases h1 : t.text = numL
    · have HR : Hid (readR m t = .ok t.text) := atom_word m h3 (by rw [h1]; decide)
      have e1 : ((str t.text).toList == [110, 117, 109]) = true := by rw [beq_iff_eq, Lib.toList_data, str_data, h1]; rfl
      clear h1 hD hbg h3
      generalize t.text = x at *
      go_enter Try.func87, Try.ntmps87
      go_wp2_with fail
      refine (hdt _).mono ?_
      rintro e w1 ⟨rfl, n, rfl⟩
      go_wp2
      go_ret3
      exact readE_ok HR.out (below_drewN ((Below.refl _ w).alloc (Nat.le_refl _) _) n)
    · have e1 : ((str t.text).toList == [110, 117, 109]) = false := by rw [beq_eq_false_iff_ne, Lib.toList_data, str_data]; exact h1
      by_cases h2 : t.text = bytesL
      · have HR : Hid (readR m t = .ok t.text) := atom_word m h3 (by rw [h2]; decide)
        have e2 : ((str t.text).toList == [98, 121, 116, 101, 115]) = true := by rw [beq_iff_eq, Lib.toList_data, str_data, h2]; rfl
        clear h1 h2 hD hbg h3
        generalize t.text = x at *
        go_enter Try.func87, Try.ntmps87
        go_wp2_with fail
        refine (hdt _).mono ?_
        rintro e w1 ⟨rfl, n, rfl⟩
        go_wp2
        go_ret3
        exact readE_ok HR.out (below_drewN ((Below.refl _ w).alloc (Nat.le_refl _) _) n)
      · have e2 : ((str t.text).toList == [98, 121, 116, 101, 115]) = false := by rw [beq_eq_false_iff_ne, Lib.toList_data, str_data]; exact h2
        have hw := nodot_word hD h1 h2
        cases hb : bigR t.text with
        | true =>
          have hsh := fun u => refShort (m ++ 46 :: t.text) (t.place : Int) u
          have HR := hidden (atom_big m h3 hw hb)
          have HE : Hid (str m ++ ⟨#[46]⟩ ++ str t.text = str (m ++ 46 :: t.text)) := by
            rw [hid_iff, show (⟨#[46]⟩ : ByteArray) = str [46] from rfl, str_append, str_append]; simp
          have hs2 : (str m ++ ⟨#[46]⟩).size = m.length + 1 := by rw [show (⟨#[46]⟩ : ByteArray) = str [46] from rfl, str_append, str_size]; simp
          unfold ShortE at hsh
          rw [hb] at hbg
          clear h1 h2 hD h3 hw hb
          generalize t.text = x at *
          go_enter Try.func87, Try.ntmps87
          go_wp2_with fail
          refine (hdt _).mono ?_
          rintro e w1 ⟨rfl, n, rfl⟩
          go_wp2_with fail
          refine (hbg _).mono ?_
          rintro e w2 ⟨rfl, rfl⟩
          rw [← HE.out] at hsh
          go_wp2_with fail
          refine (hsh _).mono ?_
          rintro e w2 ⟨he, rfl⟩
          by_cases hl : (m ++ 46 :: x).length ≤ 200
          · rw [if_pos hl] at he
            have HR' : Hid (readR m t = .ok (m ++ 46 :: x)) := by rw [hid_iff, HR.out, if_pos hl]
            subst he
            clear HR hl
            go_wp2
            go_ret3
            exact readE_ok' HR'.out HE.out (below_drewN ((Below.refl _ w).alloc (Nat.le_refl _) _) n)
          · rw [if_neg hl] at he
            have HR' : Hid (readR m t = .error (3, t.place)) := by rw [hid_iff, HR.out, if_neg hl]
            subst he
            clear HR hl HE
            go_wp2
            go_ret3
            exact readE_no HR'.out rfl rfl rfl (below_drewN ((Below.refl _ w).alloc (Nat.le_refl _) _) n)
        | false =>
          have HR := hidden (atom_no m h3 hw hb)
          rw [hb] at hbg
          clear h1 h2 hD h3 hw hb
          generalize t.text = x at *
          go_enter Try.func87, Try.ntmps87
          go_wp2_with fail
          refine (hdt _).mono ?_
          rintro e w1 ⟨rfl, n, rfl⟩
          go_wp2_with fail
          refine (hbg _).mono ?_
          rintro e w2 ⟨rfl, rfl⟩
          go_wp2
          go_region
          go_wp2
          go_ret3
          exact readE_no HR.out rfl rfl rfl (below_drewN ((Below.refl _ w).alloc (Nat.le_refl _) _) n).drew
  | true =>
    simp only [hD, if_true] at hdt
    obtain ⟨h1, h2⟩ := dot_num hD
    have e1 : ((str t.text).toList == [110, 117, 109]) = false := by rw [beq_eq_false_iff_ne, Lib.toList_data, str_data]; exact h1
    have e2 : ((str t.text).toList == [98, 121, 116, 101, 115]) = false := by rw [beq_eq_false_iff_ne, Lib.toList_data, str_data]; exact h2
    have hw := dot_word hD
    have hb := dot_big hD
    have hla : (aheadR t.text).length ≤ t.text.length := (List.takeWhile_prefix _).length_le
    have hlb : (behindR t.text).length ≤ t.text.length := by rw [behindR, List.length_drop]; omega
    have hva := fun u => refValue (str (aheadR t.text)) u (by rw [str_size]; omega)
    have hbb := fun u => refBig (str (behindR t.text)) u (by rw [str_size]; omega)
    rw [str_data] at hva hbb
    clear hbg
    cases hv : valueR (aheadR t.text) with
    | false =>
      rw [hv, Bool.false_and] at hw
      have HR := hidden (atom_no m h3 hw hb)
      rw [hv] at hva
      clear h1 h2 hD h3 hw hb hv hbb
      generalize aheadR t.text = xa at *
      generalize behindR t.text = xb at *
      generalize t.text = x at *
      go_enter Try.func87, Try.ntmps87
      go_wp2_with fail
      refine (hdt _).mono ?_
      rintro e w1 ⟨rfl, n, rfl⟩
      go_wp2_with fail
      refine (hva _).mono ?_
      rintro e w2 ⟨rfl, rfl⟩
      go_wp2
      go_region
      go_wp2
      go_ret3
      exact readE_no HR.out rfl rfl rfl (below_drewN ((Below.refl _ w).alloc (Nat.le_refl _) _) n).drew
    | true =>
      cases hv2 : bigR (behindR t.text) with
      | false =>
        rw [hv, hv2] at hw
        have HR := hidden (atom_no m h3 hw hb)
        rw [hv] at hva
        rw [hv2] at hbb
        clear h1 h2 hD h3 hw hb hv hv2
        generalize aheadR t.text = xa at *
        generalize behindR t.text = xb at *
        generalize t.text = x at *
        go_enter Try.func87, Try.ntmps87
        go_wp2_with fail
        refine (hdt _).mono ?_
        rintro e w1 ⟨rfl, n, rfl⟩
        go_wp2_with fail
        refine (hva _).mono ?_
        rintro e w2 ⟨rfl, rfl⟩
        go_wp2_with fail
        refine (hbb _).mono ?_
        rintro e w2 ⟨rfl, rfl⟩
        go_wp2
        go_region
        go_wp2
        go_ret3
        exact readE_no HR.out rfl rfl rfl (below_drewN ((Below.refl _ w).alloc (Nat.le_refl _) _) n).drew
      | true =>
        rw [hv, hv2] at hw
        have HR := hidden (atom_word m h3 hw)
        rw [hv] at hva
        rw [hv2] at hbb
        clear h1 h2 hD h3 hw hb hv hv2
        generalize aheadR t.text = xa at *
        generalize behindR t.text = xb at *
        generalize t.text = x at *
        go_enter Try.func87, Try.ntmps87
        go_wp2_with fail
        refine (hdt _).mono ?_
        rintro e w1 ⟨rfl, n, rfl⟩
        go_wp2_with fail
        refine (hva _).mono ?_
        rintro e w2 ⟨rfl, rfl⟩
        go_wp2_with fail
        refine (hbb _).mono ?_
        rintro e w2 ⟨rfl, rfl⟩
        go_wp2
        go_ret3
        exact readE_ok HR.out (below_drewN ((Below.refl _ w).alloc (Nat.le_refl _) _) n)

theorem form_kids {t : Tr} (h1 : t.kind = 1) : formR t = if t.kids.length = 2 ∧ isWordR (kid t 0) arrayL = true then 2 else if t.kids.length = 3 ∧ isWordR (kid t 0) fnL = true ∧ (kid t 1).kind = 1 then 3 else 0 := by
  rw [formR, if_neg (by omega), if_neg (by omega)]
set_option maxHeartbeats 2000000 in
set_option maxRecDepth 1000000 in
theorem refRead_none (m : List UInt8) (t : Tr) (kv : Value) (F : Nat → Prop) (w : World) (hT : TL F w kv t.kids) (hF : ∀ g, F g → g < w.heap.size) (h3 : t.kind ≠ 3) (hf : formR t = 0) : Calls Try.prog 87 #[trv t kv, .string (str m)] w (ReadE (readR m t) w) := by
  have HR := hidden (read_none_eq m hf)
  obtain ⟨ka, kc, rfl⟩ := hT.shape
  unfold trv
  have k3 : ((t.kind : Int) == 3) = false := by rw [beq_eq_false_iff_ne]; omega
  by_cases h1 : t.kind = 1
  · have k1 : ((t.kind : Int) != 1) = false := by rw [bne_eq_false_iff_eq]; omega
    rw [form_kids h1] at hf
    by_cases h0 : t.kids.length = 0
    · have k0 : ((t.kids.length : Int) == 0) = true := by rw [beq_iff_eq]; omega
      clear hT hF h0 hf h1 h3
      go_enter Try.func87, Try.ntmps87
      go_wp2
      go_region
      go_wp2
      go_ret3
      exact readE_no HR.out rfl rfl rfl ((Below.refl _ w).alloc (Nat.le_refl _) _).drew
    · have k0 : ((t.kids.length : Int) == 0) = false := by rw [beq_eq_false_iff_ne]; omega
      have hT2 := hT.below (w1 := (w.alloc (.cells #[.int .i64 (t.kind : Int), .int .i64 (t.place : Int), .string (str t.text), .slice ka t.kids.length kc] 43))) ((Below.refl _ w).alloc (Nat.le_refl _) _) hF
      obtain ⟨g, cap, kv0, e0, hg, hk0, a0, a1, a2, a3⟩ := hT2.at 0 (by omega)
      simp only [Value.slice.injEq, true_and] at e0
      obtain ⟨rfl, rfl⟩ := e0
      rw [kid_get (t := t) (by omega)] at a0 a1 a2
      simp only [Nat.zero_mul, Nat.zero_add] at a0 a1 a2 a3
      have hi0 : (0 : Int) < (t.kids.length : Int) := by omega
      have hgw := hF g hg
      have hne : g ≠ w.heap.size := by omega
      by_cases hk3 : (kid t 0).kind = 3
      · have q3 : (((kid t 0).kind : Int) != 3) = false := by rw [bne_eq_false_iff_eq]; omega
        by_cases hA : (kid t 0).text = arrayL
        · have e1 : ((str (kid t 0).text).toList == [97, 114, 114, 97, 121]) = true := by rw [beq_iff_eq, Lib.toList_data, str_data, hA]; rfl
          have e2 : ((str (kid t 0).text).toList != [102, 110]) = true := by rw [bne_iff_ne, Lib.toList_data, str_data, hA]; decide
          have e3 : ((str (kid t 0).text).toList == [102, 110]) = false := by rw [beq_eq_false_iff_ne, Lib.toList_data, str_data, hA]; decide
          have hl2 : ¬ t.kids.length = 2 := by
            intro h
            rw [if_pos ⟨h, by rw [isWordR, decide_eq_true hk3, decide_eq_true hA]; rfl⟩] at hf
            cases hf
          have l2 : ((t.kids.length : Int) == 2) = false := by rw [beq_eq_false_iff_ne]; omega
          clear hT hF hf h1 h3 hT2 hk0 hA hk3 hg
          generalize (kid t 0).text = x at *
          generalize (kid t 0).kind = kk at *
          go_enter Try.func87, Try.ntmps87
          go_wp2
          go_region
          go_wp2
          go_ret3
          exact readE_no HR.out rfl rfl rfl ((Below.refl _ w).alloc (Nat.le_refl _) _).drew
        · have e1 : ((str (kid t 0).text).toList == [97, 114, 114, 97, 121]) = false := by rw [beq_eq_false_iff_ne, Lib.toList_data, str_data]; exact hA
          by_cases hN : (kid t 0).text = fnL
          · have e2 : ((str (kid t 0).text).toList != [102, 110]) = false := by rw [bne_eq_false_iff_eq, Lib.toList_data, str_data, hN]; rfl
            have e3 : ((str (kid t 0).text).toList == [102, 110]) = true := by rw [beq_iff_eq, Lib.toList_data, str_data, hN]; rfl
            by_cases hl3 : t.kids.length = 3
            · have l3 : ((t.kids.length : Int) != 3) = false := by rw [bne_eq_false_iff_eq]; omega
              obtain ⟨g', cap', kv1, e0, _, hk1, b0, b1, b2, b3⟩ := hT2.at 1 (by omega)
              simp only [Value.slice.injEq, Option.some.injEq, Addr.mk.injEq, true_and, and_true] at e0
              obtain ⟨rfl, rfl⟩ := e0
              rw [kid_get (t := t) (by omega)] at b0 b1 b2
              simp only [Nat.one_mul] at b0 b1 b2 b3
              have hi1 : (1 : Int) < (t.kids.length : Int) := by omega
              have hk1n : ¬ (kid t 1).kind = 1 := by
                intro h
                rw [if_neg (by omega), if_pos ⟨hl3, by rw [isWordR, decide_eq_true hk3, decide_eq_true hN]; rfl, h⟩] at hf
                cases hf
              have q1 : (((kid t 1).kind : Int) != 1) = true := by rw [bne_iff_ne]; omega
              clear hT hF hf h1 h3 hT2 hk0 hA hN hk3 hg hk1 hk1n hl3
              generalize (kid t 0).text = x at *
              generalize (kid t 0).kind = kk at *
              generalize (kid t 1).text = y at *
              generalize (kid t 1).kind = kk1 at *
              go_enter Try.func87, Try.ntmps87
              go_wp2
              go_region
              go_wp2
              go_ret3
              exact readE_no HR.out rfl rfl rfl ((Below.refl _ w).alloc (Nat.le_refl _) _).drew
            · have l3 : ((t.kids.length : Int) != 3) = true := by rw [bne_iff_ne]; omega
              have l3b : ((t.kids.length : Int) == 3) = false := by rw [beq_eq_false_iff_ne]; omega
              clear hl3
              clear hT hF hf h1 h3 hT2 hk0 hA hN hk3 hg
              generalize (kid t 0).text = x at *
              generalize (kid t 0).kind = kk at *
              go_enter Try.func87, Try.ntmps87
              go_wp2
              go_region
              go_wp2
              go_ret3
              exact readE_no HR.out rfl rfl rfl ((Below.refl _ w).alloc (Nat.le_refl _) _).drew
          · have e2 : ((str (kid t 0).text).toList != [102, 110]) = true := by rw [bne_iff_ne, Lib.toList_data, str_data]; exact hN
            have e3 : ((str (kid t 0).text).toList == [102, 110]) = false := by rw [beq_eq_false_iff_ne, Lib.toList_data, str_data]; exact hN
            clear hT hF hf h1 h3 hT2 hk0 hA hN hk3 hg
            generalize (kid t 0).text = x at *
            generalize (kid t 0).kind = kk at *
            go_enter Try.func87, Try.ntmps87
            go_wp2
            go_region
            go_wp2
            go_ret3
            exact readE_no HR.out rfl rfl rfl ((Below.refl _ w).alloc (Nat.le_refl _) _).drew
      · have q3 : (((kid t 0).kind : Int) != 3) = true := by rw [bne_iff_ne]; omega
        clear hT hF hf h1 h3 hT2 hk0 hk3 hg
        generalize (kid t 0).text = x at *
        generalize (kid t 0).kind = kk at *
        go_enter Try.func87, Try.ntmps87
        go_wp2
        go_region
        go_wp2
        go_ret3
        exact readE_no HR.out rfl rfl rfl ((Below.refl _ w).alloc (Nat.le_refl _) _).drew
  · have k1 : ((t.kind : Int) != 1) = true := by rw [bne_iff_ne]; omega
    clear hT hF hf h1 h3
    go_enter Try.func87, Try.ntmps87
    go_wp2
    go_region
    go_wp2
    go_ret3
    exact readE_no HR.out rfl rfl rfl ((Below.refl _ w).alloc (Nat.le_refl _) _).drew
end Go.Proofs.Ytcokihblicgbpaa

namespace Go.Proofs.Ytcokihblicgbpaa
open Go.RowKit

theorem fin_err {m : List UInt8} {t : Tr} {ys : List (List UInt8)} {y b : Nat} (h : fin m t ys = .error (y, b)) : y ≠ 0 := by
  unfold fin at h
  split at h
  · rename_i h2; cases h; have := madeR_err h2; omega
  · cases h
theorem fin_len {m : List UInt8} {t : Tr} {ys : List (List UInt8)} {x : List UInt8} (h : fin m t ys = .ok x) : x.length ≤ 200 := by
  unfold fin at h
  split at h
  · cases h
  · rename_i h2; cases h; exact madeR_len h2
theorem seqE_err : ∀ {l : List RR} {e : Nat × Nat}, seqE l = .error e → .error e ∈ l
  | [], e, h => by cases h
  | .error e' :: r, e, h => by cases h; exact List.mem_cons_self
  | .ok x :: r, e, h => by
    rw [seqE] at h
    split at h
    · rename_i h2; cases h; exact List.mem_cons_of_mem _ (seqE_err h2)
    · cases h
theorem kid_size {t : Tr} {i : Nat} (h : i < t.kids.length) : SizeOf.sizeOf (kid t i) < SizeOf.sizeOf t := tr_kid_lt (kid_mem h)
theorem parts_ind {P : Tr → Prop} (h : ∀ t : Tr, (∀ p ∈ partsT t, P p) → P t) (t : Tr) : P t := by
  have key : ∀ (n : Nat) (t : Tr), SizeOf.sizeOf t ≤ n → P t := by
    intro n
    induction n with
    | zero => intro t ht; obtain ⟨k, p, x, l, e⟩ := t; simp at ht
    | succ n ih =>
      intro t ht
      refine h t (fun p hp => ih p ?_)
      unfold partsT at hp
      split at hp
      · rename_i h2
        have := form2 h2
        simp only [List.mem_singleton] at hp
        subst hp
        have := kid_size (t := t) (i := 1) (by omega)
        omega
      · split at hp
        · rename_i h3
          have := form3 h3
          simp only [List.mem_append, List.mem_singleton] at hp
          rcases hp with hp | rfl
          · have h1 := tr_kid_lt hp
            have h2 := kid_size (t := t) (i := 1) (by omega)
            omega
          · have h2 := kid_size (t := t) (i := 2) (by omega)
            omega
        · simp at hp
  exact key _ t (Nat.le_refl _)
theorem readR_err (m : List UInt8) (t : Tr) : ∀ y b, readR m t = .error (y, b) → y ≠ 0 := by
  induction t using parts_ind with
  | h t ih =>
    intro y b h
    rw [readR_eq] at h
    split at h
    · rename_i e h2
      cases h
      have := seqE_err h2
      obtain ⟨p, hp, he⟩ := List.mem_map.1 this
      exact ih p hp y b he
    · exact fin_err h
theorem readR_len (m : List UInt8) (t : Tr) {x : List UInt8} (h : readR m t = .ok x) : x.length ≤ 200 := by
  rw [readR_eq] at h
  split at h
  · cases h
  · exact fin_len h
theorem goF_err {m : List UInt8} {t : Tr} {acc : List (List UInt8)} (h : acc.length < (partsT t).length) {e : Nat × Nat} (he : readR m (partsT t)[acc.length] = .error e) : goF m ⟨t, acc⟩ = .error e := by
  have hd : (partsT t).drop acc.length = (partsT t)[acc.length] :: (partsT t).drop (acc.length + 1) := List.drop_eq_getElem_cons h
  rw [goF]
  simp only [hd, List.map_cons, he]
  rfl
theorem goF_next {m : List UInt8} {t : Tr} {acc : List (List UInt8)} (h : acc.length < (partsT t).length) {x : List UInt8} (hx : readR m (partsT t)[acc.length] = .ok x) : goF m ⟨t, acc⟩ = goF m ⟨t, acc ++ [x]⟩ := by
  have hd : (partsT t).drop acc.length = (partsT t)[acc.length] :: (partsT t).drop (acc.length + 1) := List.drop_eq_getElem_cons h
  rw [goF, goF]
  simp only [hd, List.map_cons, hx, seqE, List.length_append, List.length_singleton]
  cases seqE (((partsT t).drop (acc.length + 1)).map (readR m)) <;> simp
theorem read_arr_err {m : List UInt8} {t : Tr} (h : formR t = 2) {e : Nat × Nat} (he : readR m (kid t 1) = .error e) : readR m t = .error e := by
  rw [readR_eq, partsT_arr h, List.map_cons, he]
  rfl
theorem read_arr_ok {m : List UInt8} {t : Tr} (h : formR t = 2) {x : List UInt8} (hx : readR m (kid t 1) = .ok x) : readR m t = if (arrR x).length ≤ 200 then .ok (arrR x) else .error (3, t.place) := by
  rw [readR_eq, partsT_arr h, List.map_cons, hx]
  simp only [List.map_nil, seqE, fin, madeR, h]
  rw [if_neg (by decide), if_pos trivial, lim, if_neg (by simp [arrR])]
  simp only [List.getD_cons_zero]
  by_cases h2 : (arrR x).length ≤ 200
  · rw [if_neg (by omega), if_pos h2]
  · rw [if_pos (by omega), if_neg h2]
theorem read_fn_end {m : List UInt8} {t : Tr} (h : formR t = 3) {acc : List (List UInt8)} {r : List UInt8} (hl : acc.length + 1 = (partsT t).length) (hg : goF m ⟨t, acc ++ [r]⟩ = readR m t) : readR m t = if 6 < acc.length then .error (19, t.place) else if (funcR acc r).length ≤ 200 then .ok (funcR acc r) else .error (3, t.place) := by
  rw [← hg, goF_end m _ (by simpa using hl), fin, madeR]
  simp only [h]
  rw [if_neg (by decide), if_neg (by decide), if_pos trivial]
  simp only [List.length_append, List.length_singleton, Nat.add_sub_cancel]
  by_cases h6 : 6 < acc.length
  · rw [if_pos h6, if_pos h6]
  · rw [if_neg h6, if_neg h6, show (acc ++ [r]).take acc.length = acc from by simp, show (acc ++ [r]).getD acc.length [] = r from by simp, lim, if_neg (by simp [funcR])]
    by_cases h2 : (funcR acc r).length ≤ 200
    · rw [if_neg (by omega), if_pos h2]
    · rw [if_pos (by omega), if_neg h2]
theorem form2_is {t : Tr} (h : formR t = 2) : t.kind = 1 ∧ (kid t 0).kind = 3 ∧ (kid t 0).text = arrayL := by
  unfold formR at h
  repeat' split at h
  all_goals first | omega | skip
  rename_i h1 h2 h3
  have h4 := h3.2
  rw [isWordR, Bool.and_eq_true, decide_eq_true_iff, decide_eq_true_iff] at h4
  exact ⟨by omega, h4⟩
theorem form3_is {t : Tr} (h : formR t = 3) : t.kind = 1 ∧ (kid t 0).kind = 3 ∧ (kid t 0).text = fnL ∧ (kid t 1).kind = 1 := by
  unfold formR at h
  repeat' split at h
  all_goals first | omega | skip
  rename_i h1 h2 h3 h5
  have h4 := h5.2.1
  rw [isWordR, Bool.and_eq_true, decide_eq_true_iff, decide_eq_true_iff] at h4
  exact ⟨by omega, h4.1, h4.2, h5.2.2⟩
def RdAll (m : List UInt8) (t : Tr) : Prop := ∀ (kv : Value) (F : Nat → Prop) (w : World), TL F w kv t.kids → (∀ g, F g → g < w.heap.size) → Calls Try.prog 87 #[trv t kv, .string (str m)] w (ReadE (readR m t) w)

set_option maxHeartbeats 2000000 in
set_option maxRecDepth 1000000 in
theorem refRead_arr (m : List UInt8) (t : Tr) (hf : formR t = 2) (IH : RdAll m (kid t 1)) : RdAll m t := by
  intro kv F w hT hF
  obtain ⟨ka, kc, rfl⟩ := hT.shape
  obtain ⟨h1, h2, h3⟩ := form2_is hf
  have hl := form2 hf
  have hbw : Below w.heap.size w (w.alloc (.cells #[.int .i64 (t.kind : Int), .int .i64 (t.place : Int), .string (str t.text), .slice ka t.kids.length kc] 43)) := (Below.refl _ w).alloc (Nat.le_refl _) _
  have hT2 := hT.below hbw hF
  obtain ⟨g, cap, kv0, e0, hg, hk0, a0, a1, a2, a3⟩ := hT2.at 0 (by omega)
  simp only [Value.slice.injEq, true_and] at e0
  obtain ⟨rfl, rfl⟩ := e0
  rw [kid_get (t := t) (by omega)] at a0 a1 a2
  simp only [Nat.zero_mul, Nat.zero_add] at a0 a1 a2 a3
  obtain ⟨g', cap', kv1, e0, _, hk1, b0, b1, b2, b3⟩ := hT2.at 1 (by omega)
  simp only [Value.slice.injEq, Option.some.injEq, Addr.mk.injEq, true_and, and_true] at e0
  obtain ⟨rfl, rfl⟩ := e0
  rw [kid_get (t := t) (by omega)] at b0 b1 b2 hk1
  simp only [Nat.one_mul] at b0 b1 b2 b3
  have hgw := hF g hg
  have hne : g ≠ w.heap.size := by omega
  have k3 : ((t.kind : Int) == 3) = false := by rw [beq_eq_false_iff_ne]; omega
  have k1 : ((t.kind : Int) != 1) = false := by rw [bne_eq_false_iff_eq]; omega
  have k0 : ((t.kids.length : Int) == 0) = false := by rw [beq_eq_false_iff_ne]; omega
  have l2 : ((t.kids.length : Int) == 2) = true := by rw [beq_iff_eq]; omega
  have i0 : (0 : Int) < (t.kids.length : Int) := by omega
  have i1 : (1 : Int) < (t.kids.length : Int) := by omega
  have q3 : (((kid t 0).kind : Int) != 3) = false := by rw [bne_eq_false_iff_eq]; omega
  have e1 : ((str (kid t 0).text).toList == [97, 114, 114, 97, 121]) = true := by rw [beq_iff_eq, Lib.toList_data, str_data, h3]; rfl
  obtain ⟨ea, ec, rfl⟩ := hk1.shape
  have hrec := IH _ F _ hk1 (fun g hg => by have := hF g hg; simp; omega)
  have HF := hidden hf
  have hx : (w.alloc (.cells #[.int .i64 (t.kind : Int), .int .i64 (t.place : Int), .string (str t.text), .slice (some ⟨g, 0, none⟩) t.kids.length kc] 43)).heap[w.heap.size]? = some (.cells #[.int .i64 (t.kind : Int), .int .i64 (t.place : Int), .string (str t.text), .slice (some ⟨g, 0, none⟩) t.kids.length kc] 43) := heap_alloc_new w _
  have hsz : Hid ((w.alloc (.cells #[.int .i64 (t.kind : Int), .int .i64 (t.place : Int), .string (str t.text), .slice (some ⟨g, 0, none⟩) t.kids.length kc] 43)).heap.size = w.heap.size + 1) := by simp [Hid]
  unfold trv at hrec ⊢
  clear hT hF hf h1 h2 h3 hT2 hk0 hk1 hg IH hl
  cases hr : readR m (kid t 1) with
  | error yb =>
    obtain ⟨y, b⟩ := yb
    have HR : Hid (readR m t = .error (y, b)) := read_arr_err HF.out hr
    have hy := readR_err m _ y b hr
    have hy' : ((y : Int) != 0) = true := by rw [bne_iff_ne]; omega
    rw [hr] at hrec
    clear hr hy
    generalize (kid t 0).text = x0 at *
    generalize (kid t 0).kind = kk0 at *
    generalize kid t 1 = T1 at *
    go_enter Try.func87, Try.ntmps87
    go_wp2_with fail
    refine hrec.mono ?_
    rintro e w1 ⟨he, hb1⟩
    simp only at he
    subst he
    have hb2 := below_trans hbw hb1
    go_wp2
    go_ret3
    exact readE_no HR.out rfl rfl rfl hb2
  | ok x =>
    have HR := hidden (read_arr_ok HF.out hr)
    have hxl := readR_len m _ hr
    rw [hr] at hrec
    have hsh := fun u => refShort (arrR x) (t.place : Int) u
    unfold ShortE at hsh
    have hxs : (str x).size = x.length := rfl
    have HE : Hid ((⟨#[91]⟩ : ByteArray) ++ str x ++ ⟨#[93]⟩ = str (arrR x)) := by
      rw [hid_iff, show (⟨#[91]⟩ : ByteArray) = str [91] from rfl, show (⟨#[93]⟩ : ByteArray) = str [93] from rfl, str_append, str_append]
      rfl
    rw [← HE.out] at hsh
    clear hr
    generalize (kid t 0).text = x0 at *
    generalize (kid t 0).kind = kk0 at *
    generalize kid t 1 = T1 at *
    go_enter Try.func87, Try.ntmps87
    go_wp2_with fail
    refine hrec.mono ?_
    rintro e w1 ⟨he, hb1⟩
    simp only at he
    subst he
    have hb2 := below_trans hbw hb1
    obtain ⟨x0', x1', x2', x3', _⟩ := four_cells ((hb1.block w.heap.size (by rw [hsz.out]; omega)).trans hx)
    clear hb1 hx
    go_wp2_with fail
    refine (hsh _).mono ?_
    rintro e w2 ⟨he, rfl⟩
    by_cases hl : (arrR x).length ≤ 200
    · rw [if_pos hl] at he
      have HR' : Hid (readR m t = .ok (arrR x)) := by rw [hid_iff, HR.out, if_pos hl]
      subst he
      clear HR hl
      go_wp2
      go_ret3
      exact readE_ok' HR'.out HE.out hb2
    · rw [if_neg hl] at he
      have HR' : Hid (readR m t = .error (3, t.place)) := by rw [hid_iff, HR.out, if_neg hl]
      subst he
      clear HR hl HE
      go_wp2
      go_ret3
      exact readE_no HR'.out rfl rfl rfl hb2
end Go.Proofs.Ytcokihblicgbpaa

namespace Go.Proofs.Ytcokihblicgbpaa
open Go.RowKit

set_option maxHeartbeats 4000000 in
set_option maxRecDepth 1000000 in
theorem refRead_fn (m : List UInt8) (t : Tr) (hf : formR t = 3) (IHk : ∀ p ∈ (kid t 1).kids, RdAll m p) (IH2 : RdAll m (kid t 2)) (hkl : (kid t 1).kids.length ≤ 8192) : RdAll m t := by
  intro kv F w hT hF
  obtain ⟨ka, kc, rfl⟩ := hT.shape
  obtain ⟨h1, h2, h3, h4⟩ := form3_is hf
  have hl := form3 hf
  have hpt : Hid (partsT t = (kid t 1).kids ++ [kid t 2]) := partsT_fn hf
  have hbw : Below w.heap.size w (w.alloc (.cells #[.int .i64 (t.kind : Int), .int .i64 (t.place : Int), .string (str t.text), .slice ka t.kids.length kc] 43)) := (Below.refl _ w).alloc (Nat.le_refl _) _
  have hT2 := hT.below hbw hF
  obtain ⟨g, cap, kv0, e0, hg, hk0, a0, a1, a2, a3⟩ := hT2.at 0 (by omega)
  simp only [Value.slice.injEq, true_and] at e0
  obtain ⟨rfl, rfl⟩ := e0
  rw [kid_get (t := t) (by omega)] at a0 a1 a2
  simp only [Nat.zero_mul, Nat.zero_add] at a0 a1 a2 a3
  obtain ⟨g', cap', kv1, e0, _, hk1, b0, b1, b2, b3⟩ := hT2.at 1 (by omega)
  simp only [Value.slice.injEq, Option.some.injEq, Addr.mk.injEq, true_and, and_true] at e0
  obtain ⟨rfl, rfl⟩ := e0
  rw [kid_get (t := t) (by omega)] at b0 b1 b2 hk1
  simp only [Nat.one_mul] at b0 b1 b2 b3
  obtain ⟨g'', cap'', kv2, e0, _, hk2, c0, c1, c2, c3⟩ := hT2.at 2 (by omega)
  simp only [Value.slice.injEq, Option.some.injEq, Addr.mk.injEq, true_and, and_true] at e0
  obtain ⟨rfl, rfl⟩ := e0
  rw [kid_get (t := t) (by omega)] at c0 c1 c2 hk2
  simp only [show 2 * 4 = 8 from rfl, show 8 + 1 = 9 from rfl, show 8 + 2 = 10 from rfl, show 8 + 3 = 11 from rfl] at c0 c1 c2 c3
  have hgw := hF g hg
  have hne : g ≠ w.heap.size := by omega
  have k3 : ((t.kind : Int) == 3) = false := by rw [beq_eq_false_iff_ne]; omega
  have k1 : ((t.kind : Int) != 1) = false := by rw [bne_eq_false_iff_eq]; omega
  have k0 : ((t.kids.length : Int) == 0) = false := by rw [beq_eq_false_iff_ne]; omega
  have l2 : ((t.kids.length : Int) == 2) = false := by rw [beq_eq_false_iff_ne]; omega
  have l3 : ((t.kids.length : Int) != 3) = false := by rw [bne_eq_false_iff_eq]; omega
  have i0 : (0 : Int) < (t.kids.length : Int) := by omega
  have i1 : (1 : Int) < (t.kids.length : Int) := by omega
  have i2 : (2 : Int) < (t.kids.length : Int) := by omega
  have q3 : (((kid t 0).kind : Int) != 3) = false := by rw [bne_eq_false_iff_eq]; omega
  have q1 : (((kid t 1).kind : Int) != 1) = false := by rw [bne_eq_false_iff_eq]; omega
  have e1 : ((str (kid t 0).text).toList == [97, 114, 114, 97, 121]) = false := by rw [beq_eq_false_iff_ne, Lib.toList_data, str_data, h3]; decide
  have e2 : ((str (kid t 0).text).toList != [102, 110]) = false := by rw [bne_eq_false_iff_eq, Lib.toList_data, str_data, h3]; rfl
  have e3 : ((str (kid t 0).text).toList == [102, 110]) = true := by rw [beq_iff_eq, Lib.toList_data, str_data, h3]; rfl
  obtain ⟨ea, ec, rfl⟩ := hk1.shape
  obtain ⟨fa, fc, rfl⟩ := hk2.shape
  have HF := hidden hf
  have hx : (w.alloc (.cells #[.int .i64 (t.kind : Int), .int .i64 (t.place : Int), .string (str t.text), .slice (some ⟨g, 0, none⟩) t.kids.length kc] 43)).heap[w.heap.size]? = some (.cells #[.int .i64 (t.kind : Int), .int .i64 (t.place : Int), .string (str t.text), .slice (some ⟨g, 0, none⟩) t.kids.length kc] 43) := heap_alloc_new w _
  have hsz : Hid ((w.alloc (.cells #[.int .i64 (t.kind : Int), .int .i64 (t.place : Int), .string (str t.text), .slice (some ⟨g, 0, none⟩) t.kids.length kc] 43)).heap.size = w.heap.size + 1) := by simp [Hid]
  have HIK := hidden IHk
  have HI2 := hidden IH2
  have hgt : Hid (goF m ⟨t, []⟩ = readR m t) := goF_start m t
  unfold trv
  clear hT hf h1 h2 h3 h4 hT2 hk0 hg IHk IH2 hl
  generalize (kid t 0).text = x0 at *
  generalize (kid t 0).kind = kk0 at *
  generalize hT1 : kid t 1 = T1 at *
  generalize hTT2 : kid t 2 = T2 at *
  clear hT1 hTT2
  go_enter Try.func87, Try.ntmps87
  go_wp2
  go_loopg [13, 14] T1.kids.length (fun gg v i wr => ∃ (k : Nat) (acc : List (List UInt8)), gg + k = T1.kids.length ∧ i = .int .i64 (k : Int) ∧ Hid (acc.length = k) ∧ Hid (goF m ⟨t, acc⟩ = readR m t) ∧ Hid (∀ y ∈ acc, y.length ≤ 200) ∧ wr.ownsRow (w.heap.size + 1) 9 1 v acc.length (sc acc) ∧ Below (w.heap.size + 1) (w.alloc (.cells #[.int .i64 (t.kind : Int), .int .i64 (t.place : Int), .string (str t.text), .slice (some ⟨g, 0, none⟩) t.kids.length kc] 43)) wr)
  case atStart => exact ⟨0, [], by omega, rfl, by rw [hid_iff]; rfl, hgt, by rw [hid_iff]; simp, World.ownsRow_nil _ _ _ _, Below.refl _ _⟩
  case round =>
    obtain ⟨k, acc, hgk, rfl, hal, HG, HL, hown, hbl⟩ := hrel
    have hsw : w.heap.size + 1 ≤ wr.heap.size := by have := hbl.size; rw [hsz.out] at this; exact this
    have hbw2 : Below w.heap.size w wr := hbw.trans (hbl.mono (by omega))
    obtain ⟨y0, y1, y2, y3, _⟩ := four_cells ((hbl.block w.heap.size (by omega)).trans hx)
    have b3r := below_cell hbl b3 (by omega)
    have b0r := below_cell hbl b0 (by omega)
    have hF2 : ∀ g, F g → g < w.heap.size + 1 := fun g hg => by have := hF g hg; omega
    have hpl : (partsT t).length = T1.kids.length + 1 := by rw [hpt.out]; simp
    clear hx hsz hgt
    by_cases hk : k < T1.kids.length
    · obtain ⟨g1, c1', kvk, e9, hg1, hkt, d0, d1, d2, d3⟩ := (hk1.below hbl hF2).at k hk
      simp only [Value.slice.injEq, true_and] at e9
      obtain ⟨rfl, rfl⟩ := e9
      obtain ⟨na, nc, rfl⟩ := hkt.shape
      have hki : (k : Int) < (T1.kids.length : Int) := by omega
      have hc := HIK.out T1.kids[k] (List.getElem_mem hk) _ F wr hkt (fun g hg => by have := hF g hg; omega)
      have hpk : (partsT t)[acc.length]'(by rw [hal.out]; omega) = T1.kids[k] := by
        have : (partsT t)[acc.length]? = some T1.kids[k] := by rw [hpt.out, hal.out, List.getElem?_append_left hk, List.getElem?_eq_getElem hk]
        exact (List.getElem_eq_iff _).2 this
      unfold trv at hc
      cases hr : readR m T1.kids[k] with
      | error yb =>
        obtain ⟨y, b⟩ := yb
        have HR : Hid (readR m t = .error (y, b)) := by
          rw [hid_iff, ← HG.out]
          exact goF_err (by rw [hal.out]; omega) (by rw [hpk]; exact hr)
        have hy := readR_err m _ y b hr
        have hy' : ((y : Int) != 0) = true := by rw [bne_iff_ne]; omega
        rw [hr] at hc
        clear hr hy HG HL hown hkt hpk HIK HI2 hk1 hk2 hbl
        generalize T1.kids[k] = tk at *
        go_wp2_with fail
        refine hc.mono ?_
        rintro e w1 ⟨he, hb1⟩
        simp only at he
        subst he
        have hb2 := below_trans hbw2 hb1
        go_wp2
        go_ret3
        exact readE_no HR.out rfl rfl rfl hb2
      | ok x =>
        have HG' : Hid (goF m ⟨t, acc ++ [x]⟩ = readR m t) := by
          rw [hid_iff, ← HG.out]
          exact (goF_next (by rw [hal.out]; omega) (by rw [hpk]; exact hr)).symm
        have hxl := readR_len m _ hr
        have HL' : Hid (∀ y ∈ acc ++ [x], y.length ≤ 200) := by
          rw [hid_iff]
          intro y hy
          simp only [List.mem_append, List.mem_singleton] at hy
          rcases hy with hy | rfl
          · exact HL.out y hy
          · exact hxl
        have hakk : acc.length ≤ 8192 := by have := hal.out; omega
        rw [hr] at hc
        clear hr HG HL hkt hpk HIK HI2 hk1 hk2
        generalize T1.kids[k] = tk at *
        go_wp2_with fail
        refine hc.mono ?_
        rintro e w1 ⟨he, hb1⟩
        simp only at he
        subst he
        have ho1 := owns_below hown hb1
        have hbl1 : Below (w.heap.size + 1) (w.alloc (.cells #[.int .i64 (t.kind : Int), .int .i64 (t.place : Int), .string (str t.text), .slice (some ⟨g, 0, none⟩) t.kids.length kc] 43)) w1 := hbl.trans (hb1.mono hsw)
        have hs1 := hb1.size
        clear hown hbl hb1 hc
        go_wp2_with (at_builtin; refine append_text rfl (.tmp 179) (.tmp 181) rfl (w.heap.size + 1) _ acc rfl (ho1.alloc _) _ _ x rfl ?src ?len ?hB ?next)
        case src => first | exact cells_new _ _ _ | exact fun j u h => h
        case len => first | omega | (simp; omega)
        case hB => first | omega | (simp; omega)
        case next =>
          intro ad c' w' r1 r2
          have b1' := below_grown (ho1.alloc _) (by simp; omega) (hbl1.alloc (by omega) _) r2
          clear r2 ho1 hbl1
          go_wp2
          go_roundg (T1.kids.length - (k + 1))
          case measure => omega
          case rel => exact ⟨k + 1, acc ++ [x], by omega, by go_num, by rw [hid_iff]; have := hal.out; simp; omega, HG', HL', by simpa using r1, b1'⟩
    · have hki : ¬ (k : Int) < (T1.kids.length : Int) := by omega
      have hc := HI2.out _ F wr (hk2.below hbl hF2) (fun g hg => by have := hF g hg; omega)
      have c0r := below_cell hbl c0 (by omega)
      have c1r := below_cell hbl c1 (by omega)
      have c2r := below_cell hbl c2 (by omega)
      have c3r := below_cell hbl c3 (by omega)
      have hpk : (partsT t)[acc.length]'(by rw [hal.out]; omega) = T2 := by
        have : (partsT t)[acc.length]? = some T2 := by rw [hpt.out, hal.out, List.getElem?_append_right (by omega), show k - T1.kids.length = 0 from by omega]; rfl
        exact (List.getElem_eq_iff _).2 this
      unfold trv at hc
      cases hr : readR m T2 with
      | error yb =>
        obtain ⟨y, b⟩ := yb
        have HR : Hid (readR m t = .error (y, b)) := by
          rw [hid_iff, ← HG.out]
          exact goF_err (by rw [hal.out]; omega) (by rw [hpk]; exact hr)
        have hy := readR_err m _ y b hr
        have hy' : ((y : Int) != 0) = true := by rw [bne_iff_ne]; omega
        rw [hr] at hc
        clear hr hy HG HL hown hpk HIK HI2 hk1 hk2 hbl
        go_wp2_with fail
        refine hc.mono ?_
        rintro e w1 ⟨he, hb1⟩
        simp only at he
        subst he
        have hb2 := below_trans hbw2 hb1
        go_wp2
        go_ret3
        exact readE_no HR.out rfl rfl rfl hb2
      | ok r =>
        have HR : Hid (readR m t = if 6 < acc.length then .error (19, t.place) else if (funcR acc r).length ≤ 200 then .ok (funcR acc r) else .error (3, t.place)) := by
          rw [hid_iff]
          refine read_fn_end HF.out (by rw [hpl, hal.out]; omega) ?_
          rw [← HG.out]
          exact (goF_next (by rw [hal.out]; omega) (by rw [hpk]; exact hr)).symm
        have hxl := readR_len m _ hr
        have hakk : acc.length ≤ 8192 := by have := hal.out; omega
        rw [hr] at hc
        clear hr HG hpk HIK HI2 hk1 hk2
        go_wp2_with fail
        refine hc.mono ?_
        rintro e w1 ⟨he, hb1⟩
        simp only at he
        subst he
        have hb2 := below_trans hbw2 hb1
        have hsr := strRow_own (owns_below hown hb1)
        have y1' := below_cell hb1 y1 (by omega)
        obtain ⟨va, vc, hv⟩ := hsr.shape
        subst hv
        clear hown hb1 hbl y0 y1 y2 y3 b3r b0r c0r c1r c2r c3r hc hbw2
        by_cases h6 : 6 < acc.length
        · have h6' : (6 : Int) < (acc.length : Int) := by omega
          have HR' : Hid (readR m t = .error (19, t.place)) := by rw [hid_iff, HR.out, if_pos h6]
          clear HR hsr h6
          go_wp2
          go_region
          go_wp2
          go_ret3
          exact readE_no HR'.out rfl rfl rfl hb2.drew
        · have h6' : ¬ (6 : Int) < (acc.length : Int) := by omega
          have hfn : ∀ n, Calls Try.prog 91 #[.slice va acc.length vc, .string (str r)] (w1.drewN n) fun e w' => e = .returned (.string (str (funcR acc r))) ∧ w' = w1.drewN n := fun n => refFunc _ acc r _ (strRow_drew hsr n) (by omega) (fun y hy => by have := HL.out y hy; omega) (by omega)
          have hsh := fun u => refShort (funcR acc r) (t.place : Int) u
          unfold ShortE at hsh
          by_cases hlf : (funcR acc r).length ≤ 200
          · simp only [if_pos hlf] at hsh
            have HR' : Hid (readR m t = .ok (funcR acc r)) := by rw [hid_iff, HR.out, if_neg h6, if_pos hlf]
            clear HR hsr h6 HL hlf
            generalize funcR acc r = fx at *
            go_wp2
            go_quiet ((first | (go_at_call 91; refine quiet_pure0 (hfn _)) | (go_at_call 90; refine quiet_pure0 (hsh _))))
            go_wp2
            go_ret3
            exact readE_ok HR'.out (below_drewN hb2 _)
          · simp only [if_neg hlf] at hsh
            have HR' : Hid (readR m t = .error (3, t.place)) := by rw [hid_iff, HR.out, if_neg h6, if_neg hlf]
            clear HR hsr h6 HL hlf
            generalize funcR acc r = fx at *
            go_wp2
            go_quiet ((first | (go_at_call 91; refine quiet_pure0 (hfn _)) | (go_at_call 90; refine quiet_pure0 (hsh _))))
            go_wp2
            go_ret3
            exact readE_no HR'.out rfl rfl rfl (below_drewN hb2 _)

theorem kids_nodes {t : Tr} {i : Nat} (h : i < t.kids.length) : nodes (kid t i) < nodes t := by
  have h1 := mem_nodes (kid_mem h)
  have h2 := nodes_eq t
  omega
theorem form_one {t : Tr} (h : formR t = 1) : t.kind = 3 := by
  unfold formR at h
  repeat' split at h
  all_goals first | assumption | omega
/-- Any tree. -/
theorem refReadT (m : List UInt8) (hm : m.length ≤ 140737488351232) (t : Tr) : TxOk t → nodes t ≤ 8192 → RdAll m t := by
  induction t using parts_ind with
  | h t ih =>
    intro htx hnd
    have htp := parts_txOk htx
    have hps := parts_nodes t
    by_cases h3 : t.kind = 3
    · intro kv F w _ _
      exact refRead_atom m hm t kv w h3 ((TxOk_iff t).1 htx).1
    · rcases form_cases t with h | h | h | h
      · intro kv F w hT hF
        exact refRead_none m t kv F w hT hF h3 h
      · exact absurd (form_one h) h3
      · have hp := partsT_arr h
        exact refRead_arr m t h (ih _ (by rw [hp]; simp) (htp _ (by rw [hp]; simp)) (by rw [hp] at hps; simp at hps; omega))
      · have hp := partsT_fn h
        have hmem : ∀ p ∈ partsT t, nodes p ≤ 8192 := fun p hpp => by have := mem_nodes hpp; omega
        have hkl : (kid t 1).kids.length ≤ 8192 := by
          have := sum_nodes (kid t 1).kids
          rw [hp, List.map_append, List.sum_append] at hps
          omega
        exact refRead_fn m t h (fun p hpp => ih p (by rw [hp]; simp [hpp]) (htp p (by rw [hp]; simp [hpp])) (hmem p (by rw [hp]; simp [hpp]))) (ih _ (by rw [hp]; simp) (htp _ (by rw [hp]; simp)) (hmem _ (by rw [hp]; simp))) hkl

set_option maxRecDepth 1000000 in
theorem refRead (m : List UInt8) (hm : m.length ≤ 140737488351232) (t : Tr) (kv : Value) (F : Nat → Prop) (w : World) (hT : TL F w kv t.kids) (hF : ∀ g, F g → g < w.heap.size) (htx : TxOk t) (hnd : nodes t ≤ 8192) :
    Calls Try.prog 81 #[trv t kv, .string (str m)] w (ReadE (readR m t) w) := by
  have hbw : Below w.heap.size w (w.alloc (.cells #[.int .i64 (t.kind : Int), .int .i64 (t.place : Int), .string (str t.text), kv] 43)) := (Below.refl _ w).alloc (Nat.le_refl _) _
  obtain ⟨ka, kc, rfl⟩ := hT.shape
  have hc := refReadT m hm t htx hnd _ F _ (hT.below hbw hF) (fun g hg => by have := hF g hg; simp; omega)
  unfold trv at hc ⊢
  clear hT hF htx hnd
  cases hr : readR m t with
  | error yb =>
    obtain ⟨y, b⟩ := yb
    have hy := readR_err m _ y b hr
    have hy' : ((y : Int) != 0) = true := by rw [bne_iff_ne]; omega
    rw [hr] at hc
    clear hr hy
    go_enter Try.func81, Try.ntmps81
    go_wp2_with fail
    refine hc.mono ?_
    rintro e w1 ⟨he, hb1⟩
    simp only at he
    subst he
    have hb2 := below_trans hbw hb1
    go_wp2
    go_ret3
    exact readE_no rfl rfl rfl rfl hb2
  | ok x =>
    rw [hr] at hc
    clear hr
    go_enter Try.func81, Try.ntmps81
    go_wp2_with fail
    refine hc.mono ?_
    rintro e w1 ⟨he, hb1⟩
    simp only at he
    subst he
    have hb2 := below_trans hbw hb1
    go_wp2
    go_ret3
    exact readE_ok rfl hb2
end Go.Proofs.Ytcokihblicgbpaa

namespace Go.Proofs.Ytcokihblicgbpaa
open Go.RowKit

theorem orR_err {α β : Type} (st : Option (Nat × Nat)) (e : Nat × Nat) : orR st (.error e : PR α) = orR st (.error e : PR β) := by cases st <;> rfl
theorem orR_ok {α : Type} (st : Option (Nat × Nat)) (x : α) : orR st (.ok x : PR α) = st := by cases st <;> rfl
theorem orR_some {α : Type} (e : Nat × Nat) (r : PR α) : orR (some e) r = some e := rfl
/-- A tree's box. -/
theorem box4_cells (w : World) (t : Tr) (kv : Value) : (w.alloc (.cells #[.int .i64 (t.kind : Int), .int .i64 (t.place : Int), .string (str t.text), kv] 43)).heap[w.heap.size]? = some (.cells #[.int .i64 (t.kind : Int), .int .i64 (t.place : Int), .string (str t.text), kv] 43 (0, 0)) := heap_alloc_new w _
theorem tree_cells {w : World} {b : Nat} {t : Tr} {kv : Value} (h : w.heap[b]? = some (.cells #[.int .i64 (t.kind : Int), .int .i64 (t.place : Int), .string (str t.text), kv] 43 (0, 0))) : w.cell? ⟨b, 0, none⟩ = some (.int .i64 (t.kind : Int)) ∧ w.cell? ⟨b, 1, none⟩ = some (.int .i64 (t.place : Int)) ∧ w.cell? ⟨b, 2, none⟩ = some (.string (str t.text)) ∧ w.cell? ⟨b, 3, none⟩ = some kv :=
  ⟨by rw [cell_of_row _ _ 0 _ _ _ h]; rfl, by rw [cell_of_row _ _ 1 _ _ _ h]; rfl, by rw [cell_of_row _ _ 2 _ _ _ h]; rfl, by rw [cell_of_row _ _ 3 _ _ _ h]; rfl⟩
theorem belowR (w : World) {H : Nat} (n : Nat) : Below H w (w.drewN n) := ⟨rfl, rfl, rfl, Nat.le_refl _, fun _ _ => rfl⟩
theorem dot_len (s : List UInt8) : (aheadR s).length ≤ s.length ∧ (behindR s).length ≤ s.length := by
  constructor
  · unfold aheadR
    exact (List.takeWhile_prefix _).length_le
  · unfold behindR
    simp
set_option maxHeartbeats 2000000 in
set_option maxRecDepth 1000000 in
theorem r6dotted (s : List UInt8) (big : Bool) (w : World) (hs : s.length ≤ 8192) : Calls Try.prog 52 #[.string (str s), .bool big] w (BoolB (dotR big s) w) := by
  have hd := refDotted (str s) w (by rw [str_size]; exact hs)
  unfold DotE at hd
  rw [str_data] at hd
  have hl := dot_len s
  have hV1 : ∀ u, Calls Try.prog 18 #[.string (str (aheadR s))] u (Pu (.bool (valueR (aheadR s))) u) := fun u => by
    have := refValue (str (aheadR s)) u (by rw [str_size]; omega)
    rwa [str_data] at this
  have hV2 : ∀ u, Calls Try.prog 18 #[.string (str (behindR s))] u (Pu (.bool (valueR (behindR s))) u) := fun u => by
    have := refValue (str (behindR s)) u (by rw [str_size]; omega)
    rwa [str_data] at this
  have hB2 : ∀ u, Calls Try.prog 33 #[.string (str (behindR s))] u (Pu (.bool (bigR (behindR s))) u) := fun u => by
    have := refBig (str (behindR s)) u (by rw [str_size]; omega)
    rwa [str_data] at this
  have hD : Hid (dotR big s = (hasDot s && valueR (aheadR s) && (if big then bigR (behindR s) else valueR (behindR s)))) := rfl
  generalize hasDot s = dd at *
  generalize valueR (aheadR s) = va at *
  generalize valueR (behindR s) = vb at *
  generalize bigR (behindR s) = bb at *
  generalize aheadR s = s1 at *
  generalize behindR s = s2 at *
  clear hl
  cases dd
  · have HE : Hid (dotR big s = false) := by rw [hid_iff, hD.out]; rfl
    simp only [Bool.false_eq_true, if_false] at hd
    go_enter Try.func52, Try.ntmps52
    go_wp2_with fail
    refine hd.mono ?_
    rintro e w1 ⟨rfl, n, rfl⟩
    clear hd
    go_wp2
    go_ret
    exact ⟨by rw [HE.out]; rfl, belowR _ _⟩
  · simp only [if_true] at hd
    go_enter Try.func52, Try.ntmps52
    go_wp2_with fail
    refine hd.mono ?_
    rintro e w1 ⟨rfl, n, rfl⟩
    clear hd
    go_wp2_with fail
    refine (hV1 _).mono ?_
    rintro e w2 ⟨rfl, rfl⟩
    cases va
    · have HE : Hid (dotR big s = false) := by rw [hid_iff, hD.out]; rfl
      go_wp2
      go_ret
      exact ⟨by rw [HE.out]; rfl, belowR _ _⟩
    · cases big
      · have HE : Hid (dotR false s = vb) := by rw [hid_iff, hD.out]; simp
        go_wp2_with fail
        refine (hV2 _).mono ?_
        rintro e w2 ⟨rfl, rfl⟩
        go_wp2
        go_ret
        exact ⟨by rw [HE.out]; rfl, belowR _ _⟩
      · have HE : Hid (dotR true s = bb) := by rw [hid_iff, hD.out]; simp
        go_wp2_with fail
        refine (hB2 _).mono ?_
        rintro e w2 ⟨rfl, rfl⟩
        cases bb
        all_goals (
          go_wp2
          go_ret
          exact ⟨by rw [HE.out]; rfl, belowR _ _⟩)

set_option maxHeartbeats 2000000 in
set_option maxRecDepth 1000000 in
theorem r6name (rb : Nat) (m : List UInt8) (st : Option (Nat × Nat)) (t : Tr) (kv : Value) (w : World) (h : RI w rb m st) (htx : t.text.length ≤ 8192) :
    Calls Try.prog 60 #[.pointer (some ⟨rb, 0, none⟩), trv t kv] w fun e w' => e = .returned (.string (str t.text)) ∧ RQ rb m (orR st (nameP t)) w w' := by
  have hb : Below w.heap.size w (w.alloc (.cells #[.int .i64 (t.kind : Int), .int .i64 (t.place : Int), .string (str t.text), kv] 43)) := (Below.refl _ w).alloc (Nat.le_refl _) _
  have hN := box4_cells w t kv
  have hz : w.heap.size < (w.alloc (.cells #[.int .i64 (t.kind : Int), .int .i64 (t.place : Int), .string (str t.text), kv] 43)).heap.size := by simp
  have h0 := RQ.of h hb
  have hV := refValue (str t.text) (w.alloc (.cells #[.int .i64 (t.kind : Int), .int .i64 (t.place : Int), .string (str t.text), kv] 43)) (by rw [str_size]; omega)
  rw [str_data] at hV
  have hW := r6word t.text (w.alloc (.cells #[.int .i64 (t.kind : Int), .int .i64 (t.place : Int), .string (str t.text), kv] 43))
  obtain ⟨c0, c1, c2, c3⟩ := tree_cells hN
  unfold trv
  go_enter Try.func60, Try.ntmps60
  go_wp2_with fail
  generalize (w.alloc (.cells #[.int .i64 (t.kind : Int), .int .i64 (t.place : Int), .string (str t.text), kv] 43)) = W1 at *
  refine hV.mono ?_
  rintro e w1 ⟨rfl, rfl⟩
  clear hV
  cases hv : valueR t.text
  · have HE : Hid (orR st (nameP t) = orR st (.error (13, t.place) : PR Unit)) := by
      rw [hid_iff, nameP, if_neg (by simp [hv])]
      exact orR_err _ _
    have hr := r6refuse rb m st 13 t.place w1 h0.1 (by decide)
    clear hv
    go_wp2_with fail
    refine hr.mono ?_
    rintro e w2 ⟨rfl, hq⟩
    have hN2 := (hq.2.block w.heap.size hz (fun e => by have := h.lt; omega)).trans hN
    obtain ⟨d0, d1, d2, d3⟩ := tree_cells hN2
    have hfin := h0.trans hq
    rw [← HE.out] at hfin
    clear hr hq HE
    go_wp2
    go_ret
    exact ⟨rfl, hfin⟩
  · go_wp2_with fail
    refine hW.mono ?_
    rintro e w2 ⟨rfl, hb2⟩
    have hN2 := (hb2.block w.heap.size hz).trans hN
    obtain ⟨d0, d1, d2, d3⟩ := tree_cells hN2
    have h2 := h0.more hb2
    have hz2 := hb2.size
    clear hW
    cases hk : isKey t.text
    · have HE : Hid (orR st (nameP t) = st) := by
        rw [hid_iff, nameP, if_pos ⟨hv, hk⟩]
        exact orR_ok _ _
      rw [← HE.out] at h2
      clear hk hv HE
      go_wp2
      go_ret
      exact ⟨rfl, h2⟩
    · have HE : Hid (orR st (nameP t) = orR st (.error (13, t.place) : PR Unit)) := by
        rw [hid_iff, nameP, if_neg (by simp [hk])]
        exact orR_err _ _
      have hr := r6refuse rb m st 13 t.place w2 h2.1 (by decide)
      clear hk hv
      go_wp2_with fail
      refine hr.mono ?_
      rintro e w3 ⟨rfl, hq⟩
      have hN3 := (hq.2.block w.heap.size (by omega) (fun e => by have := h.lt; omega)).trans hN2
      obtain ⟨f0, f1, f2, f3⟩ := tree_cells hN3
      have hfin := h2.trans hq
      rw [← HE.out] at hfin
      clear hr hq HE
      go_wp2
      go_ret
      exact ⟨rfl, hfin⟩
set_option maxHeartbeats 2000000 in
set_option maxRecDepth 1000000 in
theorem r6any (rb : Nat) (m : List UInt8) (st : Option (Nat × Nat)) (t : Tr) (kv : Value) (w : World) (h : RI w rb m st) (htx : t.text.length ≤ 8192) :
    Calls Try.prog 58 #[.pointer (some ⟨rb, 0, none⟩), trv t kv] w fun e w' => e = .returned (.string (str t.text)) ∧ RQ rb m (orR st (anyP t)) w w' := by
  have hb : Below w.heap.size w (w.alloc (.cells #[.int .i64 (t.kind : Int), .int .i64 (t.place : Int), .string (str t.text), kv] 43)) := (Below.refl _ w).alloc (Nat.le_refl _) _
  have hN := box4_cells w t kv
  have hz : w.heap.size < (w.alloc (.cells #[.int .i64 (t.kind : Int), .int .i64 (t.place : Int), .string (str t.text), kv] 43)).heap.size := by simp
  have h0 := RQ.of h hb
  have hV := refName (str t.text) (w.alloc (.cells #[.int .i64 (t.kind : Int), .int .i64 (t.place : Int), .string (str t.text), kv] 43)) (by rw [str_size]; omega)
  rw [str_data] at hV
  obtain ⟨c0, c1, c2, c3⟩ := tree_cells hN
  unfold trv
  go_enter Try.func58, Try.ntmps58
  go_wp2_with fail
  generalize (w.alloc (.cells #[.int .i64 (t.kind : Int), .int .i64 (t.place : Int), .string (str t.text), kv] 43)) = W1 at *
  refine hV.mono ?_
  rintro e w1 ⟨rfl, rfl⟩
  clear hV
  cases hv : nameR t.text
  · have HE : Hid (orR st (anyP t) = orR st (.error (13, t.place) : PR Unit)) := by
      rw [hid_iff, anyP, if_neg (by simp [hv])]
      exact orR_err _ _
    have hr := r6refuse rb m st 13 t.place w1 h0.1 (by decide)
    clear hv
    go_wp2_with fail
    refine hr.mono ?_
    rintro e w2 ⟨rfl, hq⟩
    have hN2 := (hq.2.block w.heap.size hz (fun e => by have := h.lt; omega)).trans hN
    obtain ⟨d0, d1, d2, d3⟩ := tree_cells hN2
    have hfin := h0.trans hq
    rw [← HE.out] at hfin
    clear hr hq HE
    go_wp2
    go_ret
    exact ⟨rfl, hfin⟩
  · have HE : Hid (orR st (anyP t) = st) := by
      rw [hid_iff, anyP, if_pos hv]
      exact orR_ok _ _
    rw [← HE.out] at h0
    clear hv HE
    go_wp2
    go_ret
    exact ⟨rfl, h0⟩
end Go.Proofs.Ytcokihblicgbpaa

namespace Go.Proofs.Ytcokihblicgbpaa
open Go.RowKit

set_option maxHeartbeats 2000000 in
set_option maxRecDepth 1000000 in
theorem r6kind (F : Nat → Prop) (rb : Nat) (m : List UInt8) (st : Option (Nat × Nat)) (t : Tr) (kv : Value) (w : World) (hm : m.length ≤ 140737488351232) (h : RI w rb m st) (hT : TL F w kv t.kids) (hF : ∀ g, F g → g < w.heap.size) (htx : TxOk t) (hnd : nodes t ≤ 8192) :
    Calls Try.prog 61 #[.pointer (some ⟨rb, 0, none⟩), trv t kv] w fun e w' => ∃ x, e = .returned (.string (str x)) ∧ RQ rb m (orR st (readR m t)) w w' ∧ (st = none → ∀ y, readR m t = .ok y → x = y) := by
  obtain ⟨ka, kc, rfl⟩ := hT.shape
  have hb : Below w.heap.size w (w.alloc (.cells #[.int .i64 (t.kind : Int), .int .i64 (t.place : Int), .string (str t.text), .slice ka t.kids.length kc] 43)) := (Below.refl _ w).alloc (Nat.le_refl _) _
  have hN := box4_cells w t (.slice ka t.kids.length kc)
  have hz : w.heap.size < (w.alloc (.cells #[.int .i64 (t.kind : Int), .int .i64 (t.place : Int), .string (str t.text), .slice ka t.kids.length kc] 43)).heap.size := by simp
  have h0 := RQ.of h hb
  obtain ⟨r0, r1, r2, _, _⟩ := h0.1.cells
  have hlt := h.lt
  cases st with
  | some e0 =>
    have hne : (((e0.1 : Nat) : Int) != 0) = true := by have := h.2 e0 rfl; rw [bne_iff_ne]; omega
    simp only [Option.getD_some] at r1 r2
    unfold trv
    go_enter Try.func61, Try.ntmps61
    go_wp2
    go_ret
    exact ⟨[], rfl, h0, fun e => by cases e⟩
  | none =>
    simp only [Option.getD_none] at r1 r2
    have hR : ∀ u, Below (w.alloc (.cells #[.int .i64 (t.kind : Int), .int .i64 (t.place : Int), .string (str t.text), .slice ka t.kids.length kc] 43)).heap.size (w.alloc (.cells #[.int .i64 (t.kind : Int), .int .i64 (t.place : Int), .string (str t.text), .slice ka t.kids.length kc] 43)) u → Calls Try.prog 81 #[.agg #[.int .i64 (t.kind : Int), .int .i64 (t.place : Int), .string (str t.text), .slice ka t.kids.length kc], .string (str m)] u (ReadE (readR m t) u) := fun u hu => refRead m hm t _ F u ((hT.below hb hF).below hu (fun g hg => Nat.lt_trans (hF g hg) hz)) (fun g hg => Nat.lt_of_lt_of_le (Nat.lt_trans (hF g hg) hz) hu.size) htx hnd
    have hSf : ∀ u, Below (w.alloc (.cells #[.int .i64 (t.kind : Int), .int .i64 (t.place : Int), .string (str t.text), .slice ka t.kids.length kc] 43)).heap.size (w.alloc (.cells #[.int .i64 (t.kind : Int), .int .i64 (t.place : Int), .string (str t.text), .slice ka t.kids.length kc] 43)) u → u.cell? ⟨w.heap.size, 0, none⟩ = some (.int .i64 (t.kind : Int)) ∧ u.cell? ⟨w.heap.size, 1, none⟩ = some (.int .i64 (t.place : Int)) ∧ u.cell? ⟨w.heap.size, 2, none⟩ = some (.string (str t.text)) ∧ u.cell? ⟨w.heap.size, 3, none⟩ = some (.slice ka t.kids.length kc) ∧ u.cell? ⟨rb, 0, none⟩ = some (.string (str m)) := fun u hu => by
      obtain ⟨c0, c1, c2, c3⟩ := tree_cells ((hu.block w.heap.size hz).trans hN)
      obtain ⟨q0, _⟩ := (h0.1.below hu).cells
      exact ⟨c0, c1, c2, c3, q0⟩
    have hnx : ∀ u u', Below (w.alloc (.cells #[.int .i64 (t.kind : Int), .int .i64 (t.place : Int), .string (str t.text), .slice ka t.kids.length kc] 43)).heap.size (w.alloc (.cells #[.int .i64 (t.kind : Int), .int .i64 (t.place : Int), .string (str t.text), .slice ka t.kids.length kc] 43)) u → Below u.heap.size u u' → Below (w.alloc (.cells #[.int .i64 (t.kind : Int), .int .i64 (t.place : Int), .string (str t.text), .slice ka t.kids.length kc] 43)).heap.size (w.alloc (.cells #[.int .i64 (t.kind : Int), .int .i64 (t.place : Int), .string (str t.text), .slice ka t.kids.length kc] 43)) u' := fun u u' hu h => hu.trans (h.mono hu.size)
    have K0 : Below (w.alloc (.cells #[.int .i64 (t.kind : Int), .int .i64 (t.place : Int), .string (str t.text), .slice ka t.kids.length kc] 43)).heap.size (w.alloc (.cells #[.int .i64 (t.kind : Int), .int .i64 (t.place : Int), .string (str t.text), .slice ka t.kids.length kc] 43)) (w.alloc (.cells #[.int .i64 (t.kind : Int), .int .i64 (t.place : Int), .string (str t.text), .slice ka t.kids.length kc] 43)).drew := (Below.refl _ _).drew
    obtain ⟨c0, c1, c2, c3, q0⟩ := hSf _ K0
    have hre := readR_err m t
    unfold trv
    cases hr : readR m t with
    | ok x =>
      rw [hr] at hR
      clear hT hre
      go_enter Try.func61, Try.ntmps61
      go_wp2_with fail
      generalize (w.alloc (.cells #[.int .i64 (t.kind : Int), .int .i64 (t.place : Int), .string (str t.text), .slice ka t.kids.length kc] 43)) = W1 at *
      go_region_held3 (fun u => u.cell? ⟨w.heap.size, 0, none⟩ = some (.int .i64 (t.kind : Int)) ∧ u.cell? ⟨w.heap.size, 1, none⟩ = some (.int .i64 (t.place : Int)) ∧ u.cell? ⟨w.heap.size, 2, none⟩ = some (.string (str t.text)) ∧ u.cell? ⟨w.heap.size, 3, none⟩ = some (.slice ka t.kids.length kc) ∧ u.cell? ⟨rb, 0, none⟩ = some (.string (str m))) (first | go_keep | exact hSf _ (by assumption)) (first | (go_at_call 81; refine (hR _ (by assumption)).mono ?_; rintro e wa ⟨rfl, ba⟩; have Ga := hnx _ _ (by assumption) ba; obtain ⟨c0, c1, c2, c3, q0⟩ := hSf _ Ga))
      all_goals (
        have hfin := h0.more (by first | exact Ga | exact Ga.drew)
        clear hR hSf hnx
        go_wp2
        go_ret
        exact ⟨x, rfl, by simpa [orR] using hfin, fun _ y hy => by cases hy; rfl⟩)
    | error e0 =>
      obtain ⟨y, b⟩ := e0
      have hy : y ≠ 0 := hre y b hr
      have hyi : (((y : Nat) : Int) != 0) = true := by rw [bne_iff_ne]; omega
      rw [hr] at hR
      have hrf : ∀ u, Below (w.alloc (.cells #[.int .i64 (t.kind : Int), .int .i64 (t.place : Int), .string (str t.text), .slice ka t.kids.length kc] 43)).heap.size (w.alloc (.cells #[.int .i64 (t.kind : Int), .int .i64 (t.place : Int), .string (str t.text), .slice ka t.kids.length kc] 43)) u → Calls Try.prog 45 #[.pointer (some ⟨rb, 0, none⟩), .int .i64 (y : Int), .int .i64 (b : Int)] u fun e w' => e = .returned (.tuple #[]) ∧ RQ rb m (some (y, b)) u w' := fun u hu => r6refuse rb m none y b u (h0.1.below hu) hy
      clear hT hre
      go_enter Try.func61, Try.ntmps61
      go_wp2_with fail
      generalize (w.alloc (.cells #[.int .i64 (t.kind : Int), .int .i64 (t.place : Int), .string (str t.text), .slice ka t.kids.length kc] 43)) = W1 at *
      go_region_held3 (fun u => u.cell? ⟨w.heap.size, 0, none⟩ = some (.int .i64 (t.kind : Int)) ∧ u.cell? ⟨w.heap.size, 1, none⟩ = some (.int .i64 (t.place : Int)) ∧ u.cell? ⟨w.heap.size, 2, none⟩ = some (.string (str t.text)) ∧ u.cell? ⟨w.heap.size, 3, none⟩ = some (.slice ka t.kids.length kc) ∧ u.cell? ⟨rb, 0, none⟩ = some (.string (str m))) (first | go_keep | exact hSf _ (by assumption)) (first | (go_at_call 81; refine (hR _ (by assumption)).mono ?_; rintro e wa ⟨rfl, ba⟩; have Ga := hnx _ _ (by assumption) ba; obtain ⟨c0, c1, c2, c3, q0⟩ := hSf _ Ga))
      all_goals (
        go_wp2_with fail
        refine (hrf _ (by first | exact Ga | exact Ga.drew)).mono ?_
        rintro e wb ⟨rfl, hq⟩
        have hfin := (h0.more (by first | exact Ga | exact Ga.drew)).trans hq
        clear hR hSf hnx hrf
        go_wp2
        go_ret
        exact ⟨[], rfl, hfin, fun _ y hy => by cases hy⟩)
set_option maxHeartbeats 2000000 in
set_option maxRecDepth 1000000 in
theorem r6atoms (F : Nat → Prop) (v : Value) (l : List Tr) (w : World) (h : TL F w v l) (hF : ∀ g, F g → g < w.heap.size) (hl : l.length ≤ 100000) : Calls Try.prog 57 #[v] w (BoolB (l.all (fun k => decide (k.kind = 3))) w) := by
  obtain ⟨a, c, rfl⟩ := h.shape
  have H := hidden h
  clear h
  go_enter Try.func57, Try.ntmps57
  go_wp2
  go_loopg [3] l.length (fun n i wr => ∃ k : Nat, k + n = l.length ∧ i = .int .i64 (k : Int) ∧ Hid (l.all (fun k => decide (k.kind = 3)) = (l.drop k).all (fun k => decide (k.kind = 3))) ∧ Below w.heap.size w wr)
  case atStart => exact ⟨0, by omega, rfl, by rw [hid_iff]; rfl, Below.refl _ _⟩
  case round =>
    obtain ⟨k, hg, rfl, hq, hbr⟩ := hrel
    by_cases hk : k < l.length
    · obtain ⟨g, cap, kv, e1, hgF, hT, q0, q1, q2, q3⟩ := (H.out.below hbr hF).at k hk
      simp only [Value.slice.injEq, true_and] at e1
      obtain ⟨rfl, rfl⟩ := e1
      have hki : (k : Int) < (l.length : Int) := by omega
      have hst : (l.drop k).all (fun k => decide (k.kind = 3)) = (decide (l[k].kind = 3) && (l.drop (k + 1)).all (fun k => decide (k.kind = 3))) := by rw [List.drop_eq_getElem_cons hk, List.all_cons]
      have hA := r6atom l[k] kv wr
      unfold trv at hA
      generalize l[k] = x at *
      clear hT
      cases hd : decide (x.kind = 3)
      · rw [hd] at hst hA
        have HE : Hid (l.all (fun k => decide (k.kind = 3)) = false) := by rw [hid_iff, hq.out, hst]; rfl
        clear hq hst hd
        go_wp2_with fail
        refine hA.mono ?_
        rintro e w1 ⟨rfl, hb1⟩
        have hfin := hbr.trans (hb1.mono hbr.size)
        go_wp2
        go_ret
        exact ⟨by rw [HE.out]; rfl, hfin⟩
      · rw [hd] at hst hA
        have HE : Hid (l.all (fun k => decide (k.kind = 3)) = (l.drop (k + 1)).all (fun k => decide (k.kind = 3))) := by rw [hid_iff, hq.out, hst]; rfl
        clear hq hst hd
        go_wp2_with fail
        refine hA.mono ?_
        rintro e w1 ⟨rfl, hb1⟩
        have hfin := hbr.trans (hb1.mono hbr.size)
        go_wp2
        go_roundg (l.length - (k + 1))
        case measure => omega
        case rel => exact ⟨k + 1, by omega, by go_num, HE, hfin⟩
    · have hki : ¬ (k : Int) < (l.length : Int) := by omega
      have HE : Hid (l.all (fun k => decide (k.kind = 3)) = true) := by rw [hid_iff, hq.out, List.drop_of_length_le (by omega)]; rfl
      clear hq
      go_wp2
      go_ret
      exact ⟨by rw [HE.out]; rfl, hbr⟩
end Go.Proofs.Ytcokihblicgbpaa

namespace Go.Proofs.Ytcokihblicgbpaa
open Go.RowKit

/-- What one of a row is by its cells, what it holds lying in blocks of F. -/
abbrev Cel (α : Type) : Type := (Nat → Prop) → World → α → List Value → Prop
structure CelOk {α : Type} (sz : Nat) (C : Cel α) : Prop where
  frame : ∀ {F G : Nat → Prop} {w w' : World} {x : α} {c : List Value}, (∀ g, F g → G g ∧ w'.heap[g]? = w.heap[g]?) → C F w x c → C G w' x c
  len : ∀ {F : Nat → Prop} {w : World} {x : α} {c : List Value}, C F w x c → c.length = sz
  one : ∀ {F : Nat → Prop} {w : World} {x : α} {c : List Value}, C F w x c → ∀ u ∈ c, u.oneCell' = true
/-- They lie in a row of the call's own; what they hold lies from B on, apart from it. -/
def RowG {α : Type} (C : Cel α) (ty sz B : Nat) (w : World) (v : Value) (xs : List α) : Prop :=
  ∃ ps : List (α × List Value), ps.map (·.1) = xs ∧ w.ownsRow B ty sz v xs.length (ps.flatMap (·.2)) ∧ ∀ p ∈ ps, C (fun g => B ≤ g ∧ g < w.heap.size ∧ some g ≠ v.ownBlock) w p.1 p.2
theorem RowG.nil {α : Type} (C : Cel α) (ty sz B : Nat) (w : World) : RowG C ty sz B w (.slice none 0 0) [] := ⟨[], rfl, World.ownsRow_nil _ _ _ _, by simp⟩
theorem RowG.block {α : Type} {C : Cel α} {ty sz B : Nat} {w : World} {v : Value} {xs : List α} (h : RowG C ty sz B w v xs) {g : Nat} (hg : v.ownBlock = some g) : B ≤ g ∧ g < w.heap.size := by
  obtain ⟨ps, h1, h2, h3⟩ := h
  rcases h2.2 with ⟨rfl, _⟩ | ⟨g', cap, cur, rfl, hb, hgg, _⟩
  · cases hg
  · simp only [Value.ownBlock, Option.some.injEq] at hg
    subst hg
    exact ⟨hb, (Array.getElem?_eq_some_iff.1 hgg).1⟩
theorem RowG.shape {α : Type} {C : Cel α} {ty sz B : Nat} {w : World} {v : Value} {xs : List α} (h : RowG C ty sz B w v xs) : ∃ a c, v = .slice a xs.length c := by
  obtain ⟨ps, h1, h2, h3⟩ := h
  rcases h2.2 with ⟨rfl, hn⟩ | ⟨g, cap, cur, rfl, _⟩
  · exact ⟨none, 0, by rw [hn]⟩
  · exact ⟨_, _, rfl⟩
/-- Whoever turns blocks below B alone leaves it as it is. -/
theorem RowG.kept {α : Type} {C : Cel α} {ty sz B : Nat} (hC : CelOk sz C) {S : Nat → Prop} {w w' : World} {v : Value} {xs : List α} (h : RowG C ty sz B w v xs) (k : Kept S w w') (hS : ∀ b, B ≤ b → ¬ S b) : RowG C ty sz B w' v xs := by
  obtain ⟨ps, h1, h2, h3⟩ := h
  exact ⟨ps, h1, k.own h2 (fun g hg => hS g (RowG.block (C := C) ⟨ps, h1, h2, h3⟩ hg).1), fun p hp => hC.frame (fun g hg => ⟨⟨hg.1, Nat.lt_of_lt_of_le hg.2.1 k.size, hg.2.2⟩, k.block g hg.2.1 (hS g hg.1)⟩) (h3 p hp)⟩
theorem flat_at {α : Type} {sz : Nat} : ∀ (ps : List (α × List Value)), (∀ p ∈ ps, p.2.length = sz) → ∀ (j : Nat) (h : j < ps.length) (i : Nat), i < sz → (ps.flatMap (·.2))[j * sz + i]? = ps[j].2[i]?
  | p :: r, hl, 0, _, i, hi => by
    rw [Nat.zero_mul, Nat.zero_add, List.flatMap_cons, List.getElem?_append_left (by rw [hl p (by simp)]; exact hi)]
    rfl
  | p :: r, hl, j + 1, h, i, hi => by
    have h0 := hl p (by simp)
    have := flat_at r (fun q hq => hl q (by simp [hq])) j (by simpa using h) i hi
    rw [List.flatMap_cons, List.getElem?_append_right (by rw [h0, Nat.succ_mul]; omega), h0, show (j + 1) * sz + i - sz = j * sz + i by rw [Nat.succ_mul]; omega]
    simpa using this
/-- One of the row, as it can be read. -/
theorem RowG.at {α : Type} {C : Cel α} {ty sz B : Nat} (hC : CelOk sz C) {w : World} {v : Value} {xs : List α} (h : RowG C ty sz B w v xs) (j : Nat) (hj : j < xs.length) :
    ∃ g cap c, v = .slice (some ⟨g, 0, none⟩) xs.length cap ∧ xs.length ≤ cap ∧ (B ≤ g ∧ g < w.heap.size) ∧ C (fun g => B ≤ g ∧ g < w.heap.size) w xs[j] c ∧ ∀ i u, c[i]? = some u → w.cell? ⟨g, j * sz + i, none⟩ = some u := by
  obtain ⟨ps, rfl, h2, h3⟩ := h
  rcases h2.2 with ⟨rfl, hn⟩ | ⟨g, cap, cur, rfl, hb, hg, hl, _⟩
  · omega
  · have hjl : j < ps.length := by simpa using hj
    have hlen : ∀ p ∈ ps, p.2.length = sz := fun p hp => hC.len (h3 p hp)
    refine ⟨g, cap, ps[j].2, rfl, hl, ⟨hb, (Array.getElem?_eq_some_iff.1 hg).1⟩, ?_, fun i u hi => ?_⟩
    · rw [List.getElem_map]
      exact hC.frame (fun g' hg' => ⟨⟨hg'.1, hg'.2.1⟩, rfl⟩) (h3 _ (List.getElem_mem hjl))
    · have hil : i < sz := by
        have := (List.getElem?_eq_some_iff.1 hi).1
        rwa [hlen _ (List.getElem_mem hjl)] at this
      have hm : j * sz + i < (ps.map (·.1)).length * sz := by
        have h5 : (j + 1) * sz ≤ ps.length * sz := Nat.mul_le_mul_right sz hjl
        rw [Nat.succ_mul] at h5
        simp only [List.length_map]
        omega
      rw [h2.cellAt _ hm, flat_at ps hlen j hjl i hil]
      exact hi
theorem rowG_more {α : Type} {C : Cel α} {ty sz B : Nat} (hC : CelOk sz C) {w w' : World} {v : Value} {xs : List α} {x : α} {c : List Value} {g cap : Nat} (hT : C (fun g => B ≤ g ∧ g < w.heap.size ∧ some g ≠ v.ownBlock) w x c)
    {ps : List (α × List Value)} (h1 : ps.map (·.1) = xs) (h3 : ∀ p ∈ ps, C (fun g => B ≤ g ∧ g < w.heap.size ∧ some g ≠ v.ownBlock) w p.1 p.2) (q1 : w'.ownsRow B ty sz (.slice (some ⟨g, 0, none⟩) (xs.length + 1) cap) (xs.length + 1) (ps.flatMap (·.2) ++ c)) (q2 : w.grownBy w' v.ownBlock) (q3 : v.ownBlock = some g ∨ g = w.heap.size) :
    RowG C ty sz B w' (.slice (some ⟨g, 0, none⟩) (xs.length + 1) cap) (xs ++ [x]) := by
  refine ⟨ps ++ [(x, c)], by simp [h1], ?_, fun p hp => ?_⟩
  · rw [List.flatMap_append]
    simpa using q1
  · have key : ∀ (y : α) (d : List Value), C (fun g => B ≤ g ∧ g < w.heap.size ∧ some g ≠ v.ownBlock) w y d → C (fun g' => B ≤ g' ∧ g' < w'.heap.size ∧ some g' ≠ (Value.slice (some ⟨g, 0, none⟩) (xs.length + 1) cap).ownBlock) w' y d := fun y d ht => hC.frame (fun g' hg' => by
      refine ⟨⟨hg'.1, Nat.lt_of_lt_of_le hg'.2.1 q2.size, fun e => ?_⟩, q2.block g' hg'.2.1 hg'.2.2⟩
      simp only [Value.ownBlock, Option.some.injEq] at e
      subst e
      rcases q3 with q3 | q3
      · exact hg'.2.2 q3.symm
      · have := hg'.2.1
        omega) ht
    rcases List.mem_append.1 hp with hp | hp
    · exact key _ _ (h3 p hp)
    · rw [List.mem_singleton.1 hp]
      exact key _ _ hT
theorem append_rowG {P : Program} {α : Type} {C : Cel α} {E sz bytes B : Nat} (hC : CelOk sz C) {w : World} {ops : Array Oper} {rest : List Oper} {o : Oper} {a : Act} {Q : Exit → Act → World → Prop} (hgd : o.guard = none) (s x : Operand) (T : TypeId)
    (ho : o.op = .call { callee := .builtin .append, args := #[s, x], argTypes := #[T, T] }) (ht : P.underlying T = some (.slice E)) (hi : (P.info? E).map (fun i => (i.zero.map (fun z => z.cells.size), i.size, i.bytes)) = some (some sz, sz, bytes)) (hsz : 0 < sz)
    (v : Value) (xs : List α) (hs : a.eval s = v) (hI : RowG C E sz B w v xs) (y : α) (c : List Value) (ad : Addr) (cp : Nat) (hx : a.eval x = .slice (some ad) 1 cp)
    (hnews : ∀ j u, c[j]? = some u → w.cell? (ad.add j) = some u) (hT : C (fun g => B ≤ g ∧ g < w.heap.size ∧ some g ≠ v.ownBlock) w y c) (hlen : xs.length + 1 ≤ maxLen) (hby : (xs.length + 1) * bytes ≤ 140737488355328) (hB : B ≤ w.heap.size)
    (h : ∀ g cap w', RowG C E sz B w' (.slice (some ⟨g, 0, none⟩) (xs.length + 1) cap) (xs ++ [y]) → w.grownBy w' v.ownBlock → wpList P ops Q rest (a.put o.dst (.slice (some ⟨g, 0, none⟩) (xs.length + 1) cap)) w') :
    wpList P ops Q (o :: rest) a w := by
  obtain ⟨i, z, hi, hz, h1, h2, h3⟩ := info_z hi
  obtain ⟨ps, p1, p2, p3⟩ := id hI
  exact wpList_append_lies w hgd s x T ho B E i z sz bytes ht hi hz h1 h2 h3 hsz v _ _ hs p2 ad 1 cp c hx (by rw [hC.len hT, Nat.one_mul]) hnews (hC.one hT) (by decide) hlen hby hB w.heap.size rfl (fun g cap w' q1 q2 q3 _ => h g cap w' (rowG_more hC hT p1 p3 q1 q2 q3) q2)
theorem step_rowG {P : Program} {α : Type} {C : Cel α} {E sz bytes B : Nat} (hC : CelOk sz C) {w : World} {ops : Array Oper} {o : Oper} {a : Act} {K : Act → World → Prop} {Q : Exit → Act → World → Prop} {Z : Prop} (hgd : o.guard = none) (s x : Operand) (T : TypeId)
    (ho : o.op = .call { callee := .builtin .append, args := #[s, x], argTypes := #[T, T] }) (ht : P.underlying T = some (.slice E)) (hi : (P.info? E).map (fun i => (i.zero.map (fun z => z.cells.size), i.size, i.bytes)) = some (some sz, sz, bytes)) (hsz : 0 < sz)
    (v : Value) (xs : List α) (hs : a.eval s = v) (hI : RowG C E sz B w v xs) (y : α) (c : List Value) (ad : Addr) (cp : Nat) (hx : a.eval x = .slice (some ad) 1 cp)
    (hnews : ∀ j u, c[j]? = some u → w.cell? (ad.add j) = some u) (hT : C (fun g => B ≤ g ∧ g < w.heap.size ∧ some g ≠ v.ownBlock) w y c) (hlen : xs.length + 1 ≤ maxLen) (hby : (xs.length + 1) * bytes ≤ 140737488355328) (hB : B ≤ w.heap.size)
    (h : ∀ g cap w', RowG C E sz B w' (.slice (some ⟨g, 0, none⟩) (xs.length + 1) cap) (xs ++ [y]) → w.grownBy w' v.ownBlock → K (a.put o.dst (.slice (some ⟨g, 0, none⟩) (xs.length + 1) cap)) w') :
    if Region.wanted o (yielded ops a.tmps) = true then Oper.wp P o a w K Q else Z := by
  obtain ⟨i, z, hi, hz, h1, h2, h3⟩ := info_z hi
  obtain ⟨ps, p1, p2, p3⟩ := id hI
  exact step_append_lies w hgd s x T ho B E i z sz bytes ht hi hz h1 h2 h3 hsz v _ _ hs p2 ad 1 cp c hx (by rw [hC.len hT, Nat.one_mul]) hnews (hC.one hT) (by decide) hlen hby hB w.heap.size rfl (fun g cap w' q1 q2 q3 _ => h g cap w' (rowG_more hC hT p1 p3 q1 q2 q3) q2)
end Go.Proofs.Ytcokihblicgbpaa

namespace Go.Proofs.Ytcokihblicgbpaa
open Go.RowKit

/-- Blocks that came meanwhile. -/
def Fq (w w' : World) (g : Nat) : Prop := w.heap.size ≤ g ∧ g < w'.heap.size
theorem seq_snoc {α : Type} : ∀ (l : List (PR α)) (acc : List α) (x : α), seqP l = .ok acc → seqP (l ++ [.ok x]) = .ok (acc ++ [x])
  | [], acc, x, h => by
    simp only [seqP, Except.ok.injEq] at h
    subst h
    rfl
  | .error e :: r, acc, x, h => by simp [seqP] at h
  | .ok y :: r, acc, x, h => by
    rw [seqP] at h
    cases hr : seqP r with
    | error e => rw [hr] at h; cases h
    | ok l =>
      rw [hr] at h
      simp only [Except.ok.injEq] at h
      subst h
      rw [List.cons_append, seqP, seq_snoc r l x hr]
      rfl
theorem seq_bad {α : Type} : ∀ (l r : List (PR α)) (acc : List α) (e : Nat × Nat), seqP l = .ok acc → seqP (l ++ .error e :: r) = .error e
  | [], r, acc, e, h => rfl
  | .error e0 :: l, r, acc, e, h => by simp [seqP] at h
  | .ok y :: l, r, acc, e, h => by
    rw [seqP] at h
    cases hr : seqP l with
    | error e => rw [hr] at h; cases h
    | ok l0 => rw [List.cons_append, seqP, seq_bad l r l0 e hr]
theorem seq_ok_at {α β : Type} (f : β → PR α) (l : List β) (k : Nat) (hk : k < l.length) (acc : List α) (x : α) (h : seqP ((l.take k).map f) = .ok acc) (hx : f l[k] = .ok x) : seqP ((l.take (k + 1)).map f) = .ok (acc ++ [x]) := by
  rw [List.take_succ_eq_append_getElem hk, List.map_append, List.map_cons, List.map_nil, hx]
  exact seq_snoc _ _ _ h
theorem seq_bad_at {α β : Type} (f : β → PR α) (l : List β) (k : Nat) (hk : k < l.length) (acc : List α) (e : Nat × Nat) (h : seqP ((l.take k).map f) = .ok acc) (hx : f l[k] = .error e) : seqP (l.map f) = .error e := by
  have h1 : l.map f = (l.take k).map f ++ .error e :: (l.drop (k + 1)).map f := by
    rw [← hx, ← List.map_cons, ← List.map_append, List.getElem_cons_drop, List.take_append_drop]
  rw [h1]
  exact seq_bad _ _ _ _ h
theorem seq_all {α β : Type} (f : β → PR α) (l : List β) (k : Nat) (hk : l.length ≤ k) (acc : List α) (h : seqP ((l.take k).map f) = .ok acc) : seqP (l.map f) = .ok acc := by
  rwa [List.take_of_length_le hk] at h
theorem orR_bind {α β γ : Type} (a : PR α) (b : PR β) (f : α → β → γ) : orR (orR none a) b = orR none (a.bind (fun x => b.bind (fun y => .ok (f x y)))) := by
  cases a <;> cases b <;> rfl
theorem kid_ok {t : Tr} (h : TxOk t) {i : Nat} (hi : i < t.kids.length) : TxOk (kid t i) := ((TxOk_iff t).1 h).2 _ (kid_mem hi)
theorem kid_nodes {t : Tr} {i : Nat} (hi : i < t.kids.length) : nodes (kid t i) < nodes t := by
  have h1 := mem_nodes (kid_mem hi)
  obtain ⟨k, p, x, l, e⟩ := t
  rw [nodes]
  simp only at h1
  omega
theorem kids_lt6 (t : Tr) : t.kids.length < nodes t := by
  have h1 := sum_nodes t.kids
  obtain ⟨k, p, x, l, e⟩ := t
  rw [nodes]
  simp only at h1 ⊢
  omega
/-- A parameter. -/
def cPar : Cel (List UInt8 × List UInt8) := fun _ _ x c => c = [.string (str x.1), .string (str x.2)]
theorem cPar_ok : CelOk 2 cPar := ⟨fun _ h => h, fun h => by rw [h]; rfl, fun h u hu => by
  rw [h] at hu
  simp only [List.mem_cons, List.not_mem_nil, or_false] at hu
  rcases hu with rfl | rfl <;> rfl⟩
theorem infoPar : (Try.prog.info? 40).map (fun i => (i.zero.map (fun z => z.cells.size), i.size, i.bytes)) = some (some 2, 2, 32) := by kernel_rfl
theorem par_row {B : Nat} {w : World} {v : Value} {xs : List (List UInt8 × List UInt8)} (h : RowG cPar 40 2 B w v xs) : TxR2 (fun g => B ≤ g ∧ g < w.heap.size) w v xs := by
  obtain ⟨a, c, rfl⟩ := h.shape
  rcases Nat.eq_zero_or_pos xs.length with h0 | hp
  · have := List.eq_nil_of_length_eq_zero h0
    subst this
    exact .inl ⟨_, _, rfl, rfl⟩
  · obtain ⟨g, cap, c0, e1, _, hg, _, _⟩ := h.at cPar_ok 0 hp
    simp only [Value.slice.injEq, true_and] at e1
    obtain ⟨rfl, rfl⟩ := e1
    refine .inr ⟨g, 0, c, rfl, hg, fun j x hj => ?_⟩
    obtain ⟨hjl, rfl⟩ := List.getElem?_eq_some_iff.1 hj
    obtain ⟨g2, cap2, c2, e2, _, _, hc, hcell⟩ := h.at cPar_ok j hjl
    simp only [Value.slice.injEq, Option.some.injEq, Addr.mk.injEq, and_true, true_and] at e2
    obtain ⟨rfl, rfl⟩ := e2
    unfold cPar at hc
    subst hc
    rw [Nat.zero_add, Nat.zero_add]
    exact ⟨hcell 0 _ rfl, hcell 1 _ rfl⟩
/-- What a loop over trees is at: all read so far, or something refused. -/
def Run {α β : Type} (st : Option (Nat × Nat)) (f : β → PR α) (l : List β) (k : Nat) (acc : List α) (sk : Option (Nat × Nat)) : Prop :=
  (sk = none ∧ st = none ∧ seqP ((l.take k).map f) = .ok acc) ∨ ∃ e, sk = some e ∧ orR st (seqP (l.map f)) = some e
theorem Run.start {α β : Type} (st : Option (Nat × Nat)) (f : β → PR α) (l : List β) : Run st f l 0 [] st := by
  cases st with
  | none => exact .inl ⟨rfl, rfl, rfl⟩
  | some e => exact .inr ⟨e, rfl, rfl⟩
theorem Run.next {α β : Type} {st : Option (Nat × Nat)} {f : β → PR α} {l : List β} {k : Nat} {acc : List α} (h : Run st f l k acc none) (hk : k < l.length) (x : α) (hx : ∀ y, f l[k] = .ok y → x = y) : Run st f l (k + 1) (acc ++ [x]) (orR none (f l[k])) := by
  rcases h with ⟨_, h2, h3⟩ | ⟨e, h, _⟩
  · subst h2
    cases hf : f l[k] with
    | ok y =>
      rw [hx y hf]
      exact .inl ⟨rfl, rfl, seq_ok_at f l k hk acc y h3 hf⟩
    | error e => exact .inr ⟨e, rfl, by rw [seq_bad_at f l k hk acc e h3 hf]; rfl⟩
  · cases h
theorem Run.bad {α β : Type} {st : Option (Nat × Nat)} {f : β → PR α} {l : List β} {k : Nat} {acc : List α} (h : Run st f l k acc none) (hk : k < l.length) (e : Nat × Nat) (hx : f l[k] = .error e) : orR st (seqP (l.map f)) = some e := by
  rcases h with ⟨_, h2, h3⟩ | ⟨e, h, _⟩
  · subst h2
    rw [seq_bad_at f l k hk acc e h3 hx]
    rfl
  · cases h
/-- At its end. -/
theorem Run.fin {α β : Type} {st sk : Option (Nat × Nat)} {f : β → PR α} {l : List β} {k : Nat} {acc : List α} (h : Run st f l k acc sk) (hk : l.length ≤ k ∨ sk ≠ none) : sk = orR st (seqP (l.map f)) ∧ (st = none → ∀ ys, seqP (l.map f) = .ok ys → acc = ys) := by
  rcases h with ⟨h1, h2, h3⟩ | ⟨e, h1, h2⟩
  · rcases hk with hk | hk
    · have h4 := seq_all f l k hk acc h3
      subst h1
      subst h2
      rw [h4]
      exact ⟨rfl, fun _ ys hy => by cases hy; rfl⟩
    · exact absurd h1 hk
  · refine ⟨by rw [h1, h2], fun hs ys hy => ?_⟩
    rw [hs, hy] at h2
    cases h2
theorem RQ.grown {rb : Nat} {m : List UInt8} {st : Option (Nat × Nat)} {a b c : World} {row : Option Nat} (h : RQ rb m st a b) (hg : b.grownBy c row) (hr : ∀ k, row = some k → a.heap.size ≤ k) (hrb : rb < a.heap.size) : RQ rb m st a c :=
  ⟨⟨(hg.block rb (Nat.lt_of_lt_of_le hrb h.2.size) (fun e => by have := hr rb e.symm; omega)).trans h.1.1, h.1.2⟩, h.2.grown hg (fun k e hk => by have := hr k e; omega)⟩
theorem param_or {m : List UInt8} {p : Tr} (h1 : p.kind = 1) (h2 : p.kids.length = 2) (h3 : (kid p 0).kind = 3) : orR (orR none (nameP (kid p 0))) (readR m (kid p 1)) = orR none (paramP m p) ∧ ∀ x, (orR none (nameP (kid p 0)) = none → ∀ y, readR m (kid p 1) = .ok y → x = y) → ∀ z, paramP m p = .ok z → ((kid p 0).text, x) = z := by
  have hp : paramP m p = (nameP (kid p 0)).bind (fun n => (readR m (kid p 1)).bind (fun y => .ok (n, y))) := by rw [paramP, if_pos ⟨h1, h2, h3⟩]
  refine ⟨by rw [hp]; exact orR_bind _ _ _, fun x hx z hz => ?_⟩
  rw [hp] at hz
  unfold nameP at hz hx
  by_cases hc : valueR (kid p 0).text = true ∧ isKey (kid p 0).text = false
  · rw [if_pos hc] at hz hx
    cases hr : readR m (kid p 1) with
    | error e => rw [hr] at hz; cases hz
    | ok y =>
      rw [hr] at hz
      cases hz
      rw [hx rfl y hr]
  · rw [if_neg hc] at hz
    cases hz
end Go.Proofs.Ytcokihblicgbpaa
