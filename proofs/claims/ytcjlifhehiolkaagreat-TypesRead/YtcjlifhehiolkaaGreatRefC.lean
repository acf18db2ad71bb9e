/-
  The document's own Read: words, and what is no type.
  And: The document's own Read: arrays, functions; any tree. The document's own Read: functions; any tree.
-/
import Derived.Deep.LoopGhost
import Derived.Test.YtcjlifhehiolkaaGreatTypesReadWalk
import Derived.Test.YtcjlifhehiolkaaGreatRefB
import Derived.BigQuiet
namespace Go.Proofs.YtcjlifhehiolkaaGreat
open Go.RowKit

theorem readE_ok' {r : RR} {x : List UInt8} {s : ByteArray} {w w' : World} (h : r = .ok x) (hs : s = str x) (hb : Below w.heap.size w w') : ReadE r w (.returned (.tuple #[.string s, .int .i64 0, .int .i64 0])) w' := by
  subst hs
  exact readE_ok h hb
def hasDot (l : List UInt8) : Bool := !(l.all notDot)
theorem ahead_all {l : List UInt8} (h : hasDot l = false) : aheadR l = l := by
  rw [hasDot, Bool.not_eq_false'] at h
  have := List.takeWhile_append_of_pos (p := notDot) (l₁ := l) (l₂ := []) (List.all_eq_true.1 h)
  rw [List.append_nil] at this
  rw [aheadR, this]
  simp
theorem nodot_named {l : List UInt8} (h : hasDot l = false) : namedR l = false := by
  rw [namedR, behindR, ahead_all h, List.drop_eq_nil_of_le (by omega), bigR_nil, Bool.and_false]
theorem dot_big {l : List UInt8} (h : hasDot l = true) : bigR l = false := by
  rw [Bool.eq_false_iff]
  intro hb
  rw [hasDot, Bool.not_eq_true', Bool.eq_false_iff] at h
  exact h (List.all_eq_true.2 (fun c hc => letter_dot (big_all hb c hc)))
theorem dot_num {l : List UInt8} (h : hasDot l = true) : l ≠ numL ∧ l ≠ bytesL := by
  refine ⟨fun e => ?_, fun e => ?_⟩ <;> subst e <;> revert h <;> decide
theorem form_atom {t : Tr} (h : t.kind = 3) : formR t = 1 := by rw [formR, if_pos h]
theorem read_atom_eq (m : List UInt8) {t : Tr} (h : t.kind = 3) : readR m t = match lim (atomR t.text m) with | .error y => .error (y, t.place) | .ok x => .ok x := by
  have hf := form_atom h
  rw [readR_eq, partsT_no (by omega) (by omega)]
  simp only [List.map_nil, seqE, fin, madeR, if_pos hf]
  cases lim (atomR t.text m) <;> rfl
theorem atom_word (m : List UInt8) {t : Tr} (h : t.kind = 3) (hw : wordOk t.text = true) : readR m t = .ok t.text := by
  have hp := wordOk_pos hw
  have hl : t.text.length ≤ 200 := by
    simp only [wordOk, Bool.or_eq_true, decide_eq_true_eq] at hw
    rcases hw with (hn | hn) | hn
    · obtain ⟨a, b, e, ha, hb, _, _⟩ := named_split hn
      have := value_len ha
      have := big_len hb
      rw [e]; simp; omega
    · rw [hn]; decide
    · rw [hn]; decide
  rw [read_atom_eq m h, atomR, if_pos hw, lim, if_neg (by intro e; rw [e] at hp; simp at hp), if_neg (by omega)]
theorem atom_big (m : List UInt8) {t : Tr} (h : t.kind = 3) (hw : wordOk t.text = false) (hb : bigR t.text = true) : readR m t = if (m ++ 46 :: t.text).length ≤ 200 then .ok (m ++ 46 :: t.text) else .error (3, t.place) := by
  rw [read_atom_eq m h, atomR, if_neg (by rw [hw]; decide), if_pos hb, lim, if_neg (by simp)]
  by_cases h2 : (m ++ 46 :: t.text).length ≤ 200
  · rw [if_neg (by omega), if_pos h2]
  · rw [if_pos (by omega), if_neg h2]
theorem atom_no (m : List UInt8) {t : Tr} (h : t.kind = 3) (hw : wordOk t.text = false) (hb : bigR t.text = false) : readR m t = .error (12, t.place) := by
  rw [read_atom_eq m h, atomR, if_neg (by rw [hw]; decide), if_neg (by rw [hb]; decide), lim, if_pos rfl]
theorem read_none_eq (m : List UInt8) {t : Tr} (h : formR t = 0) : readR m t = .error (12, t.place) := by
  rw [readR_eq, partsT_no (by omega) (by omega)]
  simp only [List.map_nil, seqE, fin, madeR, h]
  rfl
theorem nodot_word {l : List UInt8} (h : hasDot l = false) (h1 : l ≠ numL) (h2 : l ≠ bytesL) : wordOk l = false := by
  simp [wordOk, nodot_named h, h1, h2]
theorem dot_word {l : List UInt8} (h : hasDot l = true) : wordOk l = (valueR (aheadR l) && bigR (behindR l)) := by
  obtain ⟨h1, h2⟩ := dot_num h
  simp [wordOk, h1, h2, namedR]

/-- Ahead of the first point, and behind it. -/
def DotE (l : List UInt8) (w : World) (e : Ending) (w' : World) : Prop :=
  e = .returned (if hasDot l = true then .tuple #[.string (str (aheadR l)), .string (str (behindR l)), .bool true] else .tuple #[.string (str l), .string (str []), .bool false]) ∧ ∃ n, w' = w.drewN n
set_option maxHeartbeats 1000000 in
set_option maxRecDepth 1000000 in
theorem refDotted (s : ByteArray) (w : World) (hs : s.size ≤ 8192) : Calls Tryz.prog 61 #[.string s] w (DotE s.data.toList w) := by
  go_enter Tryz.func61, Tryz.ntmps61
  go_wp2
  go_loopg [5] s.size (fun g i wr => ∃ (k : Nat), g + k = s.size ∧ i = .int .i64 (k : Int) ∧ Hid ((s.data.toList.take k).all notDot = true) ∧ wr = w)
  case atStart => exact ⟨0, by omega, rfl, rfl, rfl⟩
  case round =>
    obtain ⟨k, hg, rfl, hall, rfl⟩ := hrel
    by_cases hks : k < s.size
    · have hki : (k : Int) < (s.size : Int) := by omega
      have hdk := drop_at s k hks
      by_cases c46 : s[k].toNat = 46
      · have c46' : ((s[k].toNat : Int) == 46) = true := by rw [beq_iff_eq]; omega
        have hah := ahead_at hall.out (r := s.data.toList.drop (k + 1)) (by rw [hdk, show s[k] = 46 from UInt8.toNat_inj.1 c46])
        have hlt : (s.data.toList.take k).length = k := by rw [List.length_take, size_len]; omega
        have HD : Hid (hasDot s.data.toList = true) := by
          rw [hid_iff, hasDot, Bool.not_eq_true', Bool.eq_false_iff]
          intro h
          have := List.all_eq_true.1 h s[k] (by
            have h2 : s[k] ∈ s.data.toList.drop k := by rw [hdk]; simp
            exact List.mem_of_mem_drop h2)
          simp [notDot, c46] at this
        have HX : Hid (s.extract 0 k = str (aheadR s.data.toList)) := by rw [hid_iff, hah, str_take]
        have HY : Hid (s.extract (k + 1) s.size = str (behindR s.data.toList)) := by rw [hid_iff, behindR, hah, hlt, str_drop]
        have q1 : (k : Int) + 1 ≤ (s.size : Int) := by omega
        have q2 : (k : Int) ≤ (s.size : Int) := by omega
        have q3 : IntKind.i64.wrap ((k : Int) + 1) = (k : Int) + 1 := by rw [IntKind.wrap_i64]; omega
        clear hall hdk hah hlt c46
        go_wp2
        go_region
        go_wp2
        go_ret3
        exact ⟨by rw [if_pos HD.out, ← HX.out, ← HY.out]; rfl, _, rfl⟩
      · have c46' : ((s[k].toNat : Int) == 46) = false := by rw [beq_eq_false_iff_ne]; omega
        have HA' : Hid ((s.data.toList.take (k + 1)).all notDot = true) := dots_next hall.out hdk c46
        clear hall hdk c46
        go_wp2
        go_roundg (s.size - (k + 1))
        case measure => omega
        case rel => exact ⟨k + 1, by omega, by go_num, HA', rfl⟩
    · have hki : ¬ (k : Int) < (s.size : Int) := by omega
      have HD : Hid (hasDot s.data.toList = false) := by
        have := hall.out
        rw [List.take_of_length_le (by rw [size_len]; omega)] at this
        rw [hid_iff, hasDot, this]; rfl
      have HS : Hid (str s.data.toList = s) := str_toList s
      clear hall
      go_wp2
      go_ret3
      exact ⟨by rw [if_neg (by rw [HD.out]; decide), HS.out]; rfl, 0, rfl⟩

set_option maxHeartbeats 2000000 in
set_option maxRecDepth 1000000 in
theorem refRead_atom (m : List UInt8) (hm : m.length ≤ 140737488351232) (t : Tr) (kv : Value) (w : World) (h3 : t.kind = 3) (hx : t.text.length ≤ 8192) : Calls Tryz.prog 37 #[trv t kv, .string (str m)] w (ReadE (readR m t) w) := by
  have hdt := fun u => refDotted (str t.text) u (by rw [str_size]; exact hx)
  unfold DotE at hdt
  rw [str_data] at hdt
  unfold trv
  have k3 : ((t.kind : Int) == 3) = true := by rw [beq_iff_eq]; omega
  have hms : (str m).size = m.length := rfl
  have hxs : (str t.text).size = t.text.length := rfl
  have hbg := fun u => refBig (str t.text) u (by rw [str_size]; omega)
  rw [str_data] at hbg
  cases hD : hasDot t.text with
  | false =>
    simp only [hD, Bool.false_eq_true, if_false] at hdt
    by_cases h1 : t.text = numL
    · have HR : Hid (readR m t = .ok t.text) := atom_word m h3 (by rw [h1]; decide)
      have e1 : ((str t.text).toList == [110, 117, 109]) = true := by rw [beq_iff_eq, Lib.toList_data, str_data, h1]; rfl
      clear h1 hD hbg h3
      generalize t.text = x at *
      go_enter Tryz.func37, Tryz.ntmps37
      go_wp2_with fail
      refine (hdt _).mono ?_
      rintro e w1 ⟨rfl, n, rfl⟩
      go_wp2
      go_ret3
      exact readE_ok HR.out (below_drewN ((Below.refl _ w).alloc (Nat.le_refl _) _) n)
    · have e1 : ((str t.text).toList == [110, 117, 109]) = false := by rw [beq_eq_false_iff_ne, Lib.toList_data, str_data]; exact h1
      by_cases h2 : t.text = bytesL
      · have HR : Hid (readR m t = .ok t.text) := atom_word m h3 (by rw [h2]; decide)
        have e2 : ((str t.text).toList == [98, 121, 116, 101, 115]) = true := by rw [beq_iff_eq, Lib.toList_data, str_data, h2]; rfl
        clear h1 h2 hD hbg h3
        generalize t.text = x at *
        go_enter Tryz.func37, Tryz.ntmps37
        go_wp2_with fail
        refine (hdt _).mono ?_
        rintro e w1 ⟨rfl, n, rfl⟩
        go_wp2
        go_ret3
        exact readE_ok HR.out (below_drewN ((Below.refl _ w).alloc (Nat.le_refl _) _) n)
      · have e2 : ((str t.text).toList == [98, 121, 116, 101, 115]) = false := by rw [beq_eq_false_iff_ne, Lib.toList_data, str_data]; exact h2
        have hw := nodot_word hD h1 h2
        cases hb : bigR t.text with
        | true =>
          have hsh := fun u => refShort (m ++ 46 :: t.text) (t.place : Int) u
          have HR := hidden (atom_big m h3 hw hb)
          have HE : Hid (str m ++ ⟨#[46]⟩ ++ str t.text = str (m ++ 46 :: t.text)) := by
            rw [hid_iff, show (⟨#[46]⟩ : ByteArray) = str [46] from rfl, str_append, str_append]; simp
          have hs2 : (str m ++ ⟨#[46]⟩).size = m.length + 1 := by rw [show (⟨#[46]⟩ : ByteArray) = str [46] from rfl, str_append, str_size]; simp
          unfold ShortE at hsh
          rw [hb] at hbg
          clear h1 h2 hD h3 hw hb
          generalize t.text = x at *
          go_enter Tryz.func37, Tryz.ntmps37
          go_wp2_with fail
          refine (hdt _).mono ?_
          rintro e w1 ⟨rfl, n, rfl⟩
          go_wp2_with fail
          refine (hbg _).mono ?_
          rintro e w2 ⟨rfl, rfl⟩
          rw [← HE.out] at hsh
          go_wp2_with fail
          refine (hsh _).mono ?_
          rintro e w2 ⟨he, rfl⟩
          by_cases hl : (m ++ 46 :: x).length ≤ 200
          · rw [if_pos hl] at he
            have HR' : Hid (readR m t = .ok (m ++ 46 :: x)) := by rw [hid_iff, HR.out, if_pos hl]
            subst he
            clear HR hl
            go_wp2
            go_ret3
            exact readE_ok' HR'.out HE.out (below_drewN ((Below.refl _ w).alloc (Nat.le_refl _) _) n)
          · rw [if_neg hl] at he
            have HR' : Hid (readR m t = .error (3, t.place)) := by rw [hid_iff, HR.out, if_neg hl]
            subst he
            clear HR hl HE
            go_wp2
            go_ret3
            exact readE_no HR'.out rfl rfl rfl (below_drewN ((Below.refl _ w).alloc (Nat.le_refl _) _) n)
        | false =>
          have HR := hidden (atom_no m h3 hw hb)
          rw [hb] at hbg
          clear h1 h2 hD h3 hw hb
          generalize t.text = x at *
          go_enter Tryz.func37, Tryz.ntmps37
          go_wp2_with fail
          refine (hdt _).mono ?_
          rintro e w1 ⟨rfl, n, rfl⟩
          go_wp2_with fail
          refine (hbg _).mono ?_
          rintro e w2 ⟨rfl, rfl⟩
          go_wp2
          go_region
          go_wp2
          go_ret3
          exact readE_no HR.out rfl rfl rfl (below_drewN ((Below.refl _ w).alloc (Nat.le_refl _) _) n).drew
  | true =>
    simp only [hD, if_true] at hdt
    obtain ⟨h1, h2⟩ := dot_num hD
    have e1 : ((str t.text).toList == [110, 117, 109]) = false := by rw [beq_eq_false_iff_ne, Lib.toList_data, str_data]; exact h1
    have e2 : ((str t.text).toList == [98, 121, 116, 101, 115]) = false := by rw [beq_eq_false_iff_ne, Lib.toList_data, str_data]; exact h2
    have hw := dot_word hD
    have hb := dot_big hD
    have hla : (aheadR t.text).length ≤ t.text.length := (List.takeWhile_prefix _).length_le
    have hlb : (behindR t.text).length ≤ t.text.length := by rw [behindR, List.length_drop]; omega
    have hva := fun u => refValue (str (aheadR t.text)) u (by rw [str_size]; omega)
    have hbb := fun u => refBig (str (behindR t.text)) u (by rw [str_size]; omega)
    rw [str_data] at hva hbb
    clear hbg
    cases hv : valueR (aheadR t.text) with
    | false =>
      rw [hv, Bool.false_and] at hw
      have HR := hidden (atom_no m h3 hw hb)
      rw [hv] at hva
      clear h1 h2 hD h3 hw hb hv hbb
      generalize aheadR t.text = xa at *
      generalize behindR t.text = xb at *
      generalize t.text = x at *
      go_enter Tryz.func37, Tryz.ntmps37
      go_wp2_with fail
      refine (hdt _).mono ?_
      rintro e w1 ⟨rfl, n, rfl⟩
      go_wp2_with fail
      refine (hva _).mono ?_
      rintro e w2 ⟨rfl, rfl⟩
      go_wp2
      go_region
      go_wp2
      go_ret3
      exact readE_no HR.out rfl rfl rfl (below_drewN ((Below.refl _ w).alloc (Nat.le_refl _) _) n).drew
    | true =>
      cases hv2 : bigR (behindR t.text) with
      | false =>
        rw [hv, hv2] at hw
        have HR := hidden (atom_no m h3 hw hb)
        rw [hv] at hva
        rw [hv2] at hbb
        clear h1 h2 hD h3 hw hb hv hv2
        generalize aheadR t.text = xa at *
        generalize behindR t.text = xb at *
        generalize t.text = x at *
        go_enter Tryz.func37, Tryz.ntmps37
        go_wp2_with fail
        refine (hdt _).mono ?_
        rintro e w1 ⟨rfl, n, rfl⟩
        go_wp2_with fail
        refine (hva _).mono ?_
        rintro e w2 ⟨rfl, rfl⟩
        go_wp2_with fail
        refine (hbb _).mono ?_
        rintro e w2 ⟨rfl, rfl⟩
        go_wp2
        go_region
        go_wp2
        go_ret3
        exact readE_no HR.out rfl rfl rfl (below_drewN ((Below.refl _ w).alloc (Nat.le_refl _) _) n).drew
      | true =>
        rw [hv, hv2] at hw
        have HR := hidden (atom_word m h3 hw)
        rw [hv] at hva
        rw [hv2] at hbb
        clear h1 h2 hD h3 hw hb hv hv2
        generalize aheadR t.text = xa at *
        generalize behindR t.text = xb at *
        generalize t.text = x at *
        go_enter Tryz.func37, Tryz.ntmps37
        go_wp2_with fail
        refine (hdt _).mono ?_
        rintro e w1 ⟨rfl, n, rfl⟩
        go_wp2_with fail
        refine (hva _).mono ?_
        rintro e w2 ⟨rfl, rfl⟩
        go_wp2_with fail
        refine (hbb _).mono ?_
        rintro e w2 ⟨rfl, rfl⟩
        go_wp2
        go_ret3
        exact readE_ok HR.out (below_drewN ((Below.refl _ w).alloc (Nat.le_refl _) _) n)

theorem form_kids {t : Tr} (h1 : t.kind = 1) : formR t = if t.kids.length = 2 ∧ isWordR (kid t 0) arrayL = true then 2 else if t.kids.length = 3 ∧ isWordR (kid t 0) fnL = true ∧ (kid t 1).kind = 1 then 3 else 0 := by
  rw [formR, if_neg (by omega), if_neg (by omega)]
set_option maxHeartbeats 2000000 in
set_option maxRecDepth 1000000 in
theorem refRead_none (m : List UInt8) (t : Tr) (kv : Value) (F : Nat → Prop) (w : World) (hT : TL F w kv t.kids) (hF : ∀ g, F g → g < w.heap.size) (h3 : t.kind ≠ 3) (hf : formR t = 0) : Calls Tryz.prog 37 #[trv t kv, .string (str m)] w (ReadE (readR m t) w) := by
  have HR := hidden (read_none_eq m hf)
  obtain ⟨ka, kc, rfl⟩ := hT.shape
  unfold trv
  have k3 : ((t.kind : Int) == 3) = false := by rw [beq_eq_false_iff_ne]; omega
  by_cases h1 : t.kind = 1
  · have k1 : ((t.kind : Int) != 1) = false := by rw [bne_eq_false_iff_eq]; omega
    rw [form_kids h1] at hf
    by_cases h0 : t.kids.length = 0
    · have k0 : ((t.kids.length : Int) == 0) = true := by rw [beq_iff_eq]; omega
      clear hT hF h0 hf h1 h3
      go_enter Tryz.func37, Tryz.ntmps37
      go_wp2
      go_region
      go_wp2
      go_ret3
      exact readE_no HR.out rfl rfl rfl ((Below.refl _ w).alloc (Nat.le_refl _) _).drew
    · have k0 : ((t.kids.length : Int) == 0) = false := by rw [beq_eq_false_iff_ne]; omega
      have hT2 := hT.below (w1 := (w.alloc (.cells #[.int .i64 (t.kind : Int), .int .i64 (t.place : Int), .string (str t.text), .slice ka t.kids.length kc] 40))) ((Below.refl _ w).alloc (Nat.le_refl _) _) hF
      obtain ⟨g, cap, kv0, e0, hg, hk0, a0, a1, a2, a3⟩ := hT2.at 0 (by omega)
      simp only [Value.slice.injEq, true_and] at e0
      obtain ⟨rfl, rfl⟩ := e0
      rw [kid_get (t := t) (by omega)] at a0 a1 a2
      simp only [Nat.zero_mul, Nat.zero_add] at a0 a1 a2 a3
      have hi0 : (0 : Int) < (t.kids.length : Int) := by omega
      have hgw := hF g hg
      have hne : g ≠ w.heap.size := by omega
      by_cases hk3 : (kid t 0).kind = 3
      · have q3 : (((kid t 0).kind : Int) != 3) = false := by rw [bne_eq_false_iff_eq]; omega
        by_cases hA : (kid t 0).text = arrayL
        · have e1 : ((str (kid t 0).text).toList == [97, 114, 114, 97, 121]) = true := by rw [beq_iff_eq, Lib.toList_data, str_data, hA]; rfl
          have e2 : ((str (kid t 0).text).toList != [102, 110]) = true := by rw [bne_iff_ne, Lib.toList_data, str_data, hA]; decide
          have e3 : ((str (kid t 0).text).toList == [102, 110]) = false := by rw [beq_eq_false_iff_ne, Lib.toList_data, str_data, hA]; decide
          have hl2 : ¬ t.kids.length = 2 := by
            intro h
            rw [if_pos ⟨h, by rw [isWordR, decide_eq_true hk3, decide_eq_true hA]; rfl⟩] at hf
            cases hf
          have l2 : ((t.kids.length : Int) == 2) = false := by rw [beq_eq_false_iff_ne]; omega
          clear hT hF hf h1 h3 hT2 hk0 hA hk3 hg
          generalize (kid t 0).text = x at *
          generalize (kid t 0).kind = kk at *
          go_enter Tryz.func37, Tryz.ntmps37
          go_wp2
          go_region
          go_wp2
          go_ret3
          exact readE_no HR.out rfl rfl rfl ((Below.refl _ w).alloc (Nat.le_refl _) _).drew
        · have e1 : ((str (kid t 0).text).toList == [97, 114, 114, 97, 121]) = false := by rw [beq_eq_false_iff_ne, Lib.toList_data, str_data]; exact hA
          by_cases hN : (kid t 0).text = fnL
          · have e2 : ((str (kid t 0).text).toList != [102, 110]) = false := by rw [bne_eq_false_iff_eq, Lib.toList_data, str_data, hN]; rfl
            have e3 : ((str (kid t 0).text).toList == [102, 110]) = true := by rw [beq_iff_eq, Lib.toList_data, str_data, hN]; rfl
            by_cases hl3 : t.kids.length = 3
            · have l3 : ((t.kids.length : Int) != 3) = false := by rw [bne_eq_false_iff_eq]; omega
              obtain ⟨g', cap', kv1, e0, _, hk1, b0, b1, b2, b3⟩ := hT2.at 1 (by omega)
              simp only [Value.slice.injEq, Option.some.injEq, Addr.mk.injEq, true_and, and_true] at e0
              obtain ⟨rfl, rfl⟩ := e0
              rw [kid_get (t := t) (by omega)] at b0 b1 b2
              simp only [Nat.one_mul] at b0 b1 b2 b3
              have hi1 : (1 : Int) < (t.kids.length : Int) := by omega
              have hk1n : ¬ (kid t 1).kind = 1 := by
                intro h
                rw [if_neg (by omega), if_pos ⟨hl3, by rw [isWordR, decide_eq_true hk3, decide_eq_true hN]; rfl, h⟩] at hf
                cases hf
              have q1 : (((kid t 1).kind : Int) != 1) = true := by rw [bne_iff_ne]; omega
              clear hT hF hf h1 h3 hT2 hk0 hA hN hk3 hg hk1 hk1n hl3
              generalize (kid t 0).text = x at *
              generalize (kid t 0).kind = kk at *
              generalize (kid t 1).text = y at *
              generalize (kid t 1).kind = kk1 at *
              go_enter Tryz.func37, Tryz.ntmps37
              go_wp2
              go_region
              go_wp2
              go_ret3
              exact readE_no HR.out rfl rfl rfl ((Below.refl _ w).alloc (Nat.le_refl _) _).drew
            · have l3 : ((t.kids.length : Int) != 3) = true := by rw [bne_iff_ne]; omega
              have l3b : ((t.kids.length : Int) == 3) = false := by rw [beq_eq_false_iff_ne]; omega
              clear hl3
              clear hT hF hf h1 h3 hT2 hk0 hA hN hk3 hg
              generalize (kid t 0).text = x at *
              generalize (kid t 0).kind = kk at *
              go_enter Tryz.func37, Tryz.ntmps37
              go_wp2
              go_region
              go_wp2
              go_ret3
              exact readE_no HR.out rfl rfl rfl ((Below.refl _ w).alloc (Nat.le_refl _) _).drew
          · have e2 : ((str (kid t 0).text).toList != [102, 110]) = true := by rw [bne_iff_ne, Lib.toList_data, str_data]; exact hN
            have e3 : ((str (kid t 0).text).toList == [102, 110]) = false := by rw [beq_eq_false_iff_ne, Lib.toList_data, str_data]; exact hN
            clear hT hF hf h1 h3 hT2 hk0 hA hN hk3 hg
            generalize (kid t 0).text = x at *
            generalize (kid t 0).kind = kk at *
            go_enter Tryz.func37, Tryz.ntmps37
            go_wp2
            go_region
            go_wp2
            go_ret3
            exact readE_no HR.out rfl rfl rfl ((Below.refl _ w).alloc (Nat.le_refl _) _).drew
      · have q3 : (((kid t 0).kind : Int) != 3) = true := by rw [bne_iff_ne]; omega
        clear hT hF hf h1 h3 hT2 hk0 hk3 hg
        generalize (kid t 0).text = x at *
        generalize (kid t 0).kind = kk at *
        go_enter Tryz.func37, Tryz.ntmps37
        go_wp2
        go_region
        go_wp2
        go_ret3
        exact readE_no HR.out rfl rfl rfl ((Below.refl _ w).alloc (Nat.le_refl _) _).drew
  · have k1 : ((t.kind : Int) != 1) = true := by rw [bne_iff_ne]; omega
    clear hT hF hf h1 h3
    go_enter Tryz.func37, Tryz.ntmps37
    go_wp2
    go_region
    go_wp2
    go_ret3
    exact readE_no HR.out rfl rfl rfl ((Below.refl _ w).alloc (Nat.le_refl _) _).drew
end Go.Proofs.YtcjlifhehiolkaaGreat

namespace Go.Proofs.YtcjlifhehiolkaaGreat
open Go.RowKit

theorem fin_err {m : List UInt8} {t : Tr} {ys : List (List UInt8)} {y b : Nat} (h : fin m t ys = .error (y, b)) : y ≠ 0 := by
  unfold fin at h
  split at h
  · rename_i h2; cases h; have := madeR_err h2; omega
  · cases h
theorem fin_len {m : List UInt8} {t : Tr} {ys : List (List UInt8)} {x : List UInt8} (h : fin m t ys = .ok x) : x.length ≤ 200 := by
  unfold fin at h
  split at h
  · cases h
  · rename_i h2; cases h; exact madeR_len h2
theorem seqE_err : ∀ {l : List RR} {e : Nat × Nat}, seqE l = .error e → .error e ∈ l
  | [], e, h => by cases h
  | .error e' :: r, e, h => by cases h; exact List.mem_cons_self
  | .ok x :: r, e, h => by
    rw [seqE] at h
    split at h
    · rename_i h2; cases h; exact List.mem_cons_of_mem _ (seqE_err h2)
    · cases h
theorem kid_size {t : Tr} {i : Nat} (h : i < t.kids.length) : SizeOf.sizeOf (kid t i) < SizeOf.sizeOf t := tr_kid_lt (kid_mem h)
theorem parts_ind {P : Tr → Prop} (h : ∀ t : Tr, (∀ p ∈ partsT t, P p) → P t) (t : Tr) : P t := by
  have key : ∀ (n : Nat) (t : Tr), SizeOf.sizeOf t ≤ n → P t := by
    intro n
    induction n with
    | zero => intro t ht; obtain ⟨k, p, x, l, e⟩ := t; simp at ht
    | succ n ih =>
      intro t ht
      refine h t (fun p hp => ih p ?_)
      unfold partsT at hp
      split at hp
      · rename_i h2
        have := form2 h2
        simp only [List.mem_singleton] at hp
        subst hp
        have := kid_size (t := t) (i := 1) (by omega)
        omega
      · split at hp
        · rename_i h3
          have := form3 h3
          simp only [List.mem_append, List.mem_singleton] at hp
          rcases hp with hp | rfl
          · have h1 := tr_kid_lt hp
            have h2 := kid_size (t := t) (i := 1) (by omega)
            omega
          · have h2 := kid_size (t := t) (i := 2) (by omega)
            omega
        · simp at hp
  exact key _ t (Nat.le_refl _)
theorem readR_err (m : List UInt8) (t : Tr) : ∀ y b, readR m t = .error (y, b) → y ≠ 0 := by
  induction t using parts_ind with
  | h t ih =>
    intro y b h
    rw [readR_eq] at h
    split at h
    · rename_i e h2
      cases h
      have := seqE_err h2
      obtain ⟨p, hp, he⟩ := List.mem_map.1 this
      exact ih p hp y b he
    · exact fin_err h
theorem readR_len (m : List UInt8) (t : Tr) {x : List UInt8} (h : readR m t = .ok x) : x.length ≤ 200 := by
  rw [readR_eq] at h
  split at h
  · cases h
  · exact fin_len h
theorem goF_err {m : List UInt8} {t : Tr} {acc : List (List UInt8)} (h : acc.length < (partsT t).length) {e : Nat × Nat} (he : readR m (partsT t)[acc.length] = .error e) : goF m ⟨t, acc⟩ = .error e := by
  have hd : (partsT t).drop acc.length = (partsT t)[acc.length] :: (partsT t).drop (acc.length + 1) := List.drop_eq_getElem_cons h
  rw [goF]
  simp only [hd, List.map_cons, he]
  rfl
theorem goF_next {m : List UInt8} {t : Tr} {acc : List (List UInt8)} (h : acc.length < (partsT t).length) {x : List UInt8} (hx : readR m (partsT t)[acc.length] = .ok x) : goF m ⟨t, acc⟩ = goF m ⟨t, acc ++ [x]⟩ := by
  have hd : (partsT t).drop acc.length = (partsT t)[acc.length] :: (partsT t).drop (acc.length + 1) := List.drop_eq_getElem_cons h
  rw [goF, goF]
  simp only [hd, List.map_cons, hx, seqE, List.length_append, List.length_singleton]
  cases seqE (((partsT t).drop (acc.length + 1)).map (readR m)) <;> simp
theorem read_arr_err {m : List UInt8} {t : Tr} (h : formR t = 2) {e : Nat × Nat} (he : readR m (kid t 1) = .error e) : readR m t = .error e := by
  rw [readR_eq, partsT_arr h, List.map_cons, he]
  rfl
theorem read_arr_ok {m : List UInt8} {t : Tr} (h : formR t = 2) {x : List UInt8} (hx : readR m (kid t 1) = .ok x) : readR m t = if (arrR x).length ≤ 200 then .ok (arrR x) else .error (3, t.place) := by
  rw [readR_eq, partsT_arr h, List.map_cons, hx]
  simp only [List.map_nil, seqE, fin, madeR, h]
  rw [if_neg (by decide), if_pos trivial, lim, if_neg (by simp [arrR])]
  simp only [List.getD_cons_zero]
  by_cases h2 : (arrR x).length ≤ 200
  · rw [if_neg (by omega), if_pos h2]
  · rw [if_pos (by omega), if_neg h2]
theorem read_fn_end {m : List UInt8} {t : Tr} (h : formR t = 3) {acc : List (List UInt8)} {r : List UInt8} (hl : acc.length + 1 = (partsT t).length) (hg : goF m ⟨t, acc ++ [r]⟩ = readR m t) : readR m t = if 6 < acc.length then .error (19, t.place) else if (funcR acc r).length ≤ 200 then .ok (funcR acc r) else .error (3, t.place) := by
  rw [← hg, goF_end m _ (by simpa using hl), fin, madeR]
  simp only [h]
  rw [if_neg (by decide), if_neg (by decide), if_pos trivial]
  simp only [List.length_append, List.length_singleton, Nat.add_sub_cancel]
  by_cases h6 : 6 < acc.length
  · rw [if_pos h6, if_pos h6]
  · rw [if_neg h6, if_neg h6, show (acc ++ [r]).take acc.length = acc from by simp, show (acc ++ [r]).getD acc.length [] = r from by simp, lim, if_neg (by simp [funcR])]
    by_cases h2 : (funcR acc r).length ≤ 200
    · rw [if_neg (by omega), if_pos h2]
    · rw [if_pos (by omega), if_neg h2]
theorem form2_is {t : Tr} (h : formR t = 2) : t.kind = 1 ∧ (kid t 0).kind = 3 ∧ (kid t 0).text = arrayL := by
  unfold formR at h
  repeat' split at h
  all_goals first | omega | skip
  rename_i h1 h2 h3
  have h4 := h3.2
  rw [isWordR, Bool.and_eq_true, decide_eq_true_iff, decide_eq_true_iff] at h4
  exact ⟨by omega, h4⟩
theorem form3_is {t : Tr} (h : formR t = 3) : t.kind = 1 ∧ (kid t 0).kind = 3 ∧ (kid t 0).text = fnL ∧ (kid t 1).kind = 1 := by
  unfold formR at h
  repeat' split at h
  all_goals first | omega | skip
  rename_i h1 h2 h3 h5
  have h4 := h5.2.1
  rw [isWordR, Bool.and_eq_true, decide_eq_true_iff, decide_eq_true_iff] at h4
  exact ⟨by omega, h4.1, h4.2, h5.2.2⟩
def RdAll (m : List UInt8) (t : Tr) : Prop := ∀ (kv : Value) (F : Nat → Prop) (w : World), TL F w kv t.kids → (∀ g, F g → g < w.heap.size) → Calls Tryz.prog 37 #[trv t kv, .string (str m)] w (ReadE (readR m t) w)

set_option maxHeartbeats 2000000 in
set_option maxRecDepth 1000000 in
theorem refRead_arr (m : List UInt8) (t : Tr) (hf : formR t = 2) (IH : RdAll m (kid t 1)) : RdAll m t := by
  intro kv F w hT hF
  obtain ⟨ka, kc, rfl⟩ := hT.shape
  obtain ⟨h1, h2, h3⟩ := form2_is hf
  have hl := form2 hf
  have hbw : Below w.heap.size w (w.alloc (.cells #[.int .i64 (t.kind : Int), .int .i64 (t.place : Int), .string (str t.text), .slice ka t.kids.length kc] 40)) := (Below.refl _ w).alloc (Nat.le_refl _) _
  have hT2 := hT.below hbw hF
  obtain ⟨g, cap, kv0, e0, hg, hk0, a0, a1, a2, a3⟩ := hT2.at 0 (by omega)
  simp only [Value.slice.injEq, true_and] at e0
  obtain ⟨rfl, rfl⟩ := e0
  rw [kid_get (t := t) (by omega)] at a0 a1 a2
  simp only [Nat.zero_mul, Nat.zero_add] at a0 a1 a2 a3
  obtain ⟨g', cap', kv1, e0, _, hk1, b0, b1, b2, b3⟩ := hT2.at 1 (by omega)
  simp only [Value.slice.injEq, Option.some.injEq, Addr.mk.injEq, true_and, and_true] at e0
  obtain ⟨rfl, rfl⟩ := e0
  rw [kid_get (t := t) (by omega)] at b0 b1 b2 hk1
  simp only [Nat.one_mul] at b0 b1 b2 b3
  have hgw := hF g hg
  have hne : g ≠ w.heap.size := by omega
  have k3 : ((t.kind : Int) == 3) = false := by rw [beq_eq_false_iff_ne]; omega
  have k1 : ((t.kind : Int) != 1) = false := by rw [bne_eq_false_iff_eq]; omega
  have k0 : ((t.kids.length : Int) == 0) = false := by rw [beq_eq_false_iff_ne]; omega
  have l2 : ((t.kids.length : Int) == 2) = true := by rw [beq_iff_eq]; omega
  have i0 : (0 : Int) < (t.kids.length : Int) := by omega
  have i1 : (1 : Int) < (t.kids.length : Int) := by omega
  have q3 : (((kid t 0).kind : Int) != 3) = false := by rw [bne_eq_false_iff_eq]; omega
  have e1 : ((str (kid t 0).text).toList == [97, 114, 114, 97, 121]) = true := by rw [beq_iff_eq, Lib.toList_data, str_data, h3]; rfl
  obtain ⟨ea, ec, rfl⟩ := hk1.shape
  have hrec := IH _ F _ hk1 (fun g hg => by have := hF g hg; simp; omega)
  have HF := hidden hf
  have hx : (w.alloc (.cells #[.int .i64 (t.kind : Int), .int .i64 (t.place : Int), .string (str t.text), .slice (some ⟨g, 0, none⟩) t.kids.length kc] 40)).heap[w.heap.size]? = some (.cells #[.int .i64 (t.kind : Int), .int .i64 (t.place : Int), .string (str t.text), .slice (some ⟨g, 0, none⟩) t.kids.length kc] 40) := heap_alloc_new w _
  have hsz : Hid ((w.alloc (.cells #[.int .i64 (t.kind : Int), .int .i64 (t.place : Int), .string (str t.text), .slice (some ⟨g, 0, none⟩) t.kids.length kc] 40)).heap.size = w.heap.size + 1) := by simp [Hid]
  unfold trv at hrec ⊢
  clear hT hF hf h1 h2 h3 hT2 hk0 hk1 hg IH hl
  cases hr : readR m (kid t 1) with
  | error yb =>
    obtain ⟨y, b⟩ := yb
    have HR : Hid (readR m t = .error (y, b)) := read_arr_err HF.out hr
    have hy := readR_err m _ y b hr
    have hy' : ((y : Int) != 0) = true := by rw [bne_iff_ne]; omega
    rw [hr] at hrec
    clear hr hy
    generalize (kid t 0).text = x0 at *
    generalize (kid t 0).kind = kk0 at *
    generalize kid t 1 = T1 at *
    go_enter Tryz.func37, Tryz.ntmps37
    go_wp2_with fail
    refine hrec.mono ?_
    rintro e w1 ⟨he, hb1⟩
    simp only at he
    subst he
    have hb2 := below_trans hbw hb1
    go_wp2
    go_ret3
    exact readE_no HR.out rfl rfl rfl hb2
  | ok x =>
    have HR := hidden (read_arr_ok HF.out hr)
    have hxl := readR_len m _ hr
    rw [hr] at hrec
    have hsh := fun u => refShort (arrR x) (t.place : Int) u
    unfold ShortE at hsh
    have hxs : (str x).size = x.length := rfl
    have HE : Hid ((⟨#[91]⟩ : ByteArray) ++ str x ++ ⟨#[93]⟩ = str (arrR x)) := by
      rw [hid_iff, show (⟨#[91]⟩ : ByteArray) = str [91] from rfl, show (⟨#[93]⟩ : ByteArray) = str [93] from rfl, str_append, str_append]
      rfl
    rw [← HE.out] at hsh
    clear hr
    generalize (kid t 0).text = x0 at *
    generalize (kid t 0).kind = kk0 at *
    generalize kid t 1 = T1 at *
    go_enter Tryz.func37, Tryz.ntmps37
    go_wp2_with fail
    refine hrec.mono ?_
    rintro e w1 ⟨he, hb1⟩
    simp only at he
    subst he
    have hb2 := below_trans hbw hb1
    obtain ⟨x0', x1', x2', x3', _⟩ := four_cells ((hb1.block w.heap.size (by rw [hsz.out]; omega)).trans hx)
    clear hb1 hx
    go_wp2_with fail
    refine (hsh _).mono ?_
    rintro e w2 ⟨he, rfl⟩
    by_cases hl : (arrR x).length ≤ 200
    · rw [if_pos hl] at he
      have HR' : Hid (readR m t = .ok (arrR x)) := by rw [hid_iff, HR.out, if_pos hl]
      subst he
      clear HR hl
      go_wp2
      go_ret3
      exact readE_ok' HR'.out HE.out hb2
    · rw [if_neg hl] at he
      have HR' : Hid (readR m t = .error (3, t.place)) := by rw [hid_iff, HR.out, if_neg hl]
      subst he
      clear HR hl HE
      go_wp2
      go_ret3
      exact readE_no HR'.out rfl rfl rfl hb2
end Go.Proofs.YtcjlifhehiolkaaGreat

namespace Go.Proofs.YtcjlifhehiolkaaGreat
open Go.RowKit

set_option maxHeartbeats 4000000 in
set_option maxRecDepth 1000000 in
theorem refRead_fn (m : List UInt8) (t : Tr) (hf : formR t = 3) (IHk : ∀ p ∈ (kid t 1).kids, RdAll m p) (IH2 : RdAll m (kid t 2)) (hkl : (kid t 1).kids.length ≤ 8192) : RdAll m t := by
  intro kv F w hT hF
  obtain ⟨ka, kc, rfl⟩ := hT.shape
  obtain ⟨h1, h2, h3, h4⟩ := form3_is hf
  have hl := form3 hf
  have hpt : Hid (partsT t = (kid t 1).kids ++ [kid t 2]) := partsT_fn hf
  have hbw : Below w.heap.size w (w.alloc (.cells #[.int .i64 (t.kind : Int), .int .i64 (t.place : Int), .string (str t.text), .slice ka t.kids.length kc] 40)) := (Below.refl _ w).alloc (Nat.le_refl _) _
  have hT2 := hT.below hbw hF
  obtain ⟨g, cap, kv0, e0, hg, hk0, a0, a1, a2, a3⟩ := hT2.at 0 (by omega)
  simp only [Value.slice.injEq, true_and] at e0
  obtain ⟨rfl, rfl⟩ := e0
  rw [kid_get (t := t) (by omega)] at a0 a1 a2
  simp only [Nat.zero_mul, Nat.zero_add] at a0 a1 a2 a3
  obtain ⟨g', cap', kv1, e0, _, hk1, b0, b1, b2, b3⟩ := hT2.at 1 (by omega)
  simp only [Value.slice.injEq, Option.some.injEq, Addr.mk.injEq, true_and, and_true] at e0
  obtain ⟨rfl, rfl⟩ := e0
  rw [kid_get (t := t) (by omega)] at b0 b1 b2 hk1
  simp only [Nat.one_mul] at b0 b1 b2 b3
  obtain ⟨g'', cap'', kv2, e0, _, hk2, c0, c1, c2, c3⟩ := hT2.at 2 (by omega)
  simp only [Value.slice.injEq, Option.some.injEq, Addr.mk.injEq, true_and, and_true] at e0
  obtain ⟨rfl, rfl⟩ := e0
  rw [kid_get (t := t) (by omega)] at c0 c1 c2 hk2
  simp only [show 2 * 4 = 8 from rfl, show 8 + 1 = 9 from rfl, show 8 + 2 = 10 from rfl, show 8 + 3 = 11 from rfl] at c0 c1 c2 c3
  have hgw := hF g hg
  have hne : g ≠ w.heap.size := by omega
  have k3 : ((t.kind : Int) == 3) = false := by rw [beq_eq_false_iff_ne]; omega
  have k1 : ((t.kind : Int) != 1) = false := by rw [bne_eq_false_iff_eq]; omega
  have k0 : ((t.kids.length : Int) == 0) = false := by rw [beq_eq_false_iff_ne]; omega
  have l2 : ((t.kids.length : Int) == 2) = false := by rw [beq_eq_false_iff_ne]; omega
  have l3 : ((t.kids.length : Int) != 3) = false := by rw [bne_eq_false_iff_eq]; omega
  have i0 : (0 : Int) < (t.kids.length : Int) := by omega
  have i1 : (1 : Int) < (t.kids.length : Int) := by omega
  have i2 : (2 : Int) < (t.kids.length : Int) := by omega
  have q3 : (((kid t 0).kind : Int) != 3) = false := by rw [bne_eq_false_iff_eq]; omega
  have q1 : (((kid t 1).kind : Int) != 1) = false := by rw [bne_eq_false_iff_eq]; omega
  have e1 : ((str (kid t 0).text).toList == [97, 114, 114, 97, 121]) = false := by rw [beq_eq_false_iff_ne, Lib.toList_data, str_data, h3]; decide
  have e2 : ((str (kid t 0).text).toList != [102, 110]) = false := by rw [bne_eq_false_iff_eq, Lib.toList_data, str_data, h3]; rfl
  have e3 : ((str (kid t 0).text).toList == [102, 110]) = true := by rw [beq_iff_eq, Lib.toList_data, str_data, h3]; rfl
  obtain ⟨ea, ec, rfl⟩ := hk1.shape
  obtain ⟨fa, fc, rfl⟩ := hk2.shape
  have HF := hidden hf
  have hx : (w.alloc (.cells #[.int .i64 (t.kind : Int), .int .i64 (t.place : Int), .string (str t.text), .slice (some ⟨g, 0, none⟩) t.kids.length kc] 40)).heap[w.heap.size]? = some (.cells #[.int .i64 (t.kind : Int), .int .i64 (t.place : Int), .string (str t.text), .slice (some ⟨g, 0, none⟩) t.kids.length kc] 40) := heap_alloc_new w _
  have hsz : Hid ((w.alloc (.cells #[.int .i64 (t.kind : Int), .int .i64 (t.place : Int), .string (str t.text), .slice (some ⟨g, 0, none⟩) t.kids.length kc] 40)).heap.size = w.heap.size + 1) := by simp [Hid]
  have HIK := hidden IHk
  have HI2 := hidden IH2
  have hgt : Hid (goF m ⟨t, []⟩ = readR m t) := goF_start m t
  unfold trv
  clear hT hf h1 h2 h3 h4 hT2 hk0 hg IHk IH2 hl
  generalize (kid t 0).text = x0 at *
  generalize (kid t 0).kind = kk0 at *
  generalize hT1 : kid t 1 = T1 at *
  generalize hTT2 : kid t 2 = T2 at *
  clear hT1 hTT2
  go_enter Tryz.func37, Tryz.ntmps37
  go_wp2
  go_loopg [13, 14] T1.kids.length (fun gg v i wr => ∃ (k : Nat) (acc : List (List UInt8)), gg + k = T1.kids.length ∧ i = .int .i64 (k : Int) ∧ Hid (acc.length = k) ∧ Hid (goF m ⟨t, acc⟩ = readR m t) ∧ Hid (∀ y ∈ acc, y.length ≤ 200) ∧ wr.ownsRow (w.heap.size + 1) 9 1 v acc.length (sc acc) ∧ Below (w.heap.size + 1) (w.alloc (.cells #[.int .i64 (t.kind : Int), .int .i64 (t.place : Int), .string (str t.text), .slice (some ⟨g, 0, none⟩) t.kids.length kc] 40)) wr)
  case atStart => exact ⟨0, [], by omega, rfl, by rw [hid_iff]; rfl, hgt, by rw [hid_iff]; simp, World.ownsRow_nil _ _ _ _, Below.refl _ _⟩
  case round =>
    obtain ⟨k, acc, hgk, rfl, hal, HG, HL, hown, hbl⟩ := hrel
    have hsw : w.heap.size + 1 ≤ wr.heap.size := by have := hbl.size; rw [hsz.out] at this; exact this
    have hbw2 : Below w.heap.size w wr := hbw.trans (hbl.mono (by omega))
    obtain ⟨y0, y1, y2, y3, _⟩ := four_cells ((hbl.block w.heap.size (by omega)).trans hx)
    have b3r := below_cell hbl b3 (by omega)
    have b0r := below_cell hbl b0 (by omega)
    have hF2 : ∀ g, F g → g < w.heap.size + 1 := fun g hg => by have := hF g hg; omega
    have hpl : (partsT t).length = T1.kids.length + 1 := by rw [hpt.out]; simp
    clear hx hsz hgt
    by_cases hk : k < T1.kids.length
    · obtain ⟨g1, c1', kvk, e9, hg1, hkt, d0, d1, d2, d3⟩ := (hk1.below hbl hF2).at k hk
      simp only [Value.slice.injEq, true_and] at e9
      obtain ⟨rfl, rfl⟩ := e9
      obtain ⟨na, nc, rfl⟩ := hkt.shape
      have hki : (k : Int) < (T1.kids.length : Int) := by omega
      have hc := HIK.out T1.kids[k] (List.getElem_mem hk) _ F wr hkt (fun g hg => by have := hF g hg; omega)
      have hpk : (partsT t)[acc.length]'(by rw [hal.out]; omega) = T1.kids[k] := by
        have : (partsT t)[acc.length]? = some T1.kids[k] := by rw [hpt.out, hal.out, List.getElem?_append_left hk, List.getElem?_eq_getElem hk]
        exact (List.getElem_eq_iff _).2 this
      unfold trv at hc
      cases hr : readR m T1.kids[k] with
      | error yb =>
        obtain ⟨y, b⟩ := yb
        have HR : Hid (readR m t = .error (y, b)) := by
          rw [hid_iff, ← HG.out]
          exact goF_err (by rw [hal.out]; omega) (by rw [hpk]; exact hr)
        have hy := readR_err m _ y b hr
        have hy' : ((y : Int) != 0) = true := by rw [bne_iff_ne]; omega
        rw [hr] at hc
        clear hr hy HG HL hown hkt hpk HIK HI2 hk1 hk2 hbl
        generalize T1.kids[k] = tk at *
        go_wp2_with fail
        refine hc.mono ?_
        rintro e w1 ⟨he, hb1⟩
        simp only at he
        subst he
        have hb2 := below_trans hbw2 hb1
        go_wp2
        go_ret3
        exact readE_no HR.out rfl rfl rfl hb2
      | ok x =>
        have HG' : Hid (goF m ⟨t, acc ++ [x]⟩ = readR m t) := by
          rw [hid_iff, ← HG.out]
          exact (goF_next (by rw [hal.out]; omega) (by rw [hpk]; exact hr)).symm
        have hxl := readR_len m _ hr
        have HL' : Hid (∀ y ∈ acc ++ [x], y.length ≤ 200) := by
          rw [hid_iff]
          intro y hy
          simp only [List.mem_append, List.mem_singleton] at hy
          rcases hy with hy | rfl
          · exact HL.out y hy
          · exact hxl
        have hakk : acc.length ≤ 8192 := by have := hal.out; omega
        rw [hr] at hc
        clear hr HG HL hkt hpk HIK HI2 hk1 hk2
        generalize T1.kids[k] = tk at *
        go_wp2_with fail
        refine hc.mono ?_
        rintro e w1 ⟨he, hb1⟩
        simp only at he
        subst he
        have ho1 := owns_below hown hb1
        have hbl1 : Below (w.heap.size + 1) (w.alloc (.cells #[.int .i64 (t.kind : Int), .int .i64 (t.place : Int), .string (str t.text), .slice (some ⟨g, 0, none⟩) t.kids.length kc] 40)) w1 := hbl.trans (hb1.mono hsw)
        have hs1 := hb1.size
        clear hown hbl hb1 hc
        go_wp2_with (at_builtin; refine append_text rfl (.tmp 179) (.tmp 181) rfl (w.heap.size + 1) _ acc rfl (ho1.alloc _) _ _ x rfl ?src ?len ?hB ?next)
        case src => first | exact cells_new _ _ _ | exact fun j u h => h
        case len => first | omega | (simp; omega)
        case hB => first | omega | (simp; omega)
        case next =>
          intro ad c' w' r1 r2
          have b1' := below_grown (ho1.alloc _) (by simp; omega) (hbl1.alloc (by omega) _) r2
          clear r2 ho1 hbl1
          go_wp2
          go_roundg (T1.kids.length - (k + 1))
          case measure => omega
          case rel => exact ⟨k + 1, acc ++ [x], by omega, by go_num, by rw [hid_iff]; have := hal.out; simp; omega, HG', HL', by simpa using r1, b1'⟩
    · have hki : ¬ (k : Int) < (T1.kids.length : Int) := by omega
      have hc := HI2.out _ F wr (hk2.below hbl hF2) (fun g hg => by have := hF g hg; omega)
      have c0r := below_cell hbl c0 (by omega)
      have c1r := below_cell hbl c1 (by omega)
      have c2r := below_cell hbl c2 (by omega)
      have c3r := below_cell hbl c3 (by omega)
      have hpk : (partsT t)[acc.length]'(by rw [hal.out]; omega) = T2 := by
        have : (partsT t)[acc.length]? = some T2 := by rw [hpt.out, hal.out, List.getElem?_append_right (by omega), show k - T1.kids.length = 0 from by omega]; rfl
        exact (List.getElem_eq_iff _).2 this
      unfold trv at hc
      cases hr : readR m T2 with
      | error yb =>
        obtain ⟨y, b⟩ := yb
        have HR : Hid (readR m t = .error (y, b)) := by
          rw [hid_iff, ← HG.out]
          exact goF_err (by rw [hal.out]; omega) (by rw [hpk]; exact hr)
        have hy := readR_err m _ y b hr
        have hy' : ((y : Int) != 0) = true := by rw [bne_iff_ne]; omega
        rw [hr] at hc
        clear hr hy HG HL hown hpk HIK HI2 hk1 hk2 hbl
        go_wp2_with fail
        refine hc.mono ?_
        rintro e w1 ⟨he, hb1⟩
        simp only at he
        subst he
        have hb2 := below_trans hbw2 hb1
        go_wp2
        go_ret3
        exact readE_no HR.out rfl rfl rfl hb2
      | ok r =>
        have HR : Hid (readR m t = if 6 < acc.length then .error (19, t.place) else if (funcR acc r).length ≤ 200 then .ok (funcR acc r) else .error (3, t.place)) := by
          rw [hid_iff]
          refine read_fn_end HF.out (by rw [hpl, hal.out]; omega) ?_
          rw [← HG.out]
          exact (goF_next (by rw [hal.out]; omega) (by rw [hpk]; exact hr)).symm
        have hxl := readR_len m _ hr
        have hakk : acc.length ≤ 8192 := by have := hal.out; omega
        rw [hr] at hc
        clear hr HG hpk HIK HI2 hk1 hk2
        go_wp2_with fail
        refine hc.mono ?_
        rintro e w1 ⟨he, hb1⟩
        simp only at he
        subst he
        have hb2 := below_trans hbw2 hb1
        have hsr := strRow_own (owns_below hown hb1)
        have y1' := below_cell hb1 y1 (by omega)
        obtain ⟨va, vc, hv⟩ := hsr.shape
        subst hv
        clear hown hb1 hbl y0 y1 y2 y3 b3r b0r c0r c1r c2r c3r hc hbw2
        by_cases h6 : 6 < acc.length
        · have h6' : (6 : Int) < (acc.length : Int) := by omega
          have HR' : Hid (readR m t = .error (19, t.place)) := by rw [hid_iff, HR.out, if_pos h6]
          clear HR hsr h6
          go_wp2
          go_region
          go_wp2
          go_ret3
          exact readE_no HR'.out rfl rfl rfl hb2.drew
        · have h6' : ¬ (6 : Int) < (acc.length : Int) := by omega
          have hfn : ∀ n, Calls Tryz.prog 63 #[.slice va acc.length vc, .string (str r)] (w1.drewN n) fun e w' => e = .returned (.string (str (funcR acc r))) ∧ w' = w1.drewN n := fun n => refFunc _ acc r _ (strRow_drew hsr n) (by omega) (fun y hy => by have := HL.out y hy; omega) (by omega)
          have hsh := fun u => refShort (funcR acc r) (t.place : Int) u
          unfold ShortE at hsh
          by_cases hlf : (funcR acc r).length ≤ 200
          · simp only [if_pos hlf] at hsh
            have HR' : Hid (readR m t = .ok (funcR acc r)) := by rw [hid_iff, HR.out, if_neg h6, if_pos hlf]
            clear HR hsr h6 HL hlf
            generalize funcR acc r = fx at *
            go_wp2
            go_quiet ((first | (go_at_call 63; refine quiet_pure0 (hfn _)) | (go_at_call 62; refine quiet_pure0 (hsh _))))
            go_wp2
            go_ret3
            exact readE_ok HR'.out (below_drewN hb2 _)
          · simp only [if_neg hlf] at hsh
            have HR' : Hid (readR m t = .error (3, t.place)) := by rw [hid_iff, HR.out, if_neg h6, if_neg hlf]
            clear HR hsr h6 HL hlf
            generalize funcR acc r = fx at *
            go_wp2
            go_quiet ((first | (go_at_call 63; refine quiet_pure0 (hfn _)) | (go_at_call 62; refine quiet_pure0 (hsh _))))
            go_wp2
            go_ret3
            exact readE_no HR'.out rfl rfl rfl (below_drewN hb2 _)

theorem kids_nodes {t : Tr} {i : Nat} (h : i < t.kids.length) : nodes (kid t i) < nodes t := by
  have h1 := mem_nodes (kid_mem h)
  have h2 := nodes_eq t
  omega
theorem form_one {t : Tr} (h : formR t = 1) : t.kind = 3 := by
  unfold formR at h
  repeat' split at h
  all_goals first | assumption | omega
/-- Any tree. -/
theorem refReadT (m : List UInt8) (hm : m.length ≤ 140737488351232) (t : Tr) : TxOk t → nodes t ≤ 8192 → RdAll m t := by
  induction t using parts_ind with
  | h t ih =>
    intro htx hnd
    have htp := parts_txOk htx
    have hps := parts_nodes t
    by_cases h3 : t.kind = 3
    · intro kv F w _ _
      exact refRead_atom m hm t kv w h3 ((TxOk_iff t).1 htx).1
    · rcases form_cases t with h | h | h | h
      · intro kv F w hT hF
        exact refRead_none m t kv F w hT hF h3 h
      · exact absurd (form_one h) h3
      · have hp := partsT_arr h
        exact refRead_arr m t h (ih _ (by rw [hp]; simp) (htp _ (by rw [hp]; simp)) (by rw [hp] at hps; simp at hps; omega))
      · have hp := partsT_fn h
        have hmem : ∀ p ∈ partsT t, nodes p ≤ 8192 := fun p hpp => by have := mem_nodes hpp; omega
        have hkl : (kid t 1).kids.length ≤ 8192 := by
          have := sum_nodes (kid t 1).kids
          rw [hp, List.map_append, List.sum_append] at hps
          omega
        exact refRead_fn m t h (fun p hpp => ih p (by rw [hp]; simp [hpp]) (htp p (by rw [hp]; simp [hpp])) (hmem p (by rw [hp]; simp [hpp]))) (ih _ (by rw [hp]; simp) (htp _ (by rw [hp]; simp)) (hmem _ (by rw [hp]; simp))) hkl

set_option maxRecDepth 1000000 in
theorem refRead (m : List UInt8) (hm : m.length ≤ 140737488351232) (t : Tr) (kv : Value) (F : Nat → Prop) (w : World) (hT : TL F w kv t.kids) (hF : ∀ g, F g → g < w.heap.size) (htx : TxOk t) (hnd : nodes t ≤ 8192) :
    Calls Tryz.prog 19 #[trv t kv, .string (str m)] w (ReadE (readR m t) w) := by
  have hbw : Below w.heap.size w (w.alloc (.cells #[.int .i64 (t.kind : Int), .int .i64 (t.place : Int), .string (str t.text), kv] 40)) := (Below.refl _ w).alloc (Nat.le_refl _) _
  obtain ⟨ka, kc, rfl⟩ := hT.shape
  have hc := refReadT m hm t htx hnd _ F _ (hT.below hbw hF) (fun g hg => by have := hF g hg; simp; omega)
  unfold trv at hc ⊢
  clear hT hF htx hnd
  cases hr : readR m t with
  | error yb =>
    obtain ⟨y, b⟩ := yb
    have hy := readR_err m _ y b hr
    have hy' : ((y : Int) != 0) = true := by rw [bne_iff_ne]; omega
    rw [hr] at hc
    clear hr hy
    go_enter Tryz.func19, Tryz.ntmps19
    go_wp2_with fail
    refine hc.mono ?_
    rintro e w1 ⟨he, hb1⟩
    simp only at he
    subst he
    have hb2 := below_trans hbw hb1
    go_wp2
    go_ret3
    exact readE_no rfl rfl rfl rfl hb2
  | ok x =>
    rw [hr] at hc
    clear hr
    go_enter Tryz.func19, Tryz.ntmps19
    go_wp2_with fail
    refine hc.mono ?_
    rintro e w1 ⟨he, hb1⟩
    simp only at he
    subst he
    have hb2 := below_trans hbw hb1
    go_wp2
    go_ret3
    exact readE_ok rfl hb2
end Go.Proofs.YtcjlifhehiolkaaGreat
