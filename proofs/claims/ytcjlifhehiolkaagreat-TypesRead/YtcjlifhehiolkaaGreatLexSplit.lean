/-
  The package's Split: its walk, from label to label.
-/
import Derived.Test.YtcjlifhehiolkaaGreatLexReadQuoted
namespace Go.Proofs.YtcjlifhehiolkaaGreat
open Go.RowKit

/-- What parting a text answers. -/
def SE (r : SR) (w : World) (e : Ending) (w' : World) : Prop :=
  (match r with
  | .ok l => ∃ v, e = .returned (.tuple #[v, .int .i64 0, .int .i64 0]) ∧ w'.ownsRow w.heap.size 61 3 v l.length (tcs l)
  | .error (y, b) => e = .returned (.tuple #[.slice none 0 0, .int .i64 (y : Int), .int .i64 (b : Int)])) ∧ Below w.heap.size w w'
theorem se_ok {r : SR} {w w' : World} {l : List Tok} {v : Value} (h : r = .ok l) (ho : w'.ownsRow w.heap.size 61 3 v l.length (tcs l)) (hb : Below w.heap.size w w') : SE r w (.returned (.tuple #[v, .int .i64 0, .int .i64 0])) w' := by
  subst h
  exact ⟨⟨v, rfl, ho⟩, hb⟩
theorem se_no {r : SR} {w w' : World} {y b : Nat} {z x : Int} (h : r = .error (y, b)) (hz : z = (y : Int)) (hx : x = (b : Int)) (hb : Below w.heap.size w w') : SE r w (.returned (.tuple #[.slice none 0 0, .int .i64 z, .int .i64 x])) w' := by
  subst h hz hx
  exact ⟨rfl, hb⟩

set_option maxRecDepth 1000000 in
theorem sClone (s : ByteArray) (w : World) (h : s.size ≤ 8192) : Calls Tryz.prog 20 #[.string s] w fun e w' => e = .returned (.string s) ∧ Below w.heap.size w w' := by
  go_enter Tryz.func20, Tryz.ntmps20
  go_wp2_with fail
  refine (Tryz.stringslite_Clone s _ (by omega)).mono ?_
  rintro e w1 ⟨rfl, hb⟩
  go_wp2
  go_ret
  exact ⟨rfl, hb⟩

theorem arr_map (t : Array Value) : t = ((List.range t.size).map fun k => t.getD k undef).toArray := by
  apply Array.ext
  · simp
  · intro i h1 h2
    simp [Array.getD, h1]
theorem frame115 (a : Act) (h : a.tmps.size = 115) (hd : a.defers = []) : ∃ f : Nat → Value, a = { tmps := #[f 0, f 1, f 2, f 3, f 4, f 5, f 6, f 7, f 8, f 9, f 10, f 11, f 12, f 13, f 14, f 15, f 16, f 17, f 18, f 19, f 20, f 21, f 22, f 23, f 24, f 25, f 26, f 27, f 28, f 29, f 30, f 31, f 32, f 33, f 34, f 35, f 36, f 37, f 38, f 39, f 40, f 41, f 42, f 43, f 44, f 45, f 46, f 47, f 48, f 49, f 50, f 51, f 52, f 53, f 54, f 55, f 56, f 57, f 58, f 59, f 60, f 61, f 62, f 63, f 64, f 65, f 66, f 67, f 68, f 69, f 70, f 71, f 72, f 73, f 74, f 75, f 76, f 77, f 78, f 79, f 80, f 81, f 82, f 83, f 84, f 85, f 86, f 87, f 88, f 89, f 90, f 91, f 92, f 93, f 94, f 95, f 96, f 97, f 98, f 99, f 100, f 101, f 102, f 103, f 104, f 105, f 106, f 107, f 108, f 109, f 110, f 111, f 112, f 113, f 114], defers := [] } := by
  refine ⟨fun k => a.tmps.getD k undef, ?_⟩
  obtain ⟨t, d⟩ := a
  simp only at h hd
  subst hd
  have e := arr_map t
  rw [h] at e
  simp only [Act.mk.injEq, and_true]
  exact e
/-- What holds at each label of Split. -/
def spJ (s : ByteArray) (R : SR) (w0 : World) (l : Nat) (a : Act) (w : World) : Prop :=
  ∃ (p fr : Nat) (acc : List Tok) (v : Value), a.tmps.size = 115 ∧ a.defers = [] ∧ a.tmps.getD 0 undef = .string s ∧ a.tmps.getD 5 undef = v ∧ a.tmps.getD 7 undef = .int .i64 (p : Int) ∧ a.tmps.getD 8 undef = .int .i64 (fr : Int) ∧
    p ≤ s.size ∧ acc.length ≤ p ∧ w.ownsRow w0.heap.size 61 3 v acc.length (tcs acc) ∧ Below w0.heap.size w0 w ∧
    ((l = 0 ∧ Hid (sp (s.data.toList.drop p) p acc = R)) ∨
     (l = 1 ∧ fr ≤ p ∧ acc.length ≤ fr ∧ (p = fr → ∃ h : p < s.size, isAtom s[p] = true) ∧ Hid (aS s.data.toList fr p acc = R)) ∨
     (l = 3 ∧ fr ≤ p ∧ (p = fr → ∃ h : p < s.size, s[p].toNat = 59) ∧ Hid (rS s.data.toList p acc = R)) ∨
     (l = 2 ∧ fr = p ∧ (∃ h : p < s.size, s[p].toNat = 34) ∧ Hid (sp (s.data.toList.drop p) p acc = R)))
def spM (s : ByteArray) (l : Nat) (a : Act) (_ : World) : Nat :=
  match l with
  | 0 => 3 * (s.size - (intOf (a.tmps.getD 7 undef)).toNat)
  | 2 => 3 * (s.size - (intOf (a.tmps.getD 7 undef)).toNat) - 1
  | _ => if (intOf (a.tmps.getD 7 undef)).toNat = (intOf (a.tmps.getD 8 undef)).toNat then 3 * (s.size - (intOf (a.tmps.getD 7 undef)).toNat) - 1 else 3 * (s.size - (intOf (a.tmps.getD 7 undef)).toNat) + 1

set_option maxHeartbeats 4000000 in
set_option maxRecDepth 1000000 in
theorem split_short (s : ByteArray) (w : World) (hs : s.size ≤ 8192) : Calls Tryz.prog 29 #[.string s] w (SE (sp s.data.toList 0 []) w) := by
  have hs' : ¬ (8192 : Int) < (s.size : Int) := by omega
  go_enter Tryz.func29, Tryz.ntmps29
  go_wp2
  refine wp_scope_labels (spJ s (sp s.data.toList 0 []) w) (spM s) ?_ ?_
  · intro hp
    replace hp := hidden hp
    refine wp_seq ?_
    go_wp2
    rename_i hK
    refine wp_label (hK _ _ (hp.out 0 _ _ _ rfl ⟨0, 0, [], _, rfl, rfl, rfl, rfl, rfl, rfl, by omega, by simp, World.ownsRow_nil _ _ _ _, Below.refl _ _, .inl ⟨rfl, rfl⟩⟩))
  · rintro l a w1 ⟨p, fr, acc, v, ha1, ha2, ha3, ha4, ha5, ha6, hp1, hacc, hown, hbl, hl⟩
    obtain ⟨f, rfl⟩ := frame115 a ha1 ha2
    replace ha3 : f 0 = .string s := ha3
    replace ha4 : f 5 = v := ha4
    replace ha5 : f 7 = .int .i64 (p : Int) := ha5
    replace ha6 : f 8 = .int .i64 (fr : Int) := ha6
    rw [ha3, ha4, ha5, ha6]
    clear ha1 ha2 ha3 ha4 ha5 ha6
    have hB : w.heap.size ≤ w1.heap.size := hbl.size
    rcases hl with ⟨rfl, hq⟩ | ⟨rfl, hfr, haf, hst, hq⟩ | ⟨rfl, hfr, hst, hq⟩ | ⟨rfl, rfl, ⟨hp, hc⟩, hq⟩
    · refine ⟨_, rfl, ?_⟩
      by_cases hp : p < s.size
      · have hia := inAtom s[p]
        rcases (by cases isAtom s[p] <;> simp : isAtom s[p] = true ∨ isAtom s[p] = false) with c0 | c0
        · have C : Hid (aS s.data.toList p p acc = sp s.data.toList 0 []) := by
            rw [← hq.out]
            exact (aS_start (drop_at s p hp) c0 acc).symm
          rw [c0] at hia
          have C0 : Hid (isAtom s[p] = true) := c0
          clear c0 hq
          go_wp2_with fail
          refine (hia _).mono ?_
          rintro e w2 ⟨rfl, rfl⟩
          go_wp2
          refine wp_goto ⟨⟨p, p, acc, _, rfl, rfl, rfl, rfl, rfl, rfl, by omega, hacc, hown, hbl, .inr (.inl ⟨rfl, Nat.le_refl _, hacc, fun _ => ⟨hp, C0.out⟩, C⟩)⟩, ?_⟩
          simp [spM, intOf]
          omega
        · rw [c0] at hia
          by_cases c : s[p].toNat = 34
          · have c' : ((s[p].toNat : Int) == 34) = true := by rw [beq_iff_eq]; omega
            have C0 : Hid (s[p].toNat = 34) := c
            clear c c0
            go_wp2_with fail
            refine (hia _).mono ?_
            rintro e w2 ⟨rfl, rfl⟩
            go_wp2
            refine wp_goto ⟨⟨p, p, acc, _, rfl, rfl, rfl, rfl, rfl, rfl, by omega, hacc, hown, hbl, .inr (.inr (.inr ⟨rfl, rfl, ⟨hp, C0.out⟩, hq⟩))⟩, ?_⟩
            simp [spM, intOf]
            omega
          have c1 := c
          have c1' : ((s[p].toNat : Int) == 34) = false := by rw [beq_eq_false_iff_ne]; omega
          clear c
          by_cases c : s[p].toNat = 59
          · have C : Hid (rS s.data.toList p acc = sp s.data.toList 0 []) := by
              rw [← hq.out]
              exact (rS_start (drop_at s p hp) c acc).symm
            have c' : ((s[p].toNat : Int) == 59) = true := by rw [beq_iff_eq]; omega
            have C0 : Hid (s[p].toNat = 59) := c
            clear c c0 c1 hq
            go_wp2_with fail
            refine (hia _).mono ?_
            rintro e w2 ⟨rfl, rfl⟩
            go_wp2
            refine wp_goto ⟨⟨p, p, acc, _, rfl, rfl, rfl, rfl, rfl, rfl, by omega, hacc, hown, hbl, .inr (.inr (.inl ⟨rfl, Nat.le_refl _, fun _ => ⟨hp, C0.out⟩, C⟩))⟩, ?_⟩
            simp [spM, intOf]
            omega
          have c2 := c
          have c2' : ((s[p].toNat : Int) == 59) = false := by rw [beq_eq_false_iff_ne]; omega
          clear c
          by_cases c : s[p].toNat = 40
          · skip
            have C : Hid (sp (s.data.toList.drop (p + 1)) (p + 1) (acc ++ [⟨1, p, []⟩]) = sp s.data.toList 0 []) := by
              rw [← hq.out, drop_at s p hp]
              exact (sp_open _ _ _ c).symm
            have c' : ((s[p].toNat : Int) == 40) = true := by rw [beq_iff_eq]; omega
            clear c hq c0 c1 c2
            go_wp2_with fail
            refine (hia _).mono ?_
            rintro e w2 ⟨rfl, rfl⟩
            go_wp2_with (at_builtin; refine append_tok rfl (.tmp 40) (.tmp 43) rfl w.heap.size v acc rfl (hown.alloc _) _ _ ⟨1, p, []⟩ rfl ?src ?len ?hB ?next)
            case src => exact cells_new _ _ _
            case len => omega
            case hB => simp; omega
            case next =>
              intro ad c' w' k1 k2
              have k3 := below_grown (hown.alloc _) (by simp; omega) (hbl.alloc hB _) k2
              clear k2 hown hbl
              go_wp2
              refine wp_goto ⟨⟨p + 1, _, acc ++ [⟨1, p, []⟩], _, rfl, rfl, rfl, rfl, by go_num, rfl, by omega, by simp; omega, by simpa using k1, k3, .inl ⟨rfl, C⟩⟩, ?_⟩
              simp [spM, intOf]
              omega

          have c3 := c
          have c3' : ((s[p].toNat : Int) == 40) = false := by rw [beq_eq_false_iff_ne]; omega
          clear c
          by_cases c : s[p].toNat = 41
          · skip
            have C : Hid (sp (s.data.toList.drop (p + 1)) (p + 1) (acc ++ [⟨2, p, []⟩]) = sp s.data.toList 0 []) := by
              rw [← hq.out, drop_at s p hp]
              exact (sp_close _ _ _ c).symm
            have c' : ((s[p].toNat : Int) == 41) = true := by rw [beq_iff_eq]; omega
            clear c hq c0 c1 c2 c3
            go_wp2_with fail
            refine (hia _).mono ?_
            rintro e w2 ⟨rfl, rfl⟩
            go_wp2_with (at_builtin; refine append_tok rfl (.tmp 50) (.tmp 53) rfl w.heap.size v acc rfl (hown.alloc _) _ _ ⟨2, p, []⟩ rfl ?src ?len ?hB ?next)
            case src => exact cells_new _ _ _
            case len => omega
            case hB => simp; omega
            case next =>
              intro ad c' w' k1 k2
              have k3 := below_grown (hown.alloc _) (by simp; omega) (hbl.alloc hB _) k2
              clear k2 hown hbl
              go_wp2
              refine wp_goto ⟨⟨p + 1, _, acc ++ [⟨2, p, []⟩], _, rfl, rfl, rfl, rfl, by go_num, rfl, by omega, by simp; omega, by simpa using k1, k3, .inl ⟨rfl, C⟩⟩, ?_⟩
              simp [spM, intOf]
              omega

          have c4 := c
          have c4' : ((s[p].toNat : Int) == 41) = false := by rw [beq_eq_false_iff_ne]; omega
          clear c
          have hpa := parts s[p]
          rcases (by cases isParts s[p] <;> simp : isParts s[p] = true ∨ isParts s[p] = false) with c | c
          · have C : Hid (sp (s.data.toList.drop (p + 1)) (p + 1) acc = sp s.data.toList 0 []) := by
              rw [← hq.out, drop_at s p hp]
              exact (sp_parts _ _ _ c).symm
            rw [c] at hpa
            clear c c0 c1 c2 c3 c4 hq
            go_wp2_with fail
            refine (hia _).mono ?_
            rintro e w2 ⟨rfl, rfl⟩
            go_wp2_with fail
            refine (hpa _).mono ?_
            rintro e w2 ⟨rfl, rfl⟩
            go_wp2
            refine wp_goto ⟨⟨p + 1, _, acc, _, rfl, rfl, rfl, rfl, by go_num, rfl, by omega, by omega, hown, hbl, .inl ⟨rfl, C⟩⟩, ?_⟩
            simp [spM, intOf]
            omega
          · have HR : Hid (sp s.data.toList 0 [] = .error (12, p)) := by
              rw [← hq.out, drop_at s p hp]
              exact sp_bad _ _ _ c0 c1 c2 c3 c4 c
            rw [c] at hpa
            clear c c0 c1 c2 c3 c4 hq
            go_wp2_with fail
            refine (hia _).mono ?_
            rintro e w2 ⟨rfl, rfl⟩
            go_wp2_with fail
            refine (hpa _).mono ?_
            rintro e w2 ⟨rfl, rfl⟩
            go_wp2
            go_ret3
            exact se_no HR.out rfl rfl hbl
      · have HR : Hid (sp s.data.toList 0 [] = .ok acc) := by
          rw [← hq.out, drop_end s p (by omega)]
          exact sp_nil _ _
        have hp' : p = s.size := by omega
        subst hp'
        clear hq
        go_wp2
        go_ret3
        exact se_ok HR.out hown hbl
    · refine ⟨_, rfl, ?_⟩
      by_cases hp : p < s.size
      · have hps : (p : Int) < (s.size : Int) := by omega
        have hia := inAtom s[p]
        rcases (by cases isAtom s[p] <;> simp : isAtom s[p] = true ∨ isAtom s[p] = false) with c0 | c0
        · have C : Hid (aS s.data.toList fr (p + 1) acc = sp s.data.toList 0 []) := by
            rw [← hq.out]
            exact (aS_step (drop_at s p hp) c0 acc).symm
          rw [c0] at hia
          clear c0 hq hst
          go_wp2_with fail
          refine (hia _).mono ?_
          rintro e w2 ⟨rfl, rfl⟩
          go_wp2
          refine wp_goto ⟨⟨p + 1, fr, acc, _, rfl, rfl, rfl, rfl, by go_num, rfl, by omega, by omega, hown, hbl, .inr (.inl ⟨rfl, by omega, haf, fun h => by omega, C⟩)⟩, ?_⟩
          simp [spM, intOf]
          split <;> split <;> omega
        · have hne : p ≠ fr := fun h => by
            obtain ⟨_, h2⟩ := hst h
            rw [c0] at h2
            cases h2
          have C : Hid (sp (s.data.toList.drop p) p (acc ++ [⟨3, fr, (s.data.toList.drop fr).take (p - fr)⟩]) = sp s.data.toList 0 []) := by
            rw [← hq.out]
            exact (aS_stop (fun c r h => by rw [drop_at s p hp] at h; cases h; exact c0) acc).symm
          rw [c0] at hia
          clear c0 hq hst
          have hfp : (fr : Int) ≤ (p : Int) := by omega
          have hpp : (p : Int) ≤ (s.size : Int) := by omega
          go_wp2_with fail
          refine (hia _).mono ?_
          rintro e w2 ⟨rfl, rfl⟩
          go_wp2_with fail
          refine (sClone _ _ (by rw [extract_str, str_size]; simp; omega)).mono ?_
          rintro e w3 ⟨rfl, hcl⟩
          rw [extract_str]
          have hown3 := owns_below hown hcl
          have hbl3 := hbl.trans (hcl.mono hB)
          have hB3 := hbl3.size
          clear hown hbl hcl
          go_wp2_with (at_builtin; refine append_tok rfl (.tmp 88) (.tmp 96) rfl w.heap.size v acc rfl (hown3.alloc _) _ _ ⟨3, fr, (s.data.toList.drop fr).take (p - fr)⟩ rfl ?src ?len ?hB ?next)
          case src => exact cells_new _ _ _
          case len => omega
          case hB => simp; omega
          case next =>
            intro ad c' w' k1 k2
            have k3 := below_grown (hown3.alloc _) (by simp; omega) (hbl3.alloc hB3 _) k2
            clear k2 hown3 hbl3
            go_wp2
            refine wp_goto ⟨⟨p, _, _, _, rfl, rfl, rfl, rfl, rfl, rfl, by omega, by simp; omega, by simpa using k1, k3, .inl ⟨rfl, C⟩⟩, ?_⟩
            simp [spM, intOf]
            split <;> omega
      · have hne : p ≠ fr := fun h => by
          obtain ⟨h2, _⟩ := hst h
          exact hp h2
        have C : Hid (sp (s.data.toList.drop p) p (acc ++ [⟨3, fr, (s.data.toList.drop fr).take (p - fr)⟩]) = sp s.data.toList 0 []) := by
          rw [← hq.out]
          exact (aS_stop (fun c r h => by rw [drop_end s p (by omega)] at h; cases h) acc).symm
        clear hq hst
        have hps : ¬ (p : Int) < (s.size : Int) := by omega
        have hfp : (fr : Int) ≤ (p : Int) := by omega
        have hpp : (p : Int) ≤ (s.size : Int) := by omega
        go_wp2_with fail
        refine (sClone _ _ (by rw [extract_str, str_size]; simp; omega)).mono ?_
        rintro e w3 ⟨rfl, hcl⟩
        rw [extract_str]
        have hown3 := owns_below hown hcl
        have hbl3 := hbl.trans (hcl.mono hB)
        have hB3 := hbl3.size
        clear hown hbl hcl
        go_wp2_with (at_builtin; refine append_tok rfl (.tmp 88) (.tmp 96) rfl w.heap.size v acc rfl (hown3.alloc _) _ _ ⟨3, fr, (s.data.toList.drop fr).take (p - fr)⟩ rfl ?src ?len ?hB ?next)
        case src => exact cells_new _ _ _
        case len => omega
        case hB => simp; omega
        case next =>
          intro ad c' w' k1 k2
          have k3 := below_grown (hown3.alloc _) (by simp; omega) (hbl3.alloc hB3 _) k2
          clear k2 hown3 hbl3
          go_wp2
          refine wp_goto ⟨⟨p, _, _, _, rfl, rfl, rfl, rfl, rfl, rfl, by omega, by simp; omega, by simpa using k1, k3, .inl ⟨rfl, C⟩⟩, ?_⟩
          simp [spM, intOf]
          split <;> omega
    · refine ⟨_, rfl, ?_⟩
      by_cases hp : p < s.size
      · have hps : (p : Int) < (s.size : Int) := by omega
        by_cases c : s[p].toNat = 10
        · have C : Hid (sp (s.data.toList.drop p) p acc = sp s.data.toList 0 []) := by
            rw [← hq.out]
            exact (rS_stop (fun c' r h => by rw [drop_at s p hp] at h; cases h; simp [notNl, c]) acc).symm
          have hne : p ≠ fr := fun h => by
            obtain ⟨_, h2⟩ := hst h
            omega
          have c' : ((s[p].toNat : Int) != 10) = false := by rw [bne_eq_false_iff_eq]; omega
          clear c hq hst
          go_wp2
          refine wp_goto ⟨⟨p, fr, acc, _, rfl, rfl, rfl, rfl, rfl, rfl, by omega, by omega, hown, hbl, .inl ⟨rfl, C⟩⟩, ?_⟩
          simp [spM, intOf]
          split <;> omega
        · have C : Hid (rS s.data.toList (p + 1) acc = sp s.data.toList 0 []) := by
            rw [← hq.out]
            exact (rS_step (drop_at s p hp) (by simp [notNl, c]) acc).symm
          have c' : ((s[p].toNat : Int) != 10) = true := by rw [bne_iff_ne]; omega
          clear c hq hst
          go_wp2
          refine wp_goto ⟨⟨p + 1, fr, acc, _, rfl, rfl, rfl, rfl, by go_num, rfl, by omega, by omega, hown, hbl, .inr (.inr (.inl ⟨rfl, by omega, fun h => by omega, C⟩))⟩, ?_⟩
          simp [spM, intOf]
          split <;> split <;> omega
      · have hne : p ≠ fr := fun h => by
          obtain ⟨h2, _⟩ := hst h
          exact hp h2
        have C : Hid (sp (s.data.toList.drop p) p acc = sp s.data.toList 0 []) := by
          rw [← hq.out]
          exact (rS_stop (fun c r h => by rw [drop_end s p (by omega)] at h; cases h) acc).symm
        have hps : ¬ (p : Int) < (s.size : Int) := by omega
        clear hq hst
        go_wp2
        refine wp_goto ⟨⟨p, fr, acc, _, rfl, rfl, rfl, rfl, rfl, rfl, by omega, by omega, hown, hbl, .inl ⟨rfl, C⟩⟩, ?_⟩
        simp [spM, intOf]
        split <;> omega
    · refine ⟨_, rfl, ?_⟩
      have hrq := fun w => readQuoted s fr w hs hp
      have hqq := hq.out
      rw [drop_at s fr hp, sp_quoted _ _ _ hc] at hqq
      have hnx := q_next (s.data.toList.drop (fr + 1)).length (s.data.toList.drop (fr + 1)) (fr + 1) fr []
      have hwy := q_why (s.data.toList.drop (fr + 1)).length (s.data.toList.drop (fr + 1)) (fr + 1) fr []
      generalize q (s.data.toList.drop (fr + 1)) (fr + 1) fr [] = r at *
      clear hq hc
      cases r with
      | error yb =>
        obtain ⟨y, b⟩ := yb
        have hy := hwy y b (Nat.le_refl _) rfl
        have hy' : ((y : Int) != 0) = true := by rw [bne_iff_ne]; omega
        simp only at hqq
        have HR : Hid (sp s.data.toList 0 [] = .error (y, b)) := hqq.symm
        clear hqq hy hwy hnx
        go_wp2_with fail
        refine (hrq _).mono ?_
        rintro e w3 ⟨he, hcl⟩
        simp only at he
        subst he
        have hbl3 := hbl.trans (hcl.mono hB)
        clear hown hbl hcl
        go_wp2
        go_ret3
        exact se_no HR.out rfl rfl hbl3
      | ok tn =>
        obtain ⟨tx, nx⟩ := tn
        have hn := hnx tx nx (Nat.le_refl _) rfl
        rw [List.length_drop, size_len] at hn
        simp only [List.drop_drop] at hqq
        rw [show fr + 1 + (nx - (fr + 1)) = nx from by omega] at hqq
        have C : Hid (sp (s.data.toList.drop nx) nx (acc ++ [⟨4, fr, tx⟩]) = sp s.data.toList 0 []) := hqq
        have hn1 : fr + 2 ≤ nx := by omega
        have hn2 : nx ≤ s.size := by omega
        clear hqq hn hnx hwy
        go_wp2_with fail
        refine (hrq _).mono ?_
        rintro e w3 ⟨he, hcl⟩
        simp only at he
        subst he
        have hown3 := owns_below hown hcl
        have hbl3 := hbl.trans (hcl.mono hB)
        have hB3 := hbl3.size
        clear hown hbl hcl
        go_wp2_with (at_builtin; refine append_tok rfl (.tmp 109) (.tmp 113) rfl w.heap.size v acc rfl (hown3.alloc _) _ _ ⟨4, fr, tx⟩ rfl ?src ?len ?hB ?next)
        case src => exact cells_new _ _ _
        case len => omega
        case hB => simp; omega
        case next =>
          intro ad c' w' k1 k2
          have k3 := below_grown (hown3.alloc _) (by simp; omega) (hbl3.alloc hB3 _) k2
          clear k2 hown3 hbl3
          go_wp2
          refine wp_goto ⟨⟨nx, fr, _, _, rfl, rfl, rfl, rfl, rfl, rfl, by omega, by simp; omega, by simpa using k1, k3, .inl ⟨rfl, C⟩⟩, ?_⟩
          simp [spM, intOf]
          omega

set_option maxRecDepth 1000000 in
theorem split_long (s : ByteArray) (w : World) (hs : 8192 < s.size) : Calls Tryz.prog 29 #[.string s] w (SE (.error (3, 0)) w) := by
  have hs' : (8192 : Int) < (s.size : Int) := by omega
  go_enter Tryz.func29, Tryz.ntmps29
  go_wp2
  go_step3
  go_wp2
  rw [Exit.noGoto_ret]
  go_ret3
  exact se_no rfl rfl rfl (Below.refl _ _)
/-- What Split answers. -/
theorem split (s : ByteArray) (w : World) : Calls Tryz.prog 29 #[.string s] w (SE (splitR s.data.toList) w) := by
  unfold splitR
  rw [size_len]
  split
  · rename_i h
    exact split_long s w h
  · rename_i h
    exact split_short s w (by omega)

end Go.Proofs.YtcjlifhehiolkaaGreat
