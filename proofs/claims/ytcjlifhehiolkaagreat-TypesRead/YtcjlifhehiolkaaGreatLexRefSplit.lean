/-
  The document's own Split: its walk.
-/
import Derived.Test.YtcjlifhehiolkaaGreatLexRefQuoted
namespace Go.Proofs.YtcjlifhehiolkaaGreat
open Go.RowKit

/-- What the document's Split answers. -/
def RSE (r : SR) (w : World) (e : Ending) (w' : World) : Prop :=
  (match r with
  | .ok l => ∃ v, e = .returned (.tuple #[v, .int .i64 0, .int .i64 0]) ∧ w'.ownsRow w.heap.size 68 3 v l.length (tcs l)
  | .error (y, b) => e = .returned (.tuple #[.slice none 0 0, .int .i64 (y : Int), .int .i64 (b : Int)])) ∧ Below w.heap.size w w'
theorem rse_ok {r : SR} {w w' : World} {l : List Tok} {v : Value} (h : r = .ok l) (ho : w'.ownsRow w.heap.size 68 3 v l.length (tcs l)) (hb : Below w.heap.size w w') : RSE r w (.returned (.tuple #[v, .int .i64 0, .int .i64 0])) w' := by
  subst h
  exact ⟨⟨v, rfl, ho⟩, hb⟩
theorem rse_no {r : SR} {w w' : World} {y b : Nat} {z x : Int} (h : r = .error (y, b)) (hz : z = (y : Int)) (hx : x = (b : Int)) (hb : Below w.heap.size w w') : RSE r w (.returned (.tuple #[.slice none 0 0, .int .i64 z, .int .i64 x])) w' := by
  subst h hz hx
  exact ⟨rfl, hb⟩
theorem atom_range (c : UInt8) : isAtom c = true ↔ (33 ≤ c.toNat ∧ c.toNat ≤ 126 ∧ c.toNat ≠ 59 ∧ c.toNat ≠ 40 ∧ c.toNat ≠ 41 ∧ c.toNat ≠ 34) := by
  simp only [isAtom, isPlain, Bool.and_eq_true, Bool.not_eq_true', decide_eq_true_eq, decide_eq_false_iff_not]
  omega

set_option maxHeartbeats 8000000 in
set_option maxRecDepth 1000000 in
theorem refSplit_short (s : ByteArray) (w : World) (hs : s.size ≤ 8192) : Calls Tryz.prog 33 #[.string s] w (RSE (sp s.data.toList 0 []) w) := by
  have hs' : ¬ (8192 : Int) < (s.size : Int) := by omega
  generalize hR : sp s.data.toList 0 [] = R
  go_enter Tryz.func33, Tryz.ntmps33
  go_wp2
  go_loopg [5, 6] s.size (fun g x i wr => ∃ (p : Nat) (acc : List Tok), g + p = s.size ∧ p ≤ s.size ∧ acc.length ≤ p ∧ i = .int .i64 p ∧ wr.ownsRow w.heap.size 68 3 x acc.length (tcs acc) ∧ Below w.heap.size w wr ∧ Hid (sp (s.data.toList.drop p) p acc = R))
  case atStart => exact ⟨0, [], rfl, Nat.zero_le _, Nat.le_refl _, rfl, World.ownsRow_nil _ _ _ _, Below.refl _ _, hR⟩
  case round =>
    obtain ⟨p, acc, hg, hp1, hacc, rfl, hown, hbl, hq⟩ := hrel
    have hB : w.heap.size ≤ wr.heap.size := hbl.size
    clear hR
    by_cases hp : p < s.size
    · have hps : (p : Int) < (s.size : Int) := by omega
      have hpa := refParts s[p]
      have h256 : s[p].toNat < 256 := s[p].toNat_lt
      rcases (by cases isParts s[p] <;> simp : isParts s[p] = true ∨ isParts s[p] = false) with c0 | c0
      · have C : Hid (sp (s.data.toList.drop (p + 1)) (p + 1) acc = R) := by
          rw [← hq.out, drop_at s p hp]
          exact (sp_parts _ _ _ c0).symm
        rw [c0] at hpa
        clear c0 hq
        go_wp2_with fail
        refine (hpa _).mono ?_
        rintro e w2 ⟨rfl, rfl⟩
        go_wp2
        go_roundg (s.size - (p + 1))
        case measure => omega
        case rel => exact ⟨p + 1, acc, by omega, by omega, by first | omega | (simp; omega), by go_num, hown, hbl, C⟩
      rw [c0] at hpa
      by_cases c1 : s[p].toNat = 59
      · have c1' : ((s[p].toNat : Int) == 59) = true := by rw [beq_iff_eq]; omega
        have C0 : Hid (rS s.data.toList p acc = R) := by
          rw [← hq.out]
          exact (rS_start (drop_at s p hp) c1 acc).symm
        have c1n : Hid (s[p].toNat = 59) := c1
        clear c0 c1 hq
        go_wp2_with fail
        refine (hpa _).mono ?_
        rintro e w2 ⟨rfl, rfl⟩
        go_wp2
        go_loopg [6] (s.size - p) (fun g i wr2 => ∃ k : Nat, g + k = s.size ∧ p ≤ k ∧ k ≤ s.size ∧ i = .int .i64 k ∧ Hid (rS s.data.toList k acc = R) ∧ w2 = wr2)
        case atStart => exact ⟨p, by omega, Nat.le_refl _, hp1, rfl, C0, rfl⟩
        case round =>
          obtain ⟨k, hgk, hpk, hks, rfl, hk2, rfl⟩ := hrel
          clear C0
          by_cases hk : k < s.size
          · have hki : (k : Int) < (s.size : Int) := by omega
            by_cases d : s[k].toNat = 10
            · have d' : ((s[k].toNat : Int) != 10) = false := by rw [bne_eq_false_iff_eq]; omega
              have C : Hid (sp (s.data.toList.drop k) k acc = R) := by
                rw [← hk2.out]
                exact (rS_stop (fun c' r h => by rw [drop_at s k hk] at h; cases h; simp [notNl, d]) acc).symm
              have hne : p < k := by
                rcases Nat.lt_or_ge p k with h | h
                · exact h
                · have e : k = p := by omega
                  subst e
                  have := c1n.out
                  omega
              clear hk2 d c1n
              go_wp2
              go_roundg (s.size - (k))
              case measure => omega
              case rel => exact ⟨k, acc, by omega, by omega, by first | omega | (simp; omega), by go_num, hown, hbl, C⟩
            · have d' : ((s[k].toNat : Int) != 10) = true := by rw [bne_iff_ne]; omega
              have C : Hid (rS s.data.toList (k + 1) acc = R) := by
                rw [← hk2.out]
                exact (rS_step (drop_at s k hk) (by simp [notNl, d]) acc).symm
              clear hk2 d
              go_wp2
              go_roundg (s.size - (k + 1))
              case measure => omega
              case rel => exact ⟨k + 1, by omega, by omega, by omega, by go_num, C, rfl⟩
          · have hki : ¬ (k : Int) < (s.size : Int) := by omega
            have C : Hid (sp (s.data.toList.drop k) k acc = R) := by
              rw [← hk2.out]
              exact (rS_stop (fun c' r h => by rw [drop_end s k (by omega)] at h; cases h) acc).symm
            clear hk2 c1n
            go_wp2
            go_roundg (s.size - (k))
            case measure => omega
            case rel => exact ⟨k, acc, by omega, by omega, by first | omega | (simp; omega), by go_num, hown, hbl, C⟩
      have c1' : ((s[p].toNat : Int) == 59) = false := by rw [beq_eq_false_iff_ne]; omega
      by_cases c2 : s[p].toNat = 40
      · have c2' : ((s[p].toNat : Int) == 40) = true := by rw [beq_iff_eq]; omega
        have C : Hid (sp (s.data.toList.drop (p + 1)) (p + 1) (acc ++ [⟨1, p, []⟩]) = R) := by
          rw [← hq.out, drop_at s p hp]
          exact (sp_open _ _ _ c2).symm
        clear c0 c1 c2 hq
        go_wp2_with fail
        refine (hpa _).mono ?_
        rintro e w2 ⟨rfl, rfl⟩
        go_wp2_with (at_builtin; refine append_ref rfl (.tmp 99) (.tmp 102) rfl w.heap.size u5 acc rfl (hown.alloc _) _ _ ⟨1, p, []⟩ rfl ?src ?len ?hB ?next)
        case src => exact cells_new _ _ _
        case len => omega
        case hB => first | omega | (simp; omega)
        case next =>
          intro ad c' w' k1 k2
          have k3 := below_grown (hown.alloc _) (by first | omega | (simp; omega)) (hbl.alloc hB _) k2
          clear k2 hown hbl
          go_wp2
          go_roundg (s.size - (p + 1))
          case measure => omega
          case rel => exact ⟨p + 1, acc ++ [⟨1, p, []⟩], by omega, by omega, by first | omega | (simp; omega), by go_num, by simpa using k1, k3, C⟩
      have c2' : ((s[p].toNat : Int) == 40) = false := by rw [beq_eq_false_iff_ne]; omega
      by_cases c3 : s[p].toNat = 41
      · have c3' : ((s[p].toNat : Int) == 41) = true := by rw [beq_iff_eq]; omega
        have C : Hid (sp (s.data.toList.drop (p + 1)) (p + 1) (acc ++ [⟨2, p, []⟩]) = R) := by
          rw [← hq.out, drop_at s p hp]
          exact (sp_close _ _ _ c3).symm
        clear c0 c1 c2 c3 hq
        go_wp2_with fail
        refine (hpa _).mono ?_
        rintro e w2 ⟨rfl, rfl⟩
        go_wp2_with (at_builtin; refine append_ref rfl (.tmp 109) (.tmp 112) rfl w.heap.size u5 acc rfl (hown.alloc _) _ _ ⟨2, p, []⟩ rfl ?src ?len ?hB ?next)
        case src => exact cells_new _ _ _
        case len => omega
        case hB => first | omega | (simp; omega)
        case next =>
          intro ad c' w' k1 k2
          have k3 := below_grown (hown.alloc _) (by first | omega | (simp; omega)) (hbl.alloc hB _) k2
          clear k2 hown hbl
          go_wp2
          go_roundg (s.size - (p + 1))
          case measure => omega
          case rel => exact ⟨p + 1, acc ++ [⟨2, p, []⟩], by omega, by omega, by first | omega | (simp; omega), by go_num, by simpa using k1, k3, C⟩
      have c3' : ((s[p].toNat : Int) == 41) = false := by rw [beq_eq_false_iff_ne]; omega
      by_cases c4 : s[p].toNat = 34
      · have c4' : ((s[p].toNat : Int) == 34) = true := by rw [beq_iff_eq]; omega
        have hrq := fun w => refQuoted s p w hs hp
        have hqq := hq.out
        rw [drop_at s p hp, sp_quoted _ _ _ c4] at hqq
        have hnx := q_next (s.data.toList.drop (p + 1)).length (s.data.toList.drop (p + 1)) (p + 1) p []
        have hwy := q_why (s.data.toList.drop (p + 1)).length (s.data.toList.drop (p + 1)) (p + 1) p []
        generalize q (s.data.toList.drop (p + 1)) (p + 1) p [] = r at *
        clear hq c0 c1 c2 c3 c4
        cases r with
        | error yb =>
          obtain ⟨y, b⟩ := yb
          have hy := hwy y b (Nat.le_refl _) rfl
          have hy' : ((y : Int) != 0) = true := by rw [bne_iff_ne]; omega
          simp only at hqq
          have HR : Hid (R = .error (y, b)) := hqq.symm
          clear hqq hy hwy hnx
          go_wp2_with fail
          refine (hpa _).mono ?_
          rintro e w2 ⟨rfl, rfl⟩
          go_wp2_with fail
          refine (hrq _).mono ?_
          rintro e w3 ⟨he, hcl⟩
          simp only at he
          subst he
          have hbl3 := hbl.trans (hcl.mono hB)
          clear hown hbl hcl
          go_wp2
          go_ret3
          exact rse_no HR.out rfl rfl hbl3
        | ok tn =>
          obtain ⟨tx, nx⟩ := tn
          have hn := hnx tx nx (Nat.le_refl _) rfl
          rw [List.length_drop, size_len] at hn
          simp only [List.drop_drop] at hqq
          rw [show p + 1 + (nx - (p + 1)) = nx from by omega] at hqq
          have C : Hid (sp (s.data.toList.drop nx) nx (acc ++ [⟨4, p, tx⟩]) = R) := hqq
          have hn1 : p + 2 ≤ nx := by omega
          have hn2 : nx ≤ s.size := by omega
          clear hqq hn hnx hwy
          go_wp2_with fail
          refine (hpa _).mono ?_
          rintro e w2 ⟨rfl, rfl⟩
          go_wp2_with fail
          refine (hrq _).mono ?_
          rintro e w3 ⟨he, hcl⟩
          simp only at he
          subst he
          have hown3 := owns_below hown hcl
          have hbl3 := hbl.trans (hcl.mono hB)
          have hB3 := hbl3.size
          clear hown hbl hcl
          go_wp2_with (at_builtin; refine append_ref rfl (.tmp 131) (.tmp 135) rfl w.heap.size u5 acc rfl (hown3.alloc _) _ _ ⟨4, p, tx⟩ rfl ?src ?len ?hB ?next)
          case src => exact cells_new _ _ _
          case len => omega
          case hB => first | omega | (simp; omega)
          case next =>
            intro ad c' w' k1 k2
            have k3 := below_grown (hown3.alloc _) (by first | omega | (simp; omega)) (hbl3.alloc hB3 _) k2
            clear k2 hown3 hbl3
            go_wp2
            go_roundg (s.size - (nx))
            case measure => omega
            case rel => exact ⟨nx, acc ++ [⟨4, p, tx⟩], by omega, by omega, by first | omega | (simp; omega), by go_num, by simpa using k1, k3, C⟩
      have c4' : ((s[p].toNat : Int) == 34) = false := by rw [beq_eq_false_iff_ne]; omega
      by_cases c5 : 33 ≤ s[p].toNat ∧ s[p].toNat ≤ 126
      · have d1 : ¬ (s[p].toNat : Int) < 33 := by omega
        have d2 : ¬ (126 : Int) < (s[p].toNat : Int) := by omega
        have ha : isAtom s[p] = true := (atom_range _).2 ⟨c5.1, c5.2, c1, c2, c3, c4⟩
        have C0 : Hid (aS s.data.toList p p acc = R) := by
          rw [← hq.out]
          exact (aS_start (drop_at s p hp) ha acc).symm
        have HA : Hid (isAtom s[p] = true) := ha
        clear c0 c1 c2 c3 c4 c5 hq ha
        go_wp2_with fail
        refine (hpa _).mono ?_
        rintro e w2 ⟨rfl, rfl⟩
        go_wp2
        go_loopg [12] (s.size - p) (fun g i wr2 => ∃ k : Nat, g + k = s.size ∧ p ≤ k ∧ k ≤ s.size ∧ i = .int .i64 k ∧ Hid (aS s.data.toList p k acc = R) ∧ w2 = wr2)
        case atStart => exact ⟨p, by omega, Nat.le_refl _, hp1, rfl, C0, rfl⟩
        case round =>
          obtain ⟨k, hgk, hpk, hks, rfl, hk2, rfl⟩ := hrel
          clear C0
          have hpki : (p : Int) ≤ (k : Int) := by omega
          have hksi : (k : Int) ≤ (s.size : Int) := by omega
          by_cases hk : k < s.size
          · have hki : (k : Int) < (s.size : Int) := by omega
            by_cases ha : isAtom s[k] = true
            · have C : Hid (aS s.data.toList p (k + 1) acc = R) := by
                rw [← hk2.out]
                exact (aS_step (drop_at s k hk) ha acc).symm
              have hr := (atom_range _).1 ha
              have g1 : (33 : Int) ≤ (s[k].toNat : Int) := by omega
              have g2 : (s[k].toNat : Int) ≤ 126 := by omega
              have g3 : ((s[k].toNat : Int) != 59) = true := by rw [bne_iff_ne]; omega
              have g4 : ((s[k].toNat : Int) != 40) = true := by rw [bne_iff_ne]; omega
              have g5 : ((s[k].toNat : Int) != 41) = true := by rw [bne_iff_ne]; omega
              have g6 : ((s[k].toNat : Int) != 34) = true := by rw [bne_iff_ne]; omega
              clear hk2 ha hr
              go_wp2
              go_roundg (s.size - (k + 1))
              case measure => omega
              case rel => exact ⟨k + 1, by omega, by omega, by omega, by go_num, C, rfl⟩
            · have hstop : ∀ c r, s.data.toList.drop k = c :: r → isAtom c = false := fun c r h => by
                rw [drop_at s k hk] at h
                cases h
                exact Bool.eq_false_iff.2 ha
              have hne : p < k := by
                rcases Nat.lt_or_ge p k with h | h
                · exact h
                · have e : k = p := by omega
                  subst e
                  exact absurd HA.out ha
              have hr : ¬ (33 ≤ s[k].toNat ∧ s[k].toNat ≤ 126 ∧ s[k].toNat ≠ 59 ∧ s[k].toNat ≠ 40 ∧ s[k].toNat ≠ 41 ∧ s[k].toNat ≠ 34) := fun h => ha ((atom_range _).2 h)
              clear ha HA
              by_cases x1 : 33 ≤ s[k].toNat
              · have g1 : (33 : Int) ≤ (s[k].toNat : Int) := by omega
                by_cases x2 : s[k].toNat ≤ 126
                · have g2 : (s[k].toNat : Int) ≤ 126 := by omega
                  by_cases x3 : s[k].toNat = 59
                  · have g3 : ((s[k].toNat : Int) != 59) = false := by rw [bne_eq_false_iff_eq]; omega
                    clear x1 x2 x3 hr
                    have C : Hid (sp (s.data.toList.drop k) k (acc ++ [⟨3, p, (s.data.toList.drop p).take (k - p)⟩]) = R) := by
                      rw [← hk2.out]
                      exact (aS_stop hstop acc).symm
                    clear hk2 hstop
                    go_wp2_with (at_builtin; refine append_ref rfl (.tmp 66) (.tmp 73) rfl w.heap.size u5 acc rfl (hown.alloc _) _ _ ⟨3, p, (s.data.toList.drop p).take (k - p)⟩ rfl ?src ?len ?hB ?next)
                    case src =>
                      intro j u hj
                      first | refine cells_new _ [.int .i64 3, .int .i64 (p : Int), .string (s.extract p k)] _ j u ?_ | skip
                      rw [← hj]
                      simp only [tc, extract_str]
                      rfl
                    case len => omega
                    case hB => first | omega | (simp; omega)
                    case next =>
                      intro ad c' w' k1 k2
                      have k3 := below_grown (hown.alloc _) (by first | omega | (simp; omega)) (hbl.alloc hB _) k2
                      clear k2 hown hbl
                      go_wp2
                      go_roundg (s.size - (k))
                      case measure => omega
                      case rel => exact ⟨k, acc ++ [⟨3, p, (s.data.toList.drop p).take (k - p)⟩], by omega, by omega, by first | omega | (simp; omega), by go_num, by simpa using k1, k3, C⟩
                  have g3 : ((s[k].toNat : Int) != 59) = true := by rw [bne_iff_ne]; omega
                  by_cases x4 : s[k].toNat = 40
                  · have g4 : ((s[k].toNat : Int) != 40) = false := by rw [bne_eq_false_iff_eq]; omega
                    clear x1 x2 x3 x4 hr
                    have C : Hid (sp (s.data.toList.drop k) k (acc ++ [⟨3, p, (s.data.toList.drop p).take (k - p)⟩]) = R) := by
                      rw [← hk2.out]
                      exact (aS_stop hstop acc).symm
                    clear hk2 hstop
                    go_wp2_with (at_builtin; refine append_ref rfl (.tmp 66) (.tmp 73) rfl w.heap.size u5 acc rfl (hown.alloc _) _ _ ⟨3, p, (s.data.toList.drop p).take (k - p)⟩ rfl ?src ?len ?hB ?next)
                    case src =>
                      intro j u hj
                      first | refine cells_new _ [.int .i64 3, .int .i64 (p : Int), .string (s.extract p k)] _ j u ?_ | skip
                      rw [← hj]
                      simp only [tc, extract_str]
                      rfl
                    case len => omega
                    case hB => first | omega | (simp; omega)
                    case next =>
                      intro ad c' w' k1 k2
                      have k3 := below_grown (hown.alloc _) (by first | omega | (simp; omega)) (hbl.alloc hB _) k2
                      clear k2 hown hbl
                      go_wp2
                      go_roundg (s.size - (k))
                      case measure => omega
                      case rel => exact ⟨k, acc ++ [⟨3, p, (s.data.toList.drop p).take (k - p)⟩], by omega, by omega, by first | omega | (simp; omega), by go_num, by simpa using k1, k3, C⟩
                  have g4 : ((s[k].toNat : Int) != 40) = true := by rw [bne_iff_ne]; omega
                  by_cases x5 : s[k].toNat = 41
                  · have g5 : ((s[k].toNat : Int) != 41) = false := by rw [bne_eq_false_iff_eq]; omega
                    clear x1 x2 x3 x4 x5 hr
                    have C : Hid (sp (s.data.toList.drop k) k (acc ++ [⟨3, p, (s.data.toList.drop p).take (k - p)⟩]) = R) := by
                      rw [← hk2.out]
                      exact (aS_stop hstop acc).symm
                    clear hk2 hstop
                    go_wp2_with (at_builtin; refine append_ref rfl (.tmp 66) (.tmp 73) rfl w.heap.size u5 acc rfl (hown.alloc _) _ _ ⟨3, p, (s.data.toList.drop p).take (k - p)⟩ rfl ?src ?len ?hB ?next)
                    case src =>
                      intro j u hj
                      first | refine cells_new _ [.int .i64 3, .int .i64 (p : Int), .string (s.extract p k)] _ j u ?_ | skip
                      rw [← hj]
                      simp only [tc, extract_str]
                      rfl
                    case len => omega
                    case hB => first | omega | (simp; omega)
                    case next =>
                      intro ad c' w' k1 k2
                      have k3 := below_grown (hown.alloc _) (by first | omega | (simp; omega)) (hbl.alloc hB _) k2
                      clear k2 hown hbl
                      go_wp2
                      go_roundg (s.size - (k))
                      case measure => omega
                      case rel => exact ⟨k, acc ++ [⟨3, p, (s.data.toList.drop p).take (k - p)⟩], by omega, by omega, by first | omega | (simp; omega), by go_num, by simpa using k1, k3, C⟩
                  have g5 : ((s[k].toNat : Int) != 41) = true := by rw [bne_iff_ne]; omega
                  have g6 : ((s[k].toNat : Int) != 34) = false := by rw [bne_eq_false_iff_eq]; omega
                  clear x1 x2 x3 x4 x5 hr
                  have C : Hid (sp (s.data.toList.drop k) k (acc ++ [⟨3, p, (s.data.toList.drop p).take (k - p)⟩]) = R) := by
                    rw [← hk2.out]
                    exact (aS_stop hstop acc).symm
                  clear hk2 hstop
                  go_wp2_with (at_builtin; refine append_ref rfl (.tmp 66) (.tmp 73) rfl w.heap.size u5 acc rfl (hown.alloc _) _ _ ⟨3, p, (s.data.toList.drop p).take (k - p)⟩ rfl ?src ?len ?hB ?next)
                  case src =>
                    intro j u hj
                    first | refine cells_new _ [.int .i64 3, .int .i64 (p : Int), .string (s.extract p k)] _ j u ?_ | skip
                    rw [← hj]
                    simp only [tc, extract_str]
                    rfl
                  case len => omega
                  case hB => first | omega | (simp; omega)
                  case next =>
                    intro ad c' w' k1 k2
                    have k3 := below_grown (hown.alloc _) (by first | omega | (simp; omega)) (hbl.alloc hB _) k2
                    clear k2 hown hbl
                    go_wp2
                    go_roundg (s.size - (k))
                    case measure => omega
                    case rel => exact ⟨k, acc ++ [⟨3, p, (s.data.toList.drop p).take (k - p)⟩], by omega, by omega, by first | omega | (simp; omega), by go_num, by simpa using k1, k3, C⟩
                · have g2 : ¬ (s[k].toNat : Int) ≤ 126 := by omega
                  clear x1 x2 hr
                  have C : Hid (sp (s.data.toList.drop k) k (acc ++ [⟨3, p, (s.data.toList.drop p).take (k - p)⟩]) = R) := by
                    rw [← hk2.out]
                    exact (aS_stop hstop acc).symm
                  clear hk2 hstop
                  go_wp2_with (at_builtin; refine append_ref rfl (.tmp 66) (.tmp 73) rfl w.heap.size u5 acc rfl (hown.alloc _) _ _ ⟨3, p, (s.data.toList.drop p).take (k - p)⟩ rfl ?src ?len ?hB ?next)
                  case src =>
                    intro j u hj
                    first | refine cells_new _ [.int .i64 3, .int .i64 (p : Int), .string (s.extract p k)] _ j u ?_ | skip
                    rw [← hj]
                    simp only [tc, extract_str]
                    rfl
                  case len => omega
                  case hB => first | omega | (simp; omega)
                  case next =>
                    intro ad c' w' k1 k2
                    have k3 := below_grown (hown.alloc _) (by first | omega | (simp; omega)) (hbl.alloc hB _) k2
                    clear k2 hown hbl
                    go_wp2
                    go_roundg (s.size - (k))
                    case measure => omega
                    case rel => exact ⟨k, acc ++ [⟨3, p, (s.data.toList.drop p).take (k - p)⟩], by omega, by omega, by first | omega | (simp; omega), by go_num, by simpa using k1, k3, C⟩
              · have g1 : ¬ (33 : Int) ≤ (s[k].toNat : Int) := by omega
                clear x1 hr
                have C : Hid (sp (s.data.toList.drop k) k (acc ++ [⟨3, p, (s.data.toList.drop p).take (k - p)⟩]) = R) := by
                  rw [← hk2.out]
                  exact (aS_stop hstop acc).symm
                clear hk2 hstop
                go_wp2_with (at_builtin; refine append_ref rfl (.tmp 66) (.tmp 73) rfl w.heap.size u5 acc rfl (hown.alloc _) _ _ ⟨3, p, (s.data.toList.drop p).take (k - p)⟩ rfl ?src ?len ?hB ?next)
                case src =>
                  intro j u hj
                  first | refine cells_new _ [.int .i64 3, .int .i64 (p : Int), .string (s.extract p k)] _ j u ?_ | skip
                  rw [← hj]
                  simp only [tc, extract_str]
                  rfl
                case len => omega
                case hB => first | omega | (simp; omega)
                case next =>
                  intro ad c' w' k1 k2
                  have k3 := below_grown (hown.alloc _) (by first | omega | (simp; omega)) (hbl.alloc hB _) k2
                  clear k2 hown hbl
                  go_wp2
                  go_roundg (s.size - (k))
                  case measure => omega
                  case rel => exact ⟨k, acc ++ [⟨3, p, (s.data.toList.drop p).take (k - p)⟩], by omega, by omega, by first | omega | (simp; omega), by go_num, by simpa using k1, k3, C⟩
          · have hki : ¬ (k : Int) < (s.size : Int) := by omega
            have hstop : ∀ c r, s.data.toList.drop k = c :: r → isAtom c = false := fun c r h => by
              rw [drop_end s k (by omega)] at h
              cases h
            have hne : p < k := by omega
            have C : Hid (sp (s.data.toList.drop k) k (acc ++ [⟨3, p, (s.data.toList.drop p).take (k - p)⟩]) = R) := by
              rw [← hk2.out]
              exact (aS_stop hstop acc).symm
            clear hk2 hstop
            go_wp2_with (at_builtin; refine append_ref rfl (.tmp 66) (.tmp 73) rfl w.heap.size u5 acc rfl (hown.alloc _) _ _ ⟨3, p, (s.data.toList.drop p).take (k - p)⟩ rfl ?src ?len ?hB ?next)
            case src =>
              intro j u hj
              first | refine cells_new _ [.int .i64 3, .int .i64 (p : Int), .string (s.extract p k)] _ j u ?_ | skip
              rw [← hj]
              simp only [tc, extract_str]
              rfl
            case len => omega
            case hB => first | omega | (simp; omega)
            case next =>
              intro ad c' w' k1 k2
              have k3 := below_grown (hown.alloc _) (by first | omega | (simp; omega)) (hbl.alloc hB _) k2
              clear k2 hown hbl
              go_wp2
              go_roundg (s.size - (k))
              case measure => omega
              case rel => exact ⟨k, acc ++ [⟨3, p, (s.data.toList.drop p).take (k - p)⟩], by omega, by omega, by first | omega | (simp; omega), by go_num, by simpa using k1, k3, C⟩
      · have HR : Hid (R = .error (12, p)) := by
          rw [← hq.out, drop_at s p hp]
          refine sp_bad _ _ _ (Bool.eq_false_iff.2 (fun h => c5 ?_)) c4 c1 c2 c3 c0
          have := (atom_range _).1 h
          exact ⟨this.1, this.2.1⟩
        by_cases x1 : s[p].toNat < 33
        · have d1 : (s[p].toNat : Int) < 33 := by omega
          clear c0 c1 c2 c3 c4 c5 x1 hq
          go_wp2_with fail
          refine (hpa _).mono ?_
          rintro e w2 ⟨rfl, rfl⟩
          go_wp2
          go_ret3
          exact rse_no HR.out rfl rfl hbl
        · have d1 : ¬ (s[p].toNat : Int) < 33 := by omega
          have d2 : (126 : Int) < (s[p].toNat : Int) := by omega
          clear c0 c1 c2 c3 c4 c5 x1 hq
          go_wp2_with fail
          refine (hpa _).mono ?_
          rintro e w2 ⟨rfl, rfl⟩
          go_wp2
          go_ret3
          exact rse_no HR.out rfl rfl hbl
    · have HR : Hid (R = .ok acc) := by
        rw [← hq.out, drop_end s p (by omega)]
        exact sp_nil _ _
      have hps : ¬ (p : Int) < (s.size : Int) := by omega
      clear hq
      go_wp2
      go_ret3
      exact rse_ok HR.out hown hbl

set_option maxRecDepth 1000000 in
theorem refSplit_long (s : ByteArray) (w : World) (hs : 8192 < s.size) : Calls Tryz.prog 33 #[.string s] w (RSE (.error (3, 0)) w) := by
  have hs' : (8192 : Int) < (s.size : Int) := by omega
  go_enter Tryz.func33, Tryz.ntmps33
  go_wp2
  go_ret3
  exact rse_no rfl rfl rfl (Below.refl _ _)
/-- What the document's Split answers. -/
theorem refSplit (s : ByteArray) (w : World) : Calls Tryz.prog 33 #[.string s] w (RSE (splitR s.data.toList) w) := by
  unfold splitR
  rw [size_len]
  split
  · rename_i h
    exact refSplit_long s w h
  · rename_i h
    exact refSplit_short s w (by omega)

end Go.Proofs.YtcjlifhehiolkaaGreat
