/-
  The document's own Parse: its walk.
-/
import Derived.Test.YtcjlifhehiolkaaGreatLexRefSplit
import Derived.Test.YtcjlifhehiolkaaGreatTreeOne2
namespace Go.Proofs.YtcjlifhehiolkaaGreat
open Go.RowKit

def zRef : Obj := .cells #[.int .i64 0, .int .i64 0, .string ⟨#[]⟩, .slice none 0 0] 40
theorem took_one {rs : List Tr} (h : Stk rs) (h1 : rs.length = 1) : ∃ b, rs = [b] ∧ ((took rs).length = 0 ↔ b.kids.length = 0) := by
  obtain ⟨b, rfl⟩ := List.length_eq_one_iff.1 h1
  refine ⟨b, rfl, ?_⟩
  have := kids_toks b.kids
  constructor
  · intro h2
    simp only [took] at h2
    omega
  · intro h2
    simp [took, List.eq_nil_of_length_eq_zero h2]
theorem refu_tail {rs : List Tr} {t : Tok} (h : Stk rs) (h1 : rs.length = 1) (h2 : 0 < (took rs).length) (h3 : t.kind ≠ 2) : refu rs t = 11 := by
  obtain ⟨b, rfl, hb⟩ := took_one h h1
  have : b.kids.length ≠ 0 := fun e => by rw [hb.2 e] at h2; omega
  unfold refu
  rw [if_neg (by simp), if_neg (fun h => h3 h.1)]
  simp at this ⊢
  exact this
theorem refu_none {rs : List Tr} {t : Tok} (h : Stk rs) (h1 : ¬ (rs.length = 1 ∧ 0 < (took rs).length ∧ t.kind ≠ 2)) (h2 : ¬ (t.kind = 1 ∧ rs.length = 41)) (h3 : ¬ (t.kind = 2 ∧ rs.length = 1)) : refu rs t = 0 := by
  unfold refu
  rw [if_neg h2, if_neg h3]
  by_cases hl : rs.length = 1
  · obtain ⟨b, rfl, hb⟩ := took_one h hl
    have h4 : t.kind ≠ 2 := fun e => h3 ⟨e, hl⟩
    have h5 : (took [b]).length = 0 := by
      rcases Nat.eq_zero_or_pos (took [b]).length with e | e
      · exact e
      · exact absurd ⟨hl, e, h4⟩ h1
    simp [hb.1 h5]
  · rw [if_neg (fun h => hl h.1)]
theorem refu_nest {rs : List Tr} {t : Tok} (h : t.kind = 1) (h1 : rs.length = 41) : refu rs t = 14 := by simp [refu, h, h1]
theorem refu_form {rs : List Tr} {t : Tok} (h : t.kind = 2) (h1 : rs.length = 1) : refu rs t = 12 := by simp [refu, h, h1]
theorem put_open {rs : List Tr} {t : Tok} (h : t.kind = 1) (h1 : rs ≠ []) : (put rs t).length = rs.length + 1 := by
  cases rs with
  | nil => exact absurd rfl h1
  | cons x r => simp [put, h]
theorem put_close {rs : List Tr} {t : Tok} (h : t.kind = 2) (h1 : 1 < rs.length) : (put rs t).length + 1 = rs.length := by
  match rs, h1 with
  | x :: y :: r, _ => simp [put, h]
theorem put_leaf {rs : List Tr} {t : Tok} (h : t.kind ≠ 1) (h2 : t.kind ≠ 2) (h1 : rs ≠ []) : (put rs t).length = rs.length := by
  cases rs with
  | nil => exact absurd rfl h1
  | cons x r => simp [put, h, h2]

set_option maxHeartbeats 1600000 in
set_option maxRecDepth 1000000 in
theorem refParse (s : ByteArray) (w : World) : Calls Tryz.prog 16 #[.string s] w (PE (parseR s.data.toList) w) := by
  have hsp := fun w => refSplit s w
  cases hs : splitR s.data.toList with
  | error yb =>
    obtain ⟨y, b⟩ := yb
    have HR : Hid (parseR s.data.toList = .error (y, b)) := by simp [Hid, parseR, hs]
    have hy := split_why _ _ _ hs
    have hy' : ((y : Int) != 0) = true := by rw [bne_iff_ne]; omega
    rw [hs] at hsp
    clear hs hy
    go_enter Tryz.func16, Tryz.ntmps16
    go_wp2_with fail
    refine (hsp _).mono ?_
    rintro e w1 ⟨he, hbl⟩
    simp only at he
    subst he
    have hbox : w1.heap[w.heap.size]? = some zRef := by
      rw [hbl.block _ (by simp)]
      exact heap_alloc_new w _
    obtain ⟨d0, d1, d2, d3, f0, f1, f2, f3⟩ := four_cells hbox
    have hB : Below w.heap.size w w1 := ((Below.refl _ w).alloc (Nat.le_refl _) _).trans (hbl.mono (by simp))
    clear hbl hsp
    go_wp2
    (try simp only [Exit.inBlock, Exit.then])
    refine bodyPost_ret (res_cell3 rfl _ _ w.heap.size 40 _ (0, 0) _ rfl (box_set hbox _ _ _ _) Tryz.underlying40 rfl sizeRf) rfl ?_
    exact pe_no HR.out rfl rfl rfl (box_below hB (Nat.le_refl _) _ _ _ _)
  | ok l =>
    rw [hs] at hsp
    by_cases hl0 : l = []
    · subst hl0
      have HR : Hid (parseR s.data.toList = .error (12, s.size)) := by simp [Hid, parseR, hs]
      clear hs
      go_enter Tryz.func16, Tryz.ntmps16
      go_wp2_with fail
      refine (hsp _).mono ?_
      rintro e w1 ⟨⟨v, rfl, hown⟩, hbl⟩
      obtain ⟨va, vc, rfl⟩ := (RdT.own hown).shape
      have hbox : w1.heap[w.heap.size]? = some zRef := by
        rw [hbl.block _ (by simp)]
        exact heap_alloc_new w _
      obtain ⟨d0, d1, d2, d3, f0, f1, f2, f3⟩ := four_cells hbox
      have hB : Below w.heap.size w w1 := ((Below.refl _ w).alloc (Nat.le_refl _) _).trans (hbl.mono (by simp))
      clear hbl hsp hown
      go_wp2
      (try simp only [Exit.inBlock, Exit.then])
      refine bodyPost_ret (res_cell3 rfl _ _ w.heap.size 40 _ (0, 0) _ rfl (box_set hbox _ _ _ _) Tryz.underlying40 rfl sizeRf) rfl ?_
      exact pe_no HR.out rfl rfl rfl (box_below hB (Nat.le_refl _) _ _ _ _)
    · obtain ⟨hl1, hl2⟩ := split_size hs
      have hgd := split_good hs
      have HP : Hid (parseR s.data.toList = run s.size [root] l) := by simp [Hid, parseR, hs, hl0]
      have hlp : 0 < l.length := List.length_pos_iff.2 hl0
      have hlz : ((l.length : Int) == 0) = false := by rw [beq_eq_false_iff_ne]; omega
      clear hs
      go_enter Tryz.func16, Tryz.ntmps16
      go_wp2_with fail
      refine (hsp _).mono ?_
      rintro e w1 ⟨⟨v, rfl, hown⟩, hbl⟩
      obtain ⟨ga, cap, hv, hcap1, hcap2, hga1, hga2⟩ : ∃ ga cap, v = .slice (some ⟨ga, 0, none⟩) l.length cap ∧ l.length ≤ cap ∧ cap ≤ 9223372036854775807 ∧ ga ≠ w.heap.size ∧ w.heap.size ≠ ga := by
        rcases hown.2 with ⟨_, h0⟩ | ⟨g, cap, cur, hv, hb, hg, h1, h2, _⟩
        · omega
        · have hb' : w.heap.size + 1 ≤ g := by simpa using hb
          exact ⟨g, cap, hv, h1, by unfold maxLen at h2; omega, by omega, by omega⟩
      subst hv
      have hrd : RdO w1 ga 0 l := by
        rcases RdT.own hown with ⟨h0, _⟩ | ⟨g, c, h0, hc⟩
        · cases h0
        · cases h0
          intro j u hj
          rw [Nat.zero_add]
          exact hc j u hj
      have hbox : w1.heap[w.heap.size]? = some zRef := by
        rw [hbl.block _ (by simp)]
        exact heap_alloc_new w _
      have hB : Below w.heap.size w w1 := ((Below.refl _ w).alloc (Nat.le_refl _) _).trans (hbl.mono (by simp))
      have hbs : w.heap.size < w1.heap.size := (Array.getElem?_eq_some_iff.1 hbox).1
      clear hbl hsp hown
      go_wp2
      go_loopg [8, 9] l.length (fun g dp i wr => ∃ (k : Nat) (rs : List Tr), g + k = l.length ∧ i = .int .i64 k ∧ dp = .int .i64 ((rs.length - 1 : Nat) : Int) ∧ Stk rs ∧ took rs = l.take k ∧ rs.length ≤ 41 ∧ w1 = wr ∧ Hid (run s.size rs (l.drop k) = run s.size [root] l))
      case atStart => exact ⟨0, [root], rfl, rfl, rfl, stk_root, rfl, by simp, rfl, rfl⟩
      case round =>
        obtain ⟨k, rs, hg, rfl, rfl, hstk, htook, hrl, rfl, hrun⟩ := hrel
        have hne := stk_ne hstk
        have hr0 : 0 < rs.length := List.length_pos_iff.2 hne
        have hbox' := hbox
        have hBw := hB
        have htl : (took rs).length = k := by rw [htook, List.length_take]; omega
        by_cases hk : k < l.length
        · have hki : (k : Int) < (l.length : Int) := by omega
          have hd : l.drop k = l[k] :: l.drop (k + 1) := List.drop_eq_getElem_cons hk
          have htk : l.take (k + 1) = l.take k ++ [l[k]] := List.take_succ_eq_append_getElem hk
          have hrk : RdO w1 ga (0 + (l.take k).length * 3) (l[k] :: l.drop (k + 1)) := RdO.drop (by rw [← hd, List.take_append_drop]; exact hrd)
          rw [List.length_take, Nat.min_eq_left (by omega), Nat.zero_add] at hrk
          obtain ⟨q0, q1, q2⟩ := hrk.head
          have hkin := (hgd l[k] (List.getElem_mem hk)).kind
          have hrun' := hrun.out
          rw [hd, run] at hrun'
          have hrnone := refu_none (t := l[k]) hstk
          have hrtail := refu_tail (t := l[k]) hstk
          generalize l[k] = tok at *
          clear hd hrk
          have HT : Hid (l.take (k + 1) = l.take k ++ [tok]) := htk
          clear htk
          by_cases cA : rs.length = 1 ∧ 0 < k ∧ tok.kind ≠ 2
          · obtain ⟨c1, c2, c3⟩ := cA
            have hrf := hrtail c1 (by omega) c3
            have s1 : ((rs.length - 1 : Nat) : Int) = 0 := by omega
            have s2 : (0 : Int) < (k : Int) := by omega
            have s3 : ((tok.kind : Int) != 2) = true := by rw [bne_iff_ne]; omega
            clear hrtail hrnone c3
            rw [s1]
            have HR : Hid (parseR s.data.toList = .error (11, tok.place)) := by
              rw [Hid, HP.out, ← hrun', hrf]
              rfl
            clear hrun' hrun
            obtain ⟨d0, d1, d2, d3, f0, f1, f2, f3⟩ := four_cells hbox'
            go_wp2
            go_region
            all_goals (
              go_wp2
              (try simp only [Exit.inBlock, Exit.then])
              refine bodyPost_ret (res_cell3 rfl _ _ w.heap.size 40 _ (0, 0) _ rfl (box_set hbox' _ _ _ _) Tryz.underlying40 rfl sizeRf) rfl ?_
              exact pe_no HR.out rfl rfl rfl ((box_below hBw (Nat.le_refl _) _ _ _ _).drew))
          · obtain ⟨D, hD⟩ : ∃ D, rs.length = D + 1 := ⟨rs.length - 1, by omega⟩
            have eD : rs.length - 1 = D := by omega
            rw [eD]
            have hA : ¬ (rs.length = 1 ∧ 0 < (took rs).length ∧ tok.kind ≠ 2) := by rw [htl]; exact cA
            clear eD hrtail
            by_cases cP : 0 < k
            · have sP : (0 : Int) < (k : Int) := by omega
              by_cases cD : D = 0
              · have cK : tok.kind = 2 := by
                  rcases Nat.lt_or_ge tok.kind 2 with h | h
                  · exact absurd ⟨by omega, cP, by omega⟩ cA
                  · rcases Nat.lt_or_ge 2 tok.kind with h' | h'
                    · exact absurd ⟨by omega, cP, by omega⟩ cA
                    · omega
                subst cD
                have sK : ((tok.kind : Int) != 2) = false := by rw [bne_eq_false_iff_eq]; omega
                have sK2 : ((tok.kind : Int) == 2) = true := by rw [beq_iff_eq]; omega
                have sK1 : ((tok.kind : Int) == 1) = false := by rw [beq_eq_false_iff_ne]; omega
                have hrf := refu_form (rs := rs) cK (by omega)
                clear cK
                have HR : Hid (parseR s.data.toList = .error (12, tok.place)) := by
                  rw [Hid, HP.out, ← hrun', hrf]
                  rfl
                clear hrun' hrun
                obtain ⟨d0, d1, d2, d3, f0, f1, f2, f3⟩ := four_cells hbox'
                go_wp2
                go_region
                all_goals (
                  go_wp2
                  (try simp only [Exit.inBlock, Exit.then])
                  refine bodyPost_ret (res_cell3 rfl _ _ w.heap.size 40 _ (0, 0) _ rfl (box_set hbox' _ _ _ _) Tryz.underlying40 rfl sizeRf) rfl ?_
                  exact pe_no HR.out rfl rfl rfl ((box_below hBw (Nat.le_refl _) _ _ _ _).drew))
              · have sD : ((D : Int) == 0) = false := by rw [beq_eq_false_iff_ne]; omega
                by_cases cK : tok.kind = 1
                · have sK : ((tok.kind : Int) == 1) = true := by rw [beq_iff_eq]; omega
                  have sK2 : ((tok.kind : Int) != 2) = true := by rw [bne_iff_ne]; omega
                  by_cases c41 : D = 40
                  · have s41 : (40 : Int) < (D : Int) + 1 := by omega
                    have hrf := refu_nest (rs := rs) cK (by omega)
                    clear cK
                    have HR : Hid (parseR s.data.toList = .error (14, tok.place)) := by
                      rw [Hid, HP.out, ← hrun', hrf]
                      rfl
                    clear hrun' hrun
                    obtain ⟨d0, d1, d2, d3, f0, f1, f2, f3⟩ := four_cells hbox'
                    go_wp2
                    go_region
                    all_goals (
                      go_wp2
                      (try simp only [Exit.inBlock, Exit.then])
                      refine bodyPost_ret (res_cell3 rfl _ _ w.heap.size 40 _ (0, 0) _ rfl (box_set hbox' _ _ _ _) Tryz.underlying40 rfl sizeRf) rfl ?_
                      exact pe_no HR.out rfl rfl rfl ((box_below hBw (Nat.le_refl _) _ _ _ _).drew))
                  · have s41 : ¬ (40 : Int) < (D : Int) + 1 := by omega
                    have hrf := hrnone hA (fun h => by omega) (fun h => by omega)
                    have hpo : (put rs tok).length - 1 = D + 1 := by have := put_open (rs := rs) cK hne; omega
                    clear cK
                    rw [if_pos hrf] at hrun'
                    have HRn : Hid (run s.size (put rs tok) (l.drop (k + 1)) = run s.size [root] l) := hrun'
                    obtain ⟨p1, p2, _, _⟩ := stk_put hstk hrf hkin
                    have p3 := refu_lt hrf hrl
                    skip
                    clear hrun' hrun
                    go_wp2
                    go_roundg (l.length - (k + 1))
                    case measure => omega
                    case rel => exact ⟨k + 1, put rs tok, by omega, by go_num, by go_num, p1, by rw [p2, htook, HT.out], p3, rfl, HRn⟩
                have sK1 : ((tok.kind : Int) == 1) = false := by rw [beq_eq_false_iff_ne]; omega
                by_cases cK2 : tok.kind = 2
                · have sK : ((tok.kind : Int) == 2) = true := by rw [beq_iff_eq]; omega
                  have sK2 : ((tok.kind : Int) != 2) = false := by rw [bne_eq_false_iff_eq]; omega
                  by_cases c0 : D = 0
                  · exact absurd c0 cD
                  · have s0 : ((D : Int) == 0) = false := by rw [beq_eq_false_iff_ne]; omega
                    have hrf := hrnone hA (fun h => by omega) (fun h => by omega)
                    obtain ⟨E, rfl⟩ : ∃ E, D = E + 1 := ⟨D - 1, by omega⟩
                    have hpo : (put rs tok).length - 1 = E := by have := put_close (rs := rs) cK2 (by omega); omega
                    clear cK2
                    rw [if_pos hrf] at hrun'
                    have HRn : Hid (run s.size (put rs tok) (l.drop (k + 1)) = run s.size [root] l) := hrun'
                    obtain ⟨p1, p2, _, _⟩ := stk_put hstk hrf hkin
                    have p3 := refu_lt hrf hrl
                    skip
                    clear hrun' hrun
                    go_wp2
                    go_roundg (l.length - (k + 1))
                    case measure => omega
                    case rel => exact ⟨k + 1, put rs tok, by omega, by go_num, by go_num, p1, by rw [p2, htook, HT.out], p3, rfl, HRn⟩
                have sK : ((tok.kind : Int) == 2) = false := by rw [beq_eq_false_iff_ne]; omega
                have sK2 : ((tok.kind : Int) != 2) = true := by rw [bne_iff_ne]; omega
                have hrf := hrnone hA (fun h => by omega) (fun h => by omega)
                have hpo : (put rs tok).length - 1 = D := by have := put_leaf (rs := rs) cK cK2 hne; omega
                clear cK cK2
                rw [if_pos hrf] at hrun'
                have HRn : Hid (run s.size (put rs tok) (l.drop (k + 1)) = run s.size [root] l) := hrun'
                obtain ⟨p1, p2, _, _⟩ := stk_put hstk hrf hkin
                have p3 := refu_lt hrf hrl
                skip
                clear hrun' hrun
                go_wp2
                go_roundg (l.length - (k + 1))
                case measure => omega
                case rel => exact ⟨k + 1, put rs tok, by omega, by go_num, by go_num, p1, by rw [p2, htook, HT.out], p3, rfl, HRn⟩
            · have sP : ¬ (0 : Int) < (k : Int) := by omega
              by_cases cK : tok.kind = 1
              · have sK : ((tok.kind : Int) == 1) = true := by rw [beq_iff_eq]; omega
                have sK2 : ((tok.kind : Int) != 2) = true := by rw [bne_iff_ne]; omega
                by_cases c41 : D = 40
                · have s41 : (40 : Int) < (D : Int) + 1 := by omega
                  have hrf := refu_nest (rs := rs) cK (by omega)
                  clear cK
                  have HR : Hid (parseR s.data.toList = .error (14, tok.place)) := by
                    rw [Hid, HP.out, ← hrun', hrf]
                    rfl
                  clear hrun' hrun
                  obtain ⟨d0, d1, d2, d3, f0, f1, f2, f3⟩ := four_cells hbox'
                  go_wp2
                  go_region
                  all_goals (
                    go_wp2
                    (try simp only [Exit.inBlock, Exit.then])
                    refine bodyPost_ret (res_cell3 rfl _ _ w.heap.size 40 _ (0, 0) _ rfl (box_set hbox' _ _ _ _) Tryz.underlying40 rfl sizeRf) rfl ?_
                    exact pe_no HR.out rfl rfl rfl ((box_below hBw (Nat.le_refl _) _ _ _ _).drew))
                · have s41 : ¬ (40 : Int) < (D : Int) + 1 := by omega
                  have hrf := hrnone hA (fun h => by omega) (fun h => by omega)
                  have hpo : (put rs tok).length - 1 = D + 1 := by have := put_open (rs := rs) cK hne; omega
                  clear cK
                  rw [if_pos hrf] at hrun'
                  have HRn : Hid (run s.size (put rs tok) (l.drop (k + 1)) = run s.size [root] l) := hrun'
                  obtain ⟨p1, p2, _, _⟩ := stk_put hstk hrf hkin
                  have p3 := refu_lt hrf hrl
                  skip
                  clear hrun' hrun
                  go_wp2
                  go_roundg (l.length - (k + 1))
                  case measure => omega
                  case rel => exact ⟨k + 1, put rs tok, by omega, by go_num, by go_num, p1, by rw [p2, htook, HT.out], p3, rfl, HRn⟩
              have sK1 : ((tok.kind : Int) == 1) = false := by rw [beq_eq_false_iff_ne]; omega
              by_cases cK2 : tok.kind = 2
              · have sK : ((tok.kind : Int) == 2) = true := by rw [beq_iff_eq]; omega
                have sK2 : ((tok.kind : Int) != 2) = false := by rw [bne_eq_false_iff_eq]; omega
                by_cases c0 : D = 0
                · have hrf := refu_form (rs := rs) cK2 (by omega)
                  subst c0
                  clear cK2
                  have HR : Hid (parseR s.data.toList = .error (12, tok.place)) := by
                    rw [Hid, HP.out, ← hrun', hrf]
                    rfl
                  clear hrun' hrun
                  obtain ⟨d0, d1, d2, d3, f0, f1, f2, f3⟩ := four_cells hbox'
                  go_wp2
                  go_region
                  all_goals (
                    go_wp2
                    (try simp only [Exit.inBlock, Exit.then])
                    refine bodyPost_ret (res_cell3 rfl _ _ w.heap.size 40 _ (0, 0) _ rfl (box_set hbox' _ _ _ _) Tryz.underlying40 rfl sizeRf) rfl ?_
                    exact pe_no HR.out rfl rfl rfl ((box_below hBw (Nat.le_refl _) _ _ _ _).drew))
                · have s0 : ((D : Int) == 0) = false := by rw [beq_eq_false_iff_ne]; omega
                  have hrf := hrnone hA (fun h => by omega) (fun h => by omega)
                  obtain ⟨E, rfl⟩ : ∃ E, D = E + 1 := ⟨D - 1, by omega⟩
                  have hpo : (put rs tok).length - 1 = E := by have := put_close (rs := rs) cK2 (by omega); omega
                  clear cK2
                  rw [if_pos hrf] at hrun'
                  have HRn : Hid (run s.size (put rs tok) (l.drop (k + 1)) = run s.size [root] l) := hrun'
                  obtain ⟨p1, p2, _, _⟩ := stk_put hstk hrf hkin
                  have p3 := refu_lt hrf hrl
                  skip
                  clear hrun' hrun
                  go_wp2
                  go_roundg (l.length - (k + 1))
                  case measure => omega
                  case rel => exact ⟨k + 1, put rs tok, by omega, by go_num, by go_num, p1, by rw [p2, htook, HT.out], p3, rfl, HRn⟩
              have sK : ((tok.kind : Int) == 2) = false := by rw [beq_eq_false_iff_ne]; omega
              have sK2 : ((tok.kind : Int) != 2) = true := by rw [bne_iff_ne]; omega
              have hrf := hrnone hA (fun h => by omega) (fun h => by omega)
              have hpo : (put rs tok).length - 1 = D := by have := put_leaf (rs := rs) cK cK2 hne; omega
              clear cK cK2
              rw [if_pos hrf] at hrun'
              have HRn : Hid (run s.size (put rs tok) (l.drop (k + 1)) = run s.size [root] l) := hrun'
              obtain ⟨p1, p2, _, _⟩ := stk_put hstk hrf hkin
              have p3 := refu_lt hrf hrl
              skip
              clear hrun' hrun
              go_wp2
              go_roundg (l.length - (k + 1))
              case measure => omega
              case rel => exact ⟨k + 1, put rs tok, by omega, by go_num, by go_num, p1, by rw [p2, htook, HT.out], p3, rfl, HRn⟩
        · have hk' : k = l.length := by omega
          subst hk'
          have hrun' := hrun.out
          rw [List.drop_length] at hrun'
          obtain ⟨d0, d1, d2, d3, f0, f1, f2, f3⟩ := four_cells hbox'
          have hki : ¬ (l.length : Int) < (l.length : Int) := by omega
          by_cases h1 : 1 < rs.length
          · have HR : Hid (parseR s.data.toList = .error (10, s.size)) := by
              rw [Hid, HP.out, ← hrun', run_end h1]
            have h1' : (0 : Int) < ((rs.length - 1 : Nat) : Int) := by omega
            clear hrun' hrun
            go_wp2
            (try simp only [Exit.inBlock, Exit.then])
            refine bodyPost_ret (res_cell3 rfl _ _ w.heap.size 40 _ (0, 0) _ rfl (box_set hbox' _ _ _ _) Tryz.underlying40 rfl sizeRf) rfl ?_
            exact pe_no HR.out rfl rfl rfl (box_below hBw (Nat.le_refl _) _ _ _ _)
          · obtain ⟨b, hbr, hbk⟩ := took_one hstk (by omega)
            have hb0 : b.kids ≠ [] := fun e => by
              have := hbk.2 (by rw [e]; rfl)
              omega
            obtain ⟨x, xr, hx⟩ := List.exists_cons_of_ne_nil hb0
            have hrw : run s.size [root] l = .ok x := by rw [← hrun', hbr, run_whole hx]
            have HR : Hid (parseR s.data.toList = .ok x) := by rw [Hid, HP.out, hrw]
            obtain ⟨hRx, htx⟩ := run_toks _ l [root] x stk_root (fun k hk => (hgd k hk).kind) hrw
            rw [took_root, List.nil_append] at htx
            have hone := oneT x [] ga 0 cap l.length w1 (by rw [htx, List.append_nil]; exact hrd) hRx (by rw [htx, List.append_nil]) hl1 hcap1 hcap2
            have h1' : ((rs.length - 1 : Nat) : Int) = 0 := by omega
            rw [h1']
            clear hrun' hrun hrw h1'
            go_wp2_with fail
            refine hone.mono ?_
            rintro e w5 ⟨kv, rfl, ht5, hb5⟩
            obtain ⟨xa, xc, rfl⟩ := ht5.shape
            unfold trv
            have hbox5 : (w5.alloc (.cells #[.int .i64 (x.kind : Int), .int .i64 (x.place : Int), .string (str x.text), .slice xa x.kids.length xc] 40)).heap[w.heap.size]? = some zRef := by
              rw [Below.heap_alloc _ _ _ (by have := hb5.size; omega), hb5.block _ hbs]
              exact hbox
            obtain ⟨e0, e1, e2, e3, g0, g1, g2, g3⟩ := four_cells hbox5
            have hs5 := hb5.size
            have hB5 : Below w.heap.size w (w5.alloc (.cells #[.int .i64 (x.kind : Int), .int .i64 (x.place : Int), .string (str x.text), .slice xa x.kids.length xc] 40)) := (hB.trans (hb5.mono (Nat.le_of_lt hbs))).alloc (by omega) _
            have ht6 := ht5.kept ((Kept.refl (fun _ => False) w5).alloc (.cells #[.int .i64 (x.kind : Int), .int .i64 (x.place : Int), .string (str x.text), .slice xa x.kids.length xc] 40)) (fun g hg => ⟨hg.2, fun h => h⟩)
            clear hone
            go_wp2
            (try simp only [Exit.inBlock, Exit.then])
            refine bodyPost_ret (res_cell3 rfl _ _ w.heap.size 40 _ (0, 0) _ rfl (box_set hbox5 _ _ _ _) Tryz.underlying40 rfl sizeRf) rfl ?_
            refine pe_ok HR.out rfl ?_ (box_below hB5 (Nat.le_refl _) _ _ _ _)
            have KB := box_kept (Kept.refl (fun _ => False) (w5.alloc (.cells #[.int .i64 (x.kind : Int), .int .i64 (x.place : Int), .string (str x.text), .slice xa x.kids.length xc] 40))) w.heap.size (.int .i64 (x.kind : Int)) (.int .i64 (x.place : Int)) (.string (str x.text)) (.slice xa x.kids.length xc)
            refine (ht6.kept KB (fun g hg => ⟨by simp; omega, fun h => ?_⟩)).mono (fun g hg => ?_)
            · rcases h with h | h
              · exact h
              · omega
            · have h7 := KB.size
              have h8 : w5.heap.size ≤ (w5.alloc (.cells #[.int .i64 (x.kind : Int), .int .i64 (x.place : Int), .string (str x.text), .slice xa x.kids.length xc] 40)).heap.size := by simp
              omega
end Go.Proofs.YtcjlifhehiolkaaGreat
