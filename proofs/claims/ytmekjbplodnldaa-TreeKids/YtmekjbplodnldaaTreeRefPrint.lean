/-
  The document's own Print.
-/
import Derived.Test.YtmekjbplodnldaaLexRefQuote
import Derived.Test.YtmekjbplodnldaaTreeSame
namespace Go.Proofs.Ytmekjbplodnldaa
open Go.RowKit

/-- What is printed of a bracket up to its k-th Kid. -/
def upK (t : Tr) (k : Nat) : List UInt8 := 40 :: seps false ((t.kids.take k).map pr)
theorem seps_last : ∀ (b : Bool) (l : List (List UInt8)) (x : List UInt8), seps b (l ++ [x]) = seps b l ++ ((if b || !l.isEmpty then [32] else []) ++ x)
  | b, [], x => by cases b <;> simp [seps]
  | b, y :: l, x => by
    rw [List.cons_append, seps, seps_last true l x, seps]
    simp
theorem seps_step (ks : List Tr) (k : Nat) (hk : k < ks.length) : seps false ((ks.take (k + 1)).map pr) = seps false ((ks.take k).map pr) ++ ((if 0 < k then [32] else []) ++ pr ks[k]) := by
  rw [List.take_succ_eq_append_getElem hk, List.map_append, List.map_singleton, seps_last]
  congr 2
  by_cases h : 0 < k
  · simp only [h, if_true]
    simp
    exact ⟨by omega, by rintro rfl; simp at hk⟩
  · have : k = 0 := by omega
    subst this
    simp
theorem upK_step (t : Tr) (k : Nat) (hk : k < t.kids.length) : upK t (k + 1) = upK t k ++ ((if 0 < k then [32] else []) ++ pr t.kids[k]) := by
  rw [upK, upK, seps_step t.kids k hk]
  rfl
theorem upK_all (t : Tr) (h : t.kind = 1) : upK t t.kids.length ++ [41] = pr t := by
  rw [upK, List.take_length, pr_eq, if_neg (by omega), if_neg (by omega), if_pos h]
  rfl
theorem seps_prefix (b : Bool) : ∀ (l m : List (List UInt8)), (seps b l).length ≤ (seps b (l ++ m)).length
  | [], m => by simp [seps]
  | x :: l, m => by
    have := seps_prefix true l m
    rw [List.cons_append, seps, seps]
    simp only [List.length_append]
    omega
theorem upK_le (t : Tr) (h : t.kind = 1) (k : Nat) : (upK t k).length ≤ (pr t).length := by
  have h1 := seps_prefix false ((t.kids.take k).map pr) ((t.kids.drop k).map pr)
  rw [← List.map_append, List.take_append_drop] at h1
  rw [pr_eq, if_neg (by omega), if_neg (by omega), if_pos h, upK]
  simp only [List.length_cons, List.length_append]
  omega
theorem kid_le (t : Tr) (h : t.kind = 1) (k : Nat) (hk : k < t.kids.length) : (upK t k).length + (pr t.kids[k]).length ≤ (pr t).length := by
  have h1 := upK_le t h (k + 1)
  rw [upK_step t k hk] at h1
  simp only [List.length_append] at h1
  omega

set_option maxHeartbeats 1600000 in
set_option maxRecDepth 1000000 in
theorem refPrint (t : Tr) : ∀ (kv : Value) (F : Nat → Prop) (w : World), TL F w kv t.kids → (∀ g, F g → g < w.heap.size) → (pr t).length ≤ 1000000000000 → tsz t ≤ 1000000000 → Calls Try.prog 13 #[trv t kv] w (TextE (pr t) w) := by
  induction t using tr_ind with
  | h t ih =>
    intro kv F w ht hF hl hz
    obtain ⟨ta, tc', rfl⟩ := ht.shape
    have hlen := tsz_len t
    unfold trv
    by_cases k3 : t.kind = 3
    · have e : pr t = t.text := by rw [pr_eq, if_pos k3]
      have s3 : ((t.kind : Int) == 3) = true := by rw [beq_iff_eq]; omega
      rw [e]
      clear e k3 ih
      go_enter Try.func13, Try.ntmps13
      go_wp2
      go_ret
      exact ⟨rfl, (Below.refl _ w).alloc (Nat.le_refl _) _⟩
    have s3 : ((t.kind : Int) == 3) = false := by rw [beq_eq_false_iff_ne]; omega
    by_cases k4 : t.kind = 4
    · have e : pr t = quoteR t.text := by rw [pr_eq, if_neg k3, if_pos k4]
      have s4 : ((t.kind : Int) == 4) = true := by rw [beq_iff_eq]; omega
      have hql := (quoteR_length t.text).2
      rw [e] at hl ⊢
      clear e k3 k4 ih
      go_enter Try.func13, Try.ntmps13
      go_wp2_with fail
      refine (refQuote (str t.text) _ (by rw [str_size]; omega)).mono ?_
      rintro e w5 ⟨rfl, n, rfl⟩
      rw [str_data]
      go_wp2
      go_ret
      exact ⟨rfl, below_drewN ((Below.refl _ w).alloc (Nat.le_refl _) _) n⟩
    have s4 : ((t.kind : Int) == 4) = false := by rw [beq_eq_false_iff_ne]; omega
    by_cases k1 : t.kind = 1
    · have s1 : ((t.kind : Int) == 1) = true := by rw [beq_iff_eq]; omega
      have HA : Hid (upK t t.kids.length ++ [41] = pr t) := upK_all t k1
      have K0 : Kept (fun _ => False) w (w.alloc (.cells #[.int .i64 (t.kind : Int), .int .i64 (t.place : Int), .string (str t.text), .slice ta t.kids.length tc'] 32)) := (Kept.refl _ w).alloc _
      have ht2 := ht.kept K0 (fun g hg => ⟨hF g hg, fun h => h⟩)
      have hB0 : Below w.heap.size w (w.alloc (.cells #[.int .i64 (t.kind : Int), .int .i64 (t.place : Int), .string (str t.text), .slice ta t.kids.length tc'] 32)) := K0.below (Nat.le_refl _) (fun _ _ h => h)
      have hx : (w.alloc (.cells #[.int .i64 (t.kind : Int), .int .i64 (t.place : Int), .string (str t.text), .slice ta t.kids.length tc'] 32)).heap[w.heap.size]? = some (.cells #[.int .i64 (t.kind : Int), .int .i64 (t.place : Int), .string (str t.text), .slice ta t.kids.length tc'] 32) := heap_alloc_new w _
      have hsz : Hid ((w.alloc (.cells #[.int .i64 (t.kind : Int), .int .i64 (t.place : Int), .string (str t.text), .slice ta t.kids.length tc'] 32)).heap.size = w.heap.size + 1) := by simp [Hid]
      have hup := upK_le t k1
      have hkl := kid_le t k1
      have hus := upK_step t
      clear K0 ht k1 k3 k4
      go_enter Try.func13, Try.ntmps13
      go_wp2
      go_loopg [3, 4] t.kids.length (fun g s i wr => ∃ (k : Nat), g + k = t.kids.length ∧ i = .int .i64 k ∧ s = .string (str (upK t k)) ∧ Below (w.heap.size + 1) (w.alloc (.cells #[.int .i64 (t.kind : Int), .int .i64 (t.place : Int), .string (str t.text), .slice ta t.kids.length tc'] 32)) wr)
      case atStart => exact ⟨0, rfl, rfl, rfl, Below.refl _ _⟩
      case round =>
        obtain ⟨k, hg, rfl, rfl, hbl⟩ := hrel
        have hsw : w.heap.size + 1 ≤ wr.heap.size := by have := hbl.size; rw [hsz.out] at this; exact this
        have hbw : Below w.heap.size w wr := hB0.trans (hbl.mono (by omega))
        obtain ⟨x0, x1, x2, x3, _⟩ := four_cells ((hbl.block w.heap.size (by omega)).trans hx)
        by_cases hk : k < t.kids.length
        · have ht3 := ht2.kept (Kept.of_below hbl) (fun g hg => ⟨by have := hF g hg; rw [hsz.out]; omega, by have := hF g hg; omega⟩)
          have hki : (k : Int) < (t.kids.length : Int) := by omega
          obtain ⟨gk, ck, kv, hkv, _, hkt, a0, a1, a2, a3⟩ := ht3.at k hk
          cases hkv
          obtain ⟨ea, ec, rfl⟩ := hkt.shape
          have hle := hkl k hk
          have hst := hus k hk
          have hc := ih t.kids[k] (List.getElem_mem hk) (.slice ea t.kids[k].kids.length ec) F wr hkt (fun g hg => by have := hF g hg; omega) (by omega) (by have := tsz_kid (List.getElem_mem hk); omega)
          unfold trv at hc
          have hsa : (str (upK t k)).size = (upK t k).length := str_size _
          have hs1 : (str (pr t.kids[k])).size = (pr t.kids[k]).length := str_size _
          by_cases k0 : 0 < k
          · have k0' : (0 : Int) < (k : Int) := by omega
            rw [if_pos k0] at hst
            have hE : Hid (str (upK t k) ++ ⟨#[32]⟩ ++ str (pr t.kids[k]) = str (upK t (k + 1))) := by
              rw [Hid, hst, show (⟨#[32]⟩ : ByteArray) = str [32] from rfl, str_append, str_append, List.append_assoc]
            have hs2 : (str (upK t k) ++ ⟨#[32]⟩).size = (upK t k).length + 1 := by rw [show (⟨#[32]⟩ : ByteArray) = str [32] from rfl, str_append, str_size]; simp
            clear hst ht3 hkt ih hkl hus hup
            generalize t.kids[k] = tk at *
            generalize upK t k = acc at *
            go_wp2_with fail
            refine hc.mono ?_
            rintro e w5 ⟨rfl, hb5⟩
            have hbl5 := hbl.trans (hb5.mono hsw)
            go_wp2
            go_roundg (t.kids.length - (k + 1))
            case measure => omega
            case rel => exact ⟨k + 1, by omega, by go_num, by first | exact congrArg Value.string hE.out | rw [hE.out], hbl5⟩
          · have k0' : ¬ (0 : Int) < (k : Int) := by omega
            rw [if_neg k0, List.nil_append] at hst
            have hE : Hid (str (upK t k) ++ str (pr t.kids[k]) = str (upK t (k + 1))) := by
              rw [Hid, hst, str_append]
            clear hst ht3 hkt ih hkl hus hup
            generalize t.kids[k] = tk at *
            generalize upK t k = acc at *
            go_wp2_with fail
            refine hc.mono ?_
            rintro e w5 ⟨rfl, hb5⟩
            have hbl5 := hbl.trans (hb5.mono hsw)
            go_wp2
            go_roundg (t.kids.length - (k + 1))
            case measure => omega
            case rel => exact ⟨k + 1, by omega, by go_num, by first | exact congrArg Value.string hE.out | rw [hE.out], hbl5⟩
        · have hk' : k = t.kids.length := by omega
          subst hk'
          have hki : ¬ (t.kids.length : Int) < (t.kids.length : Int) := by omega
          have hle := hup t.kids.length
          have hsa : (str (upK t t.kids.length)).size = (upK t t.kids.length).length := str_size _
          have hE : Hid (str (upK t t.kids.length) ++ ⟨#[41]⟩ = str (pr t)) := by
            rw [Hid, ← HA.out, show (⟨#[41]⟩ : ByteArray) = str [41] from rfl, str_append]
          clear ih hkl hus hup
          generalize upK t t.kids.length = acc at *
          go_wp2
          go_ret
          refine ⟨?_, hbw⟩
          exact congrArg (fun s => Ending.returned (Value.string s)) hE.out
    have s1 : ((t.kind : Int) == 1) = false := by rw [beq_eq_false_iff_ne]; omega
    have e : pr t = [] := by rw [pr_eq, if_neg k3, if_neg k4, if_neg k1]
    rw [e]
    clear e k1 k3 k4 ih
    go_enter Try.func13, Try.ntmps13
    go_wp2
    go_ret
    exact ⟨rfl, (Below.refl _ w).alloc (Nat.le_refl _) _⟩
end Go.Proofs.Ytmekjbplodnldaa
