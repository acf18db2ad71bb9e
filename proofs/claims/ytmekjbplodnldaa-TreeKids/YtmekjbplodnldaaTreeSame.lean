/-
  The statements' 'same': a tree and the document's own tree that are alike.
-/
import Derived.Deep.RegionWith
import Derived.Deep.RegionHeld3
import Derived.Test.YtmekjbplodnldaaTreeKnown
namespace Go.Proofs.Ytmekjbplodnldaa
open Go.RowKit

theorem tsz_kid {t k : Tr} (h : k ∈ t.kids) : tsz k ≤ tsz t := by
  rw [tsz_eq t]
  have : ∀ (l : List Tr), k ∈ l → tsz k ≤ (l.map tsz).sum := by
    intro l
    induction l with
    | nil => intro h; cases h
    | cons a l ih =>
      intro h
      rw [List.map_cons, List.sum_cons]
      rcases List.mem_cons.1 h with rfl | h
      · omega
      · have := ih h; omega
  have := this t.kids h
  omega
theorem tsz_len (t : Tr) : t.kids.length ≤ tsz t := by
  rw [tsz_eq]
  have : ∀ (l : List Tr), l.length ≤ (l.map tsz).sum := by
    intro l
    induction l with
    | nil => simp
    | cons a l ih =>
      have := tsz_eq a
      rw [List.map_cons, List.sum_cons, List.length_cons]
      omega
  have := this t.kids
  omega
theorem tsz_toks (t : Tr) : Right t → tsz t ≤ 2 * (toks t).length := by
  induction t using tr_ind with
  | h t ih =>
    intro hR
    rw [tsz_eq, toks_eq]
    rw [Right_eq] at hR
    rcases hR with ⟨k1, _, kk⟩ | ⟨k1, _, kk, _⟩
    · have key : ∀ (l : List Tr), (∀ k ∈ l, tsz k ≤ 2 * (toks k).length) → (l.map tsz).sum ≤ 2 * ((l.map toks).flatten).length := by
        intro l
        induction l with
        | nil => simp
        | cons a l ihl =>
          intro h
          have h1 := h a (by simp)
          have h2 := ihl (fun k hk => h k (by simp [hk]))
          simp only [List.map_cons, List.sum_cons, List.flatten_cons, List.length_append]
          omega
      have hk := key t.kids (fun k hk => ih k hk (kk k hk))
      rw [if_pos k1]
      simp only [List.length_cons, List.length_append, List.length_nil]
      omega
    · rw [kk, if_neg k1]
      simp
def Like (b : Bool) (t u : Tr) : Prop := (b = false ∧ strip t = strip u) ∨ t = u
theorem Like.parts {b : Bool} {t u : Tr} (h : Like b t u) : t.kind = u.kind ∧ t.text = u.text ∧ t.kids.length = u.kids.length ∧ (b = true → t.place = u.place) ∧ ∀ i (h1 : i < t.kids.length) (h2 : i < u.kids.length), Like b t.kids[i] u.kids[i] := by
  rcases h with ⟨rfl, h⟩ | rfl
  · obtain ⟨h1, h2, h3⟩ := strip_parts h
    obtain ⟨h4, h5⟩ := map_strip_get h3
    exact ⟨h1, h2, h4, (fun h => by cases h), fun i a b => .inl ⟨rfl, h5 i a b⟩⟩
  · exact ⟨rfl, rfl, rfl, fun _ => rfl, fun i _ _ => .inr rfl⟩

set_option maxHeartbeats 1600000 in
set_option maxRecDepth 1000000 in
theorem sameT (t : Tr) : ∀ (u : Tr) (b : Bool) (ka kb : Value) (F G : Nat → Prop) (w : World), TL F w ka t.kids → TL G w kb u.kids → (∀ g, F g → g < w.heap.size) → (∀ g, G g → g < w.heap.size) → Like b t u → tsz t ≤ 1000000000 →
    Calls Try.prog 12 #[trv t ka, trv u kb, .bool b] w (KnownE w) := by
  induction t using tr_ind with
  | h t ih =>
    intro u b ka kb F G w hta htb hF hG hL hz
    obtain ⟨l1, l2, l3, l4, l5⟩ := hL.parts
    obtain ⟨aa, ac, rfl⟩ := hta.shape
    obtain ⟨ba, bc', rfl⟩ := htb.shape
    have hlen := tsz_len t
    unfold trv
    rw [← l1, ← l2]
    rw [← l3] at htb ⊢
    have K0 : Kept (fun _ => False) w ((w.alloc (.cells #[.int .i64 (t.kind : Int), .int .i64 (t.place : Int), .string (str t.text), .slice aa t.kids.length ac] 24)).alloc (.cells #[.int .i64 (t.kind : Int), .int .i64 (u.place : Int), .string (str t.text), .slice ba t.kids.length bc'] 32)) := ((Kept.refl _ w).alloc _).alloc _
    have hx : ((w.alloc (.cells #[.int .i64 (t.kind : Int), .int .i64 (t.place : Int), .string (str t.text), .slice aa t.kids.length ac] 24)).alloc (.cells #[.int .i64 (t.kind : Int), .int .i64 (u.place : Int), .string (str t.text), .slice ba t.kids.length bc'] 32)).heap[w.heap.size]? = some (.cells #[.int .i64 (t.kind : Int), .int .i64 (t.place : Int), .string (str t.text), .slice aa t.kids.length ac] 24) := by
      rw [Below.heap_alloc _ _ _ (by simp)]
      exact heap_alloc_new w _
    have hy : ((w.alloc (.cells #[.int .i64 (t.kind : Int), .int .i64 (t.place : Int), .string (str t.text), .slice aa t.kids.length ac] 24)).alloc (.cells #[.int .i64 (t.kind : Int), .int .i64 (u.place : Int), .string (str t.text), .slice ba t.kids.length bc'] 32)).heap[w.heap.size + 1]? = some (.cells #[.int .i64 (t.kind : Int), .int .i64 (u.place : Int), .string (str t.text), .slice ba t.kids.length bc'] 32) := heap_alloc2_new w _ _
    have hsz : Hid (((w.alloc (.cells #[.int .i64 (t.kind : Int), .int .i64 (t.place : Int), .string (str t.text), .slice aa t.kids.length ac] 24)).alloc (.cells #[.int .i64 (t.kind : Int), .int .i64 (u.place : Int), .string (str t.text), .slice ba t.kids.length bc'] 32)).heap.size = w.heap.size + 2) := by simp [Hid]
    have hta2 := hta.kept K0 (fun g hg => ⟨hF g hg, fun h => h⟩)
    have htb2 := htb.kept K0 (fun g hg => ⟨hG g hg, fun h => h⟩)
    have hB0 : Below w.heap.size w ((w.alloc (.cells #[.int .i64 (t.kind : Int), .int .i64 (t.place : Int), .string (str t.text), .slice aa t.kids.length ac] 24)).alloc (.cells #[.int .i64 (t.kind : Int), .int .i64 (u.place : Int), .string (str t.text), .slice ba t.kids.length bc'] 32)) := K0.below (Nat.le_refl _) (fun _ _ h => h)
    have hb4 : Hid (b = true → t.place = u.place) := l4
    have L3 : Hid (t.kids.length = u.kids.length) := l3
    clear K0 l1 l2 l3 l4 htb hta hL
    go_enter Try.func12, Try.ntmps12
    cases b with
    | true =>
      have hpb : ((t.place : Int) != (u.place : Int)) = false := by rw [bne_eq_false_iff_eq, hb4.out rfl]
      go_wp2
      go_loopg [7] t.kids.length (fun g i wr => ∃ (k : Nat), g + k = t.kids.length ∧ i = .int .i64 k ∧ Below (w.heap.size + 2) ((w.alloc (.cells #[.int .i64 (t.kind : Int), .int .i64 (t.place : Int), .string (str t.text), .slice aa t.kids.length ac] 24)).alloc (.cells #[.int .i64 (t.kind : Int), .int .i64 (u.place : Int), .string (str t.text), .slice ba t.kids.length bc'] 32)) wr)
      case atStart => exact ⟨0, rfl, rfl, Below.refl _ _⟩
      case round =>
        obtain ⟨k, hg, rfl, hbl⟩ := hrel
        have hsw : w.heap.size + 2 ≤ wr.heap.size := by have := hbl.size; rw [hsz.out] at this; exact this
        have hbw : Below w.heap.size w wr := hB0.trans (hbl.mono (by omega))
        obtain ⟨x0, x1, x2, x3, _⟩ := four_cells ((hbl.block w.heap.size (by omega)).trans hx)
        obtain ⟨y0, y1, y2, y3, _⟩ := four_cells ((hbl.block (w.heap.size + 1) (by omega)).trans hy)
        by_cases hk : k < t.kids.length
        · have hki : (k : Int) < (t.kids.length : Int) := by omega
          have hta3 := hta2.kept (Kept.of_below hbl) (fun g hg => ⟨by have := hF g hg; rw [hsz.out]; omega, by have := hF g hg; omega⟩)
          have htb3 := htb2.kept (Kept.of_below hbl) (fun g hg => ⟨by have := hG g hg; rw [hsz.out]; omega, by have := hG g hg; omega⟩)
          have hk2 : k < u.kids.length := by have := L3.out; omega
          have hst := ih t.kids[k] (List.getElem_mem hk) u.kids[k] true
          have hlk := l5 k hk hk2
          have htz := tsz_kid (List.getElem_mem hk)
          obtain ⟨ga, ca, ka, hka, _, hkta, a0, a1, a2, a3⟩ := hta3.at k hk
          cases hka
          obtain ⟨gb, cb, kb, hkb, _, hktb, b0, b1, b2, b3⟩ := htb3.at k hk2
          rw [← L3.out] at hkb
          cases hkb
          have hcall := fun w' (kk : Below w.heap.size w w') hle (k1 : TL F w' ka t.kids[k].kids) (k2 : TL G w' kb u.kids[k].kids) => hst ka kb F G w' k1 k2 (fun g hg => by have := hF g hg; have := kk.size; omega) (fun g hg => by have := hG g hg; have := kk.size; omega) hlk hle
          obtain ⟨ea, ec, rfl⟩ := hkta.shape
          obtain ⟨fa, fc, rfl⟩ := hktb.shape
          have KD : Kept (fun _ => False) wr wr.drew := (Kept.refl _ wr).drew
          have hc := hcall wr.drew hbw.drew (by omega) (hkta.kept KD (fun g hg => ⟨by have := hF g hg; omega, fun h => h⟩)) (hktb.kept KD (fun g hg => ⟨by have := hG g hg; omega, fun h => h⟩))
          unfold trv at hc
          generalize t.kids[k] = tk at *
          generalize u.kids[k] = uk at *
          clear hcall hst hta3 htb3 KD htz hlk hkta hktb l5 ih
          go_wp2
          go_region_with (go_at_call 12; refine hc.mono ?_; rintro e w5 ⟨rfl, hb5⟩)
          all_goals (
            have hbl5 := hbl.drew.trans (hb5.mono (by simpa using hsw))
            clear hb5 hc x0 x1 x2 x3 y0 y1 y2 y3 a0 a1 a2 a3 b0 b1 b2 b3 hbl
            go_wp2
            go_roundg (t.kids.length - (k + 1))
            case measure => omega
            case rel => exact ⟨k + 1, by omega, by go_num, hbl5⟩)
        · have hk' : k = t.kids.length := by omega
          subst hk'
          have hki : ¬ (t.kids.length : Int) < (t.kids.length : Int) := by omega
          clear l5 ih
          go_wp2
          go_ret
          exact ⟨rfl, hbw⟩
    | false =>
      go_wp2
      go_loopg [7] t.kids.length (fun g i wr => ∃ (k : Nat), g + k = t.kids.length ∧ i = .int .i64 k ∧ Below (w.heap.size + 2) ((w.alloc (.cells #[.int .i64 (t.kind : Int), .int .i64 (t.place : Int), .string (str t.text), .slice aa t.kids.length ac] 24)).alloc (.cells #[.int .i64 (t.kind : Int), .int .i64 (u.place : Int), .string (str t.text), .slice ba t.kids.length bc'] 32)) wr)
      case atStart => exact ⟨0, rfl, rfl, Below.refl _ _⟩
      case round =>
        obtain ⟨k, hg, rfl, hbl⟩ := hrel
        have hsw : w.heap.size + 2 ≤ wr.heap.size := by have := hbl.size; rw [hsz.out] at this; exact this
        have hbw : Below w.heap.size w wr := hB0.trans (hbl.mono (by omega))
        obtain ⟨x0, x1, x2, x3, _⟩ := four_cells ((hbl.block w.heap.size (by omega)).trans hx)
        obtain ⟨y0, y1, y2, y3, _⟩ := four_cells ((hbl.block (w.heap.size + 1) (by omega)).trans hy)
        by_cases hk : k < t.kids.length
        · have hki : (k : Int) < (t.kids.length : Int) := by omega
          have hta3 := hta2.kept (Kept.of_below hbl) (fun g hg => ⟨by have := hF g hg; rw [hsz.out]; omega, by have := hF g hg; omega⟩)
          have htb3 := htb2.kept (Kept.of_below hbl) (fun g hg => ⟨by have := hG g hg; rw [hsz.out]; omega, by have := hG g hg; omega⟩)
          have hk2 : k < u.kids.length := by have := L3.out; omega
          have hst := ih t.kids[k] (List.getElem_mem hk) u.kids[k] false
          have hlk := l5 k hk hk2
          have htz := tsz_kid (List.getElem_mem hk)
          obtain ⟨ga, ca, ka, hka, _, hkta, a0, a1, a2, a3⟩ := hta3.at k hk
          cases hka
          obtain ⟨gb, cb, kb, hkb, _, hktb, b0, b1, b2, b3⟩ := htb3.at k hk2
          rw [← L3.out] at hkb
          cases hkb
          have hcall := fun w' (kk : Below w.heap.size w w') hle (k1 : TL F w' ka t.kids[k].kids) (k2 : TL G w' kb u.kids[k].kids) => hst ka kb F G w' k1 k2 (fun g hg => by have := hF g hg; have := kk.size; omega) (fun g hg => by have := hG g hg; have := kk.size; omega) hlk hle
          obtain ⟨ea, ec, rfl⟩ := hkta.shape
          obtain ⟨fa, fc, rfl⟩ := hktb.shape
          have KD : Kept (fun _ => False) wr wr.drew := (Kept.refl _ wr).drew
          have hc := hcall wr.drew hbw.drew (by omega) (hkta.kept KD (fun g hg => ⟨by have := hF g hg; omega, fun h => h⟩)) (hktb.kept KD (fun g hg => ⟨by have := hG g hg; omega, fun h => h⟩))
          unfold trv at hc
          generalize t.kids[k] = tk at *
          generalize u.kids[k] = uk at *
          clear hcall hst hta3 htb3 KD htz hlk hkta hktb l5 ih
          go_wp2
          go_region_with (go_at_call 12; refine hc.mono ?_; rintro e w5 ⟨rfl, hb5⟩)
          all_goals (
            have hbl5 := hbl.drew.trans (hb5.mono (by simpa using hsw))
            clear hb5 hc x0 x1 x2 x3 y0 y1 y2 y3 a0 a1 a2 a3 b0 b1 b2 b3 hbl
            go_wp2
            go_roundg (t.kids.length - (k + 1))
            case measure => omega
            case rel => exact ⟨k + 1, by omega, by go_num, hbl5⟩)
        · have hk' : k = t.kids.length := by omega
          subst hk'
          have hki : ¬ (t.kids.length : Int) < (t.kids.length : Int) := by omega
          clear l5 ih
          go_wp2
          go_ret
          exact ⟨rfl, hbw⟩
end Go.Proofs.Ytmekjbplodnldaa
