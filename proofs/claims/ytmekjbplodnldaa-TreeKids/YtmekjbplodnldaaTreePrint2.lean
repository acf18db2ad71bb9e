/-
  The package's Print: its walk.
-/
import Derived.Test.YtmekjbplodnldaaTreePrint
import Derived.Test.YtmekjbplodnldaaTreeParse2
namespace Go.Proofs.Ytmekjbplodnldaa
open Go.RowKit

structure PrM (T : List UInt8) (B : Nat) (w2 wr : World) (out sv : Value) (acc : List UInt8) (fs : List Fr) : Prop where
  left : Hid (acc ++ remF fs = T)
  out : wr.ownsRow B 5 1 out acc.length (bc acc)
  stk : wr.ownsRow B 56 2 sv fs.length (frc fs.reverse)
  frs : ∀ f ∈ fs, f.n ≤ f.l.length ∧ TL (fun g => g < B) wr f.v f.l
  len : fs.length ≤ acc.length + 1
  cnt : ∀ f ∈ fs, f.n ≤ acc.length + 1
  bel : Below B w2 wr
  siz : B ≤ wr.heap.size
theorem frs_keep {B : Nat} {wr w' : World} {fs : List Fr} (h : ∀ f ∈ fs, f.n ≤ f.l.length ∧ TL (fun g => g < B) wr f.v f.l) (k : Below B wr w') (hB : B ≤ wr.heap.size) : ∀ f ∈ fs, f.n ≤ f.l.length ∧ TL (fun g => g < B) w' f.v f.l :=
  fun f hf => ⟨(h f hf).1, (h f hf).2.kept (Kept.of_below k) (fun g hg => ⟨by omega, by omega⟩)⟩
theorem PrM.drewN {T : List UInt8} {B : Nat} {w2 wr : World} {out sv : Value} {acc : List UInt8} {fs : List Fr} (h : PrM T B w2 wr out sv acc fs) (n : Nat) : PrM T B w2 (wr.drewN n) out sv acc fs :=
  ⟨h.left, h.out, h.stk, frs_keep h.frs (below_drewN (Below.refl _ wr) n) h.siz, h.len, h.cnt, below_drewN h.bel n, h.siz⟩
/-- A row is whole: a bracket is shut. -/
theorem PrM.pop {T : List UInt8} {B : Nat} {w2 wr w' : World} {out out' : Value} {gs caps : Nat} {acc : List UInt8} {f f' : Fr} {r : List Fr} {o : Obj} (h : PrM T B w2 wr out (.slice (some ⟨gs, 0, none⟩) (r.length + 1 + 1) caps) acc (f :: f' :: r)) (hend : f.n = f.l.length)
    (k1 : w'.ownsRow B 5 1 out' (acc ++ [41]).length (bc (acc ++ [41]))) (k2 : (wr.alloc o).grownBy w' out.ownBlock) : PrM T B w2 w' out' (.slice (some ⟨gs, 0, none⟩) (r.length + 1) caps) (acc ++ [41]) (f' :: r) := by
  have hb : Below B wr w' := ((Below.refl B wr).alloc h.siz o).grown k2 (by simp; have := h.siz; omega) (fun k hk => (h.out.lt k hk).1)
  have hst := ((h.stk.alloc o).kept k2 (own_apart (h.stk.alloc o) (h.out.alloc o) (by decide)))
  rw [List.reverse_cons, frc_append] at hst
  refine ⟨?_, k1, ?_, fun g hg => frs_keep h.frs hb h.siz g (by simp at hg ⊢; exact .inr hg), ?_, fun g hg => by have := h.cnt g (by simp at hg ⊢; exact .inr hg); simp; omega, h.bel.trans hb, Nat.le_trans h.siz hb.size⟩
  · have := h.left.out
    rw [remF_cons, restF_end hend] at this
    rw [Hid, ← this]
    simp
  · exact ownsRow_pop (by rw [frc_length]; simp) (by simpa using hst)
  · have := h.len
    simp at this ⊢
    omega
theorem lit2 (w : World) (v : Value) {g : Nat} (hg : w.heap.size = g) : (w.alloc (.cells #[v, .int .i64 0] 56)).ownsRow g 56 2 (.slice (some ⟨g, 0, none⟩) 1 1) 1 [v, .int .i64 0] := by
  subst hg
  exact World.ownsRow_lit (base := w.heap.size) w #[v, .int .i64 0] 1 (Nat.le_refl _) (by decide) rfl
theorem PrM.kept {T : List UInt8} {B : Nat} {w2 wr w' : World} {out sv : Value} {acc : List UInt8} {fs : List Fr} (h : PrM T B w2 wr out sv acc fs) (k : Kept (fun _ => False) wr w') : PrM T B w2 w' out sv acc fs := by
  have hb : Below B wr w' := k.below h.siz (fun _ _ h => h)
  exact ⟨h.left, k.own h.out (fun _ _ h => h), k.own h.stk (fun _ _ h => h), frs_keep h.frs hb h.siz, h.len, h.cnt, h.bel.trans hb, Nat.le_trans h.siz k.size⟩
theorem PrM.next {T : List UInt8} {B gs caps : Nat} {w2 wr : World} {out : Value} {acc : List UInt8} {f : Fr} {r : List Fr} (h : PrM T B w2 wr out (.slice (some ⟨gs, 0, none⟩) (r.length + 1) caps) acc (f :: r)) (hlt : f.n < f.l.length) (hcn : f.n ≤ acc.length) :
    PrM (acc ++ remF (⟨f.l, f.n + 1, f.v⟩ :: r)) B w2 (wr.setCell ⟨gs, r.length * 2 + 1, none⟩ (.int .i64 ((f.n : Int) + 1))) out (.slice (some ⟨gs, 0, none⟩) (r.length + 1) caps) acc (⟨f.l, f.n + 1, f.v⟩ :: r) := by
  have hgs : B ≤ gs := (h.stk.lt gs rfl).1
  have hb : Below B wr (wr.setCell ⟨gs, r.length * 2 + 1, none⟩ (.int .i64 ((f.n : Int) + 1))) := (Below.refl B wr).setCell (p := ⟨gs, r.length * 2 + 1, none⟩) hgs _
  have ha := own_apart h.out h.stk (by decide)
  refine ⟨rfl, ownsRow_setCell_other h.out (fun e => ?_) _, ?_, fun g hg => ?_, h.len, fun g hg => ?_, h.bel.trans hb, Nat.le_trans h.siz hb.size⟩
  · rcases ha with ha | ha
    · rw [ha] at e; cases e
    · exact ha e
  · have hs := h.stk
    have hn := frc_next r.reverse f (f.n + 1)
    rw [List.length_reverse] at hn
    rw [List.reverse_cons] at hs ⊢
    rw [← hn]
    exact (hs.stored _ _).1
  · rcases List.mem_cons.1 hg with rfl | hg
    · exact ⟨hlt, (frs_keep h.frs hb h.siz f (by simp)).2⟩
    · exact frs_keep h.frs hb h.siz g (by simp [hg])
  · rcases List.mem_cons.1 hg with rfl | hg
    · show f.n + 1 ≤ _
      omega
    · exact h.cnt g (by simp [hg])
theorem PrM.put {T : List UInt8} {B : Nat} {w2 wr wz w' : World} {out out' sv : Value} {acc x : List UInt8} {fs : List Fr} (h : PrM T B w2 wr out sv acc fs) {n : Nat} (kz : Kept (fun _ => False) wr wz) (hn : n = (acc ++ x).length) (k1 : w'.ownsRow B 5 1 out' n (bc (acc ++ x))) (k2 : wz.grownBy w' out.ownBlock) :
    PrM (acc ++ x ++ remF fs) B w2 w' out' sv (acc ++ x) fs := by
  subst hn
  have hz := h.kept kz
  have hb : Below B wz w' := (Below.refl B wz).grown k2 hz.siz (fun k hk => (h.out.lt k hk).1)
  refine ⟨rfl, k1, hz.stk.kept k2 (own_apart hz.stk hz.out (by decide)), frs_keep hz.frs hb hz.siz, ?_, fun g hg => by have := h.cnt g hg; simp; omega, hz.bel.trans hb, Nat.le_trans hz.siz hb.size⟩
  have := h.len
  simp
  omega
theorem PrM.push {T : List UInt8} {B : Nat} {w2 wr w' : World} {out sv sv' : Value} {acc : List UInt8} {fs : List Fr} {nf : Fr} {o : Obj} (h : PrM T B w2 wr out sv acc fs) (hl : fs.length ≤ acc.length) (k1 : w'.ownsRow B 56 2 sv' (fs.reverse ++ [nf]).length (frc (fs.reverse ++ [nf]))) (k2 : (wr.alloc o).grownBy w' sv.ownBlock)
    (hnf : nf.n ≤ nf.l.length) (hn0 : nf.n = 0) (hnt : TL (fun g => g < B) wr nf.v nf.l) : PrM (acc ++ remF (nf :: fs)) B w2 w' out sv' acc (nf :: fs) := by
  have hz := h.kept ((Kept.refl _ wr).alloc o)
  have hb : Below B (wr.alloc o) w' := (Below.refl B _).grown k2 hz.siz (fun k hk => (h.stk.lt k hk).1)
  have hb2 : Below B wr w' := ((Below.refl B wr).alloc h.siz o).trans hb
  refine ⟨rfl, hz.out.kept k2 (own_apart hz.out hz.stk (by decide)), by simpa using k1, fun g hg => ?_, by simp; omega, fun g hg => (by
    rcases List.mem_cons.1 hg with rfl | hg
    · omega
    · exact h.cnt g hg), hz.bel.trans hb, Nat.le_trans hz.siz hb.size⟩
  rcases List.mem_cons.1 hg with rfl | hg
  · exact ⟨hnf, hnt.kept (Kept.of_below hb2) (fun g hg => ⟨by have := h.siz; omega, by omega⟩)⟩
  · exact frs_keep h.frs hb2 h.siz g hg
theorem PrM.done {T T' : List UInt8} {B : Nat} {w2 wr : World} {out sv : Value} {acc : List UInt8} {fs : List Fr} (h : PrM T B w2 wr out sv acc fs) (hL : Hid (acc ++ remF fs = T')) : PrM T' B w2 wr out sv acc fs := ⟨hL, h.out, h.stk, h.frs, h.len, h.cnt, h.bel, h.siz⟩
theorem PrM.top {T : List UInt8} {B : Nat} {w2 wr : World} {out sv : Value} {acc : List UInt8} {f : Fr} {r : List Fr} (h : PrM T B w2 wr out sv acc (f :: r)) : ∃ gs caps, sv = .slice (some ⟨gs, 0, none⟩) (r.length + 1) caps ∧ r.length + 1 ≤ caps ∧ caps ≤ maxLen ∧ B ≤ gs ∧
    wr.cell? ⟨gs, r.length * 2, none⟩ = some f.v ∧ wr.cell? ⟨gs, r.length * 2 + 1, none⟩ = some (.int .i64 (f.n : Int)) ∧ wr.frozen? ⟨gs, r.length * 2 + 1, none⟩ = false := by
  have hs := h.stk
  rw [List.reverse_cons, List.length_cons] at hs
  have hl := frc_last r.reverse f
  rw [List.length_reverse] at hl
  rcases hs.2 with ⟨_, h0⟩ | ⟨g, cap, cur, rfl, hb, hg, h1, h2, _⟩
  · omega
  · exact ⟨g, cap, rfl, h1, h2, hb, by rw [hs.cellAt _ (by omega)]; exact hl.1, by rw [hs.cellAt _ (by omega)]; exact hl.2, hs.frozenAt _⟩

set_option maxHeartbeats 1600000 in
set_option maxRecDepth 1000000 in
theorem print (t : Tr) (kv : Value) (F : Nat → Prop) (w : World) (ht : TL F w kv t.kids) (hF : ∀ g, F g → g < w.heap.size) (hl : (pr t).length ≤ 1000000000000) : Calls Try.prog 9 #[trv t kv] w (TextE (pr t) w) := by
  obtain ⟨ta, tc', rfl⟩ := ht.shape
  unfold trv
  go_enter Try.func9, Try.ntmps9
  go_wp2
  go_loopg [3, 4] (mzF [⟨[t], 0, .slice (some ⟨w.heap.size + 1, 0, none⟩) 1 1⟩]) (fun g out sv wr => ∃ acc fs, fs ≠ [] ∧ g = mzF fs ∧ PrM (pr t) (w.heap.size + 2) ((w.alloc (.cells #[.int .i64 (t.kind : Int), .int .i64 (t.place : Int), .string (str t.text), .slice ta t.kids.length tc'] 24)).alloc (.cells #[.int .i64 (t.kind : Int), .int .i64 (t.place : Int), .string (str t.text), .slice ta t.kids.length tc'] 24)) wr out sv acc fs)
  case atStart =>
    refine ⟨[], [⟨[t], 0, .slice (some ⟨w.heap.size + 1, 0, none⟩) 1 1⟩], by simp, rfl, ?_⟩
    have KA : Kept (fun _ => False) w ((w.alloc (.cells #[.int .i64 (t.kind : Int), .int .i64 (t.place : Int), .string (str t.text), .slice ta t.kids.length tc'] 24)).alloc (.cells #[.int .i64 (t.kind : Int), .int .i64 (t.place : Int), .string (str t.text), .slice ta t.kids.length tc'] 24)) := ((Kept.refl _ w).alloc _).alloc _
    refine ⟨by simp [Hid, remF, restF, seps], World.ownsRow_nil _ _ _ _, lit2 ((w.alloc (.cells #[.int .i64 (t.kind : Int), .int .i64 (t.place : Int), .string (str t.text), .slice ta t.kids.length tc'] 24)).alloc (.cells #[.int .i64 (t.kind : Int), .int .i64 (t.place : Int), .string (str t.text), .slice ta t.kids.length tc'] 24)) (.slice (some ⟨w.heap.size + 1, 0, none⟩) 1 1) (by simp), ?_, by simp, by simp, (Below.refl _ _).alloc (by simp) _, by simp⟩
    intro f hf
    simp at hf
    subst hf
    refine ⟨by simp, ?_⟩
    have hk2 : TL (fun g => g < w.heap.size + 2) ((w.alloc (.cells #[.int .i64 (t.kind : Int), .int .i64 (t.place : Int), .string (str t.text), .slice ta t.kids.length tc'] 24)).alloc (.cells #[.int .i64 (t.kind : Int), .int .i64 (t.place : Int), .string (str t.text), .slice ta t.kids.length tc'] 24)) (.slice ta t.kids.length tc') t.kids := (ht.kept KA (fun g hg => ⟨hF g hg, fun h => h⟩)).mono (fun g hg => by have := hF g hg; omega)
    refine TL.kept (S := fun _ => False) (w := (w.alloc (.cells #[.int .i64 (t.kind : Int), .int .i64 (t.place : Int), .string (str t.text), .slice ta t.kids.length tc'] 24)).alloc (.cells #[.int .i64 (t.kind : Int), .int .i64 (t.place : Int), .string (str t.text), .slice ta t.kids.length tc'] 24)) ?_ ((Kept.refl _ _).alloc _) (fun g hg => ⟨by simp; omega, fun h => h⟩)
    rw [TL_iff]
    refine .inr ⟨w.heap.size + 1, 1, rfl, by omega, fun i hi => ?_⟩
    have hi0 : i = 0 := by simpa using hi
    subst hi0
    refine ⟨.slice ta t.kids.length tc', hk2, fun j u hj => ?_⟩
    have := cells_at (w.alloc (.cells #[.int .i64 (t.kind : Int), .int .i64 (t.place : Int), .string (str t.text), .slice ta t.kids.length tc'] 24)) _ 24 (g := w.heap.size + 1) (by simp) j u hj
    rw [add_at] at this
    rw [show 0 * 4 + j = j from by omega]
    exact this
  case round =>
    obtain ⟨acc, fs, hne, rfl, hM⟩ := hrel
    obtain ⟨f, r, rfl⟩ := List.exists_cons_of_ne_nil hne
    obtain ⟨gs, caps, rfl, hc1, hc2, hgb, c0, c1, c2⟩ := hM.top
    obtain ⟨hfn, hft⟩ := hM.frs f (by simp)
    obtain ⟨fa, fc, hfv⟩ := hft.shape
    rw [hfv] at c0
    have hi0 : (r.length : Int) < (r.length : Int) + 1 := by omega
    have hout := hM.out
    have hrb : (r.length : Int) + 1 ≤ 9223372036854775807 := by unfold maxLen at hc2; omega
    by_cases hend : f.n = f.l.length
    · have t1 : ((f.n : Int) == (f.l.length : Int)) = true := by rw [beq_iff_eq]; omega
      cases r with
      | nil =>
        simp only [List.length_nil] at c0 c1 c2 hi0 hrb ⊢
        have HE : Hid (acc = pr t) := by rw [Hid, ← hM.left.out, remF, restF_end hend]; simp
        go_wp2
        go_quiet (fail)
        have hM' := hM.drewN nq
        have hcv := owns_string hM'.out
        have hbel := hM'.bel
        clear hM hM' hout
        go_wp2
        go_ret
        refine ⟨by rw [HE.out]; rfl, ?_⟩
        exact Below.trans (b := (w.alloc (.cells #[.int .i64 (t.kind : Int), .int .i64 (t.place : Int), .string (str t.text), .slice ta t.kids.length tc'] 24)).alloc (.cells #[.int .i64 (t.kind : Int), .int .i64 (t.place : Int), .string (str t.text), .slice ta t.kids.length tc'] 24)) (((Below.refl _ w).alloc (Nat.le_refl _) _).alloc (by simp) _) (hbel.mono (by omega))
      | cons f' r =>
        simp only [List.length_cons] at c0 c1 c2 hi0 hc1 hM hrb ⊢
        have hcm : (caps : Int) ≤ 9223372036854775807 := by unfold maxLen at hc2; omega
        have hi3 : (r.length : Int) + 1 ≤ (caps : Int) := by omega
        have hi4 : (0 : Int) ≤ (r.length : Int) + 1 := by omega
        have t2 : ((r.length : Int) + 1 + 1 == 1) = false := by rw [beq_eq_false_iff_ne]; omega
        have hal : acc.length ≤ 1000000000000 := by
          have := congrArg List.length hM.left.out
          rw [List.length_append] at this
          omega
        have hmz := mz_pop f (f' :: r)
        go_wp2
        go_quiet (fail)
        have hM' := hM.drewN nq
        clear hM hout c0 c1 c2
        generalize wr.drewN nq = wq at *
        go_wp2_with (at_builtin; refine append_bytes rfl (.tmp 31) (.tmp 32) rfl (w.heap.size + 2) _ acc rfl (hM'.out.alloc _) _ _ [41] (by simp) rfl ?src ?len ?hB ?next)
        case src => exact cells_at _ _ _ (by simp)
        case len => simp; omega
        case hB => simp; have := hM'.siz; omega
        case next =>
          intro ad c' w' k1 k2
          have hP := hM'.pop hend (by simpa using k1) k2
          clear hM' k1 k2
          go_wp2
          go_roundg (mzF (f' :: r))
          case measure => exact hmz
          case rel => exact ⟨_, _, by simp, rfl, hP⟩
    · have hlt : f.n < f.l.length := by omega
      have t1 : ((f.n : Int) == (f.l.length : Int)) = false := by rw [beq_eq_false_iff_ne]; omega
      have hil : (f.n : Int) < (f.l.length : Int) := by omega
      by_cases hn0 : 0 < f.n
      · have t2 : (0 : Int) < (f.n : Int) := by omega
        have hcn0 := hM.cnt f (by simp)
        have hL : Hid (acc ++ [32] ++ (pr f.l[f.n] ++ remF (⟨f.l, f.n + 1, f.v⟩ :: r)) = pr t) := by
          have := hM.left.out
          rw [remF_step hlt, if_pos hn0] at this
          rw [Hid, ← this]
          simp
        have hal : acc.length ≤ 1000000000000 := by
          have := congrArg List.length hM.left.out
          rw [List.length_append] at this
          omega
        go_wp2
        go_quiet (fail)
        have hM1 := hM.drewN nq
        replace c0 : (wr.drewN nq).cell? ⟨gs, r.length * 2, none⟩ = _ := c0
        replace c1 : (wr.drewN nq).cell? ⟨gs, r.length * 2 + 1, none⟩ = _ := c1
        clear hM hout hft c2
        generalize wr.drewN nq = wq at *
        go_wp2_with (at_builtin; refine append_bytes rfl (.tmp 44) (.tmp 45) rfl (w.heap.size + 2) _ acc rfl (hM1.out.alloc _) _ _ [32] (by simp) rfl ?src ?len ?hB ?next)
        case src => exact cells_at _ _ _ (by simp)
        case len => simp; omega
        case hB => simp; have := hM1.siz; omega
        case next =>
          intro ad c' wz j1 j2
          have hM' := hM1.put (x := [32]) ((Kept.refl (fun _ => False) wq).alloc _) (by simp) j1 j2
          clear hM1 j1 j2 c0 c1
          have hcn : f.n ≤ (acc ++ [32]).length := by have := hM'.cnt f (by simp); have := hcn0; simp; omega
          generalize acc ++ [32] = ac at *
          generalize Value.slice (some ad) (acc.length + 1) c' = ov at *
          go_wp2
          obtain ⟨gs', caps', hsv', _, _, _, c0, c1, c2⟩ := hM'.top
          cases hsv'
          obtain ⟨_, hft⟩ := hM'.frs f (by simp)
          rw [hfv] at c0 hft
          obtain ⟨gk', capk', kv, hkv, hgk, hkt, k0, k1, k2, k3⟩ := hft.at f.n hlt
          cases hkv
          obtain ⟨xa, xc, rfl⟩ := hkt.shape
          have KZ : Kept (fun _ => False) wz (wz.alloc (.cells #[.int .i64 0, .int .i64 0, .string ⟨#[]⟩, .slice none 0 0] 24)) := (Kept.refl _ wz).alloc _
          have d0 := KZ.cell k0 (fun h => h)
          have d1 := KZ.cell k1 (fun h => h)
          have d2 := KZ.cell k2 (fun h => h)
          have d3 := KZ.cell k3 (fun h => h)
          have d4 := KZ.cell c0 (fun h => h)
          have d5 := KZ.cell c1 (fun h => h)
          clear KZ
          go_cut [6] from 47 to 56 (fun p wx => p = .pointer (some ⟨wz.heap.size, 0, none⟩) ∧ wx = (wz.alloc (.cells #[.int .i64 (f.l[f.n].kind : Int), .int .i64 (f.l[f.n].place : Int), .string (str f.l[f.n].text), .slice xa f.l[f.n].kids.length xc] 24)).drew)
          case first =>
            clear hM' hL hkt hft
            go_region
            all_goals (go_wp2_with fail; go_meet; exact ⟨rfl, rfl⟩)
          case rest =>
            obtain ⟨rfl, hw⟩ := hcut
            have KC : Kept (fun _ => False) wz wc := by
              rw [hw]
              exact ((Kept.refl _ wz).alloc _).drew
            have hb6 : wc.heap[wz.heap.size]? = some (.cells #[.int .i64 (f.l[f.n].kind : Int), .int .i64 (f.l[f.n].place : Int), .string (str f.l[f.n].text), .slice xa f.l[f.n].kids.length xc] 24) := by
              rw [hw]
              exact heap_alloc_new wz _
            have hkt2 := hkt.kept KC (fun g hg => ⟨by have := hM'.siz; omega, fun h => h⟩)
            have hM2 := hM'.kept KC
            have c0' := KC.cell c0 (fun h => h)
            have c1' := KC.cell c1 (fun h => h)
            have c2' : wc.frozen? ⟨gs, r.length * 2 + 1, none⟩ = false := by
              rw [World.frozen?_of_block (w := wz) (KC.block gs (World.block_lt_of_cell? wz _ c1) (fun h => h))]
              exact c2
            have hgs6 : gs ≠ wz.heap.size := by have := World.block_lt_of_cell? wz _ c1; simp only at this; omega
            obtain ⟨b0, b1, b2, b3, _⟩ := four_cells hb6
            have hM3 := hM2.next hlt hcn
            have hkt3 := hkt2.kept ((Kept.refl (fun k => k = gs) wc).setCell (p := ⟨gs, r.length * 2 + 1, none⟩) (fun _ => rfl) (.int .i64 ((f.n : Int) + 1))) (fun g hg => ⟨by have := hM2.siz; omega, fun h => by omega⟩)
            have hq6 : (wc.setCell ⟨gs, r.length * 2 + 1, none⟩ (.int .i64 ((f.n : Int) + 1))).heap[wz.heap.size]? = _ := (Below.heap_setCell wc ⟨gs, r.length * 2 + 1, none⟩ _ wz.heap.size (fun e => hgs6 e.symm)).trans hb6
            obtain ⟨q0, q1, q2, q3, _⟩ := four_cells hq6
            have hmz1 := mz_step (r := r) hlt
            have hlen3 := hM3.len
            have hmz2 := mz_open (r := r) hlt (.slice xa f.l[f.n].kids.length xc)
            have hpl : ac.length + (pr f.l[f.n]).length ≤ 1000000000000 := by
              have := congrArg List.length hL.out
              simp only [List.length_append] at this ⊢
              omega
            have hfn9 : (f.n : Int) + 1 ≤ 9223372036854775807 := by omega
            clear KC hw hM' hM2 hkt hkt2 hft k0 k1 k2 k3 c0 c1 c2 d0 d1 d2 d3 d4 d5 hb6
            generalize wz.heap.size = b6 at *
            by_cases g1 : f.l[f.n].kind = 1
            · have s1 : ((f.l[f.n].kind : Int) == 1) = true := by rw [beq_iff_eq]; omega
              have hL1 : Hid (ac ++ [40] ++ remF (⟨f.l[f.n].kids, 0, .slice xa f.l[f.n].kids.length xc⟩ :: ⟨f.l, f.n + 1, f.v⟩ :: r) = pr t) := by
                have e1 := remF_open (r := r) hlt g1 (.slice xa f.l[f.n].kids.length xc)
                have e2 := remF_step (r := r) hlt
                rw [e1] at e2
                have e3 := List.append_cancel_left e2
                have e4 := hL.out
                rw [← e3] at e4
                rw [Hid, ← e4]
                simp
              go_wp2_with (at_builtin; refine append_bytes rfl (.tmp 68) (.tmp 69) rfl (w.heap.size + 2) _ ac rfl (hM3.out.alloc _) _ _ [40] (by simp) rfl ?src ?len ?hB ?next)
              case src => exact cells_at _ _ _ (by simp)
              case len => simp at hpl ⊢; omega
              case hB => simp; have := hM3.siz; simp at this; omega
              case next =>
                intro ad c' w' j1 j2
                have KA := (Kept.refl (fun _ => False) (wc.setCell ⟨gs, r.length * 2 + 1, none⟩ (.int .i64 ((f.n : Int) + 1)))).alloc (.cells #[.int .u8 40] 5)
                have hM4 := hM3.put (x := [40]) KA (by simp) j1 j2
                have KB : Kept (fun k => w.heap.size + 2 ≤ k) (wc.setCell ⟨gs, r.length * 2 + 1, none⟩ (.int .i64 ((f.n : Int) + 1))) w' := (KA.mono (fun _ _ h => h.elim)).grown j2 (fun k hk _ => (hM3.out.lt k hk).1)
                have hkt4 := hkt3.kept KB (fun g hg => ⟨by have := hM3.siz; omega, by omega⟩)
                have hno : ∀ k, ov.ownBlock = some k → k ≠ b6 := fun k hk e => by
                  subst e
                  rcases hM3.out.2 with ⟨hz, _⟩ | ⟨g', _, _, hz, _, hg', _⟩
                  · rw [hz] at hk; cases hk
                  · rw [hz] at hk
                    simp [Value.ownBlock] at hk
                    subst hk
                    have := hq6
                    rw [hg'] at this
                    cases this
                have KD : Kept (fun k => ov.ownBlock = some k) (wc.setCell ⟨gs, r.length * 2 + 1, none⟩ (.int .i64 ((f.n : Int) + 1))) w' := (KA.mono (fun _ _ h => h.elim)).grown j2 (fun k hk _ => hk)
                have p3 := KD.cell q3 (fun h => hno _ h rfl)
                clear hM3 j1 j2 KA KB KD hkt3 q0 q1 q2 q3 b0 b1 b2 b3
                go_wp2_with (at_builtin; refine append_row rfl (.tmp 71) (.tmp 75) rfl (w.heap.size + 2) _ (⟨f.l, f.n + 1, f.v⟩ :: r).reverse rfl (by rw [List.length_reverse]; exact hM4.stk.alloc _) _ _ ⟨f.l[f.n].kids, 0, .slice xa f.l[f.n].kids.length xc⟩ rfl ?src ?one ?len ?hB ?next)
                case src => exact fun j u hj => cells_new _ [.slice xa f.l[f.n].kids.length xc, .int .i64 0] _ j u hj
                case one => rfl
                case len => simp at hlen3 hpl ⊢; omega
                case hB => simp; have := hM4.siz; omega
                case next =>
                  intro g cap w'' j3 j4
                  have hM5 := (hM4.push (sv' := .slice (some ⟨g, 0, none⟩) (r.length + 1 + 1) cap) (nf := ⟨f.l[f.n].kids, 0, .slice xa f.l[f.n].kids.length xc⟩) (by simp at hlen3 ⊢; omega) (by simpa [hfv] using j3) j4 (Nat.zero_le _) rfl hkt4).done hL1
                  clear hM4 j3 j4
                  skip
                  go_wp2
                  go_roundg (mzF (⟨f.l[f.n].kids, 0, .slice xa f.l[f.n].kids.length xc⟩ :: ⟨f.l, f.n + 1, f.v⟩ :: r))
                  case measure => exact hmz2
                  case rel => exact ⟨_, _, by simp, rfl, hM5⟩
            have s1 : ((f.l[f.n].kind : Int) == 1) = false := by rw [beq_eq_false_iff_ne]; omega
            by_cases g3 : f.l[f.n].kind = 3
            · have s3 : ((f.l[f.n].kind : Int) == 3) = true := by rw [beq_iff_eq]; omega
              have e : pr f.l[f.n] = f.l[f.n].text := by rw [pr_eq, if_pos g3]
              rw [e] at hpl
              have hL1 : Hid (ac ++ f.l[f.n].text ++ remF (⟨f.l, f.n + 1, f.v⟩ :: r) = pr t) := by
                have e4 := hL.out
                rw [e] at e4
                rw [Hid, ← e4]
                simp
              clear e hL
              go_wp2_with (at_builtin; refine append_text rfl (.tmp 79) (.tmp 81) rfl (w.heap.size + 2) _ ac rfl hM3.out f.l[f.n].text rfl ?len ?hB ?next)
              case len => omega
              case hB => exact hM3.siz
              case next =>
                intro v' w' j1 j2
                have hM4 := (hM3.put (x := f.l[f.n].text) (Kept.refl _ _) (by simp) j1 j2).done hL1
                clear hM3 j1 j2 hkt3 q0 q1 q2 q3 b0 b1 b2 b3
                go_wp2
                go_roundg (mzF (⟨f.l, f.n + 1, f.v⟩ :: r))
                case measure => exact hmz1
                case rel => exact ⟨_, _, by simp, rfl, hM4⟩
            have s3 : ((f.l[f.n].kind : Int) == 3) = false := by rw [beq_eq_false_iff_ne]; omega
            by_cases g4 : f.l[f.n].kind = 4
            · have s4 : ((f.l[f.n].kind : Int) == 4) = true := by rw [beq_iff_eq]; omega
              have e : pr f.l[f.n] = quoteR f.l[f.n].text := by rw [pr_eq, if_neg g3, if_pos g4]
              rw [e] at hpl
              have hql := (quoteR_length f.l[f.n].text).2
              have hL1 : Hid (ac ++ quoteR f.l[f.n].text ++ remF (⟨f.l, f.n + 1, f.v⟩ :: r) = pr t) := by
                have e4 := hL.out
                rw [e] at e4
                rw [Hid, ← e4]
                simp
              clear e hL
              go_wp2_with fail
              refine (quote (str f.l[f.n].text) _ (by rw [str_size]; omega)).mono ?_
              rintro e w5 ⟨rfl, hb5⟩
              rw [str_data]
              have K5 : Kept (fun _ => False) (wc.setCell ⟨gs, r.length * 2 + 1, none⟩ (.int .i64 ((f.n : Int) + 1))) w5 := (Kept.of_below hb5).mono (fun k hk h => by omega)
              go_wp2_with (at_builtin; refine append_text rfl (.tmp 85) (.tmp 88) rfl (w.heap.size + 2) _ ac rfl (hM3.kept K5).out (quoteR f.l[f.n].text) rfl ?len ?hB ?next)
              case len => omega
              case hB => exact (hM3.kept K5).siz
              case next =>
                intro v' w' j1 j2
                have hM4 := (hM3.put (x := quoteR f.l[f.n].text) K5 (by simp) j1 j2).done hL1
                clear hM3 j1 j2 K5 hb5 hkt3 q0 q1 q2 q3 b0 b1 b2 b3
                go_wp2
                go_roundg (mzF (⟨f.l, f.n + 1, f.v⟩ :: r))
                case measure => exact hmz1
                case rel => exact ⟨_, _, by simp, rfl, hM4⟩
            have s4 : ((f.l[f.n].kind : Int) == 4) = false := by rw [beq_eq_false_iff_ne]; omega
            have hL1 : Hid (ac ++ remF (⟨f.l, f.n + 1, f.v⟩ :: r) = pr t) := by
              have e4 := hL.out
              rw [pr_eq, if_neg g3, if_neg g4, if_neg g1, List.nil_append] at e4
              exact e4
            have hM4 := hM3.done hL1
            clear hL hM3 hkt3
            go_wp2
            go_roundg (mzF (⟨f.l, f.n + 1, f.v⟩ :: r))
            case measure => exact hmz1
            case rel => exact ⟨_, _, by simp, rfl, hM4⟩
      · have t2 : ¬ (0 : Int) < (f.n : Int) := by omega
        have hcn : f.n ≤ acc.length := by omega
        have hL : Hid (acc ++ (pr f.l[f.n] ++ remF (⟨f.l, f.n + 1, f.v⟩ :: r)) = pr t) := by
          have := hM.left.out
          rw [remF_step hlt, if_neg hn0, List.nil_append] at this
          exact this
        go_wp2
        go_quiet (fail)
        have hM' := hM.drewN nq
        replace c0 : (wr.drewN nq).cell? ⟨gs, r.length * 2, none⟩ = _ := c0
        replace c1 : (wr.drewN nq).cell? ⟨gs, r.length * 2 + 1, none⟩ = _ := c1
        clear hM hout hft c2
        generalize wr.drewN nq = wz at *
        go_wp2
        obtain ⟨gs', caps', hsv', _, _, _, c0, c1, c2⟩ := hM'.top
        cases hsv'
        obtain ⟨_, hft⟩ := hM'.frs f (by simp)
        rw [hfv] at c0 hft
        obtain ⟨gk', capk', kv, hkv, hgk, hkt, k0, k1, k2, k3⟩ := hft.at f.n hlt
        cases hkv
        obtain ⟨xa, xc, rfl⟩ := hkt.shape
        have KZ : Kept (fun _ => False) wz (wz.alloc (.cells #[.int .i64 0, .int .i64 0, .string ⟨#[]⟩, .slice none 0 0] 24)) := (Kept.refl _ wz).alloc _
        have d0 := KZ.cell k0 (fun h => h)
        have d1 := KZ.cell k1 (fun h => h)
        have d2 := KZ.cell k2 (fun h => h)
        have d3 := KZ.cell k3 (fun h => h)
        have d4 := KZ.cell c0 (fun h => h)
        have d5 := KZ.cell c1 (fun h => h)
        clear KZ
        go_cut [6] from 47 to 56 (fun p wx => p = .pointer (some ⟨wz.heap.size, 0, none⟩) ∧ wx = (wz.alloc (.cells #[.int .i64 (f.l[f.n].kind : Int), .int .i64 (f.l[f.n].place : Int), .string (str f.l[f.n].text), .slice xa f.l[f.n].kids.length xc] 24)).drew)
        case first =>
          clear hM' hL hkt hft
          go_region
          all_goals (go_wp2_with fail; go_meet; exact ⟨rfl, rfl⟩)
        case rest =>
          obtain ⟨rfl, hw⟩ := hcut
          have KC : Kept (fun _ => False) wz wc := by
            rw [hw]
            exact ((Kept.refl _ wz).alloc _).drew
          have hb6 : wc.heap[wz.heap.size]? = some (.cells #[.int .i64 (f.l[f.n].kind : Int), .int .i64 (f.l[f.n].place : Int), .string (str f.l[f.n].text), .slice xa f.l[f.n].kids.length xc] 24) := by
            rw [hw]
            exact heap_alloc_new wz _
          have hkt2 := hkt.kept KC (fun g hg => ⟨by have := hM'.siz; omega, fun h => h⟩)
          have hM2 := hM'.kept KC
          have c0' := KC.cell c0 (fun h => h)
          have c1' := KC.cell c1 (fun h => h)
          have c2' : wc.frozen? ⟨gs, r.length * 2 + 1, none⟩ = false := by
            rw [World.frozen?_of_block (w := wz) (KC.block gs (World.block_lt_of_cell? wz _ c1) (fun h => h))]
            exact c2
          have hgs6 : gs ≠ wz.heap.size := by have := World.block_lt_of_cell? wz _ c1; simp only at this; omega
          obtain ⟨b0, b1, b2, b3, _⟩ := four_cells hb6
          have hM3 := hM2.next hlt hcn
          have hkt3 := hkt2.kept ((Kept.refl (fun k => k = gs) wc).setCell (p := ⟨gs, r.length * 2 + 1, none⟩) (fun _ => rfl) (.int .i64 ((f.n : Int) + 1))) (fun g hg => ⟨by have := hM2.siz; omega, fun h => by omega⟩)
          have hq6 : (wc.setCell ⟨gs, r.length * 2 + 1, none⟩ (.int .i64 ((f.n : Int) + 1))).heap[wz.heap.size]? = _ := (Below.heap_setCell wc ⟨gs, r.length * 2 + 1, none⟩ _ wz.heap.size (fun e => hgs6 e.symm)).trans hb6
          obtain ⟨q0, q1, q2, q3, _⟩ := four_cells hq6
          have hmz1 := mz_step (r := r) hlt
          have hlen3 := hM3.len
          have hmz2 := mz_open (r := r) hlt (.slice xa f.l[f.n].kids.length xc)
          have hpl : acc.length + (pr f.l[f.n]).length ≤ 1000000000000 := by
            have := congrArg List.length hL.out
            simp only [List.length_append] at this ⊢
            omega
          have hfn9 : (f.n : Int) + 1 ≤ 9223372036854775807 := by omega
          clear KC hw hM' hM2 hkt hkt2 hft k0 k1 k2 k3 c0 c1 c2 d0 d1 d2 d3 d4 d5 hb6
          generalize wz.heap.size = b6 at *
          by_cases g1 : f.l[f.n].kind = 1
          · have s1 : ((f.l[f.n].kind : Int) == 1) = true := by rw [beq_iff_eq]; omega
            have hL1 : Hid (acc ++ [40] ++ remF (⟨f.l[f.n].kids, 0, .slice xa f.l[f.n].kids.length xc⟩ :: ⟨f.l, f.n + 1, f.v⟩ :: r) = pr t) := by
              have e1 := remF_open (r := r) hlt g1 (.slice xa f.l[f.n].kids.length xc)
              have e2 := remF_step (r := r) hlt
              rw [e1] at e2
              have e3 := List.append_cancel_left e2
              have e4 := hL.out
              rw [← e3] at e4
              rw [Hid, ← e4]
              simp
            go_wp2_with (at_builtin; refine append_bytes rfl (.tmp 68) (.tmp 69) rfl (w.heap.size + 2) _ (acc) rfl (hM3.out.alloc _) _ _ [40] (by simp) rfl ?src ?len ?hB ?next)
            case src => exact cells_at _ _ _ (by simp)
            case len => simp at hpl ⊢; omega
            case hB => simp; have := hM3.siz; simp at this; omega
            case next =>
              intro ad c' w' j1 j2
              have KA := (Kept.refl (fun _ => False) (wc.setCell ⟨gs, r.length * 2 + 1, none⟩ (.int .i64 ((f.n : Int) + 1)))).alloc (.cells #[.int .u8 40] 5)
              have hM4 := hM3.put (x := [40]) KA (by simp) j1 j2
              have KB : Kept (fun k => w.heap.size + 2 ≤ k) (wc.setCell ⟨gs, r.length * 2 + 1, none⟩ (.int .i64 ((f.n : Int) + 1))) w' := (KA.mono (fun _ _ h => h.elim)).grown j2 (fun k hk _ => (hM3.out.lt k hk).1)
              have hkt4 := hkt3.kept KB (fun g hg => ⟨by have := hM3.siz; omega, by omega⟩)
              have hno : ∀ k, u3.ownBlock = some k → k ≠ b6 := fun k hk e => by
                subst e
                rcases hM3.out.2 with ⟨hz, _⟩ | ⟨g', _, _, hz, _, hg', _⟩
                · rw [hz] at hk; cases hk
                · rw [hz] at hk
                  simp [Value.ownBlock] at hk
                  subst hk
                  have := hq6
                  rw [hg'] at this
                  cases this
              have KD : Kept (fun k => u3.ownBlock = some k) (wc.setCell ⟨gs, r.length * 2 + 1, none⟩ (.int .i64 ((f.n : Int) + 1))) w' := (KA.mono (fun _ _ h => h.elim)).grown j2 (fun k hk _ => hk)
              have p3 := KD.cell q3 (fun h => hno _ h rfl)
              clear hM3 j1 j2 KA KB KD hkt3 q0 q1 q2 q3 b0 b1 b2 b3
              go_wp2_with (at_builtin; refine append_row rfl (.tmp 71) (.tmp 75) rfl (w.heap.size + 2) _ (⟨f.l, f.n + 1, f.v⟩ :: r).reverse rfl (by rw [List.length_reverse]; exact hM4.stk.alloc _) _ _ ⟨f.l[f.n].kids, 0, .slice xa f.l[f.n].kids.length xc⟩ rfl ?src ?one ?len ?hB ?next)
              case src => exact fun j u hj => cells_new _ [.slice xa f.l[f.n].kids.length xc, .int .i64 0] _ j u hj
              case one => rfl
              case len => simp at hlen3 hpl ⊢; omega
              case hB => simp; have := hM4.siz; omega
              case next =>
                intro g cap w'' j3 j4
                have hM5 := (hM4.push (sv' := .slice (some ⟨g, 0, none⟩) (r.length + 1 + 1) cap) (nf := ⟨f.l[f.n].kids, 0, .slice xa f.l[f.n].kids.length xc⟩) (by simp at hlen3 ⊢; omega) (by simpa [hfv] using j3) j4 (Nat.zero_le _) rfl hkt4).done hL1
                clear hM4 j3 j4
                skip
                go_wp2
                go_roundg (mzF (⟨f.l[f.n].kids, 0, .slice xa f.l[f.n].kids.length xc⟩ :: ⟨f.l, f.n + 1, f.v⟩ :: r))
                case measure => exact hmz2
                case rel => exact ⟨_, _, by simp, rfl, hM5⟩
          have s1 : ((f.l[f.n].kind : Int) == 1) = false := by rw [beq_eq_false_iff_ne]; omega
          by_cases g3 : f.l[f.n].kind = 3
          · have s3 : ((f.l[f.n].kind : Int) == 3) = true := by rw [beq_iff_eq]; omega
            have e : pr f.l[f.n] = f.l[f.n].text := by rw [pr_eq, if_pos g3]
            rw [e] at hpl
            have hL1 : Hid (acc ++ f.l[f.n].text ++ remF (⟨f.l, f.n + 1, f.v⟩ :: r) = pr t) := by
              have e4 := hL.out
              rw [e] at e4
              rw [Hid, ← e4]
              simp
            clear e hL
            go_wp2_with (at_builtin; refine append_text rfl (.tmp 79) (.tmp 81) rfl (w.heap.size + 2) _ (acc) rfl hM3.out f.l[f.n].text rfl ?len ?hB ?next)
            case len => omega
            case hB => exact hM3.siz
            case next =>
              intro v' w' j1 j2
              have hM4 := (hM3.put (x := f.l[f.n].text) (Kept.refl _ _) (by simp) j1 j2).done hL1
              clear hM3 j1 j2 hkt3 q0 q1 q2 q3 b0 b1 b2 b3
              go_wp2
              go_roundg (mzF (⟨f.l, f.n + 1, f.v⟩ :: r))
              case measure => exact hmz1
              case rel => exact ⟨_, _, by simp, rfl, hM4⟩
          have s3 : ((f.l[f.n].kind : Int) == 3) = false := by rw [beq_eq_false_iff_ne]; omega
          by_cases g4 : f.l[f.n].kind = 4
          · have s4 : ((f.l[f.n].kind : Int) == 4) = true := by rw [beq_iff_eq]; omega
            have e : pr f.l[f.n] = quoteR f.l[f.n].text := by rw [pr_eq, if_neg g3, if_pos g4]
            rw [e] at hpl
            have hql := (quoteR_length f.l[f.n].text).2
            have hL1 : Hid (acc ++ quoteR f.l[f.n].text ++ remF (⟨f.l, f.n + 1, f.v⟩ :: r) = pr t) := by
              have e4 := hL.out
              rw [e] at e4
              rw [Hid, ← e4]
              simp
            clear e hL
            go_wp2_with fail
            refine (quote (str f.l[f.n].text) _ (by rw [str_size]; omega)).mono ?_
            rintro e w5 ⟨rfl, hb5⟩
            rw [str_data]
            have K5 : Kept (fun _ => False) (wc.setCell ⟨gs, r.length * 2 + 1, none⟩ (.int .i64 ((f.n : Int) + 1))) w5 := (Kept.of_below hb5).mono (fun k hk h => by omega)
            go_wp2_with (at_builtin; refine append_text rfl (.tmp 85) (.tmp 88) rfl (w.heap.size + 2) _ (acc) rfl (hM3.kept K5).out (quoteR f.l[f.n].text) rfl ?len ?hB ?next)
            case len => omega
            case hB => exact (hM3.kept K5).siz
            case next =>
              intro v' w' j1 j2
              have hM4 := (hM3.put (x := quoteR f.l[f.n].text) K5 (by simp) j1 j2).done hL1
              clear hM3 j1 j2 K5 hb5 hkt3 q0 q1 q2 q3 b0 b1 b2 b3
              go_wp2
              go_roundg (mzF (⟨f.l, f.n + 1, f.v⟩ :: r))
              case measure => exact hmz1
              case rel => exact ⟨_, _, by simp, rfl, hM4⟩
          have s4 : ((f.l[f.n].kind : Int) == 4) = false := by rw [beq_eq_false_iff_ne]; omega
          have hL1 : Hid (acc ++ remF (⟨f.l, f.n + 1, f.v⟩ :: r) = pr t) := by
            have e4 := hL.out
            rw [pr_eq, if_neg g3, if_neg g4, if_neg g1, List.nil_append] at e4
            exact e4
          have hM4 := hM3.done hL1
          clear hL hM3 hkt3
          go_wp2
          go_roundg (mzF (⟨f.l, f.n + 1, f.v⟩ :: r))
          case measure => exact hmz1
          case rel => exact ⟨_, _, by simp, rfl, hM4⟩
end Go.Proofs.Ytmekjbplodnldaa
