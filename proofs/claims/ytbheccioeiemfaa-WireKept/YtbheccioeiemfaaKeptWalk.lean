/-
  The law WireKept: what is handed out is new memory each time.
-/
import Derived.Test.YtbheccioeiemfaaKeepWalk
import Derived.Test.YtbheccioeiemfaaApart
namespace Go.Proofs.Ytbheccioeiemfaa
open Go.RowKit

theorem rTake_in (l : List Nat) (p why : Nat) (n : Int) (hp : p ≤ l.length) : (rTake l p why n).2.1 ≤ l.length ∧ (rTake l p why n).1.length ≤ l.length := by
  unfold rTake
  split
  · exact ⟨hp, by simp⟩
  · split
    · simp
    · simp only [List.length_take, List.length_drop]
      omega
theorem book_new {w : World} {bb M : Nat} (hb : Box w bb #[.slice none 0 0, .slice none 0 0, .int .i64 0, .bool false]) (hM : bb < M) (hs : M ≤ w.heap.size) : BookIs w bb M M (.slice none 0 0) (.slice none 0 0) 0 [] :=
  ⟨hb, .inl ⟨rfl, rfl⟩, .inl ⟨rfl, rfl⟩, fun _ h => by simp at h, hM, hs, fun _ h => by simp [Value.ownBlock] at h, fun _ h => by simp [Value.ownBlock] at h, List.Pairwise.nil⟩

def KeptE (w : World) (e : Ending) (w' : World) : Prop := e = .returned (.bool true) ∧ Kept (fun _ => False) w w'

set_option maxHeartbeats 1600000 in
set_option maxRecDepth 1000000 in
theorem wireKept_walk (v : Value) (b0 : Nat) (l : List Nat) (w : World) (hl : l.length ≤ 140737488355328) (hv : Rd w b0 v l) : Calls Try.prog 7 #[v] w (KeptE w) := by
  obtain ⟨va, vc, hva⟩ := hv.shape
  subst hva
  go_enter Try.func7, Try.ntmps7
  have hbx0 : Box (w.alloc (.cells #[.slice none 0 0, .slice none 0 0, .int .i64 0, .bool false] 62)) w.heap.size #[.slice none 0 0, .slice none 0 0, .int .i64 0, .bool false] := ⟨62, heap_alloc_new w _⟩
  have hK0 := (Kept.refl (fun _ => False) w).alloc (.cells #[.slice none 0 0, .slice none 0 0, .int .i64 0, .bool false] 62)
  have hz0 : (w.alloc (.cells #[.slice none 0 0, .slice none 0 0, .int .i64 0, .bool false] 62)).heap.size = w.heap.size + 1 := by simp
  go_wp2_with fail
  generalize w.alloc (.cells #[.slice none 0 0, .slice none 0 0, .int .i64 0, .bool false] 62) = w0 at hbx0 hK0 hz0
  refine (newwriter w0).mono ?_
  rintro e w1 ⟨b, rfl, h1, hb1, hk⟩
  have hK1 := hK0.on hk (fun _ h => h.elim)
  have hbx1 := hbx0.kept hk (fun h => h)
  have hz1 := hk.size
  have hbl := h1.lt
  clear hk hbx0 hK0
  go_wp2_with fail
  refine (newreader _ b0 l _ hl (hv.kept hK1 (fun h => h))).mono ?_
  rintro e w2 ⟨rb, rg, rfl, h2, hrb, hrg, hk⟩
  have hK2 := hK1.on hk (fun _ h => h.elim)
  have hbx2 := hbx1.kept hk (fun h => h)
  have hw2 := h1.kept hk (fun h => h) (fun h => h)
  have hz2 := hk.size
  have hrbl := h2.lt
  have hrgl := h2.gt
  clear hk hbx1 hK1 h1
  go_wp2_with fail
  refine (wraw _ b0 l b b [] _ (by simpa using hl) hw2 (hv.kept hK2 (fun h => h))).mono ?_
  rintro e w3 ⟨rfl, g, h3, hg3, hk⟩
  have hK3 := hK2.on hk (by omega)
  have hbx3 := hbx2.kept hk (by omega)
  have hr3 := h2.kept hk (by omega) (by omega)
  have hz3 := hk.size
  have hgl := h3.gt
  have hB3 := book_new hbx3 (M := w3.heap.size) (by omega) (Nat.le_refl _)
  rw [List.nil_append] at h3
  clear hk hbx2 hbx3 hK2 hw2 h2
  have hgb : g ≠ w.heap.size := by omega
  have hbb : b ≠ w.heap.size := by omega
  have hrbb : rb ≠ w.heap.size := by omega
  have hrgb : rg ≠ w.heap.size := by omega
  have hbrb : b ≠ rb := by omega
  have hgrb : g ≠ rb := by omega
  have hrw : w.heap.size < rb := by omega
  have hrb3 : rb < w3.heap.size := by omega
  have hrg3 : rg < w3.heap.size := by omega
  have hbl3 : b < w3.heap.size := by omega
  have hwM : w.heap.size < w3.heap.size := by omega
  generalize hM : w3.heap.size = M at hB3 hgl hrb3 hrg3 hbl3 hwM
  have hM' : M ≤ w3.heap.size := by omega
  clear hM hz0 hz1 hz2 hz3 hb1 hbl hrb hrg hrbl hrgl hg3
  go_wp2
  go_loopg [6] 2 (fun gk i wr => ∃ (k N p why : Nat) (lv wv : Value) (held : Int) (es : List Ent), gk + k = 2 ∧ i = .int .i64 k ∧ BookIs wr w.heap.size M N lv wv held es ∧ es.length ≤ 2 * k ∧ WIs wr b g l ∧ RIs wr rb rg l p why ∧ p ≤ l.length ∧ M ≤ wr.heap.size ∧ Kept (fun _ => False) w wr)
  case atStart => exact ⟨0, M, 0, 0, _, _, _, [], rfl, rfl, hB3, by simp, h3, hr3, by simp, hM', hK3⟩
  case round =>
    obtain ⟨k, N, p, why, lv, wv, held, es, hgk, rfl, hB, hes, hW, hR, hp, hMr, hK⟩ := hrel
    clear hB3 h3 hr3 hM' hK3
    by_cases hk2 : k < 2
    · go_wp2_with fail
      refine (wdone b g l _ hl hW).mono ?_
      rintro e wa ⟨vd, gd, rfl, hrd, hgd, hka⟩
      have hBa := hB.kept hka (fun _ h => h.elim)
      have hWa := hW.kept hka (fun h => h) (fun h => h)
      have hRa := hR.kept hka (fun h => h) (fun h => h)
      have hKa := hK.on hka (fun _ h => h.elim)
      have hsa := hka.size
      have hNr := hB.2.2.2.2.2.1
      have hfr : ∀ k, vd.ownBlock = some k → M ≤ k ∧ N ≤ k := by
        intro k hk
        rcases hrd.2 with e | e
        · rw [e] at hk; simp at hk
        · rw [e] at hk; simp at hk; omega
      clear hka hB hW hR hK
      go_wp2_with fail
      refine (keep wa _ M N lv wv held es (by omega) hBa vd gd l hl hrd hfr (by omega)).mono ?_
      rintro e wb ⟨rfl, N1, lv1, wv1, held1, es1, hBb, hes1, hkb⟩
      have hWb := hWa.kept hkb (by omega) (by omega)
      have hRb := hRa.kept hkb (by omega) (by omega)
      have hKb := hKa.on hkb (by omega)
      have hsb := hkb.size
      clear hkb hBa hWa hRa hKa hrd hfr
      go_wp2_with fail
      refine (rraw 2 rb rg l p why _ (by omega) hl hp hRb).mono ?_
      rintro e wc ⟨vr, gr, rfl, hrr, hgr, hRc, hkc⟩
      have hBc := hBb.kept hkc (by omega)
      have hWc := hWb.kept hkc (fun h => hbrb h) (fun h => hgrb h)
      have hKc := hKb.on hkc (by omega)
      have hsc := hkc.size
      have hNb := hBb.2.2.2.2.2.1
      have hin := rTake_in l p why 2 hp
      generalize rTake l p why 2 = T at hrr hRc hin
      have hfr : ∀ k, vr.ownBlock = some k → M ≤ k ∧ N1 ≤ k := by
        intro k hk
        rcases hrr.2 with e | e
        · rw [e] at hk; simp at hk
        · rw [e] at hk; simp at hk; omega
      clear hkc hBb hWb hRb hKb hp
      go_wp2_with fail
      refine (keep wc _ M N1 lv1 wv1 held1 es1 (by omega) hBc vr gr T.1 (by omega) hrr hfr (by omega)).mono ?_
      rintro e wd ⟨rfl, N2, lv2, wv2, held2, es2, hBd, hes2, hkd⟩
      have hWd := hWc.kept hkd (by omega) (by omega)
      have hRd := hRc.kept hkd (by omega) (by omega)
      have hKd := hKc.on hkd (by omega)
      have hsd := hkd.size
      clear hkd hBc hWc hRc hKc hrr hfr
      go_wp2
      go_roundg (2 - (k + 1))
      case measure => omega
      case rel => exact ⟨k + 1, N2, _, _, lv2, wv2, held2, es2, by omega, by go_num, hBd, by omega, hWd, hRd, hin.1, by omega, hKd⟩
    · go_wp2_with fail
      refine (apart wr _ M N lv wv held es (by omega) hB).mono ?_
      rintro e wa ⟨rfl, hka⟩
      have hKa := hK.on hka (by omega)
      clear hka hB hW hR hK
      go_wp2_with fail
      refine (known_true _).mono ?_
      rintro e wk ⟨rfl, hkk⟩
      have hKk := hKa.on hkk (fun _ h => h.elim)
      go_wp2
      go_ret
      exact ⟨rfl, hKk⟩
end Go.Proofs.Ytbheccioeiemfaa
