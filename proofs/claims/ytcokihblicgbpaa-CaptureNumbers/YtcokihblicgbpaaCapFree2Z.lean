/-
  Captures: the package's Free.
-/
import Derived.Test.YtcokihblicgbpaaCapFreeZ
namespace Go.Proofs.Ytcokihblicgbpaa
open Go.RowKit Go.Shelf

/-- Names are answered: a row of the call's own. -/
def FreE (l : List (List UInt8)) (w : World) (r : Ending) (w' : World) : Prop := ∃ v, r = .returned v ∧ w'.ownsRow w.heap.size 9 1 v l.length (sc l) ∧ Below w.heap.size w w'
theorem own_base {W : World} {B B' e s k : Nat} {v : Value} {xs : List Value} (h : W.ownsRow B e s v k xs) (hb : B' ≤ B) : W.ownsRow B' e s v k xs := by
  refine ⟨h.1, ?_⟩
  rcases h.2 with h | ⟨g, cap, cur, h1, h2, h3⟩
  · exact .inl h
  · exact .inr ⟨g, cap, cur, h1, Nat.le_trans hb h2, h3⟩
theorem look_start (e : Ex) (h : AllX ShP e) : (lookX e ([], fun _ => 0)).1 = freeX e [] [] := by
  have := look_free e (all_leaf e h) [] []
  rw [show cntOf [] [] = fun _ => 0 from by funext n; simp [cntOf]] at this
  rw [this]
abbrev lkV (m : Nat) : Value := .func (.func 23) #[] #[.pointer (some ⟨m + 1 + 1, 0, none⟩), .pointer (some ⟨m, 0, none⟩), .pointer (some ⟨m + 1 + 1 + 1, 0, none⟩)]
abbrev lkW (w : World) : World := (((w.alloc (.cells #[.slice none 0 0] 30)).alloc (.map #[] 0)).alloc (.cells #[.map (some (w.heap.size + 1))] 51)).alloc (.cells #[.nilFunc] 52)
/-- Where look begins: nothing is told, nothing bound. -/
theorem lst_start (w : World) : ∃ A, (store ⟨w.heap.size + 1 + 1 + 1, 0, none⟩ (lkV w.heap.size)).run Try.prog (lkW w) = .ok () A ∧ LSt w.heap.size (w.heap.size + 1) (w.heap.size + 1 + 1) (w.heap.size + 1 + 1 + 1) A (.slice none 0 0) 0 ([], fun _ => 0) ∧ Below w.heap.size w A := by
  have f1 := Boxed.new w 30 (.slice none 0 0)
  have p1 := MapN.new (w.alloc (.cells #[.slice none 0 0] 30))
  have m1 := Boxed.new ((w.alloc (.cells #[.slice none 0 0] 30)).alloc (.map #[] 0)) 51 (.map (some (w.heap.size + 1)))
  have k1 := Boxed.new (((w.alloc (.cells #[.slice none 0 0] 30)).alloc (.map #[] 0)).alloc (.cells #[.map (some (w.heap.size + 1))] 51)) 52 .nilFunc
  have a2 : Kept (fun _ => False) (w.alloc (.cells #[.slice none 0 0] 30)) (lkW w) := (((Kept.refl _ _).alloc _).alloc _).alloc _
  have a3 : Kept (fun _ => False) ((w.alloc (.cells #[.slice none 0 0] 30)).alloc (.map #[] 0)) (lkW w) := ((Kept.refl _ _).alloc _).alloc _
  have a4 : Kept (fun _ => False) (((w.alloc (.cells #[.slice none 0 0] 30)).alloc (.map #[] 0)).alloc (.cells #[.map (some (w.heap.size + 1))] 51)) (lkW w) := (Kept.refl _ _).alloc _
  simp only [World.size_alloc] at p1 m1 k1
  have f2 := a2.box f1 (fun h => h)
  have p2 := p1.kept a3 (fun h => h)
  have m2 := a4.box m1 (fun h => h)
  have hb : Below w.heap.size w (lkW w) := ((((Below.refl _ w).alloc (Nat.le_refl _) _).alloc (by simp) _).alloc (by simp; omega) _).alloc (by simp; omega) _
  have hS := (Kept.refl (fun q => q = w.heap.size + 1 + 1 + 1) (lkW w)).setCell (p := ⟨w.heap.size + 1 + 1 + 1, 0, none⟩) (fun _ => rfl) (lkV w.heap.size)
  refine ⟨_, store_box k1 rfl, ⟨hS.box m2 (by omega), k1.set _, hS.box f2 (by omega), World.ownsRow_nil _ _ _ _, p2.kept hS (by omega)⟩, hb.setCell (p := ⟨w.heap.size + 1 + 1 + 1, 0, none⟩) (by simp; omega) _⟩
set_option maxRecDepth 1000000 in
set_option maxHeartbeats 2000000 in
theorem capFree (e : Ex) (G : Nat → Prop) (kv pv av : Value) (w : World) (hX : XI G w kv pv av e) (hG : ∀ g, G g → g < w.heap.size) (hdp : depX e ≤ 262144) (hct : cntX e ≤ 99999) (hSm : AllX SmP e) (hSh : AllX ShP e) (hNm : AllX NmL e) :
    Calls Try.prog 7 #[exv e kv pv av] w (FreE (freeX e [] []) w) := by
  have hE := ea_box hX hG
  have hL := ea_lt hG (.cells (exc e kv pv av).toArray 27)
  have hcall := measure0 e _ _ _ kv pv av _ hE hL hdp (by omega) hSm
  obtain ⟨⟨y1, y2, rfl⟩, ⟨y3, y4, rfl⟩, ⟨y5, y6, rfl⟩⟩ := hX.shapes
  have hmm := @run_makeMap Try.prog
  have hb : Below w.heap.size w (w.alloc (.cells (exc e (.slice y1 e.kids.length y2) (.slice y3 e.params.length y4) (.slice y5 e.bods.length y6)).toArray 27)) := (Below.refl _ w).alloc (Nat.le_refl _) _
  have HU : Hid (∀ w9, Below (w.alloc (.cells (exc e (.slice y1 e.kids.length y2) (.slice y3 e.params.length y4) (.slice y5 e.bods.length y6)).toArray 27)).heap.size (w.alloc (.cells (exc e (.slice y1 e.kids.length y2) (.slice y3 e.params.length y4) (.slice y5 e.bods.length y6)).toArray 27)) w9 →
      ∃ A, (store ⟨w9.heap.size + 1 + 1 + 1, 0, none⟩ (lkV w9.heap.size)).run Try.prog (lkW w9) = .ok () A ∧ A.cell? ⟨w9.heap.size + 1 + 1 + 1, 0, none⟩ = some (lkV w9.heap.size) ∧
        Calls Try.prog 23 #[.pointer (some ⟨w.heap.size, 0, none⟩), .pointer (some ⟨w9.heap.size + 1 + 1, 0, none⟩), .pointer (some ⟨w9.heap.size, 0, none⟩), .pointer (some ⟨w9.heap.size + 1 + 1 + 1, 0, none⟩)] A fun r w' => (∃ u, r = .returned u) ∧ ∃ v, w'.cell? ⟨w9.heap.size, 0, none⟩ = some v ∧ (∃ a n c, v = .slice a n c) ∧ w'.ownsRow w.heap.size 9 1 v (freeX e [] []).length (sc (freeX e [] [])) ∧ Below w.heap.size w w') := by
    rw [hid_iff]
    intro w9 hb9
    obtain ⟨A, h1, h2, h3⟩ := lst_start w9
    have hb4 := hb9.trans (h3.mono hb9.size)
    have E3 := hE.below hb4 hL
    have hz := hb9.size
    have hz2 : w.heap.size < w9.heap.size := by rw [World.size_alloc] at hz; omega
    refine ⟨A, h1, h2.k.cell, (look1 e _ _ _ _ _ _ w9.heap.size (w9.heap.size + 1) (w9.heap.size + 1 + 1) (w9.heap.size + 1 + 1 + 1) _ _ _ A E3 (fun g hg => Nat.lt_of_lt_of_le (hL g hg) hz) (by omega) (by omega) (by omega) h2 (by omega) (by simp; omega) hSm hSh hNm).mono ?_⟩
    rintro r w' ⟨u, v', n', rfl, q1, q2, q3, q4, q5⟩
    rw [← look_start e hSh]
    refine ⟨⟨u, rfl⟩, v', q1.f.cell, ?_, own_base q1.o (by omega), ?_⟩
    · rcases q1.o.2 with ⟨rfl, _⟩ | ⟨g, cap, cur, rfl, _⟩
      · exact ⟨_, _, _, rfl⟩
      · exact ⟨_, _, _, rfl⟩
    · have hbA : Below w.heap.size w A := hb.trans (hb4.mono hb.size)
      refine hbA.trans (q4.below hbA.size (fun q hq h => ?_))
      rcases h with h | h | h
      · omega
      · omega
      · simp [Value.ownBlock] at h
  unfold exc at hcall hb HU
  simp only [lkV, lkW] at HU
  unfold exv
  clear hE hL hX hG hdp hct hSm hSh hNm
  go_enter Try.func7, Try.ntmps7
  go_wp2_with (first
    | (go_at_call 22; refine hcall.mono ?_; rintro r w9 ⟨rfl, hb9⟩; obtain ⟨A, hst, hc3, hlk⟩ := HU.out w9 hb9)
    | (go_at_call 23; refine hlk.mono ?_; rintro r w10 ⟨⟨u, rfl⟩, v, hv1, ⟨va, vn, vc, rfl⟩, hv3, hv4⟩))
  go_ret
  exact ⟨_, rfl, hv3, hv4⟩
end Go.Proofs.Ytcokihblicgbpaa
