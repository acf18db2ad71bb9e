/-
  The statements' known of chapter 10.
-/
import Derived.Test.YtmomapnafhppcaaCovCases
import Derived.Test.YtmomapnafhppcaaCovMiss
import Derived.Test.YtmomapnafhppcaaCovExtra
import Derived.Test.YtmomapnafhppcaaCovTwice
namespace Go.Proofs.Ytmomapnafhppcaa
open Go.RowKit

theorem cov_drewN {B : Nat} {w w' : World} (h : Below B w w') : ∀ n, Below B w (w'.drewN n)
  | 0 => h
  | n + 1 => (cov_drewN h n).drew
theorem tkAll {xs : List (List UInt8)} (h : ∀ x ∈ xs, x.length ≤ 100) : ∀ x ∈ xs, Tk x := fun x hx => by
  have := h x hx
  unfold Tk
  omega
theorem sameYes (v v' : Value) (xs ys : List (List UInt8)) (w : World) (h : StrRow w v xs) (h' : StrRow w v' ys) (hl : xs.length ≤ 8796093022208) (e : xs = ys) : Calls Try.prog 10 #[v, v'] w (BoolW true w) := by
  subst e
  refine (sameS v v' xs xs w h h' hl hl).mono ?_
  rintro e w1 ⟨rfl, n, rfl⟩
  exact ⟨by simp, cov_drewN (Below.refl _ _) n⟩
theorem rowNew (u : World) (xs : List (List UInt8)) (t : TypeId) (n : Nat) (hn : n = xs.length) : StrRow (u.alloc (.cells (sc xs).toArray t)) (.slice (some ⟨u.heap.size, 0, none⟩) n n) xs := by
  subst hn
  refine .inr ⟨u.heap.size, 0, xs.length, rfl, by simp, Nat.le_refl _, fun j x hj => ?_⟩
  have := cells_new u (sc xs) t j (.string (str x)) (by simp [sc, hj])
  rw [add_at] at this
  rw [Nat.zero_add]
  exact this
theorem newB (u : World) (o : Obj) : Below u.heap.size u (u.alloc o) := (Below.refl _ _).alloc (Nat.le_refl _) _
theorem onB {u w : World} {o : Obj} (h : Below (u.alloc o).heap.size (u.alloc o) w) : Below u.heap.size u w := (newB u o).trans (h.mono (by simp))
/-- What a call answers that makes cases, or texts. -/
def CasE (cs : List (List UInt8)) (u : World) (e : Ending) (w' : World) : Prop := ∃ va vc, e = .returned (.slice va cs.length vc) ∧ CaR w' (.slice va cs.length vc) cs ∧ Below u.heap.size u w'
def TxsE (cs : List (List UInt8)) (u : World) (e : Ending) (w' : World) : Prop := ∃ va vc, e = .returned (.slice va cs.length vc) ∧ StrRow w' (.slice va cs.length vc) cs ∧ Below u.heap.size u w'
theorem casesAt (xs : List (List UInt8)) (u : World) (t : TypeId) (n : Nat) (hn : n = xs.length) (h : ∀ x ∈ xs, x.length ≤ 100) : Calls Try.prog 7 #[.slice (some ⟨u.heap.size, 0, none⟩) n n] (u.alloc (.cells (sc xs).toArray t)) (CasE (casesR xs) u) := by
  refine (covCases xs _ _ (rowNew u xs t n hn) (tkAll h)).mono ?_
  rintro e w' ⟨v', rfl, h1, h2⟩
  obtain ⟨va, vc, rfl⟩ := h1.shape
  exact ⟨va, vc, rfl, h1, onB h2⟩
theorem missAt (cs xs : List (List UInt8)) (v : Value) (u : World) (t : TypeId) (n : Nat) (hn : n = xs.length) (hv : CaR u v cs) (h : ∀ x ∈ xs, x.length ≤ 100) (h' : ∀ x ∈ cs, x.length ≤ 100) (hl : cs.length ≤ 100) (hl' : xs.length ≤ 100) : Calls Try.prog 8 #[v, .slice (some ⟨u.heap.size, 0, none⟩) n n] (u.alloc (.cells (sc xs).toArray t)) (TxsE (missR cs xs) u) := by
  refine (covMissing cs xs _ _ _ (hv.below (newB _ _)) (rowNew u xs t n hn) (by omega) (by omega) (tkAll h) (tkAll h')).mono ?_
  rintro e w' ⟨v', rfl, h1, h2⟩
  obtain ⟨va, vc, rfl⟩ := h1.shape
  exact ⟨va, vc, rfl, h1, onB h2⟩
theorem extraAt (cs xs : List (List UInt8)) (v : Value) (u : World) (t : TypeId) (n : Nat) (hn : n = xs.length) (hv : CaR u v cs) (h : ∀ x ∈ xs, x.length ≤ 100) (h' : ∀ x ∈ cs, x.length ≤ 100) (hl : cs.length ≤ 100) (hl' : xs.length ≤ 100) : Calls Try.prog 9 #[v, .slice (some ⟨u.heap.size, 0, none⟩) n n] (u.alloc (.cells (sc xs).toArray t)) (TxsE (extraR cs xs) u) := by
  refine (covExtra cs xs _ _ _ (hv.below (newB _ _)) (rowNew u xs t n hn) (by omega) (by omega) (tkAll h) (tkAll h')).mono ?_
  rintro e w' ⟨v', rfl, h1, h2⟩
  obtain ⟨va, vc, rfl⟩ := h1.shape
  exact ⟨va, vc, rfl, h1, onB h2⟩
theorem twiceAt (xs : List (List UInt8)) (u : World) (t : TypeId) (n : Nat) (hn : n = xs.length) (h : ∀ x ∈ xs, x.length ≤ 100) (hl' : xs.length ≤ 100) : Calls Try.prog 12 #[.slice (some ⟨u.heap.size, 0, none⟩) n n] (u.alloc (.cells (sc xs).toArray t)) (TxsE (twiceR xs) u) := by
  refine (covTwice xs _ _ (rowNew u xs t n hn) (by omega) (tkAll h)).mono ?_
  rintro e w' ⟨v', rfl, h1, h2⟩
  obtain ⟨va, vc, rfl⟩ := h1.shape
  exact ⟨va, vc, rfl, h1, onB h2⟩
theorem sameAt (v : Value) (xs : List (List UInt8)) (u : World) (t : TypeId) (n : Nat) (hn : n = xs.length) (hv : StrRow u v xs) (hl' : xs.length ≤ 100) : Calls Try.prog 10 #[v, .slice (some ⟨u.heap.size, 0, none⟩) n n] (u.alloc (.cells (sc xs).toArray t)) (BoolW true u) := by
  refine (sameYes _ _ xs xs _ (hv.below (newB _ _)) (rowNew u xs t n hn) (by omega) rfl).mono ?_
  rintro e w' ⟨rfl, h2⟩
  exact ⟨rfl, onB h2⟩
def NumW (n : Int) (w : World) (e : Ending) (w' : World) : Prop := e = .returned (.int .i64 n) ∧ Below w.heap.size w w'
theorem numAt (cs : List (List UInt8)) (x : List UInt8) (n : Int) (hn : numR cs x = n) (v : Value) (u : World) (hv : CaR u v cs) (h : x.length ≤ 100) (hl : cs.length ≤ 100) : Calls Try.prog 11 #[v, .string (str x)] u (NumW n u) := by
  subst hn
  refine (covNumber cs x v u hv (by omega) (by unfold Tk; omega)).mono ?_
  rintro e w' ⟨rfl, h2⟩
  exact ⟨rfl, h2⟩
theorem kCas (u : World) (t : TypeId) : Calls Try.prog 7 #[.slice (some ⟨u.heap.size, 0, none⟩) 2 2] (u.alloc (.cells #[.string ⟨#[65]⟩, .string ⟨#[66]⟩] t)) (CasE [[65], [66]] u) := casesAt [[65], [66]] u t 2 rfl (by decide)
theorem kMissB (v : Value) (u : World) (t : TypeId) (hv : CaR u v [[65], [66]]) : Calls Try.prog 8 #[v, .slice (some ⟨u.heap.size, 0, none⟩) 1 1] (u.alloc (.cells #[.string ⟨#[109, 46, 66]⟩] t)) (TxsE [[65]] u) := missAt [[65], [66]] [[109, 46, 66]] v u t 1 rfl hv (by decide) (by decide) (by decide) (by decide)
theorem kSameA (v : Value) (u : World) (t : TypeId) (hv : StrRow u v [[65]]) : Calls Try.prog 10 #[v, .slice (some ⟨u.heap.size, 0, none⟩) 1 1] (u.alloc (.cells #[.string ⟨#[65]⟩] t)) (BoolW true u) := sameAt v [[65]] u t 1 rfl hv (by decide)
theorem kTwA (u : World) (t : TypeId) : Calls Try.prog 12 #[.slice (some ⟨u.heap.size, 0, none⟩) 2 2] (u.alloc (.cells #[.string ⟨#[65]⟩, .string ⟨#[109, 46, 65]⟩] t)) (TxsE [[109, 46, 65]] u) := twiceAt [[65], [109, 46, 65]] u t 2 rfl (by decide) (by decide)
theorem kSameMA (v : Value) (u : World) (t : TypeId) (hv : StrRow u v [[109, 46, 65]]) : Calls Try.prog 10 #[v, .slice (some ⟨u.heap.size, 0, none⟩) 1 1] (u.alloc (.cells #[.string ⟨#[109, 46, 65]⟩] t)) (BoolW true u) := sameAt v [[109, 46, 65]] u t 1 rfl hv (by decide)
theorem kNumB (v : Value) (u : World) (hv : CaR u v [[65], [66]]) : Calls Try.prog 11 #[v, .string ⟨#[66]⟩] u (NumW 1 u) := numAt [[65], [66]] [66] 1 rfl v u hv (by decide) (by decide)

set_option maxHeartbeats 4000000 in
set_option maxRecDepth 1000000 in
theorem known10 (w : World) : Calls Try.prog 13 #[] w (BoolW true w) := by
  go_enter Try.func13, Try.ntmps13
  go_wp2_with fail
  refine (kCas _ _).mono ?_
  rintro e w1 ⟨va1, vc1, rfl, h1, b1⟩
  go_wp2_with fail
  refine (kMissB _ _ _ h1).mono ?_
  rintro e w2 ⟨va2, vc2, rfl, h2, b2⟩
  have B2 := b1.trans (b2.mono b1.size)
  clear h1 b1 b2
  go_wp2_with fail
  refine (kSameA _ _ _ h2).mono ?_
  rintro e w3 ⟨rfl, b3⟩
  have B3 := B2.trans (b3.mono B2.size)
  clear h2 B2 b3
  go_wp2_with fail
  refine (kTwA _ _).mono ?_
  rintro e w4 ⟨va4, vc4, rfl, h4, b4⟩
  have B4 := B3.trans (b4.mono B3.size)
  clear B3 b4
  go_wp2_with fail
  refine (kSameMA _ _ _ h4).mono ?_
  rintro e w5 ⟨rfl, b5⟩
  have B5 := B4.trans (b5.mono B4.size)
  clear B4 b5 h4
  go_wp2_with fail
  refine (kCas _ _).mono ?_
  rintro e w6 ⟨va6, vc6, rfl, h6, b6⟩
  have B6 := B5.trans (b6.mono B5.size)
  clear B5 b6
  go_wp2_with fail
  refine (kNumB _ _ h6).mono ?_
  rintro e w7 ⟨rfl, b7⟩
  have B7 := B6.trans (b7.mono B6.size)
  clear B6 b7 h6
  go_wp2
  go_ret
  exact ⟨rfl, B7⟩
end Go.Proofs.Ytmomapnafhppcaa
