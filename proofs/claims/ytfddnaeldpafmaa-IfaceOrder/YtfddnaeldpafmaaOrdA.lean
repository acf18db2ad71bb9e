/-
  What IfaceOrder's module comes to: names, consts, exports turned, items in order. No program in it.
  And: The package's sorting of items, where they are consts: in order of their names. The package's Of, where a module has consts alone, each exported once: the items in order. The document's own Put: its walk. Consts in a row of the law's own; one put behind the others.
-/
import Derived.Test.YtfddnaeldpafmaaIfaceSpec
import Derived.Shelf.SlSortCmp.NoneTotal
import Derived.Test.YtfddnaeldpafmaaShelf5
import Derived.Test.YtfddnaeldpafmaaIfaceOfC
import Derived.Deep.LoopGhost
import Derived.Test.YtfddnaeldpafmaaIfaceBreaks
import Derived.Test.YtfddnaeldpafmaaTypesCmp
import Derived.Deep.RegionLaw
namespace Go.Proofs.Ytfddnaeldpafmaa

abbrev Kp : Type := List UInt8 × List UInt8
/-- A name as the law makes it of a text. -/
def qn (x : List UInt8) : List UInt8 := 113 :: (x.take 6).filter isSmall
theorem qn_len (x : List UInt8) : (qn x).length ≤ 7 := by
  unfold qn
  have := List.length_filter_le isSmall (x.take 6)
  have h2 : (x.take 6).length ≤ 6 := List.length_take_le _ _
  simp only [List.length_cons]
  omega
theorem qn_value (x : List UInt8) : valueR (qn x) = true := by
  have hl := qn_len x
  unfold valueR nameR
  have ha : (qn x).all isLetter = true := by
    unfold qn
    rw [List.all_cons, Bool.and_eq_true]
    refine ⟨by decide, ?_⟩
    rw [List.all_eq_true]
    intro c hc
    have := (List.mem_filter.1 hc).2
    simp [isLetter, this]
  have hd : (qn x).head?.any isDigit = false := by simp [qn]; decide
  have hg : (qn x).head?.any isLarge = false := by simp [qn]; decide
  have he : (qn x).isEmpty = false := by simp [qn]
  rw [ha, hd, hg, he]
  simp
  omega
def numT : List UInt8 := [110, 117, 109]
def bytesT : List UInt8 := [98, 121, 116, 101, 115]
theorem num_right : rightR numT = true := by decide
theorem bytes_right : rightR bytesT = true := by decide
def tyOf (i : Nat) : List UInt8 := if i % 2 = 0 then numT else bytesT
theorem ty_right (i : Nat) : rightR (tyOf i) = true := by unfold tyOf; split; exact num_right; exact bytes_right
theorem ty_len (i : Nat) : (tyOf i).length ≤ 5 := by unfold tyOf; split <;> decide
/-- Consts as the law makes them: names of its own make, each once, a type each. -/
structure Ks (ks : List Kp) : Prop where
  nodup : (ks.map Prod.fst).Nodup
  name : ∀ x ∈ ks, valueR x.1 = true ∧ x.1.length ≤ 7
  ty : ∀ x ∈ ks, rightR x.2 = true ∧ x.2.length ≤ 5
theorem Ks.nil : Ks [] := ⟨by simp, by simp, by simp⟩
theorem Ks.snoc {ks : List Kp} (h : Ks ks) (x : List UInt8) (i : Nat) (hn : ks.any (fun k => decide (k.1 = qn x)) = false) : Ks (ks ++ [(qn x, tyOf i)]) := by
  refine ⟨?_, fun y hy => ?_, fun y hy => ?_⟩
  · rw [List.map_append, List.nodup_append]
    refine ⟨h.nodup, by simp, fun a ha b hb => ?_⟩
    simp only [List.map_cons, List.map_nil, List.mem_singleton] at hb
    subst hb
    rintro rfl
    obtain ⟨k, hk, he⟩ := List.mem_map.1 ha
    have := List.any_eq_false.1 hn k hk
    simp [he] at this
  · rcases List.mem_append.1 hy with h1 | h1
    · exact h.name y h1
    · simp only [List.mem_singleton] at h1
      subst h1
      exact ⟨qn_value x, qn_len x⟩
  · rcases List.mem_append.1 hy with h1 | h1
    · exact h.ty y h1
    · simp only [List.mem_singleton] at h1
      subst h1
      exact ⟨ty_right i, ty_len i⟩
theorem Ks.same {ks : List Kp} (h : Ks ks) {x y : Kp} (hx : x ∈ ks) (hy : y ∈ ks) (e : x.1 = y.1) : x = y := by
  have hn := h.nodup
  clear h
  induction ks with
  | nil => simp at hx
  | cons a r ih =>
    simp only [List.map_cons, List.nodup_cons] at hn
    simp only [List.mem_cons] at hx hy
    rcases hx with rfl | hx
    · rcases hy with rfl | hy
      · rfl
      · exact absurd (List.mem_map.2 ⟨y, hy, e.symm⟩) hn.1
    · rcases hy with rfl | hy
      · exact absurd (List.mem_map.2 ⟨x, hx, e⟩) hn.1
      · exact ih hx hy hn.2
/-- The names, from the k-th on, then those ahead. -/
def turnK (ks : List Kp) (k : Nat) : List (List UInt8) := (ks.drop k ++ ks.take k).map Prod.fst
theorem turnK_length (ks : List Kp) (k : Nat) : (turnK ks k).length = ks.length := by
  unfold turnK
  simp
  omega
theorem turnK_perm (ks : List Kp) (k : Nat) : (turnK ks k).Perm (ks.map Prod.fst) := by
  unfold turnK
  refine List.Perm.map _ ?_
  have := List.perm_append_comm (l₁ := ks.drop k) (l₂ := ks.take k)
  rwa [List.take_append_drop] at this
theorem turnK_at (ks : List Kp) (k i : Nat) (hk : k < ks.length) (hi : i < ks.length) : (turnK ks k)[i]? = some (ks[(i + k) % ks.length]'(Nat.mod_lt _ (by omega))).1 := by
  unfold turnK
  rw [List.getElem?_map]
  by_cases h : i + k < ks.length
  · have e : (i + k) % ks.length = i + k := Nat.mod_eq_of_lt h
    rw [List.getElem?_append_left (by simp; omega), List.getElem?_drop]
    have : ks[k + i]? = some (ks[(i + k) % ks.length]'(Nat.mod_lt _ (by omega))) := by
      rw [List.getElem?_eq_some_iff]
      exact ⟨by omega, by congr 1; omega⟩
    rw [this]
    rfl
  · have e : (i + k) % ks.length = i + k - ks.length := by
      rw [Nat.mod_eq_sub_mod (by omega), Nat.mod_eq_of_lt (by omega)]
    rw [List.getElem?_append_right (by simp; omega), List.length_drop, List.getElem?_take_of_lt (by omega)]
    have : ks[i - (ks.length - k)]? = some (ks[(i + k) % ks.length]'(Nat.mod_lt _ (by omega))) := by
      rw [List.getElem?_eq_some_iff]
      exact ⟨by omega, by congr 1; omega⟩
    rw [this]
    rfl
theorem turnK_snoc (ks : List Kp) (k i : Nat) (hk : k < ks.length) (hi : i < ks.length) : (turnK ks k).take (i + 1) = (turnK ks k).take i ++ [(ks[(i + k) % ks.length]'(Nat.mod_lt _ (by omega))).1] := by
  have h := turnK_at ks k i hk hi
  rw [List.getElem?_eq_some_iff] at h
  obtain ⟨h1, h2⟩ := h
  rw [List.take_succ_eq_append_getElem h1, h2]
theorem turnK_nodup {ks : List Kp} (h : Ks ks) (k : Nat) : (turnK ks k).Nodup := (turnK_perm ks k).nodup_iff.2 h.nodup
theorem turnK_mem {ks : List Kp} (k : Nat) (q : List UInt8) : q ∈ turnK ks k ↔ q ∈ ks.map Prod.fst := (turnK_perm ks k).mem_iff
/-- Items in order: what sorting leaves. -/
theorem items_asc {d : List Kp} (hn : (d.map Prod.fst).Nodup) (hs : ∀ (i j : Nat) (hi : i < d.length) (hj : j < d.length), i < j → d[i].1 ≤ d[j].1) : Asc (d.map Prod.fst) := by
  unfold Asc
  rw [List.pairwise_iff_getElem]
  intro i j hi hj hij
  simp only [List.length_map] at hi hj
  have hne := List.pairwise_iff_getElem.1 hn i j (by simpa using hi) (by simpa using hj) hij
  simp only [List.getElem_map] at hne ⊢
  exact str_lt_iff.2 ⟨hs i j hi hj hij, hne⟩
def kItm (x : Kp) : It := ⟨2, x.1, x.2, []⟩
theorem items_right (d : List Kp) : ∀ (p : Option (List UInt8)), (∀ q ∈ p, ∀ x ∈ d, q < x.1) → Asc (d.map Prod.fst) → (∀ x ∈ d, valueR x.1 = true ∧ rightR x.2 = true) → itemsE p (d.map kItm) = 0 := by
  induction d with
  | nil => intro p _ _ _; rfl
  | cons x r ih =>
    intro p hp ha hv
    have hx := hv x (by simp)
    have hi : itemE p (kItm x) = 0 := by
      unfold itemE
      have h1 : kindE (kItm x).kind = true := by simp [kItm, kindE]
      have h2 : namedE (kItm x) = true := by
        unfold namedE
        rw [if_neg (by simp [kItm])]
        exact hx.1
      have h3 : p.any (fun q => decide ((kItm x).name ≤ q)) = false := by
        cases p with
        | none => rfl
        | some q =>
          have := hp q rfl x (by simp)
          simp only [Option.any_some, decide_eq_false_iff_not]
          exact List.not_le.2 this
      have h4 : (kItm x).kind ≠ 1 := by simp [kItm]
      rw [h1, h2, h3, if_neg (by decide), if_neg (by decide), if_neg (by decide), if_pos h4]
      unfold valueE
      have h5 : ¬ 0 < (kItm x).cases.length := by simp [kItm]
      have h6 : rightR (kItm x).ty = true := hx.2
      rw [if_neg h5, h6, if_neg (by decide), if_neg (by simp [kItm])]
    rw [List.map_cons, itemsE, if_pos hi]
    unfold Asc at ha
    rw [List.map_cons, List.pairwise_cons] at ha
    refine ih _ (fun q hq y hy => ?_) ha.2 (fun y hy => hv y (by simp [hy]))
    simp only [Option.mem_def, Option.some.injEq] at hq
    subst hq
    exact ha.1 y.1 (List.mem_map.2 ⟨y, hy, rfl⟩)
theorem iface_right {d : List Kp} (m : List UInt8) (hm : valueR m = true) (hl : d.length ≤ 32) (ha : Asc (d.map Prod.fst)) (hv : ∀ x ∈ d, valueR x.1 = true ∧ rightR x.2 = true) : rightI m (d.map kItm) = 0 := by
  unfold rightI
  rw [hm, if_neg (by decide), if_neg (by simp; omega)]
  exact items_right d none (by simp) ha hv
/-- All together: the items' names are what the law wants, and each item is one of the consts. -/
theorem order_names {ks d : List Kp} {want : List (List UInt8)} (hd : d.Perm ks) (ha : Asc (d.map Prod.fst)) (hw : Asc want) (hm : ∀ x, x ∈ want ↔ x ∈ ks.map Prod.fst) : d.map Prod.fst = want :=
  asc_ext ha hw fun x => by rw [hm, (hd.map Prod.fst).mem_iff]
end Go.Proofs.Ytfddnaeldpafmaa

namespace Go.Proofs.Ytfddnaeldpafmaa
open Go.RowKit Go.Sort Go.Lib Go.Shelf

def cmpK (x y : Kp) : Int := Lib.compareBytes x.1 y.1
theorem comp_lt : ∀ (a b : List UInt8), decide (Lib.compareBytes a b < 0) = decide (a < b)
  | [], [] => by simp [Lib.compareBytes]
  | [], _ :: _ => by simp [Lib.compareBytes]
  | _ :: _, [] => by simp [Lib.compareBytes]
  | a :: r, b :: s => by
    rw [Lib.compareBytes]
    by_cases h : a < b
    · rw [if_pos h]
      simp [List.cons_lt_cons_iff, h]
    · rw [if_neg h]
      by_cases k : b < a
      · rw [if_pos k]
        have hn : a ≠ b := fun e => by subst e; exact h k
        simp [List.cons_lt_cons_iff, h, hn]
      · rw [if_neg k, comp_lt r s]
        have e : a = b := by
          rw [UInt8.lt_iff_toNat_lt] at h k
          exact UInt8.toNat_inj.1 (by omega)
        subst e
        simp
theorem ltK (x y : Kp) : ltOf cmpK x y = decide (x.1 < y.1) := comp_lt x.1 y.1
theorem swoK : SWO (ltOf cmpK) where
  irrefl x := by rw [ltK]; simp [List.lt_irrefl]
  trans x y z h1 h2 := by rw [ltK, decide_eq_true_eq] at *; exact str_lt_trans h1 h2
  ntrans x y z h1 h2 := by
    rw [ltK, decide_eq_false_iff_not] at *
    exact List.not_lt.2 (str_le_trans (List.not_lt.1 h2) (List.not_lt.1 h1))
set_option maxHeartbeats 1000000 in
theorem cmpC (x y : Kp) (w : World) : Calls Try.prog 12 #[.agg #[.int .i64 2, .string (str x.1), .string (str x.2), .slice none 0 0], .agg #[.int .i64 2, .string (str y.1), .string (str y.2), .slice none 0 0]] w fun e w' => e = .returned (.int .i64 (cmpK x y)) ∧ ∃ q os', w' = grow (w.drewN q) os' := by
  have hcon := fun W' => Try.strings_Compare (str x.1) (str y.1) W'
  rw [show Lib.compareBytes (str x.1).data.toList (str y.1).data.toList = cmpK x y from rfl] at hcon
  generalize cmpK x y = r at hcon ⊢
  go_enter Try.func12, Try.ntmps12
  go_wp2_with (go_at_call 13; refine (hcon _).mono ?_; rintro e w' ⟨rfl, rfl⟩)
  go_ret
  exact ⟨rfl, 0, _, by rw [alloc_eq_grow, alloc_eq_grow, grow_grow]; rfl⟩
theorem rowI_get : ∀ (acc : List Kp) (i c : Nat) (hi : i < acc.length), c < 4 → (rowI acc)[i * 4 + c]? = (cIt acc[i])[c]?
  | [], i, c, hi, _ => by simp at hi
  | x :: r, 0, c, _, hc => by
    have e : rowI (x :: r) = cIt x ++ rowI r := by simp [rowI]
    rw [e, Nat.zero_mul, Nat.zero_add, List.getElem?_append_left (by simpa [cIt] using hc)]
    rfl
  | x :: r, i + 1, c, hi, hc => by
    have e : rowI (x :: r) = cIt x ++ rowI r := by simp [rowI]
    rw [e, List.getElem?_append_right (by simp [cIt]; omega), show (i + 1) * 4 + c - (cIt x).length = i * 4 + c by simp [cIt]; omega, rowI_get r i c (by simpa using hi) hc]
    rfl
theorem holds_own {w : World} {B g cap : Nat} {acc : List Kp} (h : w.ownsRow B 47 4 (.slice (some ⟨g, 0, none⟩) acc.length cap) acc.length (rowI acc)) : HoldsK cIt 4 w g 0 acc.toArray := by
  intro j hj
  simp only [size_flatK, List.size_toArray] at hj
  rw [Nat.zero_add]
  refine ⟨?_, h.frozenAt j⟩
  rw [h.cellAt j hj, get_flatK _ _ _ _ (by simpa using hj)]
  have h1 : j / 4 < acc.length := by omega
  have h2 : j % 4 < 4 := Nat.mod_lt _ (by decide)
  have h3 := rowI_get acc (j / 4) (j % 4) h1 h2
  rw [show j / 4 * 4 + j % 4 = j by omega] at h3
  rw [h3, id, List.getElem!_toArray, getElem!_pos acc _ h1]
  have h4 : j % 4 < (cIt acc[j / 4]).length := by simpa [cIt] using h2
  rw [List.getElem?_eq_getElem h4, getElem!_pos (cIt acc[j / 4]) (j % 4) h4]
theorem keptK_sort (enc : Kp → List Value) (k : Nat) (w : World) (g n : Nat) (d : Array Kp) (os : Array Obj) : Kept (fun b => b = g) w (sortWorldK enc k w g 0 n d os) := by
  have h : Kept (fun b => b = g) w (putRowK enc k (Sort.ahead w n) g 0 d) := by
    refine ⟨rfl, rfl, rfl, by simp [putRowK, putRow, mapBlock], fun b hb hn => ?_⟩
    simp only [putRowK, putRow, mapBlock, heap_ahead, Array.getElem?_modify]
    rw [if_neg (fun e => hn e.symm)]
  exact keptO_grow h os
/-- Items in a row, as sorting leaves them. -/
def ItS4 (w : World) (v : Value) (d : List Kp) : Prop := ItR (fun g => v.ownBlock = some g) w v (d.map kIt)
theorem its_holds {w : World} {g cap : Nat} {d : List Kp} (h : HoldsK cIt 4 w g 0 d.toArray) (hc : d.length ≤ cap) : ItS4 w (.slice (some ⟨g, 0, none⟩) d.length cap) d := by
  refine .inr ⟨g, 0, cap, by simp, by simpa using hc, rfl, fun j x hj => ?_⟩
  rw [List.getElem?_map] at hj
  cases hd : d[j]? with
  | none => rw [hd] at hj; simp at hj
  | some y =>
    rw [hd] at hj
    simp only [Option.map_some, Option.some.injEq] at hj
    subst hj
    obtain ⟨hlt, rfl⟩ := List.getElem?_eq_some_iff.1 hd
    have e : d.toArray[j]! = d[j] := by rw [List.getElem!_toArray, getElem!_pos d j hlt]
    have q : ∀ c, c < 4 → w.cell? ⟨g, 0 + j * 4 + c, none⟩ = some (cIt d[j])[c]! := fun c hc => by
      have := (h.cell (i := j) (c := c) (by simpa using hlt) hc).1
      rwa [e] at this
    exact ⟨.slice none 0 0, .inl ⟨none, 0, rfl, rfl⟩, q 0 (by decide), q 1 (by decide), q 2 (by decide), q 3 (by decide)⟩
theorem perm_all {d : Array Kp} {acc : List Kp} (h : PermIn 0 acc.length acc.toArray d) : d.toList.Perm acc := by
  obtain ⟨h1, _, h3⟩ := h
  simp only [List.size_toArray] at h1
  rw [← h1, Array.extract_size] at h3
  have e : acc.toArray.extract 0 d.size = acc.toArray := by rw [h1, ← List.size_toArray, Array.extract_size]
  rw [e] at h3
  simpa using h3
/-- slices.SortFunc, of consts' items. -/
theorem sortC (B : Nat) (v : Value) (acc : List Kp) (w : World) (h : w.ownsRow B 47 4 v acc.length (rowI acc)) (hl : acc.length ≤ 1000000) :
    Calls Try.prog 11 #[v, .func (.func 12) #[] #[]] w fun e w' => e = .returned (.tuple #[]) ∧ ∃ d : List Kp, d.Perm acc ∧ (∀ (i j : Nat) (hi : i < d.length) (hj : j < d.length), i < j → d[i].1 ≤ d[j].1) ∧ ItS4 w' v d ∧ Kept (fun b => v.ownBlock = some b) w w' := by
  rcases h.2 with ⟨rfl, hn⟩ | ⟨g, cap, cur, rfl, hb, hg, hc, _⟩
  · have e : acc = [] := List.eq_nil_of_length_eq_zero hn
    subst e
    refine (AnyF.slices_SortFunc_none Try.sortItems none 0 _ w).mono ?_
    rintro e w' ⟨rfl, rfl⟩
    exact ⟨rfl, [], List.Perm.refl _, by simp, .inl ⟨none, 0, rfl, rfl⟩, Kept.refl _ _⟩
  · have hH := holds_own h
    have hlt : g < w.heap.size := (Array.getElem?_eq_some_iff.1 hg).1
    have eg : ∀ args w, (callFunc 12 args).run Try.prog w = .ok (.enter 12 args) w := enters_of Try.func12 (by kernel_rfl) rfl
    have hcon := AnyQ.slices_SortFunc Try.sortItems 4 Try.isAgg47 Try.sizeOf47 cIt (fun _ => rfl) (fun x v hv => by simp [cIt] at hv; rcases hv with rfl | rfl | rfl | rfl <;> rfl) cmpK swoK 12 #[] g 0 cap acc.toArray w eg (fun _ _ _ _ x y => cmpC x y _) hH hlt (by simp; omega)
    refine hcon.mono ?_
    rintro e w' ⟨rfl, d', n, os, hp, hs, rfl⟩
    have hz : d'.size = acc.toArray.size := hp.1
    have hz' : d'.toList.length = acc.length := by simpa using hz
    have hh := holdsK_sortWorldK cIt 4 w g 0 n acc.toArray d' os hlt hH hz
    refine ⟨rfl, d'.toList, perm_all (by simpa using hp), fun i j hi hj hij => ?_, ?_, ?_⟩
    · have := hs i j (Nat.zero_le _) hij (by rw [← hz]; simpa using hj)
      rw [ltK, decide_eq_false_iff_not] at this
      have h1 := List.not_lt.1 this
      simp only [Array.length_toList] at hi hj
      rw [getElem!_pos d' i hi, getElem!_pos d' j hj] at h1
      simpa using h1
    · have := its_holds (d := d'.toList) (cap := cap) (by simpa using hh) (by omega)
      rwa [hz'] at this
    · exact (keptK_sort cIt 4 w g n d' os).trans (Kept.refl (fun _ => False) _) (fun x _ hx => by subst hx; rfl) (fun _ _ hx => hx.elim)
end Go.Proofs.Ytfddnaeldpafmaa

namespace Go.Proofs.Ytfddnaeldpafmaa
open Go.RowKit

def OfGood (nm : List UInt8) (src : List Kp) (w : World) (e : Ending) (w' : World) : Prop := ∃ (v : Value) (d : List Kp), e = .returned (.tuple #[.agg #[.string (str nm), v], .int .i64 0]) ∧ d.Perm src ∧ (∀ (i j : Nat) (hi : i < d.length) (hj : j < d.length), i < j → d[i].1 ≤ d[j].1) ∧ ItR (Fr w w') w' v (d.map kIt) ∧ Below w.heap.size w w'
set_option maxHeartbeats 2000000 in
set_option maxRecDepth 1000000 in
theorem of_good (F : Nat → Prop) (nm : List UInt8) (ea : Option Addr) (ec : Nat) (es : List (List UInt8)) (ka : Option Addr) (kc : Nat) (ks : List (List UInt8 × List UInt8)) (b2 b3 b4 b5 b6 b7 b8 b9 b10 : Value) (hone : ∀ cn ct : List UInt8, (#[.string (str cn), .string (str ct), b2, b3, b4, b5, b6, b7, b8, b9, b10] : Array Value).all (·.oneCell') = true) (w : World)
    (h : KdR F w b2 b3 b4 b5 b6 b7 b8 b9 b10 (.slice ka ks.length kc) ks) (hE : TxR F w (.slice ea es.length ec) es) (hF : ∀ g, F g → g < w.heap.size) (hok : ∀ x ∈ ks, Tk x.1 ∧ Tk x.2) (hnm : Tk nm) (het : ∀ x ∈ es, Tk x) (hl : ks.length ≤ 1000000) (hel : es.length ≤ 1000000) (hec : es.length ≤ ec)
    (hdef : ∀ q ∈ es, (findK ks q).isSome = true) (hdis : ∀ i (hi : i < es.length), (es.take i).any (fun y => decide (y = es[i])) = false) (hgood : ∀ d : List Kp, d.Perm (es.map (pickK ks)) → (∀ (i j : Nat) (hi : i < d.length) (hj : j < d.length), i < j → d[i].1 ≤ d[j].1) → rightI nm (d.map kIt) = 0) :
    Calls Try.prog 6 #[.agg #[.string (str nm), .slice none 0 0, .slice ea es.length ec, .slice none 0 0, .slice ka ks.length kc, .slice none 0 0]] w (OfGood nm (es.map (pickK ks)) w) := by
  have hb0 : Below w.heap.size w ((w.alloc (.cells #[.string (str nm), .slice none 0 0, .slice ea es.length ec, .slice none 0 0, .slice ka ks.length kc, .slice none 0 0] 28)).alloc (.cells #[.string ⟨#[]⟩, .slice none 0 0] 41)) := ((Below.refl _ _).alloc (Nat.le_refl _) _).alloc (by simp) _
  have hz2 : ((w.alloc (.cells #[.string (str nm), .slice none 0 0, .slice ea es.length ec, .slice none 0 0, .slice ka ks.length kc, .slice none 0 0] 28)).alloc (.cells #[.string ⟨#[]⟩, .slice none 0 0] 41)).heap.size = w.heap.size + 2 := by simp
  have hM0 : ((w.alloc (.cells #[.string (str nm), .slice none 0 0, .slice ea es.length ec, .slice none 0 0, .slice ka ks.length kc, .slice none 0 0] 28)).alloc (.cells #[.string ⟨#[]⟩, .slice none 0 0] 41)).heap[w.heap.size]? = some (.cells #[.string (str nm), .slice none 0 0, .slice ea es.length ec, .slice none 0 0, .slice ka ks.length kc, .slice none 0 0] 28 (0, 0)) := (Below.heap_alloc _ _ _ (by simp)).trans (World.alloc_heap_new w _)
  have hN0 : ((w.alloc (.cells #[.string (str nm), .slice none 0 0, .slice ea es.length ec, .slice none 0 0, .slice ka ks.length kc, .slice none 0 0] 28)).alloc (.cells #[.string ⟨#[]⟩, .slice none 0 0] 41)).heap[w.heap.size + 1]? = some (.cells #[.string ⟨#[]⟩, .slice none 0 0] 41 (0, 0)) := by have := World.alloc_heap_new (w.alloc (.cells #[.string (str nm), .slice none 0 0, .slice ea es.length ec, .slice none 0 0, .slice ka ks.length kc, .slice none 0 0] 28)) (.cells #[.string ⟨#[]⟩, .slice none 0 0] 41); simpa using this
  have c0 : ((w.alloc (.cells #[.string (str nm), .slice none 0 0, .slice ea es.length ec, .slice none 0 0, .slice ka ks.length kc, .slice none 0 0] 28)).alloc (.cells #[.string ⟨#[]⟩, .slice none 0 0] 41)).cell? ⟨w.heap.size, 0, none⟩ = some (.string (str nm)) := by rw [cell_of_row _ _ 0 _ _ _ hM0]; rfl
  have hcl := sCloneT nm ((w.alloc (.cells #[.string (str nm), .slice none 0 0, .slice ea es.length ec, .slice none 0 0, .slice ka ks.length kc, .slice none 0 0] 28)).alloc (.cells #[.string ⟨#[]⟩, .slice none 0 0] 41)) hnm
  have HZ := hidden hz2
  clear hz2
  go_enter Try.func6, Try.ntmps6
  go_wp2_with fail
  generalize ((w.alloc (.cells #[.string (str nm), .slice none 0 0, .slice ea es.length ec, .slice none 0 0, .slice ka ks.length kc, .slice none 0 0] 28)).alloc (.cells #[.string ⟨#[]⟩, .slice none 0 0] 41)) = V2 at *
  refine hcl.mono ?_
  rintro e w1 ⟨rfl, hb1⟩
  have hs1 : w.heap.size + 2 ≤ w1.heap.size := by have := hb1.size; rw [HZ.out] at this; exact this
  have hM1 := (hb1.block w.heap.size (by rw [HZ.out]; omega)).trans hM0
  have hN1 := (hb1.block (w.heap.size + 1) (by rw [HZ.out]; omega)).trans hN0
  have hbw1 : Below w.heap.size w w1 := hb0.trans (hb1.mono (by rw [HZ.out]; omega))
  have hB0 : (w1.alloc (.cells #[.string (str nm), .slice none 0 0] 41)).heap[w1.heap.size]? = some (.cells #[.string (str nm), .slice none 0 0] 41 (0, 0)) := World.alloc_heap_new w1 _
  have hbA : Below w1.heap.size w1 (w1.alloc (.cells #[.string (str nm), .slice none 0 0] 41)) := (Below.refl _ _).alloc (Nat.le_refl _) _
  have c2 : (w1.alloc (.cells #[.string (str nm), .slice none 0 0] 41)).cell? ⟨w.heap.size, 2, none⟩ = some (.slice ea es.length ec) := by rw [cell_of_row _ _ 2 _ _ _ ((hbA.block _ (by omega)).trans hM1)]; rfl
  clear hcl hM0 hN0 hb0 hb1 c0 HZ
  go_wp2_with fail
  have hL0 : (w1.alloc (.cells #[.string (str nm), .slice none 0 0] 41)).ownsRow (w1.heap.size + 1) 47 4 (.slice none 0 0) 0 (rowI []) := World.ownsRow_nil _ _ _ _
  generalize w1.alloc (.cells #[.string (str nm), .slice none 0 0] 41) = wA at *
  clear c2
  go_loopg [17] es.length (fun g i wr => ∃ (k : Nat) (v : Value) (acc : List (List UInt8 × List UInt8)), g + k = es.length ∧ Hid (acc = (es.take k).map (pickK ks)) ∧ i = .int .i64 (k : Int) ∧ wr.heap[w1.heap.size]? = some (.cells #[.string (str nm), v] 41 (0, 0)) ∧ wr.ownsRow (w1.heap.size + 1) 47 4 v acc.length (rowI acc) ∧ Below w1.heap.size w1 wr)
  case atStart => exact ⟨0, _, [], by simp, rfl, rfl, hB0, hL0, hbA⟩
  case round =>
    obtain ⟨k, v, acc, hg, hak, rfl, hBr, hown, Kr⟩ := hrel
    by_cases hk : k < es.length
    · have hbr : Below w.heap.size w wr := hbw1.trans (Kr.mono (by omega))
      obtain ⟨eb, eo, ecc, e1, hgF, qx⟩ := (hE.below hbr hF).at k hk
      simp only [Value.slice.injEq, true_and] at e1
      obtain ⟨rfl, rfl⟩ := e1
      have hki : (k : Int) < (es.length : Int) := by omega
      have hq := List.getElem_mem hk
      obtain ⟨x, hx⟩ := Option.isSome_iff_exists.1 (hdef _ hq)
      obtain ⟨cn, ct⟩ := x
      have hMr := (Kr.block w.heap.size (by omega)).trans hM1
      have hNr := (Kr.block (w.heap.size + 1) (by omega)).trans hN1
      have m0 : wr.cell? ⟨w.heap.size, 0, none⟩ = some (.string (str nm)) := by rw [cell_of_row _ _ 0 _ _ _ hMr]; rfl
      have m1 : wr.cell? ⟨w.heap.size, 1, none⟩ = some (.slice none 0 0) := by rw [cell_of_row _ _ 1 _ _ _ hMr]; rfl
      have m2 : wr.cell? ⟨w.heap.size, 2, none⟩ = some (.slice (some ⟨eb, eo, none⟩) es.length ec) := by rw [cell_of_row _ _ 2 _ _ _ hMr]; rfl
      have m3 : wr.cell? ⟨w.heap.size, 3, none⟩ = some (.slice none 0 0) := by rw [cell_of_row _ _ 3 _ _ _ hMr]; rfl
      have m4 : wr.cell? ⟨w.heap.size, 4, none⟩ = some (.slice ka ks.length kc) := by rw [cell_of_row _ _ 4 _ _ _ hMr]; rfl
      have m5 : wr.cell? ⟨w.heap.size, 5, none⟩ = some (.slice none 0 0) := by rw [cell_of_row _ _ 5 _ _ _ hMr]; rfl
      have hsr : w1.heap.size ≤ wr.heap.size := Kr.size
      have hFr : ∀ g, F g → g < wr.heap.size := fun g hg => by have := hF g hg; omega
      have hdf := definedK F nm (some ⟨eb, eo, none⟩) es.length ec ka kc ks b2 b3 b4 b5 b6 b7 b8 b9 b10 hone es[k] wr (h.below hbr hF) hFr hok (het _ hq) hl
      unfold DefE at hdf
      rw [hx] at hdf
      simp only [Option.map_some, Option.getD_some, Option.isSome_some, kIt, itv] at hdf
      have hEr := hE.below hbr hF
      have hct : ∀ u, Below wr.heap.size wr u → Calls Try.prog 10 #[.slice (some ⟨eb, eo, none⟩) k ec, .string (str es[k])] u fun e w' => e = .returned (.bool ((es.take k).any (fun y => decide (y = es[k])))) ∧ w' = u := fun u hu => containsT F _ ec k es es[k] u (hEr.below hu hFr) (by omega) hel
      have hdk := hdis k hk
      have HAK : Hid (acc ++ [(cn, ct)] = (es.take (k + 1)).map (pickK ks)) := by
        rw [hid_iff, hak.out, List.take_succ_eq_append_getElem hk, List.map_append]
        simp [pickK, hx]
      have hal : acc.length ≤ k := by have := congrArg List.length hak.out; simp at this; omega
      clear hx hq hdef hdis hE h het hok hone hB0 hL0 hbA hgood hak
      generalize (es.take k).any (fun y => decide (y = es[k])) = bb at *
      generalize es[k] = qe at *
      go_wp2_with fail
      refine hdf.mono ?_
      rintro e w3 ⟨rfl, hb3⟩
      have hs3 := hb3.size
      have hbB : Below wr.heap.size wr (w3.alloc (.cells #[.int .i64 2, .string (str cn), .string (str ct), .slice none 0 0] 47)) := hb3.trans ((Below.refl _ w3).alloc (hb3.size) _)
      have hM4 := (hbB.block w.heap.size (by omega)).trans hMr
      have hN4 := (hbB.block (w.heap.size + 1) (by omega)).trans hNr
      have hB4 := (hbB.block w1.heap.size (Array.getElem?_eq_some_iff.1 hBr).1).trans hBr
      have n2 : (w3.alloc (.cells #[.int .i64 2, .string (str cn), .string (str ct), .slice none 0 0] 47)).cell? ⟨w.heap.size, 2, none⟩ = some (.slice (some ⟨eb, eo, none⟩) es.length ec) := by rw [cell_of_row _ _ 2 _ _ _ hM4]; rfl
      have hkc : (k : Int) ≤ (ec : Int) := by omega
      have hct4 := hct _ hbB
      clear hdf hct m0 m1 m2 m3 m4 m5 hb3
      go_wp2_with fail
      refine hct4.mono ?_
      rintro e w4 ⟨rfl, rfl⟩
      clear hct4 n2
      subst hdk
      obtain ⟨va, vc, rfl⟩ : ∃ va vc, v = .slice va acc.length vc := by
        rcases hown.2 with ⟨rfl, hz⟩ | ⟨g, cap, cur, rfl, _⟩
        · exact ⟨none, 0, by rw [hz]⟩
        · exact ⟨_, _, rfl⟩
      have ho4 := owns_below hown hbB
      have b1 : (w3.alloc (.cells #[.int .i64 2, .string (str cn), .string (str ct), .slice none 0 0] 47)).cell? ⟨w1.heap.size, 1, none⟩ = some (.slice va acc.length vc) := by rw [cell_of_row _ _ 1 _ _ _ hB4]; rfl
      have hz4 : w1.heap.size + 1 ≤ (w3.alloc (.cells #[.int .i64 2, .string (str cn), .string (str ct), .slice none 0 0] 47)).heap.size := by simp; omega
      have K4 := Kr.trans (hbB.mono hsr)
      clear hown hMr hNr hBr hM4 hN4 hbB hbr
      go_wp2_with (at_builtin; refine append_item rfl (.tmp 39) (.tmp 41) rfl (w1.heap.size + 1) _ acc rfl (ho4.alloc _) _ _ (cn, ct) rfl ?src ?len ?hB ?next)
      case src =>
        intro j u hju
        have hcn := cells_new (w3.alloc (.cells #[.int .i64 2, .string (str cn), .string (str ct), .slice none 0 0] 47)) [.int .i64 2, .string (str cn), .string (str ct), .slice none 0 0] 47 j u hju
        rw [World.size_alloc] at hcn
        exact hcn
      case len => omega
      case hB => first | omega | (simp; omega)
      case next =>
        intro ad c' w5 j1 j2
        have hlt : w1.heap.size < (w3.alloc (.cells #[.int .i64 2, .string (str cn), .string (str ct), .slice none 0 0] 47)).heap.size := by omega
        have hB5 : w5.heap[w1.heap.size]? = some (.cells #[.string (str nm), .slice va acc.length vc] 41 (0, 0)) := (j2.block _ (by simp; omega) (fun e => by have := (owns_block ho4 e.symm).1; omega)).trans ((Below.heap_alloc _ _ _ hlt).trans hB4)
        have K5 : Below w1.heap.size w1 w5 := (K4.alloc K4.size _).grown j2 (by simp; omega) (fun b hb => by have := (owns_block ho4 hb).1; omega)
        have x1 : w5.cell? ⟨w1.heap.size, 1, none⟩ = some (.slice va acc.length vc) := by rw [cell_of_row _ _ 1 _ _ _ hB5]; rfl
        have f1 := frozen_of_row w5 w1.heap.size 1 _ _ hB5
        have hB6 := heap_setCell_same w5 w1.heap.size 1 _ _ (.slice (some ad) (acc.length + 1) c') hB5
        have ho6 := owns_set j1 (Nat.lt_succ_self w1.heap.size) 1 (.slice (some ad) (acc.length + 1) c')
        have K6 := K5.setCell (p := ⟨w1.heap.size, 1, none⟩) (Nat.le_refl _) (.slice (some ad) (acc.length + 1) c')
        clear j2 ho4 hB4 b1 hB5 K5 K4 j1
        go_wp2
        go_roundg (es.length - (k + 1))
        case measure => omega
        case rel => exact ⟨k + 1, _, acc ++ [(cn, ct)], by omega, HAK, by go_num, by simpa using hB6, by simpa using ho6, K6⟩
    · have hki : ¬ (k : Int) < (es.length : Int) := by omega
      have hbr : Below w.heap.size w wr := hbw1.trans (Kr.mono (by omega))
      have hA : Hid (acc = es.map (pickK ks)) := by rw [hid_iff, hak.out, List.take_of_length_le (by omega)]
      have hal : acc.length ≤ 1000000 := by rw [hA.out, List.length_map]; exact hel
      obtain ⟨va, vc, rfl⟩ : ∃ va vc, v = .slice va acc.length vc := by
        rcases hown.2 with ⟨rfl, hz⟩ | ⟨g, cap, cur, rfl, _⟩
        · exact ⟨none, 0, by rw [hz]⟩
        · exact ⟨_, _, rfl⟩
      have hMr := (Kr.block w.heap.size (by omega)).trans hM1
      have hNr := (Kr.block (w.heap.size + 1) (by omega)).trans hN1
      have m2 : wr.cell? ⟨w.heap.size, 2, none⟩ = some (.slice ea es.length ec) := by rw [cell_of_row _ _ 2 _ _ _ hMr]; rfl
      have b1 : wr.cell? ⟨w1.heap.size, 1, none⟩ = some (.slice va acc.length vc) := by rw [cell_of_row _ _ 1 _ _ _ hBr]; rfl
      have hsr : w1.heap.size ≤ wr.heap.size := Kr.size
      have hB1 : w1.heap.size < wr.heap.size := (Array.getElem?_eq_some_iff.1 hBr).1
      have hso := sortC (w1.heap.size + 1) _ acc wr hown hal
      have hob : ∀ b, (Value.slice va acc.length vc).ownBlock = some b → w1.heap.size + 1 ≤ b ∧ b < wr.heap.size := fun b hb => owns_block hown hb
      have hpick : ∀ x ∈ es.map (pickK ks), Tk x.1 ∧ Tk x.2 := by
        intro x hx
        obtain ⟨q, hq, rfl⟩ := List.mem_map.1 hx
        obtain ⟨y, hy⟩ := Option.isSome_iff_exists.1 (hdef _ hq)
        rw [pickK, hy, Option.getD_some]
        exact hok y (List.mem_of_find?_eq_some hy)
      clear hdef hdis hE h het hok hone hB0 hL0 hbA hown hMr hM1 hN1
      go_wp2_with fail
      refine hso.mono ?_
      rintro e w3 ⟨rfl, d, hp, hsd, hit, K3⟩
      have hB3 := (K3.block w1.heap.size hB1 (fun e => by have := (hob _ e).1; omega)).trans hBr
      have hN3 := (K3.block (w.heap.size + 1) (by omega) (fun e => by have := (hob _ e).1; omega)).trans hNr
      have hbw3 : Below w.heap.size w w3 := hbr.trans (K3.below (by omega) (fun x hx e => by have := (hob _ e).1; omega))
      have hdl : d.length = acc.length := hp.length_eq
      have HG : Hid (rightI nm (d.map kIt) = 0) := hgood d (by rw [← hA.out]; exact hp) hsd
      have hdk : ∀ x ∈ d.map kIt, ItOk x := by
        intro x hx
        obtain ⟨y, hy, rfl⟩ := List.mem_map.1 hx
        have := hpick y (by rw [← hA.out]; exact hp.mem_iff.1 hy)
        exact ⟨by simp [kIt], by simp [kIt], this.1, this.2, by simp [kIt], by simp [kIt]⟩
      have c0 : w3.cell? ⟨w1.heap.size, 0, none⟩ = some (.string (str nm)) := by rw [cell_of_row _ _ 0 _ _ _ hB3]; rfl
      have c1 : w3.cell? ⟨w1.heap.size, 1, none⟩ = some (.slice va acc.length vc) := by rw [cell_of_row _ _ 1 _ _ _ hB3]; rfl
      have hs3 := K3.size
      have hri := right7 (fun g => (Value.slice va acc.length vc).ownBlock = some g) nm (.slice va acc.length vc) (d.map kIt) w3 hit (fun g hg => by have := (hob _ hg).2; omega) hnm hdk
      rw [HG.out] at hri
      clear hgood hpick hso b1 m2 hdk
      go_wp2_with fail
      refine hri.mono ?_
      rintro e w4 ⟨rfl, hb4⟩
      have hB4 := (hb4.block w1.heap.size (by omega)).trans hB3
      have hN4 := (hb4.block (w.heap.size + 1) (by omega)).trans hN3
      have d0 : w4.cell? ⟨w1.heap.size, 0, none⟩ = some (.string (str nm)) := by rw [cell_of_row _ _ 0 _ _ _ hB4]; rfl
      have d1 : w4.cell? ⟨w1.heap.size, 1, none⟩ = some (.slice va acc.length vc) := by rw [cell_of_row _ _ 1 _ _ _ hB4]; rfl
      have hbw4 : Below w.heap.size w w4 := hbw3.trans (hb4.mono (by omega))
      have hit4 : ItS4 w4 (.slice va acc.length vc) d := ItR.below (H := w3.heap.size) hit hb4 (fun g hg => by have := (hob _ hg).2; omega)
      have hb9 := hbw4.trans ((setRow_below w4 (w.heap.size + 1) #[.string (str nm), .slice va acc.length vc]).mono (by omega))
      have hs4 := hb4.size
      have hz9 : (w4.setRow (w.heap.size + 1) #[.string (str nm), .slice va acc.length vc]).heap.size = w4.heap.size := by simp [World.setRow]
      have hi9 : ItR (Fr w (w4.setRow (w.heap.size + 1) #[.string (str nm), .slice va acc.length vc])) (w4.setRow (w.heap.size + 1) #[.string (str nm), .slice va acc.length vc]) (.slice va acc.length vc) (d.map kIt) := by
        refine ItR.frame (fun g hg => ?_) hit4
        have hg' := hob _ hg
        refine ⟨⟨by omega, by rw [hz9]; omega⟩, ?_⟩
        simp only [World.setRow]
        rw [Array.getElem?_modify, if_neg (by omega)]
      clear hri hb4 c0 c1 hit hit4 hbw3
      go_wp2_with (refine wpList_store_row rfl 41 (.tmp 2) (.tmp 54) rfl (w.heap.size + 1) #[.string (str nm), .slice va acc.length vc] rfl rfl 41 #[.string ⟨#[]⟩, .slice none 0 0] hN4 sizeIf rfl (by kernel_rfl) ?_)
      (try simp only [Exit.inBlock, Exit.then])
      refine bodyPost_ret (res7 rfl _ _ (w.heap.size + 1) 41 #[.string (str nm), .slice va acc.length vc] (0, 0) _ rfl (setRow_heap _ (w.heap.size + 1) _ _ 41 (0, 0) hN4) Try.underlying41 rfl sizeIf) rfl ?_
      exact ⟨_, d, rfl, by rw [← hA.out]; exact hp, hsd, hi9, hb9⟩
end Go.Proofs.Ytfddnaeldpafmaa

namespace Go.Proofs.Ytfddnaeldpafmaa
open Go.RowKit

set_option maxHeartbeats 8000000 in
set_option maxRecDepth 1000000 in
theorem putO (v : Value) (xs : List (List UInt8)) (s : List UInt8) (w : World) (h : StrRow w v xs) (hl : xs.length ≤ 4000) : Calls Try.prog 4 #[v, .string (str s)] w fun e w' => ∃ v', e = .returned v' ∧ w'.ownsRow w.heap.size 9 1 v' (putR xs s).length (sc (putR xs s)) ∧ Below w.heap.size w w' := by
  obtain ⟨va, vc, rfl⟩ := h.shape
  have H := hidden h
  clear h
  go_enter Try.func4, Try.ntmps4
  go_wp2
  go_loopg [5, 6, 7] xs.length (fun g o d i wr => ∃ (k : Nat) (acc : List (List UInt8)) (b : Bool), g + k = xs.length ∧ i = .int .i64 (k : Int) ∧ d = .bool b ∧ acc.length ≤ 2 * k ∧ Hid (acc ++ putF s b (xs.drop k) = putR xs s) ∧ wr.ownsRow w.heap.size 9 1 o acc.length (sc acc) ∧ Below w.heap.size w wr)
  case atStart => exact ⟨0, [], false, by omega, rfl, rfl, by simp, by rw [hid_iff]; rfl, World.ownsRow_nil _ _ _ _, Below.refl _ _⟩
  case round =>
    obtain ⟨k, acc, b, hg, rfl, rfl, hal, hq, hown, hbl⟩ := hrel
    have hB := hbl.size
    by_cases hk : k < xs.length
    · obtain ⟨bk, o, c, e1, q1⟩ := (H.out.below hbl).atJ k hk
      simp only [Value.slice.injEq, true_and] at e1
      obtain ⟨rfl, rfl⟩ := e1
      have q1b : ∀ u, Below w.heap.size w u → u.cell? ⟨bk, o + k, none⟩ = some (.string (str xs[k])) := by
        intro u hu
        obtain ⟨bk', o', c', e1, q1⟩ := (H.out.below hu).atJ k hk
        simp only [Value.slice.injEq, Option.some.injEq, Addr.mk.injEq, and_true, true_and] at e1
        obtain ⟨⟨rfl, rfl⟩, _⟩ := e1
        exact q1
      have hki : (k : Int) < (xs.length : Int) := by omega
      have hdr : xs.drop k = xs[k] :: xs.drop (k + 1) := List.drop_eq_getElem_cons hk
      generalize xs[k] = x at *
      have hge := geq_is x s
      have hne := neq_is x s
      have heq := eq_is x s
      by_cases hxs : x = s
      · rw [decide_eq_false (fun h => h hxs)] at hne
        rw [decide_eq_true hxs] at heq
        subst hxs
        cases b with
        | false =>
          have hc : x ≤ x := List.le_refl _
          rw [decide_eq_true hc] at hge
          have HQ : Hid ((acc ++ [x]) ++ putF x true (xs.drop (k + 1)) = putR xs x) := by
            rw [hid_iff, ← hq.out, hdr, putF]
            simp
          clear hq hdr
          go_wp2_with (at_builtin; refine append_text rfl (.tmp 24) (.tmp 26) rfl w.heap.size _ acc rfl (hown.alloc _) _ _ x rfl ?src1 ?len1 ?hB1 ?next1)
          case src1 => first | exact cells_new _ _ _ | exact fun j u h => h
          case len1 => first | omega | (simp; omega)
          case hB1 => first | omega | (simp; omega)
          case next1 =>
            intro ad1 c1 wz1 a1 g1
            have b1 := below_grown (hown.alloc _) (by simp; omega) (hbl.alloc (by omega) _) g1
            have s1 := b1.size
            clear g1 hown hbl
            have q2 := q1b _ b1
            clear q1b q1
            go_wp2
            go_roundg (xs.length - (k + 1))
            case measure => omega
            case rel => exact ⟨k + 1, acc ++ [x], true, by omega, by go_num, rfl, by first | omega | (simp; omega), HQ, by simpa using a1, b1⟩
        | true =>
          have HQ : Hid (acc ++ putF x true (xs.drop (k + 1)) = putR xs x) := by
            rw [hid_iff, ← hq.out, hdr, putF]
            simp
          clear hq hdr q1b
          go_wp2
          go_roundg (xs.length - (k + 1))
          case measure => omega
          case rel => exact ⟨k + 1, acc, true, by omega, by go_num, rfl, by first | omega | (simp; omega), HQ, hown, hbl⟩
      · rw [decide_eq_true hxs] at hne
        rw [decide_eq_false hxs] at heq
        cases b with
        | false =>
          by_cases hc : s ≤ x
          · rw [decide_eq_true hc] at hge
            have HQ : Hid (((acc ++ [s]) ++ [x]) ++ putF s true (xs.drop (k + 1)) = putR xs s) := by
              rw [hid_iff, ← hq.out, hdr, putF]
              simp [hc, hxs]
            clear hq hdr
            go_wp2_with (at_builtin; refine append_text rfl (.tmp 24) (.tmp 26) rfl w.heap.size _ acc rfl (hown.alloc _) _ _ s rfl ?src1 ?len1 ?hB1 ?next1)
            case src1 => first | exact cells_new _ _ _ | exact fun j u h => h
            case len1 => first | omega | (simp; omega)
            case hB1 => first | omega | (simp; omega)
            case next1 =>
              intro ad1 c1 wz1 a1 g1
              have b1 := below_grown (hown.alloc _) (by simp; omega) (hbl.alloc (by omega) _) g1
              have s1 := b1.size
              clear g1 hown hbl
              have q2 := q1b _ b1
              clear q1b q1
              have a1x : wz1.ownsRow w.heap.size 9 1 (.slice (some ad1) (acc.length + 1) c1) (acc ++ [s]).length (sc (acc ++ [s])) := by simpa using a1
              have hlen1 : (acc ++ [s]).length = acc.length + 1 := by simp
              go_wp2_with (at_builtin; refine append_text rfl (.tmp 34) (.tmp 39) rfl w.heap.size _ (acc ++ [s]) rfl (a1x.alloc _) _ _ x rfl ?src2 ?len2 ?hB2 ?next2)
              case src2 => first | exact cells_new _ _ _ | exact fun j u h => h
              case len2 => first | omega | (simp; omega)
              case hB2 => first | omega | (simp; omega)
              case next2 =>
                intro ad2 c2 wz2 a2 g2
                have b2 := below_grown (a1x.alloc _) (by simp; omega) (b1.alloc (by omega) _) g2
                have s2 := b2.size
                clear g2 a1x b1
                go_wp2
                go_roundg (xs.length - (k + 1))
                case measure => omega
                case rel => exact ⟨k + 1, (acc ++ [s]) ++ [x], true, by omega, by go_num, rfl, by first | omega | (simp; omega), HQ, by simpa using a2, b2⟩
          · rw [decide_eq_false hc] at hge
            have HQ : Hid ((acc ++ [x]) ++ putF s false (xs.drop (k + 1)) = putR xs s) := by
              rw [hid_iff, ← hq.out, hdr, putF]
              simp [hc, hxs]
            clear hq hdr q1b
            go_wp2_with (at_builtin; refine append_text rfl (.tmp 34) (.tmp 39) rfl w.heap.size _ acc rfl (hown.alloc _) _ _ x rfl ?src1 ?len1 ?hB1 ?next1)
            case src1 => first | exact cells_new _ _ _ | exact fun j u h => h
            case len1 => first | omega | (simp; omega)
            case hB1 => first | omega | (simp; omega)
            case next1 =>
              intro ad1 c1 wz1 a1 g1
              have b1 := below_grown (hown.alloc _) (by simp; omega) (hbl.alloc (by omega) _) g1
              have s1 := b1.size
              clear g1 hown hbl
              go_wp2
              go_roundg (xs.length - (k + 1))
              case measure => omega
              case rel => exact ⟨k + 1, acc ++ [x], false, by omega, by go_num, rfl, by first | omega | (simp; omega), HQ, by simpa using a1, b1⟩
        | true =>
          have HQ : Hid ((acc ++ [x]) ++ putF s true (xs.drop (k + 1)) = putR xs s) := by
            rw [hid_iff, ← hq.out, hdr, putF]
            simp [hxs]
          clear hq hdr q1b
          go_wp2_with (at_builtin; refine append_text rfl (.tmp 34) (.tmp 39) rfl w.heap.size _ acc rfl (hown.alloc _) _ _ x rfl ?src1 ?len1 ?hB1 ?next1)
          case src1 => first | exact cells_new _ _ _ | exact fun j u h => h
          case len1 => first | omega | (simp; omega)
          case hB1 => first | omega | (simp; omega)
          case next1 =>
            intro ad1 c1 wz1 a1 g1
            have b1 := below_grown (hown.alloc _) (by simp; omega) (hbl.alloc (by omega) _) g1
            have s1 := b1.size
            clear g1 hown hbl
            go_wp2
            go_roundg (xs.length - (k + 1))
            case measure => omega
            case rel => exact ⟨k + 1, acc ++ [x], true, by omega, by go_num, rfl, by first | omega | (simp; omega), HQ, by simpa using a1, b1⟩
    · have hki : ¬ (k : Int) < (xs.length : Int) := by omega
      cases b with
      | false =>
        have HQ : Hid (acc ++ [s] = putR xs s) := by rw [hid_iff, ← hq.out, List.drop_eq_nil_of_le (by omega)]; rfl
        clear hq
        go_wp2_with (at_builtin; refine append_text rfl (.tmp 43) (.tmp 45) rfl w.heap.size _ acc rfl (hown.alloc _) _ _ s rfl ?src1 ?len1 ?hB1 ?next1)
        case src1 => first | exact cells_new _ _ _ | exact fun j u h => h
        case len1 => first | omega | (simp; omega)
        case hB1 => first | omega | (simp; omega)
        case next1 =>
          intro ad1 c1 wz1 a1 g1
          have b1 := below_grown (hown.alloc _) (by simp; omega) (hbl.alloc (by omega) _) g1
          have s1 := b1.size
          clear g1 hown hbl
          go_wp2
          go_ret
          exact ⟨_, rfl, by rw [← HQ.out]; simpa using a1, b1⟩
      | true =>
        have HQ : Hid (acc = putR xs s) := by rw [hid_iff, ← hq.out, List.drop_eq_nil_of_le (by omega)]; simp [putF]
        clear hq
        go_wp2
        go_ret
        exact ⟨_, rfl, by rw [← HQ.out]; exact hown, hbl⟩
end Go.Proofs.Ytfddnaeldpafmaa

namespace Go.Proofs.Ytfddnaeldpafmaa
open Go.RowKit

def cCd (x : Kp) : List Value := [.string (str x.1), .string (str x.2), .int .i64 1, .int .i64 0, .string ⟨#[]⟩, .complex .f64 0 0, .string ⟨#[]⟩, .string ⟨#[]⟩, .slice none 0 0, .slice none 0 0, .slice none 0 0]
def rowC (l : List Kp) : List Value := l.flatMap cCd
theorem rowC_snoc (l : List Kp) (x : Kp) : rowC (l ++ [x]) = rowC l ++ cCd x := by simp [rowC]
theorem rowC_get : ∀ (acc : List Kp) (i c : Nat) (hi : i < acc.length), c < 11 → (rowC acc)[i * 11 + c]? = (cCd acc[i])[c]?
  | [], i, c, hi, _ => by simp at hi
  | x :: r, 0, c, _, hc => by
    have e : rowC (x :: r) = cCd x ++ rowC r := by simp [rowC]
    rw [e, Nat.zero_mul, Nat.zero_add, List.getElem?_append_left (by simpa [cCd] using hc)]
    rfl
  | x :: r, i + 1, c, hi, hc => by
    have e : rowC (x :: r) = cCd x ++ rowC r := by simp [rowC]
    rw [e, List.getElem?_append_right (by simp [cCd]; omega), show (i + 1) * 11 + c - (cCd x).length = i * 11 + c by simp [cCd]; omega, rowC_get r i c (by simpa using hi) hc]
    rfl
theorem infoCd : (Try.prog.info? 36).map (fun i => (i.zero.map (fun z => z.cells.size), i.size, i.bytes)) = some (some 11, 11, 184) := by kernel_rfl
/-- Consts in a row that the law owns. -/
def KOwn (B : Nat) (w : World) (v : Value) (ks : List Kp) : Prop := w.ownsRow B 36 11 v ks.length (rowC ks)
theorem KOwn.at {B : Nat} {w : World} {v : Value} {ks : List Kp} (h : KOwn B w v ks) (j : Nat) (hj : j < ks.length) : ∃ g cap, v = .slice (some ⟨g, 0, none⟩) ks.length cap ∧ B ≤ g ∧ g < w.heap.size ∧ ks.length ≤ cap ∧ ∀ c u, (cCd ks[j])[c]? = some u → w.cell? ⟨g, j * 11 + c, none⟩ = some u := by
  rcases h.2 with ⟨rfl, hn⟩ | ⟨g, cap, cur, rfl, hb, hg, hc, _⟩
  · omega
  · refine ⟨g, cap, rfl, hb, (Array.getElem?_eq_some_iff.1 hg).1, hc, fun c u hu => ?_⟩
    have hc11 : c < 11 := by
      have := (List.getElem?_eq_some_iff.1 hu).1
      simpa [cCd] using this
    rw [World.ownsRow.cellAt h (j * 11 + c) (by omega), rowC_get ks j c hj hc11, hu]
theorem KOwn.shape {B : Nat} {w : World} {v : Value} {ks : List Kp} (h : KOwn B w v ks) : ∃ a c, v = .slice a ks.length c := by
  rcases h.2 with ⟨rfl, hn⟩ | ⟨g, cap, cur, rfl, _⟩
  · exact ⟨none, 0, by rw [hn]⟩
  · exact ⟨_, _, rfl⟩
theorem KOwn.row {B : Nat} {w : World} {v : Value} {ks : List Kp} (h : KOwn B w v ks) : KdR (fun g => v.ownBlock = some g) w (.int .i64 1) (.int .i64 0) (.string ⟨#[]⟩) (.complex .f64 0 0) (.string ⟨#[]⟩) (.string ⟨#[]⟩) (.slice none 0 0) (.slice none 0 0) (.slice none 0 0) v ks := by
  rcases h.2 with ⟨rfl, hn⟩ | ⟨g, cap, cur, rfl, hb, hg, hc, _⟩
  · exact .inl ⟨none, 0, rfl, List.eq_nil_of_length_eq_zero hn⟩
  · refine .inr ⟨g, 0, cap, rfl, rfl, fun j x hj => ?_⟩
    obtain ⟨hlt, rfl⟩ := List.getElem?_eq_some_iff.1 hj
    obtain ⟨g', cap', e, _, _, _, q⟩ := h.at j hlt
    simp only [Value.slice.injEq, Option.some.injEq, Addr.mk.injEq, and_true, true_and] at e
    obtain ⟨rfl, rfl⟩ := e
    rw [Nat.zero_add]
    exact ⟨q 0 _ rfl, q 1 _ rfl, q 2 _ rfl, q 3 _ rfl, q 4 _ rfl, q 5 _ rfl, q 6 _ rfl, q 7 _ rfl, q 8 _ rfl, q 9 _ rfl, q 10 _ rfl⟩
/-- One const put behind the others, in a region that draws. -/
theorem step_const {w : World} {ops : Array Oper} {o : Oper} {a : Act} {K : Act → World → Prop} {Q : Exit → Act → World → Prop} {E : Prop} (hgd : o.guard = none) (s x : Operand)
    (ho : o.op = .call { callee := .builtin .append, args := #[s, x], argTypes := #[25, 25] })
    (B : Nat) (v : Value) (ks : List Kp) (hs : a.eval s = v) (hown : KOwn B w v ks) (n : Kp) (ad : Addr) (cp : Nat) (hx : a.eval x = .slice (some ad) 1 cp)
    (hnews : ∀ j u, (cCd n)[j]? = some u → w.cell? (ad.add j) = some u) (hlen : ks.length + 1 ≤ 100) (hB : B ≤ w.heap.size)
    (h : ∀ g cap w', KOwn B w' (.slice (some ⟨g, 0, none⟩) (ks.length + 1) cap) (ks ++ [n]) → w.grownBy w' v.ownBlock → K (a.put o.dst (.slice (some ⟨g, 0, none⟩) (ks.length + 1) cap)) w') :
    if Region.wanted o (yielded ops a.tmps) = true then Oper.wp Try.prog o a w K Q else E := by
  obtain ⟨i, z, hi, hz, h1, h2, h3⟩ := info_z infoCd
  refine step_append_lies w hgd s x 25 ho B 36 i z 11 184 Try.underlying25 hi hz h1 h2 h3 (by decide) v _ (rowC ks) hs hown ad 1 cp (cCd n) hx rfl hnews (fun u hu => ?_) (by decide) (by unfold maxLen; omega) (by omega) hB w.heap.size rfl ?_
  · simp only [cCd, List.mem_cons, List.not_mem_nil, or_false] at hu
    rcases hu with rfl | rfl | rfl | rfl | rfl | rfl | rfl | rfl | rfl | rfl | rfl <;> rfl
  · intro g cap w' q1 q2 q3 q4
    refine h g cap w' ?_ q2
    rw [KOwn, rowC_snoc]
    simpa using q1
/-- One text put behind the others, in a region that draws. -/
theorem step_text {w : World} {ops : Array Oper} {o : Oper} {a : Act} {K : Act → World → Prop} {Q : Exit → Act → World → Prop} {E : Prop} (hgd : o.guard = none) (s x : Operand)
    (ho : o.op = .call { callee := .builtin .append, args := #[s, x], argTypes := #[22, 22] })
    (B : Nat) (v : Value) (ks : List (List UInt8)) (hs : a.eval s = v) (hown : w.ownsRow B 9 1 v ks.length (sc ks)) (n : List UInt8) (ad : Addr) (cp : Nat) (hx : a.eval x = .slice (some ad) 1 cp)
    (hnews : ∀ j u, ([.string (str n)] : List Value)[j]? = some u → w.cell? (ad.add j) = some u) (hlen : ks.length + 1 ≤ 100) (hB : B ≤ w.heap.size)
    (h : ∀ g cap w', w'.ownsRow B 9 1 (.slice (some ⟨g, 0, none⟩) (ks.length + 1) cap) (ks ++ [n]).length (sc (ks ++ [n])) → w.grownBy w' v.ownBlock → K (a.put o.dst (.slice (some ⟨g, 0, none⟩) (ks.length + 1) cap)) w') :
    if Region.wanted o (yielded ops a.tmps) = true then Oper.wp Try.prog o a w K Q else E := by
  obtain ⟨i, z, hi, hz, h1, h2, h3⟩ := info_z infoS
  refine step_append_lies w hgd s x 22 ho B 9 i z 1 16 Try.underlying22 hi hz h1 h2 h3 (by decide) v _ (sc ks) hs hown ad 1 cp [.string (str n)] hx rfl hnews (fun u hu => ?_) (by decide) (by unfold maxLen; omega) (by omega) hB w.heap.size rfl ?_
  · simp only [List.mem_cons, List.not_mem_nil, or_false] at hu
    subst hu
    rfl
  · intro g cap w' q1 q2 q3 q4
    refine h g cap w' ?_ q2
    have e : sc (ks ++ [n]) = sc ks ++ [.string (str n)] := by simp [sc]
    rw [e]
    simpa using q1
theorem putR_length (s : List UInt8) : ∀ (l : List (List UInt8)), (putR l s).length ≤ l.length + 1
  | [] => by simp [putR, putF]
  | y :: r => by
    have ih := putR_length s r
    unfold putR at ih ⊢
    rw [putF]
    by_cases h : s ≤ y
    · rw [if_pos ⟨rfl, h⟩, Bool.false_or, decide_eq_true h, putF_done]
      generalize hf : List.filter _ r = fr
      have : fr.length ≤ r.length := by rw [← hf]; exact List.length_filter_le _ _
      split <;> simp only [List.length_append, List.length_cons, List.length_nil] <;> omega
    · rw [if_neg (fun hh => h hh.2), Bool.false_or, decide_eq_false h]
      split <;> simp only [List.length_append, List.length_cons, List.length_nil] <;> omega
/-- A row of one type is not a row of another one. -/
theorem apart_rows {w : World} {B C e1 e2 s1 s2 n m : Nat} {v u : Value} {xs ys : List Value} (h : w.ownsRow B e1 s1 v n xs) (k : w.ownsRow C e2 s2 u m ys) (hne : e1 ≠ e2) {b : Nat} (hv : v.ownBlock = some b) : u.ownBlock ≠ some b := by
  intro hu
  rcases h.2 with ⟨rfl, _⟩ | ⟨g, cap, cur, rfl, _, hg, _⟩
  · cases hv
  · rcases k.2 with ⟨rfl, _⟩ | ⟨g', cap', cur', rfl, _, hg', _⟩
    · cases hu
    · simp only [Value.ownBlock, Option.some.injEq] at hv hu
      subst hv
      subst hu
      rw [hg] at hg'
      simp only [Option.some.injEq, Obj.cells.injEq] at hg'
      exact hne hg'.2.1
theorem owns_kept {S : Nat → Prop} {w w' : World} {B e sz n : Nat} {v : Value} {xs : List Value} (h : w.ownsRow B e sz v n xs) (k : Kept S w w') (hS : ∀ b, v.ownBlock = some b → ¬ S b) : w'.ownsRow B e sz v n xs := by
  refine ⟨h.1, ?_⟩
  rcases h.2 with hn | ⟨g, cap, cur, rfl, h2, h3, h4⟩
  · exact .inl hn
  · exact .inr ⟨g, cap, cur, rfl, h2, (k.block g (Array.getElem?_eq_some_iff.1 h3).1 (hS g rfl)).trans h3, h4⟩
theorem owns_base {w : World} {B C e sz n : Nat} {v : Value} {xs : List Value} (h : w.ownsRow B e sz v n xs) (hC : C ≤ B) : w.ownsRow C e sz v n xs := by
  refine ⟨h.1, ?_⟩
  rcases h.2 with hn | ⟨g, cap, cur, h1, h2, h3⟩
  · exact .inl hn
  · exact .inr ⟨g, cap, cur, h1, by omega, h3⟩
theorem kept_grown {w w' : World} {row : Option Nat} (h : w.grownBy w' row) : Kept (fun b => row = some b) w w' := ⟨h.os, h.tape, h.output, h.size, fun b hb hn => h.block b hb (fun e => hn e.symm)⟩
theorem tmodQ (n m : Int) (hm : 0 < m) : (0 ≤ n.tmod m ∧ n.tmod m = n % m) ∨ (n.tmod m < 0 ∧ n.tmod m + m = n % m) := by
  have h := Int.tmod_eq_emod (a := n) (b := m)
  have h1 := Int.emod_nonneg n (show m ≠ 0 by omega)
  have h2 := Int.emod_lt_of_pos n hm
  by_cases hc : 0 ≤ n ∨ m ∣ n
  · rw [if_pos hc] at h
    left
    omega
  · rw [if_neg hc] at h
    right
    omega
set_option maxRecDepth 1000000 in
theorem withinQ (n : Int) (hi : Nat) (_h0 : -9223372036854775808 ≤ n) (_h1 : n ≤ 9223372036854775807) (hh : hi ≤ 1000000000) (w : World) : Calls Try.prog 5 #[.int .i64 n, .int .i64 0, .int .i64 hi] w (Pu (.int .i64 (n % ((hi : Int) + 1))) w) := by
  have hb := Int.emod_lt_of_pos n (show 0 < (hi : Int) + 1 by omega)
  have hb0 := Int.emod_nonneg n (show (hi : Int) + 1 ≠ 0 by omega)
  have hne : ¬ ((hi : Int) + 1 = 0) := by omega
  have hpos : (0 : Int) < (hi : Int) + 1 := by omega
  rcases tmodQ n (hi + 1) (by omega) with ⟨h2, h3⟩ | ⟨h2, h3⟩
  · rw [← h3] at hb hb0 ⊢
    generalize hz : n.tmod ((hi : Int) + 1) = z at *
    clear h3
    go_enter Try.func5, Try.ntmps5
    go_wp2
    go_ret
    exact ⟨rfl, rfl⟩
  · rw [← h3] at hb hb0 ⊢
    generalize hz : n.tmod ((hi : Int) + 1) = z at *
    clear h3
    rw [← Int.add_assoc]
    go_enter Try.func5, Try.ntmps5
    go_wp2
    go_ret
    exact ⟨rfl, rfl⟩

theorem tmodN (k n : Nat) (hn : 0 < n) : (k : Int).tmod (n : Int) = ((k % n : Nat) : Int) := by
  rcases tmodQ (k : Int) (n : Int) (by omega) with h | h
  · rw [h.2]
    simp
  · have := Int.emod_nonneg (k : Int) (show (n : Int) ≠ 0 by omega)
    have h3 : (0 : Int) ≤ (k : Int).tmod (n : Int) := Int.tmod_nonneg _ (by omega)
    omega
theorem tmod2 (k : Nat) : (k : Int).tmod 2 = ((k % 2 : Nat) : Int) := tmodN k 2 (by decide)
theorem find_self {ks : List Kp} (h : Ks ks) {x : Kp} (hx : x ∈ ks) : findK ks x.1 = some x := by
  have hs : (findK ks x.1).isSome = true := by
    rw [findK, List.find?_isSome]
    exact ⟨x, hx, by simp⟩
  obtain ⟨y, hy⟩ := Option.isSome_iff_exists.1 hs
  have h1 : y.1 = x.1 := by have := List.find?_some hy; simpa using this
  rw [hy, h.same (List.mem_of_find?_eq_some hy) hx h1]
theorem pick_turn {ks : List Kp} (h : Ks ks) (kk : Nat) : (turnK ks kk).map (pickK ks) = ks.drop kk ++ ks.take kk := by
  unfold turnK
  rw [List.map_map]
  conv => rhs; rw [← List.map_id (ks.drop kk ++ ks.take kk)]
  refine List.map_congr_left fun x hx => ?_
  have hm : x ∈ ks := by
    rcases List.mem_append.1 hx with h1 | h1
    · exact List.mem_of_mem_drop h1
    · exact List.mem_of_mem_take h1
  simp [pickK, find_self h hm]
theorem pick_perm {ks : List Kp} (h : Ks ks) (kk : Nat) : ((turnK ks kk).map (pickK ks)).Perm ks := by
  rw [pick_turn h]
  have := List.perm_append_comm (l₁ := ks.drop kk) (l₂ := ks.take kk)
  rwa [List.take_append_drop] at this
theorem turn_def {ks : List Kp} (h : Ks ks) (kk : Nat) : ∀ q ∈ turnK ks kk, (findK ks q).isSome = true := by
  intro q hq
  obtain ⟨x, hx, rfl⟩ := List.mem_map.1 ((turnK_mem kk q).1 hq)
  rw [find_self h hx]
  rfl
theorem turn_dis {ks : List Kp} (h : Ks ks) (kk : Nat) : ∀ i (hi : i < (turnK ks kk).length), ((turnK ks kk).take i).any (fun y => decide (y = (turnK ks kk)[i])) = false := by
  intro i hi
  rw [List.any_eq_false]
  intro y hy
  obtain ⟨j, hj, rfl⟩ := List.getElem_of_mem hy
  have hj' : j < i := by simp at hj; omega
  rw [List.getElem_take]
  have := List.pairwise_iff_getElem.1 (turnK_nodup h kk) j i (by omega) hi hj'
  simpa using this
theorem turn_good {ks : List Kp} (h : Ks ks) (kk : Nat) (hl : ks.length ≤ 12) (d : List Kp) (hp : d.Perm ((turnK ks kk).map (pickK ks))) (hs : ∀ (i j : Nat) (hi : i < d.length) (hj : j < d.length), i < j → d[i].1 ≤ d[j].1) : Asc (d.map Prod.fst) ∧ d.Perm ks ∧ rightI [109] (d.map kIt) = 0 := by
  have hk := hp.trans (pick_perm h kk)
  have ha := items_asc ((hk.map Prod.fst).nodup_iff.2 h.nodup) hs
  refine ⟨ha, hk, iface_right [109] (by decide) (by rw [hk.length_eq]; omega) ha (fun x hx => ?_)⟩
  have hm := hk.mem_iff.1 hx
  exact ⟨(h.name x hm).1, (h.ty x hm).1⟩
theorem turn_tk {ks : List Kp} (h : Ks ks) (kk : Nat) : ∀ x ∈ turnK ks kk, Tk x := by
  intro q hq
  obtain ⟨x, hx, rfl⟩ := List.mem_map.1 ((turnK_mem kk q).1 hq)
  have := (h.name x hx).2
  unfold Tk
  omega
theorem ks_tk {ks : List Kp} (h : Ks ks) : ∀ x ∈ ks, Tk x.1 ∧ Tk x.2 := by
  intro x hx
  have h1 := (h.name x hx).2
  have h2 := (h.ty x hx).2
  unfold Tk
  omega
theorem KdR.imp {F G : Nat → Prop} {w : World} {b2 b3 b4 b5 b6 b7 b8 b9 b10 v : Value} {ks : List (List UInt8 × List UInt8)} (h : KdR F w b2 b3 b4 b5 b6 b7 b8 b9 b10 v ks) (hF : ∀ g, F g → G g) : KdR G w b2 b3 b4 b5 b6 b7 b8 b9 b10 v ks := by
  rcases h with h | ⟨g, o, cap, h1, h2, h3⟩
  · exact .inl h
  · exact .inr ⟨g, o, cap, h1, hF g h2, h3⟩
theorem kept_below {w w' : World} (h : Below w.heap.size w w') : Kept (fun _ => False) w w' := ⟨h.os, h.tape, h.output, h.size, fun k hk _ => h.block k hk⟩
theorem cap_own {w : World} {B e n : Nat} {v : Value} {xs : List Value} (h : w.ownsRow B e 1 v n xs) : ∃ a c, v = .slice a n c ∧ n ≤ c := by
  rcases h.2 with ⟨rfl, hn⟩ | ⟨g, cap, cur, rfl, _, _, hc, _⟩
  · exact ⟨none, 0, by rw [hn], by omega⟩
  · exact ⟨_, _, rfl, hc⟩
end Go.Proofs.Ytfddnaeldpafmaa
