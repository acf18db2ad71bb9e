/-
  An object as bytes: what is written, how it is read, and that the one is the other's way back. No program in it.
  And: What Right lets by is small enough to be read again. No program in it. What is read is no longer than it may be. No program in it. What is read of an object is no longer than it may be. No program in it.
-/
import Derived.Test.YtfjppbpicmniaaaGreatDoorG17
import Derived.Test.YtfjppbpicmniaaaGreatDoorG09
import Derived.Test.YtfjppbpicmniaaaGreatDoorG10
namespace Go.Proofs.YtfjppbpicmniaaaGreatDoor
open Wire (rNum rTake rEnd enc)

/-- A list: how many, then one behind the other. -/
def lsB {α : Type} (E : α → List Nat) (xs : List α) : List Nat := enc xs.length ++ xs.flatMap E
def glB (g : Gl) : List Nat := txtB g.name ++ (txtB g.ty ++ enc g.fn.toNat)
def fnB (f : Fn) : List Nat := txtB f.name ++ (lsB txtB f.params ++ (enc f.caps.toNat ++ (txtB f.res ++ (enc f.locals.toNat ++ txtB f.code))))
def syB (s : Sy) : List Nat := txtB s.mod ++ itemB s.item
def rlB (r : Rl) : List Nat := enc r.fn.toNat ++ (enc r.place.toNat ++ enc r.sym.toNat)
def objB (o : Ob) : List Nat :=
  txtB o.mod ++ (lsB itemB o.types ++ (lsB txtB o.texts ++ (lsB glB o.globals ++ (lsB fnB o.funs ++ (lsB txtB o.exports ++ (lsB syB o.symbols ++ lsB rlB o.relocs))))))

def glR (l : List Nat) (p y : Nat) : Gl × Nat × Nat :=
  let a := txtR l 24 p y
  let b := txtR l 200 a.2.1 a.2.2
  let c := rNum l b.2.1 b.2.2 65535
  (⟨a.1, b.1, (c.1 : Int)⟩, c.2)
def fnR (l : List Nat) (p y : Nat) : Fn × Nat × Nat :=
  let a := txtR l 24 p y
  let b := listR l (txtR l 200) a.2.1 a.2.2
  let c := rNum l b.2.1 b.2.2 65535
  let d := txtR l 200 c.2.1 c.2.2
  let e := rNum l d.2.1 d.2.2 65535
  let f := txtR l 65535 e.2.1 e.2.2
  (⟨a.1, b.1, (c.1 : Int), d.1, (e.1 : Int), f.1⟩, f.2)
def syR (l : List Nat) (p y : Nat) : Sy × Nat × Nat :=
  let a := txtR l 24 p y
  let b := itemR l a.2.1 a.2.2
  (⟨a.1, b.1⟩, b.2)
def rlR (l : List Nat) (p y : Nat) : Rl × Nat × Nat :=
  let a := rNum l p y 65535
  let b := rNum l a.2.1 a.2.2 65535
  let c := rNum l b.2.1 b.2.2 65535
  (⟨(a.1 : Int), (b.1 : Int), (c.1 : Int)⟩, c.2)
def objR (l : List Nat) (p y : Nat) : Ob × Nat × Nat :=
  let m := txtR l 24 p y
  let a := listR l (itemR l) m.2.1 m.2.2
  let b := listR l (txtR l 200) a.2.1 a.2.2
  let c := listR l (glR l) b.2.1 b.2.2
  let d := listR l (fnR l) c.2.1 c.2.2
  let e := listR l (txtR l 24) d.2.1 d.2.2
  let f := listR l (syR l) e.2.1 e.2.2
  let g := listR l (rlR l) f.2.1 f.2.2
  (⟨m.1, a.1, b.1, c.1, d.1, e.1, f.1, g.1⟩, g.2)
def noneO : Ob := ⟨[], [], [], [], [], [], [], []⟩
/-- Decode: the refusal, its place, the object. -/
def decO (l : List Nat) : (Nat × Nat) × Ob :=
  if 8192 < l.length then ((3, 0), noneO)
  else if (rEnd l (objR l 0 0).2.1 (objR l 0 0).2.2).1 ≠ 0 then (rEnd l (objR l 0 0).2.1 (objR l 0 0).2.2, noneO)
  else if (rightO (objR l 0 0).1).1 ≠ 0 then (((rightO (objR l 0 0).1).1, 0), noneO)
  else ((0, 0), (objR l 0 0).1)

/-! One reader as a whole: it stays where something is refused already, within the bytes, and what it reads well was written so. -/
structure Rdr {α : Type} (l : List Nat) (rd : Nat → Nat → α × Nat × Nat) (E : α → List Nat) (ok : α → Prop) : Prop where
  le : ∀ p y, p ≤ l.length → (rd p y).2.1 ≤ l.length
  stick : ∀ p y, y ≠ 0 → (rd p y).2.2 = y
  back : (∀ x ∈ l, x < 256) → ∀ p, p ≤ l.length → ∀ x p', rd p 0 = (x, p', 0) → l.drop p = E x ++ l.drop p' ∧ p' ≤ l.length
  forth : ∀ p x rest, p ≤ l.length → ok x → l.drop p = E x ++ rest → rd p 0 = (x, p + (E x).length, 0)
def numD (l : List Nat) (p y : Nat) : Int × Nat × Nat := (((rNum l p y 65535).1 : Int), (rNum l p y 65535).2)
theorem rdr_num (l : List Nat) : Rdr l (numD l) (fun n => enc n.toNat) (fun n => 0 ≤ n ∧ n ≤ 65535) := by
  refine ⟨fun p y hp => Wire.rNum_le l p y 65535 hp, fun p y h => ?_, fun h256 p hp x p' h => ?_, fun p x rest hp hx h => ?_⟩
  · unfold numD
    rw [num_stick l 65535 p y h]
  · unfold numD at h
    obtain ⟨n, q, y, hr⟩ : ∃ n q y, rNum l p 0 65535 = (n, q, y) := ⟨_, _, _, rfl⟩
    rw [hr] at h
    simp only [Prod.mk.injEq] at h
    obtain ⟨rfl, rfl, rfl⟩ := h
    obtain ⟨h1, _, h3, _⟩ := num_back l h256 65535 p n q hp hr
    exact ⟨by rw [Int.toNat_natCast]; exact h1, h3⟩
  · obtain ⟨n, rfl⟩ : ∃ n : Nat, x = (n : Int) := ⟨x.toNat, by omega⟩
    rw [Int.toNat_natCast] at h ⊢
    unfold numD
    rw [num_forth l 65535 p n rest (by omega) (by decide) h]
theorem rdr_txt (l : List Nat) (most : Nat) (hm : most < 18446744073709551616) : Rdr l (txtR l most) txtB (fun x => x.length ≤ most) :=
  ⟨txt_le l most, txt_stick l most, fun h256 p hp x p' h => txt_back l h256 most p hp x p' h, fun p x rest hp hx h => txt_forth l most p x rest hp hx hm h⟩
theorem rdr_item (l : List Nat) : Rdr l (itemR l) itemB ItS :=
  ⟨item_le l, item_stick l, fun h256 p hp x p' h => item_back l h256 p hp x p' h, fun p x rest hp hx h => item_forth l p x rest hp hx h⟩
theorem rdr_list {α : Type} {l : List Nat} {rd : Nat → Nat → α × Nat × Nat} {E : α → List Nat} {ok : α → Prop} (h : Rdr l rd E ok) : Rdr l (listR l rd) (lsB E) (fun xs => xs.length ≤ 65535 ∧ ∀ x ∈ xs, ok x) :=
  ⟨list_le h.le, list_stick l rd, fun h256 p hp xs p' hr => list_back h256 E h.stick (h.back h256) p hp xs p' hr, fun p xs rest hp hx hd => list_forth E ok h.forth xs p rest hp hx.1 hx.2 hd⟩
/-- One behind the other. -/
theorem rdr_two {α β γ : Type} {l : List Nat} {ra : Nat → Nat → α × Nat × Nat} {rb : Nat → Nat → β × Nat × Nat} {Ea : α → List Nat} {Eb : β → List Nat} {oka : α → Prop} {okb : β → Prop} (ha : Rdr l ra Ea oka) (hb : Rdr l rb Eb okb)
    (rc : Nat → Nat → γ × Nat × Nat) (f : α → β → γ) (ga : γ → α) (gb : γ → β) (hf : ∀ x, f (ga x) (gb x) = x) (hga : ∀ x y, ga (f x y) = x) (hgb : ∀ x y, gb (f x y) = y)
    (hrc : ∀ p y, rc p y = (f (ra p y).1 (rb (ra p y).2.1 (ra p y).2.2).1, (rb (ra p y).2.1 (ra p y).2.2).2)) : Rdr l rc (fun x => Ea (ga x) ++ Eb (gb x)) (fun x => oka (ga x) ∧ okb (gb x)) := by
  refine ⟨fun p y hp => ?_, fun p y h => ?_, fun h256 p hp x p' h => ?_, fun p x rest hp hx h => ?_⟩
  · rw [hrc]
    exact hb.le _ _ (ha.le p y hp)
  · rw [hrc]
    have := ha.stick p y h
    show (rb (ra p y).2.1 (ra p y).2.2).2.2 = y
    rw [hb.stick _ _ (by rw [this]; exact h), this]
  · rw [hrc] at h
    obtain ⟨a, q, y, hr⟩ : ∃ n q y, ra p 0 = (n, q, y) := ⟨_, _, _, rfl⟩
    rw [hr] at h
    simp only at h
    obtain ⟨b, q2, y2, hr2⟩ : ∃ n q' y', rb q y = (n, q', y') := ⟨_, _, _, rfl⟩
    rw [hr2] at h
    simp only [Prod.mk.injEq] at h
    obtain ⟨rfl, rfl, rfl⟩ := h
    have hy : y = 0 := by
      refine Classical.byContradiction fun hy => ?_
      have := hb.stick q y hy
      rw [hr2] at this
      exact hy this.symm
    subst hy
    obtain ⟨h1, h2⟩ := ha.back h256 p hp a q hr
    obtain ⟨h3, h4⟩ := hb.back h256 q h2 b q2 hr2
    exact ⟨by rw [h1, h3, hga, hgb, List.append_assoc], h4⟩
  · have h0 : l.drop p = Ea (ga x) ++ (Eb (gb x) ++ rest) := by rw [h, List.append_assoc]
    have h1 := ha.forth p (ga x) _ hp hx.1 h0
    have h2 := drop_len hp h0
    have h3 := hb.forth (p + (Ea (ga x)).length) (gb x) rest (by omega) hx.2 (drop_more h0)
    rw [hrc, h1]
    simp only
    rw [h3, hf]
    simp
    omega
/-- Pairs: one reader behind the other, what they read as a pair. -/
def andR {α β : Type} (ra : Nat → Nat → α × Nat × Nat) (rb : Nat → Nat → β × Nat × Nat) (p y : Nat) : (α × β) × Nat × Nat := (((ra p y).1, (rb (ra p y).2.1 (ra p y).2.2).1), (rb (ra p y).2.1 (ra p y).2.2).2)
theorem rdr_and {α β : Type} {l : List Nat} {ra : Nat → Nat → α × Nat × Nat} {rb : Nat → Nat → β × Nat × Nat} {Ea : α → List Nat} {Eb : β → List Nat} {oka : α → Prop} {okb : β → Prop} (ha : Rdr l ra Ea oka) (hb : Rdr l rb Eb okb) :
    Rdr l (andR ra rb) (fun x => Ea x.1 ++ Eb x.2) (fun x => oka x.1 ∧ okb x.2) :=
  rdr_two ha hb (andR ra rb) Prod.mk Prod.fst Prod.snd (fun _ => rfl) (fun _ _ => rfl) (fun _ _ => rfl) (fun _ _ => rfl)
def GlS (g : Gl) : Prop := g.name.length ≤ 24 ∧ g.ty.length ≤ 200 ∧ 0 ≤ g.fn ∧ g.fn ≤ 65535
theorem rdr_gl (l : List Nat) : Rdr l (glR l) glB GlS := by
  have h := rdr_two (rdr_txt l 24 (by decide)) (rdr_and (rdr_txt l 200 (by decide)) (rdr_num l))
    (glR l) (fun a b => (⟨a, b.1, b.2⟩ : Gl)) (fun g => g.name) (fun g => (g.ty, g.fn)) (fun _ => rfl) (fun _ _ => rfl) (fun _ _ => rfl) (fun _ _ => by simp only [glR, andR, numD])
  exact h
theorem rdr_sy (l : List Nat) : Rdr l (syR l) syB (fun s => s.mod.length ≤ 24 ∧ ItS s.item) :=
  rdr_two (rdr_txt l 24 (by decide)) (rdr_item l) (syR l) (fun a b => (⟨a, b⟩ : Sy)) (fun g => g.mod) (fun g => g.item) (fun _ => rfl) (fun _ _ => rfl) (fun _ _ => rfl) (fun _ _ => by simp only [syR])
def InS (n : Int) : Prop := 0 ≤ n ∧ n ≤ 65535
theorem rdr_rl (l : List Nat) : Rdr l (rlR l) rlB (fun r => InS r.fn ∧ InS r.place ∧ InS r.sym) :=
  rdr_two (rdr_num l) (rdr_and (rdr_num l) (rdr_num l))
    (rlR l) (fun a b => (⟨a, b.1, b.2⟩ : Rl)) (fun g => g.fn) (fun g => (g.place, g.sym)) (fun _ => rfl) (fun _ _ => rfl) (fun _ _ => rfl) (fun _ _ => by simp only [rlR, andR, numD])
structure FnS (f : Fn) : Prop where
  name : f.name.length ≤ 24
  params : f.params.length ≤ 65535 ∧ ∀ x ∈ f.params, x.length ≤ 200
  caps : 0 ≤ f.caps ∧ f.caps ≤ 65535
  res : f.res.length ≤ 200
  locals : 0 ≤ f.locals ∧ f.locals ≤ 65535
  code : f.code.length ≤ 65535
theorem rdr_ok {α : Type} {l : List Nat} {rd : Nat → Nat → α × Nat × Nat} {E E' : α → List Nat} {ok ok' : α → Prop} (h : Rdr l rd E ok) (hE : ∀ x, E' x = E x) (h' : ∀ x, ok' x → ok x) : Rdr l rd E' ok' := by
  obtain rfl : E' = E := funext hE
  exact ⟨h.le, h.stick, h.back, fun p x rest hp hx hd => h.forth p x rest hp (h' x hx) hd⟩
theorem rdr_fn (l : List Nat) : Rdr l (fnR l) fnB FnS := by
  have h := rdr_two (rdr_txt l 24 (by decide)) (rdr_and (rdr_list (rdr_txt l 200 (by decide))) (rdr_and (rdr_num l) (rdr_and (rdr_txt l 200 (by decide)) (rdr_and (rdr_num l) (rdr_txt l 65535 (by decide))))))
    (fnR l) (fun a b => (⟨a, b.1, b.2.1, b.2.2.1, b.2.2.2.1, b.2.2.2.2⟩ : Fn)) (fun g => g.name) (fun g => (g.params, g.caps, g.res, g.locals, g.code)) (fun _ => rfl) (fun _ _ => rfl) (fun _ _ => rfl) (fun _ _ => by simp only [fnR, andR, numD])
  exact rdr_ok h (fun x => rfl) (fun x hx => ⟨hx.name, hx.params, hx.caps, hx.res, hx.locals, hx.code⟩)
structure ObS (o : Ob) : Prop where
  mod : o.mod.length ≤ 24
  types : o.types.length ≤ 65535 ∧ ∀ x ∈ o.types, ItS x
  texts : o.texts.length ≤ 65535 ∧ ∀ x ∈ o.texts, x.length ≤ 200
  globals : o.globals.length ≤ 65535 ∧ ∀ x ∈ o.globals, GlS x
  funs : o.funs.length ≤ 65535 ∧ ∀ x ∈ o.funs, FnS x
  exports : o.exports.length ≤ 65535 ∧ ∀ x ∈ o.exports, x.length ≤ 24
  symbols : o.symbols.length ≤ 65535 ∧ ∀ x ∈ o.symbols, x.mod.length ≤ 24 ∧ ItS x.item
  relocs : o.relocs.length ≤ 65535 ∧ ∀ x ∈ o.relocs, InS x.fn ∧ InS x.place ∧ InS x.sym
theorem rdr_obj (l : List Nat) : Rdr l (objR l) objB ObS := by
  have h := rdr_two (rdr_txt l 24 (by decide)) (rdr_and (rdr_list (rdr_item l)) (rdr_and (rdr_list (rdr_txt l 200 (by decide))) (rdr_and (rdr_list (rdr_gl l)) (rdr_and (rdr_list (rdr_fn l)) (rdr_and (rdr_list (rdr_txt l 24 (by decide))) (rdr_and (rdr_list (rdr_sy l)) (rdr_list (rdr_rl l))))))))
    (objR l) (fun a b => (⟨a, b.1, b.2.1, b.2.2.1, b.2.2.2.1, b.2.2.2.2.1, b.2.2.2.2.2.1, b.2.2.2.2.2.2⟩ : Ob)) (fun g => g.mod) (fun g => (g.types, g.texts, g.globals, g.funs, g.exports, g.symbols, g.relocs)) (fun _ => rfl) (fun _ _ => rfl) (fun _ _ => rfl) (fun _ _ => by simp only [objR, andR])
  refine rdr_ok h (fun x => ?_) (fun x hx => ?_)
  · unfold objB
    rfl
  · exact (And.intro hx.mod (And.intro hx.types (And.intro hx.texts (And.intro hx.globals (And.intro hx.funs (And.intro hx.exports (And.intro hx.symbols hx.relocs)))))))

/-- What is read is written as its bytes. -/
theorem obj_back (l : List Nat) (h256 : ∀ x ∈ l, x < 256) (h : (rEnd l (objR l 0 0).2.1 (objR l 0 0).2.2).1 = 0) : objB (objR l 0 0).1 = l := by
  generalize hr : objR l 0 0 = R at *
  obtain ⟨x, q, y⟩ := R
  simp only at h ⊢
  have he : y = 0 ∧ l.length ≤ q := by
    unfold rEnd at h
    split at h
    · rename_i h1; exact absurd h h1
    · rename_i h1
      split at h
      · cases h
      · exact ⟨Classical.not_not.1 h1, by omega⟩
  obtain ⟨rfl, he2⟩ := he
  obtain ⟨h1, h2⟩ := (rdr_obj l).back h256 0 (Nat.zero_le _) x q hr
  rw [List.drop_zero, List.drop_eq_nil_of_le he2, List.append_nil] at h1
  exact h1.symm
theorem obj_forth {o : Ob} (h : ObS o) : objR (objB o) 0 0 = (o, (objB o).length, 0) := by
  have := (rdr_obj (objB o)).forth 0 o [] (Nat.zero_le _) h (by simp)
  simpa using this
theorem dec_forthO {o : Ob} (h : ObS o) (h1 : (rightO o).1 = 0) (h2 : (objB o).length ≤ 8192) : decO (objB o) = ((0, 0), o) := by
  have h3 := obj_forth h
  unfold decO
  rw [if_neg (by omega), h3]
  have h4 : rEnd (objB o) (objB o).length 0 = (0, (rEnd (objB o) (objB o).length 0).2) := by simp [rEnd]
  simp only
  rw [if_neg (by rw [h4]; simp), if_neg (by rw [h1]; simp)]
theorem dec_backO {l : List Nat} (h256 : ∀ x ∈ l, x < 256) (h : (decO l).1.1 = 0) : (rightO (decO l).2).1 = 0 ∧ objB (decO l).2 = l ∧ l.length ≤ 8192 := by
  unfold decO at h ⊢
  split at h
  · cases h
  · rename_i h1
    split at h
    · rename_i h2; exact absurd h h2
    · rename_i h2
      split at h
      · rename_i h3; exact absurd h h3
      · rename_i h3
        rw [if_neg h1, if_neg h2, if_neg h3]
        exact ⟨Classical.not_not.1 h3, obj_back l h256 (Classical.not_not.1 h2), by omega⟩
end Go.Proofs.YtfjppbpicmniaaaGreatDoor

namespace Go.Proofs.YtfjppbpicmniaaaGreatDoor

theorem elem_zero {o : Ob} (h : (rightO o).1 = 0) (j k : Nat) (hj : j < 7) (hk : k < lenO o j) : elemO o j k = 0 := by
  obtain ⟨_, _, h2⟩ := lists_zero h
  exact scanO_all _ _ (h2 j hj) k (by omega) (by omega)
theorem many_no {o : Ob} (h : (rightO o).1 = 0) : o.types.length ≤ 32 ∧ o.texts.length ≤ 32 ∧ o.globals.length ≤ 32 ∧ o.exports.length ≤ 32 ∧ o.funs.length ≤ 48 ∧ o.symbols.length ≤ 96 ∧ o.relocs.length ≤ 384 := by
  obtain ⟨_, h1, _⟩ := lists_zero h
  unfold manyO at h1
  simp only [Bool.or_eq_false_iff, decide_eq_false_iff_not] at h1
  omega
theorem typeO_short {m : List UInt8} {ah : List It} {x : It} (h : typeO m ah x = 0) : ItS x := by
  unfold typeO at h
  split at h
  · rename_i h1; exact absurd h h1
  · rename_i h1
    obtain ⟨_, _, _, h2⟩ := right_short (Classical.not_not.1 h1)
    obtain ⟨q, hq⟩ := h2 x (by simp)
    exact item_short hq
theorem textO_short {t : List UInt8} (h : textO t = 0) : t.length ≤ 200 := by
  unfold textO at h
  split at h
  · rename_i h1; exact right_len h1
  · cases h
theorem in_short {n c : Int} (h : ¬ inO n c = false) : 0 ≤ n ∧ n < c := by
  simpa [inO] using h
theorem globalO_short {nf : Int} {ah : List Gl} {g : Gl} (hn : nf ≤ 48) (h : globalO nf ah g = 0) : GlS g := by
  unfold globalO at h
  split at h
  · cases h
  · rename_i h1
    split at h
    · cases h
    · split at h
      · cases h
      · rename_i h2
        split at h
        · cases h
        · rename_i h3
          have h4 := in_short h3
          exact ⟨value_len (by simpa using h1), right_len (by simpa using h2), h4.1, by omega⟩
theorem funO_short {gs : List Gl} {ah : List Fn} {f : Fn} (h : funO gs ah f = 0) : FnS f := by
  unfold funO at h
  split at h
  · cases h
  · rename_i h1
    split at h
    · cases h
    · split at h
      · cases h
      · rename_i h2
        split at h
        · cases h
        · rename_i h3
          split at h
          · cases h
          · rename_i h4
            simp only [countsO, Bool.not_eq_false, Bool.and_eq_true, decide_eq_true_eq] at h2
            simp only [not_or, Bool.not_eq_false] at h3
            have h5 : f.name.length ≤ 24 := by
              by_cases e : f.name = []
              · rw [e]; simp
              · exact value_len (by simpa [e] using h1)
            exact ⟨h5, ⟨by omega, fun x hx => right_len (List.all_eq_true.1 h3.2.1 x hx)⟩, ⟨by omega, by omega⟩, right_len h3.1, ⟨by omega, by omega⟩, by omega⟩
theorem numO_short (n : Nat) (h : n < 100) : (numO n).length ≤ 2 := by
  have : ∀ k : Fin 100, (numO k.val).length ≤ 2 := by decide +kernel
  exact this ⟨n, h⟩
theorem unnamedO_short {fs : List Fn} {t : List UInt8} (hf : fs.length ≤ 48) (h : unnamedO fs t = true) : t.length ≤ 2 := by
  unfold unnamedO at h
  split at h
  · rename_i n h1
    have h2 := List.find?_some h1
    have h3 := List.mem_range.1 (List.mem_of_find?_eq_some h1)
    simp only [decide_eq_true_eq] at h2
    rw [← h2]
    exact numO_short n (by omega)
  · cases h
theorem itemO_short {m : List UInt8} {fs : List Fn} {s : Sy} (hf : fs.length ≤ 48) (h : itemO m fs s = 0) : ItS s.item := by
  unfold itemO at h
  split at h
  · obtain ⟨_, _, _, h2⟩ := right_short h
    obtain ⟨q, hq⟩ := h2 s.item (by simp)
    exact item_short hq
  · rename_i h1
    simp only [ne_eq, not_or, Classical.not_not] at h1
    split at h
    · cases h
    · rename_i h2
      split at h
      · cases h
      · rename_i h3
        have h4 := unnamedO_short hf (by simpa using h3)
        have hc : s.item.cases = [] := List.eq_nil_of_length_eq_zero (by omega)
        refine ⟨by rw [h1.2.1]; decide, by rw [h1.2.2]; simp, fun e => ?_, fun _ => ⟨hc, by omega⟩⟩
        rw [h1.2.1] at e
        exact absurd e (by decide)
theorem symbolO_short {m : List UInt8} {fs : List Fn} {ah : List Sy} {s : Sy} (hf : fs.length ≤ 48) (h : symbolO m fs ah s = 0) : s.mod.length ≤ 24 ∧ ItS s.item := by
  unfold symbolO at h
  split at h
  · cases h
  · rename_i h1
    split at h
    · rename_i h2; exact absurd h h2
    · rename_i h2
      exact ⟨value_len (by simpa using h1), itemO_short hf (Classical.not_not.1 h2)⟩
theorem relocO_short {fs : List Fn} {ns : Int} {prev : Option Rl} {r : Rl} (hn : ns ≤ 96) (hf : fs.length ≤ 48) (hc : ∀ f ∈ fs, f.code.length ≤ 65535) (h : relocO fs ns prev r = 0) : InS r.fn ∧ InS r.place ∧ InS r.sym := by
  unfold relocO at h
  split at h
  · cases h
  · rename_i h1
    simp only [not_or] at h1
    obtain ⟨h2, h3, h4⟩ := h1
    have h2 := in_short h2
    have h3 := in_short h3
    have h4 := in_short h4
    have h5 : codeAt fs r.fn ≤ 65535 := by
      unfold codeAt
      split
      · rename_i f hf2
        have := hc f (List.mem_of_getElem? hf2)
        omega
      · decide
    exact ⟨⟨h2.1, by omega⟩, ⟨h3.1, by omega⟩, ⟨h4.1, by omega⟩⟩
theorem exportO_short {o : Ob} {prev : Option (List UInt8)} {n : List UInt8} (ht : ∀ x ∈ o.types, ItS x) (hg : ∀ x ∈ o.globals, GlS x) (hf : ∀ x ∈ o.funs, FnS x) (h : exportO o prev n = 0) : n.length ≤ 24 := by
  unfold exportO at h
  split at h
  · cases h
  · rename_i h1
    unfold ownO at h1
    split at h1
    · exact absurd rfl h1
    · split at h1
      · rename_i g hgf
        have h2 := List.find?_some hgf
        have h3 := hg g (List.mem_of_find?_eq_some hgf)
        simp only [decide_eq_true_eq] at h2
        rw [← h2]
        exact h3.1
      · split at h1
        · rename_i f hff
          have h2 := List.find?_some hff
          have h3 := hf f (List.mem_of_find?_eq_some hff)
          simp only [decide_eq_true_eq] at h2
          rw [← h2]
          exact h3.name
        · cases hfi : findI o.types n with
          | none => rw [hfi] at h1; exact absurd rfl h1
          | some x =>
            have h2 := find_name hfi
            unfold findI at hfi
            have h3 := ht x (List.mem_of_find?_eq_some hfi)
            rw [← h2]
            exact h3.name
theorem obj_short {o : Ob} (h : (rightO o).1 = 0) : ObS o := by
  obtain ⟨n1, n2, n3, n4, n5, n6, n7⟩ := many_no h
  have hm : valueR o.mod = true := by
    unfold rightO at h
    split at h
    · cases h
    · rename_i h1
      simpa using h1
  have ht : ∀ x ∈ o.types, ItS x := fun x hx => by
    obtain ⟨k, hk, rfl⟩ := List.getElem_of_mem hx
    have := elem_zero h 0 k (by decide) hk
    rw [elemO, List.getElem?_eq_getElem hk] at this
    exact typeO_short this
  have hg : ∀ x ∈ o.globals, GlS x := fun x hx => by
    obtain ⟨k, hk, rfl⟩ := List.getElem_of_mem hx
    have := elem_zero h 2 k (by decide) hk
    rw [elemO, List.getElem?_eq_getElem hk] at this
    exact globalO_short (by omega) this
  have hf : ∀ x ∈ o.funs, FnS x := fun x hx => by
    obtain ⟨k, hk, rfl⟩ := List.getElem_of_mem hx
    have := elem_zero h 3 k (by decide) hk
    rw [elemO, List.getElem?_eq_getElem hk] at this
    exact funO_short this
  refine ⟨value_len hm, ⟨by omega, ht⟩, ⟨by omega, fun x hx => ?_⟩, ⟨by omega, hg⟩, ⟨by omega, hf⟩, ⟨by omega, fun x hx => ?_⟩, ⟨by omega, fun x hx => ?_⟩, ⟨by omega, fun x hx => ?_⟩⟩
  · obtain ⟨k, hk, rfl⟩ := List.getElem_of_mem hx
    have := elem_zero h 1 k (by decide) hk
    rw [elemO, List.getElem?_eq_getElem hk] at this
    exact textO_short this
  · obtain ⟨k, hk, rfl⟩ := List.getElem_of_mem hx
    have := elem_zero h 4 k (by decide) hk
    rw [elemO, List.getElem?_eq_getElem hk] at this
    exact exportO_short ht hg hf this
  · obtain ⟨k, hk, rfl⟩ := List.getElem_of_mem hx
    have := elem_zero h 5 k (by decide) hk
    rw [elemO, List.getElem?_eq_getElem hk] at this
    exact symbolO_short (by omega) this
  · obtain ⟨k, hk, rfl⟩ := List.getElem_of_mem hx
    have := elem_zero h 6 k (by decide) hk
    rw [elemO, List.getElem?_eq_getElem hk] at this
    exact relocO_short (by omega) (by omega) (fun f hf2 => (hf f hf2).code) this
end Go.Proofs.YtfjppbpicmniaaaGreatDoor

namespace Go.Proofs.YtfjppbpicmniaaaGreatDoor

theorem txt_len (l : List Nat) (most p y : Nat) : (txtR l most p y).1.length ≤ most := by
  have h := Wire.rNum_most l p y most
  unfold txtR
  generalize Wire.rNum l p y most = R at *
  obtain ⟨n, q, z⟩ := R
  simp only at h ⊢
  unfold Wire.rTake
  split
  · simp
  · split
    · simp
    · simp only [Int.toNat_natCast, List.length_map]
      exact Nat.le_trans (List.length_take_le _ _) h
theorem listF_all {α : Type} {rd : Nat → Nat → α × Nat × Nat} {P : α → Prop} (hP : ∀ p y, P (rd p y).1) : ∀ (n p y : Nat) (acc : List α), (∀ x ∈ acc, P x) → (∀ x ∈ (listF rd n p y acc).1, P x) ∧ (listF rd n p y acc).1.length ≤ acc.length + n
  | 0, p, y, acc, h => ⟨h, by simp [listF]⟩
  | n + 1, p, y, acc, h => by
    rw [listF]
    split
    · exact ⟨by simp, by simp⟩
    · obtain ⟨h1, h2⟩ := listF_all hP n (rd p y).2.1 (rd p y).2.2 (acc ++ [(rd p y).1]) (fun x hx => by
        rcases List.mem_append.1 hx with hx | hx
        · exact h x hx
        · rw [List.mem_singleton.1 hx]; exact hP p y)
      refine ⟨h1, ?_⟩
      simp only [List.length_append, List.length_cons, List.length_nil] at h2
      omega
theorem list_all {α : Type} {l : List Nat} {rd : Nat → Nat → α × Nat × Nat} {P : α → Prop} (hP : ∀ p y, P (rd p y).1) (p y : Nat) : (∀ x ∈ (listR l rd p y).1, P x) ∧ (listR l rd p y).1.length ≤ 65535 := by
  have h := listF_all hP (Wire.rNum l p y 65535).1 (Wire.rNum l p y 65535).2.1 (Wire.rNum l p y 65535).2.2 [] (by simp)
  have h2 := Wire.rNum_most l p y 65535
  refine ⟨h.1, ?_⟩
  have h3 := h.2
  unfold listR
  simp only [List.length_nil] at h3
  omega
theorem case_ok (l : List Nat) (p y : Nat) : CsOk (caseR l p y).1 := by
  have h1 := txt_len l 24 p y
  obtain ⟨h2, h3⟩ := list_all (l := l) (P := fun f : List UInt8 => f.length ≤ 200) (txt_len l 200) (txtR l 24 p y).2.1 (txtR l 24 p y).2.2
  exact ⟨by unfold Tk; show (txtR l 24 p y).1.length ≤ _; omega, by show (listR l (txtR l 200) _ _).1.length ≤ _; omega, fun f hf => by have := h2 f hf; unfold Tk; omega⟩
theorem item_ok (l : List Nat) (p y : Nat) : ItOk (itemR l p y).1 := by
  have hk := Wire.rNum_most l p y 65535
  unfold itemR itemN
  generalize Wire.rNum l p y 65535 = R at *
  obtain ⟨k, q, z⟩ := R
  simp only at hk ⊢
  have hn := txt_len l 24 q z
  generalize txtR l 24 q z = N at *
  obtain ⟨nm, q2, z2⟩ := N
  simp only at hn ⊢
  unfold itemT
  split
  · obtain ⟨h2, h3⟩ := list_all (l := l) (P := CsOk) (case_ok l) q2 z2
    exact ⟨by simp only; omega, by simp only; omega, by unfold Tk; simp only; omega, by unfold Tk; simp, by simp only; omega, h2⟩
  · have ht := txt_len l 200 q2 z2
    exact ⟨by simp only; omega, by simp only; omega, by unfold Tk; simp only; omega, by unfold Tk; simp only; omega, by simp, by simp⟩
theorem items_ok (l : List Nat) : ∀ x ∈ (itemsR l).1, ItOk x := (list_all (l := l) (P := ItOk) (item_ok l) _ _).1
theorem name_ok (l : List Nat) : Tk (txtR l 24 0 0).1 := by
  have := txt_len l 24 0 0
  unfold Tk
  omega
end Go.Proofs.YtfjppbpicmniaaaGreatDoor

namespace Go.Proofs.YtfjppbpicmniaaaGreatDoor

theorem tk_le {x : List UInt8} (h : x.length ≤ 65535) : Tk x := by unfold Tk; omega
theorem num_i64 (l : List Nat) (p y : Nat) : i64 ((Wire.rNum l p y 65535).1 : Int) := by
  have := Wire.rNum_most l p y 65535
  unfold i64
  omega
theorem gl_ok (l : List Nat) (p y : Nat) : GlOk (glR l p y).1 :=
  ⟨tk_le (Nat.le_trans (txt_len l 24 _ _) (by omega)), tk_le (Nat.le_trans (txt_len l 200 _ _) (by omega)), num_i64 l _ _⟩
theorem tk24 (l : List Nat) (p y : Nat) : Tk (txtR l 24 p y).1 := tk_le (Nat.le_trans (txt_len l 24 _ _) (by omega))
theorem tk200 (l : List Nat) (p y : Nat) : Tk (txtR l 200 p y).1 := tk_le (Nat.le_trans (txt_len l 200 _ _) (by omega))
theorem tks (l : List Nat) (m : Nat) (hm : m ≤ 65535) (p y : Nat) : (listR l (txtR l m) p y).1.length ≤ 8796093022208 ∧ ∀ x ∈ (listR l (txtR l m) p y).1, Tk x := by
  have h := list_all (l := l) (P := fun f : List UInt8 => f.length ≤ m) (txt_len l m) p y
  exact ⟨Nat.le_trans h.2 (by omega), fun x hx => tk_le (Nat.le_trans (h.1 x hx) hm)⟩
theorem cd_le (l : List Nat) (p y : Nat) : (txtR l 65535 p y).1.length ≤ 140737488355328 := Nat.le_trans (txt_len l 65535 _ _) (by omega)
theorem fn_ok (l : List Nat) (p y : Nat) : FnOk (fnR l p y).1 := by
  unfold fnR FnOk
  dsimp only
  refine ⟨?_, ?_, ?_, ?_, ?_, ?_, ?_⟩
  · exact tk24 l _ _
  · exact (tks l 200 (by omega) _ _).1
  · exact (tks l 200 (by omega) _ _).2
  · exact num_i64 l _ _
  · exact tk200 l _ _
  · exact num_i64 l _ _
  · exact cd_le l _ _
theorem sy_ok (l : List Nat) (p y : Nat) : SyOk (syR l p y).1 := ⟨tk_le (Nat.le_trans (txt_len l 24 _ _) (by omega)), item_ok l _ _⟩
theorem rl_ok (l : List Nat) (p y : Nat) : RlOk (rlR l p y).1 := ⟨num_i64 l _ _, num_i64 l _ _, num_i64 l _ _⟩
theorem ls_ok {α : Type} {P : α → Prop} {l : List Nat} {rd : Nat → Nat → α × Nat × Nat} (h : ∀ p y, P (rd p y).1) (p y : Nat) : (listR l rd p y).1.length ≤ 3518437208883 ∧ ∀ x ∈ (listR l rd p y).1, P x := by
  have h := list_all (l := l) (P := P) h p y
  exact ⟨Nat.le_trans h.2 (by omega), h.1⟩
theorem obj_ok (l : List Nat) (p y : Nat) : ObOk (objR l p y).1 := by
  unfold objR
  constructor <;> dsimp only
  · exact tk24 l _ _
  · exact (ls_ok (item_ok l) _ _).1
  · exact (ls_ok (item_ok l) _ _).2
  · exact (tks l 200 (by omega) _ _).1
  · exact (tks l 200 (by omega) _ _).2
  · exact (ls_ok (gl_ok l) _ _).1
  · exact (ls_ok (gl_ok l) _ _).2
  · exact (ls_ok (fn_ok l) _ _).1
  · exact (ls_ok (fn_ok l) _ _).2
  · exact (tks l 24 (by omega) _ _).1
  · exact (tks l 24 (by omega) _ _).2
  · exact (ls_ok (sy_ok l) _ _).1
  · exact (ls_ok (sy_ok l) _ _).2
  · exact Nat.le_trans (ls_ok (rl_ok l) _ _).1 (by omega)
  · exact (ls_ok (rl_ok l) _ _).2
theorem none_ok : ObOk noneO := ⟨by unfold Tk; simp [noneO], by simp [noneO], by simp [noneO], by simp [noneO], by simp [noneO], by simp [noneO], by simp [noneO], by simp [noneO], by simp [noneO], by simp [noneO], by simp [noneO], by simp [noneO], by simp [noneO], by simp [noneO], by simp [noneO]⟩
theorem dec_ok (l : List Nat) : ObOk (decO l).2 := by
  unfold decO
  split
  · exact none_ok
  · split
    · exact none_ok
    · split
      · exact none_ok
      · exact obj_ok l 0 0
/-! Every byte of an object is one. -/
theorem ls_256 {α : Type} {E : α → List Nat} (h : ∀ x, ∀ n ∈ E x, n < 256) (xs : List α) : ∀ n ∈ lsB E xs, n < 256 := by
  intro n hn
  rcases List.mem_append.1 hn with h1 | h1
  · exact Wire.enc_256 _ n h1
  · obtain ⟨x, _, hx⟩ := List.mem_flatMap.1 h1
    exact h x n hx
theorem app_256 {a b : List Nat} (ha : ∀ n ∈ a, n < 256) (hb : ∀ n ∈ b, n < 256) : ∀ n ∈ a ++ b, n < 256 := fun n hn => (List.mem_append.1 hn).elim (ha n) (hb n)
theorem txtB_lt (x : List UInt8) : ∀ n ∈ txtB x, n < 256 := by
  intro n hn
  rcases List.mem_append.1 hn with h | h
  · exact Wire.enc_256 _ n h
  · obtain ⟨c, _, rfl⟩ := List.mem_map.1 h
    exact c.toNat_lt
theorem caseB_lt (c : Cs) : ∀ n ∈ caseB c, n < 256 := by
  unfold caseB
  rw [fieldsB_flat]
  exact app_256 (txtB_lt _) (ls_256 txtB_lt c.2)
theorem itemB_lt (x : It) : ∀ n ∈ itemB x, n < 256 := by
  unfold itemB
  refine app_256 (Wire.enc_256 _) (app_256 (txtB_lt _) ?_)
  split
  · rw [casesB_flat]
    exact ls_256 caseB_lt x.cases
  · exact txtB_lt _
theorem objB_lt (o : Ob) : ∀ n ∈ objB o, n < 256 :=
  app_256 (txtB_lt _) (app_256 (ls_256 itemB_lt _) (app_256 (ls_256 txtB_lt _) (app_256 (ls_256 (fun _ => app_256 (txtB_lt _) (app_256 (txtB_lt _) (Wire.enc_256 _))) _)
    (app_256 (ls_256 (fun _ => app_256 (txtB_lt _) (app_256 (ls_256 txtB_lt _) (app_256 (Wire.enc_256 _) (app_256 (txtB_lt _) (app_256 (Wire.enc_256 _) (txtB_lt _)))))) _)
      (app_256 (ls_256 txtB_lt _) (app_256 (ls_256 (fun _ => app_256 (txtB_lt _) (itemB_lt _)) _) (ls_256 (fun _ => app_256 (Wire.enc_256 _) (app_256 (Wire.enc_256 _) (Wire.enc_256 _))) _)))))))
end Go.Proofs.YtfjppbpicmniaaaGreatDoor
