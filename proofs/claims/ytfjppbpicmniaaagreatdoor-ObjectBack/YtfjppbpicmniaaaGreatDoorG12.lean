/-
  What every text of this seat shares: bytes as cells, the writing of a number (seven bits a byte), what may have turned in memory behind a call, and what a Writer is in memory.
  And: Bytes that came in, as a reader takes them. Nothing of its own. Texts in order, each once, in a list of its own.
-/
import Derived.WalkKit
import Derived.WalkSpells
import Derived.WalkLawsBesides
import Derived.ScopeJumps
import Derived.WalkMore
import Derived.Deep.Upon
import Derived.ProofKit
import Derived.OpenShut
import Derived.SizedLaws
import Derived.ChangeShapes
import Derived.WideShapes
import Derived.Deep.Slices
import Derived.Test.YtfjppbpicmniaaaGreatDoorG10
import Derived.Test.YtfjppbpicmniaaaGreatDoorShelf
import Derived.Test.YtfjppbpicmniaaaGreatDoorG09
namespace Go.Proofs.YtfjppbpicmniaaaGreatDoor.Wire
open Go.RowKit

/-- A scope in which the run jumps back to one label: the way from the label is walked once, also for the first time. -/
theorem wp_scope_via {P : Program} {a : Act} {w : World} {Q : Exit → Act → World → Prop} {c rest : Code} (l : Nat) (J : Act → World → Prop) (m : Act → World → Nat) (hf : findLabel c l = some (Code.skip.seq rest))
    (first : (∀ a w, J a w → rest.wp P (Exit.jump l J Q) a w) → c.wp P (Exit.jump l J Q) a w)
    (pass : ∀ a w, J a w → rest.wp P (Exit.jump l (fun a' w' => J a' w' ∧ m a' w' < m a w) Q) a w) : (Code.scope c).wp P Q a w := by
  refine wp_scope_jumps l J m hf (first fun a w h => ?_) (fun a w h => wp_seq (wp_skip (pass a w h)))
  refine wp_mono (pass a w h) ?_
  intro e a' w' hq
  cases e <;> first | exact hq | exact ⟨hq.1, hq.2.1⟩

/-- Bytes as cells. -/
def bs (l : List Nat) : List Value := l.map fun (x : Nat) => Value.int .u8 (x : Int)

theorem bs_length (l : List Nat) : (bs l).length = l.length := by simp [bs]
theorem bs_append (a b : List Nat) : bs (a ++ b) = bs a ++ bs b := by simp [bs]
theorem bs_one (l : List Nat) : ∀ u ∈ bs l, u.oneCell' = true := by
  intro u hu
  obtain ⟨_, _, rfl⟩ := List.mem_map.1 hu
  rfl

/-- The writing of a number: seven bits a byte, the lowest first; each byte but the last has 128 more. -/
def encF : Nat → Nat → List Nat
  | 0, n => [n]
  | f + 1, n => if 128 ≤ n then (n % 128 + 128) :: encF f (n / 128) else [n]
def enc (n : Nat) : List Nat := encF n n

theorem encF_eq : ∀ (f g n : Nat), n ≤ f → n ≤ g → encF f n = encF g n
  | 0, 0, n, _, _ => rfl
  | 0, g + 1, n, h, _ => by
    obtain rfl : n = 0 := by omega
    rfl
  | f + 1, 0, n, _, h => by
    obtain rfl : n = 0 := by omega
    rfl
  | f + 1, g + 1, n, h1, h2 => by
    rw [encF, encF]
    by_cases h : 128 ≤ n
    · rw [if_pos h, if_pos h, encF_eq f g (n / 128) (by omega) (by omega)]
    · rw [if_neg h, if_neg h]
theorem enc_big {n : Nat} (h : 128 ≤ n) : enc n = (n % 128 + 128) :: enc (n / 128) := by
  obtain ⟨m, rfl⟩ : ∃ m, n = m + 1 := ⟨n - 1, by omega⟩
  rw [enc, encF, if_pos h, enc, encF_eq m ((m + 1) / 128) ((m + 1) / 128) (by omega) (by omega)]
theorem enc_small {n : Nat} (h : n < 128) : enc n = [n] := by
  cases n with
  | zero => rfl
  | succ m => rw [enc, encF, if_neg (by omega)]

theorem enc_pos (n : Nat) : 0 < (enc n).length := by
  by_cases h : 128 ≤ n
  · rw [enc_big h]; simp
  · rw [enc_small (by omega)]; simp
theorem enc_le : ∀ (k n : Nat), n < 128 ^ (k + 1) → (enc n).length ≤ k + 1
  | 0, n, h => by rw [enc_small (by simpa using h)]; simp
  | k + 1, n, h => by
    by_cases h1 : 128 ≤ n
    · rw [enc_big h1]
      have := enc_le k (n / 128) (by rw [Nat.div_lt_iff_lt_mul (by omega)]; rwa [Nat.pow_succ] at h)
      simpa using this
    · rw [enc_small (by omega)]; simp
theorem enc_ten (n : Nat) (h : n < 18446744073709551616) : (enc n).length ≤ 10 := enc_le 9 n (Nat.lt_of_lt_of_le h (by decide))
theorem low_byte (m : Nat) : bits .or .u8 ((m : Int) % 256) 128 = ((m % 128 + 128 : Nat) : Int) := by
  have e : (m : Int) % 256 = ((m % 256 : Nat) : Int) := by omega
  rw [e]
  have h : bits .or .u8 ((m % 256 : Nat) : Int) 128 = ((m % 256 ||| 128 : Nat) : Int) := u8_or_nat (m % 256) 128 (by omega) (by omega)
  rw [h]
  have hj : 128 ||| m % 128 = 128 + m % 128 := nat_join 7 128 (m % 128) (by decide) (by omega)
  have h2 : m % 256 ||| 128 = m % 128 + 128 := by
    rcases (by omega : m % 256 = m % 128 ∨ m % 256 = 128 + m % 128) with e | e
    · rw [e, Nat.or_comm, hj, Nat.add_comm]
    · rw [e, ← hj, Nat.or_comm, ← Nat.or_assoc, Nat.or_self, hj, Nat.add_comm]
  rw [h2]

/-- What may have turned: of the blocks that were there those of S alone. -/
structure Kept (S : Nat → Prop) (w w' : World) : Prop where
  os : w'.os = w.os
  tape : w'.tape = w.tape
  output : w'.output = w.output
  size : w.heap.size ≤ w'.heap.size
  block : ∀ k, k < w.heap.size → ¬ S k → w'.heap[k]? = w.heap[k]?

theorem Kept.refl (S : Nat → Prop) (w : World) : Kept S w w := ⟨rfl, rfl, rfl, Nat.le_refl _, fun _ _ _ => rfl⟩
theorem Kept.trans {S T U : Nat → Prop} {a b c : World} (h : Kept S a b) (k : Kept T b c) (hS : ∀ x, x < a.heap.size → S x → U x) (hT : ∀ x, x < a.heap.size → T x → U x) : Kept U a c :=
  ⟨k.os.trans h.os, k.tape.trans h.tape, k.output.trans h.output, Nat.le_trans h.size k.size, fun i hi hu =>
    (k.block i (Nat.lt_of_lt_of_le hi h.size) (fun e => hu (hT i hi e))).trans (h.block i hi (fun e => hu (hS i hi e)))⟩
theorem Kept.mono {S T : Nat → Prop} {a b : World} (h : Kept S a b) (hS : ∀ x, x < a.heap.size → S x → T x) : Kept T a b :=
  ⟨h.os, h.tape, h.output, h.size, fun i hi hu => h.block i hi (fun e => hu (hS i hi e))⟩
theorem Kept.alloc {S : Nat → Prop} {a w : World} (h : Kept S a w) (o : Obj) : Kept S a (w.alloc o) :=
  h.trans (T := S) ⟨rfl, rfl, rfl, by simp, fun k hk _ => Below.heap_alloc _ _ _ hk⟩ (fun _ _ h => h) (fun _ _ h => h)
theorem Kept.drew {S : Nat → Prop} {a w : World} (h : Kept S a w) : Kept S a w.drew := ⟨h.os, h.tape, h.output, h.size, h.block⟩
theorem Kept.setCell {S : Nat → Prop} {a w : World} (h : Kept S a w) {p : Addr} (hp : p.block < a.heap.size → S p.block) (u : Value) : Kept S a (w.setCell p u) :=
  ⟨h.os, h.tape, h.output, by simpa [World.setCell] using h.size, fun k hk hs => (Below.heap_setCell _ _ _ _ (fun e => by subst e; exact hs (hp hk))).trans (h.block k hk hs)⟩
theorem Kept.grown {S : Nat → Prop} {a w w' : World} {row : Option Nat} (h : Kept S a w) (hg : w.grownBy w' row) (hr : ∀ k, row = some k → k < a.heap.size → S k) : Kept S a w' :=
  ⟨hg.os.trans h.os, hg.tape.trans h.tape, hg.output.trans h.output, Nat.le_trans h.size hg.size, fun k hk hs =>
    (hg.block k (Nat.lt_of_lt_of_le hk h.size) (fun e => hs (hr k e.symm hk))).trans (h.block k hk hs)⟩
theorem Kept.below {S : Nat → Prop} {a w : World} {B : Nat} (h : Kept S a w) (hB : B ≤ a.heap.size) (hS : ∀ x, x < B → ¬ S x) : Below B a w :=
  ⟨h.os, h.tape, h.output, h.size, fun k hk => h.block k (by omega) (hS k hk)⟩
theorem Kept.cell {S : Nat → Prop} {a w : World} (h : Kept S a w) {p : Addr} {v : Value} (hc : a.cell? p = some v) (hp : ¬ S p.block) : w.cell? p = some v :=
  (World.cell?_of_block (h.block p.block (World.block_lt_of_cell? a p hc) hp)).trans hc

/-- One cell in a block of its own, not frozen. -/
def Box (w : World) (b : Nat) (cs : Array Value) : Prop := ∃ t, w.heap[b]? = some (.cells cs t (0, 0))

theorem Box.lt {w : World} {b : Nat} {cs : Array Value} (h : Box w b cs) : b < w.heap.size := by
  obtain ⟨t, h⟩ := h
  exact (Array.getElem?_eq_some_iff.1 h).1
theorem Box.cell {w : World} {b : Nat} {cs : Array Value} (h : Box w b cs) (i : Nat) : w.cell? ⟨b, i, none⟩ = cs[i]? := by
  obtain ⟨t, h⟩ := h
  simp [World.cell?, h]
theorem Box.frozen {w : World} {b : Nat} {cs : Array Value} (h : Box w b cs) (i : Nat) : w.frozen? ⟨b, i, none⟩ = false := by
  obtain ⟨t, h⟩ := h
  simp [World.frozen?, h]
theorem Box.of_block {w w' : World} {b : Nat} {cs : Array Value} (h : Box w b cs) (e : w'.heap[b]? = w.heap[b]?) : Box w' b cs := by
  obtain ⟨t, h⟩ := h
  exact ⟨t, e.trans h⟩
theorem Box.kept {S : Nat → Prop} {w w' : World} {b : Nat} {cs : Array Value} (h : Box w b cs) (k : Kept S w w') (hb : ¬ S b) : Box w' b cs := h.of_block (k.block b h.lt hb)
theorem Box.alloc {w : World} {b : Nat} {cs : Array Value} (h : Box w b cs) (o : Obj) : Box (w.alloc o) b cs := h.of_block (Below.heap_alloc _ _ _ h.lt)
theorem Box.set {w : World} {b : Nat} {cs : Array Value} (h : Box w b cs) (i : Nat) (v : Value) : Box (w.setCell ⟨b, i, none⟩ v) b (cs.setIfInBounds i v) := by
  obtain ⟨t, h⟩ := h
  exact ⟨t, by simp [World.setCell, Array.getElem?_modify, h]⟩
theorem Box.other {w : World} {b : Nat} {cs : Array Value} (h : Box w b cs) {p : Addr} (hp : b ≠ p.block) (v : Value) : Box (w.setCell p v) b cs :=
  h.of_block (Below.heap_setCell _ _ _ _ hp)

/-- A row of bytes of the call's own: the slice 'v', its array (if there is one) in block g. -/
def Row (w : World) (g : Nat) (v : Value) (l : List Nat) : Prop := w.ownsRow 0 5 1 v l.length (bs l) ∧ (v.ownBlock = none ∨ v.ownBlock = some g)

theorem Row.nil (w : World) (g : Nat) : Row w g (.slice none 0 0) [] := ⟨World.ownsRow_nil w 0 5 1, Or.inl rfl⟩
theorem Row.alloc {w : World} {g : Nat} {v : Value} {l : List Nat} (h : Row w g v l) (o : Obj) : Row (w.alloc o) g v l := ⟨h.1.alloc o, h.2⟩
theorem Row.kept {S : Nat → Prop} {w w' : World} {g : Nat} {v : Value} {l : List Nat} (h : Row w g v l) (k : Kept S w w') (hg : v.ownBlock = some g → ¬ S g) : Row w' g v l := by
  refine ⟨⟨h.1.1, ?_⟩, h.2⟩
  rcases h.1.2 with hn | ⟨g', cap, cur, rfl, hb, hgg, rest⟩
  · exact .inl hn
  · have e : g' = g := by
      rcases h.2 with e | e
      · simp [Value.ownBlock] at e
      · simpa [Value.ownBlock] using e
    subst e
    exact .inr ⟨g', cap, cur, rfl, hb, (k.block g' (Array.getElem?_eq_some_iff.1 hgg).1 (hg rfl)).trans hgg, rest⟩
theorem Row.shape {w : World} {g : Nat} {v : Value} {l : List Nat} (h : Row w g v l) : (v = .slice none 0 0 ∧ l = []) ∨ ∃ cap, v = .slice (some ⟨g, 0, none⟩) l.length cap ∧ l.length ≤ cap ∧ cap ≤ maxLen := by
  rcases h.1.2 with ⟨hn, h0⟩ | ⟨g', cap, cur, rfl, hb, hgg, rest⟩
  · exact .inl ⟨hn, List.eq_nil_of_length_eq_zero h0⟩
  · have e : g' = g := by
      rcases h.2 with e | e
      · simp [Value.ownBlock] at e
      · simpa [Value.ownBlock] using e
    subst e
    exact .inr ⟨cap, rfl, rest.1, rest.2.1⟩
theorem Row.lt {w : World} {g k : Nat} {v : Value} {l : List Nat} (h : Row w g v l) (hk : v.ownBlock = some k) : k < w.heap.size := (h.1.lt k hk).2
theorem Row.cell {w : World} {g cap : Nat} {l : List Nat} (h : Row w g (.slice (some ⟨g, 0, none⟩) l.length cap) l) (j : Nat) (hj : j < l.length) : w.cell? ⟨g, j, none⟩ = some (.int .u8 ((l.getD j 0 : Nat) : Int)) := by
  rw [h.1.cellAt j (by omega)]
  simp [bs, hj]

theorem setCells_heap (e : TypeId) (fr : Nat × Nat) (g : Nat) : ∀ (vs : List Value) (o : Nat) (w : World) (cur : Array Value), w.heap[g]? = some (.cells cur e fr) → o + vs.length ≤ cur.size →
    (w.setCells g o vs).heap[g]? = some (.cells (cur.toList.take o ++ vs ++ cur.toList.drop (o + vs.length)).toArray e fr)
  | [], o, w, cur, h, hl => by
    simp [World.setCells, h]
  | v :: r, o, w, cur, h, hl => by
    simp only [World.setCells]
    have h1 : (w.setCell ⟨g, o, none⟩ v).heap[g]? = some (.cells (cur.setIfInBounds o v) e fr) := by simp [World.setCell, Array.getElem?_modify, h]
    rw [setCells_heap e fr g r (o + 1) _ _ h1 (by simp at hl ⊢; omega)]
    congr 3
    simp only [Array.toList_setIfInBounds, List.length_cons] at hl ⊢
    rw [List.take_set, List.drop_set_of_lt (by omega), List.take_succ_eq_append_getElem (by simp; omega), List.set_append_right _ _ (by simp; omega)]
    simp [Nat.min_eq_left (show o ≤ cur.size by omega), Nat.add_comm, Nat.add_left_comm]

/-- append onto a row of the call's own, of whatever source. -/
theorem run_append_row {P : Program} (w : World) (t tx ty : TypeId) (ht : P.underlying t = some (.slice 5)) (hinfo : (P.info? 5).map (fun i => (i.zero, i.size, i.bytes)) = some (some (.int .u8 0), 1, 1))
    {g : Nat} {v : Value} {l : List Nat} (hv : Row w g v l) {x : Value} {m : Nat} {news : List Nat} (hs : Src P 1 tx x m (bs news) w) (hlen : l.length + news.length ≤ 140737488355328) :
    ∃ v' w', (Builtin.append_ #[t, tx] ty #[v, x]).run P w = .ok v' w' ∧ w'.ownsRow 0 5 1 v' (l ++ news).length (bs (l ++ news)) ∧ (v'.ownBlock = v.ownBlock ∨ v'.ownBlock = some w.heap.size) ∧ w.grownBy w' v.ownBlock ∧ (v' = .slice none 0 0 ↔ v = .slice none 0 0 ∧ news = []) := by
  obtain ⟨i, hi, hz0, hz1, hz2⟩ := info_parts hinfo
  have hm : m = news.length := by have := hs.newsLen; rw [bs_length] at this; omega
  subst hm
  have hll : (bs (l ++ news)).length = (l ++ news).length * 1 := by rw [bs_length]; omega
  have grown : ∀ (ao : Option Addr) (old : Nat), old < l.length + news.length → (Builtin.firstCells i.size l.length (.slice ao l.length old)).run P w.drew = .ok (bs l).toArray w.drew →
      ∃ v' w', (Builtin.append_ #[t, tx] ty #[.slice ao l.length old, x]).run P w = .ok v' w' ∧ w'.ownsRow 0 5 1 v' (l ++ news).length (bs (l ++ news)) ∧ v'.ownBlock = some w.heap.size ∧ w.grownBy w' none ∧ v' ≠ .slice none 0 0 := by
    intro ao old ho hold
    have hr := run_append_grow_src (P := P) w t tx ty 5 i (.int .u8 0) ht hi hz0 ao l.length old (bs l) hold x news.length (bs news) (by rw [hz1]; exact hs) ho (by omega) (growslice_fits ho (by rw [hz2]; omega))
    refine ⟨_, _, hr, ⟨hll, .inr ⟨w.heap.size, _, _, by rw [List.length_append], Nat.zero_le _, heap_alloc_new w.drew _, by rw [List.length_append]; exact grownCap_ge w _ old 5, grownCap_le_maxLen w _ old 5 (by unfold maxLen; omega), ?_, ?_⟩⟩, rfl, ⟨rfl, rfl, rfl, by simp, fun k hk _ => Below.heap_alloc w.drew _ k hk⟩, by simp⟩
    · have hge := grownCap_ge w (l.length + news.length) old 5
      simp [size_zeroCells, bs_length, Value.cells]
      omega
    · simp only [Array.toList_append]
      rw [← bs_append, ← hll]
      exact List.take_left
  rcases hv.1.2 with ⟨rfl, hn⟩ | ⟨g', cap, cur, rfl, hb, hg, hnc, hcm, hcs, htake⟩
  · have hl0 : l = [] := List.eq_nil_of_length_eq_zero hn
    subst hl0
    by_cases h0 : news = []
    · subst h0
      refine ⟨.slice none 0 0, w, run_append_nothing w t tx ty 5 i ht hi none 0 0 (Nat.le_refl _) x (by rw [hz1]; exact hs), hv.1, Or.inl rfl, ⟨rfl, rfl, rfl, Nat.le_refl _, fun _ _ _ => rfl⟩, by simp⟩
    · have hp : 0 < news.length := List.length_pos_iff.2 h0
      obtain ⟨v', w', h1, h2, h3, h4, h5⟩ := grown none 0 (by simpa using hp) (by simp [bs, Builtin.firstCells])
      exact ⟨v', w', h1, h2, Or.inr h3, h4, by simp [h5, h0]⟩
  · by_cases hroom : l.length + news.length ≤ cap
    · have hr := run_append_room_src (P := P) w t tx ty 5 i ht hi g' 0 l.length cap x news.length (bs news) (by rw [hz1]; exact hs) hroom
        (by
          intro j hj
          rw [bs_length] at hj
          rw [hz1, cell_of_row w g' _ cur 5 (0, 0) hg, Array.getElem?_eq_getElem (by omega)]
          rfl)
        (by intro j hj; exact frozen_of_row w g' _ cur 5 hg)
      have hh := setCells_heap 5 (0, 0) g' (bs news) (0 + l.length * i.size) w cur hg (by rw [hz1, bs_length]; omega)
      refine ⟨_, _, hr, ⟨hll, .inr ⟨g', cap, _, by rw [List.length_append], Nat.zero_le _, hh, by rw [List.length_append]; exact hroom, hcm, ?_, ?_⟩⟩, Or.inl rfl, ?_, by simp⟩
      · simp [hz1, bs_length]; omega
      · simp only [hz1, Nat.zero_add]
        rw [htake, ← bs_append, ← hll]
        exact List.take_left
      · exact ⟨World.os_setCells _ _ _ _, by
          have : ∀ (vs : List Value) (o : Nat) (w : World), (w.setCells g' o vs).tape = w.tape := by
            intro vs
            induction vs with
            | nil => intro o w; rfl
            | cons a r ih => intro o w; rw [World.setCells, ih]; rfl
          exact this _ _ _, World.output_setCells _ _ _ _, by
          have : ∀ (vs : List Value) (o : Nat) (w : World), (w.setCells g' o vs).heap.size = w.heap.size := by
            intro vs
            induction vs with
            | nil => intro o w; rfl
            | cons a r ih => intro o w; rw [World.setCells, ih]; simp [World.setCell]
          rw [this]; exact Nat.le_refl _, fun k hk hne => World.heap_setCells_other _ _ _ _ hk (fun e => hne (by rw [e]; rfl))⟩
    · obtain ⟨v', w', h1, h2, h3, h4, h5⟩ := grown (some ⟨g', 0, none⟩) cap (by omega) (by
        rw [hz1]
        refine run_firstCells_some w.drew 1 l.length ⟨g', 0, none⟩ l.length cap (bs l) (by rw [bs_length]; omega) ?_
        intro j u hu
        have := hv.1.cells (g := g') rfl j u hu
        simpa using this)
      exact ⟨v', w', h1, h2, Or.inr h3, ⟨h4.os, h4.tape, h4.output, h4.size, fun k hk _ => h4.block k hk (by simp)⟩, by simp [h5]⟩

/-- The same at the operation, for the walk. -/
theorem wpList_append_row {P : Program} (w : World) {ops : Array Oper} {rest : List Oper} {o : Oper} {a : Act} {Q : Exit → Act → World → Prop} (hgd : o.guard = none) (s x : Operand) (t tx : TypeId)
    (ho : o.op = .call { callee := .builtin .append, args := #[s, x], argTypes := #[t, tx] }) (ht : P.underlying t = some (.slice 5)) (hinfo : (P.info? 5).map (fun i => (i.zero, i.size, i.bytes)) = some (some (.int .u8 0), 1, 1))
    (v : Value) (g : Nat) (l : List Nat) (hs : a.eval s = v) (hv : Row w g v l) (xv : Value) (m : Nat) (news : List Nat) (hx : a.eval x = xv) (hsrc : Src P 1 tx xv m (bs news) w) (hlen : l.length + news.length ≤ 140737488355328)
    (h : ∀ v' w' g', Row w' g' v' (l ++ news) → (g' = g ∨ g' < w'.heap.size ∧ w.heap.size ≤ g') → (v'.ownBlock = v.ownBlock ∨ v'.ownBlock = some w.heap.size) → w.grownBy w' v.ownBlock → (v' = .slice none 0 0 ↔ v = .slice none 0 0 ∧ news = []) → wpList P ops Q rest (a.put o.dst v') w') :
    wpList P ops Q (o :: rest) a w := by
  refine wpList_plain hgd fun K hK => ?_
  obtain ⟨v', w', hr, h2, h3, h4, h5⟩ := run_append_row (P := P) w t tx o.type ht hinfo hv hsrc hlen
  unfold Oper.wp execOp
  simp only [ho, resolve, invoke, builtin, Sem.run_bind, Sem.run_pure, Result.andThen_ok, List.map_toArray, List.map_cons, List.map_nil, hs, hx, hr]
  rcases h3 with e | e
  · exact hK _ _ (h v' w' g ⟨h2, by rw [e]; exact hv.2⟩ (Or.inl rfl) (Or.inl e) h4 h5)
  · exact hK _ _ (h v' w' w.heap.size ⟨h2, Or.inr e⟩ (Or.inr ⟨(h2.lt _ e).2, Nat.le_refl _⟩) (Or.inr e) h4 h5)

/-- Bytes that can be read behind a slice, whatever array (in block b) they lie in. -/
def Rd (w : World) (b : Nat) (v : Value) (l : List Nat) : Prop :=
  (v = .slice none 0 0 ∧ l = []) ∨ ∃ a cap, v = .slice (some a) l.length cap ∧ a.block = b ∧ ∀ j u, (bs l)[j]? = some u → w.cell? (a.add j) = some u

theorem Rd.kept {S : Nat → Prop} {w w' : World} {b : Nat} {v : Value} {l : List Nat} (h : Rd w b v l) (k : Kept S w w') (hb : ¬ S b) : Rd w' b v l := by
  rcases h with h | ⟨a, cap, h1, h2, h3⟩
  · exact .inl h
  · refine .inr ⟨a, cap, h1, h2, fun j u hu => ?_⟩
    have hc := h3 j u hu
    exact k.cell hc (by have e : (a.add j).block = a.block := by { unfold Addr.add; split <;> rfl }
                        rw [e, h2]; exact hb)
theorem Rd.alloc {w : World} {b : Nat} {v : Value} {l : List Nat} (h : Rd w b v l) (o : Obj) : Rd (w.alloc o) b v l := h.kept ((Kept.refl (fun _ => False) w).alloc o) (fun h => h)
theorem Rd.src {P : Program} {w : World} {b : Nat} {v : Value} {l : List Nat} (h : Rd w b v l) {t e : TypeId} (ht : P.underlying t = some (.slice e)) : Src P 1 t v l.length (bs l) w := by
  rcases h with ⟨rfl, rfl⟩ | ⟨a, cap, rfl, h2, h3⟩
  · exact Src.ofNil w ht 0
  · exact Src.ofSlice w ht a _ cap _ (by rw [bs_length]; omega) h3 (bs_one l)
theorem Row.rd {w : World} {g : Nat} {v : Value} {l : List Nat} (h : Row w g v l) : Rd w g v l := by
  rcases h.shape with h1 | ⟨cap, rfl, _⟩
  · exact .inl h1
  · exact .inr ⟨⟨g, 0, none⟩, cap, rfl, rfl, fun j u hu => h.1.cells (g := g) rfl j u hu⟩
theorem Rd.shape {w : World} {b : Nat} {v : Value} {l : List Nat} (h : Rd w b v l) : ∃ a cap, v = .slice a l.length cap := by
  rcases h with ⟨rfl, rfl⟩ | ⟨a, cap, rfl, _⟩
  · exact ⟨none, 0, rfl⟩
  · exact ⟨some a, cap, rfl⟩
/-- The row that a literal lays. -/
theorem Row.lit (w : World) (l : List Nat) (h : l.length ≤ maxLen) : Row (w.alloc (.cells (bs l).toArray 5)) w.heap.size (.slice (some ⟨w.heap.size, 0, none⟩) l.length l.length) l :=
  ⟨World.ownsRow_lit (base := 0) w (bs l).toArray l.length (Nat.zero_le _) h (by simp [bs_length]), Or.inr rfl⟩

/-- A number with a sign as one without. -/
def zig (n : Int) : Nat := if n < 0 then (-2 * n - 1).toNat else (2 * n).toNat

theorem i64_not_neg (n : Int) (h0 : -9223372036854775808 ≤ n) (h1 : n < 0) : bits .xor .i64 (-1) n = -1 - n := by
  have e : (BitVec.ofInt 64 (-1) ^^^ BitVec.ofInt 64 n).toNat = (-1 - n).toNat := by
    have e1 : BitVec.ofInt 64 (-1) = BitVec.allOnes 64 := by decide
    rw [e1, BitVec.allOnes_xor, BitVec.toNat_not, BitVec.toNat_ofInt]
    have e2 : n % ((2 ^ 64 : Nat) : Int) = n + 18446744073709551616 := by
      have : ((2 ^ 64 : Nat) : Int) = 18446744073709551616 := by decide
      rw [this]; omega
    rw [e2]
    omega
  show IntKind.i64.wrap ((BitVec.ofInt 64 (-1) ^^^ BitVec.ofInt 64 n).toNat : Int) = _
  rw [e, IntKind.wrap_i64]
  omega
theorem zig_neg (n : Int) (h0 : -9223372036854775808 ≤ n) (h1 : n < 0) : bits .or .u64 (IntKind.u64.wrap (IntKind.u64.wrap (bits .xor .i64 (-1) n) * 2)) 1 = (zig n : Int) := by
  rw [i64_not_neg n h0 h1, IntKind.wrap_u64, IntKind.wrap_u64]
  have e : (-1 - n) % 18446744073709551616 * 2 % 18446744073709551616 = (((-1 - n) * 2).toNat : Int) := by omega
  rw [e]
  have h : bits .or .u64 (((-1 - n) * 2).toNat : Int) 1 = ((((-1 - n) * 2).toNat ||| 1 : Nat) : Int) := u64_or_nat _ 1 (by omega) (by omega)
  rw [h, nat_join 1 _ 1 (by omega) (by omega), zig, if_pos h1]
  omega

/-- A Writer in block b that has written the bytes l, which lie (once there are some) in block g. -/
def WIs (w : World) (b g : Nat) (l : List Nat) : Prop := ∃ v, Box w b #[v] ∧ Row w g v l ∧ v.ownBlock ≠ some b ∧ g < w.heap.size

theorem set_size {w : World} {g : Nat} (h : g < w.heap.size) (a : Addr) (u : Value) : g < (w.setCell a u).heap.size := by simpa [World.setCell] using h

theorem WIs.kept {S : Nat → Prop} {w w' : World} {b g : Nat} {l : List Nat} (h : WIs w b g l) (k : Kept S w w') (hb : ¬ S b) (hg : ¬ S g) : WIs w' b g l := by
  obtain ⟨v, h1, h2, h3, h4⟩ := h
  exact ⟨v, h1.kept k hb, h2.kept k (fun _ => hg), h3, Nat.lt_of_lt_of_le h4 k.size⟩
theorem WIs.gt {w : World} {b g : Nat} {l : List Nat} (h : WIs w b g l) : g < w.heap.size := by
  obtain ⟨v, _, _, _, h1⟩ := h
  exact h1
/-- One append to what a Writer has written, and its store. -/
theorem WIs.step {w w' w1 : World} {b g g' g1 : Nat} {v v' : Value} {l' l2 : List Nat} (hb : Box w' b #[v]) (hv : Row w' g' v l') (hvb : v.ownBlock ≠ some b) (hgs : g' < w'.heap.size) (hgr : w'.grownBy w1 v.ownBlock) (hv' : Row w1 g1 v' l2)
    (hat : v'.ownBlock = v.ownBlock ∨ v'.ownBlock = some w'.heap.size) (hg1 : g1 = g' ∨ g1 < w1.heap.size ∧ w'.heap.size ≤ g1) (hg : g' = g ∨ w.heap.size ≤ g') (hk : Kept (fun k => k = b ∨ k = g) w w') :
    Box w1 b #[v] ∧ WIs (w1.setCell ⟨b, 0, none⟩ v') b g1 l2 ∧ (g1 = g ∨ w.heap.size ≤ g1) ∧ Kept (fun k => k = b ∨ k = g) w (w1.setCell ⟨b, 0, none⟩ v') := by
  have hlt := hb.lt
  have hsz := hk.size
  have hb1 : Box w1 b #[v] := hb.of_block (hgr.block b hlt (fun e => hvb e.symm))
  have hne : v'.ownBlock ≠ some b := by
    rcases hat with e | e
    · rw [e]; exact hvb
    · rw [e]; simp; omega
  have hgz := hgr.size
  refine ⟨hb1, ⟨v', ?_, ?_, hne, set_size (by omega) _ _⟩, by omega, ?_⟩
  · exact hb1.set 0 v'
  · exact hv'.kept (S := fun k => k = b) ((Kept.refl (fun k => k = b) w1).setCell (p := ⟨b, 0, none⟩) (fun _ => rfl) v') (fun e h => by subst h; exact hne e)
  · refine Kept.setCell (hk.grown hgr ?_) (fun _ => Or.inl rfl) _
    intro k e hkw
    rcases hv.2 with h | h
    · rw [h] at e; simp at e
    · rw [h] at e; simp at e; subst e; right; omega
theorem WIs.lt {w : World} {b g : Nat} {l : List Nat} (h : WIs w b g l) : b < w.heap.size := by
  obtain ⟨v, h1, _⟩ := h
  exact h1.lt

end Go.Proofs.YtfjppbpicmniaaaGreatDoor.Wire

namespace Go.Proofs.YtfjppbpicmniaaaGreatDoor
open Go.ChangeShapes Go.WideShapes Go.ChangeAt Go.RowKit Go.Deep

set_option maxRecDepth 100000 in
theorem bytesW {H : Type} {enc : TypeId × Value → H} {W : World} {fuel : Nat} {a0 : Option Addr} {len0 cap0 : Nat} {x : DataW H × List MemPlace} (hf : DataW.trod enc Tryz.prog W 0 (fun _ => true) true fuel 42 (Value.slice a0 len0 cap0).cells.toList = some x) (hw : WOk 42 x.1) :
    ∃ b0 l, Wire.Rd W b0 (.slice a0 len0 cap0) l ∧ (∀ y ∈ l, y < 256) ∧ l.length ≤ 140737488355328 := by
  rcases open_ints Tryz.underlying42 Tryz.underlying5 (by kernel_rfl) hf with ⟨hcs, hx⟩ | ⟨a, ln, c, zs, hcs, _, hl, hm, hz, hx, hcell, hwz⟩
  · simp [Value.cells] at hcs
    obtain ⟨rfl, rfl, rfl⟩ := hcs
    exact ⟨0, [], .inl ⟨rfl, rfl⟩, by simp, by simp⟩
  · simp [Value.cells] at hcs
    obtain ⟨rfl, rfl, rfl⟩ := hcs
    simp at hz
    have hwf : ∀ z ∈ zs, 0 ≤ z ∧ z ≤ 255 := fun z hz => bounds_u8 (hwz z hz)
    rw [hx] at hw
    obtain ⟨w1, w2⟩ := w_slice Tryz.underlying42 hw
    have hbytes : len0 ≤ 140737488355328 := by
      have hb : Tryz.prog.bytesOf 5 = 1 := by kernel_rfl
      rw [hb, reach_is] at w1
      simp only [lits, List.length_map, List.length_take, List.length_drop] at w1
      omega
    refine ⟨a.block, (zs.take len0).map Int.toNat, ?_, ?_, by simp; omega⟩
    · right
      refine ⟨a, cap0, by simp; omega, rfl, fun j u hu => ?_⟩
      have hj : j < len0 := by
        have := (List.getElem?_eq_some_iff.1 hu).1
        rw [Wire.bs_length] at this
        simp at this
        omega
      rw [hcell j (by omega)]
      rw [Wire.bs, List.getElem?_map, List.getElem?_map, List.getElem?_take, if_pos hj, List.getElem?_eq_getElem (show j < zs.length by omega)] at hu
      rw [← hu]
      have hw := hwf zs[j] (List.getElem_mem (show j < zs.length by omega))
      simp [List.getD, show j < zs.length by omega]
      omega
    · intro y hy
      obtain ⟨z, hz1, rfl⟩ := List.mem_map.1 hy
      have := hwf z (List.mem_of_mem_take hz1)
      omega
end Go.Proofs.YtfjppbpicmniaaaGreatDoor



namespace Go.Proofs.YtfjppbpicmniaaaGreatDoor
open Go.RowKit Go.Sort

theorem sCloneT (x : List UInt8) (w : World) (h : Tk x) : Calls Tryz.prog 47 #[.string (str x)] w fun e w' => e = .returned (.string (str x)) ∧ Below w.heap.size w w' := by
  unfold Tk at h
  go_enter Tryz.func47, Tryz.ntmps47
  go_wp2_with fail
  refine (Tryz.stringslite_Clone (str x) _ (by rw [str_size]; omega)).mono ?_
  rintro e w1 ⟨rfl, hb⟩
  go_wp2
  go_ret
  exact ⟨rfl, hb⟩
/-- Texts in a row of the call's own, as sorting wants them. -/
def RowO (B : Nat) (w : World) (v : Value) (acc : List (List UInt8)) : Prop :=
  (acc = [] ∧ v = .slice none 0 0) ∨ ∃ g cap, v = .slice (some ⟨g, 0, none⟩) acc.length cap ∧ B ≤ g ∧ g < w.heap.size ∧ acc.length ≤ cap ∧ Holds encStr w g 0 acc.toArray
theorem rowO_own {w : World} {B e : Nat} {v : Value} {xs : List (List UInt8)} (h : w.ownsRow B e 1 v xs.length (sc xs)) : RowO B w v xs := by
  rcases h.2 with ⟨rfl, hn⟩ | ⟨g, cap, cur, rfl, hb, hg, h1, _⟩
  · exact .inl ⟨List.eq_nil_of_length_eq_zero hn, rfl⟩
  · refine .inr ⟨g, cap, rfl, hb, (Array.getElem?_eq_some_iff.1 hg).1, h1, fun j hj => ⟨?_, ?_⟩⟩
    · simp only [List.size_toArray] at hj
      rw [Nat.zero_add, h.cellAt j (by omega)]
      simp [sc, encStr, str, hj]
    · rw [Nat.zero_add]
      exact h.frozenAt j
theorem keptO_put (w : World) (n g : Nat) (d : Array (List UInt8)) : Kept (fun k => k = g) w (putRow encStr (Sort.ahead w n) g 0 d) := by
  refine ⟨rfl, rfl, rfl, by simp, fun k hk hn => ?_⟩
  simp only [putRow, mapBlock, heap_ahead, Array.getElem?_modify]
  rw [if_neg (fun e => hn e.symm)]
theorem keptO_grow {S : Nat → Prop} {w w1 : World} (h : Kept S w w1) (os : Array Obj) : Kept S w (grow w1 os) := by
  refine ⟨h.os, h.tape, h.output, by have := h.size; simp; omega, fun k hk hn => ?_⟩
  rw [heap_grow_old _ _ (Nat.lt_of_lt_of_le hk h.size)]
  exact h.block k hk hn
theorem sortO (B : Nat) (w : World) (v : Value) (acc : List (List UInt8)) (h : RowO B w v acc) (hn : acc.length ≤ 4611686018427387903) :
    Calls Tryz.prog 48 #[v] w fun e w' => e = .returned (.tuple #[]) ∧ RowO B w' v (sortR acc) ∧ Below B w w' := by
  rcases h with ⟨rfl, rfl⟩ | ⟨g, cap, rfl, hB, hg, hc, hH⟩
  · refine (Tryz.slices_Sort_string_none none 0 w).mono ?_
    rintro e w1 ⟨rfl, rfl⟩
    exact ⟨rfl, .inl ⟨by simp [sortR], rfl⟩, Below.refl _ _⟩
  · refine (Tryz.slices_Sort_string g 0 cap acc w hH hg (by omega)).mono ?_
    rintro e w1 ⟨rfl, n, os, rfl⟩
    have hk := keptO_grow (keptO_put w n g (sortR acc).toArray) os
    refine ⟨rfl, .inr ⟨g, cap, by rw [sortR_length], hB, Nat.lt_of_lt_of_le hg hk.size, by rw [sortR_length]; exact hc, ?_⟩, hk.below (by omega) (fun k hk' e => by omega)⟩
    refine holds_grow _ _ _ _ _ _ (by simpa using hg) (holds_putRow _ _ _ _ acc.toArray _ (holds_ahead _ _ _ _ _ _ hH) (by simp))
theorem compactO_len (zs : List (List UInt8)) : (Lib.compact zs).length ≤ zs.length := by
  rw [Lib.compact, Lib.compactUpTo, List.length_map]
  have := List.length_filter_le (Lib.keeps zs.toArray) (List.range zs.length)
  rwa [List.length_range] at this
theorem compactO (B : Nat) (w : World) (v : Value) (acc : List (List UInt8)) (h : RowO B w v acc) (hn : acc.length ≤ 4611686018427387903) :
    Calls Tryz.prog 49 #[v] w fun e w' => ∃ v', e = .returned v' ∧ StrRow w' v' (Lib.compact acc) ∧ Below B w w' := by
  rcases h with ⟨rfl, rfl⟩ | ⟨g, cap, rfl, hB, hg, hc, hH⟩
  · refine (Tryz.slices_Compact_string_empty none 0 w).mono ?_
    rintro e w1 ⟨rfl, rfl⟩
    exact ⟨_, rfl, .inl ⟨by simp [Lib.compact, Lib.compactUpTo], none, 0, rfl⟩, Below.refl _ _⟩
  · refine (Tryz.slices_Compact_string g 0 cap acc w hH (by omega) hc).mono ?_
    rintro e w1 ⟨rfl, q, rfl⟩
    have hl := compactO_len acc
    have hk := keptO_put w q g (Lib.compact acc ++ List.replicate (acc.length - (Lib.compact acc).length) []).toArray
    have hz : (Lib.compact acc ++ List.replicate (acc.length - (Lib.compact acc).length) ([] : List UInt8)).toArray.size = acc.toArray.size := by simp; omega
    have hh := holds_putRow encStr (Sort.ahead w q) g 0 acc.toArray (Lib.compact acc ++ List.replicate (acc.length - (Lib.compact acc).length) []).toArray (holds_ahead _ _ _ _ _ _ hH) hz
    refine ⟨_, rfl, .inr ⟨g, 0, cap, rfl, Nat.lt_of_lt_of_le hg hk.size, Nat.le_trans hl hc, fun j x hj => ?_⟩, hk.below (by omega) (fun k hk' e => by omega)⟩
    have hlt := (List.getElem?_eq_some_iff.1 hj).1
    have := (hh j (by simp; omega)).1
    rw [this]
    have e : (Lib.compact acc ++ List.replicate (acc.length - (Lib.compact acc).length) ([] : List UInt8)).toArray[j]! = x := by
      rw [getElem!_def, List.getElem?_toArray, List.getElem?_append_left hlt, hj]
    rw [e]
    rfl
theorem onceR_is (xs : List (List UInt8)) : onceR xs = Lib.compact (sortR xs) := rfl
end Go.Proofs.YtfjppbpicmniaaaGreatDoor
