/-
  Trees as the statements' 'made' makes them: what holds of each; rows of numbers and of texts that came in.
-/
import Derived.Test.YtmekjbplodnldaaTreeGrow
import Derived.Test.YtmekjbplodnldaaTreeSame
namespace Go.Proofs.Ytmekjbplodnldaa
open Go.RowKit

structure Gd (d : Nat) (t : Tr) : Prop where
  right : Right t
  good : ∀ k ∈ toks t, GTok k ∧ k.text.length ≤ 40
  fit : Fit d t
theorem toks_tsz (t : Tr) : Right t → (toks t).length ≤ tsz t := by
  induction t using tr_ind with
  | h t ih =>
    intro hR
    rw [tsz_eq, toks_eq]
    rw [Right_eq] at hR
    rcases hR with ⟨k1, _, kk⟩ | ⟨k1, _, kk, _⟩
    · have key : ∀ (l : List Tr), (∀ k ∈ l, (toks k).length ≤ tsz k) → ((l.map toks).flatten).length ≤ (l.map tsz).sum := by
        intro l
        induction l with
        | nil => simp
        | cons a l ihl =>
          intro h
          have h1 := h a (by simp)
          have h2 := ihl (fun k hk => h k (by simp [hk]))
          simp only [List.map_cons, List.sum_cons, List.flatten_cons, List.length_append]
          omega
      have hk := key t.kids (fun k hk => ih k hk (kk k hk))
      rw [if_pos k1]
      simp only [List.length_cons, List.length_append, List.length_nil]
      omega
    · rw [if_neg k1]
      simp only [List.length_cons, List.length_nil]
      omega
def leafOf (k : Nat) (x : List UInt8) : Tr := ⟨k, 0, x, [], ⟨k, 0, x⟩⟩
theorem gd_leaf {d k : Nat} {x : List UInt8} (h : (k = 3 ∧ x ≠ [] ∧ ∀ c ∈ x, isAtom c = true) ∨ k = 4) (hx : x.length ≤ 40) : Gd d (leafOf k x) := by
  have hk : k ≠ 1 ∧ k ≠ 2 := by rcases h with h | h <;> omega
  refine ⟨by rw [Right_eq]; exact .inr ⟨hk.1, hk.2, rfl, rfl⟩, ?_, ?_⟩
  · intro j hj
    rw [toks_eq, if_neg (show ¬ (leafOf k x).kind = 1 from hk.1)] at hj
    simp at hj
    subst hj
    refine ⟨?_, hx⟩
    rcases h with ⟨h1, h2, h3⟩ | h1
    · exact .inr (.inr (.inl ⟨h1, h2, h3⟩))
    · exact .inr (.inr (.inr ⟨h1, by show x.length ≤ 200; omega⟩))
  · cases d with
    | zero => exact hk.1
    | succ d => intro h; exact absurd h hk.1
def openOf (ks : List Tr) : Tr := ⟨1, 0, [], ks, ⟨2, 0, []⟩⟩
theorem gd_open {d : Nat} {ks : List Tr} (h : ∀ k ∈ ks, Gd d k) : Gd (d + 1) (openOf ks) := by
  refine ⟨by rw [Right_eq]; exact .inl ⟨rfl, rfl, fun k hk => (h k hk).right⟩, ?_, fun _ k hk => (h k hk).fit⟩
  intro j hj
  rw [toks_eq, if_pos (show (openOf ks).kind = 1 from rfl)] at hj
  simp only [List.mem_cons, List.mem_append, List.mem_flatten, List.mem_map, List.not_mem_nil, or_false] at hj
  rcases hj with rfl | ⟨l, ⟨k, hk, rfl⟩, hj⟩ | rfl
  · exact ⟨.inl ⟨rfl, rfl⟩, by show ([] : List UInt8).length ≤ 40; simp⟩
  · exact (h k hk).good j hj
  · exact ⟨.inr (.inl ⟨rfl, rfl⟩), by show ([] : List UInt8).length ≤ 40; simp⟩

theorem OneM.grow2 {e B ba : Nat} {F G : Nat → Prop} {wr w6 : World} {kv : Value} {ks : List Tr} (h : OneM e B F wr kv ks) (k : Kept (fun b => b = ba) wr w6) (hba : ba < B) (hB : B ≤ wr.heap.size) (hG : ∀ g, G g → wr.heap.size ≤ g ∧ g < w6.heap.size) : OneM e B (fun g => F g ∨ G g) w6 kv ks := by
  refine ⟨(h.own.kept k (fun g hg => ⟨(h.lies g hg).2, fun e => by have := (h.lies g hg).1; omega⟩) (fun g hg e => by have := (h.own.lt g hg).1; omega)).mono (fun _ h => .inl h), fun g hg => ?_, fun g hg hh => ?_⟩
  · have := k.size
    rcases hg with hg | hg
    · have := h.lies g hg; omega
    · have := hG g hg; omega
  · rcases hh with hh | hh
    · exact h.far g hg hh
    · have := (h.own.lt g hg).2
      have := hG g hh
      omega
theorem grow_pack2 {e B ba : Nat} {F : Nat → Prop} {wr w5 : World} {kv u : Value} {ks : List Tr} {x : Tr} (O : Obj) (h : OneM e B F wr kv ks) (hba : ba < B) (hB : B ≤ wr.heap.size) (K5 : Kept (fun b => b = ba) wr w5) (ht : TL (fun g => wr.heap.size ≤ g ∧ g < w5.heap.size) w5 u x.kids) :
    ∃ vs : List Value, vs.length = ks.length ∧ (w5.alloc O).ownsRow B e 4 kv ks.length (rowc ks vs) ∧
      ∀ g cap w', w'.ownsRow B e 4 (.slice (some ⟨g, 0, none⟩) (ks.length + 1) cap) (ks.length + 1) (rowc ks vs ++ trc x u) → (w5.alloc O).grownBy w' kv.ownBlock → (kv.ownBlock = some g ∨ g = w5.heap.size + 1) →
        (∃ F', OneM e B F' w' (.slice (some ⟨g, 0, none⟩) (ks.length + 1) cap) (ks ++ [x])) ∧ Kept (fun b => B ≤ b) w5 w' := by
  have hM6 := h.grow2 (G := fun g => wr.heap.size ≤ g ∧ g < w5.heap.size) (K5.alloc O) hba hB (fun g hg => by simp; omega)
  have ht6 : TL (fun g => F g ∨ (wr.heap.size ≤ g ∧ g < w5.heap.size)) (w5.alloc O) u x.kids := (ht.kept ((Kept.refl (fun _ => False) w5).alloc O) (fun g hg => ⟨hg.2, fun h => h⟩)).mono (fun g hg => .inr hg)
  obtain ⟨vs, v1, v2, v3⟩ := hM6.own
  refine ⟨vs, v1, v2, fun g cap w' j1 j2 j3 => ?_⟩
  obtain ⟨hM7, K7⟩ := hM6.app v1 v3 j1 j2 j3 (by simp) ht6
  exact ⟨⟨_, hM7⟩, ((Kept.refl (fun _ => False) w5).alloc O).trans K7 (fun _ _ h => h.elim) (fun x _ hx => (h.own.lt x hx).1)⟩

/-- Numbers, and texts, that can be read. -/
def RdI (w : World) (v : Value) (zs : List Int) : Prop := ∃ a c, v = .slice a zs.length c ∧ (∀ z ∈ zs, -9223372036854775808 ≤ z ∧ z ≤ 9223372036854775807) ∧ ∀ b, a = some b → ∀ j z, zs[j]? = some z → w.cell? (b.add j) = some (.int .i64 z)
def RdS (w : World) (v : Value) (xs : List ByteArray) : Prop := ∃ a c, v = .slice a xs.length c ∧ (0 < xs.length → ∃ b, a = some b) ∧ ∀ b, a = some b → ∀ j z, xs[j]? = some z → w.cell? (b.add j) = some (.string z)
theorem add_block (b : Addr) (j : Nat) : (b.add j).block = b.block := by
  unfold Addr.add
  split <;> simp_all

/-- What 'made' leaves. -/
def MadeE (d at0 ba : Nat) (w : World) (e : Ending) (w' : World) : Prop := ∃ (T : Tr) (kv : Value) (at1 : Nat), e = .returned (trv T kv) ∧ TL (fun g => w.heap.size ≤ g ∧ g < w'.heap.size) w' kv T.kids ∧ Gd d T ∧ tsz T + 8 * at0 ≤ 2 + 8 * at1 ∧ at0 ≤ at1 ∧ at1 ≤ 60 ∧
  w'.heap[ba]? = some (.cells #[.int .i64 (at1 : Int)] 3 (0, 0)) ∧ Kept (fun b => b = ba) w w'
theorem made_leaf {d at0 at1 ba k : Nat} {x : List UInt8} {w w' : World} {e : Ending} (he : e = .returned (.agg #[.int .i64 (k : Int), .int .i64 0, .string (str x), .slice none 0 0])) (hg : Gd d (leafOf k x)) (h1 : at0 ≤ at1) (h2 : at1 ≤ 60) (hb : w'.heap[ba]? = some (.cells #[.int .i64 (at1 : Int)] 3 (0, 0))) (hk : Kept (fun b => b = ba) w w') : MadeE d at0 ba w e w' := by
  refine ⟨leafOf k x, .slice none 0 0, at1, he, TL.nil _ _, hg, ?_, h1, h2, hb, hk⟩
  rw [tsz_eq]
  simp [leafOf]
  omega
end Go.Proofs.Ytmekjbplodnldaa
