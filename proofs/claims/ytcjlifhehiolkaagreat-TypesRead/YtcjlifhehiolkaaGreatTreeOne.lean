/-
  Rows of trees that grow in a loop (OneM); the document's own reading of one tree.
-/
import Derived.Test.YtcjlifhehiolkaaGreatTreeParse2
namespace Go.Proofs.YtcjlifhehiolkaaGreat
open Go.RowKit

structure OneM (e B : Nat) (F : Nat → Prop) (w : World) (kv : Value) (ks : List Tr) : Prop where
  own : OwnK e B F w kv ks
  lies : ∀ g, F g → B ≤ g ∧ g < w.heap.size
  far : ∀ g, kv.ownBlock = some g → ¬ F g
theorem OneM.nil (e B : Nat) (w : World) : OneM e B (fun _ => False) w (.slice none 0 0) [] := ⟨OwnK.nil _ _ _ _, fun _ h => h.elim, fun _ _ h => h⟩
theorem OneM.grow {e B : Nat} {F G : Nat → Prop} {wr w6 : World} {kv : Value} {ks : List Tr} (h : OneM e B F wr kv ks) (k : Kept (fun _ => False) wr w6) (hB : B ≤ wr.heap.size) (hG : ∀ g, G g → wr.heap.size ≤ g ∧ g < w6.heap.size) : OneM e B (fun g => F g ∨ G g) w6 kv ks := by
  refine ⟨(h.own.kept k (fun g hg => ⟨(h.lies g hg).2, fun h => h⟩) (fun _ _ h => h)).mono (fun _ h => .inl h), fun g hg => ?_, fun g hg hh => ?_⟩
  · have := k.size
    rcases hg with hg | hg
    · have := h.lies g hg; omega
    · have := hG g hg; omega
  · rcases hh with hh | hh
    · exact h.far g hg hh
    · have := (h.own.lt g hg).2
      have := hG g hh
      omega
theorem OneM.app {e B H g cap : Nat} {F : Nat → Prop} {w6 w' : World} {kv u : Value} {ks : List Tr} {x : Tr} {vs : List Value} (h : OneM e B F w6 kv ks) (h1 : vs.length = ks.length) (h3 : ∀ (i : Nat) (t : Tr) (v : Value), ks[i]? = some t → vs[i]? = some v → TL F w6 v t.kids)
    (hown : w'.ownsRow B e 4 (.slice (some ⟨g, 0, none⟩) (ks.length + 1) cap) (ks.length + 1) (rowc ks vs ++ trc x u)) (hgr : w6.grownBy w' kv.ownBlock) (hat : kv.ownBlock = some g ∨ g = H) (hH : w6.heap.size = H) (ht : TL F w6 u x.kids) :
    OneM e B F w' (.slice (some ⟨g, 0, none⟩) (ks.length + 1) cap) (ks ++ [x]) ∧ Kept (fun b => kv.ownBlock = some b) w6 w' := by
  have K : Kept (fun b => kv.ownBlock = some b) w6 w' := (Kept.refl _ w6).grown hgr (fun k e _ => e)
  refine ⟨⟨OwnK.add h1 h3 (fun b hb => ⟨(h.lies b hb).2, fun e => h.far b e hb⟩) hown K ht, fun b hb => ⟨(h.lies b hb).1, Nat.lt_of_lt_of_le (h.lies b hb).2 K.size⟩, fun b hb hf => ?_⟩, K⟩
  simp [Value.ownBlock] at hb
  subst hb
  rcases hat with q | q
  · exact h.far _ q hf
  · have := (h.lies _ hf).2
    omega
theorem OneM.set {e B b j : Nat} {F : Nat → Prop} {w : World} {kv u : Value} {ks : List Tr} (h : OneM e B F w kv ks) (hb : b < B) : OneM e B F (w.setCell ⟨b, j, none⟩ u) kv ks := by
  have K : Kept (fun k => k = b) w (w.setCell ⟨b, j, none⟩ u) := (Kept.refl (fun k => k = b) w).setCell (p := ⟨b, j, none⟩) (fun _ => rfl) u
  exact ⟨h.own.kept K (fun g hg => ⟨(h.lies g hg).2, fun e => by have := (h.lies g hg).1; omega⟩) (fun g hg e => by have := (h.own.lt g hg).1; omega), fun g hg => ⟨(h.lies g hg).1, Nat.lt_of_lt_of_le (h.lies g hg).2 K.size⟩, h.far⟩
theorem OneM.shut {e B lo : Nat} {F : Nat → Prop} {w : World} {kv : Value} {ks : List Tr} (h : OneM e B F w kv ks) (hlo : lo ≤ B) : TL (fun g => lo ≤ g ∧ g < w.heap.size) w kv ks := by
  refine h.own.shut.mono (fun g hg => ?_)
  rcases hg with hg | hg
  · have := h.lies g hg; omega
  · have := h.own.lt g hg; omega

theorem append_tref {w : World} {ops : Array Oper} {rest : List Oper} {o : Oper} {a : Act} {Q : Exit → Act → World → Prop} (hgd : o.guard = none) (s x : Operand)
    (ho : o.op = .call { callee := .builtin .append, args := #[s, x], argTypes := #[38, 38] })
    (B : Nat) (v : Value) (n : Nat) (xs : List Value) (hs : a.eval s = v) (hown : w.ownsRow B 40 4 v n xs)
    (ad : Addr) (c : Nat) (news : List Value) (hx : a.eval x = .slice (some ad) 1 c) (hl : news.length = 4) (hnews : ∀ j u, news[j]? = some u → w.cell? (ad.add j) = some u) (h1 : ∀ u ∈ news, u.oneCell' = true)
    (hlen : n ≤ 100000) (hB : B ≤ w.heap.size) (H : Nat) (hH : w.heap.size = H)
    (h : ∀ g cap w', w'.ownsRow B 40 4 (.slice (some ⟨g, 0, none⟩) (n + 1) cap) (n + 1) (xs ++ news) → w.grownBy w' v.ownBlock → (v.ownBlock = some g ∨ g = H) → g < w'.heap.size → wpList Tryz.prog ops Q rest (a.put o.dst (.slice (some ⟨g, 0, none⟩) (n + 1) cap)) w') :
    wpList Tryz.prog ops Q (o :: rest) a w := by
  obtain ⟨i, z, hi, hz, k1, k2, k3⟩ := info_z infoRf
  exact wpList_append_lies w hgd s x 38 ho B 40 i z 4 56 Tryz.underlying38 hi hz k1 k2 k3 (by decide) v n xs hs hown ad 1 c news hx hl hnews h1 (by decide) (by unfold maxLen; omega) (by omega) hB H hH h
theorem step_tref {w : World} {ops : Array Oper} {o : Oper} {a : Act} {K : Act → World → Prop} {Q : Exit → Act → World → Prop} {E : Prop} (hgd : o.guard = none) (s x : Operand)
    (ho : o.op = .call { callee := .builtin .append, args := #[s, x], argTypes := #[38, 38] })
    (B : Nat) (v : Value) (n : Nat) (xs : List Value) (hs : a.eval s = v) (hown : w.ownsRow B 40 4 v n xs)
    (ad : Addr) (c : Nat) (news : List Value) (hx : a.eval x = .slice (some ad) 1 c) (hl : news.length = 4) (hnews : ∀ j u, news[j]? = some u → w.cell? (ad.add j) = some u) (h1 : ∀ u ∈ news, u.oneCell' = true)
    (hlen : n ≤ 100000) (hB : B ≤ w.heap.size) (H : Nat) (hH : w.heap.size = H)
    (h : ∀ g cap w', w'.ownsRow B 40 4 (.slice (some ⟨g, 0, none⟩) (n + 1) cap) (n + 1) (xs ++ news) → w.grownBy w' v.ownBlock → (v.ownBlock = some g ∨ g = H) → g < w'.heap.size → K (a.put o.dst (.slice (some ⟨g, 0, none⟩) (n + 1) cap)) w') :
    if Region.wanted o (yielded ops a.tmps) = true then Oper.wp Tryz.prog o a w K Q else E := by
  obtain ⟨i, z, hi, hz, k1, k2, k3⟩ := info_z infoRf
  exact step_append_lies w hgd s x 38 ho B 40 i z 4 56 Tryz.underlying38 hi hz k1 k2 k3 (by decide) v n xs hs hown ad 1 c news hx hl hnews h1 (by decide) (by unfold maxLen; omega) (by omega) hB H hH h
theorem res_cell2 {P : Program} {fn : Func} {p u : Tmp} {ty : TypeId} (h : fn.results = #[.cell p ty, .tmp u]) (tmps : Array Value) (w : World) (g : Nat) (t : TypeId) (cs : Array Value) (fr : Nat × Nat) (d : TypeDesc)
    (hp : tmps.getD p undef = .pointer (some ⟨g, 0, none⟩)) (hg : w.heap[g]? = some (.cells cs t fr))
    (hu : P.underlying ty = some d) (hd : (match d with | .struct _ | .array _ _ => true | _ => false) = true) (hi : (P.info? ty).map (·.size) = some cs.size) :
    (results fn tmps).run P w = .ok (.tuple #[.agg cs, tmps.getD u undef]) w := by
  have hp' : tmps[p]?.getD undef = .pointer (some ⟨g, 0, none⟩) := by simpa using hp
  simp [results, h, hp', asAddr, run_loadVar_row w g t ty cs fr d hg hu hd hi]
theorem sizeRf : (Tryz.prog.info? 40).map (·.size) = some 4 := by kernel_rfl

/-- Tokens that can be read from a place on. -/
def RdO (w : World) (g off : Nat) (l : List Tok) : Prop := ∀ j u, (tcs l)[j]? = some u → w.cell? ⟨g, off + j, none⟩ = some u
theorem tcs_length : ∀ (l : List Tok), (tcs l).length = l.length * 3
  | [] => rfl
  | t :: l => by
    have e : tcs (t :: l) = tc t ++ tcs l := by simp [tcs]
    rw [e, List.length_append, tcs_length l, List.length_cons]
    show 3 + _ = _
    omega
theorem RdO.drop {w : World} {g off : Nat} {a b : List Tok} (h : RdO w g off (a ++ b)) : RdO w g (off + a.length * 3) b := by
  intro j u hj
  have := h (a.length * 3 + j) u (by rw [tcs_append, List.getElem?_append_right (by rw [tcs_length]; omega), tcs_length, show a.length * 3 + j - a.length * 3 = j from by omega]; exact hj)
  rw [Nat.add_assoc]
  exact this
theorem RdO.kept {S : Nat → Prop} {w w' : World} {g off : Nat} {l : List Tok} (h : RdO w g off l) (k : Kept S w w') (hg : ¬ S g) : RdO w' g off l := fun j u hj => k.cell (h j u hj) hg
theorem RdO.head {w : World} {g off : Nat} {t : Tok} {l : List Tok} (h : RdO w g off (t :: l)) : w.cell? ⟨g, off, none⟩ = some (.int .i64 (t.kind : Int)) ∧ w.cell? ⟨g, off + 1, none⟩ = some (.int .i64 (t.place : Int)) ∧ w.cell? ⟨g, off + 2, none⟩ = some (.string (str t.text)) := by
  have e : tcs (t :: l) = tc t ++ tcs l := by simp [tcs]
  exact ⟨h 0 _ (by rw [e]; rfl), h 1 _ (by rw [e]; rfl), h 2 _ (by rw [e]; rfl)⟩
theorem toks_head (t : Tr) (h : Right t) : ∃ x l, toks t = x :: l ∧ x.kind = t.kind ∧ x.place = t.place ∧ x.text = t.text ∧ x.kind ≠ 2 := by
  rw [toks_eq]
  rw [Right_eq] at h
  split
  · rename_i k1
    exact ⟨_, _, rfl, k1.symm, rfl, rfl, by simp⟩
  · rename_i k1
    rcases h with h | h
    · exact absurd h.1 k1
    · exact ⟨_, _, rfl, rfl, rfl, rfl, h.2.1⟩
def OneTE (t : Tr) (w : World) (e : Ending) (w' : World) : Prop := ∃ kv, e = .returned (.tuple #[trv t kv, .int .i64 ((toks t).length : Int)]) ∧ TL (fun g => w.heap.size ≤ g ∧ g < w'.heap.size) w' kv t.kids ∧ Below w.heap.size w w'
theorem one_mk {t : Tr} {w w' : World} {kv : Value} {e : Ending} {n : Int} (he : e = .returned (.tuple #[trv t kv, .int .i64 n])) (hn : n = ((toks t).length : Int)) (ht : TL (fun g => w.heap.size ≤ g ∧ g < w'.heap.size) w' kv t.kids) (hb : Below w.heap.size w w') : OneTE t w e w' := by
  subst hn
  exact ⟨kv, he, ht, hb⟩
end Go.Proofs.YtcjlifhehiolkaaGreat
