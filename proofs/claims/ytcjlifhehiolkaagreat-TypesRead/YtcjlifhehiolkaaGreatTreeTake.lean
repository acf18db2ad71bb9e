/-
  The package's take: a token is put to the stack.
-/
import Derived.Deep.RegionLaw
import Derived.Deep.Upon
import Derived.Deep.CutRange
import Derived.Test.YtcjlifhehiolkaaGreatTreeStack
namespace Go.Proofs.YtcjlifhehiolkaaGreat
open Go.RowKit

theorem append_tree {w : World} {ops : Array Oper} {rest : List Oper} {o : Oper} {a : Act} {Q : Exit → Act → World → Prop} (hgd : o.guard = none) (s x : Operand)
    (ho : o.op = .call { callee := .builtin .append, args := #[s, x], argTypes := #[32, 32] })
    (B : Nat) (v : Value) (n : Nat) (xs : List Value) (hs : a.eval s = v) (hown : w.ownsRow B 34 4 v n xs)
    (ad : Addr) (c : Nat) (news : List Value) (hx : a.eval x = .slice (some ad) 1 c) (hl : news.length = 4) (hnews : ∀ j u, news[j]? = some u → w.cell? (ad.add j) = some u) (h1 : ∀ u ∈ news, u.oneCell' = true)
    (hlen : n ≤ 100000) (hB : B ≤ w.heap.size) (H : Nat) (hH : w.heap.size = H)
    (h : ∀ g cap w', w'.ownsRow B 34 4 (.slice (some ⟨g, 0, none⟩) (n + 1) cap) (n + 1) (xs ++ news) → w.grownBy w' v.ownBlock → (v.ownBlock = some g ∨ g = H) → g < w'.heap.size → wpList Tryz.prog ops Q rest (a.put o.dst (.slice (some ⟨g, 0, none⟩) (n + 1) cap)) w') :
    wpList Tryz.prog ops Q (o :: rest) a w := by
  obtain ⟨i, z, hi, hz, k1, k2, k3⟩ := info_z infoTr
  exact wpList_append_lies w hgd s x 32 ho B 34 i z 4 56 Tryz.underlying32 hi hz k1 k2 k3 (by decide) v n xs hs hown ad 1 c news hx hl hnews h1 (by decide) (by unfold maxLen; omega) (by omega) hB H hH h
theorem step_tree {w : World} {ops : Array Oper} {o : Oper} {a : Act} {K : Act → World → Prop} {Q : Exit → Act → World → Prop} {E : Prop} (hgd : o.guard = none) (s x : Operand)
    (ho : o.op = .call { callee := .builtin .append, args := #[s, x], argTypes := #[32, 32] })
    (B : Nat) (v : Value) (n : Nat) (xs : List Value) (hs : a.eval s = v) (hown : w.ownsRow B 34 4 v n xs)
    (ad : Addr) (c : Nat) (news : List Value) (hx : a.eval x = .slice (some ad) 1 c) (hl : news.length = 4) (hnews : ∀ j u, news[j]? = some u → w.cell? (ad.add j) = some u) (h1 : ∀ u ∈ news, u.oneCell' = true)
    (hlen : n ≤ 100000) (hB : B ≤ w.heap.size) (H : Nat) (hH : w.heap.size = H)
    (h : ∀ g cap w', w'.ownsRow B 34 4 (.slice (some ⟨g, 0, none⟩) (n + 1) cap) (n + 1) (xs ++ news) → w.grownBy w' v.ownBlock → (v.ownBlock = some g ∨ g = H) → g < w'.heap.size → K (a.put o.dst (.slice (some ⟨g, 0, none⟩) (n + 1) cap)) w') :
    if Region.wanted o (yielded ops a.tmps) = true then Oper.wp Tryz.prog o a w K Q else E := by
  obtain ⟨i, z, hi, hz, k1, k2, k3⟩ := info_z infoTr
  exact step_append_lies w hgd s x 32 ho B 34 i z 4 56 Tryz.underlying32 hi hz k1 k2 k3 (by decide) v n xs hs hown ad 1 c news hx hl hnews h1 (by decide) (by unfold maxLen; omega) (by omega) hB H hH h

theorem cells_at (w : World) (xs : List Value) (t : TypeId) {g : Nat} (hg : g = w.heap.size) : ∀ j u, xs[j]? = some u → (w.alloc (.cells xs.toArray t)).cell? ((⟨g, 0, none⟩ : Addr).add j) = some u := by
  subst hg
  exact cells_new w xs t
def tkv (t : Tok) : Value := .agg #[.int .i64 (t.kind : Int), .int .i64 (t.place : Int), .string (str t.text)]
def TakeE (B : Nat) (w : World) (rs : List Tr) (e : Ending) (w' : World) : Prop := ∃ F sv vs, e = .returned sv ∧ StkM F B w' sv rs.reverse vs ∧ Below B w w'

set_option maxHeartbeats 1600000 in
set_option maxRecDepth 1000000 in
theorem take_open (F : Nat → Prop) (B : Nat) (w : World) (sv : Value) (rs : List Tr) (vs : List Value) (tok : Tok) (h : StkM F B w sv rs.reverse vs) (hB : B ≤ w.heap.size) (hn : rs ≠ []) (hlen : rs.length ≤ 41) (hk : tok.kind = 1) :
    Calls Tryz.prog 31 #[sv, tkv tok] w (TakeE B w (put rs tok)) := by
  have hrl : 0 < rs.reverse.length := by simp; exact List.length_pos_iff.2 hn
  obtain ⟨gs, caps, rfl, hgb, hgl, hc1, hc2⟩ := h.shape hrl
  have hp : (put rs tok).reverse = rs.reverse ++ [leaf tok] := by
    cases rs with
    | nil => exact absurd rfl hn
    | cons x r => simp [put, hk]
  obtain ⟨tk, tp, tx⟩ := tok
  simp only at hk
  subst hk
  unfold tkv
  go_enter Tryz.func31, Tryz.ntmps31
  go_wp2_with (at_builtin; refine append_tree rfl (.tmp 17) (.tmp 19) rfl B _ _ _ rfl ((h.alloc _).alloc _ |>.alloc _).own _ _ (trc (leaf ⟨1, tp, tx⟩) (.slice none 0 0)) rfl rfl ?src (trc_one _ _ rfl) ?len ?hB _ rfl ?next)
  case src => exact cells_at _ _ _ (by simp)
  case len => simp; omega
  case hB => simp; omega
  case next =>
    intro g cap w' k1 k2 k3 k4
    go_wp2
    go_ret
    have hs := StkM.push (sv' := .slice (some ⟨g, 0, none⟩) (rs.length + 1) cap) (H := w.heap.size + 1 + 1 + 1) (((h.alloc _).alloc _).alloc _) (t := leaf ⟨1, tp, tx⟩) rfl (by rw [List.length_reverse]; exact k1) k2 (by rcases k3 with q | q; exact .inl q.symm; exact .inr (congrArg some q)) (by simp)
    refine ⟨F, _, _, rfl, by rw [hp]; exact hs, ?_⟩
    exact Below.grown ((((Below.refl B w).alloc hB _).alloc (by simp; omega) _).alloc (by simp; omega) _) k2 (by simp; omega) (fun k hk => by simp [Value.ownBlock] at hk; omega)

theorem StkM.top {F : Nat → Prop} {B g cap n : Nat} {w : World} {ts : List Tr} {x : Tr} {vs : List Value} (h : StkM F B w (.slice (some ⟨g, 0, none⟩) (n + 1) cap) (ts ++ [x]) vs) (hn : ts.length = n) : ∃ kv, vs[n]? = some kv ∧ OwnK 34 B F w kv x.kids ∧
    w.cell? ⟨g, n * 4, none⟩ = some (.int .i64 (x.kind : Int)) ∧ w.cell? ⟨g, n * 4 + 1, none⟩ = some (.int .i64 (x.place : Int)) ∧ w.cell? ⟨g, n * 4 + 2, none⟩ = some (.string (str x.text)) ∧ w.cell? ⟨g, n * 4 + 3, none⟩ = some kv ∧ ∀ j, w.frozen? ⟨g, j, none⟩ = false := by
  have e : (ts ++ [x]).length = n + 1 := by simp [hn]
  have h' := h
  rw [← e] at h'
  exact h'.cells (i := n) (by rw [← hn]; simp)

theorem zone : ∀ u ∈ ([.int .i64 0, .int .i64 0, .string ⟨#[]⟩, .slice none 0 0] : List Value), u.oneCell' = true := by
  intro u hu
  simp only [List.mem_cons, List.not_mem_nil, or_false] at hu
  rcases hu with rfl | rfl | rfl | rfl <;> rfl
theorem add_facts {F : Nat → Prop} {B g gs cap caps n m b5 : Nat} {W3 w' : World} {ts : List Tr} {vs : List Value} {v : Value} {xs : List Value} {Z : Obj} {a0 a1 a2 a3 z0 z1 z2 z3 : Value} (hS : StkM F B W3 (.slice (some ⟨gs, 0, none⟩) (n + 1) caps) ts vs) (hx : xs.length = m * 4)
    (t0 : vs[n]? = some v) (hb1 : b5 < W3.heap.size) (hb2 : b5 ≠ gs) (hb3 : v.ownBlock ≠ some b5)
    (c0 : W3.cell? ⟨b5, 0, none⟩ = some a0) (c1 : W3.cell? ⟨b5, 1, none⟩ = some a1) (c2 : W3.cell? ⟨b5, 2, none⟩ = some a2) (c3 : W3.cell? ⟨b5, 3, none⟩ = some a3) (t5 : W3.cell? ⟨gs, n * 4 + 3, none⟩ = some v) (t6 : W3.frozen? ⟨gs, n * 4 + 3, none⟩ = false)
    (k1 : w'.ownsRow B 34 4 (.slice (some ⟨g, 0, none⟩) (m + 1) cap) (m + 1) (xs ++ [z0, z1, z2, z3])) (k2 : (W3.alloc Z).drew.grownBy w' v.ownBlock) (k3 : v.ownBlock = some g ∨ g = W3.heap.size + 1) :
    w'.cell? ⟨b5, 0, none⟩ = some a0 ∧ w'.cell? ⟨b5, 1, none⟩ = some a1 ∧ w'.cell? ⟨b5, 2, none⟩ = some a2 ∧ w'.cell? ⟨b5, 3, none⟩ = some a3 ∧ w'.cell? ⟨gs, n * 4 + 3, none⟩ = some v ∧ w'.frozen? ⟨gs, n * 4 + 3, none⟩ = false ∧
    w'.cell? ⟨g, m * 4, none⟩ = some z0 ∧ w'.cell? ⟨g, m * 4 + 1, none⟩ = some z1 ∧ w'.cell? ⟨g, m * 4 + 2, none⟩ = some z2 ∧ w'.cell? ⟨g, m * 4 + 3, none⟩ = some z3 ∧ w'.frozen? ⟨g, m * 4, none⟩ = false ∧ w'.frozen? ⟨g, m * 4 + 1, none⟩ = false ∧ w'.frozen? ⟨g, m * 4 + 2, none⟩ = false ∧ w'.frozen? ⟨g, m * 4 + 3, none⟩ = false ∧
    g ≠ gs ∧ gs ≠ g ∧ g ≠ b5 ∧ b5 ≠ g ∧ m + 1 ≤ cap := by
  have hgs := hS.own.lt gs rfl
  have hvg : v.ownBlock ≠ some gs := fun e => (hS.far n v gs t0 e).2 rfl
  have K : Kept (fun b => v.ownBlock = some b) W3 w' := (((Kept.refl _ W3).alloc Z).drew).grown k2 (fun k e _ => e)
  have hg1 : g ≠ gs := by
    rcases k3 with q | q
    · intro e; subst e; exact hvg q
    · omega
  have hg2 : g ≠ b5 := by
    rcases k3 with q | q
    · intro e; subst e; exact hb3 q
    · omega
  have hc : ∀ j, j < 4 → w'.cell? ⟨g, m * 4 + j, none⟩ = ([z0, z1, z2, z3] : List Value)[j]? := fun j hj => by
    rw [k1.cellAt _ (by omega), List.getElem?_append_right (by omega), hx, show m * 4 + j - m * 4 = j from by omega]
  have hcap : m + 1 ≤ cap := by
    rcases k1.2 with ⟨_, h0⟩ | ⟨g', cap', cur, e, _, _, h1, _⟩
    · omega
    · cases e; exact h1
  refine ⟨K.cell c0 hb3, K.cell c1 hb3, K.cell c2 hb3, K.cell c3 hb3, K.cell t5 hvg, ?_, hc 0 (by omega), hc 1 (by omega), hc 2 (by omega), hc 3 (by omega), k1.frozenAt _, k1.frozenAt _, k1.frozenAt _, k1.frozenAt _, hg1, fun e => hg1 e.symm, hg2, fun e => hg2 e.symm, hcap⟩
  rw [World.frozen?_of_block (w := W3) (K.block gs hgs.2 hvg)]
  exact t6

theorem setCell_comm (w : World) {a b : Addr} (h : a.block ≠ b.block) (u v : Value) : (w.setCell a u).setCell b v = (w.setCell b v).setCell a u := by
  unfold World.setCell
  simp only [World.mk.injEq, and_true]
  apply Array.ext
  · simp
  · intro i h1 h2
    simp only [Array.getElem_modify]
    by_cases ha : a.block = i
    · by_cases hb : b.block = i
      · exact absurd (ha.trans hb.symm) h
      · simp [ha, hb]
    · by_cases hb : b.block = i
      · simp [ha, hb]
      · simp [ha, hb]
def AddE (B gs caps n : Nat) (W3 : World) (ts : List Tr) (w' : World) : Prop := ∃ F vs, StkM F B w' (.slice (some ⟨gs, 0, none⟩) (n + 1) caps) ts vs ∧ Below B W3 w'
theorem add_done {F : Nat → Prop} {B g gs cap caps n m : Nat} {W3 w' : World} {ts : List Tr} {x t : Tr} {vs us : List Value} {v u : Value} {Z : Obj} {z0 z1 z2 z3 : Value} (hS : StkM F B W3 (.slice (some ⟨gs, 0, none⟩) (n + 1) caps) (ts ++ [x]) vs) (hn : ts.length = n) (hm : x.kids.length = m) (hB : B ≤ W3.heap.size)
    (t0 : vs[n]? = some v) (u1 : us.length = x.kids.length) (u3 : ∀ (i : Nat) (t : Tr) (v : Value), x.kids[i]? = some t → us[i]? = some v → TL F W3 v t.kids) (hxt : TL F W3 u t.kids)
    (k1 : w'.ownsRow B 34 4 (.slice (some ⟨g, 0, none⟩) (m + 1) cap) (m + 1) (rowc x.kids us ++ [z0, z1, z2, z3])) (k2 : (W3.alloc Z).drew.grownBy w' v.ownBlock) (k3 : v.ownBlock = some g ∨ g = W3.heap.size + 1) (k4 : g < w'.heap.size) :
    AddE B gs caps n W3 (ts ++ [addKid x t]) (((((w'.setCell ⟨g, m * 4, none⟩ (.int .i64 (t.kind : Int))).setCell ⟨g, m * 4 + 1, none⟩ (.int .i64 (t.place : Int))).setCell ⟨g, m * 4 + 2, none⟩ (.string (str t.text))).setCell ⟨g, m * 4 + 3, none⟩ u).setCell ⟨gs, n * 4 + 3, none⟩ (.slice (some ⟨g, 0, none⟩) (m + 1) cap)) := by
  have hl : (ts ++ [x]).length = n + 1 := by simp [hn]
  have hS2 := (hS.alloc Z).drew
  have hS3 := hS2
  rw [← hl] at hS3
  have hx : (ts ++ [x])[n]? = some x := by rw [← hn]; simp
  have KZ : Kept (fun _ => False) W3 (W3.alloc Z).drew := ((Kept.refl _ W3).alloc Z).drew
  have hF : ∀ b, F b → b < W3.heap.size ∧ ¬ False := fun b hb => ⟨(hS.lies b hb).2, fun h => h⟩
  have o1 := ((k1.stored (m * 4) (.int .i64 (t.kind : Int))).1.stored (m * 4 + 1) (.int .i64 (t.place : Int))).1
  have o2 := ((o1.stored (m * 4 + 2) (.string (str t.text))).1.stored (m * 4 + 3) u).1
  rw [set4 _ m (by rw [← hm]; exact rowc_length u1)] at o2
  have K2 : Kept (fun b => b = g) w' ((((w'.setCell ⟨g, m * 4, none⟩ (.int .i64 (t.kind : Int))).setCell ⟨g, m * 4 + 1, none⟩ (.int .i64 (t.place : Int))).setCell ⟨g, m * 4 + 2, none⟩ (.string (str t.text))).setCell ⟨g, m * 4 + 3, none⟩ u) :=
    ((((Kept.refl (fun b => b = g) w').setCell (p := ⟨g, m * 4, none⟩) (fun _ => rfl) _).setCell (p := ⟨g, m * 4 + 1, none⟩) (fun _ => rfl) _).setCell (p := ⟨g, m * 4 + 2, none⟩) (fun _ => rfl) _).setCell (p := ⟨g, m * 4 + 3, none⟩) (fun _ => rfl) _
  subst hm
  have hd := hS3.add (H := W3.heap.size + 1) (x := t) (u := u) (us := us) hx t0 u1 (fun i t v a b => (u3 i t v a b).kept KZ hF) (hxt.kept KZ hF) k2 k3 (by simp) k4 o2 K2
  obtain ⟨h1, h2⟩ := hd
  have e : (ts ++ [x]).set n (addKid x t) = ts ++ [addKid x t] := by rw [← hn]; simp
  rw [e, hl] at h1
  have hgs := (hS.own.lt gs rfl).1
  have hg : B ≤ g := (k1.lt g rfl).1
  refine ⟨F, _, h1, ?_⟩
  refine (KZ.below hB (fun _ _ h => h)).trans (h2.below (by simp; omega) (fun b hb hh => ?_))
  rcases hh with rfl | hh | rfl
  · omega
  · rcases k3 with q | q
    · have : b = g := by rw [hh] at q; simpa using q
      omega
    · have hv := (hS.kids n x v hx t0).lt b hh
      omega
  · omega

theorem AddE.swap {B gs caps n n' m g : Nat} {W3 w' : World} {ts : List Tr} {a b c d e : Value} (h : AddE B gs caps n W3 ts (((((w'.setCell ⟨g, m, none⟩ a).setCell ⟨g, m + 1, none⟩ b).setCell ⟨g, m + 2, none⟩ c).setCell ⟨g, m + 3, none⟩ d).setCell ⟨gs, n', none⟩ e)) (hg : g ≠ gs) :
    AddE B gs caps n W3 ts (((((w'.setCell ⟨gs, n', none⟩ e).setCell ⟨g, m, none⟩ a).setCell ⟨g, m + 1, none⟩ b).setCell ⟨g, m + 2, none⟩ c).setCell ⟨g, m + 3, none⟩ d) := by
  rw [setCell_comm (a := ⟨gs, n', none⟩) (b := ⟨g, m, none⟩) _ (fun e => hg e.symm), setCell_comm (a := ⟨gs, n', none⟩) (b := ⟨g, m + 1, none⟩) _ (fun e => hg e.symm), setCell_comm (a := ⟨gs, n', none⟩) (b := ⟨g, m + 2, none⟩) _ (fun e => hg e.symm), setCell_comm (a := ⟨gs, n', none⟩) (b := ⟨g, m + 3, none⟩) _ (fun e => hg e.symm)]
  exact h
theorem AddE.took {B gs caps n : Nat} {w W3 w1 w' : World} {ts rs : List Tr} {e : Ending} (h : AddE B gs caps n W3 ts w1) (hp : rs.reverse = ts) (hBl : Below B w W3) (he : e = .returned (.slice (some ⟨gs, 0, none⟩) (n + 1) caps)) (hw : w' = w1) : TakeE B w rs e w' := by
  subst hw
  obtain ⟨F2, vs2, h1, h2⟩ := h
  exact ⟨F2, _, vs2, he, by rw [hp]; exact h1, hBl.trans h2⟩

end Go.Proofs.YtcjlifhehiolkaaGreat
