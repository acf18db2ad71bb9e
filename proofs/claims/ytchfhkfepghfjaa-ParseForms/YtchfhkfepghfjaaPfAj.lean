/-
  The package's Read: its walk.
  And: What is read has no more nodes than signs, and no text that is too long. No program in it.
-/
import Derived.Deep.LoopGhost
import Derived.Deep.CutRange
import Derived.Test.YtchfhkfepghfjaaPfAi
import Derived.Test.YtchfhkfepghfjaaPfAf
namespace Go.Proofs.Ytchfhkfepghfjaa
open Go.RowKit

def ReadE (r : RR) (w : World) (e : Ending) (w' : World) : Prop :=
  (match r with
  | .ok x => e = .returned (.tuple #[.string (str x), .int .i64 0, .int .i64 0])
  | .error (y, b) => e = .returned (.tuple #[.string (str []), .int .i64 (y : Int), .int .i64 (b : Int)])) ∧ Below w.heap.size w w'
theorem readE_ok {r : RR} {x : List UInt8} {w w' : World} (h : r = .ok x) (hb : Below w.heap.size w w') : ReadE r w (.returned (.tuple #[.string (str x), .int .i64 0, .int .i64 0])) w' := by
  subst h
  exact ⟨rfl, hb⟩
theorem readE_no {r : RR} {y b : Nat} {z c : Int} {x : ByteArray} {w w' : World} (h : r = .error (y, b)) (hz : z = (y : Int)) (hc : c = (b : Int)) (hx : x = str []) (hb : Below w.heap.size w w') : ReadE r w (.returned (.tuple #[.string x, .int .i64 z, .int .i64 c])) w' := by
  subst h hz hc hx
  exact ⟨rfl, hb⟩
/-- No text in the tree is long. -/
def TxOk : Tr → Prop
  | ⟨_, _, x, l, _⟩ => x.length ≤ 8192 ∧ ∀ k ∈ l, TxOk k
theorem TxOk_iff (t : Tr) : TxOk t ↔ t.text.length ≤ 8192 ∧ ∀ k ∈ t.kids, TxOk k := by
  obtain ⟨k, p, x, l, e⟩ := t
  rw [TxOk]
theorem kid_mem {t : Tr} {i : Nat} (h : i < t.kids.length) : kid t i ∈ t.kids := by
  rw [← kid_get h]
  exact List.getElem_mem h
theorem parts_txOk {t : Tr} (h : TxOk t) : ∀ p ∈ partsT t, TxOk p := by
  have hk := ((TxOk_iff t).1 h).2
  intro p hp
  unfold partsT at hp
  split at hp
  · rename_i h2
    simp only [List.mem_singleton] at hp
    subst hp
    exact hk _ (kid_mem (by have := form2 h2; omega))
  · split at hp
    · rename_i h3
      have hl := form3 h3
      simp only [List.mem_append, List.mem_singleton] at hp
      rcases hp with hp | rfl
      · exact ((TxOk_iff _).1 (hk _ (kid_mem (t := t) (i := 1) (by omega)))).2 p hp
      · exact hk _ (kid_mem (by omega))
    · simp at hp
/-- What holds of each thing that is begun. -/
def FrOk (f : Fr) : Prop := TxOk f.tree ∧ nodes f.tree ≤ 20000 ∧ ∀ y ∈ f.texts, y.length ≤ 200
theorem sum_nodes : ∀ l : List Tr, l.length ≤ (l.map nodes).sum := by
  intro l
  induction l with
  | nil => simp
  | cons g r ih =>
    simp only [List.length_cons, List.map_cons, List.sum_cons]
    have := nodes_eq g
    omega
theorem parts_len (t : Tr) : (partsT t).length ≤ nodes t := by
  have h1 := sum_nodes (partsT t)
  have h2 := parts_nodes t
  omega
theorem mem_nodes : ∀ {l : List Tr} {p : Tr}, p ∈ l → nodes p ≤ (l.map nodes).sum
  | a :: l, p, h => by
    simp only [List.map_cons, List.sum_cons]
    simp only [List.mem_cons] at h
    rcases h with rfl | h
    · omega
    · have := mem_nodes h
      omega
theorem frOk_part {f : Fr} (h : FrOk f) {p : Tr} (hp : p ∈ partsT f.tree) : FrOk ⟨p, []⟩ := by
  refine ⟨parts_txOk h.1 p hp, ?_, by simp⟩
  have h1 := mem_nodes hp
  have h2 := parts_nodes f.tree
  have h3 := h.2.1
  show nodes p ≤ 20000
  omega
theorem todo_len : ∀ (f : Fr) (r : List Fr), r.length + 1 ≤ todo (f :: r) ∧ (partsT f.tree).length ≤ todo (f :: r) + f.texts.length := by
  intro f r
  have h1 : r.length ≤ (r.map (fun g => left g 1)).sum := by
    induction r with
    | nil => simp
    | cons g r ih =>
      simp only [List.length_cons, List.map_cons, List.sum_cons]
      have : 1 ≤ left g 1 := by unfold left; omega
      omega
  have h2 : ∀ l : List Tr, l.length ≤ (l.map nodes).sum := by
    intro l
    induction l with
    | nil => simp
    | cons g r ih =>
      simp only [List.length_cons, List.map_cons, List.sum_cons]
      have := nodes_eq g
      omega
  have h3 := h2 ((partsT f.tree).drop f.texts.length)
  rw [List.length_drop] at h3
  have h4 : left f 0 = 1 + 2 * (((partsT f.tree).drop f.texts.length).map nodes).sum := rfl
  simp only [todo]
  omega
theorem RStk.top {F : Nat → Prop} {B : Nat} {w : World} {sv : Value} {fs : List Fr} {f : Fr} {ps : List (Nat × Nat)} {vs : List Value} (h : RStk F B w sv (fs ++ [f]) ps vs) : ∃ ps' p vs' v gs caps, ps = ps' ++ [p] ∧ vs = vs' ++ [v] ∧ sv = .slice (some ⟨gs, 0, none⟩) (fs.length + 1) caps ∧ fs.length + 1 ≤ caps ∧
    w.cell? ⟨gs, fs.length * 2, none⟩ = some (.pointer (some ⟨p.1, p.2, none⟩)) ∧ w.cell? ⟨gs, fs.length * 2 + 1, none⟩ = some v ∧ PT F w p.1 p.2 f.tree ∧ w.ownsRow B 9 1 v f.texts.length (sc f.texts) ∧ B ≤ gs ∧ gs < w.heap.size := by
  have l1 := h.len1
  have l2 := h.len2
  obtain ⟨ps', p, rfl⟩ : ∃ ps' p, ps = ps' ++ [p] := ⟨ps.dropLast, ps.getLast (fun e => by subst e; simp at l1), (List.dropLast_concat_getLast _).symm⟩
  obtain ⟨vs', v, rfl⟩ : ∃ vs' v, vs = vs' ++ [v] := ⟨vs.dropLast, vs.getLast (fun e => by subst e; simp at l2), (List.dropLast_concat_getLast _).symm⟩
  simp only [List.length_append, List.length_singleton, Nat.add_right_cancel_iff] at l1 l2
  have ho := h.own
  simp only [List.length_append, List.length_singleton] at ho
  have hf : (fs ++ [f])[fs.length]? = some f := by simp
  have hv : (vs' ++ [v])[fs.length]? = some v := by rw [← l2]; simp
  have hp : (ps' ++ [p])[fs.length]? = some p := by rw [← l1]; simp
  rcases ho.2 with ⟨_, h0⟩ | ⟨gs, caps, cur, rfl, hb, hg, h1, h2, _⟩
  · omega
  · refine ⟨ps', p, vs', v, gs, caps, rfl, rfl, rfl, h1, ?_, ?_, h.ptr _ _ _ hf hp, h.txt _ _ _ hf hv, hb, (Array.getElem?_eq_some_iff.1 hg).1⟩
    · rw [ho.cellAt _ (by omega), rdc_append _ _ (by omega), List.getElem?_append_right (by rw [rdc_length (by omega)]; omega), rdc_length (by omega), l1, Nat.sub_self]
      rfl
    · rw [ho.cellAt _ (by omega), rdc_append _ _ (by omega), List.getElem?_append_right (by rw [rdc_length (by omega)]; omega), rdc_length (by omega), l1, show fs.length * 2 + 1 - fs.length * 2 = 1 from by omega]
      rfl

theorem stk_start (F : Nat → Prop) (t : Tr) (kv : Value) (w : World) (hF : ∀ g, F g → g < w.heap.size) (hT : TL F w kv t.kids) :
    RStk (fun g => F g ∨ g = w.heap.size) (w.heap.size + 1) ((w.alloc (.cells #[.int .i64 (t.kind : Int), .int .i64 (t.place : Int), .string (str t.text), kv] 27)).alloc (.cells #[.pointer (some ⟨w.heap.size, 0, none⟩), .slice none 0 0] 124))
      (.slice (some ⟨w.heap.size + 1, 0, none⟩) 1 1) ([] ++ [⟨t, []⟩]) [(w.heap.size, 0)] [.slice none 0 0] := by
  have hc := cells_new w [.int .i64 (t.kind : Int), .int .i64 (t.place : Int), .string (str t.text), kv] 27
  have hb0 : Below w.heap.size w (w.alloc (.cells #[.int .i64 (t.kind : Int), .int .i64 (t.place : Int), .string (str t.text), kv] 27)) := (Below.refl _ _).alloc (Nat.le_refl _) _
  have hT1 : TL (fun g => F g ∨ g = w.heap.size) (w.alloc (.cells #[.int .i64 (t.kind : Int), .int .i64 (t.place : Int), .string (str t.text), kv] 27)) kv t.kids := hT.frame fun g hg => ⟨.inl hg, hb0.block g (hF g hg)⟩
  have hP : PT (fun g => F g ∨ g = w.heap.size) (w.alloc (.cells #[.int .i64 (t.kind : Int), .int .i64 (t.place : Int), .string (str t.text), kv] 27)) w.heap.size 0 t :=
    ⟨.inr rfl, kv, hT1, by rw [← hc 0 _ rfl, add_at], by rw [← hc 1 _ rfl, add_at], by rw [← hc 2 _ rfl, add_at], by rw [← hc 3 _ rfl, add_at]⟩
  have hs : (w.alloc (.cells #[.int .i64 (t.kind : Int), .int .i64 (t.place : Int), .string (str t.text), kv] 27)).heap.size = w.heap.size + 1 := by simp
  generalize w.alloc (.cells #[.int .i64 (t.kind : Int), .int .i64 (t.place : Int), .string (str t.text), kv] 27) = w1 at *
  have hb1 : Below w1.heap.size w1 (w1.alloc (.cells #[.pointer (some ⟨w.heap.size, 0, none⟩), .slice none 0 0] 124)) := (Below.refl _ _).alloc (Nat.le_refl _) _
  refine ⟨rfl, rfl, ?_, fun i f p h1 h2 => ?_, fun i f v h1 h2 => ?_, fun i j v v' g h1 h2 h3 h4 => ?_⟩
  · have := World.ownsRow_lit (base := w.heap.size + 1) (e := 124) (size := 2) w1 #[.pointer (some ⟨w.heap.size, 0, none⟩), .slice none 0 0] 1 (by omega) (by decide) rfl
    rw [hs] at this
    exact this
  · rcases get_last h1 with h1 | ⟨rfl, rfl⟩
    · simp at h1
    · simp at h2
      subst h2
      exact hP.below hb1 (fun g hg => by rcases hg with hg | hg; have := hF g hg; omega; omega)
  · rcases get_last h1 with h1 | ⟨rfl, rfl⟩
    · simp at h1
    · simp at h2
      subst h2
      exact World.ownsRow_nil _ _ _ _
  · rcases get_last (l := ([] : List Value)) h1 with h1 | ⟨_, rfl⟩
    · simp at h1
    · simp [Value.ownBlock] at h3
theorem madeR_err {m : List UInt8} {t : Tr} {ys : List (List UInt8)} {y : Nat} (h : madeR m t ys = .error y) : y = 12 ∨ y = 3 ∨ y = 19 := by
  have hl : ∀ x, lim x = .error y → y = 12 ∨ y = 3 ∨ y = 19 := by
    intro x h
    unfold lim at h
    split at h
    · cases h; simp
    · split at h
      · cases h; simp
      · cases h
  unfold madeR at h
  repeat' split at h
  all_goals first | exact hl _ h | (cases h; simp)
theorem rd_one (g o : Nat) : ∀ u ∈ ([.pointer (some ⟨g, o, none⟩), .slice none 0 0] : List Value), u.oneCell' = true := by
  intro u hu
  simp only [List.mem_cons, List.not_mem_nil, or_false] at hu
  rcases hu with rfl | rfl <;> rfl
theorem str_one (x : List UInt8) : ∀ u ∈ ([.string (str x)] : List Value), u.oneCell' = true := by
  intro u hu
  simp only [List.mem_cons, List.not_mem_nil, or_false] at hu
  subst hu
  rfl
/-- What holds in each round. -/
def RdJ (F : Nat → Prop) (m : List UInt8) (t : Tr) (w : World) (g : Nat) (sv : Value) (wr : World) : Prop :=
  ∃ (f : Fr) (r : List Fr) (ps : List (Nat × Nat)) (vs : List Value), RStk (fun b => F b ∨ b = w.heap.size) (w.heap.size + 1) wr sv (r.reverse ++ [f]) ps vs ∧ Hid (goS m (goF m f) r = readR m t) ∧ todo (f :: r) ≤ g ∧ g ≤ 50000 ∧
    (∀ x ∈ f :: r, FrOk x) ∧ f.texts.length ≤ (partsT f.tree).length ∧ (∀ x ∈ r, x.texts.length < (partsT x.tree).length) ∧ Below w.heap.size w wr ∧ w.heap.size < wr.heap.size

set_option maxHeartbeats 8000000 in
set_option maxRecDepth 1000000 in
theorem read (F : Nat → Prop) (t : Tr) (kv : Value) (m : List UInt8) (w : World) (hF : ∀ g, F g → g < w.heap.size) (hT : TL F w kv t.kids) (htx : TxOk t) (hnd : nodes t ≤ 20000) (hm : m.length ≤ 140737488355328) :
    Calls Try.prog 50 #[trv t kv, .string (str m)] w (ReadE (readR m t) w) := by
  have hS := stk_start F t kv w hF hT
  have hst : RdJ F m t w 50000 (.slice (some ⟨w.heap.size + 1, 0, none⟩) 1 1) ((w.alloc (.cells #[.int .i64 (t.kind : Int), .int .i64 (t.place : Int), .string (str t.text), kv] 27)).alloc (.cells #[.pointer (some ⟨w.heap.size, 0, none⟩), .slice none 0 0] 124)) := by
    refine ⟨⟨t, []⟩, [], _, _, hS, goF_start m t, ?_, Nat.le_refl _, by intro x hx; simp at hx; subst hx; exact ⟨htx, hnd, by simp⟩, Nat.zero_le _, by simp, ((Below.refl _ _).alloc (Nat.le_refl _) _).alloc (by simp) _, by simp; omega⟩
    have := parts_nodes t
    simp [todo, left]
    omega
  unfold trv
  clear hT htx hnd hS
  go_enter Try.func50, Try.ntmps50
  go_wp2
  go_loopg [7] 50000 (fun g sv wr => RdJ F m t w g sv wr)
  case atStart => exact hst
  case round =>
    clear hst
    obtain ⟨f, r, ps, vs, hS, hq, htd, h5, hok, hfl, hrl, hbl, hws⟩ := hrel
    obtain ⟨ps', p, vs', v, gs, caps, rfl, rfl, rfl, hcap, q0, q1, hP, ho, hgB, hgs⟩ := hS.top
    obtain ⟨va, vc, hvs⟩ : ∃ va vc, v = .slice va f.texts.length vc := by
      rcases ho.2 with ⟨rfl, h0⟩ | ⟨k, cap, cur, rfl, _⟩
      · exact ⟨none, 0, by rw [h0]⟩
      · exact ⟨_, _, rfl⟩
    rw [List.length_reverse] at q0 q1 hcap ⊢
    have hF' : ∀ b, (F b ∨ b = w.heap.size) → b < wr.heap.size := fun b hb => by rcases hb with hb | hb; have := hF b hb; omega; omega
    have hwi := fun u (hu : Below wr.heap.size wr u) => within (fun b => F b ∨ b = w.heap.size) f.tree p.1 p.2 f.texts.length u (fun b hb => Nat.lt_of_lt_of_le (hF' b hb) hu.size) (hP.below hu hF')
    rw [hvs] at q1
    have hi : (r.length : Int) < (r.length : Int) + 1 := by omega
    have hnb := (todo_len f r).1
    have hnb' : r.length ≤ 50000 := by omega
    have hfo := hok f (by simp)
    have hnt : f.texts.length ≤ 20000 := by
      have h1 := parts_len f.tree
      have h2 := hfo.2.1
      omega
    clear hnb
    generalize hn : r.length = n at *
    clear hcap hgB
    by_cases hlt : f.texts.length < (partsT f.tree).length
    · have hwi' : ∀ u, Below wr.heap.size wr u → Calls Try.prog 63 #[.pointer (some ⟨p.1, p.2, none⟩), .int .i64 (f.texts.length : Int)] u fun e w' => ∃ g o, e = .returned (.pointer (some ⟨g, o, none⟩)) ∧ PT (fun b => F b ∨ b = w.heap.size) w' g o (partsT f.tree)[f.texts.length] ∧ Below u.heap.size u w' := by
        intro u hu
        refine (hwi u hu).mono ?_
        rintro e w' ⟨⟨h1, g, o, h2, h3⟩ | ⟨h1, _⟩, h4⟩
        · exact ⟨g, o, h2, h3, h4⟩
        · exact absurd hlt h1
      clear hwi
      go_wp2_with fail
      go_region_with (first
        | (go_at_call 63; refine (hwi' _ (below_drewN (Below.refl _ _) _)).mono ?_; rintro e w3 ⟨pg, po, rfl, hP3, hb3⟩))
      all_goals (
        have hb4 : Below wr.heap.size wr w3 := below_trans (below_drewN (Below.refl _ _) _) hb3
        have hS3 := hS.below hF' hb4
        have hb5 := hbl.trans (⟨hb4.os, hb4.tape, hb4.output, hb4.size, fun k hk => hb4.block k (by omega)⟩ : Below w.heap.size wr w3)
        have hws3 : w.heap.size < w3.heap.size := Nat.lt_of_lt_of_le hws hb4.size
        have hF3 : ∀ b, (F b ∨ b = w.heap.size) → b < w3.heap.size := fun b hb => Nat.lt_of_lt_of_le (hF' b hb) hb4.size
        have hlr : (r.reverse ++ [f]).length = n + 1 := by simp [hn]
        rw [List.length_reverse, hn] at hS3
        have hO := (hS3.alloc hF3 (.cells #[.pointer (some ⟨pg, po, none⟩), .slice none 0 0] 124)).own
        rw [hlr] at hO
        clear hwi' hS hP ho q0 q1 hF' hbl hb3 hb4 hws hvs hgs
        go_wp2_with (at_builtin; refine append_reading rfl (.tmp 31) (.tmp 34) rfl (w.heap.size + 1) _ (n + 1) (rdc (ps' ++ [p]) (vs' ++ [v])) rfl hO _ _ [.pointer (some ⟨pg, po, none⟩), .slice none 0 0] rfl rfl ?src (rd_one pg po) ?len ?hB _ rfl ?next)
        case src => first | exact cells_new _ _ _ | exact fun j u h => h
        case len => omega
        case hB => simp; omega
        case next =>
          intro g cap w' k1 k2 k3 k4
          have hS4 := RStk.push (sv' := .slice (some ⟨g, 0, none⟩) (n + 1 + 1) cap) (p := (pg, po)) (hS3.alloc hF3 (.cells #[.pointer (some ⟨pg, po, none⟩), .slice none 0 0] 124)) (fun b hb => by rcases hb with hb | hb; have := hF b hb; omega; omega) (by simp; omega) (hP3.below ((Below.refl _ _).alloc (Nat.le_refl _) _) hF3) (by rw [hlr]; exact k1) k2
          have hb6 : Below w.heap.size w w' := (hb5.alloc (by omega) _).grown k2 (by simp; omega) (fun k hk => by have := ((hS3.alloc hF3 (.cells #[.pointer (some ⟨pg, po, none⟩), .slice none 0 0] 124)).own.lt k hk).1; omega)
          have hw6 : w.heap.size < w'.heap.size := by have := k2.size; simp at this; omega
          have htp := todo_push f r hlt
          have HQ : Hid (goS m (goF m ⟨(partsT f.tree)[f.texts.length], []⟩) (f :: r) = readR m t) := by rw [hid_iff, goS_push m f r hlt]; exact hq.out
          clear k1 k2 k3 k4 hS3 hP3 hb5 hO
          go_wp2
          go_roundg (gk - 1)
          case measure => omega
          case rel =>
            refine ⟨⟨(partsT f.tree)[f.texts.length], []⟩, f :: r, ps' ++ [p] ++ [(pg, po)], vs' ++ [v] ++ [.slice none 0 0], ?_, HQ, by omega, by omega, ?_, Nat.zero_le _, ?_, hb6, hw6⟩
            · rw [List.reverse_cons]; exact hS4
            · intro x hx
              simp only [List.mem_cons] at hx
              rcases hx with rfl | hx
              · exact frOk_part hfo (List.getElem_mem _)
              · exact hok x (by simpa using hx)
            · intro x hx
              simp only [List.mem_cons] at hx
              rcases hx with rfl | hx
              · exact hlt
              · exact hrl x hx)
    · have hwi' : ∀ u, Below wr.heap.size wr u → Calls Try.prog 63 #[.pointer (some ⟨p.1, p.2, none⟩), .int .i64 (f.texts.length : Int)] u fun e w' => e = .returned (.pointer none) ∧ Below u.heap.size u w' := by
        intro u hu
        refine (hwi u hu).mono ?_
        rintro e w' ⟨⟨h1, g, o, h2, h3⟩ | ⟨_, h2⟩, h4⟩
        · exact absurd h1 hlt
        · exact ⟨h2, h4⟩
      clear hwi
      go_wp2_with fail
      go_region_with (first
        | (go_at_call 63; refine (hwi' _ (below_drewN (Below.refl _ _) _)).mono ?_; rintro e w3 ⟨rfl, hb3⟩))
      all_goals (
        have hb4 : Below wr.heap.size wr w3 := below_trans (below_drewN (Below.refl _ _) _) hb3
        have hS3 := hS.below hF' hb4
        have hb5 := hbl.trans (⟨hb4.os, hb4.tape, hb4.output, hb4.size, fun k hk => hb4.block k (by omega)⟩ : Below w.heap.size wr w3)
        have hws3 : w.heap.size < w3.heap.size := Nat.lt_of_lt_of_le hws hb4.size
        have hF3 : ∀ b, (F b ∨ b = w.heap.size) → b < w3.heap.size := fun b hb => Nat.lt_of_lt_of_le (hF' b hb) hb4.size
        have hP3 := hP.below hb4 hF'
        have ho3 := owns_below ho hb4
        have q03 := below_cell hb4 q0 hgs
        have q13 := below_cell hb4 q1 hgs
        have hgs3 : gs < w3.heap.size := Nat.lt_of_lt_of_le hgs hb4.size
        have hle : f.texts.length = (partsT f.tree).length := by omega
        have hmd := madeOf (fun b => F b ∨ b = w.heap.size) f.tree p.1 p.2 (.slice va f.texts.length vc) m w3 hF3 hP3 ((TxOk_iff _).1 hfo.1).1 hm f.texts (by rw [← hvs]; exact strRow_own ho3) hle hfo.2.2 (by omega)
        have HLE : Hid (f.texts.length = (partsT f.tree).length) := hle
        clear hle hlt hfl
        clear hwi' hS hP ho q0 q1 hF' hbl hb3 hb4 hws hgs
        rw [List.length_reverse, hn] at hS3
        cases hmr : madeR m f.tree f.texts with
        | error y =>
          rw [hmr] at hmd
          have HQ : Hid (readR m t = .error (y, f.tree.place)) := by rw [hid_iff, ← hq.out]; exact goS_bad m f r y HLE.out hmr
          have hy0 : ((y : Int) != 0) = true := by have := madeR_err hmr; simp; omega
          clear hmr hq
          go_wp2_with fail
          refine hmd.mono ?_
          rintro e w5 ⟨rfl, hb6⟩
          obtain ⟨hFp, kvp, _, _, c1, _, _⟩ := hP3.below hb6 hF3
          have q05 := below_cell hb6 q03 hgs3
          have hb7 := hb5.trans (⟨hb6.os, hb6.tape, hb6.output, hb6.size, fun k hk => hb6.block k (by omega)⟩ : Below w.heap.size w3 w5)
          clear hmd hP3 q03 q13 ho3 hS3 hb5 hb6
          go_wp2
          go_region
          go_wp2
          go_ret3
          exact readE_no HQ.out rfl rfl rfl ⟨hb7.os, hb7.tape, hb7.output, hb7.size, hb7.block⟩
        | ok x =>
          rw [hmr] at hmd
          cases r with
          | nil =>
            have HQ : Hid (readR m t = .ok x) := by rw [hid_iff, ← hq.out]; exact goS_end m f x HLE.out hmr
            simp only [List.length_nil] at hn
            subst hn
            clear hmr hq
            go_wp2_with fail
            refine hmd.mono ?_
            rintro e w5 ⟨rfl, hb6⟩
            have hb7 := hb5.trans (⟨hb6.os, hb6.tape, hb6.output, hb6.size, fun k hk => hb6.block k (by omega)⟩ : Below w.heap.size w3 w5)
            clear hmd hP3 q03 q13 ho3 hS3 hb5 hb6
            go_wp2
            go_ret3
            exact readE_ok HQ.out hb7
          | cons g0 r0 =>
            have HQ : Hid (goS m (goF m ⟨g0.tree, g0.texts ++ [x]⟩) r0 = readR m t) := by rw [hid_iff, ← hq.out]; exact (goS_pop m f g0 r0 x HLE.out hmr).symm
            have hxl := madeR_len hmr
            have htp := todo_pop f g0 r0 x
            have hgo := hok g0 (by simp)
            have hgl := hrl g0 (by simp)
            have hgt : g0.texts.length ≤ 20000 := by
              have h1 := parts_len g0.tree
              have h2 := hgo.2.1
              omega
            simp only [List.length_cons] at hn
            obtain ⟨k, rfl⟩ : ∃ k, n = k + 1 := ⟨r0.length, hn.symm⟩
            have hk : r0.length = k := by omega
            clear hmr hq hn
            rw [List.reverse_cons] at hS3
            go_wp2_with fail
            refine hmd.mono ?_
            rintro e w5 ⟨rfl, hb6⟩
            have hb7 := hb5.trans (⟨hb6.os, hb6.tape, hb6.output, hb6.size, fun k hk => hb6.block k (by omega)⟩ : Below w.heap.size w3 w5)
            have hw5 : w.heap.size < w5.heap.size := Nat.lt_of_lt_of_le hws3 hb6.size
            have hF5 : ∀ b, (F b ∨ b = w.heap.size) → b < w5.heap.size := fun b hb => Nat.lt_of_lt_of_le (hF3 b hb) hb6.size
            have hS5 := (hS3.below hF3 hb6).pop (by simp [hk])
            obtain ⟨ps2, p2, vs2, v2, gs2, caps2, e1, e2, e3, hcap2, q02, q12, _, ho2, _, _⟩ := hS5.top
            rw [List.length_reverse, hk] at e3 q02 q12 hcap2
            simp only [Value.slice.injEq, Option.some.injEq, Addr.mk.injEq, and_true, true_and] at e3
            obtain ⟨rfl, rfl⟩ := e3
            rw [e1, e2] at hS5
            obtain ⟨va2, vc2, hvs2⟩ : ∃ va2 vc2, v2 = .slice va2 g0.texts.length vc2 := by
              rcases ho2.2 with ⟨rfl, h0⟩ | ⟨k', cap', cur', rfl, _⟩
              · exact ⟨none, 0, by rw [h0]⟩
              · exact ⟨_, _, rfl⟩
            subst hvs2
            have hn0 : (((k + 1 : Nat) : Int) == 0) = false := by rw [beq_eq_false_iff_ne]; omega
            have hc1 : ((k : Int) + 1) ≤ (caps : Int) := by omega
            have hk1 : (k : Int) < (k : Int) + 1 := by omega
            have hSa := hS5.alloc hF5 (.cells #[.string (str x)] 9)
            have hoa := ho2.alloc (.cells #[.string (str x)] 9)
            have hb8 : Below w.heap.size w (w5.alloc (.cells #[.string (str x)] 9)) := hb7.alloc (by omega) _
            clear hmd hP3 q03 q13 ho3 hS3 hb5 hb6 hS5 hb7 q02
            go_wp2_with (at_builtin; refine append_texts rfl (.tmp 70) (.tmp 72) rfl (w.heap.size + 1) _ g0.texts.length (sc g0.texts) rfl hoa _ _ [.string (str x)] rfl rfl ?src (str_one x) ?len ?hB _ rfl ?next)
            case src => first | exact cells_new _ _ _ | exact fun j u h => h
            case len => omega
            case hB => simp; omega
            case next =>
              intro g cap w' k1 k2 k3 k4
              obtain ⟨a1, a2, a3, a4⟩ := RStk.add (H := w5.heap.size + 1) hSa (by simp [hk]) (fun b hb => by rcases hb with hb | hb; have := hF b hb; omega; omega) (by simp; omega) (by simp) k1 k2 k3
              have hb9 : Below w.heap.size w (w'.setCell ⟨gs, k * 2 + 1, none⟩ (.slice (some ⟨g, 0, none⟩) (g0.texts.length + 1) cap)) := hb8.trans ⟨a4.os, a4.tape, a4.output, a4.size, fun b hb => a4.block b (by omega)⟩
              have hw9 : w.heap.size < (w'.setCell ⟨gs, k * 2 + 1, none⟩ (.slice (some ⟨g, 0, none⟩) (g0.texts.length + 1) cap)).heap.size := by have := a4.size; simp at this ⊢; omega
              clear k1 k2 k3 k4 hSa hoa hb8 a4 q12 ho2
              go_wp2
              go_roundg (gk - 1)
              case measure => omega
              case rel =>
                refine ⟨⟨g0.tree, g0.texts ++ [x]⟩, r0, _, _, a3, HQ, by omega, by omega, ?_, by simp; omega, fun y hy => hrl y (by simp [hy]), hb9, hw9⟩
                intro y hy
                simp only [List.mem_cons] at hy
                rcases hy with rfl | hy
                · refine ⟨hgo.1, hgo.2.1, fun z hz => ?_⟩
                  simp only [List.mem_append, List.mem_singleton] at hz
                  rcases hz with hz | rfl
                  · exact hgo.2.2 z hz
                  · exact hxl
                · exact hok y (by simp [hy]))
end Go.Proofs.Ytchfhkfepghfjaa

namespace Go.Proofs.Ytchfhkfepghfjaa

theorem nodes_toks (t : Tr) : Right t → nodes t ≤ (toks t).length := by
  induction t using tr_ind with
  | h t ih =>
    intro hR
    rw [Right_eq] at hR
    rw [nodes_eq, toks_eq]
    rcases hR with ⟨h1, _, h3⟩ | ⟨h1, _, h3, _⟩
    · rw [if_pos h1]
      have key : ∀ l : List Tr, (∀ k ∈ l, k ∈ t.kids) → (l.map nodes).sum ≤ ((l.map toks).flatten).length := by
        intro l
        induction l with
        | nil => intro _; simp
        | cons a l ihl =>
          intro hl
          have h5 := ih a (hl a (by simp)) (h3 a (hl a (by simp)))
          have h6 := ihl (fun k hk => hl k (by simp [hk]))
          simp only [List.map_cons, List.sum_cons, List.flatten_cons, List.length_append]
          omega
      have := key t.kids (fun k hk => hk)
      simp only [List.length_cons, List.length_append, List.length_nil]
      omega
    · rw [h3]
      simp [h1]
theorem tx_toks (t : Tr) : Right t → (∀ k ∈ toks t, k.text.length ≤ 8192) → TxOk t := by
  induction t using tr_ind with
  | h t ih =>
    intro hR hk
    rw [TxOk_iff]
    rw [toks_eq] at hk
    rw [Right_eq] at hR
    rcases hR with ⟨h1, _, h3⟩ | ⟨h1, _, h3, _⟩
    · rw [if_pos h1] at hk
      refine ⟨hk ⟨1, t.place, t.text⟩ (by simp), fun k hkk => ih k hkk (h3 k hkk) (fun j hj => hk j ?_)⟩
      simp only [List.mem_cons, List.mem_append, List.mem_flatten, List.mem_map]
      exact .inr (.inl ⟨toks k, ⟨k, hkk, rfl⟩, hj⟩)
    · rw [if_neg h1] at hk
      refine ⟨hk ⟨t.kind, t.place, t.text⟩ (by simp), fun k hkk => ?_⟩
      rw [h3] at hkk
      cases hkk
theorem parse_fit {L : List UInt8} {t : Tr} (h : parseR L = .ok t) : TxOk t ∧ nodes t ≤ 8192 := by
  obtain ⟨h1, h2, _, _⟩ := parse_ok h
  obtain ⟨h3, h4⟩ := split_size h2
  have h5 := nodes_toks t h1
  exact ⟨tx_toks t h1 h4, by omega⟩
end Go.Proofs.Ytchfhkfepghfjaa
