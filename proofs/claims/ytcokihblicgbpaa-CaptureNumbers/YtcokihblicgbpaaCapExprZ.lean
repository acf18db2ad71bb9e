/-
  Captures: the statements' expr: a text that is read as an expression.
-/
import Derived.Test.YtcokihblicgbpaaRef6DoneZ
import Derived.Test.YtcokihblicgbpaaRfTrZ
import Derived.Test.YtcokihblicgbpaaParseFitZ
import Derived.Test.YtcokihblicgbpaaCapFitZ
namespace Go.Proofs.Ytcokihblicgbpaa
open Go.RowKit

abbrev z9 : Array Value := #[.int .i64 0, .int .i64 0, .string ⟨#[]⟩, .complex .f64 0 0, .string ⟨#[]⟩, .string ⟨#[]⟩, .slice none 0 0, .slice none 0 0, .slice none 0 0]
/-- A box that holds an expression. -/
def BxE (W : World) (b : Nat) (e : Ex) (kv pv av : Value) : Prop := W.heap[b]? = some (.cells (exc e kv pv av).toArray 27 (0, 0))
theorem store_ex {w : World} {ops : Array Oper} {rest : List Oper} {o : Oper} {a : Act} {Q : Exit → Act → World → Prop} (hgd : o.guard = none) (x y : Operand) (ho : o.op = .store 27 x y) (g : Nat) (e : Ex) (kv pv av : Value)
    (hx : a.eval x = .pointer (some ⟨g, 0, none⟩)) (hy : a.eval y = exv e kv pv av) (hs : (∃ p n c, kv = .slice p n c) ∧ (∃ p n c, pv = .slice p n c) ∧ ∃ p n c, av = .slice p n c) (old : Array Value) (hg : w.heap[g]? = some (.cells old 27 (0, 0))) (hold : old.size = 9)
    (h : ∀ W', BxE W' g e kv pv av → Kept (fun q => q = g) w W' → wpList Try.prog ops Q rest (a.put o.dst undef) W') : wpList Try.prog ops Q (o :: rest) a w := by
  obtain ⟨⟨p1, n1, c1, rfl⟩, ⟨p2, n2, c2, rfl⟩, ⟨p3, n3, c3, rfl⟩⟩ := hs
  refine wpList_store_row hgd 27 x y ho g (exc e (.slice p1 n1 c1) (.slice p2 n2 c2) (.slice p3 n3 c3)).toArray hx hy 27 old hg sizeEx hold (by first | kernel_rfl | rfl | simp [exc, Value.oneCell']) ?_
  exact h _ (setRow_same6 w g _ _ _ _ hg) (setRow_kept6 w g _)
theorem load_ex {w : World} {ops : Array Oper} {rest : List Oper} {o : Oper} {a : Act} {Q : Exit → Act → World → Prop} (hgd : o.guard = none) (x : Operand) (ho : o.op = .load 27 x) (g : Nat) (e : Ex) (kv pv av : Value)
    (hx : a.eval x = .pointer (some ⟨g, 0, none⟩)) (hg : BxE w g e kv pv av) (h : wpList Try.prog ops Q rest (a.put o.dst (exv e kv pv av)) w) : wpList Try.prog ops Q (o :: rest) a w :=
  wpList_load_row hgd 27 x ho g hx 27 _ (0, 0) _ hg Try.underlying27 rfl sizeEx h
/-- The same where the operation is guarded, and wanted. -/
theorem load_exG {w : World} {ops : Array Oper} {rest : List Oper} {o : Oper} {a : Act} {Q : Exit → Act → World → Prop} (hw : Region.wanted o (yielded ops a.tmps) = true) (x : Operand) (ho : o.op = .load 27 x) (g : Nat) (e : Ex) (kv pv av : Value)
    (hx : a.eval x = .pointer (some ⟨g, 0, none⟩)) (hg : BxE w g e kv pv av) (h : wpList Try.prog ops Q rest (a.put o.dst (exv e kv pv av)) w) : wpList Try.prog ops Q (o :: rest) a w :=
  BigFrame.wpList_want hw fun _ hK => wp_load_row 27 x ho g hx 27 _ (0, 0) _ hg Try.underlying27 rfl sizeEx (hK _ _ h)
theorem BxE.kept {S : Nat → Prop} {W W' : World} {b : Nat} {e : Ex} {kv pv av : Value} (h : BxE W b e kv pv av) (k : Kept S W W') (hb : ¬ S b) : BxE W' b e kv pv av := (k.block b (Array.getElem?_eq_some_iff.1 h).1 hb).trans h
theorem BxE.lt {W : World} {b : Nat} {e : Ex} {kv pv av : Value} (h : BxE W b e kv pv av) : b < W.heap.size := (Array.getElem?_eq_some_iff.1 h).1
/-- An expression is answered. -/
def ExA (e : Ex) (w : World) (r : Ending) (w' : World) : Prop := ∃ kv pv av, r = .returned (.tuple #[exv e kv pv av, .bool true]) ∧ XI (fun g => w.heap.size ≤ g ∧ g < w'.heap.size) w' kv pv av e ∧ Below w.heap.size w w'
theorem xi_shapes {F : Nat → Prop} {w : World} {kv pv av : Value} {e : Ex} (h : XI F w kv pv av e) : (∃ p n c, kv = .slice p n c) ∧ (∃ p n c, pv = .slice p n c) ∧ ∃ p n c, av = .slice p n c := by
  obtain ⟨⟨a, c, h1⟩, ⟨a', c', h2⟩, ⟨a'', c'', h3⟩⟩ := h.shapes
  exact ⟨⟨_, _, _, h1⟩, ⟨_, _, _, h2⟩, ⟨_, _, _, h3⟩⟩
set_option maxRecDepth 1000000 in
set_option maxHeartbeats 2000000 in
theorem exprW_ok (s : ByteArray) (t : Tr) (e : Ex) (hp : parseR s.data.toList = .ok t) (he : exprP [109] t = .ok e) (w : World) : Calls Try.prog 6 #[.string s] w (ExA e w) := by
  obtain ⟨htx, hnd⟩ := parse_fit hp
  have hpa : ∀ u, Calls Try.prog 20 #[.string s] u fun r u' => ∃ kv, r = .returned (.tuple #[trv t kv, .int .i64 0, .int .i64 0]) ∧ TL (fun g => u.heap.size ≤ g ∧ g < u'.heap.size) u' kv t.kids ∧ Below u.heap.size u u' := fun u => (refParse s u).mono fun r u' h => by
    rw [hp] at h
    obtain ⟨⟨kv, h1, h2⟩, h3⟩ := h
    exact ⟨kv, h1, h2, h3⟩
  have hex : ∀ (F : Nat → Prop) kv u, (∀ g, F g → g < u.heap.size) → TL F u kv t.kids → Calls Try.prog 21 #[trv t kv, .string ⟨#[109]⟩] u fun r u' => ∃ kv pv av, r = .returned (.tuple #[exv e kv pv av, .int .i64 0, .int .i64 0]) ∧ XI (fun g => u.heap.size ≤ g ∧ g < u'.heap.size) u' kv pv av e ∧ Below u.heap.size u u' := fun F kv u hF hT => (refExpr6 F t kv [109] u hF hT htx hnd (by decide)).mono fun r u' h => by
    rw [he] at h
    obtain ⟨⟨k, p, a, h1, h2⟩, h3⟩ := h
    exact ⟨k, p, a, h1, h2, h3⟩
  have HP := hidden hpa
  have HX := hidden hex
  clear hpa hex hp he htx hnd
  have hz := heap_alloc_new w (.cells z9 27)
  have hb1 : Below w.heap.size w (w.alloc (.cells z9 27)) := (Below.refl _ w).alloc (Nat.le_refl _) _
  have hs1 : (w.alloc (.cells z9 27)).heap.size = w.heap.size + 1 := by simp
  simp only [z9] at hz hb1 hs1
  go_enter Try.func6, Try.ntmps6
  go_wp2_with fail
  generalize (w.alloc (.cells #[.int .i64 0, .int .i64 0, .string ⟨#[]⟩, .complex .f64 0 0, .string ⟨#[]⟩, .string ⟨#[]⟩, .slice none 0 0, .slice none 0 0, .slice none 0 0] 27)) = W1 at *
  refine (HP.out _).mono ?_
  rintro r w2 ⟨kv, rfl, hT, hb2⟩
  obtain ⟨ka, kn, kc, rfl⟩ : ∃ ka kn kc, kv = .slice ka kn kc := by obtain ⟨a, c, h⟩ := hT.shape; exact ⟨_, _, _, h⟩
  have hz2 := (hb2.block _ (by omega)).trans hz
  have hT3 : TL (fun g => W1.heap.size ≤ g ∧ g < w2.heap.size) (w2.alloc (.cells #[.int .i64 (t.kind : Int), .int .i64 (t.place : Int), .string (str t.text), .slice ka kn kc] 43)) (.slice ka kn kc) t.kids := hT.frame fun g hg => ⟨hg, Below.heap_alloc _ _ _ hg.2⟩
  have hb3 : Below w2.heap.size w2 (w2.alloc (.cells #[.int .i64 (t.kind : Int), .int .i64 (t.place : Int), .string (str t.text), .slice ka kn kc] 43)) := (Below.refl _ _).alloc (Nat.le_refl _) _
  have hca := HX.out _ _ (w2.alloc (.cells #[.int .i64 (t.kind : Int), .int .i64 (t.place : Int), .string (str t.text), .slice ka kn kc] 43)) (fun g hg => Nat.lt_of_lt_of_le hg.2 hb3.size) hT3
  have HS1 : Hid (W1.heap.size = w.heap.size + 1) := hs1
  unfold trv at hca
  clear hT hT3 HP HX hs1 hz
  unfold trv
  go_wp2_with fail
  generalize (w2.alloc (.cells #[.int .i64 (t.kind : Int), .int .i64 (t.place : Int), .string (str t.text), .slice ka kn kc] 43)) = W3 at *
  have hz3 := (hb3.block _ (Array.getElem?_eq_some_iff.1 hz2).1).trans hz2
  refine hca.mono ?_
  rintro r w4 ⟨k1, p1, a1, rfl, hXI, hb4⟩
  have hz4 := (hb4.block _ (Array.getElem?_eq_some_iff.1 hz3).1).trans hz3
  have hn4 := heap_alloc_new w4 (.cells z9 27)
  have hb5 : Below w4.heap.size w4 (w4.alloc (.cells z9 27)) := (Below.refl _ _).alloc (Nat.le_refl _) _
  have hz5 := (hb5.block _ (Array.getElem?_eq_some_iff.1 hz4).1).trans hz4
  simp only [z9] at hn4 hb5 hz5
  have hsh := xi_shapes hXI
  clear hca hz2 hz3 hz4
  go_upto_region 5 with (refine store_ex rfl (.tmp 7) (.tmp 22) rfl w4.heap.size e k1 p1 a1 rfl rfl hsh _ hn4 rfl ?_; intro w5 hB5 hK5)
  have hz6 := (hK5.block _ (Array.getElem?_eq_some_iff.1 hz5).1 (by have h1 := HS1.out; have h2 := hb2.size; have h3 := hb3.size; have h4 := hb4.size; omega)).trans hz5
  have HSZ : Hid (w.heap.size + 1 ≤ W3.heap.size ∧ W3.heap.size ≤ w4.heap.size) := ⟨by have h1 := HS1.out; have h2 := hb2.size; have h3 := hb3.size; omega, hb4.size⟩
  go_wp2_with (first
    | (refine load_ex rfl (.tmp 7) rfl w4.heap.size e k1 p1 a1 rfl hB5 ?_)
    | (refine store_ex rfl (.tmp 2) (.tmp 25) rfl w.heap.size e k1 p1 a1 rfl rfl hsh _ hz6 rfl ?_; intro w7 hB7 hK7))
  refine bodyPost_ret (res_cell2 rfl _ _ w.heap.size 27 (exc e k1 p1 a1).toArray (0, 0) _ rfl hB7 Try.underlying27 rfl sizeEx) rfl ?_
  obtain ⟨q1, q2⟩ := HSZ.out
  have hk : Kept (fun q => q = w.heap.size ∨ w4.heap.size ≤ q) w4 w7 := ((Kept.of_below hb5).trans (hK5.trans hK7 (U := fun q => q = w.heap.size ∨ w4.heap.size ≤ q) (fun _ _ h => .inr (by omega)) (fun _ _ h => .inl h)) (fun _ _ h => .inr h) (fun _ _ h => h))
  have hz7 := hk.size
  refine ⟨k1, p1, a1, rfl, XI.frame (fun g hg => ⟨⟨by have := hg.1; omega, by have := hg.2; omega⟩, hk.block g hg.2 (by have := hg.1; have := hg.2; omega)⟩) _ hXI, ?_⟩
  have hbw : Below w.heap.size w w4 := hb1.trans ((hb2.trans ((hb3.trans (hb4.mono hb3.size)).mono hb2.size)).mono hb1.size)
  exact hbw.trans (hk.below hbw.size (fun q hq h => by omega))
end Go.Proofs.Ytcokihblicgbpaa
