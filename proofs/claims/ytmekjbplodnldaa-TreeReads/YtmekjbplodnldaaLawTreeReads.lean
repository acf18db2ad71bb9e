/-
  For any text: the law TreeReads answers true: a text is read as a tree, or refused, with the place, as the document says, and printed as it says. No condition but those of the row.
-/
import Derived.Test.YtmekjbplodnldaaRows
import Derived.Test.YtmekjbplodnldaaTreeSame
import Derived.Test.YtmekjbplodnldaaTreeRefPrint
import Derived.Test.YtmekjbplodnldaaTreeRefParse
import Derived.ProofKit
import Derived.OpenShut
import Derived.ShutString
import Derived.SizedLaws
namespace Go.Proofs.Ytmekjbplodnldaa
open Go.ChangeShapes Go.WideShapes Go.ChangeAt Go.RowKit
open Go.ChangeMaps (open_string shut_string)

def prT (r : Except (Nat × Nat) Tr) : Tr × Nat × Nat := match r with
  | .ok t => (t, 0, 0)
  | .error (y, b) => (root, y, b)
theorem PE.flat {r : Except (Nat × Nat) Tr} {w w' : World} {e : Ending} (h : PE r w e w') : ∃ kv, e = .returned (.tuple #[trv (prT r).1 kv, .int .i64 ((prT r).2.1 : Int), .int .i64 ((prT r).2.2 : Int)]) ∧ TL (fun g => w.heap.size ≤ g ∧ g < w'.heap.size) w' kv (prT r).1.kids ∧ Below w.heap.size w w' := by
  obtain ⟨h1, h2⟩ := h
  cases r with
  | ok t =>
    obtain ⟨kv, he, ht⟩ := h1
    exact ⟨kv, he, ht, h2⟩
  | error yb =>
    obtain ⟨y, b⟩ := yb
    exact ⟨.slice none 0 0, h1, TL.nil _ _, h2⟩
theorem prT_size (L : List UInt8) : (pr (prT (parseR L)).1).length ≤ 1000000000000 ∧ tsz (prT (parseR L)).1 ≤ 1000000000 := by
  cases h : parseR L with
  | ok t =>
    obtain ⟨h1, h2, h3, h4⟩ := parse_ok h
    have h5 := tsz_toks t h1
    have h6 := (split_size h2).1
    show (pr t).length ≤ _ ∧ tsz t ≤ _
    omega
  | error yb =>
    obtain ⟨y, b⟩ := yb
    show (pr root).length ≤ _ ∧ tsz root ≤ _
    rw [pr_eq, tsz_eq]
    decide

set_option maxHeartbeats 4000000 in
set_option maxRecDepth 1000000 in
theorem reads_walk (s : ByteArray) (w : World) : Calls Try.prog 4 #[.string s] w (KnownE w) := by
  have hp := fun w => (parse s w).mono (fun e w' h => PE.flat h)
  have hq := fun w => (refParse s w).mono (fun e w' h => PE.flat h)
  obtain ⟨hl, hz⟩ := prT_size s.data.toList
  generalize prT (parseR s.data.toList) = r at *
  obtain ⟨T, y, b⟩ := r
  simp only at hp hq hl hz
  go_enter Try.func4, Try.ntmps4
  go_wp2_with fail
  refine (hp _).mono ?_
  rintro e w1 ⟨kv, rfl, ht1, hb1⟩
  obtain ⟨ka, kc, rfl⟩ := ht1.shape
  unfold trv
  go_wp2_with fail
  refine (hq _).mono ?_
  rintro e w2 ⟨lv, rfl, ht2, hb2⟩
  obtain ⟨la, lc, rfl⟩ := ht2.shape
  unfold trv
  have hs1 : w1.heap.size + 1 ≤ w2.heap.size := by have := hb2.size; simpa using this
  have KA : Kept (fun _ => False) w1 (w2.alloc (.cells #[.int .i64 (T.kind : Int), .int .i64 (T.place : Int), .string (str T.text), .slice la T.kids.length lc] 32)) := (((Kept.refl _ w1).alloc (.cells #[.int .i64 (T.kind : Int), .int .i64 (T.place : Int), .string (str T.text), .slice ka T.kids.length kc] 24)).trans ((Kept.of_below hb2).mono (T := fun _ => False) (fun k hk h => by omega)) (fun _ _ h => h) (fun _ _ h => h)).alloc _
  have hbx1 : (w2.alloc (.cells #[.int .i64 (T.kind : Int), .int .i64 (T.place : Int), .string (str T.text), .slice la T.kids.length lc] 32)).heap[w1.heap.size]? = some (.cells #[.int .i64 (T.kind : Int), .int .i64 (T.place : Int), .string (str T.text), .slice ka T.kids.length kc] 24) := by
    rw [Below.heap_alloc _ _ _ (by omega), hb2.block _ (by simp)]
    exact heap_alloc_new w1 _
  have hbx2 : (w2.alloc (.cells #[.int .i64 (T.kind : Int), .int .i64 (T.place : Int), .string (str T.text), .slice la T.kids.length lc] 32)).heap[w2.heap.size]? = some (.cells #[.int .i64 (T.kind : Int), .int .i64 (T.place : Int), .string (str T.text), .slice la T.kids.length lc] 32) := heap_alloc_new w2 _
  have hT1 := ht1.kept KA (fun g hg => ⟨hg.2, fun h => h⟩)
  have hT2 := ht2.kept ((Kept.refl (fun _ => False) w2).alloc (.cells #[.int .i64 (T.kind : Int), .int .i64 (T.place : Int), .string (str T.text), .slice la T.kids.length lc] 32)) (fun g hg => ⟨hg.2, fun h => h⟩)
  have hBW : Below w.heap.size w (w2.alloc (.cells #[.int .i64 (T.kind : Int), .int .i64 (T.place : Int), .string (str T.text), .slice la T.kids.length lc] 32)) := hb1.trans (KA.below hb1.size (fun _ _ h => h))
  have hsz : Hid ((w2.alloc (.cells #[.int .i64 (T.kind : Int), .int .i64 (T.place : Int), .string (str T.text), .slice la T.kids.length lc] 32)).heap.size = w2.heap.size + 1) := by simp [Hid]
  have G0 : Below (w2.heap.size + 1) (w2.alloc (.cells #[.int .i64 (T.kind : Int), .int .i64 (T.place : Int), .string (str T.text), .slice la T.kids.length lc] 32)) (w2.alloc (.cells #[.int .i64 (T.kind : Int), .int .i64 (T.place : Int), .string (str T.text), .slice la T.kids.length lc] 32)).drew := (Below.refl _ _).drew
  have hS : ∀ u, Below (w2.heap.size + 1) (w2.alloc (.cells #[.int .i64 (T.kind : Int), .int .i64 (T.place : Int), .string (str T.text), .slice la T.kids.length lc] 32)) u → u.cell? ⟨w1.heap.size, 0, none⟩ = some (.int .i64 (T.kind : Int)) ∧ u.cell? ⟨w1.heap.size, 1, none⟩ = some (.int .i64 (T.place : Int)) ∧ u.cell? ⟨w1.heap.size, 2, none⟩ = some (.string (str T.text)) ∧ u.cell? ⟨w1.heap.size, 3, none⟩ = some (.slice ka T.kids.length kc) ∧ u.cell? ⟨w2.heap.size, 0, none⟩ = some (.int .i64 (T.kind : Int)) ∧ u.cell? ⟨w2.heap.size, 1, none⟩ = some (.int .i64 (T.place : Int)) ∧ u.cell? ⟨w2.heap.size, 2, none⟩ = some (.string (str T.text)) ∧ u.cell? ⟨w2.heap.size, 3, none⟩ = some (.slice la T.kids.length lc) := by
    intro u hu
    obtain ⟨d0, d1, d2, d3, _⟩ := four_cells ((hu.block w1.heap.size (by omega)).trans hbx1)
    obtain ⟨e0, e1, e2, e3, _⟩ := four_cells ((hu.block w2.heap.size (by omega)).trans hbx2)
    exact ⟨d0, d1, d2, d3, e0, e1, e2, e3⟩
  have hsu : ∀ u, Below (w2.heap.size + 1) (w2.alloc (.cells #[.int .i64 (T.kind : Int), .int .i64 (T.place : Int), .string (str T.text), .slice la T.kids.length lc] 32)) u → w2.heap.size + 1 ≤ u.heap.size := fun u hu => by have := hu.size; rw [hsz.out] at this; exact this
  have c1 : ∀ u, Below (w2.heap.size + 1) (w2.alloc (.cells #[.int .i64 (T.kind : Int), .int .i64 (T.place : Int), .string (str T.text), .slice la T.kids.length lc] 32)) u → TL (fun g => w.heap.size ≤ g ∧ g < w1.heap.size) u (.slice ka T.kids.length kc) T.kids := fun u hu => hT1.kept (Kept.of_below hu) (fun g hg => ⟨by rw [hsz.out]; omega, by omega⟩)
  have c2 : ∀ u, Below (w2.heap.size + 1) (w2.alloc (.cells #[.int .i64 (T.kind : Int), .int .i64 (T.place : Int), .string (str T.text), .slice la T.kids.length lc] 32)) u → TL (fun g => (w1.alloc (.cells #[.int .i64 (T.kind : Int), .int .i64 (T.place : Int), .string (str T.text), .slice ka T.kids.length kc] 24)).heap.size ≤ g ∧ g < w2.heap.size) u (.slice la T.kids.length lc) T.kids := fun u hu => hT2.kept (Kept.of_below hu) (fun g hg => ⟨by rw [hsz.out]; omega, by omega⟩)
  have hsame : ∀ u, Below (w2.heap.size + 1) (w2.alloc (.cells #[.int .i64 (T.kind : Int), .int .i64 (T.place : Int), .string (str T.text), .slice la T.kids.length lc] 32)) u → Calls Try.prog 12 #[trv T (.slice ka T.kids.length kc), trv T (.slice la T.kids.length lc), .bool true] u (KnownE u) := fun u hu => sameT T T true _ _ _ _ u (c1 u hu) (c2 u hu) (fun g hg => by have := hsu u hu; omega) (fun g hg => by have := hsu u hu; omega) (.inr rfl) hz
  have hprint : ∀ u, Below (w2.heap.size + 1) (w2.alloc (.cells #[.int .i64 (T.kind : Int), .int .i64 (T.place : Int), .string (str T.text), .slice la T.kids.length lc] 32)) u → Calls Try.prog 9 #[trv T (.slice ka T.kids.length kc)] u (TextE (pr T) u) := fun u hu => print T _ _ u (c1 u hu) (fun g hg => by have := hsu u hu; omega) hl
  have hrefp : ∀ u, Below (w2.heap.size + 1) (w2.alloc (.cells #[.int .i64 (T.kind : Int), .int .i64 (T.place : Int), .string (str T.text), .slice la T.kids.length lc] 32)) u → Calls Try.prog 13 #[trv T (.slice la T.kids.length lc)] u (TextE (pr T) u) := fun u hu => refPrint T _ _ u (c2 u hu) (fun g hg => by have := hsu u hu; omega) hl hz
  have hnext : ∀ u u', Below (w2.heap.size + 1) (w2.alloc (.cells #[.int .i64 (T.kind : Int), .int .i64 (T.place : Int), .string (str T.text), .slice la T.kids.length lc] 32)) u → Below u.heap.size u u' → Below (w2.heap.size + 1) (w2.alloc (.cells #[.int .i64 (T.kind : Int), .int .i64 (T.place : Int), .string (str T.text), .slice la T.kids.length lc] 32)) u' := fun u u' hu h => hu.trans (h.mono (hsu u hu))
  unfold trv at hsame hprint hrefp
  clear hp hq ht1 ht2 hb1 hb2 KA hbx1 hbx2 hT1 hT2 c1 c2 hsu
  obtain ⟨d0, d1, d2, d3, e0, e1, e2, e3⟩ := hS _ G0
  have hBx := fun u => fun (hu : Below (w2.heap.size + 1) (w2.alloc (.cells #[.int .i64 (T.kind : Int), .int .i64 (T.place : Int), .string (str T.text), .slice la T.kids.length lc] 32)) u) => Below.trans hBW (hu.mono (by have := hBW.size; rw [hsz.out] at this; exact this))
  clear hsz hBW
  generalize hW : w2.alloc (.cells #[.int .i64 (T.kind : Int), .int .i64 (T.place : Int), .string (str T.text), .slice la T.kids.length lc] 32) = W at *
  go_wp2
  clear hW
  go_region_held3 (fun u => u.cell? ⟨w1.heap.size, 0, none⟩ = some (.int .i64 (T.kind : Int)) ∧ u.cell? ⟨w1.heap.size, 1, none⟩ = some (.int .i64 (T.place : Int)) ∧ u.cell? ⟨w1.heap.size, 2, none⟩ = some (.string (str T.text)) ∧ u.cell? ⟨w1.heap.size, 3, none⟩ = some (.slice ka T.kids.length kc) ∧ u.cell? ⟨w2.heap.size, 0, none⟩ = some (.int .i64 (T.kind : Int)) ∧ u.cell? ⟨w2.heap.size, 1, none⟩ = some (.int .i64 (T.place : Int)) ∧ u.cell? ⟨w2.heap.size, 2, none⟩ = some (.string (str T.text)) ∧ u.cell? ⟨w2.heap.size, 3, none⟩ = some (.slice la T.kids.length lc)) (first | go_keep | exact hS _ (by assumption)) (first | (go_at_call 12; refine (hsame _ (by assumption)).mono ?_; rintro e w4 ⟨rfl, hb4⟩; have G4 := hnext _ _ (by assumption) hb4; obtain ⟨d0, d1, d2, d3, e0, e1, e2, e3⟩ := hS _ G4; clear hb4) | (go_at_call 9; refine (hprint _ (by assumption)).mono ?_; rintro e w5 ⟨rfl, hb5⟩; have G5 := hnext _ _ (by assumption) hb5; obtain ⟨d0, d1, d2, d3, e0, e1, e2, e3⟩ := hS _ G5; clear hb5) | (go_at_call 13; refine (hrefp _ (by assumption)).mono ?_; rintro e w6 ⟨rfl, hb6⟩; have G6 := hnext _ _ (by assumption) hb6; obtain ⟨d0, d1, d2, d3, e0, e1, e2, e3⟩ := hS _ G6; clear hb6) | (go_at_call 10; refine (known _).mono ?_; rintro e w7 ⟨rfl, hb7⟩; have G7 := hnext _ _ (by assumption) hb7; obtain ⟨d0, d1, d2, d3, e0, e1, e2, e3⟩ := hS _ G7; clear hb7))
  all_goals (
    go_wp2
    go_ret
    exact ⟨rfl, hBx _ (by assumption)⟩)

theorem ownTreeReads : ownKnob Try.prog.godebug = none := by kernel_rfl
set_option maxRecDepth 100000 in
theorem treeReads_lifted (os : Os) (started : os.Started) (H : Type) (enc : TypeId × Value → H) :
    ReturnsInHanded {} Try.checked os 4 .any (Rows.treeReadsSpec.pre6 enc Try.prog Try.f4 Rows.treeReadsRow.domain false) (Rows.treeReadsSpec.post enc Try.prog Try.f4 false true false false) := by
  refine returnsInHanded_of_change_sized (C := Try.checked) ownTreeReads started (by kernel_rfl) Try.func4
    (ChangeSpec.witness6 (enc := enc) (C := Try.checked) false ⟨#[], #[.string ByteArray.empty], []⟩ 8 (by kernel_rfl) (by kernel_rfl) (by kernel_rfl) (by kernel_rfl)) ?_
  intro W base args ds gs before hval0 hW hcnd hsz0 _
  have hval : ∀ (j : Nat) t v, Try.f4.params[j]? = some t → args[j]? = some v → Value.okWide Try.prog W .any base t v := hval0
  have hsz : (DataW.weightsEach Try.prog (Try.f4.params.toList ++ Rows.treeReadsSpec.plain.varTypes Try.prog) (ds ++ gs)).all (· ≤ reachBytes) = true := hsz0
  have hW' := hW
  obtain ⟨p, q, hA0, hV, rfl, hfz, hnd⟩ := hW
  have hA : DataW.TrodAll enc Try.prog W 0 (fun _ => true) true Try.f4.params.toList args.toList ds p := hA0
  rw [Try.params4] at hA hval hsz
  obtain ⟨v0, vs0, d0, ds0, p0, q0, hargs, rfl, rfl, h0, r0⟩ := trodAll_cons hA
  obtain ⟨rfl, rfl, rfl⟩ := trodAll_nil r0
  obtain rfl : args = #[v0] := by cases args; simp_all
  obtain ⟨rfl, rfl⟩ := trodVars_none hV
  obtain ⟨a0, rfl, rfl, rfl, w0⟩ := open_string Try.underlying9 (hval 0 9 v0 rfl rfl) h0
  have b0 : a0.size ≤ 140737488351232 := by
    have h1 := sized_string hsz (j := 0) (t := 9) rfl rfl
    have h2 : reachBytes = 140737488351232 := by decide
    have e1 : a0.size = a0.data.size := rfl
    have e2 : a0.data.toList.length = a0.data.size := Array.length_toList
    omega
  clear hA0 hval0
  simp only [List.append_nil] at hW'
  refine (reads_walk a0 W).mono fun e W' ⟨he, bel⟩ => ?_
  subst he
  exact ⟨_, rfl, _, _, _, [], _, [], hW', trodAll_mk1 (shut_bool Try.underlying4 _), (trodAll_cons_mk (shut_string Try.underlying9 w0) trodAll_mk0), rfl, bel.frame _, fun h => by cases h⟩

theorem treeReads_holds : Rows.TreeReadsSaid :=
  OpenClaim.holds_of_wide 4 Try.f4 rfl rfl rfl rfl rfl rfl rfl ⟨rfl, rfl, rfl, rfl, rfl⟩ rfl rfl rfl rfl rfl (by kernel_rfl) Try.func4 (by kernel_rfl)
    (of_decide_eq_true (by kernel_rfl)) (by unfold Func.isWrapper; first | (rw [if_pos (by decide +kernel)]; kernel_rfl) | (rw [if_neg (by decide +kernel)]; exact ⟨rfl, rfl⟩))
    (fun os started H enc _ => treeReads_lifted os started H enc)
#print axioms treeReads_holds
end Go.Proofs.Ytmekjbplodnldaa
