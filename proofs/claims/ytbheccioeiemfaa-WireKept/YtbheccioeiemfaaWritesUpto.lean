/-
  Proved: for all pieces that are together of bulk at most 1048576 the law WireWrites answers true: what a Writer has written is as the document says. The one condition is that bound.
-/
import Derived.Test.YtbheccioeiemfaaWrites
namespace Go.Proofs.Ytbheccioeiemfaa
open Go.ChangeShapes Go.WideShapes Go.ChangeAt Go.RowKit Go.Deep

theorem bulk_all_append {H : Type} (l r : List (DataW H)) : Rows.uptoBulkAll (l ++ r) = Rows.uptoBulkAll l + Rows.uptoBulkAll r := by
  induction l with
  | nil => simp [Rows.uptoBulkAll]
  | cons x l ih => simp only [List.cons_append, Rows.uptoBulkAll, ih]; omega
theorem bulk_part {H : Type} (p : Int × Int × Nat × ByteArray) : p.2.2.2.size + 1 ≤ Rows.uptoBulk (partD p : DataW H) := by
  simp only [partD, Rows.uptoBulk, Rows.uptoBulkAll]
  have : p.2.2.2.data.toList.length = p.2.2.2.size := by simp
  omega
theorem bulk_parts {H : Type} (F : Nat → Int × Int × Nat × ByteArray) : ∀ n, psum F n + n ≤ Rows.uptoBulkAll ((List.range n).map fun i => (partD (F i) : DataW H))
  | 0 => by simp [psum]
  | n + 1 => by
    rw [List.range_succ, List.map_append, bulk_all_append, psum]
    have h1 := bulk_parts (H := H) F n
    have h2 := bulk_part (H := H) (F n)
    simp only [List.map_cons, List.map_nil, Rows.uptoBulkAll]
    omega

theorem ownW : ownKnob Try.prog.godebug = none := by kernel_rfl
theorem laidOutW : laidOutB Try.prog = true := by kernel_rfl

theorem wireWrites_contract (H : Type) (enc : TypeId × Value → H) (W : World) (base : Nat) (args : Array Value) (ds gs : List (DataW H)) (before : List MemPlace)
    (hval : ∀ (j : Nat) t v, Try.f4.params[j]? = some t → args[j]? = some v → Value.okWide Try.prog W .any base t v)
    (hW : DataW.Whole enc Try.prog Try.f4.params.toList Rows.wireWritesSpec.vars false W args.toList ds gs before) (hk : Rows.uptoSmall H (ds ++ gs) = true) :
    Calls Try.prog 4 args W fun e W' => ∃ v, e = .returned v ∧ Rows.wireWritesSpec.post enc Try.prog Try.f4 false true false false W args v W' := by
  have hW' := hW
  obtain ⟨p, q, hA0, hV, rfl, hfz, hnd⟩ := hW
  have hA : DataW.TrodAll enc Try.prog W 0 (fun _ => true) true Try.f4.params.toList args.toList ds p := hA0
  rw [Try.params4] at hA hval
  obtain ⟨v0, vs0, d0, ds0, p0, q0, hargs, rfl, rfl, h0, r0⟩ := trodAll_cons hA
  obtain ⟨rfl, rfl, rfl⟩ := trodAll_nil r0
  obtain rfl : args = #[v0] := by cases args; simp_all
  obtain ⟨rfl, rfl⟩ := trodVars_none hV
  obtain ⟨a1, len1, cap1, rfl⟩ := okWide_slice Try.underlying36 (hval 0 36 v0 rfl rfl)
  have k0 := h0
  have lt0 : ∀ x ∈ p0, x.block < W.heap.size := by obtain ⟨m, hm⟩ := k0; exact DataW.trod_lt m _ _ _ hm
  obtain ⟨n, F, hP, hn, hS⟩ : ∃ n F, Parts W (.slice a1 len1 cap1) n F ∧ n ≤ 1048576 ∧ psum F n ≤ 1048576 := by
    obtain ⟨fuel, hf⟩ := h0
    obtain ⟨n, F, h, _, hx⟩ := parts_open (by simpa [Value.cells] using hf)
    have hb : Rows.uptoBulkAll ([d0] ++ []) ≤ 1048576 := of_decide_eq_true hk
    refine ⟨n, F, h, ?_⟩
    rcases hx with ⟨_, rfl⟩ | ⟨sp, hd⟩
    · exact ⟨by omega, by simp [psum]⟩
    · have hd' : d0 = .slice ((List.range n).map fun i => partD (F i)) sp := hd
      rw [hd'] at hb
      simp only [List.append_nil, Rows.uptoBulkAll, Rows.uptoBulk] at hb
      have := bulk_parts (H := H) F n
      omega
  clear hA0
  refine (wireWrites_walk _ n F W hP hn hS).mono fun e W' ⟨he, bel⟩ => ?_
  subst he
  exact ⟨_, rfl, _, _, _, [], _, [], hW', trodAll_mk1 (shut_bool Try.underlying4 _), (trodAll_cons_mk (Below.trod laidOutW (by kernel_rfl) (of_decide_eq_true (by kernel_rfl)) k0 bel lt0) trodAll_mk0), rfl, bel.frame _, fun h => by cases h⟩

set_option maxRecDepth 100000 in
theorem wireWrites_lifted (os : Os) (started : os.Started) (H : Type) (enc : TypeId × Value → H) (F : Stop.Interp) :
    ReturnsInHanded {} Try.checked os 4 .any ((Rows.OpenSpec.upto Rows.wireWritesSpec).pre6 enc Try.prog Try.f4 Rows.wireWritesUptoRow.domain false) (((Rows.OpenSpec.upto Rows.wireWritesSpec).at F).post enc Try.prog Try.f4 false true false false) := by
  refine returnsInHanded_of_cond (C := Try.checked) (s := Rows.OpenSpec.upto Rows.wireWritesSpec) (k := Rows.uptoSmall) rfl ownW started (by kernel_rfl) Try.func4
    (OpenSpec.witness (enc := enc) (C := Try.checked) (s := Rows.OpenSpec.upto Rows.wireWritesSpec) (k := Rows.uptoSmall) rfl false ⟨#[], #[.slice none 0 0], []⟩ 8 (by kernel_rfl) (by kernel_rfl) (by kernel_rfl)
      (x := ([.nil], [], [])) (by kernel_rfl) rfl (by kernel_rfl)) ?_
  intro W base args ds gs before hval hW _ hk _
  exact wireWrites_contract H enc W base args ds gs before hval hW hk

theorem wireWrites_upto : Rows.WireWritesUptoSaid :=
  OpenClaim.holds_of_cond 4 Try.f4 rfl rfl rfl rfl rfl rfl rfl ⟨rfl, rfl, rfl, rfl, rfl⟩ rfl rfl rfl rfl rfl (by kernel_rfl) Try.func4 (by kernel_rfl)
    (of_decide_eq_true (by kernel_rfl)) (by unfold Func.isWrapper; first | (rw [if_pos (by decide +kernel)]; kernel_rfl) | (rw [if_neg (by decide +kernel)]; exact ⟨rfl, rfl⟩))
    (fun os started H enc _ F => wireWrites_lifted os started H enc F)
#print axioms wireWrites_upto
end Go.Proofs.Ytbheccioeiemfaa
