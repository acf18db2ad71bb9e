/-
  Proved: for all pieces and bytes that are together of bulk at most 1048576 the law WireBack answers true: what is written is read, and a number that is read is written as its bytes. The one condition is that bound.
-/
import Derived.Test.YtbheccioeiemfaaBackWalk
import Derived.Test.YtbheccioeiemfaaBytes
namespace Go.Proofs.Ytbheccioeiemfaa
open Go.ChangeShapes Go.WideShapes Go.ChangeAt Go.RowKit Go.Deep

theorem wireBack_contract (H : Type) (enc : TypeId × Value → H) (W : World) (base : Nat) (args : Array Value) (ds gs : List (DataW H)) (before : List MemPlace)
    (hval : ∀ (j : Nat) t v, Try.f6.params[j]? = some t → args[j]? = some v → Value.okWide Try.prog W .any base t v)
    (hW : DataW.Whole enc Try.prog Try.f6.params.toList Rows.wireBackSpec.vars false W args.toList ds gs before) (hk : Rows.uptoSmall H (ds ++ gs) = true) :
    Calls Try.prog 6 args W fun e W' => ∃ v, e = .returned v ∧ Rows.wireBackSpec.post enc Try.prog Try.f6 false true false false W args v W' := by
  have hW' := hW
  obtain ⟨p, q, hA0, hV, rfl, hfz, hnd⟩ := hW
  have hA : DataW.TrodAll enc Try.prog W 0 (fun _ => true) true Try.f6.params.toList args.toList ds p := hA0
  rw [Try.params6] at hA hval
  obtain ⟨v0, vs0, d0, ds0, p0, q0, hargs, rfl, rfl, h0, r0⟩ := trodAll_cons hA
  obtain ⟨v1, vs1, d1, ds1, p1, q1, rfl, rfl, rfl, h1, r1⟩ := trodAll_cons r0
  obtain ⟨rfl, rfl, rfl⟩ := trodAll_nil r1
  obtain rfl : args = #[v0, v1] := by cases args; simp_all
  obtain ⟨rfl, rfl⟩ := trodVars_none hV
  obtain ⟨a0, len0, cap0, rfl⟩ := okWide_slice Try.underlying36 (hval 0 36 v0 rfl rfl)
  obtain ⟨a1, len1, cap1, rfl⟩ := okWide_slice Try.underlying24 (hval 1 24 v1 rfl rfl)
  have k0 := h0
  have k1 := h1
  have lt0 : ∀ x ∈ p0, x.block < W.heap.size := by obtain ⟨m, hm⟩ := k0; exact DataW.trod_lt m _ _ _ hm
  have lt1 : ∀ x ∈ p1, x.block < W.heap.size := by obtain ⟨m, hm⟩ := k1; exact DataW.trod_lt m _ _ _ hm
  have hb : Rows.uptoBulkAll ([d0, d1] ++ []) ≤ 1048576 := of_decide_eq_true hk
  simp only [List.append_nil, Rows.uptoBulkAll] at hb
  obtain ⟨n, F, hP, hn, hS⟩ : ∃ n F, Parts W (.slice a0 len0 cap0) n F ∧ n ≤ 1048576 ∧ psum F n ≤ 1048576 := by
    obtain ⟨fuel, hf⟩ := h0
    obtain ⟨n, F, h, _, hx⟩ := parts_open (by simpa [Value.cells] using hf)
    refine ⟨n, F, h, ?_⟩
    rcases hx with ⟨_, rfl⟩ | ⟨sp, hd⟩
    · exact ⟨by omega, by simp [psum]⟩
    · have hd' : d0 = .slice ((List.range n).map fun i => partD (F i)) sp := hd
      rw [hd'] at hb
      simp only [Rows.uptoBulk] at hb
      have := bulk_parts (H := H) F n
      omega
  obtain ⟨b0, l, hrd, h256, hlc, hcm, hl⟩ : ∃ b0 l, Rd W b0 (.slice a1 len1 cap1) l ∧ (∀ y ∈ l, y < 256) ∧ len1 ≤ cap1 ∧ cap1 ≤ maxLen ∧ l.length ≤ 1048576 := by
    obtain ⟨fuel, hf⟩ := h1
    obtain ⟨b0, l, h1, h2, h3, h4, h5⟩ := bytes_open hf
    refine ⟨b0, l, h1, h2, h3, h4, ?_⟩
    rcases h5 with ⟨_, rfl⟩ | ⟨zs, hz1, hz2, hd⟩
    · simp
    · have hd' : d1 = .slice (lits .u8 (zs.take len1)) (lits .u8 (zs.drop len1)) := hd
      rw [hd'] at hb
      simp only [Rows.uptoBulk] at hb
      have g1 := bulk_lits (H := H) .u8 (zs.take len1)
      have g2 := bulk_lits (H := H) .u8 (zs.drop len1)
      simp only [List.length_take, List.length_drop] at g1 g2
      omega
  clear hA0
  refine (wireBack_walk _ _ b0 l n F W hrd ⟨a1, len1, cap1, rfl, hlc, hcm⟩ hl h256 hP hn hS).mono fun e W' ⟨he, bel⟩ => ?_
  subst he
  exact ⟨_, rfl, _, _, _, [], _, [], hW', trodAll_mk1 (shut_bool Try.underlying4 _), (trodAll_cons_mk (Below.trod laidOutW (by kernel_rfl) (of_decide_eq_true (by kernel_rfl)) k0 bel lt0) (trodAll_cons_mk (Below.trod laidOutW (by kernel_rfl) (of_decide_eq_true (by kernel_rfl)) k1 bel lt1) trodAll_mk0)), rfl, bel.frame _, fun h => by cases h⟩

set_option maxRecDepth 100000 in
theorem wireBack_lifted (os : Os) (started : os.Started) (H : Type) (enc : TypeId × Value → H) (F : Stop.Interp) :
    ReturnsInHanded {} Try.checked os 6 .any ((Rows.OpenSpec.upto Rows.wireBackSpec).pre6 enc Try.prog Try.f6 Rows.wireBackUptoRow.domain false) (((Rows.OpenSpec.upto Rows.wireBackSpec).at F).post enc Try.prog Try.f6 false true false false) := by
  refine returnsInHanded_of_cond (C := Try.checked) (s := Rows.OpenSpec.upto Rows.wireBackSpec) (k := Rows.uptoSmall) rfl ownW started (by kernel_rfl) Try.func6
    (OpenSpec.witness (enc := enc) (C := Try.checked) (s := Rows.OpenSpec.upto Rows.wireBackSpec) (k := Rows.uptoSmall) rfl false ⟨#[], #[.slice none 0 0, .slice none 0 0], []⟩ 8 (by kernel_rfl) (by kernel_rfl) (by kernel_rfl)
      (x := ([.nil, .nil], [], [])) (by kernel_rfl) rfl (by kernel_rfl)) ?_
  intro W base args ds gs before hval hW _ hk _
  exact wireBack_contract H enc W base args ds gs before hval hW hk

theorem wireBack_upto : Rows.WireBackUptoSaid :=
  OpenClaim.holds_of_cond 6 Try.f6 rfl rfl rfl rfl rfl rfl rfl ⟨rfl, rfl, rfl, rfl, rfl⟩ rfl rfl rfl rfl rfl (by kernel_rfl) Try.func6 (by kernel_rfl)
    (of_decide_eq_true (by kernel_rfl)) (by unfold Func.isWrapper; first | (rw [if_pos (by decide +kernel)]; kernel_rfl) | (rw [if_neg (by decide +kernel)]; exact ⟨rfl, rfl⟩))
    (fun os started H enc _ F => wireBack_lifted os started H enc F)
#print axioms wireBack_upto
end Go.Proofs.Ytbheccioeiemfaa
