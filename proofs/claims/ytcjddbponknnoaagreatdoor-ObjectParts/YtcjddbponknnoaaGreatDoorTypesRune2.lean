/-
  strings.IndexRune of a rune that is no ASCII one, in ASCII bytes.
-/
import Derived.BigQuiet
import Derived.Test.YtcjddbponknnoaaGreatDoorLexMem
import Derived.Test.YtcjddbponknnoaaGreatDoorTypesRune1
namespace Go.Proofs.YtcjddbponknnoaaGreatDoor
open Go.RowKit Go.Lib

set_option maxHeartbeats 4000000 in
set_option maxRecDepth 1000000 in
theorem idxRune_bad (s : ByteArray) (r : Nat) (w : World) (h0 : 128 ≤ r) (he : r ≠ 65533) (hv : Lib.validRune (r : Int) = false) :
    Calls Tryz.prog 215 #[.string s, .int .i32 (r : Int)] w fun e w' => e = .returned (.int .i64 (-1)) ∧ Below w.heap.size w w' := by
  have g0 : ¬ (r : Int) < 128 := by omega
  have he' : ((r : Int) == 65533) = false := by rw [beq_eq_false_iff_ne]; omega
  clear he
  go_enter Tryz.func215, Tryz.ntmps215
  go_wp2_with (go_at_call 223; refine (Tryz.utf8_ValidRune _ _).mono ?_; rintro e w' ⟨rfl, hw⟩; rw [hw, hv])
  go_ret
  exact ⟨rfl, Below.refl _ _⟩

set_option maxHeartbeats 4000000 in
set_option maxRecDepth 1000000 in
theorem idxRune_far (s : ByteArray) (hlow : ∀ i (h : i < s.size), (s[i]'h).toNat < 128) (h5 : s.size = 5) (r : Nat) (w : World) (h0 : 128 ≤ r) (he : r ≠ 65533) (hv : Lib.validRune (r : Int) = true) :
    Calls Tryz.prog 215 #[.string s, .int .i32 (r : Int)] w fun e w' => e = .returned (.int .i64 (-1)) ∧ Below w.heap.size w w' := by
  have HL : Hid (∀ i (h : i < s.size), (s[i]'h).toNat < 128) := hlow
  clear hlow
  have g0 : ¬ (r : Int) < 128 := by omega
  have he' : ((r : Int) == 65533) = false := by rw [beq_eq_false_iff_ne]; omega
  clear he
  obtain ⟨e1, e2, e3⟩ := encode_facts (r : Int) (valid_of _ hv) (by omega)
  generalize hE : Utf8.encode (r : Int) = x at *
  have hxs : x.size - 1 < x.size := by omega
  have hx := e3 hxs
  clear e3
  have hc : (x.size : Int) - 1 = ((x.size - 1 : Nat) : Int) := by omega
  generalize hm : x.size - 1 = m at *
  have hm5 : m < s.size := by omega
  have hsm := HL.out m hm5
  have hlm : (m : Int) < (s.size : Int) := by omega
  have hne : ((s[m].toNat : Int) != (x[m].toNat : Int)) = true := by simp; omega
  have hib : indexByte (s.extract (m + 1) s.size).data.toList x[m] = -1 := by
    refine indexByte_high _ _ hx (fun b hb => ?_)
    rw [extract_data] at hb
    exact low_mem s HL.out b (List.mem_of_mem_drop (List.mem_of_mem_take hb))
  have hb2 : (m : Int) + 1 ≤ (s.size : Int) := by omega
  have hcv : ∀ w, (convert 21 9 (.int .i32 (r : Int))).run Tryz.prog w = .ok (.string x) w := fun w => by
    rw [run_convert_int_string w 21 9 .i32 (r : Int) (by simp [Tryz.underlying21]) Tryz.underlying9, hE]
  clear hE
  go_enter Tryz.func215, Tryz.ntmps215
  go_wp2_with (go_at_call 223; refine (Tryz.utf8_ValidRune _ _).mono ?_; rintro e w' ⟨rfl, hw⟩; rw [hw, hv])
  refine wp_scope_labels (fun _ _ _ => False) (fun _ _ _ => 0) ?_ (fun _ _ _ h => h.elim)
  intro hz
  clear hz
  go_wp2
  go_loopg [9] 0 (fun _ i wx => i = .int .i64 (m : Int) ∧ wx = w)
  case atStart => exact ⟨rfl, rfl⟩
  case round =>
    obtain ⟨rfl, rfl⟩ := hrel
    have hm9 : m < 5 := by omega
    clear h5 e1 e2 hm hc hv
    rw [extract_data] at hib
    go_wp2
    refine wp_scope_labels (fun _ _ _ => False) (fun _ _ _ => 0) ?_ (fun _ _ _ h => h.elim)
    intro hz
    clear hz
    have k1 : IntKind.i64.wrap ((m : Int) + 1) = (m : Int) + 1 := by rw [IntKind.wrap_i64]; omega
    have k2 : (0 : Int) ≤ (m : Int) + 1 := by omega
    have k3 : ((m : Int) + 1).toNat = m + 1 := by omega
    have k4 : (x[m].toNat : Int).toNat.toUInt8 = x[m] := by simp
    go_wp2
    go_region
    go_wp2
    go_region_with (first
      | (go_at_call 222; refine (Tryz.strings_IndexByte _ _ _).mono ?_; rintro e w' ⟨rfl, rfl⟩))
    go_wp2
    show bodyPost Tryz.prog Tryz.f215 (fun e w' => e = Ending.returned (Value.int IntKind.i64 (-1)) ∧ Below wr.heap.size wr w') Exit.ret _ _
    refine bodyPost_ret (results_tmp (fn := Tryz.f215) (t := 4) rfl _ _ _) rfl ?_
    exact ⟨rfl, below_drewN (Below.refl _ _) 2⟩
/-- strings.IndexRune of a rune that is no ASCII one, among the signs. -/
theorem idxRune (s : ByteArray) (hlow : ∀ i (h : i < s.size), (s[i]'h).toNat < 128) (h5 : s.size = 5) (r : Nat) (w : World) (h0 : 128 ≤ r) :
    Calls Tryz.prog 215 #[.string s, .int .i32 (r : Int)] w fun e w' => e = .returned (.int .i64 (-1)) ∧ Below w.heap.size w w' := by
  by_cases he : r = 65533
  · subst he
    exact idxRune_err s hlow w
  · rcases (by cases Lib.validRune (r : Int) <;> simp : Lib.validRune (r : Int) = false ∨ Lib.validRune (r : Int) = true) with hv | hv
    · exact idxRune_bad s r w h0 he hv
    · exact idxRune_far s hlow h5 r w h0 he hv
end Go.Proofs.YtcjddbponknnoaaGreatDoor
