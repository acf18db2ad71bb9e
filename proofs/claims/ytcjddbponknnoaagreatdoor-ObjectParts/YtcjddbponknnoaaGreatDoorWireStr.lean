/-
  Bytes as a text.
-/
import Derived.Test.YtcjddbponknnoaaGreatDoorWireWriter
namespace Go.Proofs.YtcjddbponknnoaaGreatDoor.Wire
open Go.RowKit

/-- Bytes as a text. -/
def toStr (l : List Nat) : ByteArray := (l.map Int.ofNat).foldl (fun r n => r.push (UInt8.ofNat n.toNat)) ByteArray.empty

theorem Rd.string {w : World} {b : Nat} {v : Value} {l : List Nat} (h : Rd w b v l) : (convert 42 9 v).run Tryz.prog w = .ok (.string (toStr l)) w := by
  rcases h with ⟨rfl, rfl⟩ | ⟨a, cap, rfl, h2, h3⟩
  · rw [run_convert_bytes_string w 42 9 5 none 0 0 Tryz.underlying42 Tryz.underlying5 Tryz.underlying9]
    simp [Conv.bytesToString, toStr]
  · rw [run_convert_bytes_string w 42 9 5 _ _ _ Tryz.underlying42 Tryz.underlying5 Tryz.underlying9]
    refine run_bytesToString w a l.length cap (l.map Int.ofNat) ?_
    have := run_loadCells_list (P := Tryz.prog) w a (bs l) h3
    rw [bs_length] at this
    rw [this]
    simp [bs, Function.comp_def]

theorem toStr_push (l : List Nat) : ∀ (s : ByteArray), (l.map Int.ofNat).foldl (fun r n => r.push (UInt8.ofNat n.toNat)) s = ⟨s.data ++ (l.map UInt8.ofNat).toArray⟩ := by
  induction l with
  | nil => intro s; simp
  | cons a r ih =>
    intro s
    rw [List.map_cons, List.foldl_cons, ih]
    congr 1
    apply Array.ext'
    simp [ByteArray.push]
theorem toStr_eq (l : List Nat) : toStr l = ⟨(l.map UInt8.ofNat).toArray⟩ := by
  unfold toStr
  rw [toStr_push, show ByteArray.empty.data = #[] from rfl, Array.empty_append]
theorem toStr_bytes (s : ByteArray) : toStr (s.data.toList.map UInt8.toNat) = s := by
  rw [toStr_eq]
  have e : (s.data.toList.map UInt8.toNat).map UInt8.ofNat = s.data.toList := by
    rw [List.map_map]
    conv => rhs; rw [← List.map_id s.data.toList]
    apply List.map_congr_left
    intro x _
    simp
  rw [e]

end Go.Proofs.YtcjddbponknnoaaGreatDoor.Wire
