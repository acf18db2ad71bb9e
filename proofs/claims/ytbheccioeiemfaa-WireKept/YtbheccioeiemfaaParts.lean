/-
  A slice of pieces that came in: what its cells hold.
-/
import Derived.Test.YtbheccioeiemfaaMath
import Derived.ProofKit
import Derived.OpenShut
import Derived.Deep.Slices
namespace Go.Proofs.Ytbheccioeiemfaa
open Go.ChangeShapes Go.WideShapes Go.ChangeAt Go.RowKit Go.Deep

/-- A piece's cells: its kind, its most, its number, its text. -/
structure PAt (w : World) (b o : Nat) (p : Int × Int × Nat × ByteArray) : Prop where
  c0 : w.cell? ⟨b, o, none⟩ = some (.int .i64 p.1)
  c1 : w.cell? ⟨b, o + 1, none⟩ = some (.int .i64 p.2.1)
  c2 : w.cell? ⟨b, o + 2, none⟩ = some (.int .u64 p.2.2.1)
  c3 : w.cell? ⟨b, o + 3, none⟩ = some (.string p.2.2.2)
  k0 : -9223372036854775808 ≤ p.1 ∧ p.1 < 9223372036854775808
  k1 : -9223372036854775808 ≤ p.2.1 ∧ p.2.1 < 9223372036854775808
  k2 : p.2.2.1 < 18446744073709551616
  k3 : p.2.2.2.size ≤ maxLen

theorem PAt.kept {S : Nat → Prop} {w w' : World} {b o : Nat} {p : Int × Int × Nat × ByteArray} (h : PAt w b o p) (k : Kept S w w') (hb : ¬ S b) : PAt w' b o p :=
  ⟨k.cell h.c0 hb, k.cell h.c1 hb, k.cell h.c2 hb, k.cell h.c3 hb, h.k0, h.k1, h.k2, h.k3⟩

/-- A slice of n pieces. -/
def Parts (w : World) (v : Value) (n : Nat) (F : Nat → Int × Int × Nat × ByteArray) : Prop :=
  (n = 0 ∧ ∃ ao c, v = .slice ao 0 c) ∨ ∃ b off cap, v = .slice (some ⟨b, off, none⟩) n cap ∧ b < w.heap.size ∧ ∀ i, i < n → PAt w b (off + i * 4) (F i)

theorem Parts.shape {w : World} {v : Value} {n : Nat} {F : Nat → Int × Int × Nat × ByteArray} (h : Parts w v n F) : ∃ ao c, v = .slice ao n c := by
  rcases h with ⟨rfl, ao, c, rfl⟩ | ⟨b, off, cap, rfl, _⟩
  · exact ⟨ao, c, rfl⟩
  · exact ⟨_, cap, rfl⟩

def partD {H : Type} (p : Int × Int × Nat × ByteArray) : DataW H := .agg [.lit (.int .i64 p.1), .lit (.int .i64 p.2.1), .lit (.int .u64 p.2.2.1), .lit (.string p.2.2.2.data.toList)]

theorem Try.cells40 : Try.prog.cellsOf 40 = 4 := by kernel_rfl
theorem Try.cells3 : Try.prog.cellsOf 3 = 1 := by kernel_rfl
theorem Try.cells25 : Try.prog.cellsOf 25 = 1 := by kernel_rfl
theorem Try.cells9 : Try.prog.cellsOf 9 = 1 := by kernel_rfl

theorem part_open {H : Type} {enc : TypeId × Value → H} {w : World} {fuel : Nat} {a : Addr} {cs : List Value} {x : DataW H × List MemPlace} (hc : w.cells? 0 a 4 = some cs) (h : DataW.trod enc Try.prog w 0 (fun _ => true) true fuel 40 cs = some x) :
    ∃ p, a.spot = none ∧ PAt w a.block a.off p ∧ x.1 = partD p := by
  obtain ⟨_, hlen, hcell⟩ := World.cells?_some hc
  obtain ⟨xs, n, rfl, rfl, _, hxl, hf⟩ := DataW.trod_struct Try.underlying40 h
  match cs, hlen with
  | [v0, v1, v2, v3], _ =>
    match xs, hxl with
    | [x0, x1, x2, x3], _ =>
      have f0 : DataW.trod enc Try.prog w 0 (fun _ => true) true n 3 [v0] = some x0 := by have := hf 0 _ rfl; simpa [Try.cells3] using this
      have f1 : DataW.trod enc Try.prog w 0 (fun _ => true) true n 3 [v1] = some x1 := by have := hf 1 _ rfl; simpa [Try.cells3] using this
      have f2 : DataW.trod enc Try.prog w 0 (fun _ => true) true n 25 [v2] = some x2 := by have := hf 2 _ rfl; simpa [Try.cells25] using this
      have f3 : DataW.trod enc Try.prog w 0 (fun _ => true) true n 9 [v3] = some x3 := by have := hf 3 _ rfl; simpa [Try.cells9] using this
      obtain ⟨n0, e0, r0, w0⟩ := DataW.trod_int Try.underlying3 f0
      obtain ⟨n1, e1, r1, w1⟩ := DataW.trod_int Try.underlying3 f1
      obtain ⟨n2, e2, r2, w2⟩ := DataW.trod_int Try.underlying25 f2
      obtain ⟨s3, e3, r3, w3⟩ := DataW.trod_string Try.underlying9 f3
      simp only [List.cons.injEq, and_true] at e0 e1 e2 e3
      subst e0 e1 e2 e3 r0 r1 r2 r3
      have b0 := bounds_i64 w0
      have b1 := bounds_i64 w1
      have b2 := bounds_u64 w2
      obtain ⟨m2, rfl⟩ : ∃ m : Nat, n2 = m := ⟨n2.toNat, by omega⟩
      have c0 := hcell 0 (by omega)
      have c1 := hcell 1 (by omega)
      have c2 := hcell 2 (by omega)
      have c3 := hcell 3 (by omega)
      obtain ⟨ab, ao, asp⟩ := a
      have hsp : asp = none := by simpa [Addr.add] using World.cell?_spot c0
      subst hsp
      simp [Addr.add] at c0 c1 c2 c3
      have k0 : -9223372036854775808 ≤ n0 ∧ n0 < 9223372036854775808 := by omega
      have k1 : -9223372036854775808 ≤ n1 ∧ n1 < 9223372036854775808 := by omega
      have k2 : m2 < 18446744073709551616 := by omega
      exact ⟨(n0, n1, m2, s3), rfl, ⟨c0, c1, c2, c3, k0, k1, k2, w3⟩, rfl⟩

theorem parts_open {H : Type} {enc : TypeId × Value → H} {w : World} {fuel : Nat} {v : Value} {x : DataW H × List MemPlace} (h : DataW.trod enc Try.prog w 0 (fun _ => true) true fuel 36 [v] = some x) :
    ∃ n F, Parts w v n F ∧ n ≤ maxLen ∧ ((x.1 = .nil ∧ n = 0) ∨ ∃ sp, x.1 = .slice ((List.range n).map fun i => partD (F i)) sp) := by
  rcases open_slice Try.underlying36 h with ⟨hcs, hx⟩ | ⟨a, len, cap, m, n, D, Pl, hcs, hb, hl, hm, hme, hx, hel⟩
  · simp at hcs
    subst hcs
    subst hx
    exact ⟨0, fun _ => default, .inl ⟨rfl, none, 0, rfl⟩, by simp, .inl ⟨rfl, rfl⟩⟩
  · simp at hcs
    subst hcs
    simp at hme
    subst hme
    rw [Try.cells40] at hel
    have hone : ∀ i, i < m → ∃ p, (a.add (i * 4)).spot = none ∧ PAt w (a.add (i * 4)).block (a.add (i * 4)).off p ∧ D i = partD p := by
      intro i hi
      obtain ⟨cs', hc, ht⟩ := hel i hi
      exact part_open hc ht
    obtain ⟨F, hF⟩ := choose_lt hone
    refine ⟨len, F, ?_, Nat.le_trans hl hm, .inr ⟨(List.range (m - len)).map fun j => D (len + j), ?_⟩⟩
    · by_cases h0 : len = 0
      · exact .inl ⟨h0, some a, m, by rw [h0]⟩
      · right
        obtain ⟨ab, ao, asp⟩ := a
        have hsp : asp = none := by simpa [Addr.add] using (hF 0 (by omega)).1
        subst hsp
        refine ⟨ab, ao, m, rfl, ?_, fun i hi => ?_⟩
        · have := (hF 0 (by omega)).2.1.c0
          have := World.block_lt_of_cell? w _ this
          simpa [Addr.add] using this
        · have := (hF i (by omega)).2.1
          by_cases hi0 : i = 0
          · subst hi0; simpa [Addr.add] using this
          · have e : ¬ i * 4 = 0 := by omega
            simpa [Addr.add, e, hi0] using this
    · rw [hx]
      show DataW.slice _ _ = _
      congr 1
      apply List.map_congr_left
      intro i hi
      have := List.mem_range.1 hi
      exact (hF i (by omega)).2.2
end Go.Proofs.Ytbheccioeiemfaa
