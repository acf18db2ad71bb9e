/-
  Objects that are handed in: what they are in memory; how long they can be.
-/
import Derived.Test.YtfjppbpicmniaaaGreatDoorG10
namespace Go.Proofs.YtfjppbpicmniaaaGreatDoor
open Go.ChangeShapes Go.WideShapes Go.ChangeAt Go.RowKit Go.Deep

theorem w_each {H : Type} : ∀ {fs : List Field} {ds : List (DataW H)} {ts : List TypeId} (k : Nat) (t : TypeId) (d : DataW H), ts = fs.map (·.type) → ts[k]? = some t → ds[k]? = some d → ∀ n ∈ d.weights Tryz.prog t, n ∈ DataW.weightsEach Tryz.prog ts ds
  | [], _, _, k, t, d, rfl, h, _ => by simp at h
  | f :: fs, [], _, k, t, d, _, _, h => by simp at h
  | f :: fs, e :: ds, _, 0, t, d, rfl, h1, h2 => by
    intro n hn
    simp only [List.map_cons, List.getElem?_cons_zero, Option.some.injEq] at h1 h2
    subst h1 h2
    simp only [List.map_cons, DataW.weightsEach, List.mem_append]
    exact .inl hn
  | f :: fs, e :: ds, _, k + 1, t, d, rfl, h1, h2 => by
    intro n hn
    simp only [List.map_cons, List.getElem?_cons_succ] at h1 h2
    simp only [List.map_cons, DataW.weightsEach, List.mem_append]
    exact .inr (w_each k t d rfl h1 h2 n hn)
/-- A field of a struct is no longer than memory reaches either. -/
theorem w_field {H : Type} {t : TypeId} {fs : Array Field} {ds : List (DataW H)} (hu : Tryz.prog.underlying t = some (.struct fs)) (h : WOk t (.agg ds)) (k : Nat) (f : Field) (d : DataW H) (hf : fs[k]? = some f) (hd : ds[k]? = some d) : WOk f.type d := by
  unfold WOk at h ⊢
  simp only [DataW.weights, hu] at h
  intro n hn
  refine h n (w_each (fs := fs.toList) k f.type d rfl ?_ hd n hn)
  rw [List.getElem?_map, Array.getElem?_toList, hf]
  rfl
theorem texts_cap {H : Type} {enc : TypeId × Value → H} {W : World} {fuel : Nat} {a0 : Option Addr} {len0 cap0 : Nat} {x : DataW H × List MemPlace} (hf : DataW.trod enc Tryz.prog W 0 (fun _ => true) true fuel 23 [.slice a0 len0 cap0] = some x) : len0 ≤ cap0 := by
  rcases open_slice1 Tryz.underlying23 (by kernel_rfl) hf with ⟨hcs, _⟩ | ⟨a, len, cap, m, n, V, D, Pl, hcs, hb, hl, hm, hmm, rfl, hx⟩
  · simp only [List.cons.injEq, Value.slice.injEq, and_true] at hcs
    omega
  · simp only [List.cons.injEq, Value.slice.injEq, and_true] at hcs
    obtain ⟨rfl, rfl, rfl⟩ := hcs
    exact hl
theorem texts_openC {H : Type} {enc : TypeId × Value → H} {W : World} {fuel : Nat} {a0 : Option Addr} {len0 cap0 : Nat} {x : DataW H × List MemPlace} (hf : DataW.trod enc Tryz.prog W 0 (fun _ => true) true fuel 23 [.slice a0 len0 cap0] = some x) (hw : WOk 23 x.1) :
    ∃ xs : List (List UInt8), xs.length = len0 ∧ TxC (fun g => g < W.heap.size) W (.slice a0 len0 cap0) xs ∧ xs.length ≤ 8796093022208 ∧ ∀ y ∈ xs, Tk y := by
  obtain ⟨xs, h1, h2, h3, h4⟩ := texts_open hf hw
  refine ⟨xs, h1, ⟨h2, fun a n c h => ?_⟩, h3, h4⟩
  simp only [Value.slice.injEq] at h
  obtain ⟨_, rfl, rfl⟩ := h
  exact texts_cap hf
/-- A row of structs, given what one is. -/
theorem rows_open {α : Type} {sz : Nat} {C : (Nat → Prop) → World → α → List Value → Prop} {Ok : α → Prop} {H : Type} {enc : TypeId × Value → H} {W : World} {fuel : Nat} {a0 : Option Addr} {len0 cap0 : Nat} {x : DataW H × List MemPlace} {S E : TypeId} (h0 : α) (hu : Tryz.prog.underlying S = some (.slice E)) (hc : Tryz.prog.cellsOf E = sz) (hsz : 0 < sz)
    (hel : ∀ (fuel : Nat) (cs : List Value) (y : DataW H × List MemPlace), cs.length = sz → DataW.trod enc Tryz.prog W 0 (fun _ => true) true fuel E cs = some y → WOk E y.1 → ∃ x, C (fun g => g < W.heap.size) W x cs ∧ Ok x)
    (hf : DataW.trod enc Tryz.prog W 0 (fun _ => true) true fuel S [.slice a0 len0 cap0] = some x) (hw : WOk S x.1) :
    ∃ l : List α, l.length = len0 ∧ RwR sz C (fun g => g < W.heap.size) W (.slice a0 len0 cap0) l ∧ l.length * Tryz.prog.bytesOf E ≤ reachBytes ∧ ∀ c ∈ l, Ok c := by
  haveI : Inhabited α := ⟨h0⟩
  rcases open_slice hu hf with ⟨hcs, _⟩ | ⟨a, len, cap, m, n, D, Pl, hcs, hb, hl, hm, hmm, rfl, hx⟩
  · simp only [List.cons.injEq, Value.slice.injEq, and_true] at hcs
    obtain ⟨rfl, rfl, rfl⟩ := hcs
    exact ⟨[], rfl, .inl ⟨_, _, rfl, rfl⟩, by simp, by simp⟩
  · simp only [List.cons.injEq, Value.slice.injEq, and_true] at hcs
    obtain ⟨rfl, rfl, rfl⟩ := hcs
    simp only [if_true] at hmm
    obtain ⟨w1, w2⟩ := w_slice hu hw
    rw [hc] at hx
    have key : ∀ i, i < len0 → ∃ c : α × List Value, (∀ j y, c.2[j]? = some y → W.cell? ((a.add (i * sz)).add j) = some y) ∧ c.2.length = sz ∧ C (fun g => g < W.heap.size) W c.1 c.2 ∧ Ok c.1 := fun i hi => by
      obtain ⟨cs', h1, h2⟩ := hx i (by omega)
      obtain ⟨_, hl2, hcell⟩ := World.cells?_some h1
      have wi := w2 (D i) (List.mem_map.2 ⟨i, List.mem_range.2 hi, rfl⟩)
      obtain ⟨x, hx1, hx2⟩ := hel _ cs' _ hl2 h2 wi
      refine ⟨(x, cs'), fun j y hy => ?_, hl2, hx1, hx2⟩
      obtain ⟨hj, rfl⟩ := List.getElem?_eq_some_iff.1 hy
      rw [hcell j (by rw [← hl2]; exact hj), List.getElem?_eq_getElem hj]
    obtain ⟨S, hS⟩ := choose_lt key
    refine ⟨(List.range len0).map (fun i => (S i).1), by simp, ?_, ?_, ?_⟩
    · by_cases h0 : len0 = 0
      · subst h0
        exact .inl ⟨_, _, rfl, rfl⟩
      · obtain ⟨ab, ao, asp⟩ := a
        have hl0 := (hS 0 (by omega)).2.1
        have hc0 := (hS 0 (by omega)).1 0 _ (List.getElem?_eq_getElem (by omega))
        have e0 : ((⟨ab, ao, asp⟩ : Addr).add (0 * sz)).add 0 = (⟨ab, ao, asp⟩ : Addr).add 0 := by simp [Addr.add]
        rw [e0] at hc0
        obtain rfl := spot_none hc0
        rw [add_none] at hc0
        refine .inr ⟨ab, ao, cap0, by simp, by simpa using hl, World.block_lt_of_cell? W _ hc0, fun j y hj => ?_⟩
        obtain ⟨hj1, rfl⟩ := List.getElem?_eq_some_iff.1 hj
        simp only [List.length_map, List.length_range] at hj1
        obtain ⟨k0, k1, k2, _⟩ := hS j hj1
        refine ⟨(S j).2, by simpa using k2, fun i y hy => ?_⟩
        have := k0 i y hy
        rwa [add_none, add_none] at this
    · simp only [List.length_map, List.length_range] at w1 ⊢
      exact Nat.le_trans (Nat.mul_le_mul_right _ (by omega)) w1
    · intro y hy
      obtain ⟨i, hi, rfl⟩ := List.mem_map.1 hy
      exact (hS i (List.mem_range.1 hi)).2.2.2
theorem int_cell {H : Type} {enc : TypeId × Value → H} {W : World} {fuel : Nat} {c : Value} {y : DataW H × List MemPlace} (h : DataW.trod enc Tryz.prog W 0 (fun _ => true) true fuel 3 [c] = some y) : ∃ k : Int, c = .int .i64 k ∧ i64 k := by
  obtain ⟨k, hk, _, hkw⟩ := DataW.trod_int Tryz.underlying3 h
  simp only [List.cons.injEq, and_true] at hk
  exact ⟨k, hk, bounds_i64 hkw⟩
theorem str_cell {H : Type} {enc : TypeId × Value → H} {W : World} {fuel : Nat} {c : Value} {y : DataW H × List MemPlace} (h : DataW.trod enc Tryz.prog W 0 (fun _ => true) true fuel 9 [c] = some y) (hw : WOk 9 y.1) : ∃ s : List UInt8, c = .string (str s) ∧ Tk s := by
  obtain ⟨s, hs, hd, _⟩ := DataW.trod_string Tryz.underlying9 h
  simp only [List.cons.injEq, and_true] at hs
  rw [hd] at hw
  exact ⟨s.data.toList, by rw [str_list]; exact hs, w_str hw⟩
theorem bytes_openC {H : Type} {enc : TypeId × Value → H} {W : World} {fuel : Nat} {c : Value} {x : DataW H × List MemPlace} (hf : DataW.trod enc Tryz.prog W 0 (fun _ => true) true fuel 42 [c] = some x) (hw : WOk 42 x.1) :
    ∃ l : List UInt8, ByR (fun g => g < W.heap.size) W c l ∧ l.length ≤ 140737488355328 := by
  obtain ⟨a0, len0, cap0, hfc⟩ := Go.Joins.slice_form Tryz.underlying42 hf
  simp only [List.cons.injEq, and_true] at hfc
  subst hfc
  rcases open_ints Tryz.underlying42 Tryz.underlying5 (by kernel_rfl) hf with ⟨hcs, hx⟩ | ⟨a, ln, c, zs, hcs, _, hl, hm, hz, hx, hcell, hwz⟩
  · simp only [List.cons.injEq, Value.slice.injEq, and_true] at hcs
    obtain ⟨rfl, rfl, rfl⟩ := hcs
    exact ⟨[], .inl ⟨_, _, rfl, rfl⟩, by simp⟩
  · simp only [List.cons.injEq, Value.slice.injEq, and_true] at hcs
    obtain ⟨rfl, rfl, rfl⟩ := hcs
    simp at hz
    have hwf : ∀ z ∈ zs, 0 ≤ z ∧ z ≤ 255 := fun z hz => bounds_u8 (hwz z hz)
    rw [hx] at hw
    obtain ⟨w1, w2⟩ := w_slice Tryz.underlying42 hw
    have hbytes : len0 ≤ 140737488355328 := by
      have hb : Tryz.prog.bytesOf 5 = 1 := by kernel_rfl
      rw [hb, reach_is] at w1
      simp only [lits, List.length_map, List.length_take, List.length_drop] at w1
      omega
    refine ⟨(zs.take len0).map fun z => UInt8.ofNat z.toNat, ?_, by simp; omega⟩
    by_cases h0 : len0 = 0
    · subst h0
      exact .inl ⟨_, _, rfl, by simp⟩
    · obtain ⟨ab, ao, asp⟩ := a
      have hc0 := hcell 0 (by omega)
      obtain rfl := spot_none hc0
      rw [add_none] at hc0
      refine .inr ⟨ab, ao, cap0, by simp; omega, by simp; omega, World.block_lt_of_cell? W _ hc0, fun j y hj => ?_⟩
      obtain ⟨hj1, rfl⟩ := List.getElem?_eq_some_iff.1 hj
      simp only [List.length_map, List.length_take] at hj1
      have hjz : j < zs.length := by omega
      have hcj := hcell j (by omega)
      rw [add_none] at hcj
      rw [hcj]
      have hb := hwf _ (List.getElem_mem hjz)
      have hgd : zs.getD j 0 = zs[j] := by simp [List.getD, hjz]
      rw [hgd]
      simp only [List.getElem_map, List.getElem_take]
      generalize zs[j] = z at *
      have : (UInt8.ofNat z.toNat).toNat = z.toNat := by
        rw [UInt8.toNat_ofNat']
        omega
      rw [this, Int.toNat_of_nonneg hb.1]
theorem item_cells {H : Type} {enc : TypeId × Value → H} {W : World} {fuel : Nat} {c0 c1 c2 c3 : Value} {y : DataW H × List MemPlace} (h : DataW.trod enc Tryz.prog W 0 (fun _ => true) true fuel 78 [c0, c1, c2, c3] = some y) (hw : WOk 78 y.1) :
    ∃ (x : It) (cv : Value), [c0, c1, c2, c3] = [.int .i64 x.kind, .string (str x.name), .string (str x.ty), cv] ∧ CsR (fun g => g < W.heap.size) W cv x.cases ∧ ItOk x := by
  have hc0 : Tryz.prog.cellsOf 3 = 1 := by kernel_rfl
  have hc1 : Tryz.prog.cellsOf 9 = 1 := by kernel_rfl
  have hc1' : Tryz.prog.cellsOf 76 = 1 := by kernel_rfl
  obtain ⟨y0, y1, y2, y3, n', hxx, _, t0, t1, t2, t3⟩ := Go.Joins.trod_struct4 Tryz.underlying78 h
  have t0' : DataW.trod enc Tryz.prog W 0 (fun _ => true) true n' 3 [c0] = some y0 := by simpa [hc0] using t0
  have t1' : DataW.trod enc Tryz.prog W 0 (fun _ => true) true n' 9 [c1] = some y1 := by simpa [hc1] using t1
  have t2' : DataW.trod enc Tryz.prog W 0 (fun _ => true) true n' 9 [c2] = some y2 := by simpa [hc1] using t2
  have t3' : DataW.trod enc Tryz.prog W 0 (fun _ => true) true n' 76 [c3] = some y3 := by simpa [hc1'] using t3
  rw [hxx] at hw
  obtain ⟨v1, v2, v3⟩ := w_four Tryz.underlying78 hw
  obtain ⟨k, rfl, hk⟩ := int_cell t0'
  obtain ⟨s1, rfl, hs1⟩ := str_cell t1' v1
  obtain ⟨s2, rfl, hs2⟩ := str_cell t2' v2
  obtain ⟨fa, fl, fc, hfc⟩ := Go.Joins.slice_form Tryz.underlying76 t3'
  simp only [List.cons.injEq, and_true] at hfc
  subst hfc
  obtain ⟨cs, g1, g2, g3, g4⟩ := cases_open t3' v3
  exact ⟨⟨k, s1, s2, cs⟩, _, rfl, g2, hk.1, hk.2, hs1, hs2, g3, g4⟩
theorem gl_cells {H : Type} {enc : TypeId × Value → H} {W : World} {fuel : Nat} {cs : List Value} {y : DataW H × List MemPlace} (hl : cs.length = 3) (h : DataW.trod enc Tryz.prog W 0 (fun _ => true) true fuel 74 cs = some y) (hw : WOk 74 y.1) :
    ∃ x : Gl, cGl (fun g => g < W.heap.size) W x cs ∧ GlOk x := by
  have hc0 : Tryz.prog.cellsOf 3 = 1 := by kernel_rfl
  have hc1 : Tryz.prog.cellsOf 9 = 1 := by kernel_rfl
  obtain ⟨c0, c1, c2, rfl⟩ : ∃ c0 c1 c2, cs = [c0, c1, c2] := by
    match cs, hl with
    | [c0, c1, c2], _ => exact ⟨c0, c1, c2, rfl⟩
  obtain ⟨y0, y1, y2, n', hxx, _, t0, t1, t2⟩ := trod_struct3 Tryz.underlying74 h
  have t0' : DataW.trod enc Tryz.prog W 0 (fun _ => true) true n' 9 [c0] = some y0 := by simpa [hc1] using t0
  have t1' : DataW.trod enc Tryz.prog W 0 (fun _ => true) true n' 9 [c1] = some y1 := by simpa [hc1] using t1
  have t2' : DataW.trod enc Tryz.prog W 0 (fun _ => true) true n' 3 [c2] = some y2 := by simpa [hc0] using t2
  rw [hxx] at hw
  obtain ⟨s0, rfl, hs0⟩ := str_cell t0' (w_field Tryz.underlying74 hw 0 _ _ rfl rfl)
  obtain ⟨s1, rfl, hs1⟩ := str_cell t1' (w_field Tryz.underlying74 hw 1 _ _ rfl rfl)
  obtain ⟨k, rfl, hk⟩ := int_cell t2'
  exact ⟨⟨s0, s1, k⟩, rfl, hs0, hs1, hk⟩
theorem rl_cells {H : Type} {enc : TypeId × Value → H} {W : World} {fuel : Nat} {cs : List Value} {y : DataW H × List MemPlace} (hl : cs.length = 3) (h : DataW.trod enc Tryz.prog W 0 (fun _ => true) true fuel 83 cs = some y) (_hw : WOk 83 y.1) :
    ∃ x : Rl, cRl (fun g => g < W.heap.size) W x cs ∧ RlOk x := by
  have hc0 : Tryz.prog.cellsOf 3 = 1 := by kernel_rfl
  obtain ⟨c0, c1, c2, rfl⟩ : ∃ c0 c1 c2, cs = [c0, c1, c2] := by
    match cs, hl with
    | [c0, c1, c2], _ => exact ⟨c0, c1, c2, rfl⟩
  obtain ⟨y0, y1, y2, n', hxx, _, t0, t1, t2⟩ := trod_struct3 Tryz.underlying83 h
  have t0' : DataW.trod enc Tryz.prog W 0 (fun _ => true) true n' 3 [c0] = some y0 := by simpa [hc0] using t0
  have t1' : DataW.trod enc Tryz.prog W 0 (fun _ => true) true n' 3 [c1] = some y1 := by simpa [hc0] using t1
  have t2' : DataW.trod enc Tryz.prog W 0 (fun _ => true) true n' 3 [c2] = some y2 := by simpa [hc0] using t2
  obtain ⟨k0, rfl, hk0⟩ := int_cell t0'
  obtain ⟨k1, rfl, hk1⟩ := int_cell t1'
  obtain ⟨k2, rfl, hk2⟩ := int_cell t2'
  exact ⟨⟨k0, k1, k2⟩, rfl, hk0, hk1, hk2⟩
theorem sy_cells {H : Type} {enc : TypeId × Value → H} {W : World} {fuel : Nat} {cs : List Value} {y : DataW H × List MemPlace} (hl : cs.length = 5) (h : DataW.trod enc Tryz.prog W 0 (fun _ => true) true fuel 80 cs = some y) (hw : WOk 80 y.1) :
    ∃ x : Sy, cSy (fun g => g < W.heap.size) W x cs ∧ SyOk x := by
  have hc1 : Tryz.prog.cellsOf 9 = 1 := by kernel_rfl
  have hc4 : Tryz.prog.cellsOf 78 = 4 := by kernel_rfl
  obtain ⟨c0, c1, c2, c3, c4, rfl⟩ : ∃ c0 c1 c2 c3 c4, cs = [c0, c1, c2, c3, c4] := by
    match cs, hl with
    | [c0, c1, c2, c3, c4], _ => exact ⟨c0, c1, c2, c3, c4, rfl⟩
  obtain ⟨y0, y1, n', hxx, _, t0, t1⟩ := trod_struct2 Tryz.underlying80 h
  have t0' : DataW.trod enc Tryz.prog W 0 (fun _ => true) true n' 9 [c0] = some y0 := by simpa [hc1] using t0
  have t1' : DataW.trod enc Tryz.prog W 0 (fun _ => true) true n' 78 [c1, c2, c3, c4] = some y1 := by simpa [hc4] using t1
  rw [hxx] at hw
  obtain ⟨w0, w1⟩ := w_two Tryz.underlying80 hw
  obtain ⟨s0, rfl, hs0⟩ := str_cell t0' w0
  obtain ⟨x, cv, hx, hc, hok⟩ := item_cells t1' w1
  exact ⟨⟨s0, x⟩, ⟨cv, by rw [hx], hc⟩, hs0, hok⟩
set_option maxRecDepth 1000000 in
theorem fn_cells {H : Type} {enc : TypeId × Value → H} {W : World} {fuel : Nat} {cs : List Value} {y : DataW H × List MemPlace} (hl : cs.length = 6) (h : DataW.trod enc Tryz.prog W 0 (fun _ => true) true fuel 52 cs = some y) (hw : WOk 52 y.1) :
    ∃ x : Fn, cFn (fun g => g < W.heap.size) W x cs ∧ FnOk x := by
  have hc0 : Tryz.prog.cellsOf 3 = 1 := by kernel_rfl
  have hc1 : Tryz.prog.cellsOf 9 = 1 := by kernel_rfl
  have hc2 : Tryz.prog.cellsOf 23 = 1 := by kernel_rfl
  have hc3 : Tryz.prog.cellsOf 42 = 1 := by kernel_rfl
  obtain ⟨c0, c1, c2, c3, c4, c5, rfl⟩ : ∃ c0 c1 c2 c3 c4 c5, cs = [c0, c1, c2, c3, c4, c5] := by
    match cs, hl with
    | [c0, c1, c2, c3, c4, c5], _ => exact ⟨c0, c1, c2, c3, c4, c5, rfl⟩
  obtain ⟨xs, n', _, rfl, _, hlen, hfl⟩ := DataW.trod_struct Tryz.underlying52 h
  obtain ⟨y0, y1, y2, y3, y4, y5, rfl⟩ : ∃ y0 y1 y2 y3 y4 y5, xs = [y0, y1, y2, y3, y4, y5] := by
    match xs, hlen with
    | [y0, y1, y2, y3, y4, y5], _ => exact ⟨y0, y1, y2, y3, y4, y5, rfl⟩
  have t0 : DataW.trod enc Tryz.prog W 0 (fun _ => true) true n' 9 [c0] = some y0 := by simpa [hc1] using hfl 0 _ rfl
  have t1 : DataW.trod enc Tryz.prog W 0 (fun _ => true) true n' 23 [c1] = some y1 := by simpa [hc2] using hfl 1 _ rfl
  have t2 : DataW.trod enc Tryz.prog W 0 (fun _ => true) true n' 3 [c2] = some y2 := by simpa [hc0] using hfl 2 _ rfl
  have t3 : DataW.trod enc Tryz.prog W 0 (fun _ => true) true n' 9 [c3] = some y3 := by simpa [hc1] using hfl 3 _ rfl
  have t4 : DataW.trod enc Tryz.prog W 0 (fun _ => true) true n' 3 [c4] = some y4 := by simpa [hc0] using hfl 4 _ rfl
  have t5 : DataW.trod enc Tryz.prog W 0 (fun _ => true) true n' 42 [c5] = some y5 := by simpa [hc3] using hfl 5 _ rfl
  obtain ⟨s0, rfl, hs0⟩ := str_cell t0 (w_field Tryz.underlying52 hw 0 _ _ rfl rfl)
  obtain ⟨k2, rfl, hk2⟩ := int_cell t2
  obtain ⟨s3, rfl, hs3⟩ := str_cell t3 (w_field Tryz.underlying52 hw 3 _ _ rfl rfl)
  obtain ⟨k4, rfl, hk4⟩ := int_cell t4
  obtain ⟨b5, hb5, hl5⟩ := bytes_openC t5 (w_field Tryz.underlying52 hw 5 _ _ rfl rfl)
  obtain ⟨fa, fl, fc, hfc⟩ := Go.Joins.slice_form Tryz.underlying23 t1
  simp only [List.cons.injEq, and_true] at hfc
  subst hfc
  obtain ⟨ps, g1, g2, g3, g4⟩ := texts_openC t1 (w_field Tryz.underlying52 hw 1 _ _ rfl rfl)
  exact ⟨⟨s0, ps, k2, s3, k4, b5⟩, ⟨_, _, rfl, g2, hb5⟩, hs0, g3, g4, hk2, hs3, hk4, hl5⟩
set_option maxRecDepth 1000000 in
theorem object_open {H : Type} {enc : TypeId × Value → H} {W : World} {r : Reach} {b0 : Nat} {v : Value} {d : DataW H} {p : List MemPlace} (hv : Value.okWide Tryz.prog W r b0 29 v) (h : DataW.Trod enc Tryz.prog W 0 (fun _ => true) true 29 v d p) (hw : WOk 29 d) :
    ∃ (o : Ob) (u : ObV), v = .agg (u.cells o.mod).toArray ∧ ObR (fun g => g < W.heap.size) W u o ∧ ObOk o := by
  have hc1 : Tryz.prog.cellsOf 9 = 1 := by kernel_rfl
  have hct : Tryz.prog.cellsOf 22 = 1 := by kernel_rfl
  have hcx : Tryz.prog.cellsOf 23 = 1 := by kernel_rfl
  have hcg : Tryz.prog.cellsOf 24 = 1 := by kernel_rfl
  have hcf : Tryz.prog.cellsOf 25 = 1 := by kernel_rfl
  have hcs : Tryz.prog.cellsOf 26 = 1 := by kernel_rfl
  have hcr : Tryz.prog.cellsOf 27 = 1 := by kernel_rfl
  obtain ⟨cs, rfl, hsz⟩ := okWide_struct Tryz.underlying29 hv
  obtain ⟨l⟩ := cs
  obtain ⟨c0, c1, c2, c3, c4, c5, c6, c7, rfl⟩ : ∃ c0 c1 c2 c3 c4 c5 c6 c7, l = [c0, c1, c2, c3, c4, c5, c6, c7] := by
    have hl : l.length = 8 := hsz.trans (by kernel_rfl)
    match l, hl with
    | [c0, c1, c2, c3, c4, c5, c6, c7], _ => exact ⟨c0, c1, c2, c3, c4, c5, c6, c7, rfl⟩
  obtain ⟨fuel, hf⟩ := h
  obtain ⟨xs, n', _, hd, _, hlen, hfl⟩ := DataW.trod_struct Tryz.underlying29 hf
  obtain ⟨y0, y1, y2, y3, y4, y5, y6, y7, rfl⟩ : ∃ y0 y1 y2 y3 y4 y5 y6 y7, xs = [y0, y1, y2, y3, y4, y5, y6, y7] := by
    match xs, hlen with
    | [y0, y1, y2, y3, y4, y5, y6, y7], _ => exact ⟨y0, y1, y2, y3, y4, y5, y6, y7, rfl⟩
  simp only [Prod.mk.injEq] at hd
  rw [hd.1] at hw
  have wf := fun k f d h1 h2 => w_field Tryz.underlying29 hw k f d h1 h2
  have t0 : DataW.trod enc Tryz.prog W 0 (fun _ => true) true n' 9 [c0] = some y0 := by simpa [Value.cells, hc1] using hfl 0 _ rfl
  have t1 : DataW.trod enc Tryz.prog W 0 (fun _ => true) true n' 22 [c1] = some y1 := by simpa [Value.cells, hct] using hfl 1 _ rfl
  have t2 : DataW.trod enc Tryz.prog W 0 (fun _ => true) true n' 23 [c2] = some y2 := by simpa [Value.cells, hcx] using hfl 2 _ rfl
  have t3 : DataW.trod enc Tryz.prog W 0 (fun _ => true) true n' 24 [c3] = some y3 := by simpa [Value.cells, hcg] using hfl 3 _ rfl
  have t4 : DataW.trod enc Tryz.prog W 0 (fun _ => true) true n' 25 [c4] = some y4 := by simpa [Value.cells, hcf] using hfl 4 _ rfl
  have t5 : DataW.trod enc Tryz.prog W 0 (fun _ => true) true n' 23 [c5] = some y5 := by simpa [Value.cells, hcx] using hfl 5 _ rfl
  have t6 : DataW.trod enc Tryz.prog W 0 (fun _ => true) true n' 26 [c6] = some y6 := by simpa [Value.cells, hcs] using hfl 6 _ rfl
  have t7 : DataW.trod enc Tryz.prog W 0 (fun _ => true) true n' 27 [c7] = some y7 := by simpa [Value.cells, hcr] using hfl 7 _ rfl
  obtain ⟨m, rfl, hm⟩ := str_cell t0 (wf 0 _ _ rfl rfl)
  obtain ⟨a1, l1, k1, e1⟩ := Go.Joins.slice_form Tryz.underlying22 t1
  obtain ⟨a2, l2, k2, e2⟩ := Go.Joins.slice_form Tryz.underlying23 t2
  obtain ⟨a3, l3, k3, e3⟩ := Go.Joins.slice_form Tryz.underlying24 t3
  obtain ⟨a4, l4, k4, e4⟩ := Go.Joins.slice_form Tryz.underlying25 t4
  obtain ⟨a5, l5, k5, e5⟩ := Go.Joins.slice_form Tryz.underlying23 t5
  obtain ⟨a6, l6, k6, e6⟩ := Go.Joins.slice_form Tryz.underlying26 t6
  obtain ⟨a7, l7, k7, e7⟩ := Go.Joins.slice_form Tryz.underlying27 t7
  simp only [List.cons.injEq, and_true] at e1 e2 e3 e4 e5 e6 e7
  subst e1 e2 e3 e4 e5 e6 e7
  obtain ⟨ts, p1, q1, r1, o1⟩ := items_open t1 (wf 1 _ _ rfl rfl)
  obtain ⟨xx, p2, q2, r2, o2⟩ := texts_openC t2 (wf 2 _ _ rfl rfl)
  obtain ⟨gs, p3, q3, r3, o3⟩ := rows_open (C := cGl) (Ok := GlOk) ⟨[], [], 0⟩ Tryz.underlying24 (by kernel_rfl) (by omega) (fun _ _ _ hl h hw => gl_cells hl h hw) t3 (wf 3 _ _ rfl rfl)
  obtain ⟨fs, p4, q4, r4, o4⟩ := rows_open (C := cFn) (Ok := FnOk) ⟨[], [], 0, [], 0, []⟩ Tryz.underlying25 (by kernel_rfl) (by omega) (fun _ _ _ hl h hw => fn_cells hl h hw) t4 (wf 4 _ _ rfl rfl)
  obtain ⟨es, p5, q5, r5, o5⟩ := texts_openC t5 (wf 5 _ _ rfl rfl)
  obtain ⟨ss, p6, q6, r6, o6⟩ := rows_open (C := cSy) (Ok := SyOk) ⟨[], ⟨0, [], [], []⟩⟩ Tryz.underlying26 (by kernel_rfl) (by omega) (fun _ _ _ hl h hw => sy_cells hl h hw) t6 (wf 6 _ _ rfl rfl)
  obtain ⟨rs, p7, q7, r7, o7⟩ := rows_open (C := cRl) (Ok := RlOk) ⟨0, 0, 0⟩ Tryz.underlying27 (by kernel_rfl) (by omega) (fun _ _ _ hl h hw => rl_cells hl h hw) t7 (wf 7 _ _ rfl rfl)
  have b3 : Tryz.prog.bytesOf 74 = 40 := by kernel_rfl
  have b4 : Tryz.prog.bytesOf 52 = 96 := by kernel_rfl
  have b6 : Tryz.prog.bytesOf 80 = 80 := by kernel_rfl
  have b7 : Tryz.prog.bytesOf 83 = 24 := by kernel_rfl
  rw [b3, reach_is] at r3
  rw [b4, reach_is] at r4
  rw [b6, reach_is] at r6
  rw [b7, reach_is] at r7
  exact ⟨⟨m, ts, xx, gs, fs, es, ss, rs⟩, ⟨_, _, _, _, _, _, _⟩, rfl, ⟨q1, q2, q3, q4, q5, q6, q7⟩, ⟨hm, by simp only; omega, o1, r2, o2, by simp only; omega, o3, by simp only; omega, o4, r5, o5, by simp only; omega, o6, by simp only; omega, o7⟩⟩
end Go.Proofs.YtfjppbpicmniaaaGreatDoor
