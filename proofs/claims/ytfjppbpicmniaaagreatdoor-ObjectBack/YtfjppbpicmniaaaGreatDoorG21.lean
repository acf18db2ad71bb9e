/-
  The package's rightCase.
  And: Sign, and other small functions of the package object. The package's Right.
-/
import Derived.Deep.RegionWith
import Derived.Deep.CutRange
import Derived.Test.YtfjppbpicmniaaaGreatDoorG20
import Derived.Deep.RegionHeld3
import Derived.Test.YtfjppbpicmniaaaGreatDoorG07
import Derived.Test.YtfjppbpicmniaaaGreatDoorG04
namespace Go.Proofs.YtfjppbpicmniaaaGreatDoor
open Go.RowKit

theorem below_drew {H : Nat} {w w1 : World} (h : Below H w w1) : Below H w w1.drew := ⟨h.os, h.tape, h.output, h.size, h.block⟩
theorem below_undrew {w w1 : World} (h : Below w.drew.heap.size w.drew w1) : Below w.heap.size w w1 := ⟨h.os, h.tape, h.output, h.size, h.block⟩
set_option maxHeartbeats 4000000 in
set_option maxRecDepth 1000000 in
theorem rightCase (F : Nat → Prop) (v : Value) (cs : List Cs) (i : Nat) (w : World) (h : CsR F w v cs) (hF : ∀ g, F g → g < w.heap.size) (hl : cs.length ≤ 3518437208883) (hok : ∀ c ∈ cs, CsOk c) (hi : i < cs.length) :
    Calls Tryz.prog 173 #[v, .int .i64 (i : Int)] w (NumB (caseE (cs.take i) cs[i]) w) := by
  obtain ⟨g, o, cap, fv, rfl, hcap, hFg, hT, q0, q1⟩ := h.at i hi
  have hc := hok _ (List.getElem_mem hi)
  obtain ⟨hc1, hc2, hc3⟩ := hc
  obtain ⟨fa, fc, rfl⟩ := hT.shape
  have hHT := CsR.take h hFg hcap i (by omega)
  have hlt : (cs.take i).length ≤ 3518437208883 := by rw [List.length_take]; omega
  have i0 : (0 : Int) ≤ (i : Int) := by omega
  have i1 : (i : Int) < (cs.length : Int) := by omega
  have i2 : (i : Int) ≤ (cap : Int) := by omega
  have i3 : (i : Int) ≤ (cs.length : Int) := by omega
  generalize hn : cs[i].1 = n at *
  generalize hfs : cs[i].2 = fs at *
  have HE : Hid (caseE (cs.take i) cs[i] = if bigR n = false then 13 else if (cs.take i).any (fun d => decide (d.1 = n)) = true then 13 else if 4 < fs.length then 19 else if fs.all rightR = true then 0 else 17) := by
    rw [hid_iff, ← hn, ← hfs]
    rfl
  have hb0 : Below w.heap.size w (w.alloc (.cells #[.string (str n), .slice fa fs.length fc] 204)) := (Below.refl _ _).alloc (Nat.le_refl _) _
  have hN := heap_alloc_new w (.cells #[.string (str n), .slice fa fs.length fc] 204)
  have hB := fun u => big (str n) u (by rw [str_size]; unfold Tk at hc1; omega)
  rw [str_data] at hB
  have hH : ∀ u, Below w.heap.size w u → Calls Tryz.prog 197 #[.slice (some ⟨g, o, none⟩) i cap, .string (str n)] u (BoolB ((cs.take i).any (fun d => decide (d.1 = n))) u) := fun u hu =>
    hasCase F _ (cs.take i) n u (hHT.below hu hF) (fun g hg => Nat.lt_of_lt_of_le (hF g hg) hu.size) hlt
  have hA : ∀ u, Below w.heap.size w u → Calls Tryz.prog 198 #[.slice fa fs.length fc] u (BoolB (fs.all rightR) u) := fun u hu =>
    allTypes F _ fs u (hT.below hu hF) (fun g hg => Nat.lt_of_lt_of_le (hF g hg) hu.size) hc2
  generalize (cs.take i).any (fun d => decide (d.1 = n)) = an at *
  generalize fs.all rightR = al at *
  have hQ : ∀ u, Below (w.alloc (.cells #[.string (str n), .slice fa fs.length fc] 204)).heap.size (w.alloc (.cells #[.string (str n), .slice fa fs.length fc] 204)) u → u.cell? ⟨w.heap.size, 1, none⟩ = some (.slice fa fs.length fc) := fun u hu => by
    have hn := (hu.block w.heap.size (by simp)).trans hN
    rw [cell_of_row u _ 1 _ _ _ hn]
    rfl
  clear h hT hHT hok hc1 hc3 hlt hn hfs hN
  cases hbg : bigR n
  · rw [hbg] at hB
    have HV : Hid (caseE (cs.take i) cs[i] = 13) := by rw [hid_iff, HE.out, if_pos hbg]
    clear hH hA hQ hbg HE
    go_enter Tryz.func173, Tryz.ntmps173
    go_wp2_with fail
    refine (hB _).mono ?_
    rintro e w1 ⟨rfl, hw1⟩
    obtain rfl := hw1.symm
    go_wp2
    go_ret
    exact ⟨(by rw [HV.out]; rfl), hb0⟩
  · rw [hbg] at hB
    have HE2 := HE.out
    rw [if_neg (by rw [hbg]; simp)] at HE2
    have HE3 := hidden HE2
    clear hbg HE HE2
    go_enter Tryz.func173, Tryz.ntmps173
    go_wp2_with fail
    refine (hB _).mono ?_
    rintro e w1 ⟨rfl, hw1⟩
    obtain rfl := hw1.symm
    go_wp2_with fail
    go_cut [10] from 15 to 20 (fun c wx => c = .bool an ∧ Below (w.alloc (.cells #[.string (str n), .slice fa fs.length fc] 204)).heap.size (w.alloc (.cells #[.string (str n), .slice fa fs.length fc] 204)) wx)
    case first =>
      go_region_with (go_at_call 197; refine (hH _ (by first | exact below_drew hb0 | exact hb0)).mono ?_; rintro e w2 ⟨rfl, hb2⟩)
      all_goals (
        go_wp2_with fail
        go_meet
        exact ⟨rfl, below_undrew hb2⟩)
    case rest =>
      obtain ⟨rfl, hb3⟩ := hcut
      have hb4 := below_trans hb0 hb3
      have y1 := hQ _ hb3
      clear hb3 hQ hB hH
      cases an
      · by_cases h4 : 4 < fs.length
        · have HV : Hid (caseE (cs.take i) cs[i] = 19) := by rw [hid_iff, HE3.out, if_neg (by simp), if_pos h4]
          have h4i : (4 : Int) < (fs.length : Int) := by omega
          clear hA HE3
          go_wp2
          go_ret
          exact ⟨(by rw [HV.out]; rfl), hb4⟩
        · have h4i : ¬ (4 : Int) < (fs.length : Int) := by omega
          have hA2 := hA _ hb4
          clear hA
          go_wp2_with fail
          refine hA2.mono ?_
          rintro e w5 ⟨rfl, hb5⟩
          have hb6 := below_trans hb4 hb5
          clear hA2
          cases al
          · have HV : Hid (caseE (cs.take i) cs[i] = 17) := by rw [hid_iff, HE3.out, if_neg (by simp), if_neg h4, if_neg (by simp)]
            clear HE3
            go_wp2
            go_ret
            exact ⟨(by rw [HV.out]; rfl), hb6⟩
          · have HV : Hid (caseE (cs.take i) cs[i] = 0) := by rw [hid_iff, HE3.out, if_neg (by simp), if_neg h4, if_pos rfl]
            clear HE3
            go_wp2
            go_ret
            exact ⟨(by rw [HV.out]; rfl), hb6⟩
      · have HV : Hid (caseE (cs.take i) cs[i] = 13) := by rw [hid_iff, HE3.out, if_pos rfl]
        clear hA HE3
        go_wp2
        go_ret
        exact ⟨(by rw [HV.out]; rfl), hb4⟩
end Go.Proofs.YtfjppbpicmniaaaGreatDoor

namespace Go.Proofs.YtfjppbpicmniaaaGreatDoor
open Go.RowKit

set_option maxRecDepth 1000000 in
theorem isIndex (n c : Int) (w : World) : Calls Tryz.prog 77 #[.int .i64 n, .int .i64 c] w (Pu (.bool (inO n c)) w) := by
  by_cases h0 : 0 ≤ n
  · by_cases h1 : n < c
    · have HV : Hid (inO n c = true) := by rw [hid_iff]; simp [inO, h0, h1]
      go_enter Tryz.func77, Tryz.ntmps77
      go_wp2
      go_ret
      exact ⟨by rw [HV.out]; rfl, rfl⟩
    · have HV : Hid (inO n c = false) := by rw [hid_iff]; simp [inO, h1]
      go_enter Tryz.func77, Tryz.ntmps77
      go_wp2
      go_ret
      exact ⟨by rw [HV.out]; rfl, rfl⟩
  · have HV : Hid (inO n c = false) := by rw [hid_iff]; simp [inO, h0]
    go_enter Tryz.func77, Tryz.ntmps77
    go_wp2
    go_ret
    exact ⟨by rw [HV.out]; rfl, rfl⟩
theorem addk (b o k : Nat) : (⟨b, o, none⟩ : Addr).add k = ⟨b, o + k, none⟩ := by
  by_cases h0 : k = 0
  · subst h0; simp [Addr.add]
  · simp [Addr.add, h0]
set_option maxHeartbeats 1000000 in
set_option maxRecDepth 1000000 in
theorem osign (F : Nat → Prop) (f : Fn) (pv kv : Value) (w : World) (hp : TxC F w pv f.params) (hF : ∀ g, F g → g < w.heap.size) (hok : FnOk f) (hl : f.params.length ≤ 1000000) (hj : (joinR (f.params.drop (cutO f))).length ≤ 1000000000) (hr : f.res.length ≤ 1000000000) :
    Calls Tryz.prog 14 #[fnv f pv kv] w (TextB (signO f) w) := by
  obtain ⟨nm, ps, cp, rs, lc, cd⟩ := f
  obtain ⟨va, vc, rfl⟩ := hp.1.shape
  have hvc : ps.length ≤ vc := hp.2 _ _ _ rfl
  unfold fnv
  simp only at *
  have hcut : cutO ⟨nm, ps, cp, rs, lc, cd⟩ = min (max cp 0).toNat ps.length := rfl
  have HS : Hid (signO ⟨nm, ps, cp, rs, lc, cd⟩ = funcR (ps.drop (cutO ⟨nm, ps, cp, rs, lc, cd⟩)) rs) := rfl
  obtain ⟨k, hk⟩ : ∃ k : Nat, min (max cp 0) (ps.length : Int) = (k : Int) := ⟨(min (max cp 0) (ps.length : Int)).toNat, by omega⟩
  have hkc : cutO ⟨nm, ps, cp, rs, lc, cd⟩ = k := by rw [hcut]; omega
  rw [hkc] at HS hj
  clear hcut hkc hok
  have hkl : k ≤ ps.length := by omega
  have hb0 : Below w.heap.size w (w.alloc (.cells #[.string (str nm), .slice va ps.length vc, .int .i64 cp, .string (str rs), .int .i64 lc, kv] 52)) := (Below.refl _ _).alloc (Nat.le_refl _) _
  have hS : ∀ a' n' c', n' = ps.length - k → (ps.length - k = 0 ∨ a' = va.map (·.add k) ∧ c' = vc - k) → StrRow w (.slice a' n' c') (ps.drop k) := by
    rintro a' n' c' rfl ha
    by_cases h0 : ps.length - k = 0
    · exact .inl ⟨List.drop_of_length_le (by omega), a', c', by rw [h0]⟩
    · rcases ha with h1 | ⟨rfl, rfl⟩
      · exact absurd h1 h0
      · rcases hp.1 with ⟨a, c0, e, rfl⟩ | ⟨g, o, cap, e, hg, hcell⟩
        · exact absurd (by simp) h0
        · simp only [Value.slice.injEq, true_and] at e
          obtain ⟨rfl, rfl⟩ := e
          refine .inr ⟨g, o + k, vc - k, by simp [addk], hF g hg, by simp; omega, fun j x hx => ?_⟩
          rw [List.getElem?_drop] at hx
          rw [Nat.add_assoc]
          exact hcell _ x hx
  have hT : ∀ u a' n' c', Below w.heap.size w u → n' = ps.length - k → (ps.length - k = 0 ∨ a' = va.map (·.add k) ∧ c' = vc - k) → Calls Tryz.prog 51 #[.slice a' n' c', .string (str rs)] u (TextB (funcR (ps.drop k) rs) u) := by
    intro u a' n' c' hu h1 h2
    exact func _ _ rs u ((hS a' n' c' h1 h2).below hu) (by simp; omega) hj hr
  generalize funcR (ps.drop k) rs = res at *
  clear hS hj hr
  have k0 : (0 : Int) ≤ (k : Int) := by omega
  have k1 : (k : Int) ≤ (ps.length : Int) := by omega
  have k2 : (k : Int) ≤ (vc : Int) := by omega
  have k3 : (ps.length : Int) ≤ (vc : Int) := by omega
  have hva : va = none ∧ ps.length = 0 ∨ ∃ b o sp, va = some ⟨b, o, sp⟩ := by
    rcases va with _ | ⟨b, o, sp⟩
    · left
      rcases hp.1 with ⟨a, c0, e, h⟩ | ⟨g, o, cap, e, hg, hcell⟩
      · exact ⟨rfl, by rw [h]; rfl⟩
      · simp at e
    · exact .inr ⟨b, o, sp, rfl⟩
  clear hp
  generalize ps.length = n at *
  rcases hva with ⟨rfl, h0⟩ | ⟨b, o, sp, rfl⟩
  · subst h0
    by_cases hv : vc = k
    · subst hv
      go_enter Tryz.func14, Tryz.ntmps14
      go_wp2_with fail
      go_region_with (go_at_call 51; refine (hT _ _ _ _ (by first | exact below_drew hb0 | exact hb0) (by omega) (by first | exact .inl (by omega) | exact .inr ⟨rfl, rfl⟩)).mono ?_; rintro e w2 ⟨rfl, hb2⟩)
      all_goals (
        go_wp2
        go_ret
        exact ⟨(by rw [HS.out]; first | done | rfl), by first | exact below_trans hb0 (below_undrew hb2) | exact below_trans hb0 hb2⟩)
    · have hvi : ¬ (vc : Int) = (k : Int) := by omega
      go_enter Tryz.func14, Tryz.ntmps14
      go_wp2_with fail
      go_region_with (go_at_call 51; refine (hT _ _ _ _ (by first | exact below_drew hb0 | exact hb0) (by omega) (by first | exact .inl (by omega) | exact .inr ⟨rfl, rfl⟩)).mono ?_; rintro e w2 ⟨rfl, hb2⟩)
      all_goals (
        go_wp2
        go_ret
        exact ⟨(by rw [HS.out]; first | done | rfl), by first | exact below_trans hb0 (below_undrew hb2) | exact below_trans hb0 hb2⟩)
  · by_cases hv : vc = k
    · subst hv
      go_enter Tryz.func14, Tryz.ntmps14
      go_wp2_with fail
      go_region_with (go_at_call 51; refine (hT _ _ _ _ (by first | exact below_drew hb0 | exact hb0) (by omega) (by first | exact .inl (by omega) | exact .inr ⟨rfl, rfl⟩)).mono ?_; rintro e w2 ⟨rfl, hb2⟩)
      all_goals (
        go_wp2
        go_ret
        exact ⟨(by rw [HS.out]; first | done | rfl), by first | exact below_trans hb0 (below_undrew hb2) | exact below_trans hb0 hb2⟩)
    · have hvi : ¬ (vc : Int) = (k : Int) := by omega
      go_enter Tryz.func14, Tryz.ntmps14
      go_wp2_with fail
      go_region_with (go_at_call 51; refine (hT _ _ _ _ (by first | exact below_drew hb0 | exact hb0) (by omega) (by first | exact .inl (by omega) | exact .inr ⟨rfl, rfl⟩)).mono ?_; rintro e w2 ⟨rfl, hb2⟩)
      all_goals (
        go_wp2
        go_ret
        exact ⟨(by rw [HS.out]; first | done | rfl), by first | exact below_trans hb0 (below_undrew hb2) | exact below_trans hb0 hb2⟩)
end Go.Proofs.YtfjppbpicmniaaaGreatDoor

namespace Go.Proofs.YtfjppbpicmniaaaGreatDoor
open Go.RowKit

theorem iE1 {p : Option (List UInt8)} {kd : Int} {nm ty : List UInt8} {cs : List Cs} (h : kindE kd = false) : itemE p ⟨kd, nm, ty, cs⟩ = 12 := if_pos h
theorem iE2 {p : Option (List UInt8)} {kd : Int} {nm ty : List UInt8} {cs : List Cs} (h : kindE kd = true) (hn : namedE ⟨kd, nm, ty, cs⟩ = false) : itemE p ⟨kd, nm, ty, cs⟩ = 13 := by
  unfold itemE
  rw [if_neg (by rw [h]; simp), if_pos hn]
theorem iE3 {p : Option (List UInt8)} {kd : Int} {nm ty : List UInt8} {cs : List Cs} (h : kindE kd = true) (hn : namedE ⟨kd, nm, ty, cs⟩ = true) (hp : p.any (fun q => decide (nm ≤ q)) = true) : itemE p ⟨kd, nm, ty, cs⟩ = 13 := by
  unfold itemE
  rw [if_neg (by rw [h]; simp), if_neg (by rw [hn]; simp), if_pos hp]
theorem iE4 {p : Option (List UInt8)} {kd : Int} {nm ty : List UInt8} {cs : List Cs} (h : kindE kd = true) (hn : namedE ⟨kd, nm, ty, cs⟩ = true) (hp : p.any (fun q => decide (nm ≤ q)) = false) (hk : kd ≠ 1) : itemE p ⟨kd, nm, ty, cs⟩ = valueE ⟨kd, nm, ty, cs⟩ := by
  unfold itemE
  rw [if_neg (by rw [h]; simp), if_neg (by rw [hn]; simp), if_neg (by rw [hp]; simp), if_pos hk]
theorem iE5 {p : Option (List UInt8)} {kd : Int} {nm ty : List UInt8} {cs : List Cs} (h : kindE kd = true) (hn : namedE ⟨kd, nm, ty, cs⟩ = true) (hp : p.any (fun q => decide (nm ≤ q)) = false) (hk : kd = 1) : itemE p ⟨kd, nm, ty, cs⟩ = if ty ≠ [] then 12 else if cs.length = 0 then 12 else if 6 < cs.length then 12 else casesE [] cs := by
  unfold itemE
  rw [if_neg (by rw [h]; simp), if_neg (by rw [hn]; simp), if_neg (by rw [hp]; simp), if_neg (fun h => h hk)]
  rfl
theorem leq_is (a b : List UInt8) : (Op.bytesLess (str a).toList (str b).toList || (str a).toList == (str b).toList) = decide (a ≤ b) := by
  rw [less_is, eq_is, Bool.eq_iff_iff, Bool.or_eq_true, decide_eq_true_iff, decide_eq_true_iff, decide_eq_true_iff, str_lt_iff]
  constructor
  · rintro (h | rfl)
    · exact h.1
    · exact List.le_refl _
  · intro h
    by_cases he : a = b
    · exact .inr he
    · exact .inl ⟨h, he⟩
theorem nil_text (ty : List UInt8) : (str ty).toList.isEmpty = decide (ty = []) := by
  rw [Lib.toList_data, str_data]
  cases ty <;> simp
set_option maxHeartbeats 8000000 in
set_option maxRecDepth 1000000 in
theorem right7 (F : Nat → Prop) (m : List UInt8) (v : Value) (l : List It) (w : World) (h : ItR F w v l) (hF : ∀ g, F g → g < w.heap.size) (hm : Tk m) (hok : ∀ x ∈ l, ItOk x) : Calls Tryz.prog 131 #[.agg #[.string (str m), v]] w (NumB (rightI m l) w) := by
  obtain ⟨va, vc, rfl⟩ := h.shape
  have hb0 : Below w.heap.size w (w.alloc (.cells #[.string (str m), .slice va l.length vc] 56)) := (Below.refl _ _).alloc (Nat.le_refl _) _
  have hN := heap_alloc_new w (.cells #[.string (str m), .slice va l.length vc] 56)
  have HI : Hid (ItR F (w.alloc (.cells #[.string (str m), .slice va l.length vc] 56)) (.slice va l.length vc) l) := h.below hb0 hF
  have hF0 : ∀ g, F g → g < (w.alloc (.cells #[.string (str m), .slice va l.length vc] 56)).heap.size := fun g hg => by have := hF g hg; simp; omega
  have hs0 : w.heap.size < (w.alloc (.cells #[.string (str m), .slice va l.length vc] 56)).heap.size := by simp
  have hV := fun u => value (str m) u (by rw [str_size]; unfold Tk at hm; omega)
  rw [str_data] at hV
  have HO : Hid (∀ x ∈ l, ItOk x) := hok
  clear h hm hok
  go_enter Tryz.func131, Tryz.ntmps131
  go_wp2_with fail
  refine wp_scope_labels (fun _ _ _ => False) (fun _ _ _ => 0) ?_ (fun _ _ _ h => h.elim)
  intro hz
  clear hz
  go_wp2_with fail
  generalize w.alloc (.cells #[.string (str m), .slice va l.length vc] 56) = w0 at *
  have c1 : w0.cell? ⟨w.heap.size, 1, none⟩ = some (.slice va l.length vc) := by rw [cell_of_row w0 _ 1 _ _ _ hN]; rfl
  refine (hV _).mono ?_
  rintro e w1 ⟨rfl, hw1⟩
  obtain rfl := hw1.symm
  cases hv : valueR m
  · have HR : Hid (rightI m l = 13) := by rw [hid_iff, rightI, if_pos hv]
    clear hv hV
    go_wp2
    show bodyPost Tryz.prog Tryz.f131 (NumB (rightI m l) w) Exit.ret _ _
    go_ret
    exact ⟨by rw [HR.out]; rfl, hb0⟩
  · by_cases h32 : 32 < l.length
    · have HR : Hid (rightI m l = 4) := by rw [hid_iff, rightI, if_neg (by rw [hv]; simp), if_pos h32]
      have h32i : (32 : Int) < (l.length : Int) := by omega
      clear hv hV
      go_wp2
      show bodyPost Tryz.prog Tryz.f131 (NumB (rightI m l) w) Exit.ret _ _
      go_ret
      exact ⟨by rw [HR.out]; rfl, hb0⟩
    · have HR : Hid (rightI m l = itemsE none l) := by rw [hid_iff, rightI, if_neg (by rw [hv]; simp), if_neg h32]
      have h32i : ¬ (32 : Int) < (l.length : Int) := by omega
      clear hv hV
      go_wp2
      rename_i hK
      refine wp_label (hK _ _ ?_)
      go_wp2
      clear c1
      go_loopg [18, 3] l.length (fun g i s wr => ∃ (k : Nat), g + k = l.length ∧ i = .int .i64 (k : Int) ∧ s = .int .i64 0 ∧ Hid (itemsE none l = itemsE (prevI l k) (l.drop k)) ∧ Below w0.heap.size w0 wr)
      case atStart => exact ⟨0, by omega, rfl, rfl, rfl, Below.refl _ _⟩
      case round =>
        obtain ⟨k, hg, rfl, rfl, hq, hbl⟩ := hrel
        rename World => wo
        have hbw := below_trans hb0 hbl
        by_cases hk : k < l.length
        · obtain ⟨g, o, cap, cv, e1, hFg, hC, q0, q1, q2, q3⟩ := (HI.out.below hbl hF0).at k hk
          simp only [Value.slice.injEq, true_and] at e1
          obtain ⟨rfl, rfl⟩ := e1
          have hki : (k : Int) < (l.length : Int) := by omega
          obtain ⟨ca, cc, rfl⟩ := hC.shape
          have hxo := HO.out _ (List.getElem_mem hk)
          have hat := itemsE_at l k hk
          have HP : Hid (∀ j, k = j + 1 → ∃ p, (prevI l k).any (fun q => decide (l[k].name ≤ q)) = decide (l[k].name ≤ p) ∧ wo.cell? ⟨g, o + j * 4 + 1, none⟩ = some (.string (str p))) := by
            rw [hid_iff]
            rintro j rfl
            obtain ⟨g', o', cap', cv', e1, _, _, _, q1', _⟩ := (HI.out.below hbl hF0).at j (by omega)
            simp only [Value.slice.injEq, Option.some.injEq, Addr.mk.injEq, and_true, true_and] at e1
            obtain ⟨⟨rfl, rfl⟩, _⟩ := e1
            have hj : j < l.length := by omega
            refine ⟨l[j].name, ?_, q1'⟩
            simp [prevI, hj]
          have HZ : Hid (k = 0 → (prevI l k).any (fun q => decide (l[k].name ≤ q)) = false) := by
            rw [hid_iff]
            rintro rfl
            rfl
          rcases hx : l[k] with ⟨kd, nm, ty, cs⟩
          rw [hx] at q0 q1 q2 q3 hC hxo hat HP HZ
          simp only at q0 q1 q2 q3 hC HP HZ
          obtain ⟨_, _, hnm, hty, hcl, hco⟩ := hxo
          simp only at hnm hty hcl hco
          have HT : Hid (∀ y, itemE (prevI l k) ⟨kd, nm, ty, cs⟩ = y → y ≠ 0 → rightI m l = y) := by
            rw [hid_iff]
            intro y hy hy0
            rw [HR.out, hq.out, hat, hy, if_neg hy0]
          have HX : Hid (itemE (prevI l k) ⟨kd, nm, ty, cs⟩ = 0 → Hid (itemsE none l = itemsE (prevI l (k + 1)) (l.drop (k + 1)))) := by
            rw [hid_iff]
            intro hy
            rw [hid_iff, hq.out, hat, if_pos hy]
          obtain ⟨pv, hpv⟩ : ∃ pv, (prevI l k).any (fun q => decide (nm ≤ q)) = pv := ⟨_, rfl⟩
          rw [hpv] at HP HZ
          have HPV := hidden hpv
          clear hx hat hq hpv
          have hb2 : Below wo.heap.size wo (wo.alloc (.cells #[.int .i64 kd, .string (str nm), .string (str ty), .slice ca cs.length cc] 78)) := (Below.refl _ _).alloc (Nat.le_refl _) _
          have hN2 := heap_alloc_new wo (.cells #[.int .i64 kd, .string (str nm), .string (str ty), .slice ca cs.length cc] 78)
          have hsz2 := hbl.size
          have HC0 : ∀ u, Below (wo.alloc (.cells #[.int .i64 kd, .string (str nm), .string (str ty), .slice ca cs.length cc] 78)).heap.size (wo.alloc (.cells #[.int .i64 kd, .string (str nm), .string (str ty), .slice ca cs.length cc] 78)) u → u.cell? ⟨wo.heap.size, 0, none⟩ = some (.int .i64 kd) ∧ u.cell? ⟨wo.heap.size, 1, none⟩ = some (.string (str nm)) ∧ u.cell? ⟨wo.heap.size, 2, none⟩ = some (.string (str ty)) ∧ u.cell? ⟨wo.heap.size, 3, none⟩ = some (.slice ca cs.length cc) ∧ u.cell? ⟨w.heap.size, 1, none⟩ = some (.slice (some ⟨g, o, none⟩) l.length vc) ∧ Below wo.heap.size wo u ∧ Below w.heap.size w u := by
            intro u hu
            have hn := (hu.block wo.heap.size (by simp)).trans hN2
            have hn1 := (hu.block w.heap.size (by simp; omega)).trans ((hb2.block _ (by omega)).trans ((hbl.block _ hs0).trans hN))
            have hbu : Below wo.heap.size wo u := below_trans hb2 hu
            exact ⟨by rw [cell_of_row u _ 0 _ _ _ hn]; rfl, by rw [cell_of_row u _ 1 _ _ _ hn]; rfl, by rw [cell_of_row u _ 2 _ _ _ hn]; rfl, by rw [cell_of_row u _ 3 _ _ _ hn]; rfl, by rw [cell_of_row u _ 1 _ _ _ hn1]; rfl, hbu, below_trans hbw hbu⟩
          have HC := hidden HC0
          obtain ⟨_, _, _, _, _, hbz, hbz'⟩ := HC0 _ (Below.refl _ _)
          have hKd := fun u => isKind kd u
          have hNm := isNamed ⟨kd, nm, ty, cs⟩ (.slice ca cs.length cc) (wo.alloc (.cells #[.int .i64 kd, .string (str nm), .string (str ty), .slice ca cs.length cc] 78)) hnm
          unfold itv at hNm
          simp only at hNm
          clear HC0 hN2 hb2
          go_wp2_with fail
          refine (hKd _).mono ?_
          rintro e w2 ⟨rfl, hw2⟩
          obtain rfl := hw2.symm
          clear q0 q1 q2 q3 hKd
          cases hkd : kindE kd
          · have HKD := hidden hkd
            clear HX HP HZ HC hNm hkd
            go_wp2
            show bodyPost Tryz.prog Tryz.f131 (NumB (rightI m l) w) Exit.ret _ _
            go_ret
            exact ⟨by rw [HT.out 12 (iE1 HKD.out) (by decide)]; rfl, hbz'⟩
          · have HKD := hidden hkd
            go_wp2_with fail
            generalize wo.alloc (.cells #[.int .i64 kd, .string (str nm), .string (str ty), .slice ca cs.length cc] 78) = w2 at *
            refine hNm.mono ?_
            rintro e w3 ⟨rfl, hb3⟩
            obtain ⟨y0, y1, y2, y3, y4, hb4, hb5⟩ := HC.out w3 hb3
            clear hNm hkd
            cases hnd : namedE ⟨kd, nm, ty, cs⟩
            · have HND := hidden hnd
              clear HX HP HZ HC hnd
              go_wp2
              show bodyPost Tryz.prog Tryz.f131 (NumB (rightI m l) w) Exit.ret _ _
              go_ret
              exact ⟨by rw [HT.out 13 (iE2 HKD.out HND.out) (by decide)]; rfl, hb5⟩
            · have HND := hidden hnd
              clear hnd
              go_upto_region 18 with fail
              go_cut [41] from 45 to 58 (fun c wx => c = .bool pv ∧ ∃ n, wx = w3.drewN n)
              case first =>
                cases k with
                | zero =>
                  have hz := HZ.out rfl
                  subst hz
                  clear HT HX HP HZ HC
                  go_region
                  all_goals (
                    go_wp2_with fail
                    go_meet
                    exact ⟨rfl, 1, rfl⟩)
                | succ j =>
                  obtain ⟨p, hp1, hp2⟩ := HP.out j rfl
                  have hp3 := (World.cell?_of_block (a := ⟨g, o + j * 4 + 1, none⟩) (hb4.block g (World.block_lt_of_cell? wo _ hp2))).trans hp2
                  have hle := leq_is nm p
                  rw [← hp1] at hle
                  have hj1 : IntKind.i64.wrap (((j + 1 : Nat) : Int) - 1) = (j : Int) := by rw [IntKind.wrap_i64]; omega
                  have hj2 : (j : Int) < (l.length : Int) := by omega
                  have hj3 : (0 : Int) < ((j + 1 : Nat) : Int) := by omega
                  clear HT HX HP HZ HC hp1 hp2
                  go_region
                  all_goals (
                    go_wp2_with fail
                    go_meet
                    exact ⟨rfl, 1, rfl⟩)
              case rest =>
                obtain ⟨rfl, n, rfl⟩ := hcut
                have hb5' := below_drewN hb5 n
                have hb3' : Below w2.heap.size w2 (w3.drewN n) := below_drewN hb3 n
                clear y0 y1 y2 y3 y4 hb4 hb5 HP HZ
                generalize w3.drewN n = w4 at *
                obtain ⟨y0, y1, y2, y3, y4, hb4, hb5⟩ := HC.out w4 hb3'
                clear hb3 hb3' hb5'
                cases pv
                · by_cases hk1 : kd = 1
                  · subst hk1
                    by_cases hty0 : ty = []
                    · have hne := nil_text ty
                      rw [decide_eq_true hty0] at hne
                      have HTY := hidden hty0
                      clear hty0
                      by_cases hc0 : cs.length = 0
                      · have hci : ((cs.length : Nat) : Int) = 0 := by omega
                        have hcb : (((cs.length : Nat) : Int) == 0) = true := by simp [hc0]
                        go_wp2
                        show bodyPost Tryz.prog Tryz.f131 (NumB (rightI m l) w) Exit.ret _ _
                        go_ret
                        exact ⟨by rw [HT.out 12 (by rw [iE5 HKD.out HND.out HPV.out rfl, if_neg (fun h => h HTY.out), if_pos hc0]) (by decide)]; rfl, hb5⟩
                      · have hcb : (((cs.length : Nat) : Int) == 0) = false := by rw [beq_eq_false_iff_ne]; omega
                        by_cases h6 : 6 < cs.length
                        · have h6i : (6 : Int) < (cs.length : Int) := by omega
                          go_wp2
                          show bodyPost Tryz.prog Tryz.f131 (NumB (rightI m l) w) Exit.ret _ _
                          go_ret
                          exact ⟨by rw [HT.out 12 (by rw [iE5 HKD.out HND.out HPV.out rfl, if_neg (fun h => h HTY.out), if_neg hc0, if_pos h6]) (by decide)]; rfl, hb5⟩
                        · have h6i : ¬ (6 : Int) < (cs.length : Int) := by omega
                          have hCk : ∀ u, Below w4.heap.size w4 u → CsR F u (.slice ca cs.length cc) cs := fun u hu => hC.below (below_trans hb4 hu) (fun g hg => Nat.lt_of_lt_of_le (hF0 g hg) hsz2)
                          have hFk : ∀ g, F g → g < w4.heap.size := fun g hg => Nat.lt_of_lt_of_le (hF0 g hg) (Nat.le_trans hsz2 hb4.size)
                          have HCK := hidden hCk
                          have HQ : Hid (∀ u, Below w4.heap.size w4 u → u.cell? ⟨wo.heap.size, 3, none⟩ = some (.slice ca cs.length cc)) := fun u hu => (World.cell?_of_block (a := ⟨wo.heap.size, 3, none⟩) (hu.block wo.heap.size (World.block_lt_of_cell? w4 _ y3))).trans y3
                          have HTc : Hid (∀ y, casesE [] cs = y → y ≠ 0 → rightI m l = y) := by
                            rw [hid_iff]
                            intro y hy hy0
                            exact HT.out y (by rw [iE5 HKD.out HND.out HPV.out rfl, if_neg (fun h => h HTY.out), if_neg hc0, if_neg h6]; exact hy) hy0
                          have HXc : Hid (casesE [] cs = 0 → Hid (itemsE none l = itemsE (prevI l (k + 1)) (l.drop (k + 1)))) := by
                            rw [hid_iff]
                            intro hy
                            exact HX.out (by rw [iE5 HKD.out HND.out HPV.out rfl, if_neg (fun h => h HTY.out), if_neg hc0, if_neg h6]; exact hy)
                          clear HT HX hCk hC HC
                          go_wp2
                          clear y0 y1 y2 y3 y4
                          go_loopg [26, 3] cs.length (fun gj i s wr => ∃ (j : Nat), gj + j = cs.length ∧ i = .int .i64 (j : Int) ∧ s = .int .i64 0 ∧ Hid (casesE [] cs = casesE (cs.take j) (cs.drop j)) ∧ Below w4.heap.size w4 wr)
                          case atStart => exact ⟨0, by omega, rfl, rfl, by rw [hid_iff]; rfl, Below.refl _ _⟩
                          case round =>
                            obtain ⟨j, hgj, rfl, rfl, hqj, hbj⟩ := hrel
                            have hbwj := below_trans hb5 hbj
                            by_cases hj : j < cs.length
                            · have hji : (j : Int) < (cs.length : Int) := by omega
                              have z3 := HQ.out wr hbj
                              have hrc := rightCase F _ cs j wr (HCK.out wr hbj) (fun g hg => Nat.lt_of_lt_of_le (hFk g hg) hbj.size) hcl hco hj
                              have hca := casesE_at cs j hj
                              by_cases hz : caseE (cs.take j) cs[j] = 0
                              · rw [hz] at hrc
                                have HJ : Hid (casesE [] cs = casesE (cs.take (j + 1)) (cs.drop (j + 1))) := by rw [hid_iff, hqj.out, hca, if_pos hz]
                                clear hqj hca hz
                                go_wp2_with fail
                                refine hrc.mono ?_
                                rintro e w5 ⟨rfl, hb6⟩
                                have hb7 := below_trans hbj hb6
                                go_wp2
                                go_roundg (cs.length - (j + 1))
                                case measure => omega
                                case rel => exact ⟨j + 1, by omega, by go_num, rfl, HJ, hb7⟩
                              · have HJ : Hid (rightI m l = caseE (cs.take j) cs[j]) := HTc.out _ (by rw [hqj.out, hca, if_neg hz]) hz
                                generalize caseE (cs.take j) cs[j] = y at *
                                have hyn : ((y : Int) != 0) = true := by simp; omega
                                clear hqj hca hz
                                go_wp2_with fail
                                refine hrc.mono ?_
                                rintro e w5 ⟨rfl, hb6⟩
                                have hb7 := below_trans hbwj hb6
                                go_wp2
                                show bodyPost Tryz.prog Tryz.f131 (NumB (rightI m l) w) Exit.ret _ _
                                go_ret
                                exact ⟨(by rw [HJ.out]; first | done | rfl), hb7⟩
                            · have hji : ¬ (j : Int) < (cs.length : Int) := by omega
                              have HZZ : Hid (casesE [] cs = 0) := by
                                rw [hid_iff, hqj.out, List.drop_of_length_le (by omega)]
                                rfl
                              have hb8 : Below w0.heap.size w0 wr := below_trans hbl (below_trans hb4 hbj)
                              clear hqj
                              go_wp2
                              go_roundg (l.length - (k + 1))
                              case measure => omega
                              case rel => exact ⟨k + 1, by omega, by go_num, rfl, HXc.out (HZZ.out), hb8⟩
                    · have hne := nil_text ty
                      rw [decide_eq_false hty0] at hne
                      go_wp2
                      show bodyPost Tryz.prog Tryz.f131 (NumB (rightI m l) w) Exit.ret _ _
                      go_ret
                      exact ⟨by rw [HT.out 12 (by rw [iE5 HKD.out HND.out HPV.out rfl, if_pos hty0]) (by decide)]; rfl, hb5⟩
                  · have hkn : (kd != 1) = true := by simp [hk1]
                    have hrv := rightValue F ⟨kd, nm, ty, cs⟩ (.slice ca cs.length cc) w4 (hC.below hb4 (fun g hg => Nat.lt_of_lt_of_le (hF0 g hg) hsz2)) hty
                    unfold itv at hrv
                    simp only at hrv
                    by_cases hz : valueE ⟨kd, nm, ty, cs⟩ = 0
                    · rw [hz] at hrv
                      have HJ := HX.out (by rw [iE4 HKD.out HND.out HPV.out hk1]; exact hz)
                      clear HT HX HC hz hC
                      go_wp2_with fail
                      refine hrv.mono ?_
                      rintro e w5 ⟨rfl, hb6⟩
                      have hb7 : Below w0.heap.size w0 w5 := below_trans hbl (below_trans hb4 hb6)
                      go_wp2
                      go_roundg (l.length - (k + 1))
                      case measure => omega
                      case rel => exact ⟨k + 1, by omega, by go_num, rfl, HJ, hb7⟩
                    · have HJ : Hid (rightI m l = valueE ⟨kd, nm, ty, cs⟩) := HT.out _ (iE4 HKD.out HND.out HPV.out hk1) hz
                      generalize valueE ⟨kd, nm, ty, cs⟩ = y at *
                      have hyn : ((y : Int) != 0) = true := by simp; omega
                      clear HT HX HC hz hC
                      go_wp2_with fail
                      refine hrv.mono ?_
                      rintro e w5 ⟨rfl, hb6⟩
                      have hb7 := below_trans hb5 hb6
                      go_wp2
                      show bodyPost Tryz.prog Tryz.f131 (NumB (rightI m l) w) Exit.ret _ _
                      go_ret
                      exact ⟨(by rw [HJ.out]; first | done | rfl), hb7⟩
                · go_wp2
                  show bodyPost Tryz.prog Tryz.f131 (NumB (rightI m l) w) Exit.ret _ _
                  go_ret
                  exact ⟨by rw [HT.out 13 (iE3 HKD.out HND.out HPV.out) (by decide)]; rfl, hb5⟩
        · have hki : ¬ (k : Int) < (l.length : Int) := by omega
          have HZ : Hid (rightI m l = 0) := by
            rw [hid_iff, HR.out, hq.out, List.drop_of_length_le (by omega)]
            rfl
          clear hq
          go_wp2
          show bodyPost Tryz.prog Tryz.f131 (NumB (rightI m l) w) Exit.ret _ _
          go_ret
          exact ⟨(by rw [HZ.out]; first | done | rfl), hbw⟩
end Go.Proofs.YtfjppbpicmniaaaGreatDoor
