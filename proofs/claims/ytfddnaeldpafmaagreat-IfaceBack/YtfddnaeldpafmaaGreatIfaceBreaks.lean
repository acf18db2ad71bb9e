/-
  The package's Breaks.
-/
import Derived.Deep.CutRange
import Derived.Deep.RegionHeld3
import Derived.Deep.RegionWith
import Derived.Deep.LoopGhost
import Derived.Maps.OwnSet
import Derived.Maps.OwnOps
import Derived.Test.YtfddnaeldpafmaaGreatIfaceOnce
import Derived.Test.YtfddnaeldpafmaaGreatIfacePlaces
import Derived.Test.YtfddnaeldpafmaaGreatIfaceSameW
import Derived.Test.YtfddnaeldpafmaaGreatLexLabels
namespace Go.Proofs.YtfddnaeldpafmaaGreat
open Go.RowKit Go.Maps

theorem ownsMap_below {H : Type} {w w' : World} {B b n : Nat} {k : TypeId} {R : Value → Option (DataW H × List MemPlace)} {D : DataW H} (h : w.ownsMap Tryz.prog k R b n D) (hb : Below B w w') (hlt : b < B) : w'.ownsMap Tryz.prog k R b n D := by
  obtain ⟨es, c, h1, h2⟩ := h
  exact ⟨es, c, (hb.block b hlt).trans h1, h2⟩
theorem lookup_yes {w : World} {ops : Array Oper} {rest : List Oper} {o : Oper} {a : Act} {Q : Exit → Act → World → Prop} (hg : o.guard = none) (m x : Operand) (hop : o.op = Op.lookup 74 m x true)
    (b n : Nat) (D : DataW Nat) (hm : a.eval m = .map (some b)) (hown : w.ownsMap Tryz.prog 9 (plainElem Tryz.prog 3) b n D) (key : Value) (hx : a.eval x = key) (kl : Lit) (hkey : keyOf Tryz.prog 9 key = some kl)
    (j : Nat) (hj : has D kl = true ∧ D.atKey kl (.lit (.int .i64 0)) = .lit (.int .i64 (j : Int)))
    (hK : wpList Tryz.prog ops Q rest (a.put o.dst (.tuple #[.int .i64 (j : Int), .bool true])) w) : wpList Tryz.prog ops Q (o :: rest) a w := by
  refine wpList_lookup_own_ok_int w hg m x 74 hop 9 3 .i64 (string_keyed Tryz.underlying9) Tryz.underlying74 Tryz.underlying3 (Tryz.zeroValue3 _) b n D hm hown key kl hx hkey ?_
  intro c hc _
  rw [hj.2] at hc
  simp only [DataW.lit.injEq, Lit.int.injEq, true_and] at hc
  subst hc
  rw [hj.1]
  exact hK
theorem lookup_no {w : World} {ops : Array Oper} {rest : List Oper} {o : Oper} {a : Act} {Q : Exit → Act → World → Prop} (hg : o.guard = none) (m x : Operand) (hop : o.op = Op.lookup 74 m x true)
    (b n : Nat) (D : DataW Nat) (hm : a.eval m = .map (some b)) (hown : w.ownsMap Tryz.prog 9 (plainElem Tryz.prog 3) b n D) (key : Value) (hx : a.eval x = key) (kl : Lit) (hkey : keyOf Tryz.prog 9 key = some kl)
    (hj : has D kl = false)
    (hK : ∀ c : Int, wpList Tryz.prog ops Q rest (a.put o.dst (.tuple #[.int .i64 c, .bool false])) w) : wpList Tryz.prog ops Q (o :: rest) a w := by
  refine wpList_lookup_own_ok_int w hg m x 74 hop 9 3 .i64 (string_keyed Tryz.underlying9) Tryz.underlying74 Tryz.underlying3 (Tryz.zeroValue3 _) b n D hm hown key kl hx hkey ?_
  intro c hc _
  rw [hj]
  exact hK c
/-- A look-up, whatever it finds: the place, or any number. -/
theorem lookup_any {w : World} {ops : Array Oper} {rest : List Oper} {o : Oper} {a : Act} {Q : Exit → Act → World → Prop} (hg : o.guard = none) (m x : Operand) (hop : o.op = Op.lookup 74 m x true)
    (b n : Nat) (l : List It) (hm : a.eval m = .map (some b)) (hown : w.ownsMap Tryz.prog 9 (plainElem Tryz.prog 3) b n (plL (H := Nat) 0 l)) (key : Value) (hx : a.eval x = key) (q : List UInt8) (hkey : keyOf Tryz.prog 9 key = some (.string q))
    (hK : ∀ (c : Int) (r : Bool), Hid (r = (findI l q).isSome) → Hid (∀ y, findI l q = some y → ∃ j, ∃ h : j < l.length, l[j] = y ∧ c = (j : Int)) → wpList Tryz.prog ops Q rest (a.put o.dst (.tuple #[.int .i64 c, .bool r])) w) : wpList Tryz.prog ops Q (o :: rest) a w := by
  refine wpList_lookup_own_ok_int w hg m x 74 hop 9 3 .i64 (string_keyed Tryz.underlying9) Tryz.underlying74 Tryz.underlying3 (Tryz.zeroValue3 _) b n _ hm hown key _ hx hkey ?_
  intro c hc _
  refine hK c _ (plL_has q 0 l) fun y hy => ?_
  obtain ⟨j, h1, h2, h3⟩ := plL_at (H := Nat) q (.lit (.int .i64 0)) 0 l y hy
  rw [h3] at hc
  simp only [DataW.lit.injEq, Lit.int.injEq, true_and, Nat.zero_add] at hc
  exact ⟨j, h1, h2, hc.symm⟩
theorem append_textN {w : World} {ops : Array Oper} {rest : List Oper} {o : Oper} {a : Act} {Q : Exit → Act → World → Prop} (hgd : o.guard = none) (s x : Operand)
    (ho : o.op = .call { callee := .builtin .append, args := #[s, x], argTypes := #[25, 25] })
    (B : Nat) (v : Value) (acc : List (List UInt8)) (hs : a.eval s = v) (hown : w.ownsRow B 9 1 v acc.length (sc acc))
    (ad : Addr) (c : Nat) (n : List UInt8) (hx : a.eval x = .slice (some ad) 1 c) (hnews : ∀ j u, (sc [n])[j]? = some u → w.cell? (ad.add j) = some u)
    (hlen : acc.length + 1 ≤ 8796093022208) (hB : B ≤ w.heap.size)
    (h : ∀ ad' c' w', w'.ownsRow B 9 1 (.slice (some ad') (acc.length + 1) c') (acc ++ [n]).length (sc (acc ++ [n])) → w.grownBy w' v.ownBlock → wpList Tryz.prog ops Q rest (a.put o.dst (.slice (some ad') (acc.length + 1) c')) w') :
    wpList Tryz.prog ops Q (o :: rest) a w := by
  obtain ⟨i, z, hi, hz, h1, h2, h3⟩ := info_z infoS
  refine wpList_append_own w hgd s x 25 ho B 9 i z 1 16 Tryz.underlying25 hi hz h1 h2 h3 (by decide) v acc.length (sc acc) hs hown ad 1 c (sc [n]) hx rfl hnews (fun u hu => ?_) (by unfold maxLen; omega) (by omega) hB ?_
  · obtain ⟨_, _, rfl⟩ := List.mem_map.1 hu
    rfl
  intro v' w' k1 k2 k3
  rcases k1.2 with ⟨rfl, hz⟩ | ⟨g, cap, cur, rfl, _⟩
  · omega
  · rw [← sc_append] at k1
    exact h ⟨g, 0, none⟩ cap w' (by simpa using k1) k2
theorem StrRow.atJ {w : World} {v : Value} {xs : List (List UInt8)} (h : StrRow w v xs) (i : Nat) (hi : i < xs.length) : ∃ bk o c, v = .slice (some ⟨bk, o, none⟩) xs.length c ∧ w.cell? ⟨bk, o + i, none⟩ = some (.string (str xs[i])) := by
  rcases h with ⟨rfl, _⟩ | ⟨bk, o, c, h1, _, _, h3⟩
  · simp at hi
  · exact ⟨bk, o, c, h1, h3 i _ (List.getElem?_eq_getElem hi)⟩
theorem broken_step (l l2 : List It) (ys acc : List (List UInt8)) (k : Nat) (h : k < ys.length) (hq : acc ++ (ys.drop k).filter (brokenI l l2) = ys.filter (brokenI l l2)) : (if brokenI l l2 ys[k] then acc ++ [ys[k]] else acc) ++ (ys.drop (k + 1)).filter (brokenI l l2) = ys.filter (brokenI l l2) := by
  rw [List.drop_eq_getElem_cons h, List.filter_cons] at hq
  rw [← hq]
  split <;> simp
theorem once_tk {xs : List (List UInt8)} (h : ∀ x ∈ xs, Tk x) : (∀ x ∈ onceR xs, Tk x) ∧ (onceR xs).length ≤ xs.length := by
  constructor
  · intro x hx
    exact h x ((onceR_mem xs x).1 hx)
  · rw [onceR_is]
    have := compactO_len (sortR xs)
    rwa [sortR_length] at this
set_option maxHeartbeats 1000000 in
set_option maxRecDepth 1000000 in
theorem breaks7 (F : Nat → Prop) (m m2 : List UInt8) (l l2 : List It) (va : Option Addr) (vc : Nat) (ua : Option Addr) (uc : Nat) (uv : Value) (xs : List (List UInt8)) (w : World)
    (h1 : ItR F w (.slice va l.length vc) l) (h2 : ItR F w (.slice ua l2.length uc) l2) (h3 : TxR F w uv xs) (hF : ∀ g, F g → g < w.heap.size) (hok1 : ∀ x ∈ l, ItOk x) (hok2 : ∀ x ∈ l2, ItOk x) (hl1 : l.length ≤ 2199023255552) (hl2 : l2.length ≤ 2199023255552) (hl3 : xs.length ≤ 8796093022208) (htk : ∀ x ∈ xs, Tk x) :
    Calls Tryz.prog 14 #[.agg #[.string (str m), .slice va l.length vc], .agg #[.string (str m2), .slice ua l2.length uc], uv] w fun e w' => ∃ v', e = .returned v' ∧ StrRow w' v' (breaksI l l2 xs) ∧ Below w.heap.size w w' := by
  have hb0 : Below w.heap.size w ((w.alloc (.cells #[.string (str m), .slice va l.length vc] 24)).alloc (.cells #[.string (str m2), .slice ua l2.length uc] 24)) := ((Below.refl _ _).alloc (Nat.le_refl _) _).alloc (by simp) _
  have hsz : ((w.alloc (.cells #[.string (str m), .slice va l.length vc] 24)).alloc (.cells #[.string (str m2), .slice ua l2.length uc] 24)).heap.size = w.heap.size + 1 + 1 := by simp
  have hN : ∀ u, Below (w.heap.size + 2) ((w.alloc (.cells #[.string (str m), .slice va l.length vc] 24)).alloc (.cells #[.string (str m2), .slice ua l2.length uc] 24)) u → Below w.heap.size w u := fun u hu => hb0.trans (hu.mono (by omega))
  have hSz : ∀ u, Below (w.heap.size + 2) ((w.alloc (.cells #[.string (str m), .slice va l.length vc] 24)).alloc (.cells #[.string (str m2), .slice ua l2.length uc] 24)) u → w.heap.size + 2 ≤ u.heap.size := fun u hu => by have := hu.size; omega
  have hS : ∀ u, Below (w.heap.size + 2) ((w.alloc (.cells #[.string (str m), .slice va l.length vc] 24)).alloc (.cells #[.string (str m2), .slice ua l2.length uc] 24)) u → u.cell? ⟨w.heap.size, 0, none⟩ = some (.string (str m)) ∧ u.cell? ⟨w.heap.size, 1, none⟩ = some (.slice va l.length vc) ∧ u.cell? ⟨w.heap.size + 1, 0, none⟩ = some (.string (str m2)) ∧ u.cell? ⟨w.heap.size + 1, 1, none⟩ = some (.slice ua l2.length uc) := fun u hu => by
    have k1 : u.heap[w.heap.size]? = some (.cells #[.string (str m), .slice va l.length vc] 24 (0, 0)) := (hu.block _ (by omega)).trans ((Below.heap_alloc _ _ _ (by simp)).trans (World.alloc_heap_new w _))
    have k2 : u.heap[w.heap.size + 1]? = some (.cells #[.string (str m2), .slice ua l2.length uc] 24 (0, 0)) := (hu.block _ (by omega)).trans (by have := World.alloc_heap_new (w.alloc (.cells #[.string (str m), .slice va l.length vc] 24)) (.cells #[.string (str m2), .slice ua l2.length uc] 24); simpa using this)
    exact ⟨by rw [cell_of_row u _ 0 _ _ _ k1]; rfl, by rw [cell_of_row u _ 1 _ _ _ k1]; rfl, by rw [cell_of_row u _ 0 _ _ _ k2]; rfl, by rw [cell_of_row u _ 1 _ _ _ k2]; rfl⟩
  have hI1 : ∀ u, Below (w.heap.size + 2) ((w.alloc (.cells #[.string (str m), .slice va l.length vc] 24)).alloc (.cells #[.string (str m2), .slice ua l2.length uc] 24)) u → ItR F u (.slice va l.length vc) l := fun u hu => h1.below (hN u hu) hF
  have hI2 : ∀ u, Below (w.heap.size + 2) ((w.alloc (.cells #[.string (str m), .slice va l.length vc] 24)).alloc (.cells #[.string (str m2), .slice ua l2.length uc] 24)) u → ItR F u (.slice ua l2.length uc) l2 := fun u hu => h2.below (hN u hu) hF
  have hT : ∀ u, Below (w.heap.size + 2) ((w.alloc (.cells #[.string (str m), .slice va l.length vc] 24)).alloc (.cells #[.string (str m2), .slice ua l2.length uc] 24)) u → TxR F u uv xs := fun u hu => h3.below (hN u hu) hF
  have hFu : ∀ u, Below (w.heap.size + 2) ((w.alloc (.cells #[.string (str m), .slice va l.length vc] 24)).alloc (.cells #[.string (str m2), .slice ua l2.length uc] 24)) u → ∀ g, F g → g < u.heap.size := fun u hu g hg => by have := hF g hg; have := hSz u hu; omega
  have hP1 : ∀ u, Below (w.heap.size + 2) ((w.alloc (.cells #[.string (str m), .slice va l.length vc] 24)).alloc (.cells #[.string (str m2), .slice ua l2.length uc] 24)) u → Calls Tryz.prog 45 #[.agg #[.string (str m), .slice va l.length vc]] u fun e W' => ∃ g, e = .returned (.map (some g)) ∧ W'.ownsMap Tryz.prog 9 (plainElem (H := Nat) Tryz.prog 3) g l.length (plL 0 l) ∧ Below u.heap.size u W' := fun u hu =>
    (callsIn_wide.1 (places_in (H := Nat) Fence.wide 3 trivial trivial trivial rfl (Nat.le_refl _) F m va vc l hl1 hok1 u (hI1 u hu) (hFu u hu))).mono fun e W' h => ⟨_, h⟩
  have hP2 : ∀ u, Below (w.heap.size + 2) ((w.alloc (.cells #[.string (str m), .slice va l.length vc] 24)).alloc (.cells #[.string (str m2), .slice ua l2.length uc] 24)) u → Calls Tryz.prog 45 #[.agg #[.string (str m2), .slice ua l2.length uc]] u fun e W' => ∃ g, e = .returned (.map (some g)) ∧ W'.ownsMap Tryz.prog 9 (plainElem (H := Nat) Tryz.prog 3) g l2.length (plL 0 l2) ∧ Below u.heap.size u W' := fun u hu =>
    (callsIn_wide.1 (places_in (H := Nat) Fence.wide 3 trivial trivial trivial rfl (Nat.le_refl _) F m2 ua uc l2 hl2 hok2 u (hI2 u hu) (hFu u hu))).mono fun e W' h => ⟨_, h⟩
  have hnext : ∀ u u', Below (w.heap.size + 2) ((w.alloc (.cells #[.string (str m), .slice va l.length vc] 24)).alloc (.cells #[.string (str m2), .slice ua l2.length uc] 24)) u → Below u.heap.size u u' → Below (w.heap.size + 2) ((w.alloc (.cells #[.string (str m), .slice va l.length vc] 24)).alloc (.cells #[.string (str m2), .slice ua l2.length uc] 24)) u' := fun u u' hu h => hu.trans (h.mono (hSz u hu))
  have hO : ∀ u, Below (w.heap.size + 2) ((w.alloc (.cells #[.string (str m), .slice va l.length vc] 24)).alloc (.cells #[.string (str m2), .slice ua l2.length uc] 24)) u → Calls Tryz.prog 46 #[uv] u fun e w' => ∃ v', e = .returned v' ∧ StrRow w' v' (onceR xs) ∧ Below u.heap.size u w' := fun u hu => eachOnce F uv xs u (hT u hu) hl3
  have HB : Hid (breaksI l l2 xs = (onceR xs).filter (brokenI l l2)) := rfl
  obtain ⟨hyt, hyl⟩ := once_tk htk
  have G0 : Below (w.heap.size + 2) ((w.alloc (.cells #[.string (str m), .slice va l.length vc] 24)).alloc (.cells #[.string (str m2), .slice ua l2.length uc] 24)) ((w.alloc (.cells #[.string (str m), .slice va l.length vc] 24)).alloc (.cells #[.string (str m2), .slice ua l2.length uc] 24)) := Below.refl _ _
  have G1 : Below (w.heap.size + 2) ((w.alloc (.cells #[.string (str m), .slice va l.length vc] 24)).alloc (.cells #[.string (str m2), .slice ua l2.length uc] 24)) ((w.alloc (.cells #[.string (str m), .slice va l.length vc] 24)).alloc (.cells #[.string (str m2), .slice ua l2.length uc] 24)).drew := (Below.refl _ _).drew
  generalize onceR xs = ys at *
  obtain ⟨d0, d1, d2, d3⟩ := hS _ G0
  clear h1 h2 h3 hT
  go_enter Tryz.func14, Tryz.ntmps14
  go_wp2_with fail
  generalize hW2 : ((w.alloc (.cells #[.string (str m), .slice va l.length vc] 24)).alloc (.cells #[.string (str m2), .slice ua l2.length uc] 24)) = W2 at *
  go_cut [7, 8] from 16 to 19 (fun p q wx => ∃ g1 g2, p = .map (some g1) ∧ q = .map (some g2) ∧ wx.ownsMap Tryz.prog 9 (plainElem (H := Nat) Tryz.prog 3) g1 l.length (plL 0 l) ∧ wx.ownsMap Tryz.prog 9 (plainElem (H := Nat) Tryz.prog 3) g2 l2.length (plL 0 l2) ∧ Below (w.heap.size + 2) W2 wx)
  case first =>
    clear hO hI1 hI2 hFu HB hyt hyl hN hok1 hok2
    clear hW2 hb0 hsz hSz
    go_region_with (first
      | (go_at_call_of 45 (str m); refine (hP1 _ (by assumption)).mono ?_; rintro e w4 ⟨g1, rfl, hm1, hb4⟩; have G4 := hnext _ _ (by assumption) hb4; obtain ⟨d0, d1, d2, d3⟩ := hS _ G4; try (have hm2 := ownsMap_below hm2 hb4 hm2.lt); clear hb4)
      | (go_at_call_of 45 (str m2); refine (hP2 _ (by assumption)).mono ?_; rintro e w5 ⟨g2, rfl, hm2, hb5⟩; have G5 := hnext _ _ (by assumption) hb5; obtain ⟨d0, d1, d2, d3⟩ := hS _ G5; try (have hm1 := ownsMap_below hm1 hb5 hm1.lt); clear hb5))
    all_goals (
      go_wp2_with fail
      go_meet
      exact ⟨g1, g2, rfl, rfl, by assumption, by assumption, by assumption⟩)
  case rest =>
    obtain ⟨g1, g2, rfl, rfl, hm1, hm2, G3⟩ := hcut
    have hO3 := hO _ G3
    clear hO hP1 hP2 d0 d1 d2 d3 G0 G1 hW2 hb0 hsz
    go_wp2_with fail
    refine hO3.mono ?_
    rintro e w6 ⟨v6, rfl, hs6, hb6⟩
    have G6 := hnext _ _ G3 hb6
    have M1 := ownsMap_below hm1 hb6 hm1.lt
    have M2 := ownsMap_below hm2 hb6 hm2.lt
    obtain ⟨sa, sc6, rfl⟩ := hs6.shape
    clear hO3 hm1 hm2 hb6 G3
    go_wp2_with fail
    go_loopg [9, 23] ys.length (fun g v i wr => ∃ (k : Nat) (acc : List (List UInt8)), g + k = ys.length ∧ i = .int .i64 (k : Int) ∧ wr.ownsRow w6.heap.size 9 1 v acc.length (sc acc) ∧ acc.length ≤ k ∧ Below w6.heap.size w6 wr ∧ Hid (acc ++ (ys.drop k).filter (brokenI l l2) = ys.filter (brokenI l l2)))
    case atStart => exact ⟨0, [], by simp, rfl, World.ownsRow_nil _ _ _ _, Nat.le_refl _, Below.refl _ _, by simp [Hid]⟩
    case round =>
      obtain ⟨k, acc, hg, rfl, hown, hak, hbr, hq⟩ := hrel
      have Gr := hnext _ _ G6 hbr
      have hB6 : w6.heap.size ≤ wr.heap.size := hbr.size
      by_cases hk : k < ys.length
      · obtain ⟨bk, o, c, e1, qx⟩ := (hs6.below hbr).atJ k hk
        simp only [Value.slice.injEq, true_and] at e1
        obtain ⟨rfl, rfl⟩ := e1
        have hki : (k : Int) < (ys.length : Int) := by omega
        have hx := hyt _ (List.getElem_mem hk)
        have HQ := hidden (broken_step l l2 ys acc k hk hq.out)
        have mm1 := ownsMap_below M1 hbr M1.lt
        have mm2 := ownsMap_below M2 hbr M2.lt
        have hkey : keyOf Tryz.prog 9 (.string (str ys[k])) = some (.string ys[k]) := Go.WideMaps.keyOf_string_mk Tryz.underlying9 (by rw [str_size]; have : ys[k].length ≤ 140737488355328 := hx; unfold maxLen; omega)
        clear hq hs6
        generalize ys[k] = x at *
        go_wp2_with (first | (at_lookup; refine lookup_any rfl (.tmp 28) (.tmp 29) rfl g1 _ l rfl mm1 _ rfl x hkey ?_; intro c1 r1 hr1 hf1) | (at_lookup; refine lookup_any rfl (.tmp 34) (.tmp 35) rfl g2 _ l2 rfl mm2 _ rfl x hkey ?_; intro c2 r2 hr2 hf2))
        go_cut [56] from 39 to 56 (fun c wx => c = .bool (brokenI l l2 x) ∧ Below wr.heap.size wr wx)
        case first =>
          clear HQ hown qx mm1 mm2 M1 M2 hkey hx hyt hyl HB
          cases hA : findI l x with
          | none =>
            have hr1' := hr1.out
            rw [hA] at hr1'
            obtain rfl : r1 = false := hr1'
            have HV : Hid (brokenI l l2 x = false) := by simp [Hid, brokenI, hA]
            clear hr1 hr2 hf1 hf2 hS hI1 hI2
            go_region
            all_goals (
              go_wp2_with fail
              go_meet
              exact ⟨by rw [HV.out], by first | exact (Below.refl _ _).drew | exact Below.refl _ _⟩)
          | some a =>
            have hr1' := hr1.out
            rw [hA] at hr1'
            obtain rfl : r1 = true := hr1'
            obtain ⟨jA, hjA, eA, rfl⟩ := hf1.out a hA
            cases hB : findI l2 x with
            | none =>
              have hr2' := hr2.out
              rw [hB] at hr2'
              obtain rfl : r2 = false := hr2'
              have HV : Hid (brokenI l l2 x = true) := by simp [Hid, brokenI, hA, hB]
              clear hr1 hr2 hf1 hf2 hS hI1 hI2
              go_region
              all_goals (
                go_wp2_with fail
                go_meet
                exact ⟨by rw [HV.out], by first | exact (Below.refl _ _).drew | exact Below.refl _ _⟩)
            | some b =>
              have hr2' := hr2.out
              rw [hB] at hr2'
              obtain rfl : r2 = true := hr2'
              obtain ⟨jB, hjB, eB, rfl⟩ := hf2.out b hB
              have HV : Hid (brokenI l l2 x = !sameI a b) := by simp [Hid, brokenI, hA, hB]
              obtain ⟨gA, oA, capA, cvA, eA1, hgA, hCA, q0, q1, q2, q3⟩ := (hI1 _ Gr).at jA hjA
              obtain ⟨gB, oB, capB, cvB, eB1, hgB, hCB, r0, r1, r2, r3⟩ := (hI2 _ Gr).at jB hjB
              simp only [Value.slice.injEq, true_and] at eA1 eB1
              obtain ⟨rfl, rfl⟩ := eA1
              obtain ⟨rfl, rfl⟩ := eB1
              have hoA := hok1 _ (List.getElem_mem hjA)
              have hoB := hok2 _ (List.getElem_mem hjB)
              rw [eA] at hCA q0 q1 q2 hoA
              rw [eB] at hCB r0 r1 r2 hoB
              have hFr := hFu _ Gr
              have hSm : ∀ u, Below wr.heap.size wr u → Calls Tryz.prog 16 #[itv a cvA, itv b cvB] u (BoolB (sameI a b) u) := fun u hu => same7 F a b cvA cvB u (hCA.below hu hFr) (hCB.below hu hFr) (fun g hg => Nat.lt_of_lt_of_le (hFr g hg) hu.size) hoA hoB
              obtain ⟨caA, ccA, rfl⟩ := hCA.shape
              obtain ⟨caB, ccB, rfl⟩ := hCB.shape
              obtain ⟨kA, nA, tA, csA⟩ := a
              obtain ⟨kB, nB, tB, csB⟩ := b
              have hjAi : (jA : Int) < (l.length : Int) := by omega
              have hjBi : (jB : Int) < (l2.length : Int) := by omega
              have hS2 : ∀ u, Below wr.heap.size wr u → u.cell? ⟨w.heap.size, 1, none⟩ = some (.slice (some ⟨gA, oA, none⟩) l.length vc) ∧ u.cell? ⟨w.heap.size + 1, 1, none⟩ = some (.slice (some ⟨gB, oB, none⟩) l2.length uc) ∧ u.cell? ⟨gA, oA + jA * 4, none⟩ = some (.int .i64 kA) ∧ u.cell? ⟨gA, oA + jA * 4 + 1, none⟩ = some (.string (str nA)) ∧ u.cell? ⟨gA, oA + jA * 4 + 2, none⟩ = some (.string (str tA)) ∧ u.cell? ⟨gA, oA + jA * 4 + 3, none⟩ = some (.slice caA csA.length ccA) ∧ u.cell? ⟨gB, oB + jB * 4, none⟩ = some (.int .i64 kB) ∧ u.cell? ⟨gB, oB + jB * 4 + 1, none⟩ = some (.string (str nB)) ∧ u.cell? ⟨gB, oB + jB * 4 + 2, none⟩ = some (.string (str tB)) ∧ u.cell? ⟨gB, oB + jB * 4 + 3, none⟩ = some (.slice caB csB.length ccB) := fun u hu => by
                obtain ⟨_, p1, _, p2⟩ := hS _ (hnext _ _ Gr hu)
                exact ⟨p1, p2, (hu.cell (p := ⟨gA, oA + jA * 4, none⟩) (hFr _ hgA)).trans q0, (hu.cell (p := ⟨gA, oA + jA * 4 + 1, none⟩) (hFr _ hgA)).trans q1, (hu.cell (p := ⟨gA, oA + jA * 4 + 2, none⟩) (hFr _ hgA)).trans q2, (hu.cell (p := ⟨gA, oA + jA * 4 + 3, none⟩) (hFr _ hgA)).trans q3, (hu.cell (p := ⟨gB, oB + jB * 4, none⟩) (hFr _ hgB)).trans r0, (hu.cell (p := ⟨gB, oB + jB * 4 + 1, none⟩) (hFr _ hgB)).trans r1, (hu.cell (p := ⟨gB, oB + jB * 4 + 2, none⟩) (hFr _ hgB)).trans r2, (hu.cell (p := ⟨gB, oB + jB * 4 + 3, none⟩) (hFr _ hgB)).trans r3⟩
              have hnx2 : ∀ u u', Below wr.heap.size wr u → Below u.heap.size u u' → Below wr.heap.size wr u' := fun u u' hu h => hu.trans (h.mono hu.size)
              have K0 : Below wr.heap.size wr wr.drew := (Below.refl _ _).drew
              unfold itv at hSm
              simp only at hSm
              have HR : Hid (sameI ⟨kA, nA, tA, csA⟩ ⟨kB, nB, tB, csB⟩ = sameI ⟨kA, nA, tA, csA⟩ ⟨kB, nB, tB, csB⟩) := rfl
              generalize sameI ⟨kA, nA, tA, csA⟩ ⟨kB, nB, tB, csB⟩ = rs at *
              clear HR hr1 hr2 hf1 hf2 hS hI1 hI2 hA hB eA eB hCA hCB hoA hoB hok1 hok2 q0 q1 q2 q3 r0 r1 r2 r3 hN hFu hFr hnext hSz
              obtain ⟨p1, p2, q0, q1, q2, q3, r0, r1, r2, r3⟩ := hS2 _ K0
              go_region_held3 (fun u => u.cell? ⟨w.heap.size, 1, none⟩ = some (.slice (some ⟨gA, oA, none⟩) l.length vc) ∧ u.cell? ⟨w.heap.size + 1, 1, none⟩ = some (.slice (some ⟨gB, oB, none⟩) l2.length uc) ∧ u.cell? ⟨gA, oA + jA * 4, none⟩ = some (.int .i64 kA) ∧ u.cell? ⟨gA, oA + jA * 4 + 1, none⟩ = some (.string (str nA)) ∧ u.cell? ⟨gA, oA + jA * 4 + 2, none⟩ = some (.string (str tA)) ∧ u.cell? ⟨gA, oA + jA * 4 + 3, none⟩ = some (.slice caA csA.length ccA) ∧ u.cell? ⟨gB, oB + jB * 4, none⟩ = some (.int .i64 kB) ∧ u.cell? ⟨gB, oB + jB * 4 + 1, none⟩ = some (.string (str nB)) ∧ u.cell? ⟨gB, oB + jB * 4 + 2, none⟩ = some (.string (str tB)) ∧ u.cell? ⟨gB, oB + jB * 4 + 3, none⟩ = some (.slice caB csB.length ccB)) (first | go_keep | exact hS2 _ (by assumption)) (first | (go_at_call 16; refine (hSm _ (by assumption)).mono ?_; rintro e w8 ⟨rfl, hb8⟩; have G8 := hnx2 _ _ (by assumption) hb8; obtain ⟨p1, p2, q0, q1, q2, q3, r0, r1, r2, r3⟩ := hS2 _ G8; clear hb8))
              all_goals (
                go_wp2_with fail
                go_meet
                exact ⟨by rw [HV.out], by assumption⟩)
        case rest =>
          obtain ⟨rfl, hb7⟩ := hcut
          have ho7 := owns_below hown hb7
          have hb70 : Below w6.heap.size w6 wc := hbr.trans (hb7.mono hB6)
          have hB7 : w6.heap.size ≤ wc.heap.size := hb70.size
          clear hr1 hr2 hf1 hf2 hS hI1 hI2 mm1 mm2 M1 M2 hkey hown hb7 hbr hB6 qx
          cases hbk : brokenI l l2 x
          · have HX := HQ.out
            rw [hbk] at HX
            replace HX := hidden HX
            clear HQ hbk
            go_wp2
            go_roundg (ys.length - (k + 1))
            case measure => omega
            case rel => exact ⟨k + 1, acc, by omega, by go_num, ho7, by omega, hb70, HX⟩
          · have HX := HQ.out
            rw [hbk, if_pos rfl] at HX
            replace HX := hidden HX
            clear HQ hbk
            go_wp2_with fail
            refine (sCloneT x _ hx).mono ?_
            rintro e w9 ⟨rfl, hb9⟩
            have ho9 := owns_below ho7 hb9
            have hb90 : Below w6.heap.size w6 w9 := hb70.trans (hb9.mono hB7)
            have hB9 : w6.heap.size ≤ w9.heap.size := hb90.size
            clear ho7 hb70 hb9 hB7
            go_wp2_with (at_builtin; refine append_textN rfl (.tmp 57) (.tmp 60) rfl w6.heap.size _ acc rfl (ho9.alloc _) _ _ x rfl ?src ?len ?hB ?next)
            case src => first | exact cells_new _ _ _ | exact fun j u h => h
            case len => first | omega | (simp; omega)
            case hB => first | omega | (simp; omega)
            case next =>
              intro ad c' w' k1 k2
              have k3 := below_grown (ho9.alloc _) (by simp; omega) (hb90.alloc hB9 _) k2
              clear k2 ho9 hb90
              go_wp2
              go_roundg (ys.length - (k + 1))
              case measure => omega
              case rel => exact ⟨k + 1, acc ++ [x], by omega, by go_num, by simpa using k1, by simp; omega, k3, HX⟩
      · have hki : ¬ (k : Int) < (ys.length : Int) := by omega
        have HX : Hid (acc = breaksI l l2 xs) := by
          have := hq.out
          rw [List.drop_of_length_le (by omega), List.filter_nil, List.append_nil] at this
          rw [hid_iff, HB.out, this]
        have hbw := hN _ Gr
        clear hq hS hI1 hI2 M1 M2
        go_wp2
        go_ret
        exact ⟨_, rfl, by rw [← HX.out]; exact strRow_own hown, hbw⟩
end Go.Proofs.YtfddnaeldpafmaaGreat
