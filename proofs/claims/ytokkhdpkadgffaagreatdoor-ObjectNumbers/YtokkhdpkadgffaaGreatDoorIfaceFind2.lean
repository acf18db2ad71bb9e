/-
  The package's Find.
-/
import Derived.Test.YtokkhdpkadgffaaGreatDoorIfaceFind
namespace Go.Proofs.YtokkhdpkadgffaaGreatDoor
open Go.RowKit

def it0 : It := ⟨0, [], [], []⟩
def FindE (l : List It) (q : List UInt8) (w : World) (e : Ending) (w' : World) : Prop := ∃ x cv, e = .returned (.tuple #[itv x cv, .bool (findI l q).isSome]) ∧ x = (findI l q).getD it0 ∧ CsR (Fr w w') w' cv x.cases ∧ Below w.heap.size w w'
theorem findI_at (l : List It) (q : List UInt8) (k : Nat) (h : k < l.length) : findI (l.drop k) q = if l[k].name = q then some l[k] else findI (l.drop (k + 1)) q := by
  rw [List.drop_eq_getElem_cons h, findI, List.find?_cons]
  by_cases e : l[k].name = q
  · simp [e]
  · simp [e, findI]
set_option maxHeartbeats 2000000 in
set_option maxRecDepth 1000000 in
theorem find7 (F : Nat → Prop) (m : List UInt8) (l : List It) (va : Option Addr) (vc : Nat) (q : List UInt8) (w : World) (h : ItR F w (.slice va l.length vc) l) (hF : ∀ g, F g → g < w.heap.size) (hok : ∀ x ∈ l, ItOk x) (hl : l.length ≤ 2199023255552) :
    Calls Tryz.prog 129 #[.agg #[.string (str m), .slice va l.length vc], .string (str q)] w (FindE l q w) := by
  have hb0 : Below w.heap.size w ((w.alloc (.cells #[.string (str m), .slice va l.length vc] 64)).alloc (.cells #[.int .i64 0, .string ⟨#[]⟩, .string ⟨#[]⟩, .slice none 0 0] 38)) := ((Below.refl _ _).alloc (Nat.le_refl _) _).alloc (by simp) _
  have hSz : ∀ u, Below (w.heap.size + 2) ((w.alloc (.cells #[.string (str m), .slice va l.length vc] 64)).alloc (.cells #[.int .i64 0, .string ⟨#[]⟩, .string ⟨#[]⟩, .slice none 0 0] 38)) u → w.heap.size + 2 ≤ u.heap.size := fun u hu => by have := hu.size; simpa using this
  have hN : ∀ u, Below (w.heap.size + 2) ((w.alloc (.cells #[.string (str m), .slice va l.length vc] 64)).alloc (.cells #[.int .i64 0, .string ⟨#[]⟩, .string ⟨#[]⟩, .slice none 0 0] 38)) u → Below w.heap.size w u := fun u hu => hb0.trans (hu.mono (by omega))
  have hR : ∀ u, Below (w.heap.size + 2) ((w.alloc (.cells #[.string (str m), .slice va l.length vc] 64)).alloc (.cells #[.int .i64 0, .string ⟨#[]⟩, .string ⟨#[]⟩, .slice none 0 0] 38)) u → u.heap[w.heap.size + 1]? = some (.cells #[.int .i64 0, .string ⟨#[]⟩, .string ⟨#[]⟩, .slice none 0 0] 38 (0, 0)) := fun u hu => (hu.block _ (by omega)).trans (by have := World.alloc_heap_new (w.alloc (.cells #[.string (str m), .slice va l.length vc] 64)) (.cells #[.int .i64 0, .string ⟨#[]⟩, .string ⟨#[]⟩, .slice none 0 0] 38); simpa using this)
  have hI : ∀ u, Below (w.heap.size + 2) ((w.alloc (.cells #[.string (str m), .slice va l.length vc] 64)).alloc (.cells #[.int .i64 0, .string ⟨#[]⟩, .string ⟨#[]⟩, .slice none 0 0] 38)) u → ItR F u (.slice va l.length vc) l := fun u hu => h.below (hN u hu) hF
  have hFu : ∀ u, Below (w.heap.size + 2) ((w.alloc (.cells #[.string (str m), .slice va l.length vc] 64)).alloc (.cells #[.int .i64 0, .string ⟨#[]⟩, .string ⟨#[]⟩, .slice none 0 0] 38)) u → ∀ g, F g → g < u.heap.size := fun u hu g hg => by have := hF g hg; have := hSz u hu; omega
  have hnext : ∀ u u', Below (w.heap.size + 2) ((w.alloc (.cells #[.string (str m), .slice va l.length vc] 64)).alloc (.cells #[.int .i64 0, .string ⟨#[]⟩, .string ⟨#[]⟩, .slice none 0 0] 38)) u → Below u.heap.size u u' → Below (w.heap.size + 2) ((w.alloc (.cells #[.string (str m), .slice va l.length vc] 64)).alloc (.cells #[.int .i64 0, .string ⟨#[]⟩, .string ⟨#[]⟩, .slice none 0 0] 38)) u' := fun u u' hu h => hu.trans (h.mono (hSz u hu))
  have G0 : Below (w.heap.size + 2) ((w.alloc (.cells #[.string (str m), .slice va l.length vc] 64)).alloc (.cells #[.int .i64 0, .string ⟨#[]⟩, .string ⟨#[]⟩, .slice none 0 0] 38)) ((w.alloc (.cells #[.string (str m), .slice va l.length vc] 64)).alloc (.cells #[.int .i64 0, .string ⟨#[]⟩, .string ⟨#[]⟩, .slice none 0 0] 38)) := Below.refl _ _
  clear h hb0
  go_enter Tryz.func129, Tryz.ntmps129
  go_wp2
  generalize hW : ((w.alloc (.cells #[.string (str m), .slice va l.length vc] 64)).alloc (.cells #[.int .i64 0, .string ⟨#[]⟩, .string ⟨#[]⟩, .slice none 0 0] 38)) = W2 at *
  clear hW
  go_loopg [11] l.length (fun g i wr => ∃ (k : Nat), g + k = l.length ∧ i = .int .i64 (k : Int) ∧ Hid (findI l q = findI (l.drop k) q) ∧ Below (w.heap.size + 2) W2 wr)
  case atStart => exact ⟨0, by simp, rfl, by simp [Hid], G0⟩
  case round =>
    obtain ⟨k, hg, rfl, hq, Gr⟩ := hrel
    by_cases hk : k < l.length
    · obtain ⟨bk, o, c, cv, e1, hgF, hC, q0, q1, q2, q3⟩ := (hI _ Gr).at k hk
      simp only [Value.slice.injEq, true_and] at e1
      obtain ⟨rfl, rfl⟩ := e1
      obtain ⟨ca, cc, rfl⟩ := hC.shape
      have hki : (k : Int) < (l.length : Int) := by omega
      have hx := hok _ (List.getElem_mem hk)
      have HQ := hq.out
      rw [findI_at l q k hk] at HQ
      clear hq
      generalize l[k] = x at *
      obtain ⟨kd, nm, ty, cs⟩ := x
      simp only at hC q0 q1 q2 q3 HQ
      have he := eq_is nm q
      have hba : Below wr.heap.size wr (wr.alloc (.cells #[.int .i64 kd, .string (str nm), .string (str ty), .slice ca cs.length cc] 38)) := (Below.refl _ _).alloc (Nat.le_refl _) _
      have Ga := hnext _ _ Gr hba
      by_cases hn : nm = q
      · rw [decide_eq_true hn] at he
        rw [if_pos hn] at HQ
        replace HQ := hidden HQ
        have hcp := copyItem F ⟨kd, nm, ty, cs⟩ (.slice ca cs.length cc) _ (hC.below hba (hFu _ Gr)) (hFu _ Ga) hx
        unfold itv at hcp
        simp only at hcp
        clear hn hI hok hx
        go_wp2_with fail
        refine hcp.mono ?_
        rintro e w3 ⟨cv', rfl, hC3, hb3⟩
        obtain ⟨da, dc, rfl⟩ := hC3.shape
        (try simp only at hC3)
        have G3 := hnext _ _ Ga hb3
        have hr := hR _ G3
        have hsa := hSz _ Ga
        have hbw := (hN _ G3).trans ((setRow_below w3 (w.heap.size + 1) #[.int .i64 kd, .string (str nm), .string (str ty), .slice da cs.length dc]).mono (by omega))
        have hC4 : CsR (Fr w (w3.setRow (w.heap.size + 1) #[.int .i64 kd, .string (str nm), .string (str ty), .slice da cs.length dc])) (w3.setRow (w.heap.size + 1) #[.int .i64 kd, .string (str nm), .string (str ty), .slice da cs.length dc]) (.slice da cs.length dc) cs := hC3.frame fun g hg => by
          have := hg.1
          refine ⟨⟨by omega, by simpa [World.setRow] using hg.2⟩, ?_⟩
          simp only [World.setRow]
          rw [Array.getElem?_modify, if_neg (by omega)]
        clear hcp hC3 hb3 G3 hsa
        go_wp2_with (refine wpList_store_row rfl 38 (.tmp 4) (.tmp 20) rfl (w.heap.size + 1) #[.int .i64 kd, .string (str nm), .string (str ty), .slice da cs.length dc] rfl rfl 38 #[.int .i64 0, .string ⟨#[]⟩, .string ⟨#[]⟩, .slice none 0 0] hr sizeIt rfl (by first | kernel_rfl | rfl | simp [Value.oneCell']) ?_)
        (try simp only [Exit.inBlock, Exit.then])
        refine bodyPost_ret (res7 rfl _ _ (w.heap.size + 1) 38 #[.int .i64 kd, .string (str nm), .string (str ty), .slice da cs.length dc] (0, 0) _ rfl (setRow_heap w3 (w.heap.size + 1) _ _ 38 (0, 0) hr) Tryz.underlying38 rfl sizeIt) rfl ?_
        exact ⟨⟨kd, nm, ty, cs⟩, _, by rw [HQ.out]; rfl, by rw [HQ.out]; rfl, hC4, hbw⟩
      · rw [decide_eq_false hn] at he
        rw [if_neg hn] at HQ
        replace HQ := hidden HQ
        clear hn hI hok hx
        go_wp2
        go_roundg (l.length - (k + 1))
        case measure => omega
        case rel => exact ⟨k + 1, by omega, by go_num, HQ, Ga⟩
    · have hki : ¬ (k : Int) < (l.length : Int) := by omega
      have HX : Hid (findI l q = none) := by
        rw [hid_iff, hq.out, List.drop_of_length_le (by omega)]
        rfl
      have hr := hR _ Gr
      have hbw := (hN _ Gr).trans ((setRow_below wr (w.heap.size + 1) #[.int .i64 0, .string ⟨#[]⟩, .string ⟨#[]⟩, .slice none 0 0]).mono (by omega))
      clear hq hI
      go_wp2_with (refine wpList_store_row rfl 38 (.tmp 4) (.tmp 22) rfl (w.heap.size + 1) #[.int .i64 0, .string ⟨#[]⟩, .string ⟨#[]⟩, .slice none 0 0] rfl rfl 38 #[.int .i64 0, .string ⟨#[]⟩, .string ⟨#[]⟩, .slice none 0 0] hr sizeIt rfl (by kernel_rfl) ?_)
      (try simp only [Exit.inBlock, Exit.then])
      refine bodyPost_ret (res7 rfl _ _ (w.heap.size + 1) 38 #[.int .i64 0, .string ⟨#[]⟩, .string ⟨#[]⟩, .slice none 0 0] (0, 0) _ rfl (setRow_heap wr (w.heap.size + 1) _ _ 38 (0, 0) hr) Tryz.underlying38 rfl sizeIt) rfl ?_
      exact ⟨it0, .slice none 0 0, by rw [HX.out]; rfl, by rw [HX.out]; rfl, CsR.nil _ _, hbw⟩
end Go.Proofs.YtokkhdpkadgffaaGreatDoor
