/-
  What is refused of one export of an object, given what named answers of it.
-/
import Derived.Test.YtiiepfplommmfaaGreatDoorG21
import Derived.Deep.RegionHeld3
namespace Go.Proofs.YtiiepfplommmfaaGreatDoor
open Go.RowKit

set_option maxHeartbeats 4000000 in
set_option maxRecDepth 1000000 in
theorem exportAt (F:Nat → Prop) (u:ObV) (o:Ob) (w:World) (h:ObR F w u o) (hF:∀ g,F g → g < w.heap.size) (hok:ObOk o) (k:Nat) (hk:k < o.exports.length) (hNm:∀ v,Below w.heap.size w v → Calls Tryz.prog 52 #[obv u o.mod,.string (str o.exports[k])] v (NamedN o o.exports[k] v)):Calls Tryz.prog 31 #[obv u o.mod,.int .i64 (k:Int)] w (NumB (elemO o 4 k) w):=by
 have HV:Hid (elemO o 4 k = if (ownO o o.exports[k]).isSome = false then 16 else if (if k = 0 then none else o.exports[k - 1]?).any (fun p=>decide (o.exports[k] ≤ p)) = true then 15 else 0):=by rw [hid_iff,elemO,List.getElem?_eq_getElem hk]; rfl
 generalize elemO o 4 k = r at *
 unfold NamedN at hNm
 generalize (ownO o o.exports[k]).isSome = ow at *
 have hT:=h.exports.1
 have hne:=hok.ne
 obtain ⟨g,of,cap,e5,hg,q⟩:=hT.at k hk
 have HPv:Hid (∀ v,Below w.heap.size w v → v.cell? ⟨g,of + k,none⟩ = some (.string (str o.exports[k])) ∧ ∀ j,k = j + 1 → ∃ p,o.exports[k - 1]? = some p ∧ v.cell? ⟨g,of + j,none⟩ = some (.string (str p))):=by
  rw [hid_iff]
  intro v hv
  refine ⟨(hv.cell (p:=⟨g,of + k,none⟩) (hF g hg)).trans q,?_⟩
  rintro j rfl
  obtain ⟨g',of',cap',e5',hg',q'⟩:=hT.at j (by omega)
  rw [e5] at e5'
  simp only [Value.slice.injEq,Option.some.injEq,Addr.mk.injEq,and_true,true_and] at e5'
  obtain ⟨⟨rfl,rfl⟩,_⟩:=e5'
  exact ⟨o.exports[j],by simp [show j < o.exports.length by omega],(hv.cell (p:=⟨g,of + j,none⟩) (hF g hg)).trans q'⟩
 obtain ⟨a1,c1,e1⟩:=h.types.shape
 obtain ⟨a2,c2,e2⟩:=h.texts.1.shape
 obtain ⟨a3,c3,e3⟩:=h.globals.shape
 obtain ⟨a4,c4,e4⟩:=h.funs.shape
 obtain ⟨a6,c6,e6⟩:=h.symbols.shape
 obtain ⟨a7,c7,e7⟩:=h.relocs.shape
 have hk':(k:Int) < (o.exports.length:Int):=by omega
 generalize o.exports[k] = x at *
 generalize hpv:(if k = 0 then none else o.exports[k - 1]?) = pr at HV
 have HPr:Hid ((if k = 0 then none else o.exports[k - 1]?) = pr):=hpv
 have hkl:k < o.exports.length:=hk
 clear hpv h hT q hok
 generalize o.exports[k - 1]? = pe at *
 generalize o.exports.length = n5 at *
 obtain ⟨tv,xv,gv,fv,ev,sv,rv⟩:=u
 unfold obv at *
 simp only at *
 subst e1 e2 e3 e4 e5 e6 e7
 generalize o.types.length = n1 at *
 generalize o.texts.length = n2 at *
 generalize o.globals.length = n3 at *
 generalize o.funs.length = n4 at *
 generalize o.symbols.length = n6 at *
 generalize o.relocs.length = n7 at *
 generalize o.mod = m at *
 generalize hW:w.alloc (.cells #[.string (str m),.slice a1 n1 c1,.slice a2 n2 c2,.slice a3 n3 c3,.slice a4 n4 c4,.slice (some ⟨g,of,none⟩) n5 cap,.slice a6 n6 c6,.slice a7 n7 c7] 86) = W0 at *
 have hb0:Below w.heap.size w W0:=by rw [← hW]; exact (Below.refl _ _).alloc (Nat.le_refl _) _
 have hs0:W0.heap.size = w.heap.size + 1:=by rw [← hW]; simp
 have hN0:=heap_alloc_new w (.cells #[.string (str m),.slice a1 n1 c1,.slice a2 n2 c2,.slice a3 n3 c3,.slice a4 n4 c4,.slice (some ⟨g,of,none⟩) n5 cap,.slice a6 n6 c6,.slice a7 n7 c7] 86)
 rw [hW] at hN0
 have HC:∀ u,Below W0.heap.size W0 u → u.cell? ⟨w.heap.size,0,none⟩ = some (.string (str m)) ∧ u.cell? ⟨w.heap.size,1,none⟩ = some (.slice a1 n1 c1) ∧ u.cell? ⟨w.heap.size,2,none⟩ = some (.slice a2 n2 c2) ∧ u.cell? ⟨w.heap.size,3,none⟩ = some (.slice a3 n3 c3) ∧ u.cell? ⟨w.heap.size,4,none⟩ = some (.slice a4 n4 c4) ∧ u.cell? ⟨w.heap.size,5,none⟩ = some (.slice (some ⟨g,of,none⟩) n5 cap) ∧ u.cell? ⟨w.heap.size,6,none⟩ = some (.slice a6 n6 c6) ∧ u.cell? ⟨w.heap.size,7,none⟩ = some (.slice a7 n7 c7) ∧ Below w.heap.size w u:=by
  intro u hu
  have n0:=(hu.block w.heap.size (by omega)).trans hN0
  exact ⟨by rw [cell_of_row u _ 0 _ _ _ n0]; rfl,by rw [cell_of_row u _ 1 _ _ _ n0]; rfl,by rw [cell_of_row u _ 2 _ _ _ n0]; rfl,by rw [cell_of_row u _ 3 _ _ _ n0]; rfl,by rw [cell_of_row u _ 4 _ _ _ n0]; rfl,by rw [cell_of_row u _ 5 _ _ _ n0]; rfl,by rw [cell_of_row u _ 6 _ _ _ n0]; rfl,by rw [cell_of_row u _ 7 _ _ _ n0]; rfl,below_trans hb0 hu⟩
 have HCh:=hidden HC
 obtain ⟨z0,z1,z2,z3,z4,z5,z6,z7,_⟩:=HC W0 (Below.refl _ _)
 obtain ⟨q0, -⟩:=HPv.out W0 hb0
 have HNm:=hidden hNm
 have ki0:(0:Int) ≤ (k:Int):=by omega
 have hgl:g < w.heap.size:=hF g hg
 have hgl1:g < w.heap.size + 1:=by omega
 have hgl2:¬ g = w.heap.size + 1:=by omega
 clear HC hN0 hNm
 go_enter Tryz.func31,Tryz.ntmps31
 go_wp2_with fail
 go_cut [6] from 7 to 18 (fun c wx=>c = .bool ow ∧ Below W0.heap.size W0 wx)
 case first =>
  first | (go_region_with (go_at_call 52; refine (HNm.out _ (by first | exact below_drew hb0 | exact hb0 | exact (below_drew hb0).alloc (by simp; omega) _)).mono ?_; rintro e w3 ⟨⟨kd,nm,ty,cs⟩,ca,cn,cc,rfl,hb3⟩; simp only [itv]; try (have hr:w3.heap[W0.heap.size]? = some (.cells #[.int .i64 0,.string ⟨#[]⟩,.string ⟨#[]⟩,.slice none 0 0] 77 (0,0)):=(hb3.block W0.heap.size (by simp)).trans (heap_alloc_new W0.drew (.cells #[.int .i64 0,.string ⟨#[]⟩,.string ⟨#[]⟩,.slice none 0 0] 77)); rw [hs0] at hr; obtain ⟨r0,r1,r2,r3,rf0,rf1,rf2,rf3⟩:=four4 hr))) | fail
  all_goals (
   have hB:Below W0.heap.size W0 w3:=by first | exact below_undrew hb3 | exact ((below_drew (Below.refl _ W0)).alloc (by simp) _).trans (hb3.mono (by simp))
   go_wp2_with fail
   go_meet
   first
    | exact ⟨rfl,hB.alloc hB.size _⟩
    | exact ⟨rfl,box4_below hB (Nat.le_refl _) _ _ _ _⟩
    | exact ⟨rfl,box4_below hB (show W0.heap.size ≤ w.heap.size + 1 by omega) _ _ _ _⟩
    | exact ⟨rfl,hB⟩)
 case rest =>
  obtain ⟨rfl,hq⟩:=hcut
  rename World=>wq
  obtain ⟨-, -, -, -, -, d5, -, -, hwq⟩:=HCh.out wq hq
  obtain ⟨p0,pj⟩:=HPv.out wq hwq
  have HPj:=hidden pj
  clear z0 z1 z2 z3 z4 z5 z6 z7 q0 pj
  cases ow
  ·have HW:Hid (r = 16):=by rw [hid_iff,HV.out]; rfl
   go_wp2
   go_ret
   exact ⟨(by rw [HW.out]; first | done | rfl),hwq⟩
  ·have HV':=HV.out
   simp only [Bool.true_eq_false,if_false] at HV'
   generalize hbad:pr.any (fun p=>decide (x ≤ p)) = bad at HV'
   have HB:=hidden hbad
   have HV2:=hidden HV'
   clear hbad HV' HV
   go_wp2_with fail
   go_cut [38] from 21 to 37 (fun c wx=>c = .bool bad ∧ ∃ n,wx = wq.drewN n)
   case first =>
    cases k with
    | zero =>
     have hz:bad = false:=by rw [← HB.out, ← HPr.out]; rfl
     subst hz
     clear HPj HPv HPr HB HV2 HNm
     first | (go_quiet (fail)) | fail
     go_wp2_with fail
     go_meet
     exact ⟨rfl,_,rfl⟩
    | succ j =>
     obtain ⟨p,hp0,hp1⟩:=HPj.out j rfl
     have hz:bad = decide (x ≤ p):=by
      rw [← HB.out, ← HPr.out,if_neg (by omega),hp0]
      rfl
     have hle:=leq_is x p
     rw [← hz] at hle
     have hj0:(0:Int) ≤ (j:Int):=by omega
     have hj1:IntKind.i64.wrap (((j + 1:Nat):Int) - 1) = (j:Int):=by rw [IntKind.wrap_i64]; omega
     have hj2:(j:Int) < (n5:Int):=by omega
     have hj3:(0:Int) < ((j + 1:Nat):Int):=by omega
     have hj4:((j + 1:Nat):Int) - 1 = (j:Int):=by omega
     have hj5:IntKind.i64.wrap ((j:Int) + 1 - 1) = (j:Int):=by rw [IntKind.wrap_i64]; omega
     have hj6:IntKind.i64.wrap (j:Int) = (j:Int):=by rw [IntKind.wrap_i64]; omega
     clear HPj HPv HPr HB HV2 HNm hz hp0
     first | (go_quiet (fail)) | fail
     go_wp2_with fail
     go_meet
     exact ⟨rfl,_,rfl⟩
   case rest =>
    obtain ⟨rfl,n,rfl⟩:=hcut
    have hwn:=below_drewN hwq n
    cases bad
    ·have HW:Hid (r = 0):=by rw [hid_iff,HV2.out]; rfl
     go_wp2
     go_ret
     exact ⟨(by rw [HW.out]; first | done | rfl),hwn⟩
    ·have HW:Hid (r = 15):=by rw [hid_iff,HV2.out]; rfl
     go_wp2
     go_ret
     exact ⟨(by rw [HW.out]; first | done | rfl),hwn⟩
end Go.Proofs.YtiiepfplommmfaaGreatDoor
