/-
  The document's own objects: Right of any object that memory can hold, as the chapter says.
-/
import Derived.Test.YtiiepfplommmfaaGreatDoorG18
import Derived.Test.YtiiepfplommmfaaGreatDoorG24
namespace Go.Proofs.YtiiepfplommmfaaGreatDoor
open Go.RowKit

theorem lists_some (o:Ob):∀ (n m j:Nat),(listsO o j n).1 ≠ 0 → listsO o j (n + m) = listsO o j n
 | 0,m,j,h=>absurd rfl h
 | n + 1,m,j,h=>by
  rw [show n + 1 + m = (n + m) + 1 by omega,listsO,listsO]
  rw [listsO] at h
  by_cases hf:(scanO (elemO o j) 0 (lenO o j)).1 = 0
  ·rw [if_pos hf] at h ⊢
   rw [if_pos hf]
   exact lists_some o n m (j + 1) h
  ·rw [if_neg hf,if_neg hf]
theorem lists_none (o:Ob):∀ (n m j:Nat),(listsO o j n).1 = 0 → listsO o j (n + m) = listsO o (j + n) m
 | 0,m,j,h=>by rw [Nat.zero_add,Nat.add_zero]
 | n + 1,m,j,h=>by
  rw [show n + 1 + m = (n + m) + 1 by omega,listsO]
  rw [listsO] at h
  by_cases hf:(scanO (elemO o j) 0 (lenO o j)).1 = 0
  ·rw [if_pos hf] at h ⊢
   rw [lists_none o n m (j + 1) h,show j + 1 + n = j + (n + 1) by omega]
  ·rw [if_neg hf] at h
   exact absurd h hf
theorem sg_ok {o:Ob} (h:(scanO (elemO o 3) 0 (lenO o 3)).1 = 0):SgOk o:=by
 intro f hf
 obtain ⟨i,hi,rfl⟩:=List.getElem_of_mem hf
 have h1:=scanO_all _ _ h i (by omega) (by show i < 0 + o.funs.length; omega)
 have h2:funO o.globals (o.funs.take i) o.funs[i] = 0:=by rw [← h1,elemO,List.getElem?_eq_getElem hi]
 have h3:=funO_short h2
 exact ⟨by have:=h3.params.1; omega,fun y hy=>by have:=h3.params.2 y hy; omega,by have:=h3.res; omega⟩
theorem elem4_at {o:Ob} {k:Nat} (hN:NmOk o) (h:k < o.exports.length):elemO o 4 k = if (ownQ o o.exports[k]).isSome = false then 16 else if (if k = 0 then none else o.exports[k - 1]?).any (fun p=>decide (o.exports[k] ≤ p)) = true then 15 else 0:=by
 rw [elemO,List.getElem?_eq_getElem h,ownQ_is hN]
 rfl
theorem elem6_at {o:Ob} {k:Nat} (h:k < o.relocs.length):elemO o 6 k = if inO o.relocs[k].fn o.funs.length = false ∨ inO o.relocs[k].place (codeAt o.funs o.relocs[k].fn - 1) = false ∨ inO o.relocs[k].sym o.symbols.length = false then 21 else if (if k = 0 then none else o.relocs[k - 1]?).any (fun p => !aheadO p o.relocs[k]) = true then 12 else 0:=by
 rw [elemO,List.getElem?_eq_getElem h]
 rfl
set_option maxHeartbeats 16000000 in
set_option maxRecDepth 1000000 in
theorem rRight (F:Nat → Prop) (u:ObV) (o:Ob) (w:World) (h:ObR F w u o) (hF:∀ g,F g → g < w.heap.size) (hok:ObOk o):Calls Tryz.prog 7 #[obv u o.mod] w (TwoB (rightO o) w):=by
 have HV:Hid (rightO o = if valueR o.mod = false then (13,0) else if manyO o = true then (4,0) else listsO o 0 7):=rfl
 generalize rightO o = r at *
 have HO:Hid (∀ v,Below w.heap.size w v → ObR F v u o ∧ ∀ g,F g → g < v.heap.size):=fun v hv=>⟨h.below hv hF,fun g hg=>Nat.lt_of_lt_of_le (hF g hg) hv.size⟩
 have HOK:=hidden hok
 have hL:Hid (∀ v,Below w.heap.size w v → Calls Tryz.prog 35 #[obv u o.mod] v (BoolB (!manyO o) v)):=fun v hv=>rlists F u o v (HO.out v hv).1
 have hN:Hid (manyO o = false → ∀ v,Below w.heap.size w v → Calls Tryz.prog 36 #[obv u o.mod] v (TwoB (listsO o 0 4) v)):=fun hmn v hv=>rnames F u o v (HO.out v hv).1 (HO.out v hv).2 hok hmn
 have hD:Hid (SgOk o → ∀ q v,Below w.heap.size w v → Calls Tryz.prog 37 #[obv u o.mod,.string (str q)] v (BoolB (ownQ o q).isSome v)):=fun hs q v hv=>rdefines F u o q v (HO.out v hv).1 (HO.out v hv).2 hok hs
 have hS:Hid (o.funs.length ≤ 48 → ∀ n,n < o.symbols.length → ∀ v,Below w.heap.size w v → Calls Tryz.prog 38 #[obv u o.mod,.int .i64 (n:Int)] v (NumB (elemO o 5 n) v)):=fun h48 n hn v hv=>rsymb14 F u o v (HO.out v hv).1 (HO.out v hv).2 hok h48 n hn
 have hV:=fun v=>refValue (str o.mod) v (by rw [str_size]; have:=hok.mod; unfold Tk at this; omega)
 rw [str_data] at hV
 have HEx:=hidden h.exports
 have HFn:=hidden h.funs
 have HRl:=hidden h.relocs
 obtain ⟨a1,c1,e1⟩:=h.types.shape
 obtain ⟨a2,c2,e2⟩:=h.texts.1.shape
 obtain ⟨a3,c3,e3⟩:=h.globals.shape
 obtain ⟨a4,c4,e4⟩:=h.funs.shape
 obtain ⟨a5,c5,e5⟩:=h.exports.1.shape
 obtain ⟨a6,c6,e6⟩:=h.symbols.shape
 obtain ⟨a7,c7,e7⟩:=h.relocs.shape
 have hnr:=hok.nr
 have hne:=hok.ne
 have hns:=hok.ns
 clear h hok
 obtain ⟨tv,xv,gv,fv,ev,sv,rv⟩:=u
 unfold obv at *
 simp only at *
 subst e1 e2 e3 e4 e5 e6 e7
 generalize hn1:o.types.length = n1 at *
 generalize hn2:o.texts.length = n2 at *
 generalize hn3:o.globals.length = n3 at *
 generalize hn4:o.funs.length = n4 at *
 generalize hn5:o.exports.length = n5 at *
 generalize hn6:o.symbols.length = n6 at *
 generalize hn7:o.relocs.length = n7 at *
 generalize hm:o.mod = m at *
 generalize hW:w.alloc (.cells #[.string (str m),.slice a1 n1 c1,.slice a2 n2 c2,.slice a3 n3 c3,.slice a4 n4 c4,.slice a5 n5 c5,.slice a6 n6 c6,.slice a7 n7 c7] 35) = W0 at *
 have hb0:Below w.heap.size w W0:=by rw [← hW]; exact (Below.refl _ _).alloc (Nat.le_refl _) _
 have hs0:W0.heap.size = w.heap.size + 1:=by rw [← hW]; simp
 have hN0:=heap_alloc_new w (.cells #[.string (str m),.slice a1 n1 c1,.slice a2 n2 c2,.slice a3 n3 c3,.slice a4 n4 c4,.slice a5 n5 c5,.slice a6 n6 c6,.slice a7 n7 c7] 35)
 rw [hW] at hN0
 have HCh:Hid (∀ u,Below W0.heap.size W0 u → u.heap[w.heap.size]? = some (.cells #[.string (str m),.slice a1 n1 c1,.slice a2 n2 c2,.slice a3 n3 c3,.slice a4 n4 c4,.slice a5 n5 c5,.slice a6 n6 c6,.slice a7 n7 c7] 35 (0,0)) ∧ u.cell? ⟨w.heap.size,0,none⟩ = some (.string (str m)) ∧ u.cell? ⟨w.heap.size,4,none⟩ = some (.slice a4 n4 c4) ∧ u.cell? ⟨w.heap.size,5,none⟩ = some (.slice a5 n5 c5) ∧ u.cell? ⟨w.heap.size,6,none⟩ = some (.slice a6 n6 c6) ∧ u.cell? ⟨w.heap.size,7,none⟩ = some (.slice a7 n7 c7) ∧ Below w.heap.size w u):=by
  intro u hu
  have n0:=(hu.block w.heap.size (by omega)).trans hN0
  exact ⟨n0,by rw [cell_of_row u _ 0 _ _ _ n0]; rfl,by rw [cell_of_row u _ 4 _ _ _ n0]; rfl,by rw [cell_of_row u _ 5 _ _ _ n0]; rfl,by rw [cell_of_row u _ 6 _ _ _ n0]; rfl,by rw [cell_of_row u _ 7 _ _ _ n0]; rfl,below_trans hb0 hu⟩
 clear hN0
 obtain ⟨x9,x0,x4,x5,x6,x7,hw0⟩:=HCh.out W0 (Below.refl _ _)
 have hL1:=hL.out W0 hw0
 go_enter Tryz.func7,Tryz.ntmps7
 cases hv:valueR m
 ·rw [hv] at hV
  have HX:Hid (r = (13,0)):=by rw [hid_iff,HV.out,if_pos hv]
  clear HV hv hL1
  go_wp2_with fail
  refine (hV _).mono ?_
  rintro e w1 ⟨rfl,rfl⟩
  go_wp2
  go_ret2
  exact ⟨(by rw [HX.out]; first | done | rfl),hw0⟩
 rw [hv] at hV
 replace HV:Hid (r = if manyO o = true then (4,0) else listsO o 0 7):=by rw [hid_iff,HV.out,if_neg (by rw [hv]; simp)]
 clear hv
 cases hmn:manyO o
 case true =>
  rw [hmn] at hL1
  have HX:Hid (r = (4,0)):=by rw [hid_iff,HV.out,if_pos hmn]
  clear HV hmn
  go_wp2_with fail
  refine (hV _).mono ?_
  rintro e w1 ⟨rfl,hw1⟩
  obtain rfl:=hw1.symm
  go_wp2_with (first | (refine wpList_load_row rfl 35 (.tmp 1) rfl w.heap.size rfl 35 _ (0,0) _ x9 Tryz.underlying35 rfl sizeObQ ?_) | (refine hL1.mono ?_; rintro e w2 ⟨rfl,hb2⟩))
  go_ret2
  exact ⟨(by rw [HX.out]; first | done | rfl),below_trans hw0 hb2⟩
 rw [hmn] at hL1
 replace HV:Hid (r = listsO o 0 7):=by rw [hid_iff,HV.out,if_neg (by rw [hmn]; simp)]
 have hN1:=hN.out hmn
 have hlo:n4 ≤ 48 ∧ n5 ≤ 32 ∧ n6 ≤ 96 ∧ n7 ≤ 384:=by
  simp only [manyO,Bool.or_eq_false_iff,decide_eq_false_iff_not] at hmn
  omega
 clear hmn
 go_wp2_with fail
 refine (hV _).mono ?_
 rintro e w1 ⟨rfl,hw1⟩
 obtain rfl:=hw1.symm
 go_wp2_with (refine wpList_load_row rfl 35 (.tmp 1) rfl w.heap.size rfl 35 _ (0,0) _ x9 Tryz.underlying35 rfl sizeObQ ?_)
 refine hL1.mono ?_
 rintro e w2 ⟨rfl,hb2⟩
 have hb02:=below_trans (Below.refl _ _) hb2
 clear hL1 x9 x0 x4 x5 x6 x7
 obtain ⟨x9,x0,x4,x5,x6,x7,hw2⟩:=HCh.out w2 hb2
 go_wp2_with (refine wpList_load_row rfl 35 (.tmp 1) rfl w.heap.size rfl 35 _ (0,0) _ x9 Tryz.underlying35 rfl sizeObQ ?_)
 refine (hN1 w2 hw2).mono ?_
 rintro e w3 ⟨rfl,hb3⟩
 have hb03:=below_trans hb2 hb3
 clear hN1 x9 x0 x4 x5 x6 x7
 obtain ⟨x9,x0,x4,x5,x6,x7,hw3⟩:=HCh.out w3 hb03
 have HSm:=hidden (lists_some o 4 3 0)
 have HNn:=hidden (lists_none o 4 3 0)
 have HAl:=hidden (listsO_all o 4 0)
 generalize listsO o 0 4 = pr at *
 obtain ⟨p1,p2⟩:=pr
 simp only at *
 by_cases hp:p1 = 0
 case neg =>
  have HX:Hid (r = (p1,p2)):=by rw [hid_iff,HV.out,HSm.out hp]
  have hpi:((p1:Int) == 0) = false:=by simp [hp]
  clear HV HSm HNn HAl hp
  go_wp2
  go_ret2
  exact ⟨(by rw [HX.out]; first | done | rfl),hw3⟩
 have hA:=HAl.out hp
 have HNm:Hid (NmOk o):=nm_ok (hA 0 (by omega) (by omega)) (hA 2 (by omega) (by omega)) (hA 3 (by omega) (by omega))
 have hSg:SgOk o:=sg_ok (hA 3 (by omega) (by omega))
 have hr0:Hid (r = fromO o 4 0 2):=by rw [hid_iff,HV.out,HNn.out hp]; rfl
 have hD1:=hidden (hD.out hSg)
 subst hp
 clear HV HSm HNn HAl hA hSg hD hL hN hV
 go_wp2_with fail
 go_loopg [6] n5 (fun g i wr=>∃ (k:Nat),g + k = n5 ∧ i = .int .i64 (k:Int) ∧ Hid (r = fromO o 4 k 2) ∧ Below W0.heap.size W0 wr)
 case atStart=>exact ⟨0,by omega,rfl,hr0,hb03⟩
 case round =>
  clear x9 x0 x4 x5 x6 x7 hr0 hw3
  obtain ⟨k,hgk,rfl,hr,hbl⟩:=hrel
  rename World=>wr
  obtain ⟨x9,x0,x4,x5,x6,x7,hwr⟩:=HCh.out wr hbl
  by_cases hk:k < n5
  ·have hkt:k < o.exports.length:=by omega
   obtain ⟨g,of,cap,e1,hgF,q0⟩:=(HEx.out.1.below hwr hF).at k hkt
   simp only [Value.slice.injEq] at e1
   obtain ⟨rfl,e1,rfl⟩:=e1
   have hE:Hid (elemO o 4 k = if (ownQ o o.exports[k]).isSome = false then 16 else if (if k = 0 then none else o.exports[k - 1]?).any (fun p=>decide (o.exports[k] ≤ p)) = true then 15 else 0):=elem4_at HNm.out hkt
   have hDf:=fun v hv=>hD1.out o.exports[k] v hv
   have hPv:Hid (∀ v,Below w.heap.size w v → ∀ j,k = j + 1 → ∃ p,o.exports[k - 1]? = some p ∧ v.cell? ⟨g,of + j,none⟩ = some (.string (str p)) ∧ v.cell? ⟨g,of + k,none⟩ = some (.string (str o.exports[k]))):=by
    rintro v hv j rfl
    obtain ⟨g',of',cap',e1',_,q1⟩:=(HEx.out.1.below hv hF).at j (by omega)
    obtain ⟨g2,of2,cap2,e2',_,q2⟩:=(HEx.out.1.below hv hF).at (j + 1) hkt
    simp only [Value.slice.injEq,Option.some.injEq,Addr.mk.injEq,and_true] at e1' e2'
    obtain ⟨⟨rfl,rfl⟩,_⟩:=e1'
    obtain ⟨⟨rfl,rfl⟩,_⟩:=e2'
    exact ⟨o.exports[j],by simp,q1,q2⟩
   have hki:(k:Int) < (n5:Int):=by omega
   generalize o.exports[k] = x at *
   generalize (ownQ o x).isSome = ow at *
   clear e1
   go_wp2_with fail
   go_cut [41] (fun c wx=>c = .bool (!ow) ∧ Hid (Below wr.heap.size wr wx))
   case first =>
    clear hE hr hPv x0 x4 x5 x6 x7
    obtain ⟨d0,d1,d2,d3,d4,d5,d6,d7⟩:=cells8 x9
    clear x9
    go_region_with (go_at_call 37; refine (hDf _ (by first | exact hwr | exact below_drew hwr)).mono ?_; rintro e w4 ⟨rfl,hb4⟩)
    all_goals (
     go_wp2_with fail
     go_meet
     exact ⟨rfl,by first | exact hb4 | exact below_undrew hb4⟩)
   case rest =>
    obtain ⟨rfl,HCB⟩:=hcut
    have hbc:=below_trans hbl HCB.out
    clear x9 x0 x4 x5 x6 x7 hDf q0
    obtain ⟨x9,x0,x4,x5,x6,x7,hwc⟩:=HCh.out wc hbc
    cases ow
    ·replace hE:Hid (elemO o 4 k = 16):=by rw [hid_iff,hE.out,if_pos rfl]
     have hX:Hid (r = (16,k)):=by rw [hid_iff,hr.out,from_bad (by show k < o.exports.length; omega) (by rw [hE.out]; simp),hE.out]
     clear hr hE
     go_wp2
     go_ret2
     exact ⟨(by rw [hX.out]; first | done | rfl),hwc⟩
    replace hE:Hid (elemO o 4 k = if (if k = 0 then none else o.exports[k - 1]?).any (fun p=>decide (x ≤ p)) = true then 15 else 0):=by rw [hid_iff,hE.out,if_neg (by simp)]
    generalize hbad:(if k = 0 then none else o.exports[k - 1]?).any (fun p=>decide (x ≤ p)) = bad at hE
    have HB:=hidden hbad
    have HP2:=hidden (hPv.out wc hwc)
    clear hbad hPv
    go_wp2_with fail
    go_cut [58] (fun c wx=>c = .bool bad ∧ Hid (∃ n,wx = wc.drewN n))
    case first =>
     clear hE hr x9 x0 x4 x6 x7
     cases k with
     | zero =>
      have hz:bad = false:=by rw [← HB.out]; rfl
      subst hz
      clear HP2 HB
      first | (go_quiet (fail)) | fail
      go_wp2_with fail
      go_meet
      exact ⟨rfl,_,rfl⟩
     | succ j =>
      obtain ⟨p,hp0,hp1,hp2⟩:=HP2.out j rfl
      have hz:bad = decide (x ≤ p):=by
       rw [← HB.out,if_neg (by omega),hp0]
       rfl
      have hge:=geq_is p x
      rw [← hz] at hge
      have hj0:(0:Int) ≤ (j:Int):=by omega
      have hj1:IntKind.i64.wrap (((j + 1:Nat):Int) - 1) = (j:Int):=by rw [IntKind.wrap_i64]; omega
      have hj2:(j:Int) < (n5:Int):=by omega
      have hj3:(0:Int) < ((j + 1:Nat):Int):=by omega
      have hj4:((j + 1:Nat):Int) - 1 = (j:Int):=by omega
      have hj5:IntKind.i64.wrap ((j:Int) + 1 - 1) = (j:Int):=by rw [IntKind.wrap_i64]; omega
      have hj6:IntKind.i64.wrap (j:Int) = (j:Int):=by rw [IntKind.wrap_i64]; omega
      have hj7:(j:Int) + 1 < (n5:Int):=by omega
      clear HP2 HB hz hp0
      first | (go_quiet (fail)) | fail
      go_wp2_with fail
      go_meet
      exact ⟨rfl,_,rfl⟩
    case rest =>
     obtain ⟨rfl,HCD⟩:=hcut
     rename World=>wd
     have hbd:Below W0.heap.size W0 wd:=by
      obtain ⟨n,rfl⟩:=HCD.out
      exact below_drewN hbc n
     have hwd:=(HCh.out wd hbd).2.2.2.2.2.2
     cases bad
     ·replace hE:Hid (elemO o 4 k = 0):=by rw [hid_iff,hE.out,if_neg (by simp)]
      have HN:Hid (r = fromO o 4 (k + 1) 2):=by rw [hid_iff,hr.out,from_next (by show k < o.exports.length; omega) hE.out]
      clear hr hE HCD
      go_wp2
      go_roundg (n5 - (k + 1))
      case measure=>omega
      case rel=>exact ⟨k + 1,by omega,by go_num,HN,hbd⟩
     ·replace hE:Hid (elemO o 4 k = 15):=by rw [hid_iff,hE.out,if_pos rfl]
      have hX:Hid (r = (15,k)):=by rw [hid_iff,hr.out,from_bad (by show k < o.exports.length; omega) (by rw [hE.out]; simp),hE.out]
      clear hr hE HCD
      go_wp2
      go_ret2
      exact ⟨(by rw [hX.out]; first | done | rfl),hwd⟩
  ·have hr5:Hid (r = fromO o 5 0 1):=by rw [hid_iff,hr.out,from_end (by show ¬ k < o.exports.length; omega)]; rfl
   have hki:¬ (k:Int) < (n5:Int):=by omega
   have hS1:=hidden (hS.out hlo.1)
   have hbl0:=hidden hbl
   clear hr hS
   go_wp2_with fail
   go_loopg [7] n6 (fun g i wr'=>∃ (k:Nat),g + k = n6 ∧ i = .int .i64 (k:Int) ∧ Hid (r = fromO o 5 k 1) ∧ Below W0.heap.size W0 wr')
   case atStart=>exact ⟨0,by omega,rfl,hr5,hbl0.out⟩
   case round =>
    clear x9 x0 x4 x5 x6 x7 hr5 hbl hwr hbl0
    obtain ⟨k2,hgk,rfl,hr,hbl⟩:=hrel
    rename World=>wr2
    obtain ⟨x9,x0,x4,x5,x6,x7,hwr⟩:=HCh.out wr2 hbl
    by_cases hk:k2 < n6
    ·have hSy:=hS1.out k2 hk wr2 hwr
     unfold NumB at hSy
     have hki2:(k2:Int) < (n6:Int):=by omega
     have hE:Hid (elemO o 5 k2 = elemO o 5 k2):=rfl
     generalize hee:elemO o 5 k2 = ee at *
     have HEE:=hidden hee
     clear hee hE
     by_cases p1:ee = 0
     case neg =>
      have hX:Hid (r = (ee,k2)):=by rw [hid_iff,hr.out,from_bad (by show k2 < o.symbols.length; omega) (by rw [HEE.out]; exact p1),HEE.out]
      have p1i:((ee:Int) == 0) = false:=by simp [p1]
      clear hr p1 HEE
      go_wp2_with (refine wpList_load_row rfl 35 (.tmp 1) rfl w.heap.size rfl 35 _ (0,0) _ x9 Tryz.underlying35 rfl sizeObQ ?_)
      refine hSy.mono ?_
      rintro e w4 ⟨rfl,hb4⟩
      have HB4:=hidden (below_trans hwr hb4)
      clear hb4 hSy
      go_wp2
      go_ret2
      exact ⟨(by rw [hX.out]; first | done | rfl),HB4.out⟩
     subst p1
     have HN:Hid (r = fromO o 5 (k2 + 1) 1):=by rw [hid_iff,hr.out,from_next (by show k2 < o.symbols.length; omega) HEE.out]
     clear hr HEE
     go_wp2_with (refine wpList_load_row rfl 35 (.tmp 1) rfl w.heap.size rfl 35 _ (0,0) _ x9 Tryz.underlying35 rfl sizeObQ ?_)
     refine hSy.mono ?_
     rintro e w4 ⟨rfl,hb4⟩
     have HB4:=hidden (below_trans hbl hb4)
     clear hb4 hSy x9 x0 x4 x5 x6 x7
     obtain ⟨x9,x0,x4,x5,x6,x7,hw4⟩:=HCh.out w4 HB4.out
     go_wp2
     go_roundg (n6 - (k2 + 1))
     case measure=>omega
     case rel=>exact ⟨k2 + 1,by omega,by go_num,HN,HB4.out⟩
    ·have hr6:Hid (r = fromO o 6 0 0):=by rw [hid_iff,hr.out,from_end (by show ¬ k2 < o.symbols.length; omega)]; rfl
     have hki2:¬ (k2:Int) < (n6:Int):=by omega
     have hbl0:=hidden hbl
     clear hr hS1
     go_wp2_with fail
     go_loopg [9] n7 (fun g i wr'=>∃ (k:Nat),g + k = n7 ∧ i = .int .i64 (k:Int) ∧ Hid (r = fromO o 6 k 0) ∧ Below W0.heap.size W0 wr')
     case atStart=>exact ⟨0,by omega,rfl,hr6,hbl0.out⟩
     case round =>
      clear x9 x0 x4 x5 x6 x7 hr6 hbl hwr hbl0
      obtain ⟨k3,hgk,rfl,hr,hbl⟩:=hrel
      rename World=>wr3
      obtain ⟨x9,x0,x4,x5,x6,x7,hwr⟩:=HCh.out wr3 hbl
      by_cases hk:k3 < n7
      ·have hkt:k3 < o.relocs.length:=by omega
       obtain ⟨g,of,cap,cs,e1,_,hgF,hC,hcell⟩:=(HRl.out.below cRl_stay hwr hF).at k3 hkt
       simp only [Value.slice.injEq] at e1
       obtain ⟨rfl,e1,rfl⟩:=e1
       unfold cRl at hC
       subst hC
       have q0:=hcell 0 _ rfl
       have q1:=hcell 1 _ rfl
       have q2:=hcell 2 _ rfl
       simp only [Nat.add_zero] at q0
       have hE:Hid (elemO o 6 k3 = if inO o.relocs[k3].fn o.funs.length = false ∨ inO o.relocs[k3].place (codeAt o.funs o.relocs[k3].fn - 1) = false ∨ inO o.relocs[k3].sym o.symbols.length = false then 21 else if (if k3 = 0 then none else o.relocs[k3 - 1]?).any (fun p => !aheadO p o.relocs[k3]) = true then 12 else 0):=elem6_at hkt
       have hPv:Hid (∀ v,Below w.heap.size w v → ∀ j,k3 = j + 1 → ∃ p:Rl,o.relocs[k3 - 1]? = some p ∧ v.cell? ⟨g,of + j * 3,none⟩ = some (.int .i64 p.fn) ∧ v.cell? ⟨g,of + j * 3 + 1,none⟩ = some (.int .i64 p.place)):=by
        rintro v hv j rfl
        obtain ⟨g',of',cap',cs',e1',_,_,hC',hcell'⟩:=(HRl.out.below cRl_stay hv hF).at j (by omega)
        simp only [Value.slice.injEq,Option.some.injEq,Addr.mk.injEq,and_true] at e1'
        obtain ⟨⟨rfl,rfl⟩,_⟩:=e1'
        unfold cRl at hC'
        subst hC'
        exact ⟨o.relocs[j],by simp,hcell' 0 _ rfl,hcell' 1 _ rfl⟩
       have hki3:(k3:Int) < (n7:Int):=by omega
       have hro:=HOK.out.relocs _ (List.getElem_mem hkt)
       rw [hn4,hn6] at hE
       generalize hrk:o.relocs[k3] = rk at *
       obtain ⟨rf,ra,ry⟩:=rk
       simp only at *
       generalize hWs:wr3.alloc (.cells #[.int .i64 rf,.int .i64 ra,.int .i64 ry] 83) = ws at *
       have hbs:Below wr3.heap.size wr3 ws:=by rw [← hWs]; exact (Below.refl _ _).alloc (Nat.le_refl _) _
       have hNs:=heap_alloc_new wr3 (.cells #[.int .i64 rf,.int .i64 ra,.int .i64 ry] 83)
       rw [hWs] at hNs
       have hbws:=below_trans hbl hbs
       have hsz:=hbl.size
       obtain ⟨z9,z0,z4,z5,z6,z7,hws⟩:=HCh.out ws hbws
       have HCw:Hid (∀ n,(ws.drewN n).cell? ⟨wr3.heap.size,0,none⟩ = some (.int .i64 rf) ∧ (ws.drewN n).cell? ⟨wr3.heap.size,1,none⟩ = some (.int .i64 ra) ∧ (ws.drewN n).cell? ⟨wr3.heap.size,2,none⟩ = some (.int .i64 ry)):=fun n=>cells3 (by exact hNs)
       obtain ⟨d0,d1,d2⟩:=cells3 hNs
       have HCo:Hid (0 ≤ rf → rf < n4 → ∃ (f:Nat) (g0 o0:Nat) (ka:Option Addr) (nc kc:Nat),rf = (f:Int) ∧ a4 = some ⟨g0,o0,none⟩ ∧ codeAt o.funs rf = (nc:Int) ∧ nc ≤ 140737488355328 ∧ ws.cell? ⟨g0,o0 + f * 6 + 5,none⟩ = some (.slice ka nc kc)):=by
        intro i0 i1
        obtain ⟨f,rfl⟩:∃ f:Nat,rf = (f:Int):=⟨rf.toNat,by omega⟩
        have hf:f < o.funs.length:=by omega
        obtain ⟨g',of',cap',cs',e2,_,_,hC',hcell'⟩:=(HFn.out.below cFn_stay hws hF).at f hf
        simp only [Value.slice.injEq] at e2
        obtain ⟨rfl,e2,rfl⟩:=e2
        obtain ⟨pv,kv,rfl,hpv,hkv⟩:=hC'
        obtain ⟨ka,kc,rfl⟩:=hkv.shape
        exact ⟨f,g',of',ka,_,kc,rfl,rfl,by simp [codeAt,hf],(HOK.out.funs _ (List.getElem_mem hf)).2.2.2.2.2.2,hcell' 5 _ rfl⟩
       clear e1 hcell hNs hrk x9 x0 x4 x5 x6 z9 z0 z5
       obtain ⟨bad,HB⟩:∃ bad:Bool,Hid (bad = true ↔ (inO rf n4 = false ∨ inO ra (codeAt o.funs rf - 1) = false ∨ inO ry n6 = false)):=by
        by_cases hh:(inO rf n4 = false ∨ inO ra (codeAt o.funs rf - 1) = false ∨ inO ry n6 = false)
        ·exact ⟨true,by simp [hid_iff,hh]⟩
        ·exact ⟨false,by simp only [hid_iff]; exact ⟨fun e=>absurd e (by simp),fun e=>absurd e hh⟩⟩
       have HBt:Hid ((¬ (0 ≤ rf ∧ rf < n4) ∨ ¬ (0 ≤ ry ∧ ry < n6) ∨ ¬ (0 ≤ ra ∧ ra < codeAt o.funs rf - 1)) → bad = true):=by
        intro hh
        rw [HB.out]
        rcases hh with hh | hh | hh
        ·exact .inl (by cases hi:inO rf n4; rfl; exfalso; simp only [inO,Bool.and_eq_true,decide_eq_true_eq] at hi; exact hh hi)
        ·exact .inr (.inr (by cases hi:inO ry n6; rfl; exfalso; simp only [inO,Bool.and_eq_true,decide_eq_true_eq] at hi; exact hh hi))
        ·exact .inr (.inl (by cases hi:inO ra (codeAt o.funs rf - 1); rfl; exfalso; simp only [inO,Bool.and_eq_true,decide_eq_true_eq] at hi; exact hh hi))
       have HBf:Hid (0 ≤ rf → rf < n4 → 0 ≤ ry → ry < n6 → 0 ≤ ra → ra < codeAt o.funs rf - 1 → bad = false):=by
        intro i0 i1 i2 i3 i4 i5
        cases hb:bad
        ·rfl
        ·exfalso
         rcases HB.out.1 hb with hh | hh | hh <;> simp only [inO,Bool.and_eq_false_iff,decide_eq_false_iff_not] at hh <;> omega
       go_wp2_with fail
       clear x7 q0 q1 q2
       go_cut [128] (fun c wx=>c = .bool bad ∧ Hid (∃ n,wx = ws.drewN n))
       case first =>
        as_aux_lemma =>
        clear hE hr hPv hD1 HNm HEx HFn HRl HOK HO HCh HCw HB z7
        by_cases f1:rf < 0
        ·obtain rfl:bad = true:=HBt.out (.inl (by omega))
         clear HBt HCo z4 z6
         first | (go_quiet (fail)) | fail
         go_wp2_with fail
         go_meet
         exact ⟨rfl,_,rfl⟩
        have g1:0 ≤ rf:=by omega
        by_cases f2:(n4:Int) ≤ rf
        ·obtain rfl:bad = true:=HBt.out (.inl (by omega))
         clear HBt HCo z6
         first | (go_quiet (fail)) | fail
         go_wp2_with fail
         go_meet
         exact ⟨rfl,_,rfl⟩
        obtain ⟨f,g0,o0,ka,nc,kc,rfl,rfl,hco,hnc,p5⟩:=HCo.out g1 (by omega)
        have hfi:(f:Int) < (n4:Int):=by omega
        by_cases f3:ry < 0
        ·obtain rfl:bad = true:=HBt.out (.inr (.inl (by omega)))
         clear HBt HCo
         first | (go_quiet (fail)) | fail
         go_wp2_with fail
         go_meet
         exact ⟨rfl,_,rfl⟩
        by_cases f4:(n6:Int) ≤ ry
        ·obtain rfl:bad = true:=HBt.out (.inr (.inl (by omega)))
         clear HBt HCo
         first | (go_quiet (fail)) | fail
         go_wp2_with fail
         go_meet
         exact ⟨rfl,_,rfl⟩
        by_cases f5:ra < 0
        ·obtain rfl:bad = true:=HBt.out (.inr (.inr (by omega)))
         clear HBt HCo
         first | (go_quiet (fail)) | fail
         go_wp2_with fail
         go_meet
         exact ⟨rfl,_,rfl⟩
        by_cases f6:(nc:Int) - 1 ≤ ra
        ·obtain rfl:bad = true:=HBt.out (.inr (.inr (by omega)))
         clear HBt HCo
         first | (go_quiet (fail)) | fail
         go_wp2_with fail
         go_meet
         exact ⟨rfl,_,rfl⟩
        obtain rfl:bad = false:=HBf.out g1 (by omega) (by omega) (by omega) (by omega) (by omega)
        clear HBt HBf HCo
        first | (go_quiet (fail)) | fail
        go_wp2_with fail
        go_meet
        exact ⟨rfl,_,rfl⟩
       case rest =>
        obtain ⟨rfl,HCD⟩:=hcut
        rename World=>wd
        clear d0 d1 d2 z4 z6 z7 HCo HBt HBf
        have hbd:Below ws.heap.size ws wd:=by
         obtain ⟨n,rfl⟩:=HCD.out
         exact below_drewN (Below.refl _ _) n
        obtain ⟨d0,d1,d2⟩:wd.cell? ⟨wr3.heap.size,0,none⟩ = some (.int .i64 rf) ∧ wd.cell? ⟨wr3.heap.size,1,none⟩ = some (.int .i64 ra) ∧ wd.cell? ⟨wr3.heap.size,2,none⟩ = some (.int .i64 ry):=by
         obtain ⟨n,rfl⟩:=HCD.out
         exact HCw.out n
        have hb0d:=below_trans hbws hbd
        obtain ⟨z9,z0,z4,z5,z6,z7,hwd⟩:=HCh.out wd hb0d
        clear HCD HCw
        cases bad
        case true =>
         replace hE:Hid (elemO o 6 k3 = 21):=by rw [hid_iff,hE.out,if_pos (HB.out.1 rfl)]
         have hX:Hid (r = (21,k3)):=by rw [hid_iff,hr.out,from_bad (by show k3 < o.relocs.length; omega) (by rw [hE.out]; simp),hE.out]
         clear hr hE HB
         go_wp2
         go_ret2
         exact ⟨(by rw [hX.out]; first | done | rfl),hwd⟩
        replace hE:Hid (elemO o 6 k3 = if (if k3 = 0 then none else o.relocs[k3 - 1]?).any (fun p => !aheadO p ⟨rf,ra,ry⟩) = true then 12 else 0):=by rw [hid_iff,hE.out,if_neg (fun e=>by have:=HB.out.2 e; cases this)]
        generalize hbad:(if k3 = 0 then none else o.relocs[k3 - 1]?).any (fun p => !aheadO p ⟨rf,ra,ry⟩) = bad2 at hE
        have HB2:=hidden hbad
        have HP2:=hidden (hPv.out wd hwd)
        clear hbad hPv HB z9 z0 z4 z5 z6
        go_wp2_with fail
        go_cut [167] (fun c wx=>c = .bool bad2 ∧ Hid (∃ n,wx = wd.drewN n))
        case first =>
         as_aux_lemma =>
         clear hE hr hD1 HNm HEx HFn HRl HOK HO HCh
         cases k3 with
         | zero =>
          have hz:bad2 = false:=by rw [← HB2.out]; rfl
          subst hz
          clear HP2 HB2
          first | (go_quiet (fail)) | fail
          go_wp2_with fail
          go_meet
          exact ⟨rfl,_,rfl⟩
         | succ j =>
          obtain ⟨⟨pf,pp,py⟩,hp0,hp1,hp2⟩:=HP2.out j rfl
          simp only at hp1 hp2
          have hz:bad2 = !(decide (pf < rf) || (decide (pf = rf) && decide (pp < ra))):=by
           rw [← HB2.out,if_neg (by omega),hp0]
           rfl
          have HZ:=hidden hz
          have hj0:(0:Int) ≤ (j:Int):=by omega
          have hj1:IntKind.i64.wrap (((j + 1:Nat):Int) - 1) = (j:Int):=by rw [IntKind.wrap_i64]; omega
          have hj2:(j:Int) < (n7:Int):=by omega
          have hj3:(0:Int) < ((j + 1:Nat):Int):=by omega
          have hj4:((j + 1:Nat):Int) - 1 = (j:Int):=by omega
          have hj5:IntKind.i64.wrap ((j:Int) + 1 - 1) = (j:Int):=by rw [IntKind.wrap_i64]; omega
          have hj6:IntKind.i64.wrap (j:Int) = (j:Int):=by rw [IntKind.wrap_i64]; omega
          clear HP2 HB2 hp0 hz
          by_cases g1:rf < pf
          ·obtain rfl:bad2 = true:=by rw [HZ.out,decide_eq_false (by omega),decide_eq_false (by omega)]; rfl
           clear HZ
           first | (go_quiet (fail)) | fail
           go_wp2_with fail
           go_meet
           exact ⟨rfl,_,rfl⟩
          by_cases g2:pf = rf
          ·subst g2
           by_cases g3:ra ≤ pp
           ·obtain rfl:bad2 = true:=by rw [HZ.out,decide_eq_false (by omega),decide_eq_false (show ¬ pp < ra by omega),Bool.and_false]; rfl
            clear HZ
            first | (go_quiet (fail)) | fail
            go_wp2_with fail
            go_meet
            exact ⟨rfl,_,rfl⟩
           ·obtain rfl:bad2 = false:=by rw [HZ.out,decide_eq_true (show pp < ra by omega),decide_eq_true (show pf = pf from rfl)]; simp
            clear HZ
            first | (go_quiet (fail)) | fail
            go_wp2_with fail
            go_meet
            exact ⟨rfl,_,rfl⟩
          ·obtain rfl:bad2 = false:=by rw [HZ.out,decide_eq_true (by omega)]; rfl
           have g2':(pf == rf) = false:=by simpa using g2
           clear HZ
           first | (go_quiet (fail)) | fail
           go_wp2_with fail
           go_meet
           exact ⟨rfl,_,rfl⟩
        case rest =>
         obtain ⟨rfl,HCD⟩:=hcut
         rename World=>we
         have hbe:Below W0.heap.size W0 we:=by
          obtain ⟨n,rfl⟩:=HCD.out
          exact below_drewN hb0d n
         have hwe:=(HCh.out we hbe).2.2.2.2.2.2
         cases bad2
         ·replace hE:Hid (elemO o 6 k3 = 0):=by rw [hid_iff,hE.out,if_neg (by simp)]
          have HN:Hid (r = fromO o 6 (k3 + 1) 0):=by rw [hid_iff,hr.out,from_next (by show k3 < o.relocs.length; omega) hE.out]
          clear hr hE HCD
          go_wp2
          go_roundg (n7 - (k3 + 1))
          case measure=>omega
          case rel=>exact ⟨k3 + 1,by omega,by go_num,HN,hbe⟩
         ·replace hE:Hid (elemO o 6 k3 = 12):=by rw [hid_iff,hE.out,if_pos rfl]
          have hX:Hid (r = (12,k3)):=by rw [hid_iff,hr.out,from_bad (by show k3 < o.relocs.length; omega) (by rw [hE.out]; simp),hE.out]
          clear hr hE HCD
          go_wp2
          go_ret2
          exact ⟨(by rw [hX.out]; first | done | rfl),hwe⟩
      ·have hX:Hid (r = (0,0)):=by rw [hid_iff,hr.out,from_end (by show ¬ k3 < o.relocs.length; omega)]; rfl
       have hki3:¬ (k3:Int) < (n7:Int):=by omega
       clear hr
       go_wp2
       go_ret2
       exact ⟨(by rw [hX.out]; first | done | rfl),hwr⟩
end Go.Proofs.YtiiepfplommmfaaGreatDoor
