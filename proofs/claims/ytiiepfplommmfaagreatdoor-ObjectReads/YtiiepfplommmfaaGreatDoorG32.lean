/-
  rightItem, and what is refused of one symbol of an object.
-/
import Derived.Test.YtiiepfplommmfaaGreatDoorG17
namespace Go.Proofs.YtiiepfplommmfaaGreatDoor
open Go.RowKit

set_option maxHeartbeats 4000000 in
set_option maxRecDepth 1000000 in
theorem orightItem (F:Nat → Prop) (u:ObV) (o:Ob) (s:Sy) (cv:Value) (w:World) (h:ObR F w u o) (hF:∀ g,F g → g < w.heap.size) (hcv:CsR F w cv s.item.cases) (hs:SyOk s) (h48:o.funs.length ≤ 48):Calls Tryz.prog 80 #[obv u o.mod,syv s cv] w (NumB (itemO o.mod o.funs s) w):=by
 have hU:=fun v (hv:Below w.heap.size w v)=>oisUnnamed F u o s.item.ty v (h.below hv hF) (fun g hg=>Nat.lt_of_lt_of_le (hF g hg) hv.size) h48
 have HV:Hid (itemO o.mod o.funs s = if s.mod ≠ o.mod ∨ s.item.kind ≠ 3 ∨ s.item.name ≠ [] then rightI s.mod [s.item] else if 0 < s.item.cases.length then 12 else if unnamedO o.funs s.item.ty = false then 21 else 0):=rfl
 have hA:=fun v (hv:Below w.heap.size w v)=>rightAlone F s.mod s.item cv v (hcv.below hv hF) (fun g hg=>Nat.lt_of_lt_of_le (hF g hg) hv.size) hs.1 hs.2
 generalize itemO o.mod o.funs s = r at *
 generalize unnamedO o.funs s.item.ty = un at *
 generalize rightI s.mod [s.item] = ri at *
 obtain ⟨ca,cc,rfl⟩:=hcv.shape
 generalize o.mod = m at *
 obtain ⟨sm,kd,nm,ty,cs⟩:=s
 obtain ⟨tv,xv,gv,fv,ev,sv,rv⟩:=u
 obtain ⟨s1,s2,s3⟩:True ∧ True ∧ True:=⟨trivial,trivial,trivial⟩
 obtain ⟨a1,c1,e1⟩:=h.types.shape
 obtain ⟨a2,c2,e2⟩:=h.texts.1.shape
 obtain ⟨a3,c3,e3⟩:=h.globals.shape
 obtain ⟨a4,c4,e4⟩:=h.funs.shape
 obtain ⟨a5,c5,e5⟩:=h.exports.1.shape
 obtain ⟨a6,c6,e6⟩:=h.symbols.shape
 obtain ⟨a7,c7,e7⟩:=h.relocs.shape
 simp only at e1 e2 e3 e4 e5 e6 e7
 unfold obv syv at *
 unfold itv at hA
 simp only at hU HV hA ⊢
 subst e1 e2 e3 e4 e5 e6 e7
 generalize o.types.length = n1 at *
 generalize o.texts.length = n2 at *
 generalize o.globals.length = n3 at *
 generalize o.funs.length = n4 at *
 generalize o.exports.length = n5 at *
 generalize o.symbols.length = n6 at *
 generalize o.relocs.length = n7 at *
 generalize hW:w.alloc (.cells #[.string (str m),.slice a1 n1 c1,.slice a2 n2 c2,.slice a3 n3 c3,.slice a4 n4 c4,.slice a5 n5 c5,.slice a6 n6 c6,.slice a7 n7 c7] 86) = W0 at *
 have hb0:Below w.heap.size w W0:=by rw [← hW]; exact (Below.refl _ _).alloc (Nat.le_refl _) _
 have hs0:W0.heap.size = w.heap.size + 1:=by rw [← hW]; simp
 have hN0:=heap_alloc_new w (.cells #[.string (str m),.slice a1 n1 c1,.slice a2 n2 c2,.slice a3 n3 c3,.slice a4 n4 c4,.slice a5 n5 c5,.slice a6 n6 c6,.slice a7 n7 c7] 86)
 rw [hW] at hN0
 generalize hW1:W0.alloc (.cells #[.string (str sm),.int .i64 kd,.string (str nm),.string (str ty),.slice ca cs.length cc] 79) = W1 at *
 have hb1:Below W0.heap.size W0 W1:=by rw [← hW1]; exact (Below.refl _ _).alloc (Nat.le_refl _) _
 have hs1:W1.heap.size = w.heap.size + 2:=by rw [← hW1]; simp; omega
 have hN1:=heap_alloc_new W0 (.cells #[.string (str sm),.int .i64 kd,.string (str nm),.string (str ty),.slice ca cs.length cc] 79)
 rw [hW1,hs0] at hN1
 have hbw:Below w.heap.size w W1:=below_trans hb0 hb1
 have n0:=(hb1.block _ (by omega)).trans hN0
 obtain ⟨z0,z1,z2,z3,z4,z5,z6,z7⟩:W1.cell? ⟨w.heap.size,0,none⟩ = some (.string (str m)) ∧ W1.cell? ⟨w.heap.size,1,none⟩ = some (.slice a1 n1 c1) ∧ W1.cell? ⟨w.heap.size,2,none⟩ = some (.slice a2 n2 c2) ∧ W1.cell? ⟨w.heap.size,3,none⟩ = some (.slice a3 n3 c3) ∧ W1.cell? ⟨w.heap.size,4,none⟩ = some (.slice a4 n4 c4) ∧ W1.cell? ⟨w.heap.size,5,none⟩ = some (.slice a5 n5 c5) ∧ W1.cell? ⟨w.heap.size,6,none⟩ = some (.slice a6 n6 c6) ∧ W1.cell? ⟨w.heap.size,7,none⟩ = some (.slice a7 n7 c7):=⟨by rw [cell_of_row W1 _ 0 _ _ _ n0]; rfl,by rw [cell_of_row W1 _ 1 _ _ _ n0]; rfl,by rw [cell_of_row W1 _ 2 _ _ _ n0]; rfl,by rw [cell_of_row W1 _ 3 _ _ _ n0]; rfl,by rw [cell_of_row W1 _ 4 _ _ _ n0]; rfl,by rw [cell_of_row W1 _ 5 _ _ _ n0]; rfl,by rw [cell_of_row W1 _ 6 _ _ _ n0]; rfl,by rw [cell_of_row W1 _ 7 _ _ _ n0]; rfl⟩
 obtain ⟨x0,x1,x2,x3,x4⟩:W1.cell? ⟨w.heap.size + 1,0,none⟩ = some (.string (str sm)) ∧ W1.cell? ⟨w.heap.size + 1,1,none⟩ = some (.int .i64 kd) ∧ W1.cell? ⟨w.heap.size + 1,2,none⟩ = some (.string (str nm)) ∧ W1.cell? ⟨w.heap.size + 1,3,none⟩ = some (.string (str ty)) ∧ W1.cell? ⟨w.heap.size + 1,4,none⟩ = some (.slice ca cs.length cc):=⟨by rw [cell_of_row W1 _ 0 _ _ _ hN1]; rfl,by rw [cell_of_row W1 _ 1 _ _ _ hN1]; rfl,by rw [cell_of_row W1 _ 2 _ _ _ hN1]; rfl,by rw [cell_of_row W1 _ 3 _ _ _ hN1]; rfl,by rw [cell_of_row W1 _ 4 _ _ _ hN1]; rfl⟩
 have hA1:=hA W1 hbw
 have hU1:=hU W1 hbw
 have hq1:=neq_is sm m
 have hq3:=nil_text nm
 clear h hcv hA hU hs hN0 hN1 n0
 by_cases e1:sm = m
 case neg =>
  rw [decide_eq_true e1] at hq1
  have hq0:=eq_is sm m
  rw [decide_eq_false e1] at hq0
  have HW:Hid (r = ri):=by rw [hid_iff,HV.out,if_pos (.inl e1)]
  clear e1 HV hU1
  go_enter Tryz.func80,Tryz.ntmps80
  go_wp2_with (go_at_call 71; refine hA1.mono ?_; rintro e w2 ⟨rfl,hb2⟩)
  go_ret
  exact ⟨(by rw [HW.out]; first | done | rfl),below_trans hbw hb2⟩
 have hq0:=eq_is sm m
 rw [decide_eq_true e1] at hq0
 clear hq1
 by_cases e2:kd = 3
 case neg =>
  have HW:Hid (r = ri):=by rw [hid_iff,HV.out,if_pos (.inr (.inl e2))]
  have hq2:(kd == 3) = false:=by simp [e2]
  clear e1 HV hU1
  go_enter Tryz.func80,Tryz.ntmps80
  go_wp2_with (go_at_call 71; refine hA1.mono ?_; rintro e w2 ⟨rfl,hb2⟩)
  go_ret
  exact ⟨(by rw [HW.out]; first | done | rfl),below_trans hbw hb2⟩
 subst e2
 by_cases e3:nm = []
 case neg =>
  have HW:Hid (r = ri):=by rw [hid_iff,HV.out,if_pos (.inr (.inr e3))]
  rw [decide_eq_false e3] at hq3
  have hq4:¬ (str nm).toList = []:=by
   intro hh
   rw [hh] at hq3
   cases hq3
  clear e1 HV hU1 e3
  go_enter Tryz.func80,Tryz.ntmps80
  go_wp2_with (go_at_call 71; refine hA1.mono ?_; rintro e w2 ⟨rfl,hb2⟩)
  go_ret
  exact ⟨(by rw [HW.out]; first | done | rfl),below_trans hbw hb2⟩
 rw [decide_eq_true e3] at hq3
 have hq4:(str nm).toList = []:=by rw [← List.isEmpty_iff]; exact hq3
 have HV':=HV.out
 rw [if_neg (by rintro (hh | hh | hh); exact hh e1; exact hh rfl; exact hh e3)] at HV'
 have HV2:=hidden HV'
 clear HV HV' e1 e3 hA1
 by_cases e4:0 < cs.length
 ·have HW:Hid (r = 12):=by rw [hid_iff,HV2.out,if_pos e4]
  have e4i:(0:Int) < (cs.length:Int):=by omega
  clear HV2 hU1
  go_enter Tryz.func80,Tryz.ntmps80
  go_wp2
  go_ret
  exact ⟨(by rw [HW.out]; first | done | rfl),hbw⟩
 ·have e4i:¬ (0:Int) < (cs.length:Int):=by omega
  have HV3:=HV2.out
  rw [if_neg e4] at HV3
  cases un
  ·have HW:Hid (r = 21):=by rw [hid_iff,HV3]; rfl
   clear HV2 HV3
   go_enter Tryz.func80,Tryz.ntmps80
   go_wp2_with (go_at_call 137; refine hU1.mono ?_; rintro e w2 ⟨rfl,hb2⟩)
   go_ret
   exact ⟨(by rw [HW.out]; first | done | rfl),below_trans hbw hb2⟩
  ·have HW:Hid (r = 0):=by rw [hid_iff,HV3]; rfl
   clear HV2 HV3
   go_enter Tryz.func80,Tryz.ntmps80
   go_wp2_with (go_at_call 137; refine hU1.mono ?_; rintro e w2 ⟨rfl,hb2⟩)
   go_ret
   exact ⟨(by rw [HW.out]; first | done | rfl),below_trans hbw hb2⟩
set_option maxHeartbeats 4000000 in
set_option maxRecDepth 1000000 in
theorem symbolAt (F:Nat → Prop) (u:ObV) (o:Ob) (w:World) (h:ObR F w u o) (hF:∀ g,F g → g < w.heap.size) (hok:ObOk o) (h48:o.funs.length ≤ 48) (k:Nat) (hk:k < o.symbols.length):Calls Tryz.prog 32 #[obv u o.mod,.int .i64 (k:Int)] w (NumB (elemO o 5 k) w):=by
 have HV:Hid (elemO o 5 k = symbolO o.mod o.funs (o.symbols.take k) o.symbols[k]):=by rw [hid_iff,elemO,List.getElem?_eq_getElem hk]
 generalize elemO o 5 k = r at *
 have hT:=h.symbols
 obtain ⟨g,of,cap,cs,e1,hcap,hg,hC,hcell⟩:=hT.at k hk
 have hxo:=hok.symbols _ (List.getElem_mem hk)
 have hm:=hok.mod
 have hns:=hok.ns
 have hOb:=h
 have hRI:=fun v s cv hv hcv hs=>orightItem F u o s cv v (h.below hv hF) (fun g hg=>Nat.lt_of_lt_of_le (hF g hg) hv.size) hcv hs h48
 obtain ⟨b1,d1,e1'⟩:=h.types.shape
 obtain ⟨b2,d2,e2'⟩:=h.texts.1.shape
 obtain ⟨b3,d3,e3'⟩:=h.globals.shape
 obtain ⟨b4,d4,e4'⟩:=h.funs.shape
 obtain ⟨b5,d5,e5'⟩:=h.exports.1.shape
 obtain ⟨b7,d7,e7'⟩:=h.relocs.shape
 obtain ⟨m,ts,xs,gs,fs,es,ss,rs⟩:=o
 obtain ⟨tv,xv,gv,fv,ev,sv,rv⟩:=u
 unfold obv
 simp only at *
 subst e1
 have hk':k < ss.length:=hk
 have hTk:=hT.take k (by omega)
 rcases hx:ss[k] with ⟨sm,kd,nm,ty,cs⟩
 rw [hx] at hC hxo HV
 obtain ⟨cv,rfl,hcv⟩:=hC
 obtain ⟨hn,hi⟩:=hxo
 simp only at hn hcv hcell
 have q0:=hcell 0 _ rfl
 have q1:=hcell 1 _ rfl
 have q2:=hcell 2 _ rfl
 have q3:=hcell 3 _ rfl
 have q4:=hcell 4 _ rfl
 simp only [Nat.add_zero] at q0
 have ki0:(k:Int) < (ss.length:Int):=by omega
 have ki1:(k:Int) ≤ (cap:Int):=by omega
 have ki2:(0:Int) ≤ (k:Int):=by omega
 generalize hW:w.alloc (.cells #[.string (str m),tv,xv,gv,fv,ev,(.slice (some ⟨g,of,none⟩) ss.length cap),rv] 86) = W0 at *
 have hb0:Below w.heap.size w W0:=by rw [← hW]; exact (Below.refl _ _).alloc (Nat.le_refl _) _
 have hs0:W0.heap.size = w.heap.size + 1:=by rw [← hW]; simp
 have hN0:=heap_alloc_new w (.cells #[.string (str m),tv,xv,gv,fv,ev,(.slice (some ⟨g,of,none⟩) ss.length cap),rv] 86)
 rw [hW] at hN0
 generalize hW1:W0.alloc (.cells #[.string (str sm),.int .i64 kd,.string (str nm),.string (str ty),cv] 79) = W1 at *
 have hb1:Below W0.heap.size W0 W1:=by rw [← hW1]; exact (Below.refl _ _).alloc (Nat.le_refl _) _
 have hs1:W1.heap.size = w.heap.size + 2:=by rw [← hW1]; simp; omega
 have hN1:=heap_alloc_new W0 (.cells #[.string (str sm),.int .i64 kd,.string (str nm),.string (str ty),cv] 79)
 rw [hW1,hs0] at hN1
 have hbw:Below w.heap.size w W1:=below_trans hb0 hb1
 have HC:∀ u,Below W1.heap.size W1 u → (u.cell? ⟨w.heap.size,0,none⟩ = some (.string (str m)) ∧ u.cell? ⟨w.heap.size,1,none⟩ = some (tv) ∧ u.cell? ⟨w.heap.size,2,none⟩ = some (xv) ∧ u.cell? ⟨w.heap.size,3,none⟩ = some (gv) ∧ u.cell? ⟨w.heap.size,4,none⟩ = some (fv) ∧ u.cell? ⟨w.heap.size,5,none⟩ = some (ev) ∧ u.cell? ⟨w.heap.size,6,none⟩ = some ((.slice (some ⟨g,of,none⟩) ss.length cap)) ∧ u.cell? ⟨w.heap.size,7,none⟩ = some (rv)) ∧ (u.cell? ⟨w.heap.size + 1,0,none⟩ = some (.string (str sm)) ∧ u.cell? ⟨w.heap.size + 1,1,none⟩ = some (.int .i64 kd) ∧ u.cell? ⟨w.heap.size + 1,2,none⟩ = some (.string (str nm)) ∧ u.cell? ⟨w.heap.size + 1,3,none⟩ = some (.string (str ty)) ∧ u.cell? ⟨w.heap.size + 1,4,none⟩ = some (cv)) ∧ Below w.heap.size w u:=by
  intro u hu
  have n0:=(hu.block w.heap.size (by omega)).trans ((hb1.block _ (by omega)).trans hN0)
  have n1:=(hu.block (w.heap.size + 1) (by omega)).trans hN1
  exact ⟨⟨(by rw [cell_of_row u _ 0 _ _ _ n0]; rfl),(by rw [cell_of_row u _ 1 _ _ _ n0]; rfl),(by rw [cell_of_row u _ 2 _ _ _ n0]; rfl),(by rw [cell_of_row u _ 3 _ _ _ n0]; rfl),(by rw [cell_of_row u _ 4 _ _ _ n0]; rfl),(by rw [cell_of_row u _ 5 _ _ _ n0]; rfl),(by rw [cell_of_row u _ 6 _ _ _ n0]; rfl),(by rw [cell_of_row u _ 7 _ _ _ n0]; rfl)⟩,⟨(by rw [cell_of_row u _ 0 _ _ _ n1]; rfl),(by rw [cell_of_row u _ 1 _ _ _ n1]; rfl),(by rw [cell_of_row u _ 2 _ _ _ n1]; rfl),(by rw [cell_of_row u _ 3 _ _ _ n1]; rfl),(by rw [cell_of_row u _ 4 _ _ _ n1]; rfl)⟩,below_trans hbw hu⟩
 have y0:=(hb0.cell (p:=⟨g,of + k * 5,none⟩) (hF g hg)).trans q0
 have y1:=(hb0.cell (p:=⟨g,of + k * 5 + 1,none⟩) (hF g hg)).trans q1
 have y2:=(hb0.cell (p:=⟨g,of + k * 5 + 2,none⟩) (hF g hg)).trans q2
 have y3:=(hb0.cell (p:=⟨g,of + k * 5 + 3,none⟩) (hF g hg)).trans q3
 have y4:=(hb0.cell (p:=⟨g,of + k * 5 + 4,none⟩) (hF g hg)).trans q4
 have zz:W0.cell? ⟨w.heap.size,6,none⟩ = some ((.slice (some ⟨g,of,none⟩) ss.length cap)):=by rw [cell_of_row W0 _ 6 _ _ _ hN0]; rfl
 obtain ⟨⟨z0,z1,z2,z3,z4,z5,z6,z7⟩,⟨x0,x1,x2,x3,x4⟩, -⟩:=HC W1 (Below.refl _ _)
 have HCh:=hidden HC
 have hUp:∀ u,Below W1.heap.size W1 u → Below w.heap.size w u ∧ ∀ g,F g → g < u.heap.size:=fun u hu=>⟨(HC u hu).2.2,fun g hg=>by have:=hF g hg; have:=hu.size; omega⟩
 have hU2:∀ u,Below W1.heap.size W1 u → w.heap.size + 1 < u.heap.size:=fun u hu=>by have:=hu.size; omega
 subst e1' e2' e3' e4' e5' e7'
 obtain ⟨ca,cc,rfl⟩:=hcv.shape
 have hV:=fun u=>value (str sm) u (by rw [str_size]; unfold Tk at hn; omega)
 rw [str_data] at hV
 have hR1:=hRI W1 ⟨sm,kd,nm,ty,cs⟩ (.slice ca cs.length cc) hbw (hcv.below hbw hF) ⟨hn,hi⟩
 have hG:∀ u,Below W1.heap.size W1 u → Calls Tryz.prog 81 #[.slice (some ⟨g,of,none⟩) k cap,.func (.func 82) #[syv ⟨sm,kd,nm,ty,cs⟩ (.slice ca cs.length cc)] #[]] u (BoolB ((ss.take k).any (fun t=>sameSy ⟨sm,kd,nm,ty,cs⟩ t)) u):=fun u hu =>
  conS F _ (ss.take k) _ (fun t=>sameSy ⟨sm,kd,nm,ty,cs⟩ t) u (hTk.below cSy_stay (hUp u hu).1 hF) (hUp u hu).2 (by rw [List.length_take]; omega) (fun j hj cv' wr hwr=>oisSame _ _ _ _ wr)
 have HR:Hid (symbolO m fs (ss.take k) ⟨sm,kd,nm,ty,cs⟩ = if valueR sm = false then 13 else if itemO m fs ⟨sm,kd,nm,ty,cs⟩ ≠ 0 then itemO m fs ⟨sm,kd,nm,ty,cs⟩ else if (ss.take k).any (fun t=>sameSy ⟨sm,kd,nm,ty,cs⟩ t) = true then 15 else 0):=rfl
 unfold syv obv at hR1
 unfold syv at hG
 simp only at hR1 hG
 generalize (ss.take k).any (fun t=>sameSy ⟨sm,kd,nm,ty,cs⟩ t) = an at *
 generalize itemO m fs ⟨sm,kd,nm,ty,cs⟩ = ri at *
 generalize valueR sm = vn at *
 rw [HR.out] at HV
 clear HR h hOb hRI hT hTk hok hx hcell HC q0 q1 q2 q3 q4 hcv
 have HGh:=hidden hG
 clear hG hUp hU2
 cases vn
 ·have HW:Hid (r = 13):=HV
  go_enter Tryz.func32,Tryz.ntmps32
  go_wp2_with (go_at_call 25; refine (hV _).mono ?_; rintro e w2 ⟨rfl,hw2⟩; obtain rfl:=hw2.symm)
  go_ret
  exact ⟨(by rw [HW.out]; first | done | rfl),hbw⟩
 ·by_cases h0:ri = 0
  ·subst h0
   go_enter Tryz.func32,Tryz.ntmps32
   go_wp2_with (go_at_call 25; refine (hV _).mono ?_; rintro e w2 ⟨rfl,hw2⟩; obtain rfl:=hw2.symm)
   refine hR1.mono ?_
   rintro e w3 ⟨rfl,hb3⟩
   clear hR1 y0 y1 y2 y3 y4 zz z0 z1 z2 z3 z4 z5 z6 z7 x0 x1 x2 x3 x4
   obtain ⟨⟨-, -, -, -, -, -, c6, -⟩,⟨d0,d1,d2,d3,d4⟩,hw3⟩:=HCh.out w3 hb3
   go_wp2_with fail
   first | (go_region_with (go_at_call 81; refine (HGh.out _ (by first | exact hb3 | exact below_drew hb3)).mono ?_; rintro e w4 ⟨rfl,hb4⟩)) | fail
   all_goals (
    have hb4':Below W1.heap.size W1 w4:=below_trans hb3 (by first | exact hb4 | exact below_undrew hb4)
    have hw4:=(HCh.out w4 hb4').2.2
    clear hb4 c6 d0 d1 d2 d3 d4
    cases an
    ·have HW:Hid (r = 0):=HV
     go_wp2
     go_ret
     exact ⟨(by rw [HW.out]; first | done | rfl),hw4⟩
    ·have HW:Hid (r = 15):=HV
     go_wp2
     go_ret
     exact ⟨(by rw [HW.out]; first | done | rfl),hw4⟩)
  ·have HW:Hid (r = ri):=by rw [hid_iff,HV.out,if_neg (by simp),if_pos h0]
   have h0i:¬ (ri:Int) = 0:=by omega
   go_enter Tryz.func32,Tryz.ntmps32
   go_wp2_with (go_at_call 25; refine (hV _).mono ?_; rintro e w2 ⟨rfl,hw2⟩; obtain rfl:=hw2.symm)
   refine hR1.mono ?_
   rintro e w3 ⟨rfl,hb3⟩
   have hw3:=(HCh.out w3 hb3).2.2
   clear hR1 y0 y1 y2 y3 y4 zz z0 z1 z2 z3 z4 z5 z6 z7 x0 x1 x2 x3 x4
   go_wp2
   go_ret
   exact ⟨(by rw [HW.out]; first | done | rfl),hw3⟩
end Go.Proofs.YtiiepfplommmfaaGreatDoor
