/-
  The document's own objects: what is refused of a symbol.
-/
import Derived.Test.YtiiepfplommmfaaGreatDoorG13
import Derived.Test.YtiiepfplommmfaaGreatDoorG16
import Derived.Test.YtiiepfplommmfaaGreatDoorG17
import Derived.Deep.DeepCutAuto
namespace Go.Proofs.YtiiepfplommmfaaGreatDoor
open Go.RowKit

theorem same_next {ss:List Sy} {s:Sy} {i:Nat} (hi:i < ss.length) (h:(ss.take i).any (fun t=>sameSy s t) = false) (he:sameSy s ss[i] = false):(ss.take (i + 1)).any (fun t=>sameSy s t) = false:=by
 rw [List.take_succ_eq_append_getElem hi,List.any_append,h]
 simp [he]
theorem same_bad {ss:List Sy} {s:Sy} {i n:Nat} (hi:i < ss.length) (hn:i < n) (he:sameSy s ss[i] = true):(ss.take n).any (fun t=>sameSy s t) = true:=by
 rw [List.any_eq_true]
 refine ⟨ss[i],?_,he⟩
 rw [List.mem_iff_getElem]
 exact ⟨i,by rw [List.length_take]; omega,by simp⟩
theorem cells5 {w:World} {b:Nat} {z0 z1 z2 z3 z4:Value} {e:TypeId} (h:w.heap[b]? = some (.cells #[z0,z1,z2,z3,z4] e (0,0))):w.cell? ⟨b,0,none⟩ = some z0 ∧ w.cell? ⟨b,1,none⟩ = some z1 ∧ w.cell? ⟨b,2,none⟩ = some z2 ∧ w.cell? ⟨b,3,none⟩ = some z3 ∧ w.cell? ⟨b,4,none⟩ = some z4 :=
 ⟨by rw [cell_of_row w _ 0 _ _ _ h]; rfl,by rw [cell_of_row w _ 1 _ _ _ h]; rfl,by rw [cell_of_row w _ 2 _ _ _ h]; rfl,by rw [cell_of_row w _ 3 _ _ _ h]; rfl,by rw [cell_of_row w _ 4 _ _ _ h]; rfl⟩
set_option maxHeartbeats 1000000 in
set_option maxRecDepth 1000000 in
theorem rNumbered (s:List UInt8) (n:Nat) (hn:n ≤ 1000000000) (w:World):Calls Tryz.prog 90 #[.string (str s),.int .i64 (n:Int)] w (Pu (.int .i64 (nbdR s 0 n)) w):=by
 have H0:Hid (nbdR s 0 n = nbdR s 0 n):=rfl
 generalize hr:nbdR s 0 n = res at *
 go_enter Tryz.func90,Tryz.ntmps90
 go_wp2_with fail
 go_loopg [5] n (fun g i wr=>∃ (k:Nat),g + k = n ∧ i = .int .i64 (k:Int) ∧ Hid (nbdR s k g = res) ∧ wr = w)
 case atStart=>exact ⟨0,rfl,rfl,hr,rfl⟩
 case round =>
  obtain ⟨k,hg,rfl,HR,rfl⟩:=hrel
  by_cases hk:k < n
  ·obtain ⟨g',rfl⟩:∃ g',gk = g' + 1:=⟨gk - 1,by omega⟩
   have hki:(k:Int) < (n:Int):=by omega
   have hnu:=rNumeral k (by omega) wr
   have he:=eq_is (numO k) s
   by_cases e:numO k = s
   ·rw [decide_eq_true e] at he
    have HX:Hid (res = (k:Int)):=by rw [hid_iff, ← HR.out,nbdR,if_pos e]
    clear HR e H0 hr
    generalize numO k = d at *
    go_wp2_with fail
    refine hnu.mono ?_
    rintro e w1 ⟨rfl,rfl⟩
    go_wp2
    go_ret
    exact ⟨(by rw [HX.out]; first | done | rfl),rfl⟩
   ·rw [decide_eq_false e] at he
    have HX:Hid (nbdR s (k + 1) g' = res):=by rw [hid_iff, ← HR.out,nbdR,if_neg e]
    clear HR e H0 hr
    generalize numO k = d at *
    go_wp2_with fail
    refine hnu.mono ?_
    rintro e w1 ⟨rfl,rfl⟩
    go_wp2
    go_roundg g'
    case measure=>omega
    case rel=>exact ⟨k + 1,by omega,by go_num,HX,rfl⟩
  ·have hki:¬ (k:Int) < (n:Int):=by omega
   have hg0:gk = 0:=by omega
   subst hg0
   have HX:Hid (res = -1):=HR.out.symm
   clear HR H0 hr
   go_wp2
   go_ret
   exact ⟨(by rw [HX.out]; first | done | rfl),rfl⟩
set_option maxHeartbeats 8000000 in
set_option maxRecDepth 1000000 in
theorem rsymb14 (F:Nat → Prop) (u:ObV) (o:Ob) (w:World) (h:ObR F w u o) (hF:∀ g,F g → g < w.heap.size) (hok:ObOk o) (h48:o.funs.length ≤ 48) (n:Nat) (hn:n < o.symbols.length):Calls Tryz.prog 38 #[obv u o.mod,.int .i64 (n:Int)] w (NumB (elemO o 5 n) w):=by
 have HV:Hid (elemO o 5 n = if valueR o.symbols[n].mod = false then 13 else if itemO o.mod o.funs o.symbols[n] ≠ 0 then itemO o.mod o.funs o.symbols[n] else if (o.symbols.take n).any (fun t=>sameSy o.symbols[n] t) = true then 15 else 0):=by
  rw [hid_iff,elemO,List.getElem?_eq_getElem hn]
  rfl
 have HI:Hid (itemO o.mod o.funs o.symbols[n] = if o.symbols[n].mod ≠ o.mod ∨ o.symbols[n].item.kind ≠ 3 ∨ o.symbols[n].item.name ≠ [] then rightI o.symbols[n].mod [o.symbols[n].item] else if 0 < o.symbols[n].item.cases.length then 12 else if unnamedO o.funs o.symbols[n].item.ty = false then 21 else 0):=rfl
 have HU:=hidden (nbdR_unnamed o.funs o.symbols[n].item.ty)
 have hSo:=hok.symbols _ (List.getElem_mem hn)
 generalize elemO o 5 n = r at *
 generalize itemO o.mod o.funs o.symbols[n] = ri at *
 have hFn:=h.funs
 have hSy:=h.symbols
 obtain ⟨a1,c1,e1⟩:=h.types.shape
 obtain ⟨a2,c2,e2⟩:=h.texts.1.shape
 obtain ⟨a3,c3,e3⟩:=h.globals.shape
 obtain ⟨a5,c5,e5⟩:=h.exports.1.shape
 obtain ⟨a7,c7,e7⟩:=h.relocs.shape
 have hns:=hok.ns
 clear hok h
 obtain ⟨m,ts,xs,gs,fs,es,ss,rs⟩:=o
 obtain ⟨tv,xv,gv,fv,ev,sv,rv⟩:=u
 unfold obv
 simp only at *
 subst e1 e2 e3 e5 e7
 obtain ⟨a4,c4,rfl⟩:=hFn.shape
 obtain ⟨a6,c6,rfl⟩:=hSy.shape
 obtain ⟨g,of,cap,cs,e1,_,hgF,⟨cv,rfl,hcv⟩,hcell⟩:=hSy.at n hn
 simp only [Value.slice.injEq,true_and] at e1
 obtain ⟨rfl,rfl⟩:=e1
 generalize hs:ss[n] = s at *
 obtain ⟨ca,cc,rfl⟩:=hcv.shape
 have hcvS:=hidden hcv
 have hSoS:=hidden hSo
 have hV:=fun v=>refValue (str s.mod) v (by rw [str_size]; have:=hSo.1; unfold Tk at this; omega)
 rw [str_data] at hV
 have HRW:Hid (∀ v,(∀ g,F g → g < v.heap.size ∧ v.heap[g]? = w.heap[g]?) → ∀ b,v.heap[b]? = some (.cells #[.int .i64 s.item.kind,.string (str s.item.name),.string (str s.item.ty),.slice ca s.item.cases.length cc] 77 (0,0)) → Calls Tryz.prog 86 #[.agg #[.string (str s.mod),.slice (some ⟨b,0,none⟩) 1 1]] v (NumB (rightI s.mod [s.item]) v)):=by
  intro v hv b hb
  have hbl:b < v.heap.size:=(Array.getElem?_eq_some_iff.1 hb).1
  refine refRightW (fun g=>F g ∨ g = b) s.mod (.slice (some ⟨b,0,none⟩) 1 1) [s.item] v (.inr ⟨b,0,1,rfl,by simp,.inr rfl,fun j x hx=>?_⟩) (fun g hg=>?_) hSoS.out.1 (fun x hx=>by rw [List.mem_singleton.1 hx]; exact hSoS.out.2)
  ·have hj0:j = 0:=by
    rcases j with _ | j
    ·rfl
    ·simp at hx
   subst hj0
   simp only [List.getElem?_cons_zero,Option.some.injEq] at hx
   subst hx
   obtain ⟨p0,p1,p2,p3,_⟩:=four4 hb
   exact ⟨_,hcvS.out.frame fun g hg=>⟨.inl hg,(hv g hg).2⟩,p0,p1,p2,p3⟩
  ·rcases hg with hg | rfl
   ·exact (hv g hg).1
   ·exact hbl
 have q0:=hcell 0 _ rfl
 have q1:=hcell 1 _ rfl
 have q2:=hcell 2 _ rfl
 have q3:=hcell 3 _ rfl
 have q4:=hcell 4 _ rfl
 simp only [Nat.add_zero] at q0
 generalize hsm:s.mod = sm at *
 generalize hskd:s.item.kind = kd at *
 generalize hsnm:s.item.name = nm at *
 generalize hsty:s.item.ty = ty at *
 generalize hsri:rightI sm [s.item] = rw at *
 generalize s.item.cases.length = nc at *
 generalize unnamedO fs ty = un at *
 have hNb:=fun v=>rNumbered ty fs.length (by omega) v
 generalize xs.length = n2 at *
 generalize ts.length = n1 at *
 generalize gs.length = n3 at *
 generalize es.length = n5 at *
 generalize rs.length = n7 at *
 generalize hW:w.alloc (.cells #[.string (str m),.slice a1 n1 c1,.slice a2 n2 c2,.slice a3 n3 c3,.slice a4 fs.length c4,.slice a5 n5 c5,.slice (some ⟨g,of,none⟩) ss.length c6,.slice a7 n7 c7] 35) = W0 at *
 have hb0:Below w.heap.size w W0:=by rw [← hW]; exact (Below.refl _ _).alloc (Nat.le_refl _) _
 have hs0:W0.heap.size = w.heap.size + 1:=by rw [← hW]; simp
 have hN0:=heap_alloc_new w (.cells #[.string (str m),.slice a1 n1 c1,.slice a2 n2 c2,.slice a3 n3 c3,.slice a4 fs.length c4,.slice a5 n5 c5,.slice (some ⟨g,of,none⟩) ss.length c6,.slice a7 n7 c7] 35)
 rw [hW] at hN0
 generalize hW1:W0.alloc (.cells #[.string (str sm),.int .i64 kd,.string (str nm),.string (str ty),.slice ca nc cc] 80) = W1 at *
 have hb1:Below W0.heap.size W0 W1:=by rw [← hW1]; exact (Below.refl _ _).alloc (Nat.le_refl _) _
 have hs1:W1.heap.size = w.heap.size + 2:=by rw [← hW1]; simp; omega
 have hN1:=heap_alloc_new W0 (.cells #[.string (str sm),.int .i64 kd,.string (str nm),.string (str ty),.slice ca nc cc] 80)
 rw [hW1,hs0] at hN1
 have hbw0:Below w.heap.size w W1:=below_trans hb0 hb1
 have HCh:Hid (∀ u,Below W1.heap.size W1 u → u.cell? ⟨w.heap.size,4,none⟩ = some (.slice a4 fs.length c4) ∧ u.cell? ⟨w.heap.size,6,none⟩ = some (.slice (some ⟨g,of,none⟩) ss.length c6) ∧ u.cell? ⟨w.heap.size + 1,0,none⟩ = some (.string (str sm)) ∧ u.cell? ⟨w.heap.size + 1,1,none⟩ = some (.int .i64 kd) ∧ u.cell? ⟨w.heap.size + 1,2,none⟩ = some (.string (str nm)) ∧ u.cell? ⟨w.heap.size + 1,3,none⟩ = some (.string (str ty))):=by
  intro u hu
  have n0:=(hu.block w.heap.size (by omega)).trans ((hb1.block _ (by omega)).trans hN0)
  have n1:=(hu.block (w.heap.size + 1) (by omega)).trans hN1
  exact ⟨by rw [cell_of_row u _ 4 _ _ _ n0]; rfl,by rw [cell_of_row u _ 6 _ _ _ n0]; rfl,by rw [cell_of_row u _ 0 _ _ _ n1]; rfl,by rw [cell_of_row u _ 1 _ _ _ n1]; rfl,by rw [cell_of_row u _ 2 _ _ _ n1]; rfl,by rw [cell_of_row u _ 3 _ _ _ n1]; rfl⟩
 have n0:=(hb1.block w.heap.size (by omega)).trans hN0
 have z0:W1.cell? ⟨w.heap.size,0,none⟩ = some (.string (str m)):=by rw [cell_of_row W1 _ 0 _ _ _ n0]; rfl
 have z6:W0.cell? ⟨w.heap.size,6,none⟩ = some (.slice (some ⟨g,of,none⟩) ss.length c6):=by rw [cell_of_row W0 _ 6 _ _ _ hN0]; rfl
 have z4:W1.cell? ⟨w.heap.size,4,none⟩ = some (.slice a4 fs.length c4):=by rw [cell_of_row W1 _ 4 _ _ _ n0]; rfl
 obtain ⟨x0,x1,x2,x3,x4⟩:=cells5 hN1
 have HSy:=hidden hSy
 have HFn:=hidden hFn
 have hq0:=eq_is sm m
 have hq3:=nil_text nm
 have hn':n < ss.length:=hn
 have hn0:(n:Int) < (ss.length:Int):=by omega
 have HQ:∀ a v,w.cell? ⟨g,a,none⟩ = some v → W0.cell? ⟨g,a,none⟩ = some v:=fun a v hh=>by
  unfold World.cell? at hh ⊢
  rw [hb0.block g (hF g hgF)]
  exact hh
 replace q0:=HQ _ _ q0
 replace q1:=HQ _ _ q1
 replace q2:=HQ _ _ q2
 replace q3:=HQ _ _ q3
 replace q4:=HQ _ _ q4
 clear hSy hFn hN0 hN1 n0 hcell hcv hSo hs HQ
 cases hv:valueR sm
 ·rw [hv] at hV
  have HX:Hid (r = 13):=by rw [hid_iff,HV.out,if_pos hv]
  clear HV HI HU hv
  go_enter Tryz.func38,Tryz.ntmps38
  go_wp2_with fail
  refine (hV _).mono ?_
  rintro e w1 ⟨rfl,rfl⟩
  go_wp2
  go_ret
  exact ⟨by rw [HX.out]; rfl,hbw0⟩
 rw [hv] at hV
 replace HV:Hid (r = if ri ≠ 0 then ri else if (ss.take n).any (fun t=>sameSy s t) = true then 15 else 0):=by rw [hid_iff,HV.out,if_neg (by rw [hv]; simp)]
 clear hv
 have HB:Hid (ri = if (decide (sm = m) && (decide (kd = 3) && decide (nm = []))) = true then (if 0 < nc then 12 else if un = false then 21 else 0) else rw):=by
  rw [hid_iff,HI.out]
  by_cases f1:sm = m
  ·by_cases f2:kd = 3
   ·by_cases f3:nm = []
    ·rw [if_neg (by rintro (hh | hh | hh); exact hh f1; exact hh f2; exact hh f3),if_pos (show (decide (sm = m) && (decide (kd = 3) && decide (nm = []))) = true by rw [decide_eq_true f1,decide_eq_true f2,decide_eq_true f3]; rfl)]
    ·rw [if_pos (.inr (.inr f3)),if_neg (show ¬ (decide (sm = m) && (decide (kd = 3) && decide (nm = []))) = true by rw [decide_eq_false f3]; simp)]
   ·rw [if_pos (.inr (.inl f2)),if_neg (show ¬ (decide (sm = m) && (decide (kd = 3) && decide (nm = []))) = true by rw [decide_eq_false f2]; simp)]
  ·rw [if_pos (.inl f1),if_neg (show ¬ (decide (sm = m) && (decide (kd = 3) && decide (nm = []))) = true by rw [decide_eq_false f1]; simp)]
 clear HI
 go_enter Tryz.func38,Tryz.ntmps38
 go_wp2_with fail
 refine (hV _).mono ?_
 rintro e w1 ⟨rfl,rfl⟩
 rename World=>W1
 go_upto_region 4 with fail
 generalize hbq:(decide (sm = m) && (decide (kd = 3) && decide (nm = []))) = bq at *
 go_cut [35] (fun c wx=>c = .bool bq ∧ wx = W1)
 case first =>
  as_aux_lemma =>
   clear HB HU HRW hNb
   by_cases e1:sm = m
   case neg =>
    rw [decide_eq_false e1] at hq0
    have HX:Hid (bq = false):=by rw [hid_iff, ← hbq,decide_eq_false e1]; rfl
    clear e1 hbq
    go_wp2_with fail
    go_meet
    exact ⟨by rw [HX.out],rfl⟩
   rw [decide_eq_true e1] at hq0
   by_cases e2:kd = 3
   case neg =>
    have hq2:(kd == 3) = false:=by simp [e2]
    have HX:Hid (bq = false):=by rw [hid_iff, ← hbq,decide_eq_false e2]; simp
    clear e1 e2 hbq
    go_wp2_with fail
    go_meet
    exact ⟨by rw [HX.out],rfl⟩
   have hq2:(kd == 3) = true:=by simp [e2]
   by_cases e3:nm = []
   case neg =>
    rw [decide_eq_false e3] at hq3
    have hq4:¬ (str nm).toList = []:=by
     intro hh
     rw [hh] at hq3
     cases hq3
    have HX:Hid (bq = false):=by rw [hid_iff, ← hbq,decide_eq_false e3]; simp
    clear e1 e2 e3 hbq
    go_wp2_with fail
    go_meet
    exact ⟨by rw [HX.out],rfl⟩
   rw [decide_eq_true e3] at hq3
   have hq4:(str nm).toList = []:=by rw [← List.isEmpty_iff]; exact hq3
   have HX:Hid (bq = true):=by rw [hid_iff, ← hbq,decide_eq_true e1,decide_eq_true e2,decide_eq_true e3]; rfl
   clear e1 e2 e3 hbq
   go_wp2_with fail
   go_meet
   exact ⟨by rw [HX.out],rfl⟩
 case rest =>
  obtain ⟨rfl,rfl⟩:=hcut
  rename World=>W1
  clear hbq hq0 hq3
  go_upto_if 35 with fail
  go_cut [] (fun wx=>Hid (Below W1.heap.size W1 wx) ∧ Hid (ri = 0))
  case first =>
   as_aux_lemma =>
    cases bq
    ·replace HB:Hid (ri = rw):=by rw [hid_iff,HB.out,if_neg (by simp)]
     generalize hW2:W1.alloc (.cells #[.int .i64 kd,.string (str nm),.string (str ty),.slice ca nc cc] 77) = W2 at *
     have hb2:Below W1.heap.size W1 W2:=by rw [← hW2]; exact (Below.refl _ _).alloc (Nat.le_refl _) _
     have hN2:=heap_alloc_new W1 (.cells #[.int .i64 kd,.string (str nm),.string (str ty),.slice ca nc cc] 77)
     rw [hW2] at hN2
     have hRt:=HRW.out W2 (fun g hg=>⟨Nat.lt_of_lt_of_le (hF g hg) (below_trans hbw0 hb2).size,(below_trans hbw0 hb2).block g (hF g hg)⟩) W1.heap.size hN2
     rw [hs1] at hRt
     have HB2:=hidden hb2
     clear HRW HU hN2 hb2 hNb
     go_wp2_with fail
     refine hRt.mono ?_
     rintro e w3 ⟨rfl,hb3⟩
     by_cases e9:rw = 0
     ·have HX:Hid (ri = 0):=by rw [hid_iff,HB.out,e9]
      have HG:Hid (Below W1.heap.size W1 w3):=below_trans HB2.out hb3
      subst e9
      clear hRt HV HB
      go_wp2_with fail
      go_meet
      exact ⟨HG,HX⟩
     ·have HX:Hid (r = rw):=by rw [hid_iff,HV.out,HB.out,if_pos e9]
      have h9:((rw:Int) == 0) = false:=by simp [e9]
      clear HV e9 HB hRt
      go_wp2
      go_ret
      exact ⟨(by rw [HX.out]; first | done | rfl),below_trans hbw0 (below_trans HB2.out hb3)⟩
    ·replace HB:Hid (ri = if 0 < nc then 12 else if un = false then 21 else 0):=by rw [hid_iff,HB.out,if_pos rfl]
     clear HRW
     generalize nbdR ty 0 fs.length = nb at *
     go_wp2_with fail
     refine (hNb _).mono ?_
     rintro e w2 ⟨rfl,hw2⟩
     obtain rfl:=hw2.symm
     by_cases e4:0 < nc
     ·have HX:Hid (r = 12):=by rw [hid_iff,HV.out,HB.out,if_pos e4]; rfl
      have e4i:(0:Int) < (nc:Int):=by omega
      clear HV HB HU
      go_wp2
      go_ret
      exact ⟨(by rw [HX.out]; first | done | rfl),hbw0⟩
     have e4i:¬ (0:Int) < (nc:Int):=by omega
     replace HB:Hid (ri = if un = false then 21 else 0):=by rw [hid_iff,HB.out,if_neg e4]
     clear e4
     rcases HU.out with ⟨k,hk,hnb,hun⟩ | ⟨hnb,hun⟩
     case inr =>
      have h21:ri = 21:=by rw [HB.out,if_pos hun]
      have HX:Hid (r = 21):=by rw [hid_iff,HV.out,h21]; rfl
      clear HV HB HU hun h21
      subst hnb
      go_wp2
      go_ret
      exact ⟨(by rw [HX.out]; first | done | rfl),hbw0⟩
     subst hnb
     obtain ⟨gf,ogf,capf,csf,e1,_,hgF2,⟨pv2,kv2,rfl,_,_⟩,hcell2⟩:=(HFn.out.below cFn_stay hbw0 hF).at k hk
     simp only [Value.slice.injEq,true_and] at e1
     obtain ⟨rfl,rfl⟩:=e1
     have p0:=hcell2 0 _ rfl
     simp only [Nat.add_zero] at p0
     have hki:(k:Int) < (fs.length:Int):=by omega
     have hk00:(0:Int) ≤ (k:Int):=by omega
     have hnf:=nil_text fs[k].name
     generalize fs[k].name = fnm at *
     by_cases e5:fnm = []
     ·rw [decide_eq_true e5] at hnf
      have hnf4:(str fnm).toList = []:=by rw [← List.isEmpty_iff]; exact hnf
      have HX:Hid (ri = 0):=by rw [hid_iff,HB.out,if_neg (by rw [hun,decide_eq_true e5]; simp)]
      have HG:Hid (Below W1.heap.size W1 W1):=Below.refl _ _
      clear HV HB HU hun e5 hcell2
      go_wp2_with fail
      go_meet
      exact ⟨HG,HX⟩
     ·have h21:ri = 21:=by rw [HB.out,if_pos (by rw [hun,decide_eq_false e5])]
      have HX:Hid (r = 21):=by rw [hid_iff,HV.out,h21]; rfl
      rw [decide_eq_false e5] at hnf
      have hnf4:¬ (str fnm).toList = []:=by
       intro hh
       rw [hh] at hnf
       cases hnf
      clear HV HB HU hun e5 hcell2 h21
      go_wp2
      go_ret
      exact ⟨(by rw [HX.out]; first | done | rfl),hbw0⟩
  case rest =>
   obtain ⟨HCB,HR0⟩:=hcut
   replace HV:Hid (r = if (ss.take n).any (fun t=>sameSy s t) = true then 15 else 0):=by rw [hid_iff,HV.out,HR0.out]; rfl
   clear HB HU HRW hV hNb HR0 z0 z4 z6 q0 q1 q2 q3 q4 x0 x1 x2 x3 x4
   go_wp2_with fail
   go_loopg [8] n (fun g i wr=>∃ (k:Nat),g + k = n ∧ i = .int .i64 (k:Int) ∧ Hid ((ss.take k).any (fun t=>sameSy s t) = false) ∧ Below W1.heap.size W1 wr)
   case atStart=>exact ⟨0,by omega,rfl,rfl,HCB.out⟩
   case round =>
    obtain ⟨i,hgi,rfl,HA,hbl⟩:=hrel
    rename World=>wr
    obtain ⟨y4,y6,y0,y1,y2,y3⟩:=HCh.out wr hbl
    by_cases hi:i < n
    ·have hil:i < ss.length:=by omega
     have hwr:=below_trans hbw0 hbl
     obtain ⟨g,of,cap,cs2,e1,_,hgF,⟨cv2,rfl,hcv2⟩,hcell⟩:=(HSy.out.below cSy_stay hwr hF).at i hil
     simp only [Value.slice.injEq,Option.some.injEq,Addr.mk.injEq,true_and,and_true] at e1
     obtain ⟨⟨rfl,rfl⟩,rfl⟩:=e1
     have q0:=hcell 0 _ rfl
     have q1:=hcell 1 _ rfl
     have q2:=hcell 2 _ rfl
     have q3:=hcell 3 _ rfl
     have q4:=hcell 4 _ rfl
     simp only [Nat.add_zero] at q0
     obtain ⟨ca2,cc2,rfl⟩:=hcv2.shape
     have hki:(i:Int) < (n:Int):=by omega
     have HE:Hid (sameSy s ss[i] = (decide (s.mod = ss[i].mod) && (decide (s.item.kind = ss[i].item.kind) && (decide (s.item.name = ss[i].item.name) && (decide (s.item.name ≠ []) || decide (s.item.ty = ss[i].item.ty)))))):=rfl
     have h1:=eq_is ss[i].mod sm
     have h3:=eq_is ss[i].item.name nm
     have h4:=nil_text nm
     have h5:=eq_is ss[i].item.ty ty
     rw [hsm,hskd,hsnm,hsty] at HE
     generalize hm2:ss[i].mod = m2 at *
     generalize hk2:ss[i].item.kind = kd2 at *
     generalize hn2:ss[i].item.name = nm2 at *
     generalize ht2:ss[i].item.ty = ty2 at *
     generalize ss[i].item.cases.length = nc2 at *
     generalize hWs:wr.alloc (.cells #[.string (str m2),.int .i64 kd2,.string (str nm2),.string (str ty2),.slice ca2 nc2 cc2] 80) = ws at *
     have hbs:Below wr.heap.size wr ws:=by rw [← hWs]; exact (Below.refl _ _).alloc (Nat.le_refl _) _
     have hNs:=heap_alloc_new wr (.cells #[.string (str m2),.int .i64 kd2,.string (str nm2),.string (str ty2),.slice ca2 nc2 cc2] 80)
     rw [hWs] at hNs
     have hNs5:=cells5 hNs
     obtain ⟨x0,x1,x2,x3,x4⟩:=hNs5
     obtain ⟨y4',y6',y0',y1',y2',y3'⟩:=HCh.out ws (below_trans hbl hbs)
     clear hcell hcv2 hNs hm2 hk2 hn2 ht2
     by_cases e1:m2 = sm
     case neg =>
      rw [decide_eq_false e1] at h1
      have HX:Hid ((ss.take (i + 1)).any (fun t=>sameSy s t) = false):=same_next hil HA.out (by rw [HE.out]; simp [Ne.symm e1])
      clear HE HA h3 h4 h5 e1
      go_wp2
      go_roundg (n - (i + 1))
      case measure=>omega
      case rel=>exact ⟨i + 1,by omega,by go_num,HX,below_trans hbl hbs⟩
     rw [decide_eq_true e1] at h1
     by_cases e2:kd2 = kd
     case neg =>
      have h2:(kd2 == kd) = false:=by simp [e2]
      have HX:Hid ((ss.take (i + 1)).any (fun t=>sameSy s t) = false):=same_next hil HA.out (by rw [HE.out]; simp [Ne.symm e2])
      clear HE HA h3 h4 h5 e1 e2
      go_wp2
      go_roundg (n - (i + 1))
      case measure=>omega
      case rel=>exact ⟨i + 1,by omega,by go_num,HX,below_trans hbl hbs⟩
     have h2:(kd2 == kd) = true:=by simp [e2]
     by_cases e3:nm2 = nm
     case neg =>
      rw [decide_eq_false e3] at h3
      have HX:Hid ((ss.take (i + 1)).any (fun t=>sameSy s t) = false):=same_next hil HA.out (by rw [HE.out]; simp [Ne.symm e3])
      clear HE HA h4 h5 e1 e2 e3
      go_wp2
      go_roundg (n - (i + 1))
      case measure=>omega
      case rel=>exact ⟨i + 1,by omega,by go_num,HX,below_trans hbl hbs⟩
     rw [decide_eq_true e3] at h3
     by_cases e4:nm = []
     case neg =>
      rw [decide_eq_false e4] at h4
      have h4':¬ (str nm).toList = []:=by
       intro hh
       rw [hh] at h4
       cases h4
      have HX:Hid (r = 15):=by rw [hid_iff,HV.out,if_pos (same_bad hil hi (by rw [HE.out]; simp [e1,e2,e3,e4]))]
      clear HE HA HV h5 e1 e2 e3 e4
      go_wp2
      go_ret
      exact ⟨by rw [HX.out]; rfl,below_trans hbw0 (below_trans hbl hbs)⟩
     rw [decide_eq_true e4] at h4
     have h4':(str nm).toList = []:=by rw [← List.isEmpty_iff]; exact h4
     have h6:(str nm2).toList = []:=by rw [e3]; exact h4'
     by_cases e5:ty2 = ty
     ·rw [decide_eq_true e5] at h5
      have HX:Hid (r = 15):=by rw [hid_iff,HV.out,if_pos (same_bad hil hi (by rw [HE.out]; simp [e1,e2,e3,e5]))]
      clear HE HA HV e1 e2 e3 e4 e5
      go_wp2
      go_ret
      exact ⟨by rw [HX.out]; rfl,below_trans hbw0 (below_trans hbl hbs)⟩
     ·rw [decide_eq_false e5] at h5
      have HX:Hid ((ss.take (i + 1)).any (fun t=>sameSy s t) = false):=same_next hil HA.out (by rw [HE.out]; simp [e4,Ne.symm e5])
      clear HE HA e1 e2 e3 e4 e5
      go_wp2
      go_roundg (n - (i + 1))
      case measure=>omega
      case rel=>exact ⟨i + 1,by omega,by go_num,HX,below_trans hbl hbs⟩
    ·have hki:¬ (i:Int) < (n:Int):=by omega
     have hin:i = n:=by omega
     subst hin
     have HX:Hid (r = 0):=by rw [hid_iff,HV.out,if_neg (by rw [HA.out]; simp)]
     clear HA HV
     go_wp2
     go_ret
     exact ⟨by rw [HX.out]; rfl,below_trans hbw0 hbl⟩
end Go.Proofs.YtiiepfplommmfaaGreatDoor
