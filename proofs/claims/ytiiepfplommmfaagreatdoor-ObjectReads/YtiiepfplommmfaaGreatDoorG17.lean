/-
  What is refused of one type, text, global of an object.
  And: What is refused of one symbol of an object. The package's Find, and the copy that it answers.
-/
import Derived.Test.YtiiepfplommmfaaGreatDoorG13
import Derived.Test.YtiiepfplommmfaaGreatDoorShelf
import Derived.Deep.RegionHeld3
import Derived.Deep.LoopGhost
import Derived.Laws.Rows
import Derived.Test.YtiiepfplommmfaaGreatDoorG08
import Derived.Test.YtiiepfplommmfaaGreatDoorG09
namespace Go.Proofs.YtiiepfplommmfaaGreatDoor
open Go.RowKit

theorem ItR.take {F:Nat → Prop} {w:World} {a:Option Addr} {cap:Nat} {l:List It} (h:ItR F w (.slice a l.length cap) l) (n:Nat) (hn:n ≤ l.length):ItR F w (.slice a n cap) (l.take n):=by
 rcases h with ⟨a',c,h1,rfl⟩ | ⟨g',o',cap',h1,h1',h2,h3⟩
 ·simp at hn
  subst hn
  exact .inl ⟨_,cap,rfl,rfl⟩
 ·simp only [Value.slice.injEq,true_and] at h1
  obtain ⟨rfl,rfl⟩:=h1
  refine .inr ⟨g',o',cap,by rw [List.length_take,Nat.min_eq_left hn],by rw [List.length_take,Nat.min_eq_left hn]; omega,h2,fun j x hj=>h3 j x ?_⟩
  rw [List.getElem?_take] at hj
  split at hj
  ·exact hj
  ·cases hj
theorem ItR.room {F:Nat → Prop} {w:World} {a:Option Addr} {cap:Nat} {l:List It} (h:ItR F w (.slice a l.length cap) l):l.length ≤ cap ∨ l.length = 0:=by
 rcases h with ⟨a',c,h1,rfl⟩ | ⟨g',o',cap',h1,h1',h2,h3⟩
 ·exact .inr rfl
 ·simp only [Value.slice.injEq,true_and] at h1
  obtain ⟨rfl,rfl⟩:=h1
  exact .inl h1'
abbrev lbox (w:World) (m:List UInt8) (tv xv gv fv ev sv rv:Value):World:=w.alloc (.cells #[.string (str m),tv,xv,gv,fv,ev,sv,rv] 86)
set_option maxHeartbeats 1000000 in
set_option maxRecDepth 1000000 in
theorem textAt (F:Nat → Prop) (u:ObV) (o:Ob) (w:World) (h:ObR F w u o) (k:Nat) (hk:k < o.texts.length):Calls Tryz.prog 28 #[obv u o.mod,.int .i64 (k:Int)] w (NumB (elemO o 1 k) w):=by
 have HV:Hid (elemO o 1 k = textO o.texts[k]):=by rw [hid_iff,elemO,List.getElem?_eq_getElem hk]
 generalize elemO o 1 k = r at *
 obtain ⟨g,of,cap,e1,hg,q⟩:=h.texts.1.at k hk
 obtain ⟨m,ts,xs,gs,fs,es,ss,rs⟩:=o
 obtain ⟨tv,xv,gv,fv,ev,sv,rv⟩:=u
 unfold obv
 simp only at *
 subst e1
 have hb0:Below w.heap.size w (lbox w m tv (.slice (some ⟨g,of,none⟩) xs.length cap) gv fv ev sv rv):=(Below.refl _ _).alloc (Nat.le_refl _) _
 have q':=cell_more q (.cells #[.string (str m),tv,.slice (some ⟨g,of,none⟩) xs.length cap,gv,fv,ev,sv,rv] 86)
 have hk':k < xs.length:=hk
 have hki:(k:Int) < (xs.length:Int):=by omega
 have hr:=fun u=>right (str xs[k]) u
 rw [str_data] at hr
 clear h q
 generalize xs[k] = x at *
 cases hx:rightR x
 ·rw [hx] at hr
  have HW:Hid (r = 17):=by rw [hid_iff,HV.out,textO,if_neg (by rw [hx]; simp)]
  clear HV hx
  go_enter Tryz.func28,Tryz.ntmps28
  go_wp2_with (go_at_call 74; refine (hr _).mono ?_; rintro e w2 ⟨rfl,hb2⟩)
  go_ret
  exact ⟨(by rw [HW.out]; first | done | rfl),below_trans hb0 hb2⟩
 ·rw [hx] at hr
  have HW:Hid (r = 0):=by rw [hid_iff,HV.out,textO,if_pos hx]
  clear HV hx
  go_enter Tryz.func28,Tryz.ntmps28
  go_wp2_with (go_at_call 74; refine (hr _).mono ?_; rintro e w2 ⟨rfl,hb2⟩)
  go_ret
  exact ⟨(by rw [HW.out]; first | done | rfl),below_trans hb0 hb2⟩
set_option maxHeartbeats 2000000 in
set_option maxRecDepth 1000000 in
theorem typeAt (F:Nat → Prop) (u:ObV) (o:Ob) (w:World) (h:ObR F w u o) (hF:∀ g,F g → g < w.heap.size) (hok:ObOk o) (k:Nat) (hk:k < o.types.length):Calls Tryz.prog 27 #[obv u o.mod,.int .i64 (k:Int)] w (NumB (elemO o 0 k) w):=by
 have HV:Hid (elemO o 0 k = typeO o.mod (o.types.take k) o.types[k]):=by rw [hid_iff,elemO,List.getElem?_eq_getElem hk]
 generalize elemO o 0 k = r at *
 have hT:=h.types
 obtain ⟨g,of,cap,cv,e1,hg,hC,q0,q1,q2,q3⟩:=hT.at k hk
 have hxo:=hok.types _ (List.getElem_mem hk)
 have hm:=hok.mod
 have hnt:=hok.nt
 obtain ⟨m,ts,xs,gs,fs,es,ss,rs⟩:=o
 obtain ⟨tv,xv,gv,fv,ev,sv,rv⟩:=u
 unfold obv
 simp only at *
 subst e1
 obtain ⟨ca,cc,rfl⟩:=hC.shape
 have hcap:ts.length ≤ cap:=by rcases hT.room with h | h <;> omega
 have hk':k < ts.length:=hk
 have hTk:=hT.take k (by omega)
 rcases hx:ts[k] with ⟨kd,nm,ty,cs⟩
 rw [hx] at q0 q1 q2 q3 hC hxo HV
 simp only at q0 q1 q2 q3 hC
 have ki0:(k:Int) < (ts.length:Int):=by omega
 have ki1:(k:Int) ≤ (cap:Int):=by omega
 generalize hW:(lbox w m (.slice (some ⟨g,of,none⟩) ts.length cap) xv gv fv ev sv rv) = W0 at *
 have hb0:Below w.heap.size w W0:=by rw [← hW]; exact (Below.refl _ _).alloc (Nat.le_refl _) _
 have hs0:W0.heap.size = w.heap.size + 1:=by rw [← hW]; simp
 have hN0:=heap_alloc_new w (.cells #[.string (str m),(.slice (some ⟨g,of,none⟩) ts.length cap),xv,gv,fv,ev,sv,rv] 86)
 unfold lbox at hW
 rw [hW] at hN0
 generalize hW1:W0.alloc (.cells #[.int .i64 kd,.string (str nm),.string (str ty),.slice ca cs.length cc] 77) = W1 at *
 have hb1:Below W0.heap.size W0 W1:=by rw [← hW1]; exact (Below.refl _ _).alloc (Nat.le_refl _) _
 have hs1:W1.heap.size = w.heap.size + 2:=by rw [← hW1]; simp; omega
 have hN1:=heap_alloc_new W0 (.cells #[.int .i64 kd,.string (str nm),.string (str ty),.slice ca cs.length cc] 77)
 rw [hW1,hs0] at hN1
 have hbw:Below w.heap.size w W1:=below_trans hb0 hb1
 have hR:=rightAlone F m ⟨kd,nm,ty,cs⟩ (.slice ca cs.length cc) W1 (hC.below hbw hF) (fun g hg=>by have:=hF g hg; omega) hm hxo
 unfold itv at hR
 simp only at hR
 have HC:∀ u,Below W1.heap.size W1 u → u.cell? ⟨w.heap.size,1,none⟩ = some (.slice (some ⟨g,of,none⟩) ts.length cap) ∧ u.cell? ⟨w.heap.size + 1,0,none⟩ = some (.int .i64 kd) ∧ u.cell? ⟨w.heap.size + 1,1,none⟩ = some (.string (str nm)) ∧ Below w.heap.size w u:=by
  intro u hu
  have n0:=(hu.block w.heap.size (by omega)).trans ((hb1.block _ (by omega)).trans hN0)
  have n1:=(hu.block (w.heap.size + 1) (by omega)).trans hN1
  exact ⟨by rw [cell_of_row u _ 1 _ _ _ n0]; rfl,by rw [cell_of_row u _ 0 _ _ _ n1]; rfl,by rw [cell_of_row u _ 1 _ _ _ n1]; rfl,below_trans hbw hu⟩
 have hI:∀ u,Below W1.heap.size W1 u → Calls Tryz.prog 72 #[.slice (some ⟨g,of,none⟩) k cap,.func (.func 73) #[] #[.pointer (some ⟨w.heap.size + 1,0,none⟩)]] u (BoolB ((ts.take k).any (fun d=>decide (d.name = nm))) u):=by
  intro u hu
  obtain ⟨_,_,c3,hbu⟩:=HC u hu
  refine conI F _ (ts.take k) (w.heap.size + 1) (fun d=>decide (d.name = nm)) u (hTk.below hbu hF) (fun g hg=>by have:=hF g hg; have:=hu.size; omega) (by rw [List.length_take]; omega) (fun j hj cv wr hwr _=>?_)
  exact predI (ts.take k)[j] cv (w.heap.size + 1) nm wr ((World.cell?_of_block (a:=⟨w.heap.size + 1,1,none⟩) (hwr.block _ (by have:=hu.size; show w.heap.size + 1 < _; omega))).trans c3)
 have HR:Hid (typeO m (ts.take k) ⟨kd,nm,ty,cs⟩ = if rightI m [⟨kd,nm,ty,cs⟩] ≠ 0 then rightI m [⟨kd,nm,ty,cs⟩] else if kd ≠ 1 then 12 else if (ts.take k).any (fun d=>decide (d.name = nm)) = true then 15 else 0):=rfl
 generalize (ts.take k).any (fun d=>decide (d.name = nm)) = an at *
 generalize rightI m [⟨kd,nm,ty,cs⟩] = ri at *
 rw [HR.out] at HV
 have y0:=(hb0.cell (p:=⟨g,of + k * 4,none⟩) (hF g hg)).trans q0
 have y1:=(hb0.cell (p:=⟨g,of + k * 4 + 1,none⟩) (hF g hg)).trans q1
 have y2:=(hb0.cell (p:=⟨g,of + k * 4 + 2,none⟩) (hF g hg)).trans q2
 have y3:=(hb0.cell (p:=⟨g,of + k * 4 + 3,none⟩) (hF g hg)).trans q3
 have z1:W0.cell? ⟨w.heap.size,1,none⟩ = some (.slice (some ⟨g,of,none⟩) ts.length cap):=by rw [cell_of_row W0 _ 1 _ _ _ hN0]; rfl
 have z0:W1.cell? ⟨w.heap.size,0,none⟩ = some (.string (str m)):=by rw [cell_of_row W1 _ 0 _ _ _ ((hb1.block _ (by omega)).trans hN0)]; rfl
 obtain ⟨x0,x1,x2,x3⟩:W1.cell? ⟨w.heap.size + 1,0,none⟩ = some (.int .i64 kd) ∧ W1.cell? ⟨w.heap.size + 1,1,none⟩ = some (.string (str nm)) ∧ W1.cell? ⟨w.heap.size + 1,2,none⟩ = some (.string (str ty)) ∧ W1.cell? ⟨w.heap.size + 1,3,none⟩ = some (.slice ca cs.length cc):=⟨by rw [cell_of_row W1 _ 0 _ _ _ hN1]; rfl,by rw [cell_of_row W1 _ 1 _ _ _ hN1]; rfl,by rw [cell_of_row W1 _ 2 _ _ _ hN1]; rfl,by rw [cell_of_row W1 _ 3 _ _ _ hN1]; rfl⟩
 clear HR h hT hTk hC hx q0 q1 q2 q3 hok hxo
 have HCh:=hidden HC
 have HIh:=hidden hI
 clear HC hI
 by_cases h0:ri = 0
 ·subst h0
  by_cases h1:kd = 1
  ·subst h1
   go_enter Tryz.func27,Tryz.ntmps27
   go_wp2_with fail
   refine hR.mono ?_
   rintro e w2 ⟨rfl,hb2⟩
   obtain ⟨c1,c2,c3,c4⟩:=HCh.out w2 hb2
   have hI:=HIh.out w2 hb2
   clear hR x0 x1 x2 x3 y0 y1 y2 y3
   have hK0:(k:Int) ≥ 0:=by omega
   go_wp2_with fail
   refine hI.mono ?_
   rintro e w3 ⟨rfl,hb3⟩
   have hb4:=below_trans c4 hb3
   clear hI
   cases an
   ·have HW:Hid (r = 0):=by rw [hid_iff,HV.out]; rfl
    go_wp2
    go_ret
    exact ⟨(by rw [HW.out]; first | done | rfl),hb4⟩
   ·have HW:Hid (r = 15):=by rw [hid_iff,HV.out]; rfl
    go_wp2
    go_ret
    exact ⟨(by rw [HW.out]; first | done | rfl),hb4⟩
  ·have HW:Hid (r = 12):=by rw [hid_iff,HV.out,if_neg (by simp),if_pos h1]
   go_enter Tryz.func27,Tryz.ntmps27
   go_wp2_with fail
   refine hR.mono ?_
   rintro e w2 ⟨rfl,hb2⟩
   obtain ⟨c1,c2,c3,c4⟩:=HCh.out w2 hb2
   clear hR x0 x1 x2 x3 y0 y1 y2 y3
   go_wp2
   go_ret
   exact ⟨(by rw [HW.out]; first | done | rfl),c4⟩
 ·have HW:Hid (r = ri):=by rw [hid_iff,HV.out,if_pos h0]
  have h0i:¬ (ri:Int) = 0:=by omega
  go_enter Tryz.func27,Tryz.ntmps27
  go_wp2_with fail
  refine hR.mono ?_
  rintro e w2 ⟨rfl,hb2⟩
  obtain ⟨c1,c2,c3,c4⟩:=HCh.out w2 hb2
  clear hR x0 x1 x2 x3 y0 y1 y2 y3
  go_wp2
  go_ret
  exact ⟨(by rw [HW.out]; first | done | rfl),c4⟩
end Go.Proofs.YtiiepfplommmfaaGreatDoor

namespace Go.Proofs.YtiiepfplommmfaaGreatDoor
open Go.RowKit

set_option maxHeartbeats 2000000 in
set_option maxRecDepth 1000000 in
theorem oisSame (a b:Sy) (cv1 cv2:Value) (w:World):Calls Tryz.prog 82 #[syv a cv1,syv b cv2] w (BoolB (sameSy a b) w):=by
 obtain ⟨m1,k1,n1,t1,c1⟩:=a
 obtain ⟨m2,k2,n2,t2,c2⟩:=b
 unfold syv
 simp only
 have hb0:Below w.heap.size w ((w.alloc (.cells #[.string (str m1),.int .i64 k1,.string (str n1),.string (str t1),cv1] 79)).alloc (.cells #[.string (str m2),.int .i64 k2,.string (str n2),.string (str t2),cv2] 79)):=((Below.refl _ _).alloc (Nat.le_refl _) _).alloc (by simp) _
 have HM:Hid (sameSy ⟨m1,k1,n1,t1,c1⟩ ⟨m2,k2,n2,t2,c2⟩ = (decide (m1 = m2) && (decide (k1 = k2) && (decide (n1 = n2) && (decide (n1 ≠ []) || decide (t1 = t2)))))):=rfl
 generalize sameSy ⟨m1,k1,n1,t1,c1⟩ ⟨m2,k2,n2,t2,c2⟩ = r at *
 have h1:=eq_is m1 m2
 have h3:=eq_is n1 n2
 have h4:=nil_text n1
 have h5:=eq_is t1 t2
 by_cases e1:m1 = m2
 case neg =>
  have HV:Hid (r = false):=by rw [hid_iff,HM.out]; simp [e1]
  rw [decide_eq_false e1] at h1
  clear HM h3 h4 h5 e1
  go_enter Tryz.func82,Tryz.ntmps82
  go_wp2
  go_ret
  exact ⟨(by rw [HV.out]; first | done | rfl),hb0⟩
 rw [decide_eq_true e1] at h1
 by_cases e2:k1 = k2
 case neg =>
  have HV:Hid (r = false):=by rw [hid_iff,HM.out]; simp [e2]
  have h2:(k1 == k2) = false:=by simp [e2]
  clear HM h3 h4 h5 e1
  go_enter Tryz.func82,Tryz.ntmps82
  go_wp2
  go_ret
  exact ⟨(by rw [HV.out]; first | done | rfl),hb0⟩
 have h2:(k1 == k2) = true:=by simp [e2]
 by_cases e3:n1 = n2
 case neg =>
  have HV:Hid (r = false):=by rw [hid_iff,HM.out]; simp [e3]
  rw [decide_eq_false e3] at h3
  clear HM h4 h5 e1 e2
  go_enter Tryz.func82,Tryz.ntmps82
  go_wp2
  go_ret
  exact ⟨(by rw [HV.out]; first | done | rfl),hb0⟩
 rw [decide_eq_true e3] at h3
 by_cases e4:n1 = []
 case neg =>
  have HV:Hid (r = true):=by rw [hid_iff,HM.out,decide_eq_true e1,decide_eq_true e2,decide_eq_true e3,decide_eq_true e4]; rfl
  rw [decide_eq_false e4] at h4
  have h4':¬ (str n1).toList = []:=by
   intro hh
   rw [hh] at h4
   cases h4
  clear HM h5 e1 e2 e3 e4
  go_enter Tryz.func82,Tryz.ntmps82
  go_wp2
  go_ret
  exact ⟨(by rw [HV.out]; first | done | rfl),hb0⟩
 rw [decide_eq_true e4] at h4
 have h4':(str n1).toList = []:=by rw [← List.isEmpty_iff]; exact h4
 have h6:(str n2).toList = []:=by rw [← e3]; exact h4'
 by_cases e5:t1 = t2
 ·have HV:Hid (r = true):=by rw [hid_iff,HM.out,decide_eq_true e1,decide_eq_true e2,decide_eq_true e3,decide_eq_true e5]; simp
  rw [decide_eq_true e5] at h5
  clear HM e1 e2 e3 e4 e5
  go_enter Tryz.func82,Tryz.ntmps82
  go_wp2
  go_ret
  exact ⟨(by rw [HV.out]; first | done | rfl),hb0⟩
 ·have HV:Hid (r = false):=by rw [hid_iff,HM.out,decide_eq_false e5]; simp [e4]
  rw [decide_eq_false e5] at h5
  clear HM e1 e2 e3 e4 e5
  go_enter Tryz.func82,Tryz.ntmps82
  go_wp2
  go_ret
  exact ⟨(by rw [HV.out]; first | done | rfl),hb0⟩
def unF (fs:List Fn) (t:List UInt8):Nat → Nat → Bool
 | _,0=>false
 | k,n + 1=>if numO k = t then (match fs[k]? with | some f=>decide (f.name = []) | none=>false) else unF fs t (k + 1) n
theorem unF_at (fs:List Fn) (t:List UInt8) (k:Nat) (h:k < fs.length):unF fs t k (fs.length - k) = if numO k = t then decide (fs[k].name = []) else unF fs t (k + 1) (fs.length - (k + 1)):=by
 obtain ⟨m,hm⟩:∃ m,fs.length - k = m + 1:=⟨fs.length - k - 1,by omega⟩
 rw [hm,unF,show fs.length - (k + 1) = m from by omega,List.getElem?_eq_getElem h]
theorem unF_range (fs:List Fn) (t:List UInt8):∀ (n k:Nat),unF fs t k n = (match (List.range' k n).find? (fun i=>decide (numO i = t)) with
 | some i=>match fs[i]? with
  | some f=>decide (f.name = [])
  | none=>false
 | none=>false)
 | 0,k=>rfl
 | n + 1,k=>by
  rw [unF,List.range'_succ,List.find?_cons]
  by_cases h:numO k = t
  ·rw [if_pos h,decide_eq_true h]
  ·rw [if_neg h,decide_eq_false h]
   exact unF_range fs t n (k + 1)
theorem unF_is (fs:List Fn) (t:List UInt8):unF fs t 0 fs.length = unnamedO fs t:=by
 rw [unF_range,unnamedO,List.range_eq_range']
 rfl
set_option maxHeartbeats 4000000 in
set_option maxRecDepth 1000000 in
theorem oisUnnamed (F:Nat → Prop) (u:ObV) (o:Ob) (t:List UInt8) (w:World) (h:ObR F w u o) (hF:∀ g,F g → g < w.heap.size) (h48:o.funs.length ≤ 48):Calls Tryz.prog 137 #[obv u o.mod,.string (str t)] w (BoolB (unnamedO o.funs t) w):=by
 have HV:=hidden (unF_is o.funs t)
 have hT:=h.funs
 obtain ⟨m,ts,xs,gs,fs,es,ss,rs⟩:=o
 obtain ⟨tv,xv,gv,fv,ev,sv,rv⟩:=u
 unfold obv
 simp only at *
 obtain ⟨fa,fc,rfl⟩:=hT.shape
 generalize hW:w.alloc (.cells #[.string (str m),tv,xv,gv,.slice fa fs.length fc,ev,sv,rv] 86) = W0 at *
 have hb0:Below w.heap.size w W0:=by rw [← hW]; exact (Below.refl _ _).alloc (Nat.le_refl _) _
 have hs0:W0.heap.size = w.heap.size + 1:=by rw [← hW]; simp
 have hN0:=heap_alloc_new w (.cells #[.string (str m),tv,xv,gv,.slice fa fs.length fc,ev,sv,rv] 86)
 rw [hW] at hN0
 have z4:W0.cell? ⟨w.heap.size,4,none⟩ = some (.slice fa fs.length fc):=by rw [cell_of_row W0 _ 4 _ _ _ hN0]; rfl
 have HT:=hidden hT
 clear h hT
 go_enter Tryz.func137,Tryz.ntmps137
 go_wp2_with fail
 go_loopg [11] fs.length (fun g i wr=>∃ (k:Nat),g + k = fs.length ∧ i = .int .i64 (k:Int) ∧ Hid (unF fs t 0 fs.length = unF fs t k (fs.length - k)) ∧ Below w.heap.size w wr)
 case atStart=>exact ⟨0,by omega,rfl,rfl,hb0⟩
 case round =>
  obtain ⟨k,hg,rfl,hq,hbl⟩:=hrel
  by_cases hk:k < fs.length
  ·obtain ⟨g,of,cap,cs,e1,_,hgF,hC,hcell⟩:=(HT.out.below cFn_stay hbl hF).at k hk
   simp only [Value.slice.injEq,true_and] at e1
   obtain ⟨rfl,rfl⟩:=e1
   obtain ⟨pv,kv,rfl,hpv,hkv⟩:=hC
   have q0:=hcell 0 _ rfl
   have q1:=hcell 1 _ rfl
   have q2:=hcell 2 _ rfl
   have q3:=hcell 3 _ rfl
   have q4:=hcell 4 _ rfl
   have q5:=hcell 5 _ rfl
   simp only [Nat.add_zero] at q0
   have hki:(k:Int) < (fs.length:Int):=by omega
   have hat:=unF_at fs t k hk
   have HN:=hidden (nil_text fs[k].name)
   generalize fs[k].name = nm at *
   generalize fs[k].caps = cp at *
   generalize fs[k].res = rs' at *
   generalize fs[k].locals = lc at *
   obtain ⟨pa,pc,rfl⟩:=hpv.1.shape
   obtain ⟨ka,kc,rfl⟩:=hkv.shape
   clear hcell hpv hkv
   have hIt:∀ v,Calls Tryz.prog 178 #[.int .i64 (k:Int)] v fun e w'=>e = .returned (.string (str (numO k))) ∧ w' = v:=Tryz.strconv_Itoa_small k (by omega)
   have hba:Below wr.heap.size wr (wr.alloc (.cells #[.string (str nm),.slice pa fs[k].params.length pc,.int .i64 cp,.string (str rs'),.int .i64 lc,.slice ka fs[k].code.length kc] 52)):=(Below.refl _ _).alloc (Nat.le_refl _) _
   have hb2:=below_trans hbl hba
   have he:=eq_is (numO k) t
   generalize numO k = nk at *
   by_cases hn:nk = t
   ·rw [if_pos hn] at hat
    rw [decide_eq_true hn] at he
    have HR:Hid (unnamedO fs t = (str nm).toList.isEmpty):=by rw [hid_iff, ← HV.out,hq.out,hat,HN.out]
    clear hq hn hat
    go_wp2_with (go_at_call 178; refine (hIt _).mono ?_; rintro e w3 ⟨rfl,hw3⟩; obtain rfl:=hw3.symm)
    go_ret
    exact ⟨(by rw [HR.out]; first | done | rfl),hb2⟩
   ·rw [if_neg hn] at hat
    rw [decide_eq_false hn] at he
    have HQ:Hid (unF fs t 0 fs.length = unF fs t (k + 1) (fs.length - (k + 1))):=by rw [hid_iff,hq.out,hat]
    clear hq hn hat
    go_wp2_with (go_at_call 178; refine (hIt _).mono ?_; rintro e w3 ⟨rfl,hw3⟩; obtain rfl:=hw3.symm)
    go_roundg (fs.length - (k + 1))
    case measure=>omega
    case rel=>exact ⟨k + 1,by omega,by go_num,HQ,hb2⟩
  ·have hki:¬ (k:Int) < (fs.length:Int):=by omega
   have HR:Hid (unnamedO fs t = false):=by rw [hid_iff, ← HV.out,hq.out,show fs.length - k = 0 from by omega]; rfl
   clear hq
   go_wp2
   go_ret
   exact ⟨(by rw [HR.out]; first | done | rfl),hbl⟩
end Go.Proofs.YtiiepfplommmfaaGreatDoor

namespace Go.Proofs.YtiiepfplommmfaaGreatDoor
open Go.RowKit

theorem four4 {w:World} {b:Nat} {z0 z1 z2 z3:Value} {e:TypeId} (h:w.heap[b]? = some (.cells #[z0,z1,z2,z3] e (0,0))):w.cell? ⟨b,0,none⟩ = some z0 ∧ w.cell? ⟨b,1,none⟩ = some z1 ∧ w.cell? ⟨b,2,none⟩ = some z2 ∧ w.cell? ⟨b,3,none⟩ = some z3 ∧ w.frozen? ⟨b,0,none⟩ = false ∧ w.frozen? ⟨b,1,none⟩ = false ∧ w.frozen? ⟨b,2,none⟩ = false ∧ w.frozen? ⟨b,3,none⟩ = false:=by
 refine ⟨?_,?_,?_,?_,frozen_of_row w b 0 _ e h,frozen_of_row w b 1 _ e h,frozen_of_row w b 2 _ e h,frozen_of_row w b 3 _ e h⟩ <;> rw [cell_of_row w b _ _ e (0,0) h] <;> rfl
theorem box4_set {w:World} {b:Nat} {z0 z1 z2 z3:Value} {e:TypeId} (h:w.heap[b]? = some (.cells #[z0,z1,z2,z3] e (0,0))) (a0 a1 a2 a3:Value):((((w.setCell ⟨b,0,none⟩ a0).setCell ⟨b,1,none⟩ a1).setCell ⟨b,2,none⟩ a2).setCell ⟨b,3,none⟩ a3).heap[b]? = some (.cells #[a0,a1,a2,a3] e (0,0)) :=
 heap_setCell_same _ _ 3 _ e a3 (heap_setCell_same _ _ 2 _ e a2 (heap_setCell_same _ _ 1 _ e a1 (heap_setCell_same _ _ 0 _ e a0 h)))
theorem box4_below {B:Nat} {w w':World} (h:Below B w w') {b:Nat} (hb:B ≤ b) (a0 a1 a2 a3:Value):Below B w ((((w'.setCell ⟨b,0,none⟩ a0).setCell ⟨b,1,none⟩ a1).setCell ⟨b,2,none⟩ a2).setCell ⟨b,3,none⟩ a3) :=
 (((h.setCell (p:=⟨b,0,none⟩) hb _).setCell (p:=⟨b,1,none⟩) hb _).setCell (p:=⟨b,2,none⟩) hb _).setCell (p:=⟨b,3,none⟩) hb _
theorem box4_block (w:World) (b k:Nat) (hk:k ≠ b) (a0 a1 a2 a3:Value):((((w.setCell ⟨b,0,none⟩ a0).setCell ⟨b,1,none⟩ a1).setCell ⟨b,2,none⟩ a2).setCell ⟨b,3,none⟩ a3).heap[k]? = w.heap[k]? :=
 (Below.heap_setCell _ ⟨b,3,none⟩ _ k hk).trans ((Below.heap_setCell _ ⟨b,2,none⟩ _ k hk).trans ((Below.heap_setCell _ ⟨b,1,none⟩ _ k hk).trans (Below.heap_setCell _ ⟨b,0,none⟩ _ k hk)))
theorem cs_more {n:Nat} {u u':World} {v:Value} {xs:List Cs} (h:CsR (fun g=>n ≤ g ∧ g < u.heap.size) u v xs) (hb:Below u.heap.size u u'):CsR (fun g=>n ≤ g ∧ g < u'.heap.size) u' v xs :=
 h.frame fun g hg=>⟨⟨hg.1,Nat.lt_of_lt_of_le hg.2 hb.size⟩,hb.block g hg.2⟩
set_option maxHeartbeats 2000000 in
set_option maxRecDepth 1000000 in
theorem copyItem (F : Nat → Prop) (x : It) (cv : Value) (w : World) (h : CsR F w cv x.cases) (hF : ∀ g, F g → g < w.heap.size) (hx : ItOk x) :
  Calls Tryz.prog 162 #[itv x cv] w fun e w'=>∃ cv',e = .returned (itv x cv') ∧ CsR (Fr w w') w' cv' x.cases ∧ Below w.heap.size w w':=by
 obtain ⟨kd,nm,ty,cs⟩:=x
 obtain ⟨ca,cc,rfl⟩:=h.shape
 obtain ⟨_,_,hn,ht,hcl,hco⟩:=hx
 unfold itv
 simp only at h hn ht hcl hco ⊢
 have hb0:Below w.heap.size w ((w.alloc (.cells #[.int .i64 kd,.string (str nm),.string (str ty),.slice ca cs.length cc] 77)).alloc (.cells #[.int .i64 0,.string ⟨#[]⟩,.string ⟨#[]⟩,.slice none 0 0] 77)):=((Below.refl _ _).alloc (Nat.le_refl _) _).alloc (by simp) _
 have hSz:∀ u,Below (w.heap.size + 2) ((w.alloc (.cells #[.int .i64 kd,.string (str nm),.string (str ty),.slice ca cs.length cc] 77)).alloc (.cells #[.int .i64 0,.string ⟨#[]⟩,.string ⟨#[]⟩,.slice none 0 0] 77)) u → w.heap.size + 2 ≤ u.heap.size:=fun u hu=>by have:=hu.size; simpa using this
 have hN:∀ u,Below (w.heap.size + 2) ((w.alloc (.cells #[.int .i64 kd,.string (str nm),.string (str ty),.slice ca cs.length cc] 77)).alloc (.cells #[.int .i64 0,.string ⟨#[]⟩,.string ⟨#[]⟩,.slice none 0 0] 77)) u → Below w.heap.size w u:=fun u hu=>hb0.trans (hu.mono (by omega))
 have hS:∀ u,Below (w.heap.size + 1) ((w.alloc (.cells #[.int .i64 kd,.string (str nm),.string (str ty),.slice ca cs.length cc] 77)).alloc (.cells #[.int .i64 0,.string ⟨#[]⟩,.string ⟨#[]⟩,.slice none 0 0] 77)) u → u.cell? ⟨w.heap.size,0,none⟩ = some (.int .i64 kd) ∧ u.cell? ⟨w.heap.size,1,none⟩ = some (.string (str nm)) ∧ u.cell? ⟨w.heap.size,2,none⟩ = some (.string (str ty)) ∧ u.cell? ⟨w.heap.size,3,none⟩ = some (.slice ca cs.length cc):=fun u hu=>by
  have k1:u.heap[w.heap.size]? = some (.cells #[.int .i64 kd,.string (str nm),.string (str ty),.slice ca cs.length cc] 77 (0,0)):=(hu.block _ (by omega)).trans ((Below.heap_alloc _ _ _ (by simp)).trans (World.alloc_heap_new w _))
  obtain ⟨c0,c1,c2,c3,_⟩:=four4 k1
  exact ⟨c0,c1,c2,c3⟩
 have hS2:∀ u,Below (w.heap.size + 2) ((w.alloc (.cells #[.int .i64 kd,.string (str nm),.string (str ty),.slice ca cs.length cc] 77)).alloc (.cells #[.int .i64 0,.string ⟨#[]⟩,.string ⟨#[]⟩,.slice none 0 0] 77)) u → u.cell? ⟨w.heap.size,0,none⟩ = some (.int .i64 kd) ∧ u.cell? ⟨w.heap.size,1,none⟩ = some (.string (str nm)) ∧ u.cell? ⟨w.heap.size,2,none⟩ = some (.string (str ty)) ∧ u.cell? ⟨w.heap.size,3,none⟩ = some (.slice ca cs.length cc):=fun u hu=>hS u (hu.mono (by omega))
 have hS4:∀ u a0 a1 a2 a3,Below (w.heap.size + 2) ((w.alloc (.cells #[.int .i64 kd,.string (str nm),.string (str ty),.slice ca cs.length cc] 77)).alloc (.cells #[.int .i64 0,.string ⟨#[]⟩,.string ⟨#[]⟩,.slice none 0 0] 77)) u → ((((u.setCell ⟨w.heap.size + 1,0,none⟩ a0).setCell ⟨w.heap.size + 1,1,none⟩ a1).setCell ⟨w.heap.size + 1,2,none⟩ a2).setCell ⟨w.heap.size + 1,3,none⟩ a3).cell? ⟨w.heap.size,0,none⟩ = some (.int .i64 kd) ∧ ((((u.setCell ⟨w.heap.size + 1,0,none⟩ a0).setCell ⟨w.heap.size + 1,1,none⟩ a1).setCell ⟨w.heap.size + 1,2,none⟩ a2).setCell ⟨w.heap.size + 1,3,none⟩ a3).cell? ⟨w.heap.size,1,none⟩ = some (.string (str nm)) ∧ ((((u.setCell ⟨w.heap.size + 1,0,none⟩ a0).setCell ⟨w.heap.size + 1,1,none⟩ a1).setCell ⟨w.heap.size + 1,2,none⟩ a2).setCell ⟨w.heap.size + 1,3,none⟩ a3).cell? ⟨w.heap.size,2,none⟩ = some (.string (str ty)) ∧ ((((u.setCell ⟨w.heap.size + 1,0,none⟩ a0).setCell ⟨w.heap.size + 1,1,none⟩ a1).setCell ⟨w.heap.size + 1,2,none⟩ a2).setCell ⟨w.heap.size + 1,3,none⟩ a3).cell? ⟨w.heap.size,3,none⟩ = some (.slice ca cs.length cc):=fun u a0 a1 a2 a3 hu=>hS _ (box4_below (hu.mono (by omega)) (by omega) _ _ _ _)
 have hR:∀ u,Below (w.heap.size + 2) ((w.alloc (.cells #[.int .i64 kd,.string (str nm),.string (str ty),.slice ca cs.length cc] 77)).alloc (.cells #[.int .i64 0,.string ⟨#[]⟩,.string ⟨#[]⟩,.slice none 0 0] 77)) u → u.heap[w.heap.size + 1]? = some (.cells #[.int .i64 0,.string ⟨#[]⟩,.string ⟨#[]⟩,.slice none 0 0] 77 (0,0)):=fun u hu=>(hu.block _ (by omega)).trans (by have:=World.alloc_heap_new (w.alloc (.cells #[.int .i64 kd,.string (str nm),.string (str ty),.slice ca cs.length cc] 77)) (.cells #[.int .i64 0,.string ⟨#[]⟩,.string ⟨#[]⟩,.slice none 0 0] 77); simpa using this)
 have hCC:∀ u,Below (w.heap.size + 2) ((w.alloc (.cells #[.int .i64 kd,.string (str nm),.string (str ty),.slice ca cs.length cc] 77)).alloc (.cells #[.int .i64 0,.string ⟨#[]⟩,.string ⟨#[]⟩,.slice none 0 0] 77)) u → Calls Tryz.prog 191 #[.slice ca cs.length cc] u fun e w'=>∃ v',e = .returned v' ∧ CsR (Fr u w') w' v' cs ∧ Below u.heap.size u w':=fun u hu =>
  copyCases F _ cs u (h.below (hN u hu) hF) (fun g hg=>by have:=hF g hg; have:=hSz u hu; omega) hcl hco
 have hnext:∀ u u',Below (w.heap.size + 2) ((w.alloc (.cells #[.int .i64 kd,.string (str nm),.string (str ty),.slice ca cs.length cc] 77)).alloc (.cells #[.int .i64 0,.string ⟨#[]⟩,.string ⟨#[]⟩,.slice none 0 0] 77)) u → Below u.heap.size u u' → Below (w.heap.size + 2) ((w.alloc (.cells #[.int .i64 kd,.string (str nm),.string (str ty),.slice ca cs.length cc] 77)).alloc (.cells #[.int .i64 0,.string ⟨#[]⟩,.string ⟨#[]⟩,.slice none 0 0] 77)) u':=fun u u' hu h=>hu.trans (h.mono (hSz u hu))
 have hCm:∀ u w' v',Below (w.heap.size + 2) ((w.alloc (.cells #[.int .i64 kd,.string (str nm),.string (str ty),.slice ca cs.length cc] 77)).alloc (.cells #[.int .i64 0,.string ⟨#[]⟩,.string ⟨#[]⟩,.slice none 0 0] 77)) u → CsR (Fr u w') w' v' cs → CsR (fun g=>w.heap.size + 2 ≤ g ∧ g < w'.heap.size) w' v' cs:=fun u w' v' hu ht=>ht.frame fun g hg=>⟨⟨by have:=hSz u hu; have:=hg.1; omega,hg.2⟩,rfl⟩
 have G0:Below (w.heap.size + 2) ((w.alloc (.cells #[.int .i64 kd,.string (str nm),.string (str ty),.slice ca cs.length cc] 77)).alloc (.cells #[.int .i64 0,.string ⟨#[]⟩,.string ⟨#[]⟩,.slice none 0 0] 77)) ((w.alloc (.cells #[.int .i64 kd,.string (str nm),.string (str ty),.slice ca cs.length cc] 77)).alloc (.cells #[.int .i64 0,.string ⟨#[]⟩,.string ⟨#[]⟩,.slice none 0 0] 77)).drew:=(Below.refl _ _).drew
 have G1:Below (w.heap.size + 2) ((w.alloc (.cells #[.int .i64 kd,.string (str nm),.string (str ty),.slice ca cs.length cc] 77)).alloc (.cells #[.int .i64 0,.string ⟨#[]⟩,.string ⟨#[]⟩,.slice none 0 0] 77)) ((w.alloc (.cells #[.int .i64 kd,.string (str nm),.string (str ty),.slice ca cs.length cc] 77)).alloc (.cells #[.int .i64 0,.string ⟨#[]⟩,.string ⟨#[]⟩,.slice none 0 0] 77)):=Below.refl _ _
 clear h hb0 hF hcl hco
 go_enter Tryz.func162,Tryz.ntmps162
 go_wp2_with fail
 generalize hW:((w.alloc (.cells #[.int .i64 kd,.string (str nm),.string (str ty),.slice ca cs.length cc] 77)).alloc (.cells #[.int .i64 0,.string ⟨#[]⟩,.string ⟨#[]⟩,.slice none 0 0] 77)) = W2 at *
 clear hW
 obtain ⟨d0,d1,d2,d3⟩:=hS2 _ G0
 have hr:=hR _ G0
 obtain ⟨r0,r1,r2,r3,rf0,rf1,rf2,rf3⟩:=four4 hr
 go_region_held3 (fun u=>u.cell? ⟨w.heap.size,0,none⟩ = some (.int .i64 kd) ∧ u.cell? ⟨w.heap.size,1,none⟩ = some (.string (str nm)) ∧ u.cell? ⟨w.heap.size,2,none⟩ = some (.string (str ty)) ∧ u.cell? ⟨w.heap.size,3,none⟩ = some (.slice ca cs.length cc)) (first | go_keep | exact hS2 _ (by assumption) | exact hS4 _ _ _ _ _ (by assumption)) (first
  | (go_at_call_of 46 (str nm); refine (sCloneT nm _ hn).mono ?_; rintro e wa ⟨rfl,hba⟩; have Ga:=hnext _ _ (by assumption) hba; obtain ⟨d0,d1,d2,d3⟩:=hS2 _ Ga; have hr:=hR _ Ga; obtain ⟨r0,r1,r2,r3,rf0,rf1,rf2,rf3⟩:=four4 hr; try (have hC5:=cs_more hC5 hba); clear hba)
  | (go_at_call_of 46 (str ty); refine (sCloneT ty _ ht).mono ?_; rintro e wb ⟨rfl,hbb⟩; have Gb:=hnext _ _ (by assumption) hbb; obtain ⟨d0,d1,d2,d3⟩:=hS2 _ Gb; have hr:=hR _ Gb; obtain ⟨r0,r1,r2,r3,rf0,rf1,rf2,rf3⟩:=four4 hr; try (have hC5:=cs_more hC5 hbb); clear hbb)
  | (go_at_call 191; refine (hCC _ (by assumption)).mono ?_; rintro e wc ⟨v5,rfl,hC4,hbc⟩; have hC5:=hCm _ _ _ (by assumption) hC4; obtain ⟨ga,gc,rfl⟩:=hC5.shape; have Gc:=hnext _ _ (by assumption) hbc; obtain ⟨d0,d1,d2,d3⟩:=hS2 _ Gc; have hr:=hR _ Gc; obtain ⟨r0,r1,r2,r3,rf0,rf1,rf2,rf3⟩:=four4 hr; clear hbc hC4))
 all_goals (
  go_wp2
  (try simp only [Exit.inBlock,Exit.then])
  refine bodyPost_ret (results_cell_row rfl _ _ (w.heap.size + 1) 77 _ (0,0) _ rfl (box4_set hr _ _ _ _) Tryz.underlying77 rfl sizeIt) rfl ?_
  refine ⟨.slice ga cs.length gc,rfl,hC5.frame fun g hg=>⟨⟨by have:=hg.1; omega,?_⟩,box4_block _ _ _ (by have:=hg.1; omega) _ _ _ _⟩,box4_below (hN _ (by assumption)) (by omega) _ _ _ _⟩
  have:=hg.2
  simpa using this)
end Go.Proofs.YtiiepfplommmfaaGreatDoor
