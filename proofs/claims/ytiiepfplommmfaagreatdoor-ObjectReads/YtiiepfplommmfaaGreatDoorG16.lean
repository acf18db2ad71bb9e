/-
  The books' own comparing, at what is the same: texts, cases, items, interfaces.
  And: The document's own Right of an interface: its walk. The document's own Right of an interface.
-/
import Derived.Deep.RegionHeld3
import Derived.Deep.QuietTactic
import Derived.BigQuiet
import Derived.Deep.LoopGhost
import Derived.Test.YtiiepfplommmfaaGreatDoorG04
import Derived.Test.YtiiepfplommmfaaGreatDoorG08
import Derived.Deep.CutRange
import Derived.Deep.CutBlock
import Derived.Deep.DeepCutAuto
import Derived.Test.YtiiepfplommmfaaGreatDoorG14
import Derived.Test.YtiiepfplommmfaaGreatDoorG15
import Derived.Test.YtiiepfplommmfaaGreatDoorG09
namespace Go.Proofs.YtiiepfplommmfaaGreatDoor
open Go.RowKit

theorem drewK (w:World) (a b:Nat):(w.drewN a).drewN b = w.drewN (a + b):=by simp [World.drewN,Nat.add_assoc]
theorem belowK (w:World) {H:Nat} (n:Nat):Below H w (w.drewN n):=⟨rfl,rfl,rfl,Nat.le_refl _,fun _ _=>rfl⟩
set_option maxHeartbeats 1000000 in
set_option maxRecDepth 1000000 in
theorem keepTexts (F G : Nat → Prop) (v1 v2 : Value) (xs : List (List UInt8)) (w : World) (h1 : TxR F w v1 xs) (h2 : TxR G w v2 xs) (hl : xs.length ≤ 8796093022208) :
  Calls Tryz.prog 64 #[v1,v2] w fun e w'=>e = .returned (.bool true) ∧ ∃ n,w' = w.drewN n:=by
 obtain ⟨a1,c1,rfl⟩:=h1.shape
 obtain ⟨a2,c2,rfl⟩:=h2.shape
 go_enter Tryz.func64,Tryz.ntmps64
 go_wp2
 go_loopg [5] xs.length (fun g i wr=>∃ (k nn:Nat),g + k = xs.length ∧ i = .int .i64 (k:Int) ∧ wr = w.drewN nn)
 case atStart=>exact ⟨0,0,by omega,rfl,rfl⟩
 case round =>
  obtain ⟨k,nn,hg,rfl,rfl⟩:=hrel
  by_cases hk:k < xs.length
  ·obtain ⟨g1,o1,d1,e1,_,q1⟩:=h1.at k hk
   simp only [Value.slice.injEq,true_and] at e1
   obtain ⟨rfl,rfl⟩:=e1
   obtain ⟨g2,o2,d2,e2,_,q2⟩:=h2.at k hk
   simp only [Value.slice.injEq,true_and] at e2
   obtain ⟨rfl,rfl⟩:=e2
   have hki:(k:Int) < (xs.length:Int):=by omega
   clear h1 h2
   generalize xs[k] = x at *
   have hne:((str x).toList != (str x).toList) = false:=by simp
   go_wp2_with fail
   go_quiet (fail)
   go_wp2
   go_roundg (xs.length - (k + 1))
   case measure=>omega
   case rel=>exact ⟨k + 1,_,by omega,by go_num,by first | rfl | exact drewK _ _ _⟩
  ·have hki:¬ (k:Int) < (xs.length:Int):=by omega
   go_wp2
   go_ret
   exact ⟨rfl,nn,rfl⟩
theorem quietK {P:Program} {f:FuncId} {args:Array Value} {w:World} {n x:Nat} {v:Value} (h:Calls P f args (w.drewN (n + x)) fun e w'=>e = .returned v ∧ ∃ m,w' = (w.drewN (n + x)).drewN m):Calls P f args (w.drewN (n + x)) fun e w''=>e = .returned v ∧ ∃ m,w'' = w.drewN m:=Calls.quiet_of h
set_option maxHeartbeats 2000000 in
set_option maxRecDepth 1000000 in
theorem keepCases (F G : Nat → Prop) (v1 v2 : Value) (cs : List Cs) (w : World) (h1 : CsR F w v1 cs) (h2 : CsR G w v2 cs) (hl : cs.length ≤ 3518437208883) (hok : ∀ c ∈ cs, CsOk c) :
  Calls Tryz.prog 127 #[v1,v2] w fun e w'=>e = .returned (.bool true) ∧ ∃ n,w' = w.drewN n:=by
 obtain ⟨a1,c1,rfl⟩:=h1.shape
 obtain ⟨a2,c2,rfl⟩:=h2.shape
 go_enter Tryz.func127,Tryz.ntmps127
 go_wp2
 go_loopg [5] cs.length (fun g i wr=>∃ (k nn:Nat),g + k = cs.length ∧ i = .int .i64 (k:Int) ∧ wr = w.drewN nn)
 case atStart=>exact ⟨0,0,by omega,rfl,rfl⟩
 case round =>
  obtain ⟨k,nn,hg,rfl,hw⟩:=hrel
  have HW:=hidden hw
  have h1:CsR F wr (.slice a1 cs.length c1) cs:=by rw [hw]; exact h1
  have h2:CsR G wr (.slice a2 cs.length c2) cs:=by rw [hw]; exact h2
  clear hw
  by_cases hk:k < cs.length
  ·obtain ⟨g1,o1,d1,f1,e1,_,_,t1,q1,r1⟩:=h1.at k hk
   simp only [Value.slice.injEq,true_and] at e1
   obtain ⟨rfl,rfl⟩:=e1
   obtain ⟨g2,o2,d2,f2,e2,_,_,t2,q2,r2⟩:=h2.at k hk
   simp only [Value.slice.injEq,true_and] at e2
   obtain ⟨rfl,rfl⟩:=e2
   have hki:(k:Int) < (cs.length:Int):=by omega
   have hc:=hok _ (List.getElem_mem hk)
   clear h1 h2 hok
   generalize cs[k] = c at *
   obtain ⟨n,fs⟩:=c
   simp only at t1 t2 q1 q2 r1 r2
   have hT:∀ n:Nat,Calls Tryz.prog 64 #[f1,f2] (wr.drewN n) fun e w'=>e = .returned (.bool true) ∧ ∃ m,w' = (wr.drewN n).drewN m:=fun n=>keepTexts F G f1 f2 fs (wr.drewN n) t1 t2 hc.2.1
   obtain ⟨fa1,fc1,rfl⟩:=t1.shape
   obtain ⟨fa2,fc2,rfl⟩:=t2.shape
   have hne:((str n).toList != (str n).toList) = false:=by simp
   clear t1 t2 hc
   go_wp2_with fail
   go_quiet ((go_at_call 64; first | exact quietK (hT _) | exact Calls.quiet_of (hT _)))
   go_wp2
   go_roundg (cs.length - (k + 1))
   case measure=>omega
   case rel=>exact ⟨k + 1,nn + _,by omega,by go_num,by rw [HW.out]; exact drewK _ _ _⟩
  ·have hki:¬ (k:Int) < (cs.length:Int):=by omega
   go_wp2
   go_ret
   exact ⟨rfl,nn,HW.out⟩
set_option maxHeartbeats 1000000 in
set_option maxRecDepth 1000000 in
theorem keepItem (F G : Nat → Prop) (x : It) (v1 v2 : Value) (w : World) (h1 : CsR F w v1 x.cases) (h2 : CsR G w v2 x.cases) (hF : ∀ g, F g → g < w.heap.size) (hG : ∀ g, G g → g < w.heap.size) (hok : ItOk x) :
  Calls Tryz.prog 67 #[itv x v1,itv x v2] w fun e w'=>e = .returned (.bool true) ∧ Below w.heap.size w w':=by
 obtain ⟨a1,c1,rfl⟩:=h1.shape
 obtain ⟨a2,c2,rfl⟩:=h2.shape
 obtain ⟨kd,nm,ty,cs⟩:=x
 unfold itv
 simp only at *
 have hb:Below w.heap.size w ((w.alloc (.cells #[.int .i64 kd,.string (str nm),.string (str ty),.slice a1 cs.length c1] 77)).alloc (.cells #[.int .i64 kd,.string (str nm),.string (str ty),.slice a2 cs.length c2] 77)):=((Below.refl _ _).alloc (Nat.le_refl _) _).alloc (by simp) _
 have hC:=keepCases F G _ _ cs _ (h1.below hb hF) (h2.below hb hG) hok.2.2.2.2.1 hok.2.2.2.2.2
 have hn1:((str nm).toList == (str nm).toList) = true:=by simp
 have hn2:((str ty).toList == (str ty).toList) = true:=by simp
 clear h1 h2
 go_enter Tryz.func67,Tryz.ntmps67
 go_wp2_with fail
 refine hC.mono ?_
 rintro e w1 ⟨rfl,n,rfl⟩
 go_wp2
 go_ret
 exact ⟨rfl,hb.trans (belowK _ _)⟩
set_option maxHeartbeats 4000000 in
set_option maxRecDepth 1000000 in
theorem keepItems (F G : Nat → Prop) (v1 v2 : Value) (l : List It) (w : World) (h1 : ItR F w v1 l) (h2 : ItR G w v2 l) (hF : ∀ g, F g → g < w.heap.size) (hG : ∀ g, G g → g < w.heap.size) (hl : l.length ≤ 2199023255552) (hok : ∀ x ∈ l, ItOk x) :
  Calls Tryz.prog 53 #[v1,v2] w fun e w'=>e = .returned (.bool true) ∧ Below w.heap.size w w':=by
 obtain ⟨a1,c1,rfl⟩:=h1.shape
 obtain ⟨a2,c2,rfl⟩:=h2.shape
 have hh1:=hidden h1
 have hh2:=hidden h2
 clear h1 h2
 go_enter Tryz.func53,Tryz.ntmps53
 go_wp2
 go_loopg [5] l.length (fun g i wr=>∃ (k:Nat),g + k = l.length ∧ i = .int .i64 (k:Int) ∧ Below w.heap.size w wr)
 case atStart=>exact ⟨0,by omega,rfl,Below.refl _ _⟩
 case round =>
  obtain ⟨k,hg,rfl,hbr⟩:=hrel
  have hsr:=hbr.size
  by_cases hk:k < l.length
  ·have i1:=hh1.out.below hbr hF
   have i2:=hh2.out.below hbr hG
   obtain ⟨g1,o1,d1,cv1,e1,f1,t1,q10,q11,q12,q13⟩:=i1.at k hk
   simp only [Value.slice.injEq,true_and] at e1
   obtain ⟨rfl,rfl⟩:=e1
   obtain ⟨g2,o2,d2,cv2,e2,f2,t2,q20,q21,q22,q23⟩:=i2.at k hk
   simp only [Value.slice.injEq,true_and] at e2
   obtain ⟨rfl,rfl⟩:=e2
   have hki:(k:Int) < (l.length:Int):=by omega
   have hx:=hok _ (List.getElem_mem hk)
   have hg1:g1 < wr.heap.size:=Nat.lt_of_lt_of_le (hF g1 f1) hsr
   have hg2:g2 < wr.heap.size:=Nat.lt_of_lt_of_le (hG g2 f2) hsr
   clear hh1 hh2 i1 i2 hok
   generalize l[k] = x at *
   have hIt:∀ u,Below wr.heap.size wr u → Calls Tryz.prog 67 #[itv x cv1,itv x cv2] u fun e w'=>e = .returned (.bool true) ∧ Below u.heap.size u w':=fun u hu =>
    keepItem F G x cv1 cv2 u (t1.below hu (fun g hg=>Nat.lt_of_lt_of_le (hF g hg) hsr)) (t2.below hu (fun g hg=>Nat.lt_of_lt_of_le (hG g hg) hsr)) (fun g hg=>Nat.lt_of_lt_of_le (hF g hg) (Nat.le_trans hsr hu.size)) (fun g hg=>Nat.lt_of_lt_of_le (hG g hg) (Nat.le_trans hsr hu.size)) hx
   obtain ⟨ca1,cc1,rfl⟩:=t1.shape
   obtain ⟨ca2,cc2,rfl⟩:=t2.shape
   obtain ⟨kd,nm,ty,cs⟩:=x
   unfold itv at hIt
   simp only at *
   have hS:∀ u,Below wr.heap.size wr u → u.cell? ⟨g1,o1 + k * 4,none⟩ = some (.int .i64 kd) ∧ u.cell? ⟨g1,o1 + k * 4 + 1,none⟩ = some (.string (str nm)) ∧ u.cell? ⟨g1,o1 + k * 4 + 2,none⟩ = some (.string (str ty)) ∧ u.cell? ⟨g1,o1 + k * 4 + 3,none⟩ = some (.slice ca1 cs.length cc1) ∧ u.cell? ⟨g2,o2 + k * 4,none⟩ = some (.int .i64 kd) ∧ u.cell? ⟨g2,o2 + k * 4 + 1,none⟩ = some (.string (str nm)) ∧ u.cell? ⟨g2,o2 + k * 4 + 2,none⟩ = some (.string (str ty)) ∧ u.cell? ⟨g2,o2 + k * 4 + 3,none⟩ = some (.slice ca2 cs.length cc2):=fun u hu=>by
    have b1:=hu.block g1 hg1
    have b2:=hu.block g2 hg2
    exact ⟨(World.cell?_of_block (a:=⟨g1,o1 + k * 4,none⟩) b1).trans q10,(World.cell?_of_block (a:=⟨g1,o1 + k * 4 + 1,none⟩) b1).trans q11,(World.cell?_of_block (a:=⟨g1,o1 + k * 4 + 2,none⟩) b1).trans q12,(World.cell?_of_block (a:=⟨g1,o1 + k * 4 + 3,none⟩) b1).trans q13,(World.cell?_of_block (a:=⟨g2,o2 + k * 4,none⟩) b2).trans q20,(World.cell?_of_block (a:=⟨g2,o2 + k * 4 + 1,none⟩) b2).trans q21,(World.cell?_of_block (a:=⟨g2,o2 + k * 4 + 2,none⟩) b2).trans q22,(World.cell?_of_block (a:=⟨g2,o2 + k * 4 + 3,none⟩) b2).trans q23⟩
   have G0:Below wr.heap.size wr wr.drew:=(Below.refl _ _).drew
   clear t1 t2 hx f1 f2
   go_wp2_with fail
   go_region_held3 (fun u=>u.cell? ⟨g1,o1 + k * 4,none⟩ = some (.int .i64 kd) ∧ u.cell? ⟨g1,o1 + k * 4 + 1,none⟩ = some (.string (str nm)) ∧ u.cell? ⟨g1,o1 + k * 4 + 2,none⟩ = some (.string (str ty)) ∧ u.cell? ⟨g1,o1 + k * 4 + 3,none⟩ = some (.slice ca1 cs.length cc1) ∧ u.cell? ⟨g2,o2 + k * 4,none⟩ = some (.int .i64 kd) ∧ u.cell? ⟨g2,o2 + k * 4 + 1,none⟩ = some (.string (str nm)) ∧ u.cell? ⟨g2,o2 + k * 4 + 2,none⟩ = some (.string (str ty)) ∧ u.cell? ⟨g2,o2 + k * 4 + 3,none⟩ = some (.slice ca2 cs.length cc2)) (first | go_keep | exact hS _ (by assumption)) (first | (go_at_call 67; refine (hIt _ (by assumption)).mono ?_; rintro e w9 ⟨rfl,hb9⟩; have G9:=G0.trans (hb9.mono (by first | exact Nat.le_refl _ | exact G0.size))))
   all_goals (
    have hb10:Below w.heap.size w w9:=hbr.trans (G9.mono hsr)
    clear hS hIt
    go_wp2
    go_roundg (l.length - (k + 1))
    case measure=>omega
    case rel=>exact ⟨k + 1,by omega,by go_num,by first | exact hb10 | exact hb10.drew⟩)
  ·have hki:¬ (k:Int) < (l.length:Int):=by omega
   go_wp2
   go_ret
   exact ⟨rfl,hbr⟩
end Go.Proofs.YtiiepfplommmfaaGreatDoor

namespace Go.Proofs.YtiiepfplommmfaaGreatDoor
open Go.RowKit

def casesW (cs:List Cs):Nat:=if cs.length = 0 ∨ 6 < cs.length then 12 else casesE [] cs
theorem any_next (cs:List Cs) (m:Nat) (n:List UInt8) (h:m < cs.length):(cs.take (m + 1)).any (fun d=>decide (d.1 = n)) = ((cs.take m).any (fun d=>decide (d.1 = n)) || decide (cs[m].1 = n)):=by
 rw [List.take_succ_eq_append_getElem h,List.any_append]
 simp
theorem allN7 (fs:List (List UInt8)) (m:Nat) (h:m < fs.length):(fs.take (m + 1)).all rightR = ((fs.take m).all rightR && rightR fs[m]):=by
 rw [List.take_succ_eq_append_getElem h,List.all_append]
 simp
theorem all_bad (fs:List (List UInt8)) (m:Nat) (h:m < fs.length) (hb:rightR fs[m] = false):fs.all rightR = false:=by
 rw [List.all_eq_false]
 exact ⟨_,List.getElem_mem h,by simp [hb]⟩
theorem any_bad (cs:List Cs) (k m:Nat) (n:List UInt8) (h:m < cs.length) (hk:m < k) (hb:cs[m].1 = n):(cs.take k).any (fun d=>decide (d.1 = n)) = true:=by
 rw [List.any_eq_true]
 refine ⟨cs[m],?_,by simp [hb]⟩
 rw [List.mem_take_iff_getElem]
 exact ⟨m,by omega,rfl⟩
def NumQ (n:Nat) (w:World) (e:Ending) (w':World):Prop:=e = .returned (.int .i64 (n:Int)) ∧ ∃ k,w' = w.drewN k
set_option maxHeartbeats 4000000 in
set_option maxRecDepth 1000000 in
theorem refCasesW (F:Nat → Prop) (v:Value) (cs:List Cs) (w:World) (h:CsR F w v cs) (hok:∀ c ∈ cs,CsOk c) (hcl:cs.length ≤ 3518437208883):Calls Tryz.prog 139 #[v] w (NumQ (casesW cs) w):=by
 obtain ⟨va,vc,rfl⟩:=h.shape
 by_cases h0:cs.length = 0
 ·have HW:Hid (casesW cs = 12):=by rw [hid_iff,casesW,if_pos (.inl h0)]
  have h0':cs = []:=List.eq_nil_of_length_eq_zero h0
  subst h0'
  clear h h0 hok
  go_enter Tryz.func139,Tryz.ntmps139
  go_wp2
  go_ret
  exact ⟨by rw [HW.out]; rfl,0,rfl⟩
 have h0i:((cs.length:Int) == 0) = false:=by rw [beq_eq_false_iff_ne]; omega
 have h0j:¬ (cs = []):=fun e=>h0 (by rw [e]; rfl)
 by_cases h6:6 < cs.length
 ·have HW:Hid (casesW cs = 12):=by rw [hid_iff,casesW,if_pos (.inr h6)]
  have h6i:(6:Int) < (cs.length:Int):=by omega
  clear h hok
  go_enter Tryz.func139,Tryz.ntmps139
  go_wp2
  go_ret
  exact ⟨by rw [HW.out]; rfl,0,rfl⟩
 have HW:Hid (casesW cs = casesE [] cs):=by rw [hid_iff,casesW,if_neg (by omega)]
 have h6i:¬ (6:Int) < (cs.length:Int):=by omega
 go_enter Tryz.func139,Tryz.ntmps139
 go_wp2
 go_loopg [3] cs.length (fun g i wr=>∃ (k nn:Nat),g + k = cs.length ∧ i = .int .i64 (k:Int) ∧ Hid (casesE [] cs = casesE (cs.take k) (cs.drop k)) ∧ wr = w.drewN nn)
 case atStart=>exact ⟨0,0,by omega,rfl,by simp [Hid],rfl⟩
 case round =>
  obtain ⟨k,nn,hg,rfl,hq,hw⟩:=hrel
  have HWW:=hidden hw
  have hr:CsR F wr (.slice va cs.length vc) cs:=by rw [hw]; exact h
  clear hw
  by_cases hk:k < cs.length
  ·obtain ⟨g1,o1,d1,f1,e1,_,_,t1,q1,r1⟩:=hr.at k hk
   simp only [Value.slice.injEq,true_and] at e1
   obtain ⟨rfl,rfl⟩:=e1
   have hki:(k:Int) < (cs.length:Int):=by omega
   have hc:=hok _ (List.getElem_mem hk)
   have hst:=casesE_at cs k hk
   obtain ⟨fa,fc,rfl⟩:=t1.shape
   have hBig:=fun u=>refBig (str cs[k].1) u (by rw [str_size]; have:=hc.1; unfold Tk at this; omega)
   rw [str_data] at hBig
   by_cases hbig:bigR cs[k].1 = true
   ·rw [hbig] at hBig
    go_wp2_with (go_at_call 85; refine (hBig _).mono ?_; rintro e u ⟨rfl,hu⟩; obtain rfl:=hu.symm)
    go_loopg [4] k (fun g i wq=>∃ (m mm:Nat),g + m = k ∧ i = .int .i64 (m:Int) ∧ Hid ((cs.take m).any (fun d=>decide (d.1 = cs[k].1)) = false) ∧ wq = wr.drewN mm)
    case atStart=>exact ⟨0,0,by omega,rfl,rfl,rfl⟩
    case round =>
     obtain ⟨m,mm,hgm,rfl,hqm,hwm⟩:=hrel
     rename World=>wm
     have HWM:=hidden hwm
     have hrm:CsR F wm (.slice (some ⟨g1,o1,none⟩) cs.length vc) cs:=by rw [hwm]; exact hr
     have q1m:wm.cell? ⟨g1,o1 + k * 2,none⟩ = some (.string (str cs[k].1)):=by rw [hwm]; exact q1
     have r1m:wm.cell? ⟨g1,o1 + k * 2 + 1,none⟩ = some (.slice fa cs[k].2.length fc):=by rw [hwm]; exact r1
     have t1m:TxR F wm (.slice fa cs[k].2.length fc) cs[k].2:=by rw [hwm]; exact t1
     clear hwm
     by_cases hm:m < k
     ·obtain ⟨g2,o2,d2,f2,e2,_,_,_,q2,_⟩:=hrm.at m (by omega)
      simp only [Value.slice.injEq,Option.some.injEq,Addr.mk.injEq,and_true,true_and] at e2
      obtain ⟨⟨rfl,rfl⟩,rfl⟩:=e2
      have hmi:(m:Int) < (k:Int):=by omega
      have hmc:(m:Int) < (cs.length:Int):=by omega
      have HN:=hidden (any_next cs m cs[k].1 (by omega))
      have HB:=hidden (any_bad cs k m cs[k].1 (by omega) hm)
      have he:=eq_is cs[m].1 cs[k].1
      have HS:=hidden hst
      clear hst hBig
      by_cases heq:cs[m].1 = cs[k].1
      ·have HV:Hid (casesE [] cs = 13):=by
        rw [hid_iff,hq.out,HS.out]
        have:caseE (cs.take k) cs[k] = 13:=by
         unfold caseE
         rw [if_neg (by rw [hbig]; simp),if_pos (HB.out heq)]
        rw [this,if_neg (by decide)]
       rw [decide_eq_true heq] at he
       clear HN HB hqm hq HS heq hbig
       generalize cs[m].1 = nm at *
       generalize cs[k].1 = nk at *
       go_wp2_with fail
       go_quiet (fail)
       go_wp2
       go_ret
       exact ⟨by rw [HW.out,HV.out]; rfl,_,by rw [HWM.out,HWW.out,drewK,drewK]⟩
      ·have HV:Hid ((cs.take (m + 1)).any (fun d=>decide (d.1 = cs[k].1)) = false):=by
        rw [hid_iff,HN.out,hqm.out,decide_eq_false heq]
        rfl
       rw [decide_eq_false heq] at he
       clear HN HB heq
       generalize cs[m].1 = nm at *
       go_wp2_with fail
       go_quiet (fail)
       go_wp2
       go_roundg (k - (m + 1))
       case measure=>omega
       case rel=>exact ⟨m + 1,mm + _,by omega,by go_num,HV,by rw [HWM.out]; exact drewK _ _ _⟩
     ·have hmi:¬ (m:Int) < (k:Int):=by omega
      have hmk:m = k:=by omega
      have HA:=hqm.out
      rw [hmk] at HA
      have hcE:caseE (cs.take k) cs[k] = if 4 < cs[k].2.length then 19 else if cs[k].2.all rightR = true then 0 else 17:=by
       unfold caseE
       rw [if_neg (by rw [hbig]; simp),if_neg (by rw [HA]; simp)]
      have HS:=hidden hst
      have HC:=hidden hcE
      clear hst hBig hcE HA hqm hmk
      by_cases h4:4 < cs[k].2.length
      ·have h4i:(4:Int) < (cs[k].2.length:Int):=by omega
       have HV:Hid (casesE [] cs = 19):=by
        rw [hid_iff,hq.out,HS.out,HC.out,if_pos h4,if_neg (by decide)]
       clear HS HC hq hbig
       go_wp2
       go_ret
       exact ⟨by rw [HW.out,HV.out]; rfl,_,by rw [HWM.out,HWW.out,drewK]⟩
      ·have h4i:¬ (4:Int) < (cs[k].2.length:Int):=by omega
       have hfr:∀ f ∈ cs[k].2,Tk f:=hc.2.2
       go_wp2
       go_loopg [5] cs[k].2.length (fun g i wq=>∃ (j:Nat),g + j = cs[k].2.length ∧ i = .int .i64 (j:Int) ∧ Hid ((cs[k].2.take j).all rightR = true) ∧ wq = wm)
       case atStart=>exact ⟨0,by omega,rfl,rfl,rfl⟩
       case round =>
        obtain ⟨j,hgj,rfl,hqj,rfl⟩:=hrel
        by_cases hj:j < cs[k].2.length
        ·obtain ⟨g3,o3,d3,e3,_,q3⟩:=t1m.at j hj
         simp only [Value.slice.injEq,true_and] at e3
         obtain ⟨rfl,rfl⟩:=e3
         have hji:(j:Int) < (cs[k].2.length:Int):=by omega
         have hR:=fun u=>refRight (str cs[k].2[j]) u
         rw [str_data] at hR
         have HN:=hidden (allN7 cs[k].2 j hj)
         have HB:=hidden (all_bad cs[k].2 j hj)
         by_cases hrt:rightR cs[k].2[j] = true
         ·have HV:Hid ((cs[k].2.take (j + 1)).all rightR = true):=by rw [hid_iff,HN.out,hqj.out,hrt]; rfl
          rw [hrt] at hR
          clear HN HB hqj hrt
          generalize cs[k].2[j] = fx at *
          go_wp2_with (go_at_call 88; refine (hR _).mono ?_; rintro e u ⟨rfl,hu⟩; obtain rfl:=hu.symm)
          go_roundg (cs[k].2.length - (j + 1))
          case measure=>omega
          case rel=>exact ⟨j + 1,by omega,by go_num,HV,rfl⟩
         ·have hrf:rightR cs[k].2[j] = false:=by simpa using hrt
          have HV:Hid (casesE [] cs = 17):=by
           rw [hid_iff,hq.out,HS.out,HC.out,if_neg h4,HB.out hrf,if_neg (by simp),if_neg (by decide)]
          rw [hrf] at hR
          clear HN HB hqj hrt hrf HS HC hq
          generalize cs[k].2[j] = fx at *
          go_wp2_with (go_at_call 88; refine (hR _).mono ?_; rintro e u ⟨rfl,hu⟩; obtain rfl:=hu.symm)
          go_ret
          exact ⟨by rw [HW.out,HV.out]; rfl,_,by rw [HWM.out,HWW.out,drewK]⟩
        ·have hji:¬ (j:Int) < (cs[k].2.length:Int):=by omega
         have HV:Hid (casesE [] cs = casesE (cs.take (k + 1)) (cs.drop (k + 1))):=by
          have ha:=hqj.out
          rw [List.take_of_length_le (by omega)] at ha
          rw [hid_iff,hq.out,HS.out,HC.out,if_neg h4,if_pos ha,if_pos rfl]
         clear HS HC hq hqj
         go_wp2
         go_roundg (cs.length - (k + 1))
         case measure=>omega
         case rel=>exact ⟨k + 1,nn + mm,by omega,by go_num,HV,by rw [HWM.out,HWW.out]; exact drewK _ _ _⟩
   ·have hbf:bigR cs[k].1 = false:=by simpa using hbig
    have HV:Hid (casesE [] cs = 13):=by
     rw [hid_iff,hq.out,hst]
     have:caseE (cs.take k) cs[k] = 13:=by
      unfold caseE
      rw [if_pos hbf]
     rw [this,if_neg (by decide)]
    rw [hbf] at hBig
    clear hst hq hbig hbf
    go_wp2_with (go_at_call 85; refine (hBig _).mono ?_; rintro e u ⟨rfl,hu⟩; obtain rfl:=hu.symm)
    go_ret
    exact ⟨by rw [HW.out,HV.out]; rfl,nn,HWW.out⟩
  ·have hki:¬ (k:Int) < (cs.length:Int):=by omega
   have HV:Hid (casesE [] cs = 0):=by
    rw [hid_iff,hq.out,List.drop_of_length_le (by omega)]
    rfl
   clear hq
   go_wp2
   go_ret
   exact ⟨by rw [HW.out,HV.out]; rfl,nn,HWW.out⟩
end Go.Proofs.YtiiepfplommmfaaGreatDoor

namespace Go.Proofs.YtiiepfplommmfaaGreatDoor
open Go.RowKit

theorem kind_lt {kd:Int} (h:kd < 1):kindE kd = false:=by
 unfold kindE
 rw [decide_eq_false (by omega),decide_eq_false (by omega),decide_eq_false (by omega)]
 rfl
theorem kind_gt {kd:Int} (h:3 < kd):kindE kd = false:=by
 unfold kindE
 rw [decide_eq_false (by omega),decide_eq_false (by omega),decide_eq_false (by omega)]
 rfl
theorem kind_in {kd:Int} (h1:¬ kd < 1) (h2:¬ 3 < kd):kindE kd = true:=by
 unfold kindE
 simp only [Bool.or_eq_true,decide_eq_true_eq]
 omega
theorem typeW (ty:List UInt8) (cs:List Cs):(if ty ≠ [] then 12 else if cs.length = 0 then 12 else if 6 < cs.length then 12 else casesE [] cs) = if ty ≠ [] then 12 else casesW cs:=by
 unfold casesW
 split
 ·rfl
 ·by_cases h0:cs.length = 0
  ·rw [if_pos h0,if_pos (.inl h0)]
  ·by_cases h6:6 < cs.length
   ·rw [if_neg h0,if_pos h6,if_pos (.inr h6)]
   ·rw [if_neg h0,if_neg h6,if_neg (by omega)]
set_option maxHeartbeats 2000000 in
set_option maxRecDepth 1000000 in
theorem refRightW (F:Nat → Prop) (m:List UInt8) (v:Value) (l:List It) (w:World) (h:ItR F w v l) (hF:∀ g,F g → g < w.heap.size) (hm:Tk m) (hok:∀ x ∈ l,ItOk x):Calls Tryz.prog 86 #[.agg #[.string (str m),v]] w (NumB (rightI m l) w):=by
 obtain ⟨va,vc,rfl⟩:=h.shape
 have hb0:Below w.heap.size w (w.alloc (.cells #[.string (str m),.slice va l.length vc] 56)):=(Below.refl _ _).alloc (Nat.le_refl _) _
 have hN:=heap_alloc_new w (.cells #[.string (str m),.slice va l.length vc] 56)
 have HI:Hid (ItR F (w.alloc (.cells #[.string (str m),.slice va l.length vc] 56)) (.slice va l.length vc) l):=h.below hb0 hF
 have hF0:∀ g,F g → g < (w.alloc (.cells #[.string (str m),.slice va l.length vc] 56)).heap.size:=fun g hg=>by have:=hF g hg; simp; omega
 have hs0:w.heap.size < (w.alloc (.cells #[.string (str m),.slice va l.length vc] 56)).heap.size:=by simp
 have hV:=fun u=>refValue (str m) u (by rw [str_size]; unfold Tk at hm; omega)
 rw [str_data] at hV
 have HO:Hid (∀ x ∈ l,ItOk x):=hok
 clear h hm hok
 go_enter Tryz.func86,Tryz.ntmps86
 go_wp2_with fail
 generalize w.alloc (.cells #[.string (str m),.slice va l.length vc] 56) = w0 at *
 have c1:w0.cell? ⟨w.heap.size,1,none⟩ = some (.slice va l.length vc):=by rw [cell_of_row w0 _ 1 _ _ _ hN]; rfl
 refine (hV _).mono ?_
 rintro e w1 ⟨rfl,hw1⟩
 obtain rfl:=hw1.symm
 cases hv:valueR m
 ·have HR:Hid (rightI m l = 13):=by rw [hid_iff,rightI,if_pos hv]
  clear hv hV
  go_wp2
  go_ret
  exact ⟨by rw [HR.out]; rfl,hb0⟩
 by_cases h32:32 < l.length
 ·have HR:Hid (rightI m l = 4):=by rw [hid_iff,rightI,if_neg (by rw [hv]; simp),if_pos h32]
  have h32i:(32:Int) < (l.length:Int):=by omega
  clear hv hV
  go_wp2
  go_ret
  exact ⟨by rw [HR.out]; rfl,hb0⟩
 have HR:Hid (rightI m l = itemsE none l):=by rw [hid_iff,rightI,if_neg (by rw [hv]; simp),if_neg h32]
 have h32i:¬ (32:Int) < (l.length:Int):=by omega
 clear hv hV
 go_wp2
 clear c1
 go_loopg [3] l.length (fun g i wr=>∃ (k:Nat),g + k = l.length ∧ i = .int .i64 (k:Int) ∧ Hid (itemsE none l = itemsE (prevI l k) (l.drop k)) ∧ Below w0.heap.size w0 wr)
 case atStart=>exact ⟨0,by omega,rfl,rfl,Below.refl _ _⟩
 case round =>
  obtain ⟨k,hg,rfl,hq,hbl⟩:=hrel
  rename World=>wo
  have hbw:=below_trans hb0 hbl
  have hcM:wo.cell? ⟨w.heap.size,1,none⟩ = some (.slice va l.length vc):=by rw [cell_of_row wo _ 1 _ _ _ ((hbl.block _ hs0).trans hN)]; rfl
  by_cases hk:k < l.length
  ·have hsent:True:=trivial
   obtain ⟨g,o,cap,cv,e1,hFg,hC,q0,q1,q2,q3⟩:=(HI.out.below hbl hF0).at k hk
   simp only [Value.slice.injEq,true_and] at e1
   obtain ⟨rfl,rfl⟩:=e1
   have hki:(k:Int) < (l.length:Int):=by omega
   obtain ⟨ca,cc,rfl⟩:=hC.shape
   have hxo:=HO.out _ (List.getElem_mem hk)
   have hat:=itemsE_at l k hk
   have HP:Hid (∀ j,k = j + 1 → ∃ p,(prevI l k).any (fun q=>decide (l[k].name ≤ q)) = decide (l[k].name ≤ p) ∧ wo.cell? ⟨g,o + j * 4 + 1,none⟩ = some (.string (str p))):=by
    rw [hid_iff]
    rintro j rfl
    obtain ⟨g',o',cap',cv',e1,_,_,_,q1',_⟩:=(HI.out.below hbl hF0).at j (by omega)
    simp only [Value.slice.injEq,Option.some.injEq,Addr.mk.injEq,and_true,true_and] at e1
    obtain ⟨⟨rfl,rfl⟩,_⟩:=e1
    have hj:j < l.length:=by omega
    refine ⟨l[j].name,?_,q1'⟩
    simp [prevI,hj]
   have HZ:Hid (k = 0 → (prevI l k).any (fun q=>decide (l[k].name ≤ q)) = false):=by
    rw [hid_iff]
    rintro rfl
    rfl
   rcases hx:l[k] with ⟨kd,nm,ty,cs⟩
   rw [hx] at q0 q1 q2 q3 hC hxo hat HP HZ
   simp only at q0 q1 q2 q3 hC HP HZ
   obtain ⟨_,_,hnm,hty,hcl,hco⟩:=hxo
   simp only at hnm hty hcl hco
   have HT:Hid (∀ y,itemE (prevI l k) ⟨kd,nm,ty,cs⟩ = y → y ≠ 0 → rightI m l = y):=by
    rw [hid_iff]
    intro y hy hy0
    rw [HR.out,hq.out,hat,hy,if_neg hy0]
   have HX:Hid (itemE (prevI l k) ⟨kd,nm,ty,cs⟩ = 0 → Hid (itemsE none l = itemsE (prevI l (k + 1)) (l.drop (k + 1)))):=by
    rw [hid_iff]
    intro hy
    rw [hid_iff,hq.out,hat,if_pos hy]
   obtain ⟨pv,hpv⟩:∃ pv,(prevI l k).any (fun q=>decide (nm ≤ q)) = pv:=⟨_,rfl⟩
   rw [hpv] at HP HZ
   have HPV:=hidden hpv
   clear hx hat hq hpv
   have hb2:Below wo.heap.size wo (wo.alloc (.cells #[.int .i64 kd,.string (str nm),.string (str ty),.slice ca cs.length cc] 77)):=(Below.refl _ _).alloc (Nat.le_refl _) _
   have hN2:=heap_alloc_new wo (.cells #[.int .i64 kd,.string (str nm),.string (str ty),.slice ca cs.length cc] 77)
   have hsz2:=hbl.size
   have HC0:∀ u,Below (wo.alloc (.cells #[.int .i64 kd,.string (str nm),.string (str ty),.slice ca cs.length cc] 77)).heap.size (wo.alloc (.cells #[.int .i64 kd,.string (str nm),.string (str ty),.slice ca cs.length cc] 77)) u → u.cell? ⟨wo.heap.size,0,none⟩ = some (.int .i64 kd) ∧ u.cell? ⟨wo.heap.size,1,none⟩ = some (.string (str nm)) ∧ u.cell? ⟨wo.heap.size,2,none⟩ = some (.string (str ty)) ∧ u.cell? ⟨wo.heap.size,3,none⟩ = some (.slice ca cs.length cc) ∧ u.cell? ⟨w.heap.size,1,none⟩ = some (.slice (some ⟨g,o,none⟩) l.length vc) ∧ Below wo.heap.size wo u ∧ Below w.heap.size w u:=by
    intro u hu
    have hn:=(hu.block wo.heap.size (by simp)).trans hN2
    have hn1:=(hu.block w.heap.size (by simp; omega)).trans ((hb2.block _ (by omega)).trans ((hbl.block _ hs0).trans hN))
    have hbu:Below wo.heap.size wo u:=below_trans hb2 hu
    exact ⟨by rw [cell_of_row u _ 0 _ _ _ hn]; rfl,by rw [cell_of_row u _ 1 _ _ _ hn]; rfl,by rw [cell_of_row u _ 2 _ _ _ hn]; rfl,by rw [cell_of_row u _ 3 _ _ _ hn]; rfl,by rw [cell_of_row u _ 1 _ _ _ hn1]; rfl,hbu,below_trans hbw hbu⟩
   have HC:=hidden HC0
   obtain ⟨_,_,_,_,_,hbz,hbz'⟩:=HC0 _ (Below.refl _ _)
   have hbig:=fun u=>refBig (str nm) u (by rw [str_size]; unfold Tk at hnm; omega)
   have hval:=fun u=>refValue (str nm) u (by rw [str_size]; unfold Tk at hnm; omega)
   rw [str_data] at hbig hval
   by_cases hk0:kd < 1
   ·have HK:=hidden (kind_lt hk0)
    clear HX HP HZ HC HC0 hbig hval
    go_wp2
    go_ret
    exact ⟨by rw [HT.out 12 (iE1 HK.out) (by decide)]; rfl,hbz'⟩
   by_cases hk3:3 < kd
   ·have HK:=hidden (kind_gt hk3)
    clear HX HP HZ HC HC0 hbig hval
    go_wp2
    go_ret
    exact ⟨by rw [HT.out 12 (iE1 HK.out) (by decide)]; rfl,hbz'⟩
   have HKD:=hidden (kind_in hk0 hk3)
   obtain ⟨y0,y1,y2,y3,y4,_,_⟩:=HC0 _ (Below.refl _ _)
   have HND:Hid (namedE ⟨kd,nm,ty,cs⟩ = if kd = 1 then bigR nm else valueR nm):=rfl
   clear HC0 hN2
   clear HND
   go_upto_region 12 with fail
   generalize hWW:wo.alloc (.cells #[.int .i64 kd,.string (str nm),.string (str ty),.slice ca cs.length cc] 77) = W2 at *
   clear hWW
   clear hsent hcM q0 q1 q2 q3
   generalize hbg:(kd == 1) = bg
   cases bg
   ·have hk1:kd ≠ 1:=by simpa using hbg
    have HND:Hid (namedE ⟨kd,nm,ty,cs⟩ = valueR nm):=by rw [hid_iff]; unfold namedE; rw [if_neg hk1]
    clear hbg hbig
    obtain ⟨nd,HNV⟩:∃ nd,Hid (nd = valueR nm):=⟨_,rfl⟩
    rw [← HNV.out] at hval
    cases nd
    ·have HE:Hid (itemE (prevI l k) ⟨kd,nm,ty,cs⟩ = 13):=iE2 HKD.out (by rw [HND.out, ← HNV.out])
     have hb5:∀ n,Below w.heap.size w (W2.drewN n):=fun n=>below_drewN hbz' n
     clear HX HP HZ HC HND HNV HPV HKD hk1
     go_quiet ((go_at_call 34; exact Calls.quiet_of_same (hval _)))
     go_wp2
     go_ret
     exact ⟨by rw [HT.out 13 HE.out (by decide)]; rfl,hb5 _⟩
    ·have hnd:namedE ⟨kd,nm,ty,cs⟩ = true:=by rw [HND.out, ← HNV.out]
     clear HND HNV
     go_cut [73] from 18 to 107 (fun c wx=>c = .bool pv ∧ ∃ n,wx = W2.drewN n)
     case first =>
      cases k with
      | zero =>
       have hz:=HZ.out rfl
       subst hz
       clear HT HX HP HZ HC HPV HKD hnd
       go_quiet ((go_at_call 34; exact Calls.quiet_of_same (hval _)))
       go_wp2_with fail
       go_meet
       exact ⟨rfl,_,rfl⟩
      | succ j =>
       obtain ⟨p,hp1,hp2⟩:=HP.out j rfl
       have hp3:=(World.cell?_of_block (a:=⟨g,o + j * 4 + 1,none⟩) (hb2.block g (World.block_lt_of_cell? wo _ hp2))).trans hp2
       have hge:=geq_is p nm
       rw [← hp1] at hge
       have hj1:IntKind.i64.wrap (((j + 1:Nat):Int) - 1) = (j:Int):=by rw [IntKind.wrap_i64]; omega
       have hj2:(j:Int) < (l.length:Int):=by omega
       have hj3:(0:Int) < ((j + 1:Nat):Int):=by omega
       clear HT HX HP HZ HC HPV HKD hnd hp1 hp2
       go_quiet ((go_at_call 34; exact Calls.quiet_of_same (hval _)))
       go_wp2_with fail
       go_meet
       exact ⟨rfl,_,rfl⟩
     case rest =>
      obtain ⟨rfl,n,rfl⟩:=hcut
      have hb3':Below W2.heap.size W2 (W2.drewN n):=belowK _ _
      clear y0 y1 y2 y3 y4 hval HP HZ
      generalize W2.drewN n = w4 at *
      obtain ⟨y0,y1,y2,y3,y4,hb4,hb5⟩:=HC.out w4 hb3'
      have hbl4:Below w0.heap.size w0 w4:=below_trans hbl hb4
      have hC4:CsR F w4 (.slice ca cs.length cc) cs:=hC.below hb4 (fun g hg=>Nat.lt_of_lt_of_le (hF0 g hg) hsz2)
      cases pv
      case true =>
       have HE:=hidden (iE3 HKD.out hnd HPV.out)
       clear HX HC hnd HPV hC4
       go_wp2
       go_ret
       exact ⟨by rw [HT.out 13 HE.out (by decide)]; rfl,hb5⟩
      case false =>
       have HE:=hidden (iE4 HKD.out hnd HPV.out hk1)
       clear hnd HPV
       by_cases hcs:0 < cs.length
       ·have HE':Hid (itemE (prevI l k) ⟨kd,nm,ty,cs⟩ = 12):=by rw [hid_iff,HE.out]; exact if_pos hcs
        have hci:(0:Int) < (cs.length:Int):=by omega
        clear HE hC4 HC HX
        go_wp2
        go_ret
        exact ⟨by rw [HT.out 12 HE'.out (by decide)]; rfl,hb5⟩
       ·have hci:¬ (0:Int) < (cs.length:Int):=by omega
        have HE':Hid (itemE (prevI l k) ⟨kd,nm,ty,cs⟩ = if rightR ty = false then 17 else if kd = 3 ∧ isFn ty = false then 17 else 0):=by rw [hid_iff,HE.out]; exact if_neg hcs
        have hpt:=refPartsOf (str ty) w4
        have hri:=fun u=>refRight (str ty) u
        unfold PartsE at hpt
        rw [str_data] at hpt hri
        clear HE hC4
        go_wp2_with fail
        refine hpt.mono ?_
        rintro e w5 ⟨hc5,hb6⟩
        have hc6:∃ a b,e = .returned (.tuple #[a,.string b,.bool (isFn ty)]):=by
         rcases hc5 with ⟨h1,v5,rfl,_⟩ | ⟨h1,rfl⟩
         ·exact ⟨_,_,by rw [h1]⟩
         ·exact ⟨_,_,by rw [h1]⟩
        obtain ⟨pa,pb,rfl⟩:=hc6
        have hb7:=below_trans hb5 hb6
        have hbl5:=below_trans hbl4 hb6
        obtain ⟨z0,z1,z2,z3,z4,_,_⟩:=HC.out w5 (below_trans hb3' hb6)
        clear hc5 hpt HC y0 y1 y2 y3 y4
        by_cases hrt:rightR ty = true
        ·rw [hrt] at hri
         by_cases hk33:kd = 3
         ·subst hk33
          cases hfn:isFn ty
          ·have HJ:=hidden (HT.out 17 (by rw [HE'.out,if_neg (by rw [hrt]; simp),if_pos ⟨rfl,hfn⟩]) (by decide))
           clear HT HX HE' hrt hfn
           go_wp2_with (go_at_call 88; refine (hri _).mono ?_; rintro e u ⟨rfl,hu⟩; obtain rfl:=hu.symm)
           go_ret
           exact ⟨by rw [HJ.out]; rfl,hb7⟩
          ·have HJ:=HX.out (by rw [HE'.out,if_neg (by rw [hrt]; simp),if_neg (by rw [hfn]; simp)])
           clear HT HX HE' hrt hfn
           go_wp2_with (go_at_call 88; refine (hri _).mono ?_; rintro e u ⟨rfl,hu⟩; obtain rfl:=hu.symm)
           go_roundg (l.length - (k + 1))
           case measure=>omega
           case rel=>exact ⟨k + 1,by omega,by go_num,HJ,hbl5⟩
         ·have hk3f:(kd == 3) = false:=by rw [beq_eq_false_iff_ne]; exact hk33
          have HJ:=HX.out (by rw [HE'.out,if_neg (by rw [hrt]; simp),if_neg (fun h=>hk33 h.1)])
          clear HT HX HE' hrt
          generalize isFn ty = bf at *
          go_wp2_with (go_at_call 88; refine (hri _).mono ?_; rintro e u ⟨rfl,hu⟩; obtain rfl:=hu.symm)
          go_roundg (l.length - (k + 1))
          case measure=>omega
          case rel=>exact ⟨k + 1,by omega,by go_num,HJ,hbl5⟩
        ·have hrf:rightR ty = false:=by simpa using hrt
         rw [hrf] at hri
         have HJ:=hidden (HT.out 17 (by rw [HE'.out,if_pos hrf]) (by decide))
         clear HT HX HE' hrt hrf
         generalize isFn ty = bf at *
         go_wp2_with (go_at_call 88; refine (hri _).mono ?_; rintro e u ⟨rfl,hu⟩; obtain rfl:=hu.symm)
         go_ret
         exact ⟨by rw [HJ.out]; rfl,hb7⟩
   ·have hk1:kd = 1:=by simpa using hbg
    have HND:Hid (namedE ⟨kd,nm,ty,cs⟩ = bigR nm):=by rw [hid_iff]; unfold namedE; rw [if_pos hk1]
    clear hbg hval
    obtain ⟨nd,HNV⟩:∃ nd,Hid (nd = bigR nm):=⟨_,rfl⟩
    rw [← HNV.out] at hbig
    cases nd
    ·have HE:Hid (itemE (prevI l k) ⟨kd,nm,ty,cs⟩ = 13):=iE2 HKD.out (by rw [HND.out, ← HNV.out])
     have hb5:∀ n,Below w.heap.size w (W2.drewN n):=fun n=>below_drewN hbz' n
     clear HX HP HZ HC HND HNV HPV HKD hk1
     go_quiet ((go_at_call 85; exact Calls.quiet_of_same (hbig _)))
     go_wp2
     go_ret
     exact ⟨by rw [HT.out 13 HE.out (by decide)]; rfl,hb5 _⟩
    ·have hnd:namedE ⟨kd,nm,ty,cs⟩ = true:=by rw [HND.out, ← HNV.out]
     clear HND HNV
     go_cut [73] from 18 to 107 (fun c wx=>c = .bool pv ∧ ∃ n,wx = W2.drewN n)
     case first =>
      cases k with
      | zero =>
       have hz:=HZ.out rfl
       subst hz
       clear HT HX HP HZ HC HPV HKD hnd
       go_quiet ((go_at_call 85; exact Calls.quiet_of_same (hbig _)))
       go_wp2_with fail
       go_meet
       exact ⟨rfl,_,rfl⟩
      | succ j =>
       obtain ⟨p,hp1,hp2⟩:=HP.out j rfl
       have hp3:=(World.cell?_of_block (a:=⟨g,o + j * 4 + 1,none⟩) (hb2.block g (World.block_lt_of_cell? wo _ hp2))).trans hp2
       have hge:=geq_is p nm
       rw [← hp1] at hge
       have hj1:IntKind.i64.wrap (((j + 1:Nat):Int) - 1) = (j:Int):=by rw [IntKind.wrap_i64]; omega
       have hj2:(j:Int) < (l.length:Int):=by omega
       have hj3:(0:Int) < ((j + 1:Nat):Int):=by omega
       clear HT HX HP HZ HC HPV HKD hnd hp1 hp2
       go_quiet ((go_at_call 85; exact Calls.quiet_of_same (hbig _)))
       go_wp2_with fail
       go_meet
       exact ⟨rfl,_,rfl⟩
     case rest =>
      obtain ⟨rfl,n,rfl⟩:=hcut
      have hb3':Below W2.heap.size W2 (W2.drewN n):=belowK _ _
      clear y0 y1 y2 y3 y4 hbig HP HZ
      generalize W2.drewN n = w4 at *
      obtain ⟨y0,y1,y2,y3,y4,hb4,hb5⟩:=HC.out w4 hb3'
      have hbl4:Below w0.heap.size w0 w4:=below_trans hbl hb4
      have hC4:CsR F w4 (.slice ca cs.length cc) cs:=hC.below hb4 (fun g hg=>Nat.lt_of_lt_of_le (hF0 g hg) hsz2)
      cases pv
      case true =>
       have HE:=hidden (iE3 HKD.out hnd HPV.out)
       clear HX HC hnd HPV hC4
       go_wp2
       go_ret
       exact ⟨by rw [HT.out 13 HE.out (by decide)]; rfl,hb5⟩
      case false =>
       have HE:=hidden ((iE5 HKD.out hnd HPV.out hk1).trans (typeW ty cs))
       clear hnd HPV
       have hne:=nil_text ty
       by_cases hty0:ty = []
       ·rw [decide_eq_true hty0] at hne
        have HE':Hid (itemE (prevI l k) ⟨kd,nm,ty,cs⟩ = casesW cs):=by rw [hid_iff,HE.out,if_neg (fun h=>h hty0)]
        have hca:=refCasesW F _ cs w4 hC4 hco hcl
        clear HE hty0 hC4 HC
        generalize casesW cs = y at *
        go_wp2_with fail
        refine hca.mono ?_
        rintro e w5 ⟨rfl,n5,hw5⟩
        have hb6:Below w4.heap.size w4 w5:=by rw [hw5]; exact belowK _ _
        clear hw5 hca
        have hb7:=below_trans hb5 hb6
        have hbl5:=below_trans hbl4 hb6
        by_cases hy:y = 0
        ·have HJ:=HX.out (by rw [HE'.out]; exact hy)
         subst hy
         clear HT HX HE'
         go_wp2
         go_roundg (l.length - (k + 1))
         case measure=>omega
         case rel=>exact ⟨k + 1,by omega,by go_num,HJ,hbl5⟩
        ·have hyn:((y:Int) != 0) = true:=by rw [bne_iff_ne]; omega
         have HJ:=hidden (HT.out y HE'.out hy)
         clear HT HX HE' hy
         go_wp2
         go_ret
         exact ⟨by rw [HJ.out]; rfl,hb7⟩
       ·rw [decide_eq_false hty0] at hne
        have HE':Hid (itemE (prevI l k) ⟨kd,nm,ty,cs⟩ = 12):=by rw [hid_iff,HE.out,if_pos hty0]
        clear HE hty0 hC4 HC HX
        go_wp2
        go_ret
        exact ⟨by rw [HT.out 12 HE'.out (by decide)]; rfl,hb5⟩
  ·have hki:¬ (k:Int) < (l.length:Int):=by omega
   have HZ:Hid (rightI m l = 0):=by
    rw [hid_iff,HR.out,hq.out,List.drop_of_length_le (by omega)]
    rfl
   clear hq
   go_wp2
   go_ret
   exact ⟨by rw [HZ.out]; rfl,hbw⟩
end Go.Proofs.YtiiepfplommmfaaGreatDoor
