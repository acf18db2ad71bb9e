/-
  slices.IndexFunc and slices.ContainsFunc at the lists of an object; isGlobal, isFun.
  And: Sign, and other small functions of the package object. rightAlone, tooMany, rightCounts, allTypes, isSame, isAhead of the package object. The document's own objects: a number's digits, and back.
-/
import Derived.Test.YtiiepfplommmfaaGreatDoorG04
import Derived.Test.YtiiepfplommmfaaGreatDoorG08
import Derived.Deep.RegionHeld3
import Derived.Test.YtiiepfplommmfaaGreatDoorG03
import Derived.Deep.LoopGhost
import Derived.Test.YtiiepfplommmfaaGreatDoorG09
import Derived.Deep.CutRange
namespace Go.Proofs.YtiiepfplommmfaaGreatDoor
open Go.RowKit

set_option maxHeartbeats 2000000 in
set_option maxRecDepth 1000000 in
theorem idxI (F : Nat → Prop) (v : Value) (l : List It) (b : Nat) (p : It → Bool) (w : World) (h : ItR F w v l) (hF : ∀ g, F g → g < w.heap.size) (hl : l.length ≤ 3518437208883) 
  (hp:∀ (k:Nat) (hk:k < l.length) (cv:Value) (wr:World),Below w.heap.size w wr → CsR F wr cv l[k].cases → Calls Tryz.prog 73 #[itv l[k] cv,.pointer (some ⟨b,0,none⟩)] wr (BoolB (p l[k]) wr)) :
  Calls Tryz.prog 131 #[v,.func (.func 73) #[] #[.pointer (some ⟨b,0,none⟩)]] w (IdxB (l.any p) w):=by
 obtain ⟨va,vc,rfl⟩:=h.shape
 have H:=hidden h
 have HP:=hidden hp
 clear h hp
 go_enter Tryz.func131,Tryz.ntmps131
 go_wp2
 go_loopg [8] l.length (fun g i wr=>∃ (k:Nat),g + k = l.length ∧ i = .int .i64 (k:Int) ∧ Hid ((l.take k).any p = false) ∧ Below w.heap.size w wr)
 case atStart=>exact ⟨0,by omega,rfl,by rw [hid_iff]; rfl,Below.refl _ _⟩
 case round =>
  obtain ⟨k,hg,rfl,hq,hbw⟩:=hrel
  by_cases hk:k < l.length
  ·obtain ⟨g,o,cap,cv,e1,hFg,hC,q0,q1,q2,q3⟩:=(H.out.below hbw hF).at k hk
   simp only [Value.slice.injEq,true_and] at e1
   obtain ⟨rfl,rfl⟩:=e1
   have hc:=HP.out k hk cv wr hbw hC
   unfold itv at hc
   generalize l[k].name = xn at *
   generalize l[k].kind = xk at *
   generalize l[k].ty = xt at *
   have hki:(k:Int) < (l.length:Int):=by omega
   cases hx:p l[k]
   ·rw [hx] at hc
    have HQ:Hid ((l.take (k + 1)).any p = false):=by
     rw [hid_iff,List.take_succ_eq_append_getElem hk,List.any_append,hq.out,List.any_cons,hx]
     rfl
    clear hq hx
    go_wp2_with fail
    refine hc.mono ?_
    rintro e w1 ⟨rfl,hb1⟩
    have hb2:=below_trans hbw hb1
    go_wp2
    go_roundg (l.length - (k + 1))
    case measure=>omega
    case rel=>exact ⟨k + 1,by omega,by go_num,HQ,hb2⟩
   ·rw [hx] at hc
    have HA:Hid (l.any p = true):=by
     rw [hid_iff,List.any_eq_true]
     exact ⟨_,List.getElem_mem hk,hx⟩
    clear hq hx
    go_wp2_with fail
    refine hc.mono ?_
    rintro e w1 ⟨rfl,hb1⟩
    have hb2:=below_trans hbw hb1
    go_wp2
    go_ret
    exact ⟨(k:Int),rfl,by rw [HA.out]; exact decide_eq_true (by omega),by omega,by omega,hb2⟩
  ·have hki:¬ (k:Int) < (l.length:Int):=by omega
   have HA:Hid (l.any p = false):=by
    have:=hq.out
    rwa [List.take_of_length_le (by omega)] at this
   clear hq
   go_wp2
   go_ret
   exact ⟨-1,rfl,(by rw [HA.out]; first | done | rfl),by omega,by omega,hbw⟩
set_option maxHeartbeats 1000000 in
set_option maxRecDepth 1000000 in
theorem conI (F : Nat → Prop) (v : Value) (l : List It) (b : Nat) (p : It → Bool) (w : World) (h : ItR F w v l) (hF : ∀ g, F g → g < w.heap.size) (hl : l.length ≤ 3518437208883) 
  (hp:∀ (k:Nat) (hk:k < l.length) (cv:Value) (wr:World),Below w.heap.size w wr → CsR F wr cv l[k].cases → Calls Tryz.prog 73 #[itv l[k] cv,.pointer (some ⟨b,0,none⟩)] wr (BoolB (p l[k]) wr)) :
  Calls Tryz.prog 72 #[v,.func (.func 73) #[] #[.pointer (some ⟨b,0,none⟩)]] w (BoolB (l.any p) w):=by
 have hi:=idxI F v l b p w h hF hl  hp
 obtain ⟨va,vc,rfl⟩:=h.shape
 generalize l.any p = r at *
 clear h hF hp
 go_enter Tryz.func72,Tryz.ntmps72
 go_wp2_with fail
 refine hi.mono ?_
 rintro e w1 ⟨i,rfl,hr,hi1,hi2,hb1⟩
 go_wp2
 go_ret
 exact ⟨(by rw [← hr]; first | done | rfl),hb1⟩
def glv (x:Gl):Value := .agg #[.string (str x.name),.string (str x.ty),.int .i64 x.fn]
def fnv (x:Fn) (pv kv:Value):Value := .agg #[.string (str x.name),pv,.int .i64 x.caps,.string (str x.res),.int .i64 x.locals,kv]
def syv (x:Sy) (cv:Value):Value := .agg #[.string (str x.mod),.int .i64 x.item.kind,.string (str x.item.name),.string (str x.item.ty),cv]
def rlv (x:Rl):Value := .agg #[.int .i64 x.fn,.int .i64 x.place,.int .i64 x.sym]
set_option maxHeartbeats 2000000 in
set_option maxRecDepth 1000000 in
theorem idxG (F : Nat → Prop) (v : Value) (l : List Gl) (b : Nat) (p : Gl → Bool) (w : World) (h : GlR F w v l) (hF : ∀ g, F g → g < w.heap.size) (hl : l.length ≤ 3518437208883) 
  (hp:∀ (k:Nat) (hk:k < l.length) (wr:World),Below w.heap.size w wr → Calls Tryz.prog 134 #[glv l[k],.pointer (some ⟨b,0,none⟩)] wr (BoolB (p l[k]) wr)) :
  Calls Tryz.prog 176 #[v,.func (.func 134) #[] #[.pointer (some ⟨b,0,none⟩)]] w (IdxB (l.any p) w):=by
 obtain ⟨va,vc,rfl⟩:=h.shape
 have H:=hidden h
 have HP:=hidden hp
 clear h hp
 go_enter Tryz.func176,Tryz.ntmps176
 go_wp2
 go_loopg [8] l.length (fun g i wr=>∃ (k:Nat),g + k = l.length ∧ i = .int .i64 (k:Int) ∧ Hid ((l.take k).any p = false) ∧ Below w.heap.size w wr)
 case atStart=>exact ⟨0,by omega,rfl,by rw [hid_iff]; rfl,Below.refl _ _⟩
 case round =>
  obtain ⟨k,hg,rfl,hq,hbw⟩:=hrel
  by_cases hk:k < l.length
  ·obtain ⟨g,o,cap,cs,e1,hcap,hFg,hC,hcell⟩:=(H.out.below cGl_stay hbw hF).at k hk
   simp only [Value.slice.injEq,true_and] at e1
   obtain ⟨rfl,rfl⟩:=e1
   have hc:=HP.out k hk wr hbw
   unfold cGl at hC
   subst hC
   have q0:=hcell 0 _ rfl
   have q1:=hcell 1 _ rfl
   have q2:=hcell 2 _ rfl
   simp only [Nat.add_zero] at q0
   clear hcell
   unfold glv at hc
   generalize l[k].name = xn at *
   generalize l[k].ty = xt at *
   generalize l[k].fn = xf at *
   have hki:(k:Int) < (l.length:Int):=by omega
   cases hx:p l[k]
   ·rw [hx] at hc
    have HQ:Hid ((l.take (k + 1)).any p = false):=by
     rw [hid_iff,List.take_succ_eq_append_getElem hk,List.any_append,hq.out,List.any_cons,hx]
     rfl
    clear hq hx
    go_wp2_with fail
    refine hc.mono ?_
    rintro e w1 ⟨rfl,hb1⟩
    have hb2:=below_trans hbw hb1
    go_wp2
    go_roundg (l.length - (k + 1))
    case measure=>omega
    case rel=>exact ⟨k + 1,by omega,by go_num,HQ,hb2⟩
   ·rw [hx] at hc
    have HA:Hid (l.any p = true):=by
     rw [hid_iff,List.any_eq_true]
     exact ⟨_,List.getElem_mem hk,hx⟩
    clear hq hx
    go_wp2_with fail
    refine hc.mono ?_
    rintro e w1 ⟨rfl,hb1⟩
    have hb2:=below_trans hbw hb1
    go_wp2
    go_ret
    exact ⟨(k:Int),rfl,by rw [HA.out]; exact decide_eq_true (by omega),by omega,by omega,hb2⟩
  ·have hki:¬ (k:Int) < (l.length:Int):=by omega
   have HA:Hid (l.any p = false):=by
    have:=hq.out
    rwa [List.take_of_length_le (by omega)] at this
   clear hq
   go_wp2
   go_ret
   exact ⟨-1,rfl,(by rw [HA.out]; first | done | rfl),by omega,by omega,hbw⟩
set_option maxHeartbeats 1000000 in
set_option maxRecDepth 1000000 in
theorem conG (F : Nat → Prop) (v : Value) (l : List Gl) (b : Nat) (p : Gl → Bool) (w : World) (h : GlR F w v l) (hF : ∀ g, F g → g < w.heap.size) (hl : l.length ≤ 3518437208883) 
  (hp:∀ (k:Nat) (hk:k < l.length) (wr:World),Below w.heap.size w wr → Calls Tryz.prog 134 #[glv l[k],.pointer (some ⟨b,0,none⟩)] wr (BoolB (p l[k]) wr)) :
  Calls Tryz.prog 133 #[v,.func (.func 134) #[] #[.pointer (some ⟨b,0,none⟩)]] w (BoolB (l.any p) w):=by
 have hi:=idxG F v l b p w h hF hl  hp
 obtain ⟨va,vc,rfl⟩:=h.shape
 generalize l.any p = r at *
 clear h hF hp
 go_enter Tryz.func133,Tryz.ntmps133
 go_wp2_with fail
 refine hi.mono ?_
 rintro e w1 ⟨i,rfl,hr,hi1,hi2,hb1⟩
 go_wp2
 go_ret
 exact ⟨(by rw [← hr]; first | done | rfl),hb1⟩
set_option maxHeartbeats 2000000 in
set_option maxRecDepth 1000000 in
theorem idxF (F : Nat → Prop) (v : Value) (l : List Fn) (b : Nat) (p : Fn → Bool) (w : World) (h : FnR F w v l) (hF : ∀ g, F g → g < w.heap.size) (hl : l.length ≤ 3518437208883) 
  (hp:∀ (k:Nat) (hk:k < l.length) (pv kv:Value) (wr:World),Below w.heap.size w wr → Calls Tryz.prog 136 #[fnv l[k] pv kv,.pointer (some ⟨b,0,none⟩)] wr (BoolB (p l[k]) wr)) :
  Calls Tryz.prog 177 #[v,.func (.func 136) #[] #[.pointer (some ⟨b,0,none⟩)]] w (IdxB (l.any p) w):=by
 obtain ⟨va,vc,rfl⟩:=h.shape
 have H:=hidden h
 have HP:=hidden hp
 clear h hp
 go_enter Tryz.func177,Tryz.ntmps177
 go_wp2
 go_loopg [8] l.length (fun g i wr=>∃ (k:Nat),g + k = l.length ∧ i = .int .i64 (k:Int) ∧ Hid ((l.take k).any p = false) ∧ Below w.heap.size w wr)
 case atStart=>exact ⟨0,by omega,rfl,by rw [hid_iff]; rfl,Below.refl _ _⟩
 case round =>
  obtain ⟨k,hg,rfl,hq,hbw⟩:=hrel
  by_cases hk:k < l.length
  ·obtain ⟨g,o,cap,cs,e1,hcap,hFg,hC,hcell⟩:=(H.out.below cFn_stay hbw hF).at k hk
   simp only [Value.slice.injEq,true_and] at e1
   obtain ⟨rfl,rfl⟩:=e1
   obtain ⟨pv,kv,rfl,hpv,hkv⟩:=hC
   have hc:=HP.out k hk pv kv wr hbw
   have q0:=hcell 0 _ rfl
   have q1:=hcell 1 _ rfl
   have q2:=hcell 2 _ rfl
   have q3:=hcell 3 _ rfl
   have q4:=hcell 4 _ rfl
   have q5:=hcell 5 _ rfl
   simp only [Nat.add_zero] at q0
   clear hcell hpv hkv
   unfold fnv at hc
   generalize l[k].name = xn at *
   generalize l[k].res = xt at *
   generalize l[k].caps = xf at *
   generalize l[k].locals = xl at *
   have hki:(k:Int) < (l.length:Int):=by omega
   cases hx:p l[k]
   ·rw [hx] at hc
    have HQ:Hid ((l.take (k + 1)).any p = false):=by
     rw [hid_iff,List.take_succ_eq_append_getElem hk,List.any_append,hq.out,List.any_cons,hx]
     rfl
    clear hq hx
    go_wp2_with fail
    refine hc.mono ?_
    rintro e w1 ⟨rfl,hb1⟩
    have hb2:=below_trans hbw hb1
    go_wp2
    go_roundg (l.length - (k + 1))
    case measure=>omega
    case rel=>exact ⟨k + 1,by omega,by go_num,HQ,hb2⟩
   ·rw [hx] at hc
    have HA:Hid (l.any p = true):=by
     rw [hid_iff,List.any_eq_true]
     exact ⟨_,List.getElem_mem hk,hx⟩
    clear hq hx
    go_wp2_with fail
    refine hc.mono ?_
    rintro e w1 ⟨rfl,hb1⟩
    have hb2:=below_trans hbw hb1
    go_wp2
    go_ret
    exact ⟨(k:Int),rfl,by rw [HA.out]; exact decide_eq_true (by omega),by omega,by omega,hb2⟩
  ·have hki:¬ (k:Int) < (l.length:Int):=by omega
   have HA:Hid (l.any p = false):=by
    have:=hq.out
    rwa [List.take_of_length_le (by omega)] at this
   clear hq
   go_wp2
   go_ret
   exact ⟨-1,rfl,(by rw [HA.out]; first | done | rfl),by omega,by omega,hbw⟩
set_option maxHeartbeats 1000000 in
set_option maxRecDepth 1000000 in
theorem conF (F : Nat → Prop) (v : Value) (l : List Fn) (b : Nat) (p : Fn → Bool) (w : World) (h : FnR F w v l) (hF : ∀ g, F g → g < w.heap.size) (hl : l.length ≤ 3518437208883) 
  (hp:∀ (k:Nat) (hk:k < l.length) (pv kv:Value) (wr:World),Below w.heap.size w wr → Calls Tryz.prog 136 #[fnv l[k] pv kv,.pointer (some ⟨b,0,none⟩)] wr (BoolB (p l[k]) wr)) :
  Calls Tryz.prog 135 #[v,.func (.func 136) #[] #[.pointer (some ⟨b,0,none⟩)]] w (BoolB (l.any p) w):=by
 have hi:=idxF F v l b p w h hF hl  hp
 obtain ⟨va,vc,rfl⟩:=h.shape
 generalize l.any p = r at *
 clear h hF hp
 go_enter Tryz.func135,Tryz.ntmps135
 go_wp2_with fail
 refine hi.mono ?_
 rintro e w1 ⟨i,rfl,hr,hi1,hi2,hb1⟩
 go_wp2
 go_ret
 exact ⟨(by rw [← hr]; first | done | rfl),hb1⟩
set_option maxHeartbeats 2000000 in
set_option maxRecDepth 1000000 in
theorem idxS (F : Nat → Prop) (v : Value) (l : List Sy) (sv : Value) (p : Sy → Bool) (w : World) (h : SyR F w v l) (hF : ∀ g, F g → g < w.heap.size) (hl : l.length ≤ 3518437208883) 
  (hp:∀ (k:Nat) (hk:k < l.length) (cv:Value) (wr:World),Below w.heap.size w wr → Calls Tryz.prog 82 #[sv,syv l[k] cv] wr (BoolB (p l[k]) wr)) :
  Calls Tryz.prog 138 #[v,.func (.func 82) #[sv] #[]] w (IdxB (l.any p) w):=by
 obtain ⟨va,vc,rfl⟩:=h.shape
 have H:=hidden h
 have HP:=hidden hp
 clear h hp
 go_enter Tryz.func138,Tryz.ntmps138
 go_wp2
 go_loopg [8] l.length (fun g i wr=>∃ (k:Nat),g + k = l.length ∧ i = .int .i64 (k:Int) ∧ Hid ((l.take k).any p = false) ∧ Below w.heap.size w wr)
 case atStart=>exact ⟨0,by omega,rfl,by rw [hid_iff]; rfl,Below.refl _ _⟩
 case round =>
  obtain ⟨k,hg,rfl,hq,hbw⟩:=hrel
  by_cases hk:k < l.length
  ·obtain ⟨g,o,cap,cs,e1,hcap,hFg,hC,hcell⟩:=(H.out.below cSy_stay hbw hF).at k hk
   simp only [Value.slice.injEq,true_and] at e1
   obtain ⟨rfl,rfl⟩:=e1
   obtain ⟨cv,rfl,hcv⟩:=hC
   have hc:=HP.out k hk cv wr hbw
   have q0:=hcell 0 _ rfl
   have q1:=hcell 1 _ rfl
   have q2:=hcell 2 _ rfl
   have q3:=hcell 3 _ rfl
   have q4:=hcell 4 _ rfl
   simp only [Nat.add_zero] at q0
   clear hcell hcv
   unfold syv at hc
   generalize l[k].mod = xn at *
   generalize l[k].item.name = xm at *
   generalize l[k].item.ty = xt at *
   generalize l[k].item.kind = xk at *
   have hki:(k:Int) < (l.length:Int):=by omega
   cases hx:p l[k]
   ·rw [hx] at hc
    have HQ:Hid ((l.take (k + 1)).any p = false):=by
     rw [hid_iff,List.take_succ_eq_append_getElem hk,List.any_append,hq.out,List.any_cons,hx]
     rfl
    clear hq hx
    go_wp2_with fail
    refine hc.mono ?_
    rintro e w1 ⟨rfl,hb1⟩
    have hb2:=below_trans hbw hb1
    go_wp2
    go_roundg (l.length - (k + 1))
    case measure=>omega
    case rel=>exact ⟨k + 1,by omega,by go_num,HQ,hb2⟩
   ·rw [hx] at hc
    have HA:Hid (l.any p = true):=by
     rw [hid_iff,List.any_eq_true]
     exact ⟨_,List.getElem_mem hk,hx⟩
    clear hq hx
    go_wp2_with fail
    refine hc.mono ?_
    rintro e w1 ⟨rfl,hb1⟩
    have hb2:=below_trans hbw hb1
    go_wp2
    go_ret
    exact ⟨(k:Int),rfl,by rw [HA.out]; exact decide_eq_true (by omega),by omega,by omega,hb2⟩
  ·have hki:¬ (k:Int) < (l.length:Int):=by omega
   have HA:Hid (l.any p = false):=by
    have:=hq.out
    rwa [List.take_of_length_le (by omega)] at this
   clear hq
   go_wp2
   go_ret
   exact ⟨-1,rfl,(by rw [HA.out]; first | done | rfl),by omega,by omega,hbw⟩
set_option maxHeartbeats 1000000 in
set_option maxRecDepth 1000000 in
theorem conS (F : Nat → Prop) (v : Value) (l : List Sy) (sv : Value) (p : Sy → Bool) (w : World) (h : SyR F w v l) (hF : ∀ g, F g → g < w.heap.size) (hl : l.length ≤ 3518437208883) 
  (hp:∀ (k:Nat) (hk:k < l.length) (cv:Value) (wr:World),Below w.heap.size w wr → Calls Tryz.prog 82 #[sv,syv l[k] cv] wr (BoolB (p l[k]) wr)) :
  Calls Tryz.prog 81 #[v,.func (.func 82) #[sv] #[]] w (BoolB (l.any p) w):=by
 have hi:=idxS F v l sv p w h hF hl  hp
 obtain ⟨va,vc,rfl⟩:=h.shape
 generalize l.any p = r at *
 clear h hF hp
 go_enter Tryz.func81,Tryz.ntmps81
 go_wp2_with fail
 refine hi.mono ?_
 rintro e w1 ⟨i,rfl,hr,hi1,hi2,hb1⟩
 go_wp2
 go_ret
 exact ⟨(by rw [← hr]; first | done | rfl),hb1⟩
set_option maxHeartbeats 1000000 in
set_option maxRecDepth 1000000 in
theorem predI (x:It) (cv:Value) (b:Nat) (n:List UInt8) (w:World) (hb:w.cell? ⟨b,1,none⟩ = some (.string (str n))):Calls Tryz.prog 73 #[itv x cv,.pointer (some ⟨b,0,none⟩)] w (BoolB (decide (x.name = n)) w):=by
 obtain ⟨xk,xn,xt,xc⟩:=x
 unfold itv
 simp only
 have hbl:b < w.heap.size:=World.block_lt_of_cell? w _ hb
 have hb0:Below w.heap.size w (w.alloc (.cells #[.int .i64 xk,.string (str xn),.string (str xt),cv] 77)):=(Below.refl _ _).alloc (Nat.le_refl _) _
 have he:=eq_is xn n
 generalize decide (xn = n) = r at *
 go_enter Tryz.func73,Tryz.ntmps73
 go_wp2
 go_ret
 exact ⟨rfl,hb0⟩
set_option maxHeartbeats 1000000 in
set_option maxRecDepth 1000000 in
theorem predG (x:Gl) (b:Nat) (n:List UInt8) (w:World) (hb:w.cell? ⟨b,0,none⟩ = some (.string (str n))):Calls Tryz.prog 134 #[glv x,.pointer (some ⟨b,0,none⟩)] w (BoolB (decide (x.name = n)) w):=by
 obtain ⟨xn,xt,xf⟩:=x
 unfold glv
 simp only
 have hbl:b < w.heap.size:=World.block_lt_of_cell? w _ hb
 have hb0:Below w.heap.size w (w.alloc (.cells #[.string (str xn),.string (str xt),.int .i64 xf] 73)):=(Below.refl _ _).alloc (Nat.le_refl _) _
 have he:=eq_is xn n
 generalize decide (xn = n) = r at *
 go_enter Tryz.func134,Tryz.ntmps134
 go_wp2
 go_ret
 exact ⟨rfl,hb0⟩
set_option maxHeartbeats 1000000 in
set_option maxRecDepth 1000000 in
theorem predF (x:Fn) (pv kv:Value) (b:Nat) (n:List UInt8) (w:World) (hb:w.cell? ⟨b,0,none⟩ = some (.string (str n))):Calls Tryz.prog 136 #[fnv x pv kv,.pointer (some ⟨b,0,none⟩)] w (BoolB (decide (x.name = n)) w):=by
 obtain ⟨xn,xp,xc,xr,xl,xk⟩:=x
 unfold fnv
 simp only
 have hbl:b < w.heap.size:=World.block_lt_of_cell? w _ hb
 have hb0:Below w.heap.size w (w.alloc (.cells #[.string (str xn),pv,.int .i64 xc,.string (str xr),.int .i64 xl,kv] 52)):=(Below.refl _ _).alloc (Nat.le_refl _) _
 have he:=eq_is xn n
 generalize decide (xn = n) = r at *
 go_enter Tryz.func136,Tryz.ntmps136
 go_wp2
 go_ret
 exact ⟨rfl,hb0⟩
set_option maxHeartbeats 1000000 in
set_option maxRecDepth 1000000 in
theorem isGlobal (F : Nat → Prop) (v : Value) (l : List Gl) (n : List UInt8) (w : World) (h : GlR F w v l) (hF : ∀ g, F g → g < w.heap.size) (hl : l.length ≤ 3518437208883) :
  Calls Tryz.prog 75 #[v,.string (str n)] w (BoolB (l.any (fun d=>decide (d.name = n))) w):=by
 have hb0:Below w.heap.size w (w.alloc (.cells #[.string (str n)] 9)):=(Below.refl _ _).alloc (Nat.le_refl _) _
 have hc:=cells_new w [.string (str n)] 9 0 _ rfl
 rw [add_at] at hc
 have hi:=conG F v l w.heap.size (fun d=>decide (d.name = n)) _ (h.below cGl_stay hb0 hF) (fun g hg=>by have:=hF g hg; simp; omega) hl (fun k hk wr hbw=>predG l[k] w.heap.size n wr ((World.cell?_of_block (a:=⟨w.heap.size,0,none⟩) (hbw.block w.heap.size (by simp))).trans hc))
 obtain ⟨va,vc,rfl⟩:=h.shape
 generalize l.any (fun d=>decide (d.name = n)) = r at *
 clear h hF hc
 go_enter Tryz.func75,Tryz.ntmps75
 go_wp2_with fail
 refine hi.mono ?_
 rintro e w1 ⟨rfl,hb1⟩
 have hb2:=below_trans hb0 hb1
 go_wp2
 go_ret
 exact ⟨rfl,hb2⟩
set_option maxHeartbeats 1000000 in
set_option maxRecDepth 1000000 in
theorem isFun (F : Nat → Prop) (v : Value) (l : List Fn) (n : List UInt8) (w : World) (h : FnR F w v l) (hF : ∀ g, F g → g < w.heap.size) (hl : l.length ≤ 3518437208883) :
  Calls Tryz.prog 77 #[v,.string (str n)] w (BoolB (l.any (fun d=>decide (d.name = n))) w):=by
 have hb0:Below w.heap.size w (w.alloc (.cells #[.string (str n)] 9)):=(Below.refl _ _).alloc (Nat.le_refl _) _
 have hc:=cells_new w [.string (str n)] 9 0 _ rfl
 rw [add_at] at hc
 have hi:=conF F v l w.heap.size (fun d=>decide (d.name = n)) _ (h.below cFn_stay hb0 hF) (fun g hg=>by have:=hF g hg; simp; omega) hl (fun k hk pv kv wr hbw=>predF l[k] pv kv w.heap.size n wr ((World.cell?_of_block (a:=⟨w.heap.size,0,none⟩) (hbw.block w.heap.size (by simp))).trans hc))
 obtain ⟨va,vc,rfl⟩:=h.shape
 generalize l.any (fun d=>decide (d.name = n)) = r at *
 clear h hF hc
 go_enter Tryz.func77,Tryz.ntmps77
 go_wp2_with fail
 refine hi.mono ?_
 rintro e w1 ⟨rfl,hb1⟩
 have hb2:=below_trans hb0 hb1
 go_wp2
 go_ret
 exact ⟨rfl,hb2⟩
end Go.Proofs.YtiiepfplommmfaaGreatDoor

namespace Go.Proofs.YtiiepfplommmfaaGreatDoor
open Go.RowKit

set_option maxRecDepth 1000000 in
theorem isIndex (n c:Int) (w:World):Calls Tryz.prog 76 #[.int .i64 n,.int .i64 c] w (Pu (.bool (inO n c)) w):=by
 by_cases h0:0 ≤ n
 ·by_cases h1:n < c
  ·have HV:Hid (inO n c = true):=by rw [hid_iff]; simp [inO,h0,h1]
   go_enter Tryz.func76,Tryz.ntmps76
   go_wp2
   go_ret
   exact ⟨by rw [HV.out]; rfl,rfl⟩
  ·have HV:Hid (inO n c = false):=by rw [hid_iff]; simp [inO,h1]
   go_enter Tryz.func76,Tryz.ntmps76
   go_wp2
   go_ret
   exact ⟨by rw [HV.out]; rfl,rfl⟩
 ·have HV:Hid (inO n c = false):=by rw [hid_iff]; simp [inO,h0]
  go_enter Tryz.func76,Tryz.ntmps76
  go_wp2
  go_ret
  exact ⟨by rw [HV.out]; rfl,rfl⟩
theorem addk (b o k:Nat):(⟨b,o,none⟩:Addr).add k = ⟨b,o + k,none⟩:=by
 by_cases h0:k = 0
 ·subst h0; simp [Addr.add]
 ·simp [Addr.add,h0]
set_option maxHeartbeats 1000000 in
set_option maxRecDepth 1000000 in
theorem osign (F : Nat → Prop) (f : Fn) (pv kv : Value) (w : World) (hp : TxC F w pv f.params) (hF : ∀ g, F g → g < w.heap.size) (hok : FnOk f) (hl : f.params.length ≤ 1000000) (hj : (joinR (f.params.drop (cutO f))).length ≤ 1000000000) (hr : f.res.length ≤ 1000000000) :
  Calls Tryz.prog 13 #[fnv f pv kv] w (TextB (signO f) w):=by
 obtain ⟨nm,ps,cp,rs,lc,cd⟩:=f
 obtain ⟨va,vc,rfl⟩:=hp.1.shape
 have hvc:ps.length ≤ vc:=hp.2 _ _ _ rfl
 unfold fnv
 simp only at *
 have hcut:cutO ⟨nm,ps,cp,rs,lc,cd⟩ = min (max cp 0).toNat ps.length:=rfl
 have HS:Hid (signO ⟨nm,ps,cp,rs,lc,cd⟩ = funcR (ps.drop (cutO ⟨nm,ps,cp,rs,lc,cd⟩)) rs):=rfl
 obtain ⟨k,hk⟩:∃ k:Nat,min (max cp 0) (ps.length:Int) = (k:Int):=⟨(min (max cp 0) (ps.length:Int)).toNat,by omega⟩
 have hkc:cutO ⟨nm,ps,cp,rs,lc,cd⟩ = k:=by rw [hcut]; omega
 rw [hkc] at HS hj
 clear hcut hkc hok
 have hkl:k ≤ ps.length:=by omega
 have hb0:Below w.heap.size w (w.alloc (.cells #[.string (str nm),.slice va ps.length vc,.int .i64 cp,.string (str rs),.int .i64 lc,kv] 52)):=(Below.refl _ _).alloc (Nat.le_refl _) _
 have hS:∀ a' n' c',n' = ps.length - k → (ps.length - k = 0 ∨ a' = va.map (·.add k) ∧ c' = vc - k) → StrRow w (.slice a' n' c') (ps.drop k):=by
  rintro a' n' c' rfl ha
  by_cases h0:ps.length - k = 0
  ·exact .inl ⟨List.drop_of_length_le (by omega),a',c',by rw [h0]⟩
  ·rcases ha with h1 | ⟨rfl,rfl⟩
   ·exact absurd h1 h0
   ·rcases hp.1 with ⟨a,c0,e,rfl⟩ | ⟨g,o,cap,e,hg,hcell⟩
    ·exact absurd (by simp) h0
    ·simp only [Value.slice.injEq,true_and] at e
     obtain ⟨rfl,rfl⟩:=e
     refine .inr ⟨g,o + k,vc - k,by simp [addk],hF g hg,by simp; omega,fun j x hx=>?_⟩
     rw [List.getElem?_drop] at hx
     rw [Nat.add_assoc]
     exact hcell _ x hx
 have hT:∀ u a' n' c',Below w.heap.size w u → n' = ps.length - k → (ps.length - k = 0 ∨ a' = va.map (·.add k) ∧ c' = vc - k) → Calls Tryz.prog 50 #[.slice a' n' c',.string (str rs)] u (TextB (funcR (ps.drop k) rs) u):=by
  intro u a' n' c' hu h1 h2
  exact func _ _ rs u ((hS a' n' c' h1 h2).below hu) (by simp; omega) hj hr
 generalize funcR (ps.drop k) rs = res at *
 clear hS hj hr
 have k0:(0:Int) ≤ (k:Int):=by omega
 have k1:(k:Int) ≤ (ps.length:Int):=by omega
 have k2:(k:Int) ≤ (vc:Int):=by omega
 have k3:(ps.length:Int) ≤ (vc:Int):=by omega
 have hva:va = none ∧ ps.length = 0 ∨ ∃ b o sp,va = some ⟨b,o,sp⟩:=by
  rcases va with _ | ⟨b,o,sp⟩
  ·left
   rcases hp.1 with ⟨a,c0,e,h⟩ | ⟨g,o,cap,e,hg,hcell⟩
   ·exact ⟨rfl,by rw [h]; rfl⟩
   ·simp at e
  ·exact .inr ⟨b,o,sp,rfl⟩
 clear hp
 generalize ps.length = n at *
 rcases hva with ⟨rfl,h0⟩ | ⟨b,o,sp,rfl⟩
 ·subst h0
  by_cases hv:vc = k
  ·subst hv
   go_enter Tryz.func13,Tryz.ntmps13
   go_wp2_with fail
   go_region_with (go_at_call 50; refine (hT _ _ _ _ (by first | exact below_drew hb0 | exact hb0) (by omega) (by first | exact .inl (by omega) | exact .inr ⟨rfl,rfl⟩)).mono ?_; rintro e w2 ⟨rfl,hb2⟩)
   all_goals (
    go_wp2
    go_ret
    exact ⟨(by rw [HS.out]; first | done | rfl),by first | exact below_trans hb0 (below_undrew hb2) | exact below_trans hb0 hb2⟩)
  ·have hvi:¬ (vc:Int) = (k:Int):=by omega
   go_enter Tryz.func13,Tryz.ntmps13
   go_wp2_with fail
   go_region_with (go_at_call 50; refine (hT _ _ _ _ (by first | exact below_drew hb0 | exact hb0) (by omega) (by first | exact .inl (by omega) | exact .inr ⟨rfl,rfl⟩)).mono ?_; rintro e w2 ⟨rfl,hb2⟩)
   all_goals (
    go_wp2
    go_ret
    exact ⟨(by rw [HS.out]; first | done | rfl),by first | exact below_trans hb0 (below_undrew hb2) | exact below_trans hb0 hb2⟩)
 ·by_cases hv:vc = k
  ·subst hv
   go_enter Tryz.func13,Tryz.ntmps13
   go_wp2_with fail
   go_region_with (go_at_call 50; refine (hT _ _ _ _ (by first | exact below_drew hb0 | exact hb0) (by omega) (by first | exact .inl (by omega) | exact .inr ⟨rfl,rfl⟩)).mono ?_; rintro e w2 ⟨rfl,hb2⟩)
   all_goals (
    go_wp2
    go_ret
    exact ⟨(by rw [HS.out]; first | done | rfl),by first | exact below_trans hb0 (below_undrew hb2) | exact below_trans hb0 hb2⟩)
  ·have hvi:¬ (vc:Int) = (k:Int):=by omega
   go_enter Tryz.func13,Tryz.ntmps13
   go_wp2_with fail
   go_region_with (go_at_call 50; refine (hT _ _ _ _ (by first | exact below_drew hb0 | exact hb0) (by omega) (by first | exact .inl (by omega) | exact .inr ⟨rfl,rfl⟩)).mono ?_; rintro e w2 ⟨rfl,hb2⟩)
   all_goals (
    go_wp2
    go_ret
    exact ⟨(by rw [HS.out]; first | done | rfl),by first | exact below_trans hb0 (below_undrew hb2) | exact below_trans hb0 hb2⟩)
end Go.Proofs.YtiiepfplommmfaaGreatDoor

namespace Go.Proofs.YtiiepfplommmfaaGreatDoor
open Go.RowKit

set_option maxHeartbeats 2000000 in
set_option maxRecDepth 1000000 in
theorem oallTypes (F:Nat → Prop) (v:Value) (xs:List (List UInt8)) (w:World) (h:TxR F w v xs) (hF:∀ g,F g → g < w.heap.size) (hl:xs.length ≤ 8796093022208):Calls Tryz.prog 79 #[v] w (BoolB (xs.all rightR) w):=by
 obtain ⟨va,vc,rfl⟩:=h.shape
 have H:=hidden h
 clear h
 go_enter Tryz.func79,Tryz.ntmps79
 go_wp2
 go_loopg [7] xs.length (fun g i wr=>∃ (k:Nat),g + k = xs.length ∧ i = .int .i64 (k:Int) ∧ Hid ((xs.take k).all rightR = true) ∧ Below w.heap.size w wr)
 case atStart=>exact ⟨0,by omega,rfl,by rw [hid_iff]; rfl,Below.refl _ _⟩
 case round =>
  obtain ⟨k,hg,rfl,hq,hbl⟩:=hrel
  by_cases hk:k < xs.length
  ·obtain ⟨g,o,cap,e1,hFg,q⟩:=(H.out.below hbl hF).at k hk
   simp only [Value.slice.injEq,true_and] at e1
   obtain ⟨rfl,rfl⟩:=e1
   have hki:(k:Int) < (xs.length:Int):=by omega
   have hr:=fun u=>right (str xs[k]) u
   rw [str_data] at hr
   cases hb:rightR xs[k]
   ·rw [hb] at hr
    have HF:Hid (xs.all rightR = false):=all_not hk hb
    generalize xs[k] = x at *
    clear hq hb
    go_wp2_with fail
    refine (hr _).mono ?_
    rintro e w1 ⟨rfl,hb1⟩
    go_wp2
    go_ret
    exact ⟨(by rw [HF.out]; first | done | rfl),below_trans hbl hb1⟩
   ·rw [hb] at hr
    have HQ:Hid ((xs.take (k + 1)).all rightR = true):=all_next hk hq.out hb
    generalize xs[k] = x at *
    clear hq hb
    go_wp2_with fail
    refine (hr _).mono ?_
    rintro e w1 ⟨rfl,hb1⟩
    have hb2:=below_trans hbl hb1
    go_wp2
    go_roundg (xs.length - (k + 1))
    case measure=>omega
    case rel=>exact ⟨k + 1,by omega,by go_num,HQ,hb2⟩
  ·have hki:¬ (k:Int) < (xs.length:Int):=by omega
   have HA:Hid (xs.all rightR = true):=by
    have:=hq.out
    rwa [List.take_of_length_le (by omega)] at this
   clear hq
   go_wp2
   go_ret
   exact ⟨(by rw [HA.out]; first | done | rfl),hbl⟩
def obv (u:ObV) (m:List UInt8):Value := .agg #[.string (str m),u.t,u.x,u.g,u.f,u.e,u.s,u.r]
set_option maxHeartbeats 1000000 in
set_option maxRecDepth 1000000 in
theorem rightAlone (F:Nat → Prop) (m:List UInt8) (x:It) (cv:Value) (w:World) (h:CsR F w cv x.cases) (hF:∀ g,F g → g < w.heap.size) (hm:Tk m) (hx:ItOk x):Calls Tryz.prog 71 #[.string (str m),itv x cv] w (NumB (rightI m [x]) w):=by
 obtain ⟨kd,nm,ty,cs⟩:=x
 unfold itv
 simp only at *
 obtain ⟨ca,cc,rfl⟩:=h.shape
 have hb0:Below w.heap.size w ((w.alloc (.cells #[.int .i64 kd,.string (str nm),.string (str ty),.slice ca cs.length cc] 77)).alloc (.cells #[.int .i64 kd,.string (str nm),.string (str ty),.slice ca cs.length cc] 77)):=((Below.refl _ _).alloc (Nat.le_refl _) _).alloc (by simp) _
 have hN:=heap_alloc_new (w.alloc (.cells #[.int .i64 kd,.string (str nm),.string (str ty),.slice ca cs.length cc] 77)) (.cells #[.int .i64 kd,.string (str nm),.string (str ty),.slice ca cs.length cc] 77)
 have hsz:((w.alloc (.cells #[.int .i64 kd,.string (str nm),.string (str ty),.slice ca cs.length cc] 77)).alloc (.cells #[.int .i64 kd,.string (str nm),.string (str ty),.slice ca cs.length cc] 77)).heap.size = w.heap.size + 2:=by simp
 have hR:∀ W,W = (w.alloc (.cells #[.int .i64 kd,.string (str nm),.string (str ty),.slice ca cs.length cc] 77)).alloc (.cells #[.int .i64 kd,.string (str nm),.string (str ty),.slice ca cs.length cc] 77) → Calls Tryz.prog 130 #[.agg #[.string (str m),.slice (some ⟨w.heap.size + 1,0,none⟩) 1 1]] W (NumB (rightI m [⟨kd,nm,ty,cs⟩]) W):=by
  rintro W rfl
  have he:(w.alloc (.cells #[.int .i64 kd,.string (str nm),.string (str ty),.slice ca cs.length cc] 77)).heap.size = w.heap.size + 1:=by simp
  rw [he] at hN
  refine right7 (fun g=>F g ∨ g = w.heap.size + 1) m _ [⟨kd,nm,ty,cs⟩] _ (.inr ⟨w.heap.size + 1,0,1,rfl,by simp,.inr rfl,fun j x hj=>?_⟩) (fun g hg=>?_) hm (by simpa using hx)
  ·obtain ⟨hj1,rfl⟩:=List.getElem?_eq_some_iff.1 hj
   obtain rfl:j = 0:=by simpa using hj1
   simp only [Nat.zero_mul,Nat.add_zero,Nat.zero_add,List.getElem_cons_zero]
   refine ⟨.slice ca cs.length cc,h.frame fun g hg=>⟨.inl hg,hb0.block g (hF g hg)⟩,?_,?_,?_,?_⟩
   ·rw [cell_of_row _ _ 0 _ _ _ hN]; rfl
   ·rw [cell_of_row _ _ 1 _ _ _ hN]; rfl
   ·rw [cell_of_row _ _ 2 _ _ _ hN]; rfl
   ·rw [cell_of_row _ _ 3 _ _ _ hN]; rfl
  ·rw [hsz]
   rcases hg with hg | rfl
   ·have:=hF g hg; omega
   ·omega
 generalize rightI m [⟨kd,nm,ty,cs⟩] = r at *
 clear h hN hx
 go_enter Tryz.func71,Tryz.ntmps71
 go_wp2_with (go_at_call 130; refine (hR _ rfl).mono ?_; rintro e w2 ⟨rfl,hb2⟩)
 go_ret
 exact ⟨rfl,below_trans hb0 hb2⟩
set_option maxHeartbeats 1000000 in
set_option maxRecDepth 1000000 in
theorem otooMany (F:Nat → Prop) (u:ObV) (o:Ob) (w:World) (h:ObR F w u o):Calls Tryz.prog 26 #[obv u o.mod] w (BoolB (manyO o) w):=by
 obtain ⟨m,ts,xs,gs,fs,es,ss,rs⟩:=o
 obtain ⟨tv,xv,gv,fv,ev,sv,rv⟩:=u
 obtain ⟨h1,h2,h3,h4,h5,h6,h7⟩:=h
 unfold obv
 simp only at *
 obtain ⟨a1,c1,rfl⟩:=h1.shape
 obtain ⟨a2,c2,rfl⟩:=h2.1.shape
 obtain ⟨a3,c3,rfl⟩:=h3.shape
 obtain ⟨a4,c4,rfl⟩:=h4.shape
 obtain ⟨a5,c5,rfl⟩:=h5.1.shape
 obtain ⟨a6,c6,rfl⟩:=h6.shape
 obtain ⟨a7,c7,rfl⟩:=h7.shape
 have hb0:Below w.heap.size w (w.alloc (.cells #[.string (str m),.slice a1 ts.length c1,.slice a2 xs.length c2,.slice a3 gs.length c3,.slice a4 fs.length c4,.slice a5 es.length c5,.slice a6 ss.length c6,.slice a7 rs.length c7] 29)):=(Below.refl _ _).alloc (Nat.le_refl _) _
 have HM:Hid (manyO ⟨m,ts,xs,gs,fs,es,ss,rs⟩ = (decide (32 < ts.length) || (decide (32 < xs.length) || (decide (32 < gs.length) || (decide (32 < es.length) || (decide (48 < fs.length) || (decide (96 < ss.length) || decide (384 < rs.length)))))))):=rfl
 clear h1 h2 h3 h4 h5 h6 h7
 generalize ts.length = n1 at *
 generalize xs.length = n2 at *
 generalize gs.length = n3 at *
 generalize fs.length = n4 at *
 generalize es.length = n5 at *
 generalize ss.length = n6 at *
 generalize rs.length = n7 at *
 go_enter Tryz.func26,Tryz.ntmps26
 by_cases pn1:32 < n1
 ·have pn1i:(32:Int) < (n1:Int):=by omega
  have HV:Hid (manyO ⟨m,ts,xs,gs,fs,es,ss,rs⟩ = true):=by rw [hid_iff,HM.out]; simp [pn1]
  clear HM  pn1
  go_wp2
  go_ret
  exact ⟨(by rw [HV.out]; first | done | rfl),hb0⟩
 have pn1i:¬ (32:Int) < (n1:Int):=by omega
 by_cases pn2:32 < n2
 ·have pn2i:(32:Int) < (n2:Int):=by omega
  have HV:Hid (manyO ⟨m,ts,xs,gs,fs,es,ss,rs⟩ = true):=by rw [hid_iff,HM.out]; simp [pn2]
  clear HM pn1 pn2
  go_wp2
  go_ret
  exact ⟨(by rw [HV.out]; first | done | rfl),hb0⟩
 have pn2i:¬ (32:Int) < (n2:Int):=by omega
 by_cases pn3:32 < n3
 ·have pn3i:(32:Int) < (n3:Int):=by omega
  have HV:Hid (manyO ⟨m,ts,xs,gs,fs,es,ss,rs⟩ = true):=by rw [hid_iff,HM.out]; simp [pn3]
  clear HM pn1 pn2 pn3
  go_wp2
  go_ret
  exact ⟨(by rw [HV.out]; first | done | rfl),hb0⟩
 have pn3i:¬ (32:Int) < (n3:Int):=by omega
 by_cases pn5:32 < n5
 ·have pn5i:(32:Int) < (n5:Int):=by omega
  have HV:Hid (manyO ⟨m,ts,xs,gs,fs,es,ss,rs⟩ = true):=by rw [hid_iff,HM.out]; simp [pn5]
  clear HM pn1 pn2 pn3 pn5
  go_wp2
  go_ret
  exact ⟨(by rw [HV.out]; first | done | rfl),hb0⟩
 have pn5i:¬ (32:Int) < (n5:Int):=by omega
 by_cases pn4:48 < n4
 ·have pn4i:(48:Int) < (n4:Int):=by omega
  have HV:Hid (manyO ⟨m,ts,xs,gs,fs,es,ss,rs⟩ = true):=by rw [hid_iff,HM.out]; simp [pn4]
  clear HM pn1 pn2 pn3 pn5 pn4
  go_wp2
  go_ret
  exact ⟨(by rw [HV.out]; first | done | rfl),hb0⟩
 have pn4i:¬ (48:Int) < (n4:Int):=by omega
 by_cases pn6:96 < n6
 ·have pn6i:(96:Int) < (n6:Int):=by omega
  have HV:Hid (manyO ⟨m,ts,xs,gs,fs,es,ss,rs⟩ = true):=by rw [hid_iff,HM.out]; simp [pn6]
  clear HM pn1 pn2 pn3 pn5 pn4 pn6
  go_wp2
  go_ret
  exact ⟨(by rw [HV.out]; first | done | rfl),hb0⟩
 have pn6i:¬ (96:Int) < (n6:Int):=by omega
 by_cases pn7:384 < n7
 ·have pn7i:(384:Int) < (n7:Int):=by omega
  have HV:Hid (manyO ⟨m,ts,xs,gs,fs,es,ss,rs⟩ = true):=by rw [hid_iff,HM.out]; simp [pn7]
  clear HM pn1 pn2 pn3 pn5 pn4 pn6 pn7
  go_wp2
  go_ret
  exact ⟨(by rw [HV.out]; first | done | rfl),hb0⟩
 have pn7i:¬ (384:Int) < (n7:Int):=by omega
 have HV:Hid (manyO ⟨m,ts,xs,gs,fs,es,ss,rs⟩ = false):=by rw [hid_iff,HM.out]; simp [pn1,pn2,pn3,pn5,pn4,pn6,pn7]
 clear HM pn1 pn2 pn3 pn5 pn4 pn6 pn7
 go_wp2
 go_ret
 exact ⟨(by rw [HV.out]; first | done | rfl),hb0⟩
set_option maxHeartbeats 1000000 in
set_option maxRecDepth 1000000 in
theorem ocounts (f:Fn) (pv kv:Value) (w:World) (hp:∃ a c,pv = .slice a f.params.length c) (hok:FnOk f):Calls Tryz.prog 78 #[fnv f pv kv] w (BoolB (countsO f) w):=by
 obtain ⟨a,c,rfl⟩:=hp
 obtain ⟨nm,ps,cp,rs,lc,cd⟩:=f
 obtain ⟨_,hl,_,⟨hc1,hc2⟩,_,_,_⟩:=hok
 unfold fnv
 simp only at *
 have hb0:Below w.heap.size w (w.alloc (.cells #[.string (str nm),.slice a ps.length c,.int .i64 cp,.string (str rs),.int .i64 lc,kv] 52)):=(Below.refl _ _).alloc (Nat.le_refl _) _
 have HM:Hid (countsO ⟨nm,ps,cp,rs,lc,cd⟩ = (decide (0 ≤ cp) && (decide (cp ≤ ps.length) && (decide ((ps.length:Int) - cp ≤ 6) && (decide ((ps.length:Int) ≤ lc) && (decide (lc ≤ 24) && (decide (nm = []) || decide (cp = 0)))))))):=rfl
 have he:=nil_text nm
 generalize ps.length = n at *
 go_enter Tryz.func78,Tryz.ntmps78
 by_cases p1:0 ≤ cp
 case neg =>
  have HV:Hid (countsO ⟨nm,ps,cp,rs,lc,cd⟩ = false):=by rw [hid_iff,HM.out]; simp [p1]
  clear HM he
  go_wp2
  go_ret
  exact ⟨(by rw [HV.out]; first | done | rfl),hb0⟩
 by_cases p2:cp ≤ (n:Int)
 case neg =>
  have HV:Hid (countsO ⟨nm,ps,cp,rs,lc,cd⟩ = false):=by rw [hid_iff,HM.out]; simp [p2]
  clear HM he
  go_wp2
  go_ret
  exact ⟨(by rw [HV.out]; first | done | rfl),hb0⟩
 by_cases p3:(n:Int) - cp ≤ 6
 case neg =>
  have HV:Hid (countsO ⟨nm,ps,cp,rs,lc,cd⟩ = false):=by rw [hid_iff,HM.out]; simp [p3]
  clear HM he
  go_wp2
  go_ret
  exact ⟨(by rw [HV.out]; first | done | rfl),hb0⟩
 by_cases p4:(n:Int) ≤ lc
 case neg =>
  have HV:Hid (countsO ⟨nm,ps,cp,rs,lc,cd⟩ = false):=by rw [hid_iff,HM.out]; simp [p4]
  clear HM he
  go_wp2
  go_ret
  exact ⟨(by rw [HV.out]; first | done | rfl),hb0⟩
 by_cases p5:lc ≤ 24
 case neg =>
  have HV:Hid (countsO ⟨nm,ps,cp,rs,lc,cd⟩ = false):=by rw [hid_iff,HM.out]; simp [p5]
  clear HM he
  go_wp2
  go_ret
  exact ⟨(by rw [HV.out]; first | done | rfl),hb0⟩
 by_cases pn:nm = []
 ·have HV:Hid (countsO ⟨nm,ps,cp,rs,lc,cd⟩ = true):=by rw [hid_iff,HM.out]; simp [p1,p2,p3,p4,p5,pn]
  have h1:(str nm).toList = []:=by rw [← List.isEmpty_iff,he,decide_eq_true pn]
  rw [decide_eq_true pn] at he
  clear HM pn
  go_wp2
  go_ret
  exact ⟨(by rw [HV.out]; first | done | rfl),hb0⟩
 rw [decide_eq_false pn] at he
 have h1:¬ (str nm).toList = []:=by
  intro h
  rw [h] at he
  cases he
 by_cases pz:cp = 0
 ·subst pz
  have HV:Hid (countsO ⟨nm,ps,0,rs,lc,cd⟩ = true):=by rw [hid_iff,HM.out]; simp; omega
  clear HM pn
  go_wp2
  go_ret
  exact ⟨(by rw [HV.out]; first | done | rfl),hb0⟩
 have HV:Hid (countsO ⟨nm,ps,cp,rs,lc,cd⟩ = false):=by rw [hid_iff,HM.out]; simp [pn,pz]
 have hz:(cp == 0) = false:=by simp [pz]
 clear HM pn
 go_wp2
 go_ret
 exact ⟨(by rw [HV.out]; first | done | rfl),hb0⟩
end Go.Proofs.YtiiepfplommmfaaGreatDoor

namespace Go.Proofs.YtiiepfplommmfaaGreatDoor
open Go.RowKit

def aheadN (n:Nat) (s:List UInt8):List UInt8:=if n = 0 ∧ s ≠ [] then s else numO n ++ s
theorem aheadN_start (n:Nat):aheadN n [] = numO n:=by
 unfold aheadN
 rw [if_neg (by simp),List.append_nil]
theorem aheadN_next (n:Nat) (s:List UInt8) (h:0 < n ∨ s = []):aheadN n s = aheadN (n / 10) (UInt8.ofNat (48 + n % 10) :: s):=by
 have h1:¬ (n = 0 ∧ s ≠ []):=by
  rintro ⟨a,b⟩
  rcases h with h | h
  ·omega
  ·exact b h
 unfold aheadN
 rw [if_neg h1]
 by_cases h2:n < 10
 ·have h3:n / 10 = 0:=by omega
  have h4:n % 10 = n:=by omega
  rw [h3,if_pos ⟨rfl,by simp⟩,h4,numO,Lib.decDigits_one h2]
  rfl
 ·rw [if_neg (by omega)]
  have h3:numO n = numO (n / 10) ++ [UInt8.ofNat (48 + n % 10)]:=by
   show Lib.decDigits n = _
   rw [Lib.decDigits,dif_neg h2]
   rfl
  rw [h3,List.append_assoc]
  rfl
theorem aheadN_end (s:List UInt8) (h:s ≠ []):aheadN 0 s = s:=by
 unfold aheadN
 rw [if_pos ⟨rfl,h⟩]
def tenD:ByteArray:=⟨#[48,49,50,51,52,53,54,55,56,57]⟩
theorem tenD_cut (d:Nat) (h:d < 10):tenD.extract d (d + 1) = ⟨#[UInt8.ofNat (48 + d)]⟩:=by
 match d,h with
 | 0,_=>rfl
 | 1,_=>rfl
 | 2,_=>rfl
 | 3,_=>rfl
 | 4,_=>rfl
 | 5,_=>rfl
 | 6,_=>rfl
 | 7,_=>rfl
 | 8,_=>rfl
 | 9,_=>rfl
theorem tenD_add (d:Nat) (h:d < 10) (s:List UInt8):(ByteArray.mk #[48,49,50,51,52,53,54,55,56,57]).extract d (d + 1) ++ str s = str (UInt8.ofNat (48 + d) :: s):=by
 rw [show (ByteArray.mk #[48,49,50,51,52,53,54,55,56,57]).extract d (d + 1) = str [UInt8.ofNat (48 + d)] from tenD_cut d h,str_append]
 rfl
set_option maxHeartbeats 2000000 in
set_option maxRecDepth 1000000 in
theorem rNumeral (n:Nat) (hn:n ≤ 1000000000) (w:World):Calls Tryz.prog 142 #[.int .i64 (n:Int)] w (Pu (.string (str (numO n))) w):=by
 have H0:Hid (aheadN n [] = numO n):=aheadN_start n
 generalize numO n = res at *
 go_enter Tryz.func142,Tryz.ntmps142
 go_wp2_with fail
 go_loopg [0,3] (n + 1) (fun g i sv wr=>∃ (k:Nat) (s:List UInt8),g = k + (if s = [] then 1 else 0) ∧ i = .int .i64 (k:Int) ∧ sv = .string (str s) ∧ k ≤ 1000000000 ∧ s.length + k ≤ 1000000001 ∧ Hid (aheadN k s = res) ∧ wr = w)
 case atStart=>exact ⟨n,[],rfl,rfl,rfl,hn,by simp; omega,H0,rfl⟩
 case round =>
  obtain ⟨k,s,hg,rfl,rfl,hk,hs,HR,rfl⟩:=hrel
  have h4:=nil_text s
  have hd:k % 10 < 10:=Nat.mod_lt _ (by omega)
  have hadd:=tenD_add (k % 10) hd s
  by_cases hc:0 < k ∨ s = []
  ·have HN:Hid (aheadN (k / 10) (UInt8.ofNat (48 + k % 10) :: s) = res):=by rw [hid_iff, ← aheadN_next k s hc]; exact HR.out
   have hm:((k:Int)).tmod 10 = ((k % 10:Nat):Int):=by rw [Int.tmod_eq_emod_of_nonneg (by omega)]; omega
   have hq:((k:Int)).tdiv 10 = ((k / 10:Nat):Int):=by rw [Int.tdiv_eq_ediv_of_nonneg (by omega)]; omega
   have hsz:¬ 9223372036854775807 < min (k % 10 + 1) 10 - k % 10 + (str s).size:=by rw [str_size]; omega
   have hlt:k / 10 + 0 < k + (if s = [] then 1 else 0):=by
    rcases hc with hc | hc
    ·split <;> omega
    ·rw [if_pos hc]
     omega
   have hl2:s.length + 1 + k / 10 ≤ 1000000001:=by
    rcases hc with hc | hc
    ·omega
    ·rw [hc]
     simp
     omega
   have hk2:k / 10 ≤ 1000000000:=by omega
   clear HR hs
   generalize k / 10 = k' at *
   generalize k % 10 = d at *
   generalize UInt8.ofNat (48 + d) = ch at *
   by_cases hk0:0 < k
   ·have hki:(0:Int) < (k:Int):=by omega
    clear hc
    go_wp2
    go_roundg k'
    case measure=>omega
    case rel=>exact ⟨k',ch :: s,by simp,rfl,rfl,hk2,by simpa using hl2,HN,rfl⟩
   ·have hki:¬ (0:Int) < (k:Int):=by omega
    have hs0:s = []:=by rcases hc with hc | hc; exact absurd hc hk0; exact hc
    subst hs0
    have h4':(str []).toList = []:=by rw [← List.isEmpty_iff]; exact h4
    have hm2:k' < gk:=by omega
    replace h4:(str []).toList.isEmpty = true:=h4
    clear hc hg hlt
    go_wp2
    go_roundg k'
    case measure=>omega
    case rel=>exact ⟨k',[ch],by simp,rfl,rfl,hk2,by simpa using hl2,HN,rfl⟩
  ·have hk0:k = 0:=by omega
   have hs0:s ≠ []:=fun e=>hc (.inr e)
   subst hk0
   rw [decide_eq_false hs0] at h4
   have h4':¬ (str s).toList = []:=by
    intro hh
    rw [hh] at h4
    cases h4
   have HX:Hid (res = s):=by rw [hid_iff, ← HR.out]; exact aheadN_end s hs0
   have h00:¬ (0:Int) < ((0:Nat):Int):=by omega
   clear hc HR hadd hs0
   go_wp2
   go_ret
   exact ⟨(by rw [HX.out]; first | done | rfl),rfl⟩
def nbdR (s:List UInt8):Nat → Nat → Int
 | _,0 => -1
 | k,n + 1=>if numO k = s then (k:Int) else nbdR s (k + 1) n
theorem nbdR_find (s:List UInt8):∀ (n k:Nat),nbdR s k n = match (List.range' k n).find? (fun i=>decide (numO i = s)) with | some i=>(i:Int) | none => -1
 | 0,_=>rfl
 | n + 1,k=>by
  rw [nbdR,List.range'_succ,List.find?_cons]
  by_cases h:numO k = s
  ·rw [if_pos h,decide_eq_true h]
  ·rw [if_neg h,decide_eq_false h]
   exact nbdR_find s n (k + 1)
theorem nbdR_unnamed (fs:List Fn) (s:List UInt8):(∃ (k:Nat) (h:k < fs.length),nbdR s 0 fs.length = (k:Int) ∧ unnamedO fs s = decide (fs[k].name = [])) ∨ (nbdR s 0 fs.length = -1 ∧ unnamedO fs s = false):=by
 have h1:=nbdR_find s fs.length 0
 unfold unnamedO
 rw [← List.range_eq_range'] at h1
 cases hf:(List.range fs.length).find? (fun i=>decide (numO i = s)) with
 | none =>
  rw [hf] at h1
  exact .inr ⟨h1,rfl⟩
 | some i =>
  rw [hf] at h1
  have hi:i < fs.length:=List.mem_range.1 (List.mem_of_find?_eq_some hf)
  refine .inl ⟨i,hi,h1,?_⟩
  simp only [List.getElem?_eq_getElem hi]
end Go.Proofs.YtiiepfplommmfaaGreatDoor
