/-
  The books' own comparing, at globals and relocations that are alike.
-/
import Derived.Test.YtiiepfplommmfaaGreatDoorG16
import Derived.Test.YtiiepfplommmfaaGreatDoorG39
namespace Go.Proofs.YtiiepfplommmfaaGreatDoor
open Go.RowKit

set_option maxHeartbeats 1000000 in
set_option maxRecDepth 1000000 in
theorem sameGl (F G : Nat → Prop) (v1 v2 : Value) (xs : List Gl) (w : World) (h1 : RwR 3 cGl F w v1 xs) (h2 : RwR 3 cGl G w v2 xs) (hl : xs.length ≤ 65535) :
  Calls Tryz.prog 65 #[v1,v2] w fun e w'=>e = .returned (.bool true) ∧ ∃ n,w' = w.drewN n:=by
 obtain ⟨a1,c1,rfl⟩:=h1.shape
 obtain ⟨a2,c2,rfl⟩:=h2.shape
 have hh1:=hidden h1
 have hh2:=hidden h2
 clear h1 h2
 go_enter Tryz.func65,Tryz.ntmps65
 go_wp2
 go_loopg [5] xs.length (fun g i wr=>∃ (k nn:Nat),g + k = xs.length ∧ i = .int .i64 (k:Int) ∧ wr = w.drewN nn)
 case atStart=>exact ⟨0,0,by omega,rfl,rfl⟩
 case round =>
  obtain ⟨k,nn,hg,rfl,rfl⟩:=hrel
  by_cases hk:k < xs.length
  ·obtain ⟨g1,o1,d1,cs1,e1,_,_,hc1,c1⟩:=hh1.out.at k hk
   simp only [Value.slice.injEq,true_and] at e1
   obtain ⟨rfl,rfl⟩:=e1
   obtain ⟨g2,o2,d2,cs2,e2,_,_,hc2,c2⟩:=hh2.out.at k hk
   simp only [Value.slice.injEq,true_and] at e2
   obtain ⟨rfl,rfl⟩:=e2
   have hki:(k:Int) < (xs.length:Int):=by omega
   clear hh1 hh2
   generalize xs[k] = x at *
   unfold cGl at hc1 hc2
   subst hc1 hc2
   have q10:w.cell? ⟨g1,o1 + k * 3,none⟩ = some (.string (str x.name)):=c1 0 _ rfl
   have q20:w.cell? ⟨g2,o2 + k * 3,none⟩ = some (.string (str x.name)):=c2 0 _ rfl
   have q11:w.cell? ⟨g1,o1 + k * 3 + 1,none⟩ = some (.string (str x.ty)):=c1 1 _ rfl
   have q21:w.cell? ⟨g2,o2 + k * 3 + 1,none⟩ = some (.string (str x.ty)):=c2 1 _ rfl
   have q12:w.cell? ⟨g1,o1 + k * 3 + 2,none⟩ = some (.int .i64 x.fn):=c1 2 _ rfl
   have q22:w.cell? ⟨g2,o2 + k * 3 + 2,none⟩ = some (.int .i64 x.fn):=c2 2 _ rfl
   clear c1 c2
   go_wp2_with fail
   go_quiet (fail)
   go_wp2
   go_roundg (xs.length - (k + 1))
   case measure=>omega
   case rel=>exact ⟨k + 1,_,by omega,by go_num,by first | rfl | exact drewK _ _ _⟩
  ·have hki:¬ (k:Int) < (xs.length:Int):=by omega
   go_wp2
   go_ret
   exact ⟨rfl,nn,rfl⟩
set_option maxHeartbeats 1000000 in
set_option maxRecDepth 1000000 in
theorem sameRl (F G : Nat → Prop) (v1 v2 : Value) (xs : List Rl) (w : World) (h1 : RwR 3 cRl F w v1 xs) (h2 : RwR 3 cRl G w v2 xs) (hl : xs.length ≤ 65535) :
  Calls Tryz.prog 66 #[v1,v2] w fun e w'=>e = .returned (.bool true) ∧ ∃ n,w' = w.drewN n:=by
 obtain ⟨a1,c1,rfl⟩:=h1.shape
 obtain ⟨a2,c2,rfl⟩:=h2.shape
 have hh1:=hidden h1
 have hh2:=hidden h2
 clear h1 h2
 go_enter Tryz.func66,Tryz.ntmps66
 go_wp2
 go_loopg [5] xs.length (fun g i wr=>∃ (k nn:Nat),g + k = xs.length ∧ i = .int .i64 (k:Int) ∧ wr = w.drewN nn)
 case atStart=>exact ⟨0,0,by omega,rfl,rfl⟩
 case round =>
  obtain ⟨k,nn,hg,rfl,rfl⟩:=hrel
  by_cases hk:k < xs.length
  ·obtain ⟨g1,o1,d1,cs1,e1,_,_,hc1,c1⟩:=hh1.out.at k hk
   simp only [Value.slice.injEq,true_and] at e1
   obtain ⟨rfl,rfl⟩:=e1
   obtain ⟨g2,o2,d2,cs2,e2,_,_,hc2,c2⟩:=hh2.out.at k hk
   simp only [Value.slice.injEq,true_and] at e2
   obtain ⟨rfl,rfl⟩:=e2
   have hki:(k:Int) < (xs.length:Int):=by omega
   clear hh1 hh2
   generalize xs[k] = x at *
   unfold cRl at hc1 hc2
   subst hc1 hc2
   have q10:w.cell? ⟨g1,o1 + k * 3,none⟩ = some (.int .i64 x.fn):=c1 0 _ rfl
   have q20:w.cell? ⟨g2,o2 + k * 3,none⟩ = some (.int .i64 x.fn):=c2 0 _ rfl
   have q11:w.cell? ⟨g1,o1 + k * 3 + 1,none⟩ = some (.int .i64 x.place):=c1 1 _ rfl
   have q21:w.cell? ⟨g2,o2 + k * 3 + 1,none⟩ = some (.int .i64 x.place):=c2 1 _ rfl
   have q12:w.cell? ⟨g1,o1 + k * 3 + 2,none⟩ = some (.int .i64 x.sym):=c1 2 _ rfl
   have q22:w.cell? ⟨g2,o2 + k * 3 + 2,none⟩ = some (.int .i64 x.sym):=c2 2 _ rfl
   clear c1 c2
   go_wp2_with fail
   go_quiet (fail)
   go_wp2
   go_roundg (xs.length - (k + 1))
   case measure=>omega
   case rel=>exact ⟨k + 1,_,by omega,by go_num,by first | rfl | exact drewK _ _ _⟩
  ·have hki:¬ (k:Int) < (xs.length:Int):=by omega
   go_wp2
   go_ret
   exact ⟨rfl,nn,rfl⟩
end Go.Proofs.YtiiepfplommmfaaGreatDoor
