/-
  Object's reader: a function.
-/
import Derived.Test.YtiiepfplommmfaaGreatDoorG27
namespace Go.Proofs.YtiiepfplommmfaaGreatDoor
open Go.RowKit

set_option maxHeartbeats 4000000 in
set_option maxRecDepth 1000000 in
theorem rraw7 (n : Nat) (b g : Nat) (l : List Nat) (p y : Nat) (w : World) (hl : l.length ≤ 140737488355328) (h256 : ∀ x ∈ l, x < 256) (hp : p ≤ l.length) (hr : Wire.RIs w b g l p y) (hn : n ≤ 65535) :
  Calls Tryz.prog 168 #[.pointer (some ⟨b,0,none⟩),.int .i64 (n:Int)] w (BrE ((Wire.rTake l p y n).1.map UInt8.ofNat,(Wire.rTake l p y n).2) l b g w):=by
 refine (Wire.rraw (n:Int) b g l p y w (by omega) hl hp hr).mono ?_
 rintro e w' ⟨v,g',rfl,h1,h2,h3,h4⟩
 have hx:∀ x ∈ (Wire.rTake l p y (n:Int)).1,x < 256:=by
  intro x hx
  unfold Wire.rTake at hx
  split at hx
  ·simp at hx
  ·split at hx
   ·simp at hx
   ·exact h256 x (List.mem_of_mem_drop (List.mem_of_mem_take hx))
 refine ⟨v,rfl,?_,h3,h4⟩
 generalize (Wire.rTake l p y (n:Int)).1 = xs at *
 rcases h1.shape with ⟨rfl,rfl⟩ | ⟨cap,rfl,hcap,_⟩
 ·exact .inl ⟨none,0,rfl,rfl⟩
 ·refine .inr ⟨g',0,cap,by simp,by simpa using hcap,⟨h2,h1.lt (k:=g') rfl⟩,fun j x hj=>?_⟩
  simp only [List.getElem?_map,Option.map_eq_some_iff] at hj
  obtain ⟨m,hm,rfl⟩:=hj
  obtain ⟨hjl,rfl⟩:=List.getElem?_eq_some_iff.1 hm
  have hc:=h1.cell j hjl
  have hl2:=hx _ (List.getElem_mem hjl)
  rw [Nat.zero_add,hc]
  simp [List.getD,hjl]
  omega
theorem txt_is (l:List Nat) (p y:Nat):txtR l 65535 p y = ((Wire.rTake l (Wire.rNum l p y 65535).2.1 (Wire.rNum l p y 65535).2.2 ((Wire.rNum l p y 65535).1:Nat)).1.map UInt8.ofNat,(Wire.rTake l (Wire.rNum l p y 65535).2.1 (Wire.rNum l p y 65535).2.2 ((Wire.rNum l p y 65535).1:Nat)).2):=rfl
theorem Fill.drew {b g:Nat} {l:List Nat} {RT T:Nat} {Z cs:Array Value} {p y:Nat} {w u:World} (h:Fill b g l RT T Z w u cs p y):Fill b g l RT T Z w u.drew cs p y :=
 ⟨h.rbox,h.res,h.var,h.rd.kept ((Wire.Kept.refl (fun _=>False) u).drew) (fun h=>h) (fun h=>h),h.kept.drew,h.hb,h.hg,h.sz⟩
set_option maxHeartbeats 4000000 in
set_option maxRecDepth 1000000 in
theorem rfunO (b g : Nat) (l : List Nat) (p y : Nat) (w : World) (hl : l.length ≤ 140737488355328) (h256 : ∀ x ∈ l, x < 256) (hp : p ≤ l.length) (hr : Wire.RIs w b g l p y) :
  Calls Tryz.prog 119 #[rdv b] w (RdE cFn (fnR l p y) l b g w):=by
 have F0:Fill b g l 115 52 #[.string ⟨#[]⟩,.slice none 0 0,.int .i64 0,.string ⟨#[]⟩,.int .i64 0,.slice none 0 0] w (((w.alloc (.cells #[.pointer (some ⟨b,0,none⟩)] 115)).alloc (.cells #[.string ⟨#[]⟩,.slice none 0 0,.int .i64 0,.string ⟨#[]⟩,.int .i64 0,.slice none 0 0] 52)).alloc (.cells #[.string ⟨#[]⟩,.slice none 0 0,.int .i64 0,.string ⟨#[]⟩,.int .i64 0,.slice none 0 0] 52)) #[.string ⟨#[]⟩,.slice none 0 0,.int .i64 0,.string ⟨#[]⟩,.int .i64 0,.slice none 0 0] p y:=Fill.start hr 115 52 #[.string ⟨#[]⟩,.slice none 0 0,.int .i64 0,.string ⟨#[]⟩,.int .i64 0,.slice none 0 0]
 unfold fnR
 dsimp only
 simp only [txt_is]
 have h0:=fun u (hu:Wire.RIs u b g l p y)=>rname b g l p y u hl h256 hp hu
 have le0:=txt_le l 24 p y hp
 unfold TeE at h0
 generalize txtR l 24 p y = X0 at *
 obtain ⟨nm,p0,y0⟩:=X0
 simp only at h0 le0 ⊢
 have h1:=fun u (hu:Wire.RIs u b g l p0 y0)=>rlistT b g l p0 y0 u hl h256 le0 hu
 have le1:=list_le (txt_le l 200) p0 y0 le0
 unfold RlE at h1
 generalize listR l (txtR l 200) p0 y0 = X1 at *
 obtain ⟨ps,p1,y1⟩:=X1
 simp only at h1 le1 ⊢
 have h2:=fun u (hu:Wire.RIs u b g l p1 y1)=>rnm b g l p1 y1 u hl h256 le1 hu
 have le2:=Wire.rNum_le l p1 y1 65535 le1
 have mo2:=Wire.rNum_most l p1 y1 65535
 unfold NuE at h2
 generalize Wire.rNum l p1 y1 65535 = X2 at *
 obtain ⟨cn,p2,y2⟩:=X2
 simp only at h2 le2 mo2 ⊢
 have h3:=fun u (hu:Wire.RIs u b g l p2 y2)=>rtype b g l p2 y2 u hl h256 le2 hu
 have le3:=txt_le l 200 p2 y2 le2
 unfold TeE at h3
 generalize txtR l 200 p2 y2 = X3 at *
 obtain ⟨rs,p3,y3⟩:=X3
 simp only at h3 le3 ⊢
 have h4:=fun u (hu:Wire.RIs u b g l p3 y3)=>rnm b g l p3 y3 u hl h256 le3 hu
 have le4:=Wire.rNum_le l p3 y3 65535 le3
 have mo4:=Wire.rNum_most l p3 y3 65535
 unfold NuE at h4
 generalize Wire.rNum l p3 y3 65535 = X4 at *
 obtain ⟨ln,p4,y4⟩:=X4
 simp only at h4 le4 mo4 ⊢
 have h5:=fun u (hu:Wire.RIs u b g l p4 y4)=>rnm b g l p4 y4 u hl h256 le4 hu
 have le5:=Wire.rNum_le l p4 y4 65535 le4
 have mo5:=Wire.rNum_most l p4 y4 65535
 unfold NuE at h5
 generalize Wire.rNum l p4 y4 65535 = X5 at *
 obtain ⟨dn,p5,y5⟩:=X5
 simp only at h5 le5 mo5 ⊢
 have h6:=fun u (hu:Wire.RIs u b g l p5 y5)=>rraw7 dn b g l p5 y5 u hl h256 le5 hu (by omega)
 have le6:=take_le l p5 y5 dn le5
 unfold BrE at h6
 generalize Wire.rTake l p5 y5 (dn:Int) = X6 at *
 obtain ⟨kq,p6,y6⟩:=X6
 simp only at h6 le6 ⊢
 generalize kq.map UInt8.ofNat = kd at *
 have g0:=h0 _ F0.rd
 have q0:=F0.ptr
 unfold rdv at *
 go_enter Tryz.func119,Tryz.ntmps119
 go_wp2_with fail
 generalize (((w.alloc (.cells #[.pointer (some ⟨b,0,none⟩)] 115)).alloc (.cells #[.string ⟨#[]⟩,.slice none 0 0,.int .i64 0,.string ⟨#[]⟩,.int .i64 0,.slice none 0 0] 52)).alloc (.cells #[.string ⟨#[]⟩,.slice none 0 0,.int .i64 0,.string ⟨#[]⟩,.int .i64 0,.slice none 0 0] 52)) = v0 at *
 refine g0.mono ?_
 rintro e u0 ⟨rfl,r0,k0⟩
 have F0c:=F0.call k0 r0
 have c0_0:u0.cell? ⟨w.heap.size + 1 + 1,0,none⟩ = some (.string ⟨#[]⟩):=F0c.cell 0
 have f0_0:=F0c.frozen 0
 have F0s0:Fill b g l 115 52 #[.string ⟨#[]⟩,.slice none 0 0,.int .i64 0,.string ⟨#[]⟩,.int .i64 0,.slice none 0 0] w (u0.setCell ⟨w.heap.size + 1 + 1,0,none⟩ (.string (str nm))) #[.string (str nm),.slice none 0 0,.int .i64 0,.string ⟨#[]⟩,.int .i64 0,.slice none 0 0] p0 y0:=F0c.store 0 (.string (str nm))
 have F1:=F0s0
 have g1:=h1 _ F1.rd
 have q1:=F1.ptr
 clear h0 g0 F0 F0c r0 k0 q0 F0s0
 go_wp2_with fail
 generalize (u0.setCell ⟨w.heap.size + 1 + 1,0,none⟩ (.string (str nm))) = v1 at *
 refine g1.mono ?_
 rintro e u1 ⟨fv1,rfl,t1,n1,r1,k1⟩
 obtain ⟨fa1,fc1,rfl⟩:=t1.shape
 have F1c:=F1.call k1 r1
 have t1:RwR 1 cTx (fun z=>w.heap.size + 3 ≤ z ∧ z < u1.heap.size) u1 (.slice fa1 ps.length fc1) ps:=t1.frame (stayK cTxK) (Fill.take F1)
 have c1_1:u1.cell? ⟨w.heap.size + 1 + 1,1,none⟩ = some (.slice none 0 0):=F1c.cell 1
 have f1_1:=F1c.frozen 1
 have F1s1:Fill b g l 115 52 #[.string ⟨#[]⟩,.slice none 0 0,.int .i64 0,.string ⟨#[]⟩,.int .i64 0,.slice none 0 0] w (u1.setCell ⟨w.heap.size + 1 + 1,1,none⟩ (.slice fa1 ps.length fc1)) #[.string (str nm),.slice fa1 ps.length fc1,.int .i64 0,.string ⟨#[]⟩,.int .i64 0,.slice none 0 0] p1 y1:=F1c.store 1 (.slice fa1 ps.length fc1)
 have t1:RwR 1 cTx (fun z=>w.heap.size + 3 ≤ z ∧ z < (u1.setCell ⟨w.heap.size + 1 + 1,1,none⟩ (.slice fa1 ps.length fc1)).heap.size) (u1.setCell ⟨w.heap.size + 1 + 1,1,none⟩ (.slice fa1 ps.length fc1)) (.slice fa1 ps.length fc1) ps:=t1.frame (stayK cTxK) (F1c.carryS 1 (.slice fa1 ps.length fc1))
 have F2:=F1s1
 have g2:=h2 _ F2.rd
 have q2:=F2.ptr
 clear h1 g1 F1 F1c r1 k1 q1 F1s1
 go_wp2_with fail
 generalize (u1.setCell ⟨w.heap.size + 1 + 1,1,none⟩ (.slice fa1 ps.length fc1)) = v2 at *
 refine g2.mono ?_
 rintro e u2 ⟨rfl,r2,k2⟩
 have F2c:=F2.call k2 r2
 have t1:RwR 1 cTx (fun z=>w.heap.size + 3 ≤ z ∧ z < u2.heap.size) u2 (.slice fa1 ps.length fc1) ps:=t1.frame (stayK cTxK) (F2.carryC k2)
 have c2_2:u2.cell? ⟨w.heap.size + 1 + 1,2,none⟩ = some (.int .i64 0):=F2c.cell 2
 have f2_2:=F2c.frozen 2
 have F2s2:Fill b g l 115 52 #[.string ⟨#[]⟩,.slice none 0 0,.int .i64 0,.string ⟨#[]⟩,.int .i64 0,.slice none 0 0] w (u2.setCell ⟨w.heap.size + 1 + 1,2,none⟩ (.int .i64 (cn:Int))) #[.string (str nm),.slice fa1 ps.length fc1,.int .i64 (cn:Int),.string ⟨#[]⟩,.int .i64 0,.slice none 0 0] p2 y2:=F2c.store 2 (.int .i64 (cn:Int))
 have t1:RwR 1 cTx (fun z=>w.heap.size + 3 ≤ z ∧ z < (u2.setCell ⟨w.heap.size + 1 + 1,2,none⟩ (.int .i64 (cn:Int))).heap.size) (u2.setCell ⟨w.heap.size + 1 + 1,2,none⟩ (.int .i64 (cn:Int))) (.slice fa1 ps.length fc1) ps:=t1.frame (stayK cTxK) (F2c.carryS 2 (.int .i64 (cn:Int)))
 have F3:=F2s2
 have g3:=h3 _ F3.rd
 have q3:=F3.ptr
 clear h2 g2 F2 F2c r2 k2 q2 F2s2
 go_wp2_with fail
 generalize (u2.setCell ⟨w.heap.size + 1 + 1,2,none⟩ (.int .i64 (cn:Int))) = v3 at *
 refine g3.mono ?_
 rintro e u3 ⟨rfl,r3,k3⟩
 have F3c:=F3.call k3 r3
 have t1:RwR 1 cTx (fun z=>w.heap.size + 3 ≤ z ∧ z < u3.heap.size) u3 (.slice fa1 ps.length fc1) ps:=t1.frame (stayK cTxK) (F3.carryC k3)
 have c3_3:u3.cell? ⟨w.heap.size + 1 + 1,3,none⟩ = some (.string ⟨#[]⟩):=F3c.cell 3
 have f3_3:=F3c.frozen 3
 have F3s3:Fill b g l 115 52 #[.string ⟨#[]⟩,.slice none 0 0,.int .i64 0,.string ⟨#[]⟩,.int .i64 0,.slice none 0 0] w (u3.setCell ⟨w.heap.size + 1 + 1,3,none⟩ (.string (str rs))) #[.string (str nm),.slice fa1 ps.length fc1,.int .i64 (cn:Int),.string (str rs),.int .i64 0,.slice none 0 0] p3 y3:=F3c.store 3 (.string (str rs))
 have t1:RwR 1 cTx (fun z=>w.heap.size + 3 ≤ z ∧ z < (u3.setCell ⟨w.heap.size + 1 + 1,3,none⟩ (.string (str rs))).heap.size) (u3.setCell ⟨w.heap.size + 1 + 1,3,none⟩ (.string (str rs))) (.slice fa1 ps.length fc1) ps:=t1.frame (stayK cTxK) (F3c.carryS 3 (.string (str rs)))
 have F4:=F3s3
 have g4:=h4 _ F4.rd
 have q4:=F4.ptr
 clear h3 g3 F3 F3c r3 k3 q3 F3s3
 go_wp2_with fail
 generalize (u3.setCell ⟨w.heap.size + 1 + 1,3,none⟩ (.string (str rs))) = v4 at *
 refine g4.mono ?_
 rintro e u4 ⟨rfl,r4,k4⟩
 have F4c:=F4.call k4 r4
 have t1:RwR 1 cTx (fun z=>w.heap.size + 3 ≤ z ∧ z < u4.heap.size) u4 (.slice fa1 ps.length fc1) ps:=t1.frame (stayK cTxK) (F4.carryC k4)
 have c4_4:u4.cell? ⟨w.heap.size + 1 + 1,4,none⟩ = some (.int .i64 0):=F4c.cell 4
 have f4_4:=F4c.frozen 4
 have F4s4:Fill b g l 115 52 #[.string ⟨#[]⟩,.slice none 0 0,.int .i64 0,.string ⟨#[]⟩,.int .i64 0,.slice none 0 0] w (u4.setCell ⟨w.heap.size + 1 + 1,4,none⟩ (.int .i64 (ln:Int))) #[.string (str nm),.slice fa1 ps.length fc1,.int .i64 (cn:Int),.string (str rs),.int .i64 (ln:Int),.slice none 0 0] p4 y4:=F4c.store 4 (.int .i64 (ln:Int))
 have t1:RwR 1 cTx (fun z=>w.heap.size + 3 ≤ z ∧ z < (u4.setCell ⟨w.heap.size + 1 + 1,4,none⟩ (.int .i64 (ln:Int))).heap.size) (u4.setCell ⟨w.heap.size + 1 + 1,4,none⟩ (.int .i64 (ln:Int))) (.slice fa1 ps.length fc1) ps:=t1.frame (stayK cTxK) (F4c.carryS 4 (.int .i64 (ln:Int)))
 have F5:=F4s4
 have g5:=h5 _ F5.rd
 have q5:=F5.ptr
 clear h4 g4 F4 F4c r4 k4 q4 F4s4
 go_upto_region 7 with fail
 generalize (u4.setCell ⟨w.heap.size + 1 + 1,4,none⟩ (.int .i64 (ln:Int))) = v5 at *
 clear g5
 have hK5:=hidden h5
 have hK6:=hidden h6
 clear h5 h6
 first | (go_region_with (first
  | (go_at_call 164; refine (hK5.out _ (by first | exact F5.rd | exact F5.drew.rd)).mono ?_; rintro e u5 ⟨rfl,r5,k5⟩; have F6:Fill b g l 115 52 #[.string ⟨#[]⟩,.slice none 0 0,.int .i64 0,.string ⟨#[]⟩,.int .i64 0,.slice none 0 0] w u5 #[.string (str nm),.slice fa1 ps.length fc1,.int .i64 (cn:Int),.string (str rs),.int .i64 (ln:Int),.slice none 0 0] p5 y5:=(by first | exact F5.call k5 r5 | exact F5.drew.call k5 r5); have q6:=F6.ptr)
  | (go_at_call 168; refine (hK6.out _ (by first | exact F6.rd | exact F6.drew.rd)).mono ?_; rintro e u6 ⟨fv6,rfl,t6,r6,k6⟩; obtain ⟨fa6,fc6,rfl⟩:=t6.shape; have F7:Fill b g l 115 52 #[.string ⟨#[]⟩,.slice none 0 0,.int .i64 0,.string ⟨#[]⟩,.int .i64 0,.slice none 0 0] w u6 #[.string (str nm),.slice fa1 ps.length fc1,.int .i64 (cn:Int),.string (str rs),.int .i64 (ln:Int),.slice none 0 0] p6 y6:=(by first | exact F6.call k6 r6 | exact F6.drew.call k6 r6); have c6:u6.cell? ⟨w.heap.size + 1 + 1,5,none⟩ = some (.slice none 0 0):=F7.cell 5; have f6:=F7.frozen 5))) | fail
 all_goals
  have t6:ByR (fun z=>w.heap.size + 3 ≤ z ∧ z < u6.heap.size) u6 (.slice fa6 kd.length fc6) kd:=by first | exact t6.frame (Fill.take F6) | exact t6.frame (Fill.take F6.drew)
  have t1:RwR 1 cTx (fun z=>w.heap.size + 3 ≤ z ∧ z < u5.heap.size) u5 (.slice fa1 ps.length fc1) ps:=by first | exact t1.frame (stayK cTxK) (F5.carryC k5) | exact t1.frame (stayK cTxK) (F5.drew.carryC k5)
  have t1:RwR 1 cTx (fun z=>w.heap.size + 3 ≤ z ∧ z < u6.heap.size) u6 (.slice fa1 ps.length fc1) ps:=by first | exact t1.frame (stayK cTxK) (F6.carryC k6) | exact t1.frame (stayK cTxK) (F6.drew.carryC k6)
  have F8:Fill b g l 115 52 #[.string ⟨#[]⟩,.slice none 0 0,.int .i64 0,.string ⟨#[]⟩,.int .i64 0,.slice none 0 0] w (u6.setCell ⟨w.heap.size + 1 + 1,5,none⟩ (.slice fa6 kd.length fc6)) #[.string (str nm),.slice fa1 ps.length fc1,.int .i64 (cn:Int),.string (str rs),.int .i64 (ln:Int),.slice fa6 kd.length fc6] p6 y6:=F7.store 5 (.slice fa6 kd.length fc6)
  have t1:RwR 1 cTx (fun z=>w.heap.size + 3 ≤ z ∧ z < (u6.setCell ⟨w.heap.size + 1 + 1,5,none⟩ (.slice fa6 kd.length fc6)).heap.size) (u6.setCell ⟨w.heap.size + 1 + 1,5,none⟩ (.slice fa6 kd.length fc6)) (.slice fa1 ps.length fc1) ps:=t1.frame (stayK cTxK) (F7.carryS 5 (.slice fa6 kd.length fc6))
  have t6:ByR (fun z=>w.heap.size + 3 ≤ z ∧ z < (u6.setCell ⟨w.heap.size + 1 + 1,5,none⟩ (.slice fa6 kd.length fc6)).heap.size) (u6.setCell ⟨w.heap.size + 1 + 1,5,none⟩ (.slice fa6 kd.length fc6)) (.slice fa6 kd.length fc6) kd:=t6.frame (F7.carryS 5 (.slice fa6 kd.length fc6))
  have d0:(u6.setCell ⟨w.heap.size + 1 + 1,5,none⟩ (.slice fa6 kd.length fc6)).cell? ⟨w.heap.size + 1 + 1,0,none⟩ = some (.string (str nm)):=F8.cell 0
  have d1:(u6.setCell ⟨w.heap.size + 1 + 1,5,none⟩ (.slice fa6 kd.length fc6)).cell? ⟨w.heap.size + 1 + 1,1,none⟩ = some (.slice fa1 ps.length fc1):=F8.cell 1
  have d2:(u6.setCell ⟨w.heap.size + 1 + 1,5,none⟩ (.slice fa6 kd.length fc6)).cell? ⟨w.heap.size + 1 + 1,2,none⟩ = some (.int .i64 (cn:Int)):=F8.cell 2
  have d3:(u6.setCell ⟨w.heap.size + 1 + 1,5,none⟩ (.slice fa6 kd.length fc6)).cell? ⟨w.heap.size + 1 + 1,3,none⟩ = some (.string (str rs)):=F8.cell 3
  have d4:(u6.setCell ⟨w.heap.size + 1 + 1,5,none⟩ (.slice fa6 kd.length fc6)).cell? ⟨w.heap.size + 1 + 1,4,none⟩ = some (.int .i64 (ln:Int)):=F8.cell 4
  have d5:(u6.setCell ⟨w.heap.size + 1 + 1,5,none⟩ (.slice fa6 kd.length fc6)).cell? ⟨w.heap.size + 1 + 1,5,none⟩ = some (.slice fa6 kd.length fc6):=F8.cell 5
  have hA:=F8.res
  obtain ⟨rE,kE,cE⟩:=F8.done #[.string (str nm),.slice fa1 ps.length fc1,.int .i64 (cn:Int),.string (str rs),.int .i64 (ln:Int),.slice fa6 kd.length fc6]
  have t1:=t1.frame (stayK cTxK) cE
  have t6:=t6.frame cE
  clear F5 F6 F7 F8 k5 k6 r5 r6 hK5 hK6 q5 q6 cE
  go_wp2_with (refine wpList_store_row rfl 52 (.tmp 2) (.tmp 27) rfl (w.heap.size + 1) #[.string (str nm),.slice fa1 ps.length fc1,.int .i64 (cn:Int),.string (str rs),.int .i64 (ln:Int),.slice fa6 kd.length fc6] rfl rfl 52 #[.string ⟨#[]⟩,.slice none 0 0,.int .i64 0,.string ⟨#[]⟩,.int .i64 0,.slice none 0 0] hA szFnO rfl (by kernel_rfl) ?_)
  (try simp only [Exit.inBlock,Exit.then])
  refine bodyPost_ret (results_cell_row rfl _ _ (w.heap.size + 1) 52 #[.string (str nm),.slice fa1 ps.length fc1,.int .i64 (cn:Int),.string (str rs),.int .i64 (ln:Int),.slice fa6 kd.length fc6] (0,0) _ rfl (setRow_heap _ (w.heap.size + 1) _ _ 52 (0,0) hA) Tryz.underlying52 rfl szFnO) rfl ?_
  exact ⟨[.string (str nm),.slice fa1 ps.length fc1,.int .i64 (cn:Int),.string (str rs),.int .i64 (ln:Int),.slice fa6 kd.length fc6],rfl,⟨_,_,rfl,rw_txC t1,t6⟩,rE,kE⟩
end Go.Proofs.YtiiepfplommmfaaGreatDoor
