/-
  Object's reader: a global, a relocation, an item, a symbol.
-/
import Derived.Test.YtiiepfplommmfaaGreatDoorG26
namespace Go.Proofs.YtiiepfplommmfaaGreatDoor
open Go.RowKit

set_option maxHeartbeats 4000000 in
set_option maxRecDepth 1000000 in
theorem rglobal (b g : Nat) (l : List Nat) (p y : Nat) (w : World) (hl : l.length ≤ 140737488355328) (h256 : ∀ x ∈ l, x < 256) (hp : p ≤ l.length) (hr : Wire.RIs w b g l p y) :
  Calls Tryz.prog 117 #[rdv b] w (RdE cGl (glR l p y) l b g w):=by
 have F0:Fill b g l 115 73 #[.string ⟨#[]⟩,.string ⟨#[]⟩,.int .i64 0] w (((w.alloc (.cells #[.pointer (some ⟨b,0,none⟩)] 115)).alloc (.cells #[.string ⟨#[]⟩,.string ⟨#[]⟩,.int .i64 0] 73)).alloc (.cells #[.string ⟨#[]⟩,.string ⟨#[]⟩,.int .i64 0] 73)) #[.string ⟨#[]⟩,.string ⟨#[]⟩,.int .i64 0] p y:=Fill.start hr 115 73 #[.string ⟨#[]⟩,.string ⟨#[]⟩,.int .i64 0]
 unfold glR
 try dsimp only
 have h0:=fun u (hu:Wire.RIs u b g l p y)=>rname b g l p y u hl h256 hp hu
 have le0:=txt_le l 24 p y hp
 unfold TeE at h0
 generalize txtR l 24 p y = X0 at *
 obtain ⟨nm,p0,y0⟩:=X0
 simp only at h0 le0 ⊢
 have h1:=fun u (hu:Wire.RIs u b g l p0 y0)=>rtype b g l p0 y0 u hl h256 le0 hu
 have le1:=txt_le l 200 p0 y0 le0
 unfold TeE at h1
 generalize txtR l 200 p0 y0 = X1 at *
 obtain ⟨ty,p1,y1⟩:=X1
 simp only at h1 le1 ⊢
 have h2:=fun u (hu:Wire.RIs u b g l p1 y1)=>rnm b g l p1 y1 u hl h256 le1 hu
 have le2:=Wire.rNum_le l p1 y1 65535 le1
 have mo2:=Wire.rNum_most l p1 y1 65535
 unfold NuE at h2
 generalize Wire.rNum l p1 y1 65535 = X2 at *
 obtain ⟨fn,p2,y2⟩:=X2
 simp only at h2 le2 mo2 ⊢
 have g0:=h0 _ F0.rd
 have q0:=F0.ptr
 unfold rdv at *
 go_enter Tryz.func117,Tryz.ntmps117
 go_wp2_with fail
 generalize (((w.alloc (.cells #[.pointer (some ⟨b,0,none⟩)] 115)).alloc (.cells #[.string ⟨#[]⟩,.string ⟨#[]⟩,.int .i64 0] 73)).alloc (.cells #[.string ⟨#[]⟩,.string ⟨#[]⟩,.int .i64 0] 73)) = v0 at *
 refine g0.mono ?_
 rintro e u0 ⟨rfl,r0,k0⟩
 have F0c:=F0.call k0 r0
 have c0_0:u0.cell? ⟨w.heap.size + 1 + 1,0,none⟩ = some (.string ⟨#[]⟩):=F0c.cell 0
 have f0_0:=F0c.frozen 0
 have F0s0:Fill b g l 115 73 #[.string ⟨#[]⟩,.string ⟨#[]⟩,.int .i64 0] w (u0.setCell ⟨w.heap.size + 1 + 1,0,none⟩ (.string (str nm))) #[.string (str nm),.string ⟨#[]⟩,.int .i64 0] p0 y0:=F0c.store 0 (.string (str nm))
 have F1:=F0s0
 have g1:=h1 _ F1.rd
 have q1:=F1.ptr
 clear h0 g0 F0 F0c r0 k0 q0 F0s0
 go_wp2_with fail
 generalize (u0.setCell ⟨w.heap.size + 1 + 1,0,none⟩ (.string (str nm))) = v1 at *
 refine g1.mono ?_
 rintro e u1 ⟨rfl,r1,k1⟩
 have F1c:=F1.call k1 r1
 have c1_1:u1.cell? ⟨w.heap.size + 1 + 1,1,none⟩ = some (.string ⟨#[]⟩):=F1c.cell 1
 have f1_1:=F1c.frozen 1
 have F1s1:Fill b g l 115 73 #[.string ⟨#[]⟩,.string ⟨#[]⟩,.int .i64 0] w (u1.setCell ⟨w.heap.size + 1 + 1,1,none⟩ (.string (str ty))) #[.string (str nm),.string (str ty),.int .i64 0] p1 y1:=F1c.store 1 (.string (str ty))
 have F2:=F1s1
 have g2:=h2 _ F2.rd
 have q2:=F2.ptr
 clear h1 g1 F1 F1c r1 k1 q1 F1s1
 go_wp2_with fail
 generalize (u1.setCell ⟨w.heap.size + 1 + 1,1,none⟩ (.string (str ty))) = v2 at *
 refine g2.mono ?_
 rintro e u2 ⟨rfl,r2,k2⟩
 have F2c:=F2.call k2 r2
 have c2_2:u2.cell? ⟨w.heap.size + 1 + 1,2,none⟩ = some (.int .i64 0):=F2c.cell 2
 have f2_2:=F2c.frozen 2
 have F2s2:Fill b g l 115 73 #[.string ⟨#[]⟩,.string ⟨#[]⟩,.int .i64 0] w (u2.setCell ⟨w.heap.size + 1 + 1,2,none⟩ (.int .i64 (fn:Int))) #[.string (str nm),.string (str ty),.int .i64 (fn:Int)] p2 y2:=F2c.store 2 (.int .i64 (fn:Int))
 have d0:(u2.setCell ⟨w.heap.size + 1 + 1,2,none⟩ (.int .i64 (fn:Int))).cell? ⟨w.heap.size + 1 + 1,0,none⟩ = some (.string (str nm)):=F2s2.cell 0
 have d1:(u2.setCell ⟨w.heap.size + 1 + 1,2,none⟩ (.int .i64 (fn:Int))).cell? ⟨w.heap.size + 1 + 1,1,none⟩ = some (.string (str ty)):=F2s2.cell 1
 have d2:(u2.setCell ⟨w.heap.size + 1 + 1,2,none⟩ (.int .i64 (fn:Int))).cell? ⟨w.heap.size + 1 + 1,2,none⟩ = some (.int .i64 (fn:Int)):=F2s2.cell 2
 have hA:=F2s2.res
 obtain ⟨rE,kE,cE⟩:=F2s2.done #[.string (str nm),.string (str ty),.int .i64 (fn:Int)]
 clear h2 g2 F2 F2c r2 k2 q2 F2s2 cE
 go_wp2_with (refine wpList_store_row rfl 73 (.tmp 2) (.tmp 13) rfl (w.heap.size + 1) #[.string (str nm),.string (str ty),.int .i64 (fn:Int)] rfl rfl 73 #[.string ⟨#[]⟩,.string ⟨#[]⟩,.int .i64 0] hA szGlO rfl (by kernel_rfl) ?_)
 (try simp only [Exit.inBlock,Exit.then])
 refine bodyPost_ret (results_cell_row rfl _ _ (w.heap.size + 1) 73 #[.string (str nm),.string (str ty),.int .i64 (fn:Int)] (0,0) _ rfl (setRow_heap _ (w.heap.size + 1) _ _ 73 (0,0) hA) Tryz.underlying73 rfl szGlO) rfl ?_
 exact ⟨[.string (str nm),.string (str ty),.int .i64 (fn:Int)],rfl,rfl,rE,kE⟩
set_option maxHeartbeats 4000000 in
set_option maxRecDepth 1000000 in
theorem rreloc (b g : Nat) (l : List Nat) (p y : Nat) (w : World) (hl : l.length ≤ 140737488355328) (h256 : ∀ x ∈ l, x < 256) (hp : p ≤ l.length) (hr : Wire.RIs w b g l p y) :
  Calls Tryz.prog 123 #[rdv b] w (RdE cRl (rlR l p y) l b g w):=by
 have F0:Fill b g l 115 82 #[.int .i64 0,.int .i64 0,.int .i64 0] w (((w.alloc (.cells #[.pointer (some ⟨b,0,none⟩)] 115)).alloc (.cells #[.int .i64 0,.int .i64 0,.int .i64 0] 82)).alloc (.cells #[.int .i64 0,.int .i64 0,.int .i64 0] 82)) #[.int .i64 0,.int .i64 0,.int .i64 0] p y:=Fill.start hr 115 82 #[.int .i64 0,.int .i64 0,.int .i64 0]
 unfold rlR
 try dsimp only
 have h0:=fun u (hu:Wire.RIs u b g l p y)=>rnm b g l p y u hl h256 hp hu
 have le0:=Wire.rNum_le l p y 65535 hp
 have mo0:=Wire.rNum_most l p y 65535
 unfold NuE at h0
 generalize Wire.rNum l p y 65535 = X0 at *
 obtain ⟨fn,p0,y0⟩:=X0
 simp only at h0 le0 mo0 ⊢
 have h1:=fun u (hu:Wire.RIs u b g l p0 y0)=>rnm b g l p0 y0 u hl h256 le0 hu
 have le1:=Wire.rNum_le l p0 y0 65535 le0
 have mo1:=Wire.rNum_most l p0 y0 65535
 unfold NuE at h1
 generalize Wire.rNum l p0 y0 65535 = X1 at *
 obtain ⟨pl,p1,y1⟩:=X1
 simp only at h1 le1 mo1 ⊢
 have h2:=fun u (hu:Wire.RIs u b g l p1 y1)=>rnm b g l p1 y1 u hl h256 le1 hu
 have le2:=Wire.rNum_le l p1 y1 65535 le1
 have mo2:=Wire.rNum_most l p1 y1 65535
 unfold NuE at h2
 generalize Wire.rNum l p1 y1 65535 = X2 at *
 obtain ⟨sy,p2,y2⟩:=X2
 simp only at h2 le2 mo2 ⊢
 have g0:=h0 _ F0.rd
 have q0:=F0.ptr
 unfold rdv at *
 go_enter Tryz.func123,Tryz.ntmps123
 go_wp2_with fail
 generalize (((w.alloc (.cells #[.pointer (some ⟨b,0,none⟩)] 115)).alloc (.cells #[.int .i64 0,.int .i64 0,.int .i64 0] 82)).alloc (.cells #[.int .i64 0,.int .i64 0,.int .i64 0] 82)) = v0 at *
 refine g0.mono ?_
 rintro e u0 ⟨rfl,r0,k0⟩
 have F0c:=F0.call k0 r0
 have c0_0:u0.cell? ⟨w.heap.size + 1 + 1,0,none⟩ = some (.int .i64 0):=F0c.cell 0
 have f0_0:=F0c.frozen 0
 have F0s0:Fill b g l 115 82 #[.int .i64 0,.int .i64 0,.int .i64 0] w (u0.setCell ⟨w.heap.size + 1 + 1,0,none⟩ (.int .i64 (fn:Int))) #[.int .i64 (fn:Int),.int .i64 0,.int .i64 0] p0 y0:=F0c.store 0 (.int .i64 (fn:Int))
 have F1:=F0s0
 have g1:=h1 _ F1.rd
 have q1:=F1.ptr
 clear h0 g0 F0 F0c r0 k0 q0 F0s0
 go_wp2_with fail
 generalize (u0.setCell ⟨w.heap.size + 1 + 1,0,none⟩ (.int .i64 (fn:Int))) = v1 at *
 refine g1.mono ?_
 rintro e u1 ⟨rfl,r1,k1⟩
 have F1c:=F1.call k1 r1
 have c1_1:u1.cell? ⟨w.heap.size + 1 + 1,1,none⟩ = some (.int .i64 0):=F1c.cell 1
 have f1_1:=F1c.frozen 1
 have F1s1:Fill b g l 115 82 #[.int .i64 0,.int .i64 0,.int .i64 0] w (u1.setCell ⟨w.heap.size + 1 + 1,1,none⟩ (.int .i64 (pl:Int))) #[.int .i64 (fn:Int),.int .i64 (pl:Int),.int .i64 0] p1 y1:=F1c.store 1 (.int .i64 (pl:Int))
 have F2:=F1s1
 have g2:=h2 _ F2.rd
 have q2:=F2.ptr
 clear h1 g1 F1 F1c r1 k1 q1 F1s1
 go_wp2_with fail
 generalize (u1.setCell ⟨w.heap.size + 1 + 1,1,none⟩ (.int .i64 (pl:Int))) = v2 at *
 refine g2.mono ?_
 rintro e u2 ⟨rfl,r2,k2⟩
 have F2c:=F2.call k2 r2
 have c2_2:u2.cell? ⟨w.heap.size + 1 + 1,2,none⟩ = some (.int .i64 0):=F2c.cell 2
 have f2_2:=F2c.frozen 2
 have F2s2:Fill b g l 115 82 #[.int .i64 0,.int .i64 0,.int .i64 0] w (u2.setCell ⟨w.heap.size + 1 + 1,2,none⟩ (.int .i64 (sy:Int))) #[.int .i64 (fn:Int),.int .i64 (pl:Int),.int .i64 (sy:Int)] p2 y2:=F2c.store 2 (.int .i64 (sy:Int))
 have d0:(u2.setCell ⟨w.heap.size + 1 + 1,2,none⟩ (.int .i64 (sy:Int))).cell? ⟨w.heap.size + 1 + 1,0,none⟩ = some (.int .i64 (fn:Int)):=F2s2.cell 0
 have d1:(u2.setCell ⟨w.heap.size + 1 + 1,2,none⟩ (.int .i64 (sy:Int))).cell? ⟨w.heap.size + 1 + 1,1,none⟩ = some (.int .i64 (pl:Int)):=F2s2.cell 1
 have d2:(u2.setCell ⟨w.heap.size + 1 + 1,2,none⟩ (.int .i64 (sy:Int))).cell? ⟨w.heap.size + 1 + 1,2,none⟩ = some (.int .i64 (sy:Int)):=F2s2.cell 2
 have hA:=F2s2.res
 obtain ⟨rE,kE,cE⟩:=F2s2.done #[.int .i64 (fn:Int),.int .i64 (pl:Int),.int .i64 (sy:Int)]
 clear h2 g2 F2 F2c r2 k2 q2 F2s2 cE
 go_wp2_with (refine wpList_store_row rfl 82 (.tmp 2) (.tmp 13) rfl (w.heap.size + 1) #[.int .i64 (fn:Int),.int .i64 (pl:Int),.int .i64 (sy:Int)] rfl rfl 82 #[.int .i64 0,.int .i64 0,.int .i64 0] hA szRlO rfl (by kernel_rfl) ?_)
 (try simp only [Exit.inBlock,Exit.then])
 refine bodyPost_ret (results_cell_row rfl _ _ (w.heap.size + 1) 82 #[.int .i64 (fn:Int),.int .i64 (pl:Int),.int .i64 (sy:Int)] (0,0) _ rfl (setRow_heap _ (w.heap.size + 1) _ _ 82 (0,0) hA) Tryz.underlying82 rfl szRlO) rfl ?_
 exact ⟨[.int .i64 (fn:Int),.int .i64 (pl:Int),.int .i64 (sy:Int)],rfl,rfl,rE,kE⟩
def itemK (l:List Nat) (p y:Nat):It × Nat × Nat :=
 let a:=Wire.rNum l p y 65535
 let b:=txtR l 24 a.2.1 a.2.2
 let c:=listR l (caseR l) b.2.1 b.2.2
 (⟨(a.1:Int),b.1,[],c.1⟩,c.2)
def itemV (l:List Nat) (p y:Nat):It × Nat × Nat :=
 let a:=Wire.rNum l p y 65535
 let b:=txtR l 24 a.2.1 a.2.2
 let c:=txtR l 200 b.2.1 b.2.2
 (⟨(a.1:Int),b.1,c.1,[]⟩,c.2)
theorem itemR_is (l:List Nat) (p y:Nat):itemR l p y = if (Wire.rNum l p y 65535).1 = 1 then itemK l p y else itemV l p y:=by
 unfold itemR itemN itemT itemK itemV
 split <;> rfl
set_option maxHeartbeats 4000000 in
set_option maxRecDepth 1000000 in
theorem ritemK (b g : Nat) (l : List Nat) (p y : Nat) (w : World) (hl : l.length ≤ 140737488355328) (h256 : ∀ x ∈ l, x < 256) (hp : p ≤ l.length) (hr : Wire.RIs w b g l p y) (hk : (Wire.rNum l p y 65535).1 = 1) :
  Calls Tryz.prog 113 #[rdv b] w (RdE cIt (itemK l p y) l b g w):=by
 have F0:Fill b g l 115 77 #[.int .i64 0,.string ⟨#[]⟩,.string ⟨#[]⟩,.slice none 0 0] w (((w.alloc (.cells #[.pointer (some ⟨b,0,none⟩)] 115)).alloc (.cells #[.int .i64 0,.string ⟨#[]⟩,.string ⟨#[]⟩,.slice none 0 0] 77)).alloc (.cells #[.int .i64 0,.string ⟨#[]⟩,.string ⟨#[]⟩,.slice none 0 0] 77)) #[.int .i64 0,.string ⟨#[]⟩,.string ⟨#[]⟩,.slice none 0 0] p y:=Fill.start hr 115 77 #[.int .i64 0,.string ⟨#[]⟩,.string ⟨#[]⟩,.slice none 0 0]
 unfold itemK
 try dsimp only
 have h0:=fun u (hu:Wire.RIs u b g l p y)=>rnm b g l p y u hl h256 hp hu
 have le0:=Wire.rNum_le l p y 65535 hp
 have mo0:=Wire.rNum_most l p y 65535
 unfold NuE at h0
 generalize Wire.rNum l p y 65535 = X0 at *
 obtain ⟨kn,p0,y0⟩:=X0
 simp only at h0 le0 mo0 hk ⊢
 have hki:(((kn:Nat):Int) == (1:Int)) = true:=by rw [hk]; rfl
 clear hk
 have h1:=fun u (hu:Wire.RIs u b g l p0 y0)=>rname b g l p0 y0 u hl h256 le0 hu
 have le1:=txt_le l 24 p0 y0 le0
 unfold TeE at h1
 generalize txtR l 24 p0 y0 = X1 at *
 obtain ⟨nm,p1,y1⟩:=X1
 simp only at h1 le1 ⊢
 have h2:=fun u (hu:Wire.RIs u b g l p1 y1)=>rlistC b g l p1 y1 u hl h256 le1 hu
 have le2:=list_le (case_le l) p1 y1 le1
 unfold RlE at h2
 generalize listR l (caseR l) p1 y1 = X2 at *
 obtain ⟨cs,p2,y2⟩:=X2
 simp only at h2 le2 ⊢
 have g0:=h0 _ F0.rd
 have q0:=F0.ptr
 unfold rdv at *
 go_enter Tryz.func113,Tryz.ntmps113
 go_wp2_with fail
 generalize (((w.alloc (.cells #[.pointer (some ⟨b,0,none⟩)] 115)).alloc (.cells #[.int .i64 0,.string ⟨#[]⟩,.string ⟨#[]⟩,.slice none 0 0] 77)).alloc (.cells #[.int .i64 0,.string ⟨#[]⟩,.string ⟨#[]⟩,.slice none 0 0] 77)) = v0 at *
 refine g0.mono ?_
 rintro e u0 ⟨rfl,r0,k0⟩
 have F0c:=F0.call k0 r0
 have c0_0:u0.cell? ⟨w.heap.size + 1 + 1,0,none⟩ = some (.int .i64 0):=F0c.cell 0
 have f0_0:=F0c.frozen 0
 have F0s0:Fill b g l 115 77 #[.int .i64 0,.string ⟨#[]⟩,.string ⟨#[]⟩,.slice none 0 0] w (u0.setCell ⟨w.heap.size + 1 + 1,0,none⟩ (.int .i64 (kn:Int))) #[.int .i64 (kn:Int),.string ⟨#[]⟩,.string ⟨#[]⟩,.slice none 0 0] p0 y0:=F0c.store 0 (.int .i64 (kn:Int))
 have F1:=F0s0
 have g1:=h1 _ F1.rd
 have q1:=F1.ptr
 clear h0 g0 F0 F0c r0 k0 q0 F0s0
 go_wp2_with fail
 generalize (u0.setCell ⟨w.heap.size + 1 + 1,0,none⟩ (.int .i64 (kn:Int))) = v1 at *
 refine g1.mono ?_
 rintro e u1 ⟨rfl,r1,k1⟩
 have F1c:=F1.call k1 r1
 have c1_1:u1.cell? ⟨w.heap.size + 1 + 1,1,none⟩ = some (.string ⟨#[]⟩):=F1c.cell 1
 have f1_1:=F1c.frozen 1
 have F1s1:Fill b g l 115 77 #[.int .i64 0,.string ⟨#[]⟩,.string ⟨#[]⟩,.slice none 0 0] w (u1.setCell ⟨w.heap.size + 1 + 1,1,none⟩ (.string (str nm))) #[.int .i64 (kn:Int),.string (str nm),.string ⟨#[]⟩,.slice none 0 0] p1 y1:=F1c.store 1 (.string (str nm))
 have F2:=F1s1
 have g2:=h2 _ F2.rd
 have q2:=F2.ptr
 have kq:(u1.setCell ⟨w.heap.size + 1 + 1,1,none⟩ (.string (str nm))).cell? ⟨w.heap.size + 1 + 1,0,none⟩ = some (.int .i64 (kn:Int)):=F1s1.cell 0
 clear h1 g1 F1 F1c r1 k1 q1 F1s1
 go_wp2_with fail
 generalize (u1.setCell ⟨w.heap.size + 1 + 1,1,none⟩ (.string (str nm))) = v2 at *
 clear kq
 refine g2.mono ?_
 rintro e u2 ⟨fv2,rfl,t2,n2,r2,k2⟩
 obtain ⟨fa2,fc2,rfl⟩:=t2.shape
 have F2c:=F2.call k2 r2
 have t2:RwR 2 cCs (fun z=>w.heap.size + 3 ≤ z ∧ z < u2.heap.size) u2 (.slice fa2 cs.length fc2) cs:=t2.frame (stayK cCsK) (Fill.take F2)
 have c2_3:u2.cell? ⟨w.heap.size + 1 + 1,3,none⟩ = some (.slice none 0 0):=F2c.cell 3
 have f2_3:=F2c.frozen 3
 have F2s3:Fill b g l 115 77 #[.int .i64 0,.string ⟨#[]⟩,.string ⟨#[]⟩,.slice none 0 0] w (u2.setCell ⟨w.heap.size + 1 + 1,3,none⟩ (.slice fa2 cs.length fc2)) #[.int .i64 (kn:Int),.string (str nm),.string ⟨#[]⟩,.slice fa2 cs.length fc2] p2 y2:=F2c.store 3 (.slice fa2 cs.length fc2)
 have t2:RwR 2 cCs (fun z=>w.heap.size + 3 ≤ z ∧ z < (u2.setCell ⟨w.heap.size + 1 + 1,3,none⟩ (.slice fa2 cs.length fc2)).heap.size) (u2.setCell ⟨w.heap.size + 1 + 1,3,none⟩ (.slice fa2 cs.length fc2)) (.slice fa2 cs.length fc2) cs:=t2.frame (stayK cCsK) (F2c.carryS 3 (.slice fa2 cs.length fc2))
 have d0:(u2.setCell ⟨w.heap.size + 1 + 1,3,none⟩ (.slice fa2 cs.length fc2)).cell? ⟨w.heap.size + 1 + 1,0,none⟩ = some (.int .i64 (kn:Int)):=F2s3.cell 0
 have d1:(u2.setCell ⟨w.heap.size + 1 + 1,3,none⟩ (.slice fa2 cs.length fc2)).cell? ⟨w.heap.size + 1 + 1,1,none⟩ = some (.string (str nm)):=F2s3.cell 1
 have d2:(u2.setCell ⟨w.heap.size + 1 + 1,3,none⟩ (.slice fa2 cs.length fc2)).cell? ⟨w.heap.size + 1 + 1,2,none⟩ = some (.string ⟨#[]⟩):=F2s3.cell 2
 have d3:(u2.setCell ⟨w.heap.size + 1 + 1,3,none⟩ (.slice fa2 cs.length fc2)).cell? ⟨w.heap.size + 1 + 1,3,none⟩ = some (.slice fa2 cs.length fc2):=F2s3.cell 3
 have hA:=F2s3.res
 obtain ⟨rE,kE,cE⟩:=F2s3.done #[.int .i64 (kn:Int),.string (str nm),.string ⟨#[]⟩,.slice fa2 cs.length fc2]
 have t2:=t2.frame (stayK cCsK) cE
 clear h2 g2 F2 F2c r2 k2 q2 F2s3 cE
 go_wp2_with (refine wpList_store_row rfl 77 (.tmp 2) (.tmp 21) rfl (w.heap.size + 1) #[.int .i64 (kn:Int),.string (str nm),.string ⟨#[]⟩,.slice fa2 cs.length fc2] rfl rfl 77 #[.int .i64 0,.string ⟨#[]⟩,.string ⟨#[]⟩,.slice none 0 0] hA szItO rfl (by kernel_rfl) ?_)
 (try simp only [Exit.inBlock,Exit.then])
 refine bodyPost_ret (results_cell_row rfl _ _ (w.heap.size + 1) 77 #[.int .i64 (kn:Int),.string (str nm),.string ⟨#[]⟩,.slice fa2 cs.length fc2] (0,0) _ rfl (setRow_heap _ (w.heap.size + 1) _ _ 77 (0,0) hA) Tryz.underlying77 rfl szItO) rfl ?_
 exact ⟨[.int .i64 (kn:Int),.string (str nm),.string ⟨#[]⟩,.slice fa2 cs.length fc2],rfl,⟨_,rfl,rw_cs t2⟩,rE,kE⟩
set_option maxHeartbeats 4000000 in
set_option maxRecDepth 1000000 in
theorem ritemV (b g : Nat) (l : List Nat) (p y : Nat) (w : World) (hl : l.length ≤ 140737488355328) (h256 : ∀ x ∈ l, x < 256) (hp : p ≤ l.length) (hr : Wire.RIs w b g l p y) (hk : ¬ (Wire.rNum l p y 65535).1 = 1) :
  Calls Tryz.prog 113 #[rdv b] w (RdE cIt (itemV l p y) l b g w):=by
 have F0:Fill b g l 115 77 #[.int .i64 0,.string ⟨#[]⟩,.string ⟨#[]⟩,.slice none 0 0] w (((w.alloc (.cells #[.pointer (some ⟨b,0,none⟩)] 115)).alloc (.cells #[.int .i64 0,.string ⟨#[]⟩,.string ⟨#[]⟩,.slice none 0 0] 77)).alloc (.cells #[.int .i64 0,.string ⟨#[]⟩,.string ⟨#[]⟩,.slice none 0 0] 77)) #[.int .i64 0,.string ⟨#[]⟩,.string ⟨#[]⟩,.slice none 0 0] p y:=Fill.start hr 115 77 #[.int .i64 0,.string ⟨#[]⟩,.string ⟨#[]⟩,.slice none 0 0]
 unfold itemV
 try dsimp only
 have h0:=fun u (hu:Wire.RIs u b g l p y)=>rnm b g l p y u hl h256 hp hu
 have le0:=Wire.rNum_le l p y 65535 hp
 have mo0:=Wire.rNum_most l p y 65535
 unfold NuE at h0
 generalize Wire.rNum l p y 65535 = X0 at *
 obtain ⟨kn,p0,y0⟩:=X0
 simp only at h0 le0 mo0 hk ⊢
 have hki:(((kn:Nat):Int) == (1:Int)) = false:=by rw [beq_eq_false_iff_ne]; omega
 clear hk
 have h1:=fun u (hu:Wire.RIs u b g l p0 y0)=>rname b g l p0 y0 u hl h256 le0 hu
 have le1:=txt_le l 24 p0 y0 le0
 unfold TeE at h1
 generalize txtR l 24 p0 y0 = X1 at *
 obtain ⟨nm,p1,y1⟩:=X1
 simp only at h1 le1 ⊢
 have h2:=fun u (hu:Wire.RIs u b g l p1 y1)=>rtype b g l p1 y1 u hl h256 le1 hu
 have le2:=txt_le l 200 p1 y1 le1
 unfold TeE at h2
 generalize txtR l 200 p1 y1 = X2 at *
 obtain ⟨ty,p2,y2⟩:=X2
 simp only at h2 le2 ⊢
 have g0:=h0 _ F0.rd
 have q0:=F0.ptr
 unfold rdv at *
 go_enter Tryz.func113,Tryz.ntmps113
 go_wp2_with fail
 generalize (((w.alloc (.cells #[.pointer (some ⟨b,0,none⟩)] 115)).alloc (.cells #[.int .i64 0,.string ⟨#[]⟩,.string ⟨#[]⟩,.slice none 0 0] 77)).alloc (.cells #[.int .i64 0,.string ⟨#[]⟩,.string ⟨#[]⟩,.slice none 0 0] 77)) = v0 at *
 refine g0.mono ?_
 rintro e u0 ⟨rfl,r0,k0⟩
 have F0c:=F0.call k0 r0
 have c0_0:u0.cell? ⟨w.heap.size + 1 + 1,0,none⟩ = some (.int .i64 0):=F0c.cell 0
 have f0_0:=F0c.frozen 0
 have F0s0:Fill b g l 115 77 #[.int .i64 0,.string ⟨#[]⟩,.string ⟨#[]⟩,.slice none 0 0] w (u0.setCell ⟨w.heap.size + 1 + 1,0,none⟩ (.int .i64 (kn:Int))) #[.int .i64 (kn:Int),.string ⟨#[]⟩,.string ⟨#[]⟩,.slice none 0 0] p0 y0:=F0c.store 0 (.int .i64 (kn:Int))
 have F1:=F0s0
 have g1:=h1 _ F1.rd
 have q1:=F1.ptr
 clear h0 g0 F0 F0c r0 k0 q0 F0s0
 go_wp2_with fail
 generalize (u0.setCell ⟨w.heap.size + 1 + 1,0,none⟩ (.int .i64 (kn:Int))) = v1 at *
 refine g1.mono ?_
 rintro e u1 ⟨rfl,r1,k1⟩
 have F1c:=F1.call k1 r1
 have c1_1:u1.cell? ⟨w.heap.size + 1 + 1,1,none⟩ = some (.string ⟨#[]⟩):=F1c.cell 1
 have f1_1:=F1c.frozen 1
 have F1s1:Fill b g l 115 77 #[.int .i64 0,.string ⟨#[]⟩,.string ⟨#[]⟩,.slice none 0 0] w (u1.setCell ⟨w.heap.size + 1 + 1,1,none⟩ (.string (str nm))) #[.int .i64 (kn:Int),.string (str nm),.string ⟨#[]⟩,.slice none 0 0] p1 y1:=F1c.store 1 (.string (str nm))
 have F2:=F1s1
 have g2:=h2 _ F2.rd
 have q2:=F2.ptr
 have kq:(u1.setCell ⟨w.heap.size + 1 + 1,1,none⟩ (.string (str nm))).cell? ⟨w.heap.size + 1 + 1,0,none⟩ = some (.int .i64 (kn:Int)):=F1s1.cell 0
 clear h1 g1 F1 F1c r1 k1 q1 F1s1
 go_wp2_with fail
 generalize (u1.setCell ⟨w.heap.size + 1 + 1,1,none⟩ (.string (str nm))) = v2 at *
 clear kq
 refine g2.mono ?_
 rintro e u2 ⟨rfl,r2,k2⟩
 have F2c:=F2.call k2 r2
 have c2_2:u2.cell? ⟨w.heap.size + 1 + 1,2,none⟩ = some (.string ⟨#[]⟩):=F2c.cell 2
 have f2_2:=F2c.frozen 2
 have F2s2:Fill b g l 115 77 #[.int .i64 0,.string ⟨#[]⟩,.string ⟨#[]⟩,.slice none 0 0] w (u2.setCell ⟨w.heap.size + 1 + 1,2,none⟩ (.string (str ty))) #[.int .i64 (kn:Int),.string (str nm),.string (str ty),.slice none 0 0] p2 y2:=F2c.store 2 (.string (str ty))
 have d0:(u2.setCell ⟨w.heap.size + 1 + 1,2,none⟩ (.string (str ty))).cell? ⟨w.heap.size + 1 + 1,0,none⟩ = some (.int .i64 (kn:Int)):=F2s2.cell 0
 have d1:(u2.setCell ⟨w.heap.size + 1 + 1,2,none⟩ (.string (str ty))).cell? ⟨w.heap.size + 1 + 1,1,none⟩ = some (.string (str nm)):=F2s2.cell 1
 have d2:(u2.setCell ⟨w.heap.size + 1 + 1,2,none⟩ (.string (str ty))).cell? ⟨w.heap.size + 1 + 1,2,none⟩ = some (.string (str ty)):=F2s2.cell 2
 have d3:(u2.setCell ⟨w.heap.size + 1 + 1,2,none⟩ (.string (str ty))).cell? ⟨w.heap.size + 1 + 1,3,none⟩ = some (.slice none 0 0):=F2s2.cell 3
 have hA:=F2s2.res
 obtain ⟨rE,kE,cE⟩:=F2s2.done #[.int .i64 (kn:Int),.string (str nm),.string (str ty),.slice none 0 0]
 clear h2 g2 F2 F2c r2 k2 q2 F2s2 cE
 go_wp2_with (refine wpList_store_row rfl 77 (.tmp 2) (.tmp 21) rfl (w.heap.size + 1) #[.int .i64 (kn:Int),.string (str nm),.string (str ty),.slice none 0 0] rfl rfl 77 #[.int .i64 0,.string ⟨#[]⟩,.string ⟨#[]⟩,.slice none 0 0] hA szItO rfl (by kernel_rfl) ?_)
 (try simp only [Exit.inBlock,Exit.then])
 refine bodyPost_ret (results_cell_row rfl _ _ (w.heap.size + 1) 77 #[.int .i64 (kn:Int),.string (str nm),.string (str ty),.slice none 0 0] (0,0) _ rfl (setRow_heap _ (w.heap.size + 1) _ _ 77 (0,0) hA) Tryz.underlying77 rfl szItO) rfl ?_
 exact ⟨[.int .i64 (kn:Int),.string (str nm),.string (str ty),.slice none 0 0],rfl,⟨_,rfl,.inl ⟨none,0,rfl,rfl⟩⟩,rE,kE⟩
theorem ritem (b g : Nat) (l : List Nat) (p y : Nat) (w : World) (hl : l.length ≤ 140737488355328) (h256 : ∀ x ∈ l, x < 256) (hp : p ≤ l.length) (hr : Wire.RIs w b g l p y) :
  Calls Tryz.prog 113 #[rdv b] w (RdE cIt (itemR l p y) l b g w):=by
 rw [itemR_is]
 by_cases hk:(Wire.rNum l p y 65535).1 = 1
 ·rw [if_pos hk]
  exact ritemK b g l p y w hl h256 hp hr hk
 ·rw [if_neg hk]
  exact ritemV b g l p y w hl h256 hp hr hk
set_option maxHeartbeats 4000000 in
set_option maxRecDepth 1000000 in
theorem rsymbol (b g : Nat) (l : List Nat) (p y : Nat) (w : World) (hl : l.length ≤ 140737488355328) (h256 : ∀ x ∈ l, x < 256) (hp : p ≤ l.length) (hr : Wire.RIs w b g l p y) :
  Calls Tryz.prog 121 #[rdv b] w (RdE cSy (syR l p y) l b g w):=by
 have F0:Fill b g l 115 79 #[.string ⟨#[]⟩,.int .i64 0,.string ⟨#[]⟩,.string ⟨#[]⟩,.slice none 0 0] w (((w.alloc (.cells #[.pointer (some ⟨b,0,none⟩)] 115)).alloc (.cells #[.string ⟨#[]⟩,.int .i64 0,.string ⟨#[]⟩,.string ⟨#[]⟩,.slice none 0 0] 79)).alloc (.cells #[.string ⟨#[]⟩,.int .i64 0,.string ⟨#[]⟩,.string ⟨#[]⟩,.slice none 0 0] 79)) #[.string ⟨#[]⟩,.int .i64 0,.string ⟨#[]⟩,.string ⟨#[]⟩,.slice none 0 0] p y:=Fill.start hr 115 79 #[.string ⟨#[]⟩,.int .i64 0,.string ⟨#[]⟩,.string ⟨#[]⟩,.slice none 0 0]
 unfold syR
 try dsimp only
 have h0:=fun u (hu:Wire.RIs u b g l p y)=>rname b g l p y u hl h256 hp hu
 have le0:=txt_le l 24 p y hp
 unfold TeE at h0
 generalize txtR l 24 p y = X0 at *
 obtain ⟨md,p0,y0⟩:=X0
 simp only at h0 le0 ⊢
 have h1:=fun u (hu:Wire.RIs u b g l p0 y0)=>ritem b g l p0 y0 u hl h256 le0 hu
 have le1:=item_le l p0 y0 le0
 unfold RdE at h1
 generalize itemR l p0 y0 = X1 at *
 obtain ⟨x,p1,y1⟩:=X1
 simp only at h1 le1 ⊢
 have g0:=h0 _ F0.rd
 have q0:=F0.ptr
 unfold rdv at *
 go_enter Tryz.func121,Tryz.ntmps121
 go_wp2_with fail
 generalize (((w.alloc (.cells #[.pointer (some ⟨b,0,none⟩)] 115)).alloc (.cells #[.string ⟨#[]⟩,.int .i64 0,.string ⟨#[]⟩,.string ⟨#[]⟩,.slice none 0 0] 79)).alloc (.cells #[.string ⟨#[]⟩,.int .i64 0,.string ⟨#[]⟩,.string ⟨#[]⟩,.slice none 0 0] 79)) = v0 at *
 refine g0.mono ?_
 rintro e u0 ⟨rfl,r0,k0⟩
 have F0c:=F0.call k0 r0
 have c0_0:u0.cell? ⟨w.heap.size + 1 + 1,0,none⟩ = some (.string ⟨#[]⟩):=F0c.cell 0
 have f0_0:=F0c.frozen 0
 have F0s0:Fill b g l 115 79 #[.string ⟨#[]⟩,.int .i64 0,.string ⟨#[]⟩,.string ⟨#[]⟩,.slice none 0 0] w (u0.setCell ⟨w.heap.size + 1 + 1,0,none⟩ (.string (str md))) #[.string (str md),.int .i64 0,.string ⟨#[]⟩,.string ⟨#[]⟩,.slice none 0 0] p0 y0:=F0c.store 0 (.string (str md))
 have F1:=F0s0
 have g1:=h1 _ F1.rd
 have q1:=F1.ptr
 clear h0 g0 F0 F0c r0 k0 q0 F0s0
 go_wp2_with fail
 generalize (u0.setCell ⟨w.heap.size + 1 + 1,0,none⟩ (.string (str md))) = v1 at *
 refine g1.mono ?_
 rintro e u1 ⟨cv1,rfl,t1,r1,k1⟩
 obtain ⟨kd1,nm1,ty1,ks1⟩:=x
 obtain ⟨qv1,rfl,t1⟩:=t1
 simp only at t1
 obtain ⟨fa1,fc1,rfl⟩:=t1.shape
 have F1c:=F1.call k1 r1
 have t1:CsR (fun z=>w.heap.size + 3 ≤ z ∧ z < u1.heap.size) u1 (.slice fa1 ks1.length fc1) ks1:=t1.frame (Fill.take F1)
 have c1_1:u1.cell? ⟨w.heap.size + 1 + 1,1,none⟩ = some (.int .i64 0):=F1c.cell 1
 have f1_1:=F1c.frozen 1
 have F1s1:Fill b g l 115 79 #[.string ⟨#[]⟩,.int .i64 0,.string ⟨#[]⟩,.string ⟨#[]⟩,.slice none 0 0] w (u1.setCell ⟨w.heap.size + 1 + 1,1,none⟩ (.int .i64 kd1)) #[.string (str md),.int .i64 kd1,.string ⟨#[]⟩,.string ⟨#[]⟩,.slice none 0 0] p1 y1:=F1c.store 1 (.int .i64 kd1)
 have t1:CsR (fun z=>w.heap.size + 3 ≤ z ∧ z < (u1.setCell ⟨w.heap.size + 1 + 1,1,none⟩ (.int .i64 kd1)).heap.size) (u1.setCell ⟨w.heap.size + 1 + 1,1,none⟩ (.int .i64 kd1)) (.slice fa1 ks1.length fc1) ks1:=t1.frame (F1c.carryS 1 (.int .i64 kd1))
 have c1_2:(u1.setCell ⟨w.heap.size + 1 + 1,1,none⟩ (.int .i64 kd1)).cell? ⟨w.heap.size + 1 + 1,2,none⟩ = some (.string ⟨#[]⟩):=F1s1.cell 2
 have f1_2:=F1s1.frozen 2
 have F1s2:Fill b g l 115 79 #[.string ⟨#[]⟩,.int .i64 0,.string ⟨#[]⟩,.string ⟨#[]⟩,.slice none 0 0] w ((u1.setCell ⟨w.heap.size + 1 + 1,1,none⟩ (.int .i64 kd1)).setCell ⟨w.heap.size + 1 + 1,2,none⟩ (.string (str nm1))) #[.string (str md),.int .i64 kd1,.string (str nm1),.string ⟨#[]⟩,.slice none 0 0] p1 y1:=F1s1.store 2 (.string (str nm1))
 have t1:CsR (fun z=>w.heap.size + 3 ≤ z ∧ z < ((u1.setCell ⟨w.heap.size + 1 + 1,1,none⟩ (.int .i64 kd1)).setCell ⟨w.heap.size + 1 + 1,2,none⟩ (.string (str nm1))).heap.size) ((u1.setCell ⟨w.heap.size + 1 + 1,1,none⟩ (.int .i64 kd1)).setCell ⟨w.heap.size + 1 + 1,2,none⟩ (.string (str nm1))) (.slice fa1 ks1.length fc1) ks1:=t1.frame (F1s1.carryS 2 (.string (str nm1)))
 have c1_3:((u1.setCell ⟨w.heap.size + 1 + 1,1,none⟩ (.int .i64 kd1)).setCell ⟨w.heap.size + 1 + 1,2,none⟩ (.string (str nm1))).cell? ⟨w.heap.size + 1 + 1,3,none⟩ = some (.string ⟨#[]⟩):=F1s2.cell 3
 have f1_3:=F1s2.frozen 3
 have F1s3:Fill b g l 115 79 #[.string ⟨#[]⟩,.int .i64 0,.string ⟨#[]⟩,.string ⟨#[]⟩,.slice none 0 0] w (((u1.setCell ⟨w.heap.size + 1 + 1,1,none⟩ (.int .i64 kd1)).setCell ⟨w.heap.size + 1 + 1,2,none⟩ (.string (str nm1))).setCell ⟨w.heap.size + 1 + 1,3,none⟩ (.string (str ty1))) #[.string (str md),.int .i64 kd1,.string (str nm1),.string (str ty1),.slice none 0 0] p1 y1:=F1s2.store 3 (.string (str ty1))
 have t1:CsR (fun z=>w.heap.size + 3 ≤ z ∧ z < (((u1.setCell ⟨w.heap.size + 1 + 1,1,none⟩ (.int .i64 kd1)).setCell ⟨w.heap.size + 1 + 1,2,none⟩ (.string (str nm1))).setCell ⟨w.heap.size + 1 + 1,3,none⟩ (.string (str ty1))).heap.size) (((u1.setCell ⟨w.heap.size + 1 + 1,1,none⟩ (.int .i64 kd1)).setCell ⟨w.heap.size + 1 + 1,2,none⟩ (.string (str nm1))).setCell ⟨w.heap.size + 1 + 1,3,none⟩ (.string (str ty1))) (.slice fa1 ks1.length fc1) ks1:=t1.frame (F1s2.carryS 3 (.string (str ty1)))
 have c1_4:(((u1.setCell ⟨w.heap.size + 1 + 1,1,none⟩ (.int .i64 kd1)).setCell ⟨w.heap.size + 1 + 1,2,none⟩ (.string (str nm1))).setCell ⟨w.heap.size + 1 + 1,3,none⟩ (.string (str ty1))).cell? ⟨w.heap.size + 1 + 1,4,none⟩ = some (.slice none 0 0):=F1s3.cell 4
 have f1_4:=F1s3.frozen 4
 have F1s4:Fill b g l 115 79 #[.string ⟨#[]⟩,.int .i64 0,.string ⟨#[]⟩,.string ⟨#[]⟩,.slice none 0 0] w ((((u1.setCell ⟨w.heap.size + 1 + 1,1,none⟩ (.int .i64 kd1)).setCell ⟨w.heap.size + 1 + 1,2,none⟩ (.string (str nm1))).setCell ⟨w.heap.size + 1 + 1,3,none⟩ (.string (str ty1))).setCell ⟨w.heap.size + 1 + 1,4,none⟩ (.slice fa1 ks1.length fc1)) #[.string (str md),.int .i64 kd1,.string (str nm1),.string (str ty1),.slice fa1 ks1.length fc1] p1 y1:=F1s3.store 4 (.slice fa1 ks1.length fc1)
 have t1:CsR (fun z=>w.heap.size + 3 ≤ z ∧ z < ((((u1.setCell ⟨w.heap.size + 1 + 1,1,none⟩ (.int .i64 kd1)).setCell ⟨w.heap.size + 1 + 1,2,none⟩ (.string (str nm1))).setCell ⟨w.heap.size + 1 + 1,3,none⟩ (.string (str ty1))).setCell ⟨w.heap.size + 1 + 1,4,none⟩ (.slice fa1 ks1.length fc1)).heap.size) ((((u1.setCell ⟨w.heap.size + 1 + 1,1,none⟩ (.int .i64 kd1)).setCell ⟨w.heap.size + 1 + 1,2,none⟩ (.string (str nm1))).setCell ⟨w.heap.size + 1 + 1,3,none⟩ (.string (str ty1))).setCell ⟨w.heap.size + 1 + 1,4,none⟩ (.slice fa1 ks1.length fc1)) (.slice fa1 ks1.length fc1) ks1:=t1.frame (F1s3.carryS 4 (.slice fa1 ks1.length fc1))
 have d0:((((u1.setCell ⟨w.heap.size + 1 + 1,1,none⟩ (.int .i64 kd1)).setCell ⟨w.heap.size + 1 + 1,2,none⟩ (.string (str nm1))).setCell ⟨w.heap.size + 1 + 1,3,none⟩ (.string (str ty1))).setCell ⟨w.heap.size + 1 + 1,4,none⟩ (.slice fa1 ks1.length fc1)).cell? ⟨w.heap.size + 1 + 1,0,none⟩ = some (.string (str md)):=F1s4.cell 0
 have d1:((((u1.setCell ⟨w.heap.size + 1 + 1,1,none⟩ (.int .i64 kd1)).setCell ⟨w.heap.size + 1 + 1,2,none⟩ (.string (str nm1))).setCell ⟨w.heap.size + 1 + 1,3,none⟩ (.string (str ty1))).setCell ⟨w.heap.size + 1 + 1,4,none⟩ (.slice fa1 ks1.length fc1)).cell? ⟨w.heap.size + 1 + 1,1,none⟩ = some (.int .i64 kd1):=F1s4.cell 1
 have d2:((((u1.setCell ⟨w.heap.size + 1 + 1,1,none⟩ (.int .i64 kd1)).setCell ⟨w.heap.size + 1 + 1,2,none⟩ (.string (str nm1))).setCell ⟨w.heap.size + 1 + 1,3,none⟩ (.string (str ty1))).setCell ⟨w.heap.size + 1 + 1,4,none⟩ (.slice fa1 ks1.length fc1)).cell? ⟨w.heap.size + 1 + 1,2,none⟩ = some (.string (str nm1)):=F1s4.cell 2
 have d3:((((u1.setCell ⟨w.heap.size + 1 + 1,1,none⟩ (.int .i64 kd1)).setCell ⟨w.heap.size + 1 + 1,2,none⟩ (.string (str nm1))).setCell ⟨w.heap.size + 1 + 1,3,none⟩ (.string (str ty1))).setCell ⟨w.heap.size + 1 + 1,4,none⟩ (.slice fa1 ks1.length fc1)).cell? ⟨w.heap.size + 1 + 1,3,none⟩ = some (.string (str ty1)):=F1s4.cell 3
 have d4:((((u1.setCell ⟨w.heap.size + 1 + 1,1,none⟩ (.int .i64 kd1)).setCell ⟨w.heap.size + 1 + 1,2,none⟩ (.string (str nm1))).setCell ⟨w.heap.size + 1 + 1,3,none⟩ (.string (str ty1))).setCell ⟨w.heap.size + 1 + 1,4,none⟩ (.slice fa1 ks1.length fc1)).cell? ⟨w.heap.size + 1 + 1,4,none⟩ = some (.slice fa1 ks1.length fc1):=F1s4.cell 4
 have hA:=F1s4.res
 obtain ⟨rE,kE,cE⟩:=F1s4.done #[.string (str md),.int .i64 kd1,.string (str nm1),.string (str ty1),.slice fa1 ks1.length fc1]
 have t1:=t1.frame cE
 clear h1 g1 F1 F1c r1 k1 q1 F1s1 F1s2 F1s3 F1s4 cE
 go_wp2_with (refine wpList_store_row rfl 79 (.tmp 2) (.tmp 10) rfl (w.heap.size + 1) #[.string (str md),.int .i64 kd1,.string (str nm1),.string (str ty1),.slice fa1 ks1.length fc1] rfl rfl 79 #[.string ⟨#[]⟩,.int .i64 0,.string ⟨#[]⟩,.string ⟨#[]⟩,.slice none 0 0] hA szSyO rfl (by kernel_rfl) ?_)
 (try simp only [Exit.inBlock,Exit.then])
 refine bodyPost_ret (results_cell_row rfl _ _ (w.heap.size + 1) 79 #[.string (str md),.int .i64 kd1,.string (str nm1),.string (str ty1),.slice fa1 ks1.length fc1] (0,0) _ rfl (setRow_heap _ (w.heap.size + 1) _ _ 79 (0,0) hA) Tryz.underlying79 rfl szSyO) rfl ?_
 exact ⟨[.string (str md),.int .i64 kd1,.string (str nm1),.string (str ty1),.slice fa1 ks1.length fc1],rfl,⟨_,rfl,t1⟩,rE,kE⟩
end Go.Proofs.YtiiepfplommmfaaGreatDoor
