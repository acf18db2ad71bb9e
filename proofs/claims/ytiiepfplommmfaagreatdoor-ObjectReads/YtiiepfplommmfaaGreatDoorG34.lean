/-
  Right of any object that memory can hold: the refusal and its number, as the chapter says.
  And: Object's reader: an object; Decode.
-/
import Derived.Test.YtiiepfplommmfaaGreatDoorG30
import Derived.Test.YtiiepfplommmfaaGreatDoorG20
import Derived.Test.YtiiepfplommmfaaGreatDoorG31
import Derived.Test.YtiiepfplommmfaaGreatDoorG32
import Derived.Test.YtiiepfplommmfaaGreatDoorG33
import Derived.Test.YtiiepfplommmfaaGreatDoorG22
import Derived.Test.YtiiepfplommmfaaGreatDoorG29
namespace Go.Proofs.YtiiepfplommmfaaGreatDoor
open Go.RowKit

theorem fun_small {gs:List Gl} {ah:List Fn} {f:Fn} (h:funO gs ah f = 0):f.params.length ≤ 24 ∧ (joinR (f.params.drop (cutO f))).length ≤ 10000 ∧ f.res.length ≤ 200:=by
 unfold funO at h
 by_cases h1:f.name ≠ [] ∧ valueR f.name = false
 ·rw [if_pos h1] at h
  cases h
 rw [if_neg h1] at h
 by_cases h2:f.name ≠ [] ∧ (ah.any (fun d=>decide (d.name = f.name)) = true ∨ gs.any (fun d=>decide (d.name = f.name)) = true)
 ·rw [if_pos h2] at h
  cases h
 rw [if_neg h2] at h
 cases h3:countsO f
 ·rw [if_pos h3] at h
  cases h
 rw [if_neg (by rw [h3]; simp)] at h
 by_cases h4:rightR f.res = false ∨ f.params.all rightR = false ∨ rightR (signO f) = false
 ·rw [if_pos h4] at h
  cases h
 have hr:rightR f.res = true:=by cases hh:rightR f.res with | false=>exact absurd (.inl hh) h4 | true=>rfl
 have hp:f.params.all rightR = true:=by cases hh:f.params.all rightR with | false=>exact absurd (.inr (.inl hh)) h4 | true=>rfl
 have hl:f.params.length ≤ 24:=by
  simp only [countsO,Bool.and_eq_true,decide_eq_true_eq] at h3
  omega
 have hj:=join_len 200 (f.params.drop (cutO f)) (fun p hp'=>rightR_len (List.all_eq_true.1 hp p (List.mem_of_mem_drop hp')))
 have hd:(f.params.drop (cutO f)).length ≤ 24:=by rw [List.length_drop]; omega
 have:=Nat.mul_le_mul_left 201 hd
 exact ⟨hl,by omega,rightR_len hr⟩
theorem funs_small {o:Ob} (h:(scanO (elemO o 3) 0 (lenO o 3)).1 = 0):∀ f ∈ o.funs,f.params.length ≤ 1000000 ∧ (joinR (f.params.drop (cutO f))).length ≤ 1000000000 ∧ f.res.length ≤ 1000000000:=by
 intro f hf
 obtain ⟨i,hi,rfl⟩:=List.getElem_of_mem hf
 have h1:=scanO_all _ _ h i (by omega) (by show i < 0 + o.funs.length; omega)
 have h2:funO o.globals (o.funs.take i) o.funs[i] = 0:=by
  rw [← h1,elemO,List.getElem?_eq_getElem hi]
 obtain ⟨a,b,c⟩:=fun_small h2
 exact ⟨by omega,by omega,by omega⟩
theorem NamedO.n {o:Ob} {q:List UInt8} {w:World} {e:Ending} {w':World} (h:NamedO o q w e w'):NamedN o q w e w':=by
 obtain ⟨x,cv,h1,h2,h3,h4⟩:=h
 obtain ⟨ca,cc,rfl⟩:=h3.shape
 exact ⟨x,ca,x.cases.length,cc,h1,h4⟩
set_option maxHeartbeats 1000000 in
set_option maxRecDepth 1000000 in
theorem onamed_nil (F:Nat → Prop) (u:ObV) (o:Ob) (w:World) (h:ObR F w u o):Calls Tryz.prog 52 #[obv u o.mod,.string (str [])] w (NamedN o [] w):=by
 have HO:Hid (ownO o [] = none):=by rw [hid_iff,ownO,if_pos rfl]
 unfold NamedN
 generalize ownO o [] = ow at *
 obtain ⟨a1,c1,e1⟩:=h.types.shape
 obtain ⟨a2,c2,e2⟩:=h.texts.1.shape
 obtain ⟨a3,c3,e3⟩:=h.globals.shape
 obtain ⟨a4,c4,e4⟩:=h.funs.shape
 obtain ⟨a5,c5,e5⟩:=h.exports.1.shape
 obtain ⟨a6,c6,e6⟩:=h.symbols.shape
 obtain ⟨a7,c7,e7⟩:=h.relocs.shape
 clear h
 obtain ⟨tv,xv,gv,fv,ev,sv,rv⟩:=u
 unfold obv
 simp only at *
 subst e1 e2 e3 e4 e5 e6 e7
 generalize o.types.length = n1 at *
 generalize o.texts.length = n2 at *
 generalize o.globals.length = n3 at *
 generalize o.funs.length = n4 at *
 generalize o.exports.length = n5 at *
 generalize o.symbols.length = n6 at *
 generalize o.relocs.length = n7 at *
 generalize o.mod = m at *
 have hnn:(str []).toList.isEmpty = true:=by rw [nil_text]; rfl
 have hnq:(str []).toList = []:=by rw [← List.isEmpty_iff]; exact hnn
 generalize hW:w.alloc (.cells #[.string (str m),.slice a1 n1 c1,.slice a2 n2 c2,.slice a3 n3 c3,.slice a4 n4 c4,.slice a5 n5 c5,.slice a6 n6 c6,.slice a7 n7 c7] 29) = W0 at *
 have hb0:Below w.heap.size w W0:=by rw [← hW]; exact (Below.refl _ _).alloc (Nat.le_refl _) _
 have hs0:W0.heap.size = w.heap.size + 1:=by rw [← hW]; simp
 have hN1:=heap_alloc_new W0 (.cells #[.int .i64 0,.string ⟨#[]⟩,.string ⟨#[]⟩,.slice none 0 0] 77)
 have hb1:Below w.heap.size w (W0.alloc (.cells #[.int .i64 0,.string ⟨#[]⟩,.string ⟨#[]⟩,.slice none 0 0] 77)):=below_trans hb0 ((Below.refl _ _).alloc (Nat.le_refl _) _)
 rw [hs0] at hN1
 go_enter Tryz.func52,Tryz.ntmps52
 go_wp2
 (try simp only [Exit.inBlock,Exit.then])
 refine bodyPost_ret (res7 rfl _ _ (w.heap.size + 1) 77 #[.int .i64 0,.string ⟨#[]⟩,.string ⟨#[]⟩,.slice none 0 0] (0,0) _ rfl hN1 Tryz.underlying77 rfl sizeIt) rfl ?_
 exact ⟨⟨0,[],[],[]⟩,none,0,0,by rw [HO.out]; rfl,hb1⟩
theorem right14 (F:Nat → Prop) (u:ObV) (o:Ob) (w:World) (h:ObR F w u o) (hF:∀ g,F g → g < w.heap.size) (hok:ObOk o):Calls Tryz.prog 6 #[obv u o.mod] w (TwoB (rightO o) w):=by
 refine rightOs F u o w h hF hok.mod (fun _ hmn j k hj hk hpre v hv=>?_)
 have hO:=h.below hv hF
 have hFv:∀ g,F g → g < v.heap.size:=fun g hg=>Nat.lt_of_lt_of_le (hF g hg) hv.size
 simp only [manyO,Bool.or_eq_false_iff,decide_eq_false_iff_not] at hmn
 have h48:o.funs.length ≤ 48:=by omega
 rcases j with _ | _ | _ | _ | _ | _ | _ | j
 ·exact typeAt F u o v hO hFv hok k hk
 ·exact textAt F u o v hO k hk
 ·exact globalAt F u o v hO hFv hok k hk
 ·exact funAt F u o v hO hFv hok k hk
 ·refine exportAt F u o v hO hFv hok k hk (fun V hV=>?_)
  have hOV:=hO.below hV hFv
  have hFV:∀ g,F g → g < V.heap.size:=fun g hg=>Nat.lt_of_lt_of_le (hFv g hg) hV.size
  by_cases hq:o.exports[k] = []
  ·rw [hq]
   exact onamed_nil F u o V hOV
  ·exact (onamed F u o o.exports[k] V hOV hFV hok hq (hok.exports _ (List.getElem_mem hk)) (funs_small (hpre 3 (by omega))) (by omega)).mono fun e w' hh=>hh.n
 ·exact symbolAt F u o v hO hFv hok h48 k hk
 ·exact relocAt F u o v hO hFv hok k hk
 ·omega
end Go.Proofs.YtiiepfplommmfaaGreatDoor

namespace Go.Proofs.YtiiepfplommmfaaGreatDoor
open Go.RowKit

def cOb (F:Nat → Prop) (w:World) (o:Ob) (cs:List Value):Prop:=∃ v:ObV,cs = v.cells o.mod ∧ ObR F w v o
set_option maxHeartbeats 4000000 in
set_option maxRecDepth 1000000 in
theorem robj (b g : Nat) (l : List Nat) (p y : Nat) (w : World) (hl : l.length ≤ 140737488355328) (h256 : ∀ x ∈ l, x < 256) (hp : p ≤ l.length) (hr : Wire.RIs w b g l p y) :
  Calls Tryz.prog 56 #[rdv b] w (RdE cOb (objR l p y) l b g w):=by
 have F0:Fill b g l 115 29 #[.string ⟨#[]⟩,.slice none 0 0,.slice none 0 0,.slice none 0 0,.slice none 0 0,.slice none 0 0,.slice none 0 0,.slice none 0 0] w (((w.alloc (.cells #[.pointer (some ⟨b,0,none⟩)] 115)).alloc (.cells #[.string ⟨#[]⟩,.slice none 0 0,.slice none 0 0,.slice none 0 0,.slice none 0 0,.slice none 0 0,.slice none 0 0,.slice none 0 0] 29)).alloc (.cells #[.string ⟨#[]⟩,.slice none 0 0,.slice none 0 0,.slice none 0 0,.slice none 0 0,.slice none 0 0,.slice none 0 0,.slice none 0 0] 29)) #[.string ⟨#[]⟩,.slice none 0 0,.slice none 0 0,.slice none 0 0,.slice none 0 0,.slice none 0 0,.slice none 0 0,.slice none 0 0] p y:=Fill.start hr 115 29 #[.string ⟨#[]⟩,.slice none 0 0,.slice none 0 0,.slice none 0 0,.slice none 0 0,.slice none 0 0,.slice none 0 0,.slice none 0 0]
 unfold objR
 try dsimp only
 have h0:=fun u (hu:Wire.RIs u b g l p y)=>rname b g l p y u hl h256 hp hu
 have le0:=txt_le l 24 p y hp
 unfold TeE at h0
 generalize txtR l 24 p y = X0 at *
 obtain ⟨m,p0,y0⟩:=X0
 simp only at h0 le0 ⊢
 have h1:=fun u (hu:Wire.RIs u b g l p0 y0)=>rlistI b g l p0 y0 u hl h256 le0 hu
 have le1:=list_le (rdr_item l).le p0 y0 le0
 unfold RlE at h1
 generalize listR l (itemR l) p0 y0 = X1 at *
 obtain ⟨ts,p1,y1⟩:=X1
 simp only at h1 le1 ⊢
 have h2:=fun u (hu:Wire.RIs u b g l p1 y1)=>rlistT b g l p1 y1 u hl h256 le1 hu
 have le2:=list_le (txt_le l 200) p1 y1 le1
 unfold RlE at h2
 generalize listR l (txtR l 200) p1 y1 = X2 at *
 obtain ⟨xs,p2,y2⟩:=X2
 simp only at h2 le2 ⊢
 have h3:=fun u (hu:Wire.RIs u b g l p2 y2)=>rlistG b g l p2 y2 u hl h256 le2 hu
 have le3:=list_le (rdr_gl l).le p2 y2 le2
 unfold RlE at h3
 generalize listR l (glR l) p2 y2 = X3 at *
 obtain ⟨gs,p3,y3⟩:=X3
 simp only at h3 le3 ⊢
 have h4:=fun u (hu:Wire.RIs u b g l p3 y3)=>rlistF b g l p3 y3 u hl h256 le3 hu
 have le4:=list_le (rdr_fn l).le p3 y3 le3
 unfold RlE at h4
 generalize listR l (fnR l) p3 y3 = X4 at *
 obtain ⟨fs,p4,y4⟩:=X4
 simp only at h4 le4 ⊢
 have h5:=fun u (hu:Wire.RIs u b g l p4 y4)=>rlistN b g l p4 y4 u hl h256 le4 hu
 have le5:=list_le (txt_le l 24) p4 y4 le4
 unfold RlE at h5
 generalize listR l (txtR l 24) p4 y4 = X5 at *
 obtain ⟨es,p5,y5⟩:=X5
 simp only at h5 le5 ⊢
 have h6:=fun u (hu:Wire.RIs u b g l p5 y5)=>rlistS b g l p5 y5 u hl h256 le5 hu
 have le6:=list_le (rdr_sy l).le p5 y5 le5
 unfold RlE at h6
 generalize listR l (syR l) p5 y5 = X6 at *
 obtain ⟨ss,p6,y6⟩:=X6
 simp only at h6 le6 ⊢
 have h7:=fun u (hu:Wire.RIs u b g l p6 y6)=>rlistR b g l p6 y6 u hl h256 le6 hu
 have le7:=list_le (rdr_rl l).le p6 y6 le6
 unfold RlE at h7
 generalize listR l (rlR l) p6 y6 = X7 at *
 obtain ⟨rs,p7,y7⟩:=X7
 simp only at h7 le7 ⊢
 have g0:=h0 _ F0.rd
 have q0:=F0.ptr
 unfold rdv at *
 go_enter Tryz.func56,Tryz.ntmps56
 go_wp2_with fail
 generalize (((w.alloc (.cells #[.pointer (some ⟨b,0,none⟩)] 115)).alloc (.cells #[.string ⟨#[]⟩,.slice none 0 0,.slice none 0 0,.slice none 0 0,.slice none 0 0,.slice none 0 0,.slice none 0 0,.slice none 0 0] 29)).alloc (.cells #[.string ⟨#[]⟩,.slice none 0 0,.slice none 0 0,.slice none 0 0,.slice none 0 0,.slice none 0 0,.slice none 0 0,.slice none 0 0] 29)) = v0 at *
 refine g0.mono ?_
 rintro e u0 ⟨rfl,r0,k0⟩
 have F0c:=F0.call k0 r0
 have c0_0:u0.cell? ⟨w.heap.size + 1 + 1,0,none⟩ = some (.string ⟨#[]⟩):=F0c.cell 0
 have f0_0:=F0c.frozen 0
 have F0s0:Fill b g l 115 29 #[.string ⟨#[]⟩,.slice none 0 0,.slice none 0 0,.slice none 0 0,.slice none 0 0,.slice none 0 0,.slice none 0 0,.slice none 0 0] w (u0.setCell ⟨w.heap.size + 1 + 1,0,none⟩ (.string (str m))) #[.string (str m),.slice none 0 0,.slice none 0 0,.slice none 0 0,.slice none 0 0,.slice none 0 0,.slice none 0 0,.slice none 0 0] p0 y0:=F0c.store 0 (.string (str m))
 have F1:=F0s0
 have g1:=h1 _ F1.rd
 have q1:=F1.ptr
 clear h0 g0 F0 F0c r0 k0 q0 F0s0
 go_wp2_with fail
 generalize (u0.setCell ⟨w.heap.size + 1 + 1,0,none⟩ (.string (str m))) = v1 at *
 refine g1.mono ?_
 rintro e u1 ⟨fv1,rfl,t1,n1,r1,k1⟩
 obtain ⟨fa1,fc1,rfl⟩:=t1.shape
 have F1c:=F1.call k1 r1
 have t1:RwR 4 cIt (fun z=>w.heap.size + 3 ≤ z ∧ z < u1.heap.size) u1 (.slice fa1 ts.length fc1) ts:=t1.frame (stayK cItK) (Fill.take F1)
 have c1_1:u1.cell? ⟨w.heap.size + 1 + 1,1,none⟩ = some (.slice none 0 0):=F1c.cell 1
 have f1_1:=F1c.frozen 1
 have F1s1:Fill b g l 115 29 #[.string ⟨#[]⟩,.slice none 0 0,.slice none 0 0,.slice none 0 0,.slice none 0 0,.slice none 0 0,.slice none 0 0,.slice none 0 0] w (u1.setCell ⟨w.heap.size + 1 + 1,1,none⟩ (.slice fa1 ts.length fc1)) #[.string (str m),.slice fa1 ts.length fc1,.slice none 0 0,.slice none 0 0,.slice none 0 0,.slice none 0 0,.slice none 0 0,.slice none 0 0] p1 y1:=F1c.store 1 (.slice fa1 ts.length fc1)
 have t1:RwR 4 cIt (fun z=>w.heap.size + 3 ≤ z ∧ z < (u1.setCell ⟨w.heap.size + 1 + 1,1,none⟩ (.slice fa1 ts.length fc1)).heap.size) (u1.setCell ⟨w.heap.size + 1 + 1,1,none⟩ (.slice fa1 ts.length fc1)) (.slice fa1 ts.length fc1) ts:=t1.frame (stayK cItK) (F1c.carryS 1 (.slice fa1 ts.length fc1))
 have F2:=F1s1
 have g2:=h2 _ F2.rd
 have q2:=F2.ptr
 clear h1 g1 F1 F1c r1 k1 q1 F1s1
 go_wp2_with fail
 generalize (u1.setCell ⟨w.heap.size + 1 + 1,1,none⟩ (.slice fa1 ts.length fc1)) = v2 at *
 refine g2.mono ?_
 rintro e u2 ⟨fv2,rfl,t2,n2,r2,k2⟩
 obtain ⟨fa2,fc2,rfl⟩:=t2.shape
 have F2c:=F2.call k2 r2
 have t1:RwR 4 cIt (fun z=>w.heap.size + 3 ≤ z ∧ z < u2.heap.size) u2 (.slice fa1 ts.length fc1) ts:=t1.frame (stayK cItK) (F2.carryC k2)
 have t2:RwR 1 cTx (fun z=>w.heap.size + 3 ≤ z ∧ z < u2.heap.size) u2 (.slice fa2 xs.length fc2) xs:=t2.frame (stayK cTxK) (Fill.take F2)
 have c2_2:u2.cell? ⟨w.heap.size + 1 + 1,2,none⟩ = some (.slice none 0 0):=F2c.cell 2
 have f2_2:=F2c.frozen 2
 have F2s2:Fill b g l 115 29 #[.string ⟨#[]⟩,.slice none 0 0,.slice none 0 0,.slice none 0 0,.slice none 0 0,.slice none 0 0,.slice none 0 0,.slice none 0 0] w (u2.setCell ⟨w.heap.size + 1 + 1,2,none⟩ (.slice fa2 xs.length fc2)) #[.string (str m),.slice fa1 ts.length fc1,.slice fa2 xs.length fc2,.slice none 0 0,.slice none 0 0,.slice none 0 0,.slice none 0 0,.slice none 0 0] p2 y2:=F2c.store 2 (.slice fa2 xs.length fc2)
 have t1:RwR 4 cIt (fun z=>w.heap.size + 3 ≤ z ∧ z < (u2.setCell ⟨w.heap.size + 1 + 1,2,none⟩ (.slice fa2 xs.length fc2)).heap.size) (u2.setCell ⟨w.heap.size + 1 + 1,2,none⟩ (.slice fa2 xs.length fc2)) (.slice fa1 ts.length fc1) ts:=t1.frame (stayK cItK) (F2c.carryS 2 (.slice fa2 xs.length fc2))
 have t2:RwR 1 cTx (fun z=>w.heap.size + 3 ≤ z ∧ z < (u2.setCell ⟨w.heap.size + 1 + 1,2,none⟩ (.slice fa2 xs.length fc2)).heap.size) (u2.setCell ⟨w.heap.size + 1 + 1,2,none⟩ (.slice fa2 xs.length fc2)) (.slice fa2 xs.length fc2) xs:=t2.frame (stayK cTxK) (F2c.carryS 2 (.slice fa2 xs.length fc2))
 have F3:=F2s2
 have g3:=h3 _ F3.rd
 have q3:=F3.ptr
 clear h2 g2 F2 F2c r2 k2 q2 F2s2
 go_wp2_with fail
 generalize (u2.setCell ⟨w.heap.size + 1 + 1,2,none⟩ (.slice fa2 xs.length fc2)) = v3 at *
 refine g3.mono ?_
 rintro e u3 ⟨fv3,rfl,t3,n3,r3,k3⟩
 obtain ⟨fa3,fc3,rfl⟩:=t3.shape
 have F3c:=F3.call k3 r3
 have t1:RwR 4 cIt (fun z=>w.heap.size + 3 ≤ z ∧ z < u3.heap.size) u3 (.slice fa1 ts.length fc1) ts:=t1.frame (stayK cItK) (F3.carryC k3)
 have t2:RwR 1 cTx (fun z=>w.heap.size + 3 ≤ z ∧ z < u3.heap.size) u3 (.slice fa2 xs.length fc2) xs:=t2.frame (stayK cTxK) (F3.carryC k3)
 have t3:RwR 3 cGl (fun z=>w.heap.size + 3 ≤ z ∧ z < u3.heap.size) u3 (.slice fa3 gs.length fc3) gs:=t3.frame (stayK cGlK) (Fill.take F3)
 have c3_3:u3.cell? ⟨w.heap.size + 1 + 1,3,none⟩ = some (.slice none 0 0):=F3c.cell 3
 have f3_3:=F3c.frozen 3
 have F3s3:Fill b g l 115 29 #[.string ⟨#[]⟩,.slice none 0 0,.slice none 0 0,.slice none 0 0,.slice none 0 0,.slice none 0 0,.slice none 0 0,.slice none 0 0] w (u3.setCell ⟨w.heap.size + 1 + 1,3,none⟩ (.slice fa3 gs.length fc3)) #[.string (str m),.slice fa1 ts.length fc1,.slice fa2 xs.length fc2,.slice fa3 gs.length fc3,.slice none 0 0,.slice none 0 0,.slice none 0 0,.slice none 0 0] p3 y3:=F3c.store 3 (.slice fa3 gs.length fc3)
 have t1:RwR 4 cIt (fun z=>w.heap.size + 3 ≤ z ∧ z < (u3.setCell ⟨w.heap.size + 1 + 1,3,none⟩ (.slice fa3 gs.length fc3)).heap.size) (u3.setCell ⟨w.heap.size + 1 + 1,3,none⟩ (.slice fa3 gs.length fc3)) (.slice fa1 ts.length fc1) ts:=t1.frame (stayK cItK) (F3c.carryS 3 (.slice fa3 gs.length fc3))
 have t2:RwR 1 cTx (fun z=>w.heap.size + 3 ≤ z ∧ z < (u3.setCell ⟨w.heap.size + 1 + 1,3,none⟩ (.slice fa3 gs.length fc3)).heap.size) (u3.setCell ⟨w.heap.size + 1 + 1,3,none⟩ (.slice fa3 gs.length fc3)) (.slice fa2 xs.length fc2) xs:=t2.frame (stayK cTxK) (F3c.carryS 3 (.slice fa3 gs.length fc3))
 have t3:RwR 3 cGl (fun z=>w.heap.size + 3 ≤ z ∧ z < (u3.setCell ⟨w.heap.size + 1 + 1,3,none⟩ (.slice fa3 gs.length fc3)).heap.size) (u3.setCell ⟨w.heap.size + 1 + 1,3,none⟩ (.slice fa3 gs.length fc3)) (.slice fa3 gs.length fc3) gs:=t3.frame (stayK cGlK) (F3c.carryS 3 (.slice fa3 gs.length fc3))
 have F4:=F3s3
 have g4:=h4 _ F4.rd
 have q4:=F4.ptr
 clear h3 g3 F3 F3c r3 k3 q3 F3s3
 go_wp2_with fail
 generalize (u3.setCell ⟨w.heap.size + 1 + 1,3,none⟩ (.slice fa3 gs.length fc3)) = v4 at *
 refine g4.mono ?_
 rintro e u4 ⟨fv4,rfl,t4,n4,r4,k4⟩
 obtain ⟨fa4,fc4,rfl⟩:=t4.shape
 have F4c:=F4.call k4 r4
 have t1:RwR 4 cIt (fun z=>w.heap.size + 3 ≤ z ∧ z < u4.heap.size) u4 (.slice fa1 ts.length fc1) ts:=t1.frame (stayK cItK) (F4.carryC k4)
 have t2:RwR 1 cTx (fun z=>w.heap.size + 3 ≤ z ∧ z < u4.heap.size) u4 (.slice fa2 xs.length fc2) xs:=t2.frame (stayK cTxK) (F4.carryC k4)
 have t3:RwR 3 cGl (fun z=>w.heap.size + 3 ≤ z ∧ z < u4.heap.size) u4 (.slice fa3 gs.length fc3) gs:=t3.frame (stayK cGlK) (F4.carryC k4)
 have t4:RwR 6 cFn (fun z=>w.heap.size + 3 ≤ z ∧ z < u4.heap.size) u4 (.slice fa4 fs.length fc4) fs:=t4.frame (stayK cFnK) (Fill.take F4)
 have c4_4:u4.cell? ⟨w.heap.size + 1 + 1,4,none⟩ = some (.slice none 0 0):=F4c.cell 4
 have f4_4:=F4c.frozen 4
 have F4s4:Fill b g l 115 29 #[.string ⟨#[]⟩,.slice none 0 0,.slice none 0 0,.slice none 0 0,.slice none 0 0,.slice none 0 0,.slice none 0 0,.slice none 0 0] w (u4.setCell ⟨w.heap.size + 1 + 1,4,none⟩ (.slice fa4 fs.length fc4)) #[.string (str m),.slice fa1 ts.length fc1,.slice fa2 xs.length fc2,.slice fa3 gs.length fc3,.slice fa4 fs.length fc4,.slice none 0 0,.slice none 0 0,.slice none 0 0] p4 y4:=F4c.store 4 (.slice fa4 fs.length fc4)
 have t1:RwR 4 cIt (fun z=>w.heap.size + 3 ≤ z ∧ z < (u4.setCell ⟨w.heap.size + 1 + 1,4,none⟩ (.slice fa4 fs.length fc4)).heap.size) (u4.setCell ⟨w.heap.size + 1 + 1,4,none⟩ (.slice fa4 fs.length fc4)) (.slice fa1 ts.length fc1) ts:=t1.frame (stayK cItK) (F4c.carryS 4 (.slice fa4 fs.length fc4))
 have t2:RwR 1 cTx (fun z=>w.heap.size + 3 ≤ z ∧ z < (u4.setCell ⟨w.heap.size + 1 + 1,4,none⟩ (.slice fa4 fs.length fc4)).heap.size) (u4.setCell ⟨w.heap.size + 1 + 1,4,none⟩ (.slice fa4 fs.length fc4)) (.slice fa2 xs.length fc2) xs:=t2.frame (stayK cTxK) (F4c.carryS 4 (.slice fa4 fs.length fc4))
 have t3:RwR 3 cGl (fun z=>w.heap.size + 3 ≤ z ∧ z < (u4.setCell ⟨w.heap.size + 1 + 1,4,none⟩ (.slice fa4 fs.length fc4)).heap.size) (u4.setCell ⟨w.heap.size + 1 + 1,4,none⟩ (.slice fa4 fs.length fc4)) (.slice fa3 gs.length fc3) gs:=t3.frame (stayK cGlK) (F4c.carryS 4 (.slice fa4 fs.length fc4))
 have t4:RwR 6 cFn (fun z=>w.heap.size + 3 ≤ z ∧ z < (u4.setCell ⟨w.heap.size + 1 + 1,4,none⟩ (.slice fa4 fs.length fc4)).heap.size) (u4.setCell ⟨w.heap.size + 1 + 1,4,none⟩ (.slice fa4 fs.length fc4)) (.slice fa4 fs.length fc4) fs:=t4.frame (stayK cFnK) (F4c.carryS 4 (.slice fa4 fs.length fc4))
 have F5:=F4s4
 have g5:=h5 _ F5.rd
 have q5:=F5.ptr
 clear h4 g4 F4 F4c r4 k4 q4 F4s4
 go_wp2_with fail
 generalize (u4.setCell ⟨w.heap.size + 1 + 1,4,none⟩ (.slice fa4 fs.length fc4)) = v5 at *
 refine g5.mono ?_
 rintro e u5 ⟨fv5,rfl,t5,n5,r5,k5⟩
 obtain ⟨fa5,fc5,rfl⟩:=t5.shape
 have F5c:=F5.call k5 r5
 have t1:RwR 4 cIt (fun z=>w.heap.size + 3 ≤ z ∧ z < u5.heap.size) u5 (.slice fa1 ts.length fc1) ts:=t1.frame (stayK cItK) (F5.carryC k5)
 have t2:RwR 1 cTx (fun z=>w.heap.size + 3 ≤ z ∧ z < u5.heap.size) u5 (.slice fa2 xs.length fc2) xs:=t2.frame (stayK cTxK) (F5.carryC k5)
 have t3:RwR 3 cGl (fun z=>w.heap.size + 3 ≤ z ∧ z < u5.heap.size) u5 (.slice fa3 gs.length fc3) gs:=t3.frame (stayK cGlK) (F5.carryC k5)
 have t4:RwR 6 cFn (fun z=>w.heap.size + 3 ≤ z ∧ z < u5.heap.size) u5 (.slice fa4 fs.length fc4) fs:=t4.frame (stayK cFnK) (F5.carryC k5)
 have t5:RwR 1 cTx (fun z=>w.heap.size + 3 ≤ z ∧ z < u5.heap.size) u5 (.slice fa5 es.length fc5) es:=t5.frame (stayK cTxK) (Fill.take F5)
 have c5_5:u5.cell? ⟨w.heap.size + 1 + 1,5,none⟩ = some (.slice none 0 0):=F5c.cell 5
 have f5_5:=F5c.frozen 5
 have F5s5:Fill b g l 115 29 #[.string ⟨#[]⟩,.slice none 0 0,.slice none 0 0,.slice none 0 0,.slice none 0 0,.slice none 0 0,.slice none 0 0,.slice none 0 0] w (u5.setCell ⟨w.heap.size + 1 + 1,5,none⟩ (.slice fa5 es.length fc5)) #[.string (str m),.slice fa1 ts.length fc1,.slice fa2 xs.length fc2,.slice fa3 gs.length fc3,.slice fa4 fs.length fc4,.slice fa5 es.length fc5,.slice none 0 0,.slice none 0 0] p5 y5:=F5c.store 5 (.slice fa5 es.length fc5)
 have t1:RwR 4 cIt (fun z=>w.heap.size + 3 ≤ z ∧ z < (u5.setCell ⟨w.heap.size + 1 + 1,5,none⟩ (.slice fa5 es.length fc5)).heap.size) (u5.setCell ⟨w.heap.size + 1 + 1,5,none⟩ (.slice fa5 es.length fc5)) (.slice fa1 ts.length fc1) ts:=t1.frame (stayK cItK) (F5c.carryS 5 (.slice fa5 es.length fc5))
 have t2:RwR 1 cTx (fun z=>w.heap.size + 3 ≤ z ∧ z < (u5.setCell ⟨w.heap.size + 1 + 1,5,none⟩ (.slice fa5 es.length fc5)).heap.size) (u5.setCell ⟨w.heap.size + 1 + 1,5,none⟩ (.slice fa5 es.length fc5)) (.slice fa2 xs.length fc2) xs:=t2.frame (stayK cTxK) (F5c.carryS 5 (.slice fa5 es.length fc5))
 have t3:RwR 3 cGl (fun z=>w.heap.size + 3 ≤ z ∧ z < (u5.setCell ⟨w.heap.size + 1 + 1,5,none⟩ (.slice fa5 es.length fc5)).heap.size) (u5.setCell ⟨w.heap.size + 1 + 1,5,none⟩ (.slice fa5 es.length fc5)) (.slice fa3 gs.length fc3) gs:=t3.frame (stayK cGlK) (F5c.carryS 5 (.slice fa5 es.length fc5))
 have t4:RwR 6 cFn (fun z=>w.heap.size + 3 ≤ z ∧ z < (u5.setCell ⟨w.heap.size + 1 + 1,5,none⟩ (.slice fa5 es.length fc5)).heap.size) (u5.setCell ⟨w.heap.size + 1 + 1,5,none⟩ (.slice fa5 es.length fc5)) (.slice fa4 fs.length fc4) fs:=t4.frame (stayK cFnK) (F5c.carryS 5 (.slice fa5 es.length fc5))
 have t5:RwR 1 cTx (fun z=>w.heap.size + 3 ≤ z ∧ z < (u5.setCell ⟨w.heap.size + 1 + 1,5,none⟩ (.slice fa5 es.length fc5)).heap.size) (u5.setCell ⟨w.heap.size + 1 + 1,5,none⟩ (.slice fa5 es.length fc5)) (.slice fa5 es.length fc5) es:=t5.frame (stayK cTxK) (F5c.carryS 5 (.slice fa5 es.length fc5))
 have F6:=F5s5
 have g6:=h6 _ F6.rd
 have q6:=F6.ptr
 clear h5 g5 F5 F5c r5 k5 q5 F5s5
 go_wp2_with fail
 generalize (u5.setCell ⟨w.heap.size + 1 + 1,5,none⟩ (.slice fa5 es.length fc5)) = v6 at *
 refine g6.mono ?_
 rintro e u6 ⟨fv6,rfl,t6,n6,r6,k6⟩
 obtain ⟨fa6,fc6,rfl⟩:=t6.shape
 have F6c:=F6.call k6 r6
 have t1:RwR 4 cIt (fun z=>w.heap.size + 3 ≤ z ∧ z < u6.heap.size) u6 (.slice fa1 ts.length fc1) ts:=t1.frame (stayK cItK) (F6.carryC k6)
 have t2:RwR 1 cTx (fun z=>w.heap.size + 3 ≤ z ∧ z < u6.heap.size) u6 (.slice fa2 xs.length fc2) xs:=t2.frame (stayK cTxK) (F6.carryC k6)
 have t3:RwR 3 cGl (fun z=>w.heap.size + 3 ≤ z ∧ z < u6.heap.size) u6 (.slice fa3 gs.length fc3) gs:=t3.frame (stayK cGlK) (F6.carryC k6)
 have t4:RwR 6 cFn (fun z=>w.heap.size + 3 ≤ z ∧ z < u6.heap.size) u6 (.slice fa4 fs.length fc4) fs:=t4.frame (stayK cFnK) (F6.carryC k6)
 have t5:RwR 1 cTx (fun z=>w.heap.size + 3 ≤ z ∧ z < u6.heap.size) u6 (.slice fa5 es.length fc5) es:=t5.frame (stayK cTxK) (F6.carryC k6)
 have t6:RwR 5 cSy (fun z=>w.heap.size + 3 ≤ z ∧ z < u6.heap.size) u6 (.slice fa6 ss.length fc6) ss:=t6.frame (stayK cSyK) (Fill.take F6)
 have c6_6:u6.cell? ⟨w.heap.size + 1 + 1,6,none⟩ = some (.slice none 0 0):=F6c.cell 6
 have f6_6:=F6c.frozen 6
 have F6s6:Fill b g l 115 29 #[.string ⟨#[]⟩,.slice none 0 0,.slice none 0 0,.slice none 0 0,.slice none 0 0,.slice none 0 0,.slice none 0 0,.slice none 0 0] w (u6.setCell ⟨w.heap.size + 1 + 1,6,none⟩ (.slice fa6 ss.length fc6)) #[.string (str m),.slice fa1 ts.length fc1,.slice fa2 xs.length fc2,.slice fa3 gs.length fc3,.slice fa4 fs.length fc4,.slice fa5 es.length fc5,.slice fa6 ss.length fc6,.slice none 0 0] p6 y6:=F6c.store 6 (.slice fa6 ss.length fc6)
 have t1:RwR 4 cIt (fun z=>w.heap.size + 3 ≤ z ∧ z < (u6.setCell ⟨w.heap.size + 1 + 1,6,none⟩ (.slice fa6 ss.length fc6)).heap.size) (u6.setCell ⟨w.heap.size + 1 + 1,6,none⟩ (.slice fa6 ss.length fc6)) (.slice fa1 ts.length fc1) ts:=t1.frame (stayK cItK) (F6c.carryS 6 (.slice fa6 ss.length fc6))
 have t2:RwR 1 cTx (fun z=>w.heap.size + 3 ≤ z ∧ z < (u6.setCell ⟨w.heap.size + 1 + 1,6,none⟩ (.slice fa6 ss.length fc6)).heap.size) (u6.setCell ⟨w.heap.size + 1 + 1,6,none⟩ (.slice fa6 ss.length fc6)) (.slice fa2 xs.length fc2) xs:=t2.frame (stayK cTxK) (F6c.carryS 6 (.slice fa6 ss.length fc6))
 have t3:RwR 3 cGl (fun z=>w.heap.size + 3 ≤ z ∧ z < (u6.setCell ⟨w.heap.size + 1 + 1,6,none⟩ (.slice fa6 ss.length fc6)).heap.size) (u6.setCell ⟨w.heap.size + 1 + 1,6,none⟩ (.slice fa6 ss.length fc6)) (.slice fa3 gs.length fc3) gs:=t3.frame (stayK cGlK) (F6c.carryS 6 (.slice fa6 ss.length fc6))
 have t4:RwR 6 cFn (fun z=>w.heap.size + 3 ≤ z ∧ z < (u6.setCell ⟨w.heap.size + 1 + 1,6,none⟩ (.slice fa6 ss.length fc6)).heap.size) (u6.setCell ⟨w.heap.size + 1 + 1,6,none⟩ (.slice fa6 ss.length fc6)) (.slice fa4 fs.length fc4) fs:=t4.frame (stayK cFnK) (F6c.carryS 6 (.slice fa6 ss.length fc6))
 have t5:RwR 1 cTx (fun z=>w.heap.size + 3 ≤ z ∧ z < (u6.setCell ⟨w.heap.size + 1 + 1,6,none⟩ (.slice fa6 ss.length fc6)).heap.size) (u6.setCell ⟨w.heap.size + 1 + 1,6,none⟩ (.slice fa6 ss.length fc6)) (.slice fa5 es.length fc5) es:=t5.frame (stayK cTxK) (F6c.carryS 6 (.slice fa6 ss.length fc6))
 have t6:RwR 5 cSy (fun z=>w.heap.size + 3 ≤ z ∧ z < (u6.setCell ⟨w.heap.size + 1 + 1,6,none⟩ (.slice fa6 ss.length fc6)).heap.size) (u6.setCell ⟨w.heap.size + 1 + 1,6,none⟩ (.slice fa6 ss.length fc6)) (.slice fa6 ss.length fc6) ss:=t6.frame (stayK cSyK) (F6c.carryS 6 (.slice fa6 ss.length fc6))
 have F7:=F6s6
 have g7:=h7 _ F7.rd
 have q7:=F7.ptr
 clear h6 g6 F6 F6c r6 k6 q6 F6s6
 go_wp2_with fail
 generalize (u6.setCell ⟨w.heap.size + 1 + 1,6,none⟩ (.slice fa6 ss.length fc6)) = v7 at *
 refine g7.mono ?_
 rintro e u7 ⟨fv7,rfl,t7,n7,r7,k7⟩
 obtain ⟨fa7,fc7,rfl⟩:=t7.shape
 have F7c:=F7.call k7 r7
 have t1:RwR 4 cIt (fun z=>w.heap.size + 3 ≤ z ∧ z < u7.heap.size) u7 (.slice fa1 ts.length fc1) ts:=t1.frame (stayK cItK) (F7.carryC k7)
 have t2:RwR 1 cTx (fun z=>w.heap.size + 3 ≤ z ∧ z < u7.heap.size) u7 (.slice fa2 xs.length fc2) xs:=t2.frame (stayK cTxK) (F7.carryC k7)
 have t3:RwR 3 cGl (fun z=>w.heap.size + 3 ≤ z ∧ z < u7.heap.size) u7 (.slice fa3 gs.length fc3) gs:=t3.frame (stayK cGlK) (F7.carryC k7)
 have t4:RwR 6 cFn (fun z=>w.heap.size + 3 ≤ z ∧ z < u7.heap.size) u7 (.slice fa4 fs.length fc4) fs:=t4.frame (stayK cFnK) (F7.carryC k7)
 have t5:RwR 1 cTx (fun z=>w.heap.size + 3 ≤ z ∧ z < u7.heap.size) u7 (.slice fa5 es.length fc5) es:=t5.frame (stayK cTxK) (F7.carryC k7)
 have t6:RwR 5 cSy (fun z=>w.heap.size + 3 ≤ z ∧ z < u7.heap.size) u7 (.slice fa6 ss.length fc6) ss:=t6.frame (stayK cSyK) (F7.carryC k7)
 have t7:RwR 3 cRl (fun z=>w.heap.size + 3 ≤ z ∧ z < u7.heap.size) u7 (.slice fa7 rs.length fc7) rs:=t7.frame (stayK cRlK) (Fill.take F7)
 have c7_7:u7.cell? ⟨w.heap.size + 1 + 1,7,none⟩ = some (.slice none 0 0):=F7c.cell 7
 have f7_7:=F7c.frozen 7
 have F7s7:Fill b g l 115 29 #[.string ⟨#[]⟩,.slice none 0 0,.slice none 0 0,.slice none 0 0,.slice none 0 0,.slice none 0 0,.slice none 0 0,.slice none 0 0] w (u7.setCell ⟨w.heap.size + 1 + 1,7,none⟩ (.slice fa7 rs.length fc7)) #[.string (str m),.slice fa1 ts.length fc1,.slice fa2 xs.length fc2,.slice fa3 gs.length fc3,.slice fa4 fs.length fc4,.slice fa5 es.length fc5,.slice fa6 ss.length fc6,.slice fa7 rs.length fc7] p7 y7:=F7c.store 7 (.slice fa7 rs.length fc7)
 have t1:RwR 4 cIt (fun z=>w.heap.size + 3 ≤ z ∧ z < (u7.setCell ⟨w.heap.size + 1 + 1,7,none⟩ (.slice fa7 rs.length fc7)).heap.size) (u7.setCell ⟨w.heap.size + 1 + 1,7,none⟩ (.slice fa7 rs.length fc7)) (.slice fa1 ts.length fc1) ts:=t1.frame (stayK cItK) (F7c.carryS 7 (.slice fa7 rs.length fc7))
 have t2:RwR 1 cTx (fun z=>w.heap.size + 3 ≤ z ∧ z < (u7.setCell ⟨w.heap.size + 1 + 1,7,none⟩ (.slice fa7 rs.length fc7)).heap.size) (u7.setCell ⟨w.heap.size + 1 + 1,7,none⟩ (.slice fa7 rs.length fc7)) (.slice fa2 xs.length fc2) xs:=t2.frame (stayK cTxK) (F7c.carryS 7 (.slice fa7 rs.length fc7))
 have t3:RwR 3 cGl (fun z=>w.heap.size + 3 ≤ z ∧ z < (u7.setCell ⟨w.heap.size + 1 + 1,7,none⟩ (.slice fa7 rs.length fc7)).heap.size) (u7.setCell ⟨w.heap.size + 1 + 1,7,none⟩ (.slice fa7 rs.length fc7)) (.slice fa3 gs.length fc3) gs:=t3.frame (stayK cGlK) (F7c.carryS 7 (.slice fa7 rs.length fc7))
 have t4:RwR 6 cFn (fun z=>w.heap.size + 3 ≤ z ∧ z < (u7.setCell ⟨w.heap.size + 1 + 1,7,none⟩ (.slice fa7 rs.length fc7)).heap.size) (u7.setCell ⟨w.heap.size + 1 + 1,7,none⟩ (.slice fa7 rs.length fc7)) (.slice fa4 fs.length fc4) fs:=t4.frame (stayK cFnK) (F7c.carryS 7 (.slice fa7 rs.length fc7))
 have t5:RwR 1 cTx (fun z=>w.heap.size + 3 ≤ z ∧ z < (u7.setCell ⟨w.heap.size + 1 + 1,7,none⟩ (.slice fa7 rs.length fc7)).heap.size) (u7.setCell ⟨w.heap.size + 1 + 1,7,none⟩ (.slice fa7 rs.length fc7)) (.slice fa5 es.length fc5) es:=t5.frame (stayK cTxK) (F7c.carryS 7 (.slice fa7 rs.length fc7))
 have t6:RwR 5 cSy (fun z=>w.heap.size + 3 ≤ z ∧ z < (u7.setCell ⟨w.heap.size + 1 + 1,7,none⟩ (.slice fa7 rs.length fc7)).heap.size) (u7.setCell ⟨w.heap.size + 1 + 1,7,none⟩ (.slice fa7 rs.length fc7)) (.slice fa6 ss.length fc6) ss:=t6.frame (stayK cSyK) (F7c.carryS 7 (.slice fa7 rs.length fc7))
 have t7:RwR 3 cRl (fun z=>w.heap.size + 3 ≤ z ∧ z < (u7.setCell ⟨w.heap.size + 1 + 1,7,none⟩ (.slice fa7 rs.length fc7)).heap.size) (u7.setCell ⟨w.heap.size + 1 + 1,7,none⟩ (.slice fa7 rs.length fc7)) (.slice fa7 rs.length fc7) rs:=t7.frame (stayK cRlK) (F7c.carryS 7 (.slice fa7 rs.length fc7))
 have d0:(u7.setCell ⟨w.heap.size + 1 + 1,7,none⟩ (.slice fa7 rs.length fc7)).cell? ⟨w.heap.size + 1 + 1,0,none⟩ = some (.string (str m)):=F7s7.cell 0
 have d1:(u7.setCell ⟨w.heap.size + 1 + 1,7,none⟩ (.slice fa7 rs.length fc7)).cell? ⟨w.heap.size + 1 + 1,1,none⟩ = some (.slice fa1 ts.length fc1):=F7s7.cell 1
 have d2:(u7.setCell ⟨w.heap.size + 1 + 1,7,none⟩ (.slice fa7 rs.length fc7)).cell? ⟨w.heap.size + 1 + 1,2,none⟩ = some (.slice fa2 xs.length fc2):=F7s7.cell 2
 have d3:(u7.setCell ⟨w.heap.size + 1 + 1,7,none⟩ (.slice fa7 rs.length fc7)).cell? ⟨w.heap.size + 1 + 1,3,none⟩ = some (.slice fa3 gs.length fc3):=F7s7.cell 3
 have d4:(u7.setCell ⟨w.heap.size + 1 + 1,7,none⟩ (.slice fa7 rs.length fc7)).cell? ⟨w.heap.size + 1 + 1,4,none⟩ = some (.slice fa4 fs.length fc4):=F7s7.cell 4
 have d5:(u7.setCell ⟨w.heap.size + 1 + 1,7,none⟩ (.slice fa7 rs.length fc7)).cell? ⟨w.heap.size + 1 + 1,5,none⟩ = some (.slice fa5 es.length fc5):=F7s7.cell 5
 have d6:(u7.setCell ⟨w.heap.size + 1 + 1,7,none⟩ (.slice fa7 rs.length fc7)).cell? ⟨w.heap.size + 1 + 1,6,none⟩ = some (.slice fa6 ss.length fc6):=F7s7.cell 6
 have d7:(u7.setCell ⟨w.heap.size + 1 + 1,7,none⟩ (.slice fa7 rs.length fc7)).cell? ⟨w.heap.size + 1 + 1,7,none⟩ = some (.slice fa7 rs.length fc7):=F7s7.cell 7
 have hA:=F7s7.res
 obtain ⟨rE,kE,cE⟩:=F7s7.done #[.string (str m),.slice fa1 ts.length fc1,.slice fa2 xs.length fc2,.slice fa3 gs.length fc3,.slice fa4 fs.length fc4,.slice fa5 es.length fc5,.slice fa6 ss.length fc6,.slice fa7 rs.length fc7]
 have t1:=t1.frame (stayK cItK) cE
 have t2:=t2.frame (stayK cTxK) cE
 have t3:=t3.frame (stayK cGlK) cE
 have t4:=t4.frame (stayK cFnK) cE
 have t5:=t5.frame (stayK cTxK) cE
 have t6:=t6.frame (stayK cSyK) cE
 have t7:=t7.frame (stayK cRlK) cE
 clear h7 g7 F7 F7c r7 k7 q7 F7s7 cE
 go_wp2_with (refine wpList_store_row rfl 29 (.tmp 2) (.tmp 42) rfl (w.heap.size + 1) #[.string (str m),.slice fa1 ts.length fc1,.slice fa2 xs.length fc2,.slice fa3 gs.length fc3,.slice fa4 fs.length fc4,.slice fa5 es.length fc5,.slice fa6 ss.length fc6,.slice fa7 rs.length fc7] rfl rfl 29 #[.string ⟨#[]⟩,.slice none 0 0,.slice none 0 0,.slice none 0 0,.slice none 0 0,.slice none 0 0,.slice none 0 0,.slice none 0 0] hA szObO rfl (by kernel_rfl) ?_)
 (try simp only [Exit.inBlock,Exit.then])
 refine bodyPost_ret (results_cell_row rfl _ _ (w.heap.size + 1) 29 #[.string (str m),.slice fa1 ts.length fc1,.slice fa2 xs.length fc2,.slice fa3 gs.length fc3,.slice fa4 fs.length fc4,.slice fa5 es.length fc5,.slice fa6 ss.length fc6,.slice fa7 rs.length fc7] (0,0) _ rfl (setRow_heap _ (w.heap.size + 1) _ _ 29 (0,0) hA) Tryz.underlying29 rfl szObO) rfl ?_
 exact ⟨[.string (str m),.slice fa1 ts.length fc1,.slice fa2 xs.length fc2,.slice fa3 gs.length fc3,.slice fa4 fs.length fc4,.slice fa5 es.length fc5,.slice fa6 ss.length fc6,.slice fa7 rs.length fc7],rfl,⟨⟨_,_,_,_,_,_,_⟩,rfl,⟨rw_it t1,rw_txC t2,t3,t4,rw_txC t5,t6,t7⟩⟩,rE,kE⟩
end Go.Proofs.YtiiepfplommmfaaGreatDoor
