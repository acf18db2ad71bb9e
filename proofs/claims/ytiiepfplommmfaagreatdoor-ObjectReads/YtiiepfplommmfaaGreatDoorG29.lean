/-
  Object's reader: lists of items, globals, functions, symbols, relocations.
-/
import Derived.Test.YtiiepfplommmfaaGreatDoorG28
namespace Go.Proofs.YtiiepfplommmfaaGreatDoor
open Go.RowKit

set_option maxHeartbeats 4000000 in
set_option maxRecDepth 1000000 in
theorem rlistG (b g : Nat) (l : List Nat) (p y : Nat) (w : World) (hl : l.length ≤ 140737488355328) (h256 : ∀ x ∈ l, x < 256) (hp : p ≤ l.length) (hr : Wire.RIs w b g l p y) :
  Calls Tryz.prog 116 #[rdv b,.func (.func 117) #[rdv b] #[]] w (RlE 3 cGl (listR l (glR l) p y) l b g w):=by
 have hbl:=hr.lt
 have hgl:=hr.gt
 have kA:=wk_alloc w (.cells #[.pointer (some ⟨b,0,none⟩)] 115)
 have nA:=World.alloc_heap_new w (.cells #[.pointer (some ⟨b,0,none⟩)] 115)
 have zA:(w.alloc (.cells #[.pointer (some ⟨b,0,none⟩)] 115)).heap.size = w.heap.size + 1:=by simp
 have hrA:=hr.kept kA (fun h=>h) (fun h=>h)
 have hnum:=rnm b g l p y _ hl h256 hp hrA
 have hN:=Wire.rNum_most l p y 65535
 have hp1:=Wire.rNum_le l p y 65535 hp
 have HL:Hid (listR l (glR l) p y = listF (glR l) (Wire.rNum l p y 65535).1 (Wire.rNum l p y 65535).2.1 (Wire.rNum l p y 65535).2.2 []):=rfl
 unfold NuE at hnum
 generalize Wire.rNum l p y 65535 = R at *
 obtain ⟨N,p1,y1⟩:=R
 simp only at hnum hN hp1 HL
 generalize listR l (glR l) p y = RES at *
 have hptr:∀ u,Wire.Kept (fun x=>x = b) (w.alloc (.cells #[.pointer (some ⟨b,0,none⟩)] 115)) u → u.cell? ⟨w.heap.size,0,none⟩ = some (.pointer (some ⟨b,0,none⟩)):=fun u hu=>by
  rw [cell_of_row u _ 0 _ _ _ ((hu.block w.heap.size (by omega) (by omega)).trans nA)]
  rfl
 have q0:=hptr _ (Wire.Kept.refl _ _)
 unfold rdv at *
 clear hr hrA nA
 go_enter Tryz.func116,Tryz.ntmps116
 go_wp2_with fail
 generalize w.alloc (.cells #[.pointer (some ⟨b,0,none⟩)] 115) = wA at *
 refine hnum.mono ?_
 rintro e w1 ⟨rfl,hr1,K1⟩
 clear hnum q0
 go_wp2
 go_loopg [5,9] N (fun gk lv i wr=>∃ (k pk yk:Nat) (acc:List (Gl)),gk + k = N ∧ i = .int .i64 (k:Int) ∧ Hid (RES = listF (glR l) (N - k) pk yk acc) ∧ Hid (acc.length = k) ∧ pk ≤ l.length ∧ Wire.RIs wr b g l pk yk ∧ RowG cGl 73 3 (w.heap.size + 1) wr lv acc ∧ Wire.Kept (fun x=>x = b) wA wr)
 case atStart=>exact ⟨0,p1,y1,[],by omega,rfl,by simpa [Hid] using HL,rfl,hp1,hr1,RowG.nil _ _ _ _ _,K1⟩
 case round =>
  obtain ⟨k,pk,yk,acc,hg,rfl,hq,hak,hpk,hrr,hrow,Kr⟩:=hrel
  have hsr:=Kr.size
  by_cases hk:k < N
  ·have hki:(k:Int) < (N:Int):=by omega
   have hst:=listF_atO (glR l) N k pk yk acc hk
   have hrd:=rglobal b g l pk yk wr hl h256 hpk hrr
   have hple:=(rdr_gl l).le pk yk hpk
   have hal:acc.length ≤ 65535:=by have:=hak.out; omega
   have q1:=hptr _ Kr
   obtain ⟨la,lc,hlv⟩:=hrow.shape
   subst hlv
   have hob0:∀ z,(Value.slice la acc.length lc).ownBlock = some z → w.heap.size + 1 ≤ z ∧ z < wr.heap.size:=fun z hz=>hrow.block hz
   unfold RdE at hrd
   generalize (glR l) pk yk = X at *
   obtain ⟨x,px,yx⟩:=X
   simp only at hst hrd hple
   unfold rdv at hrd
   go_wp2_with fail
   refine hrd.mono ?_
   rintro e w2 ⟨cs,rfl,hC2,hr2,K2⟩
   have hlen:=cGlK.len hC2
   unfold cGl at hC2
   subst hC2
   have hC2:cGl (Fr wr w2) w2 x [.string (str x.name),.string (str x.ty),.int .i64 x.fn]:=rfl
   have K3:=wk_alloc w2 (.cells #[.string (str x.name),.string (str x.ty),.int .i64 x.fn] 73)
   have hN3:=World.alloc_heap_new w2 (.cells #[.string (str x.name),.string (str x.ty),.int .i64 x.fn] 73)
   have hr3:=hr2.kept K3 (fun h=>h) (fun h=>h)
   have hs2:=K2.size
   have hrow3:=(hrow.wk cGlK K2 (fun z hz e=>by omega)).wk cGlK K3 (fun _ _ h=>h)
   have K3':Wire.Kept (fun x=>x = b) wA (w2.alloc (.cells #[.string (str x.name),.string (str x.ty),.int .i64 x.fn] 73)):=(Kr.trans K2 (fun _ _ h=>h) (fun _ _ h=>h)).trans K3 (fun _ _ h=>h) (fun _ _ h=>h.elim)
   have hC3:cGl (fun z=>w.heap.size + 1 ≤ z ∧ z < (w2.alloc (.cells #[.string (str x.name),.string (str x.ty),.int .i64 x.fn] 73)).heap.size ∧ some z ≠ (Value.slice la acc.length lc).ownBlock) (w2.alloc (.cells #[.string (str x.name),.string (str x.ty),.int .i64 x.fn] 73)) x [.string (str x.name),.string (str x.ty),.int .i64 x.fn]:=cGlK.frame (fun z hz=>⟨⟨by have:=hz.1; omega,by have:=hz.2; simp; omega,fun e=>by have:=(hob0 z e.symm).2; have:=hz.1; omega⟩,Below.heap_alloc _ _ _ hz.2⟩) hC2
   have q2:=hptr _ K3'
   have href:=rref b g l px yx _ hl hr3
   unfold rdv at href
   clear q1 hrow K2 hrr Kr hC2 hr2 hlen K3
   by_cases hbad:badW yx = true
   ·rw [hbad] at href
    have HE:=hq.out
    rw [hst,if_pos hbad] at HE
    subst HE
    clear hst hq hbad hrow3 hC3 hN3
    go_wp2_with fail
    generalize w2.alloc (.cells #[.string (str x.name),.string (str x.ty),.int .i64 x.fn] 73) = W3 at *
    refine href.mono ?_
    rintro e w4 ⟨rfl,K4⟩
    have hr4:=hr3.kept K4 (fun h=>h) (fun h=>h)
    have K4':Wire.Kept (fun x=>x = b) w w4:=(kA.trans K3' (U:=fun x=>x = b) (fun _ _ h=>h.elim) (fun _ _ h=>h)).trans K4 (fun _ _ h=>h) (fun _ _ h=>h.elim)
    clear href K4 q2 K3' hr3
    go_wp2
    go_ret
    exact ⟨_,rfl,.inl ⟨none,0,rfl,rfl⟩,by simp,hr4,K4'⟩
   ·have hbf:badW yx = false:=by simpa using hbad
    rw [hbf] at href
    have HE:Hid (RES = listF (glR l) (N - (k + 1)) px yx (acc ++ [x])):=by rw [hid_iff,hq.out,hst,if_neg hbad]
    clear hst hq hbad hbf
    go_wp2_with fail
    generalize hW3:w2.alloc (.cells #[.string (str x.name),.string (str x.ty),.int .i64 x.fn] 73) = W3 at *
    clear hW3
    refine href.mono ?_
    rintro e w4 ⟨rfl,K4⟩
    have hlt3:w2.heap.size < W3.heap.size:=(Array.getElem?_eq_some_iff.1 hN3).1
    have hr4:=hr3.kept K4 (fun h=>h) (fun h=>h)
    have hrow4:=hrow3.wk cGlK K4 (fun _ _ h=>h)
    have hN4:=(K4.block w2.heap.size hlt3 (fun h=>h)).trans hN3
    have K4':Wire.Kept (fun x=>x = b) wA w4:=K3'.trans K4 (fun _ _ h=>h) (fun _ _ h=>h.elim)
    have hC4:cGl (fun z=>w.heap.size + 1 ≤ z ∧ z < (w4.alloc (.cells #[.string (str x.name),.string (str x.ty),.int .i64 x.fn] 73)).heap.size ∧ some z ≠ (Value.slice la acc.length lc).ownBlock) (w4.alloc (.cells #[.string (str x.name),.string (str x.ty),.int .i64 x.fn] 73)) x [.string (str x.name),.string (str x.ty),.int .i64 x.fn]:=cGlK.frame (fun z hz=>⟨⟨hz.1,by have:=hz.2.1; have:=K4.size; simp; omega,hz.2.2⟩,(Below.heap_alloc _ _ _ (by have:=hz.2.1; have:=K4.size; omega)).trans (K4.block z hz.2.1 (fun h=>h))⟩) hC3
    have hs4:=K4'.size
    have n0:w4.cell? ⟨w2.heap.size,0,none⟩ = some (.string (str x.name)):=by rw [cell_of_row _ _ 0 _ _ _ hN4]; rfl
    have n1:w4.cell? ⟨w2.heap.size,1,none⟩ = some (.string (str x.ty)):=by rw [cell_of_row _ _ 1 _ _ _ hN4]; rfl
    have n2:w4.cell? ⟨w2.heap.size,2,none⟩ = some (.int .i64 x.fn):=by rw [cell_of_row _ _ 2 _ _ _ hN4]; rfl
    clear hrow3 K4 hr3 K3' hN3 hC3 href hrd q2 hN4
    go_wp2_with (at_builtin; refine append_rowG (bytes:=40) cGlK rfl (.tmp 15) (.tmp 17) 24 rfl Tryz.underlying24 (by kernel_rfl) (by decide) _ acc rfl (hrow4.wk cGlK (wk_alloc _ _) (fun _ _ h=>h)) x [.string (str x.name),.string (str x.ty),.int .i64 x.fn] _ _ rfl ?news hC4 ?len ?hby ?hB ?next)
    case news=>first | exact cells_new _ _ _ | exact fun j u h=>h
    case len=>first | (unfold maxLen; omega) | (simp; omega)
    case hby=>omega
    case hB=>first | omega | (simp; omega)
    case next =>
     intro gq cap w5 j1 j2
     have K5:=((wk_alloc w4 (.cells #[.string (str x.name),.string (str x.ty),.int .i64 x.fn] 73)).trans (U:=fun z=>(Value.slice la acc.length lc).ownBlock = some z) (wk_grown j2) (fun _ _ h=>h.elim) (fun _ _ h=>h))
     have hr5:=hr4.kept K5 (fun h=>by have:=(hob0 _ h).1; omega) (fun h=>by have:=(hob0 _ h).1; omega)
     have K5':Wire.Kept (fun x=>x = b) wA w5:=K4'.trans K5 (fun _ _ h=>h) (fun z hz h=>absurd (hob0 z h).1 (by omega))
     clear K5 K4' hr4 hrow4 j2
     go_wp2
     go_roundg (N - (k + 1))
     case measure=>omega
     case rel=>exact ⟨k + 1,px,yx,acc ++ [x],by omega,by go_num,HE,by have:=hak.out; rw [hid_iff,List.length_append,List.length_singleton,this],hple,hr5,by simpa using j1,K5'⟩
  ·have hki:¬ (k:Int) < (N:Int):=by omega
   have HE:=hq.out
   rw [listF_endO (glR l) N k pk yk acc hk] at HE
   subst HE
   obtain ⟨va,vc,hlv⟩:=hrow.shape
   subst hlv
   have hal:acc.length ≤ 65535:=by have:=hak.out; omega
   have hR:RwR 3 cGl (Fr w wr) wr (.slice va acc.length vc) acc:=(hrow.rw cGlK).frame (stayK cGlK) (fun z hz=>⟨⟨by have:=hz.1; omega,hz.2⟩,rfl⟩)
   have KK:Wire.Kept (fun x=>x = b) w wr:=kA.trans Kr (U:=fun x=>x = b) (fun _ _ h=>h.elim) (fun _ _ h=>h)
   clear hrow Kr hq hak
   go_wp2
   go_ret
   exact ⟨_,rfl,hR,hal,hrr,KK⟩
set_option maxHeartbeats 4000000 in
set_option maxRecDepth 1000000 in
theorem rlistR (b g : Nat) (l : List Nat) (p y : Nat) (w : World) (hl : l.length ≤ 140737488355328) (h256 : ∀ x ∈ l, x < 256) (hp : p ≤ l.length) (hr : Wire.RIs w b g l p y) :
  Calls Tryz.prog 122 #[rdv b,.func (.func 123) #[rdv b] #[]] w (RlE 3 cRl (listR l (rlR l) p y) l b g w):=by
 have hbl:=hr.lt
 have hgl:=hr.gt
 have kA:=wk_alloc w (.cells #[.pointer (some ⟨b,0,none⟩)] 115)
 have nA:=World.alloc_heap_new w (.cells #[.pointer (some ⟨b,0,none⟩)] 115)
 have zA:(w.alloc (.cells #[.pointer (some ⟨b,0,none⟩)] 115)).heap.size = w.heap.size + 1:=by simp
 have hrA:=hr.kept kA (fun h=>h) (fun h=>h)
 have hnum:=rnm b g l p y _ hl h256 hp hrA
 have hN:=Wire.rNum_most l p y 65535
 have hp1:=Wire.rNum_le l p y 65535 hp
 have HL:Hid (listR l (rlR l) p y = listF (rlR l) (Wire.rNum l p y 65535).1 (Wire.rNum l p y 65535).2.1 (Wire.rNum l p y 65535).2.2 []):=rfl
 unfold NuE at hnum
 generalize Wire.rNum l p y 65535 = R at *
 obtain ⟨N,p1,y1⟩:=R
 simp only at hnum hN hp1 HL
 generalize listR l (rlR l) p y = RES at *
 have hptr:∀ u,Wire.Kept (fun x=>x = b) (w.alloc (.cells #[.pointer (some ⟨b,0,none⟩)] 115)) u → u.cell? ⟨w.heap.size,0,none⟩ = some (.pointer (some ⟨b,0,none⟩)):=fun u hu=>by
  rw [cell_of_row u _ 0 _ _ _ ((hu.block w.heap.size (by omega) (by omega)).trans nA)]
  rfl
 have q0:=hptr _ (Wire.Kept.refl _ _)
 unfold rdv at *
 clear hr hrA nA
 go_enter Tryz.func122,Tryz.ntmps122
 go_wp2_with fail
 generalize w.alloc (.cells #[.pointer (some ⟨b,0,none⟩)] 115) = wA at *
 refine hnum.mono ?_
 rintro e w1 ⟨rfl,hr1,K1⟩
 clear hnum q0
 go_wp2
 go_loopg [5,9] N (fun gk lv i wr=>∃ (k pk yk:Nat) (acc:List (Rl)),gk + k = N ∧ i = .int .i64 (k:Int) ∧ Hid (RES = listF (rlR l) (N - k) pk yk acc) ∧ Hid (acc.length = k) ∧ pk ≤ l.length ∧ Wire.RIs wr b g l pk yk ∧ RowG cRl 82 3 (w.heap.size + 1) wr lv acc ∧ Wire.Kept (fun x=>x = b) wA wr)
 case atStart=>exact ⟨0,p1,y1,[],by omega,rfl,by simpa [Hid] using HL,rfl,hp1,hr1,RowG.nil _ _ _ _ _,K1⟩
 case round =>
  obtain ⟨k,pk,yk,acc,hg,rfl,hq,hak,hpk,hrr,hrow,Kr⟩:=hrel
  have hsr:=Kr.size
  by_cases hk:k < N
  ·have hki:(k:Int) < (N:Int):=by omega
   have hst:=listF_atO (rlR l) N k pk yk acc hk
   have hrd:=rreloc b g l pk yk wr hl h256 hpk hrr
   have hple:=(rdr_rl l).le pk yk hpk
   have hal:acc.length ≤ 65535:=by have:=hak.out; omega
   have q1:=hptr _ Kr
   obtain ⟨la,lc,hlv⟩:=hrow.shape
   subst hlv
   have hob0:∀ z,(Value.slice la acc.length lc).ownBlock = some z → w.heap.size + 1 ≤ z ∧ z < wr.heap.size:=fun z hz=>hrow.block hz
   unfold RdE at hrd
   generalize (rlR l) pk yk = X at *
   obtain ⟨x,px,yx⟩:=X
   simp only at hst hrd hple
   unfold rdv at hrd
   go_wp2_with fail
   refine hrd.mono ?_
   rintro e w2 ⟨cs,rfl,hC2,hr2,K2⟩
   have hlen:=cRlK.len hC2
   unfold cRl at hC2
   subst hC2
   have hC2:cRl (Fr wr w2) w2 x [.int .i64 x.fn,.int .i64 x.place,.int .i64 x.sym]:=rfl
   have K3:=wk_alloc w2 (.cells #[.int .i64 x.fn,.int .i64 x.place,.int .i64 x.sym] 82)
   have hN3:=World.alloc_heap_new w2 (.cells #[.int .i64 x.fn,.int .i64 x.place,.int .i64 x.sym] 82)
   have hr3:=hr2.kept K3 (fun h=>h) (fun h=>h)
   have hs2:=K2.size
   have hrow3:=(hrow.wk cRlK K2 (fun z hz e=>by omega)).wk cRlK K3 (fun _ _ h=>h)
   have K3':Wire.Kept (fun x=>x = b) wA (w2.alloc (.cells #[.int .i64 x.fn,.int .i64 x.place,.int .i64 x.sym] 82)):=(Kr.trans K2 (fun _ _ h=>h) (fun _ _ h=>h)).trans K3 (fun _ _ h=>h) (fun _ _ h=>h.elim)
   have hC3:cRl (fun z=>w.heap.size + 1 ≤ z ∧ z < (w2.alloc (.cells #[.int .i64 x.fn,.int .i64 x.place,.int .i64 x.sym] 82)).heap.size ∧ some z ≠ (Value.slice la acc.length lc).ownBlock) (w2.alloc (.cells #[.int .i64 x.fn,.int .i64 x.place,.int .i64 x.sym] 82)) x [.int .i64 x.fn,.int .i64 x.place,.int .i64 x.sym]:=cRlK.frame (fun z hz=>⟨⟨by have:=hz.1; omega,by have:=hz.2; simp; omega,fun e=>by have:=(hob0 z e.symm).2; have:=hz.1; omega⟩,Below.heap_alloc _ _ _ hz.2⟩) hC2
   have q2:=hptr _ K3'
   have href:=rref b g l px yx _ hl hr3
   unfold rdv at href
   clear q1 hrow K2 hrr Kr hC2 hr2 hlen K3
   by_cases hbad:badW yx = true
   ·rw [hbad] at href
    have HE:=hq.out
    rw [hst,if_pos hbad] at HE
    subst HE
    clear hst hq hbad hrow3 hC3 hN3
    go_wp2_with fail
    generalize w2.alloc (.cells #[.int .i64 x.fn,.int .i64 x.place,.int .i64 x.sym] 82) = W3 at *
    refine href.mono ?_
    rintro e w4 ⟨rfl,K4⟩
    have hr4:=hr3.kept K4 (fun h=>h) (fun h=>h)
    have K4':Wire.Kept (fun x=>x = b) w w4:=(kA.trans K3' (U:=fun x=>x = b) (fun _ _ h=>h.elim) (fun _ _ h=>h)).trans K4 (fun _ _ h=>h) (fun _ _ h=>h.elim)
    clear href K4 q2 K3' hr3
    go_wp2
    go_ret
    exact ⟨_,rfl,.inl ⟨none,0,rfl,rfl⟩,by simp,hr4,K4'⟩
   ·have hbf:badW yx = false:=by simpa using hbad
    rw [hbf] at href
    have HE:Hid (RES = listF (rlR l) (N - (k + 1)) px yx (acc ++ [x])):=by rw [hid_iff,hq.out,hst,if_neg hbad]
    clear hst hq hbad hbf
    go_wp2_with fail
    generalize hW3:w2.alloc (.cells #[.int .i64 x.fn,.int .i64 x.place,.int .i64 x.sym] 82) = W3 at *
    clear hW3
    refine href.mono ?_
    rintro e w4 ⟨rfl,K4⟩
    have hlt3:w2.heap.size < W3.heap.size:=(Array.getElem?_eq_some_iff.1 hN3).1
    have hr4:=hr3.kept K4 (fun h=>h) (fun h=>h)
    have hrow4:=hrow3.wk cRlK K4 (fun _ _ h=>h)
    have hN4:=(K4.block w2.heap.size hlt3 (fun h=>h)).trans hN3
    have K4':Wire.Kept (fun x=>x = b) wA w4:=K3'.trans K4 (fun _ _ h=>h) (fun _ _ h=>h.elim)
    have hC4:cRl (fun z=>w.heap.size + 1 ≤ z ∧ z < (w4.alloc (.cells #[.int .i64 x.fn,.int .i64 x.place,.int .i64 x.sym] 82)).heap.size ∧ some z ≠ (Value.slice la acc.length lc).ownBlock) (w4.alloc (.cells #[.int .i64 x.fn,.int .i64 x.place,.int .i64 x.sym] 82)) x [.int .i64 x.fn,.int .i64 x.place,.int .i64 x.sym]:=cRlK.frame (fun z hz=>⟨⟨hz.1,by have:=hz.2.1; have:=K4.size; simp; omega,hz.2.2⟩,(Below.heap_alloc _ _ _ (by have:=hz.2.1; have:=K4.size; omega)).trans (K4.block z hz.2.1 (fun h=>h))⟩) hC3
    have hs4:=K4'.size
    have n0:w4.cell? ⟨w2.heap.size,0,none⟩ = some (.int .i64 x.fn):=by rw [cell_of_row _ _ 0 _ _ _ hN4]; rfl
    have n1:w4.cell? ⟨w2.heap.size,1,none⟩ = some (.int .i64 x.place):=by rw [cell_of_row _ _ 1 _ _ _ hN4]; rfl
    have n2:w4.cell? ⟨w2.heap.size,2,none⟩ = some (.int .i64 x.sym):=by rw [cell_of_row _ _ 2 _ _ _ hN4]; rfl
    clear hrow3 K4 hr3 K3' hN3 hC3 href hrd q2 hN4
    go_wp2_with (at_builtin; refine append_rowG (bytes:=24) cRlK rfl (.tmp 15) (.tmp 17) 27 rfl Tryz.underlying27 (by kernel_rfl) (by decide) _ acc rfl (hrow4.wk cRlK (wk_alloc _ _) (fun _ _ h=>h)) x [.int .i64 x.fn,.int .i64 x.place,.int .i64 x.sym] _ _ rfl ?news hC4 ?len ?hby ?hB ?next)
    case news=>first | exact cells_new _ _ _ | exact fun j u h=>h
    case len=>first | (unfold maxLen; omega) | (simp; omega)
    case hby=>omega
    case hB=>first | omega | (simp; omega)
    case next =>
     intro gq cap w5 j1 j2
     have K5:=((wk_alloc w4 (.cells #[.int .i64 x.fn,.int .i64 x.place,.int .i64 x.sym] 82)).trans (U:=fun z=>(Value.slice la acc.length lc).ownBlock = some z) (wk_grown j2) (fun _ _ h=>h.elim) (fun _ _ h=>h))
     have hr5:=hr4.kept K5 (fun h=>by have:=(hob0 _ h).1; omega) (fun h=>by have:=(hob0 _ h).1; omega)
     have K5':Wire.Kept (fun x=>x = b) wA w5:=K4'.trans K5 (fun _ _ h=>h) (fun z hz h=>absurd (hob0 z h).1 (by omega))
     clear K5 K4' hr4 hrow4 j2
     go_wp2
     go_roundg (N - (k + 1))
     case measure=>omega
     case rel=>exact ⟨k + 1,px,yx,acc ++ [x],by omega,by go_num,HE,by have:=hak.out; rw [hid_iff,List.length_append,List.length_singleton,this],hple,hr5,by simpa using j1,K5'⟩
  ·have hki:¬ (k:Int) < (N:Int):=by omega
   have HE:=hq.out
   rw [listF_endO (rlR l) N k pk yk acc hk] at HE
   subst HE
   obtain ⟨va,vc,hlv⟩:=hrow.shape
   subst hlv
   have hal:acc.length ≤ 65535:=by have:=hak.out; omega
   have hR:RwR 3 cRl (Fr w wr) wr (.slice va acc.length vc) acc:=(hrow.rw cRlK).frame (stayK cRlK) (fun z hz=>⟨⟨by have:=hz.1; omega,hz.2⟩,rfl⟩)
   have KK:Wire.Kept (fun x=>x = b) w wr:=kA.trans Kr (U:=fun x=>x = b) (fun _ _ h=>h.elim) (fun _ _ h=>h)
   clear hrow Kr hq hak
   go_wp2
   go_ret
   exact ⟨_,rfl,hR,hal,hrr,KK⟩
set_option maxHeartbeats 4000000 in
set_option maxRecDepth 1000000 in
theorem rlistI (b g : Nat) (l : List Nat) (p y : Nat) (w : World) (hl : l.length ≤ 140737488355328) (h256 : ∀ x ∈ l, x < 256) (hp : p ≤ l.length) (hr : Wire.RIs w b g l p y) :
  Calls Tryz.prog 112 #[rdv b,.func (.func 113) #[rdv b] #[]] w (RlE 4 cIt (listR l (itemR l) p y) l b g w):=by
 have hbl:=hr.lt
 have hgl:=hr.gt
 have kA:=wk_alloc w (.cells #[.pointer (some ⟨b,0,none⟩)] 115)
 have nA:=World.alloc_heap_new w (.cells #[.pointer (some ⟨b,0,none⟩)] 115)
 have zA:(w.alloc (.cells #[.pointer (some ⟨b,0,none⟩)] 115)).heap.size = w.heap.size + 1:=by simp
 have hrA:=hr.kept kA (fun h=>h) (fun h=>h)
 have hnum:=rnm b g l p y _ hl h256 hp hrA
 have hN:=Wire.rNum_most l p y 65535
 have hp1:=Wire.rNum_le l p y 65535 hp
 have HL:Hid (listR l (itemR l) p y = listF (itemR l) (Wire.rNum l p y 65535).1 (Wire.rNum l p y 65535).2.1 (Wire.rNum l p y 65535).2.2 []):=rfl
 unfold NuE at hnum
 generalize Wire.rNum l p y 65535 = R at *
 obtain ⟨N,p1,y1⟩:=R
 simp only at hnum hN hp1 HL
 generalize listR l (itemR l) p y = RES at *
 have hptr:∀ u,Wire.Kept (fun x=>x = b) (w.alloc (.cells #[.pointer (some ⟨b,0,none⟩)] 115)) u → u.cell? ⟨w.heap.size,0,none⟩ = some (.pointer (some ⟨b,0,none⟩)):=fun u hu=>by
  rw [cell_of_row u _ 0 _ _ _ ((hu.block w.heap.size (by omega) (by omega)).trans nA)]
  rfl
 have q0:=hptr _ (Wire.Kept.refl _ _)
 unfold rdv at *
 clear hr hrA nA
 go_enter Tryz.func112,Tryz.ntmps112
 go_wp2_with fail
 generalize w.alloc (.cells #[.pointer (some ⟨b,0,none⟩)] 115) = wA at *
 refine hnum.mono ?_
 rintro e w1 ⟨rfl,hr1,K1⟩
 clear hnum q0
 go_wp2
 go_loopg [5,9] N (fun gk lv i wr=>∃ (k pk yk:Nat) (acc:List (It)),gk + k = N ∧ i = .int .i64 (k:Int) ∧ Hid (RES = listF (itemR l) (N - k) pk yk acc) ∧ Hid (acc.length = k) ∧ pk ≤ l.length ∧ Wire.RIs wr b g l pk yk ∧ RowG cIt 77 4 (w.heap.size + 1) wr lv acc ∧ Wire.Kept (fun x=>x = b) wA wr)
 case atStart=>exact ⟨0,p1,y1,[],by omega,rfl,by simpa [Hid] using HL,rfl,hp1,hr1,RowG.nil _ _ _ _ _,K1⟩
 case round =>
  obtain ⟨k,pk,yk,acc,hg,rfl,hq,hak,hpk,hrr,hrow,Kr⟩:=hrel
  have hsr:=Kr.size
  by_cases hk:k < N
  ·have hki:(k:Int) < (N:Int):=by omega
   have hst:=listF_atO (itemR l) N k pk yk acc hk
   have hrd:=ritem b g l pk yk wr hl h256 hpk hrr
   have hple:=(rdr_item l).le pk yk hpk
   have hal:acc.length ≤ 65535:=by have:=hak.out; omega
   have q1:=hptr _ Kr
   obtain ⟨la,lc,hlv⟩:=hrow.shape
   subst hlv
   have hob0:∀ z,(Value.slice la acc.length lc).ownBlock = some z → w.heap.size + 1 ≤ z ∧ z < wr.heap.size:=fun z hz=>hrow.block hz
   unfold RdE at hrd
   generalize (itemR l) pk yk = X at *
   obtain ⟨x,px,yx⟩:=X
   simp only at hst hrd hple
   unfold rdv at hrd
   go_wp2_with fail
   refine hrd.mono ?_
   rintro e w2 ⟨cs,rfl,hC2,hr2,K2⟩
   have hlen:=cItK.len hC2
   obtain ⟨fv,rfl,hT2⟩:=hC2
   obtain ⟨fa,fc,rfl⟩:=hT2.shape
   have hC2:cIt (Fr wr w2) w2 x [.int .i64 x.kind,.string (str x.name),.string (str x.ty),.slice fa x.cases.length fc]:=⟨_,rfl,hT2⟩
   clear hT2
   have K3:=wk_alloc w2 (.cells #[.int .i64 x.kind,.string (str x.name),.string (str x.ty),.slice fa x.cases.length fc] 77)
   have hN3:=World.alloc_heap_new w2 (.cells #[.int .i64 x.kind,.string (str x.name),.string (str x.ty),.slice fa x.cases.length fc] 77)
   have hr3:=hr2.kept K3 (fun h=>h) (fun h=>h)
   have hs2:=K2.size
   have hrow3:=(hrow.wk cItK K2 (fun z hz e=>by omega)).wk cItK K3 (fun _ _ h=>h)
   have K3':Wire.Kept (fun x=>x = b) wA (w2.alloc (.cells #[.int .i64 x.kind,.string (str x.name),.string (str x.ty),.slice fa x.cases.length fc] 77)):=(Kr.trans K2 (fun _ _ h=>h) (fun _ _ h=>h)).trans K3 (fun _ _ h=>h) (fun _ _ h=>h.elim)
   have hC3:cIt (fun z=>w.heap.size + 1 ≤ z ∧ z < (w2.alloc (.cells #[.int .i64 x.kind,.string (str x.name),.string (str x.ty),.slice fa x.cases.length fc] 77)).heap.size ∧ some z ≠ (Value.slice la acc.length lc).ownBlock) (w2.alloc (.cells #[.int .i64 x.kind,.string (str x.name),.string (str x.ty),.slice fa x.cases.length fc] 77)) x [.int .i64 x.kind,.string (str x.name),.string (str x.ty),.slice fa x.cases.length fc]:=cItK.frame (fun z hz=>⟨⟨by have:=hz.1; omega,by have:=hz.2; simp; omega,fun e=>by have:=(hob0 z e.symm).2; have:=hz.1; omega⟩,Below.heap_alloc _ _ _ hz.2⟩) hC2
   have q2:=hptr _ K3'
   have href:=rref b g l px yx _ hl hr3
   unfold rdv at href
   clear q1 hrow K2 hrr Kr hC2 hr2 hlen K3
   by_cases hbad:badW yx = true
   ·rw [hbad] at href
    have HE:=hq.out
    rw [hst,if_pos hbad] at HE
    subst HE
    clear hst hq hbad hrow3 hC3 hN3
    go_wp2_with fail
    generalize w2.alloc (.cells #[.int .i64 x.kind,.string (str x.name),.string (str x.ty),.slice fa x.cases.length fc] 77) = W3 at *
    refine href.mono ?_
    rintro e w4 ⟨rfl,K4⟩
    have hr4:=hr3.kept K4 (fun h=>h) (fun h=>h)
    have K4':Wire.Kept (fun x=>x = b) w w4:=(kA.trans K3' (U:=fun x=>x = b) (fun _ _ h=>h.elim) (fun _ _ h=>h)).trans K4 (fun _ _ h=>h) (fun _ _ h=>h.elim)
    clear href K4 q2 K3' hr3
    go_wp2
    go_ret
    exact ⟨_,rfl,.inl ⟨none,0,rfl,rfl⟩,by simp,hr4,K4'⟩
   ·have hbf:badW yx = false:=by simpa using hbad
    rw [hbf] at href
    have HE:Hid (RES = listF (itemR l) (N - (k + 1)) px yx (acc ++ [x])):=by rw [hid_iff,hq.out,hst,if_neg hbad]
    clear hst hq hbad hbf
    go_wp2_with fail
    generalize hW3:w2.alloc (.cells #[.int .i64 x.kind,.string (str x.name),.string (str x.ty),.slice fa x.cases.length fc] 77) = W3 at *
    clear hW3
    refine href.mono ?_
    rintro e w4 ⟨rfl,K4⟩
    have hlt3:w2.heap.size < W3.heap.size:=(Array.getElem?_eq_some_iff.1 hN3).1
    have hr4:=hr3.kept K4 (fun h=>h) (fun h=>h)
    have hrow4:=hrow3.wk cItK K4 (fun _ _ h=>h)
    have hN4:=(K4.block w2.heap.size hlt3 (fun h=>h)).trans hN3
    have K4':Wire.Kept (fun x=>x = b) wA w4:=K3'.trans K4 (fun _ _ h=>h) (fun _ _ h=>h.elim)
    have hC4:cIt (fun z=>w.heap.size + 1 ≤ z ∧ z < (w4.alloc (.cells #[.int .i64 x.kind,.string (str x.name),.string (str x.ty),.slice fa x.cases.length fc] 77)).heap.size ∧ some z ≠ (Value.slice la acc.length lc).ownBlock) (w4.alloc (.cells #[.int .i64 x.kind,.string (str x.name),.string (str x.ty),.slice fa x.cases.length fc] 77)) x [.int .i64 x.kind,.string (str x.name),.string (str x.ty),.slice fa x.cases.length fc]:=cItK.frame (fun z hz=>⟨⟨hz.1,by have:=hz.2.1; have:=K4.size; simp; omega,hz.2.2⟩,(Below.heap_alloc _ _ _ (by have:=hz.2.1; have:=K4.size; omega)).trans (K4.block z hz.2.1 (fun h=>h))⟩) hC3
    have hs4:=K4'.size
    have n0:w4.cell? ⟨w2.heap.size,0,none⟩ = some (.int .i64 x.kind):=by rw [cell_of_row _ _ 0 _ _ _ hN4]; rfl
    have n1:w4.cell? ⟨w2.heap.size,1,none⟩ = some (.string (str x.name)):=by rw [cell_of_row _ _ 1 _ _ _ hN4]; rfl
    have n2:w4.cell? ⟨w2.heap.size,2,none⟩ = some (.string (str x.ty)):=by rw [cell_of_row _ _ 2 _ _ _ hN4]; rfl
    have n3:w4.cell? ⟨w2.heap.size,3,none⟩ = some (.slice fa x.cases.length fc):=by rw [cell_of_row _ _ 3 _ _ _ hN4]; rfl
    clear hrow3 K4 hr3 K3' hN3 hC3 href hrd q2 hN4
    go_wp2_with (at_builtin; refine append_rowG (bytes:=64) cItK rfl (.tmp 15) (.tmp 17) 22 rfl Tryz.underlying22 (by kernel_rfl) (by decide) _ acc rfl (hrow4.wk cItK (wk_alloc _ _) (fun _ _ h=>h)) x [.int .i64 x.kind,.string (str x.name),.string (str x.ty),.slice fa x.cases.length fc] _ _ rfl ?news hC4 ?len ?hby ?hB ?next)
    case news=>first | exact cells_new _ _ _ | exact fun j u h=>h
    case len=>first | (unfold maxLen; omega) | (simp; omega)
    case hby=>omega
    case hB=>first | omega | (simp; omega)
    case next =>
     intro gq cap w5 j1 j2
     have K5:=((wk_alloc w4 (.cells #[.int .i64 x.kind,.string (str x.name),.string (str x.ty),.slice fa x.cases.length fc] 77)).trans (U:=fun z=>(Value.slice la acc.length lc).ownBlock = some z) (wk_grown j2) (fun _ _ h=>h.elim) (fun _ _ h=>h))
     have hr5:=hr4.kept K5 (fun h=>by have:=(hob0 _ h).1; omega) (fun h=>by have:=(hob0 _ h).1; omega)
     have K5':Wire.Kept (fun x=>x = b) wA w5:=K4'.trans K5 (fun _ _ h=>h) (fun z hz h=>absurd (hob0 z h).1 (by omega))
     clear K5 K4' hr4 hrow4 j2
     go_wp2
     go_roundg (N - (k + 1))
     case measure=>omega
     case rel=>exact ⟨k + 1,px,yx,acc ++ [x],by omega,by go_num,HE,by have:=hak.out; rw [hid_iff,List.length_append,List.length_singleton,this],hple,hr5,by simpa using j1,K5'⟩
  ·have hki:¬ (k:Int) < (N:Int):=by omega
   have HE:=hq.out
   rw [listF_endO (itemR l) N k pk yk acc hk] at HE
   subst HE
   obtain ⟨va,vc,hlv⟩:=hrow.shape
   subst hlv
   have hal:acc.length ≤ 65535:=by have:=hak.out; omega
   have hR:RwR 4 cIt (Fr w wr) wr (.slice va acc.length vc) acc:=(hrow.rw cItK).frame (stayK cItK) (fun z hz=>⟨⟨by have:=hz.1; omega,hz.2⟩,rfl⟩)
   have KK:Wire.Kept (fun x=>x = b) w wr:=kA.trans Kr (U:=fun x=>x = b) (fun _ _ h=>h.elim) (fun _ _ h=>h)
   clear hrow Kr hq hak
   go_wp2
   go_ret
   exact ⟨_,rfl,hR,hal,hrr,KK⟩
set_option maxHeartbeats 4000000 in
set_option maxRecDepth 1000000 in
theorem rlistS (b g : Nat) (l : List Nat) (p y : Nat) (w : World) (hl : l.length ≤ 140737488355328) (h256 : ∀ x ∈ l, x < 256) (hp : p ≤ l.length) (hr : Wire.RIs w b g l p y) :
  Calls Tryz.prog 120 #[rdv b,.func (.func 121) #[rdv b] #[]] w (RlE 5 cSy (listR l (syR l) p y) l b g w):=by
 have hbl:=hr.lt
 have hgl:=hr.gt
 have kA:=wk_alloc w (.cells #[.pointer (some ⟨b,0,none⟩)] 115)
 have nA:=World.alloc_heap_new w (.cells #[.pointer (some ⟨b,0,none⟩)] 115)
 have zA:(w.alloc (.cells #[.pointer (some ⟨b,0,none⟩)] 115)).heap.size = w.heap.size + 1:=by simp
 have hrA:=hr.kept kA (fun h=>h) (fun h=>h)
 have hnum:=rnm b g l p y _ hl h256 hp hrA
 have hN:=Wire.rNum_most l p y 65535
 have hp1:=Wire.rNum_le l p y 65535 hp
 have HL:Hid (listR l (syR l) p y = listF (syR l) (Wire.rNum l p y 65535).1 (Wire.rNum l p y 65535).2.1 (Wire.rNum l p y 65535).2.2 []):=rfl
 unfold NuE at hnum
 generalize Wire.rNum l p y 65535 = R at *
 obtain ⟨N,p1,y1⟩:=R
 simp only at hnum hN hp1 HL
 generalize listR l (syR l) p y = RES at *
 have hptr:∀ u,Wire.Kept (fun x=>x = b) (w.alloc (.cells #[.pointer (some ⟨b,0,none⟩)] 115)) u → u.cell? ⟨w.heap.size,0,none⟩ = some (.pointer (some ⟨b,0,none⟩)):=fun u hu=>by
  rw [cell_of_row u _ 0 _ _ _ ((hu.block w.heap.size (by omega) (by omega)).trans nA)]
  rfl
 have q0:=hptr _ (Wire.Kept.refl _ _)
 unfold rdv at *
 clear hr hrA nA
 go_enter Tryz.func120,Tryz.ntmps120
 go_wp2_with fail
 generalize w.alloc (.cells #[.pointer (some ⟨b,0,none⟩)] 115) = wA at *
 refine hnum.mono ?_
 rintro e w1 ⟨rfl,hr1,K1⟩
 clear hnum q0
 go_wp2
 go_loopg [5,9] N (fun gk lv i wr=>∃ (k pk yk:Nat) (acc:List (Sy)),gk + k = N ∧ i = .int .i64 (k:Int) ∧ Hid (RES = listF (syR l) (N - k) pk yk acc) ∧ Hid (acc.length = k) ∧ pk ≤ l.length ∧ Wire.RIs wr b g l pk yk ∧ RowG cSy 79 5 (w.heap.size + 1) wr lv acc ∧ Wire.Kept (fun x=>x = b) wA wr)
 case atStart=>exact ⟨0,p1,y1,[],by omega,rfl,by simpa [Hid] using HL,rfl,hp1,hr1,RowG.nil _ _ _ _ _,K1⟩
 case round =>
  obtain ⟨k,pk,yk,acc,hg,rfl,hq,hak,hpk,hrr,hrow,Kr⟩:=hrel
  have hsr:=Kr.size
  by_cases hk:k < N
  ·have hki:(k:Int) < (N:Int):=by omega
   have hst:=listF_atO (syR l) N k pk yk acc hk
   have hrd:=rsymbol b g l pk yk wr hl h256 hpk hrr
   have hple:=(rdr_sy l).le pk yk hpk
   have hal:acc.length ≤ 65535:=by have:=hak.out; omega
   have q1:=hptr _ Kr
   obtain ⟨la,lc,hlv⟩:=hrow.shape
   subst hlv
   have hob0:∀ z,(Value.slice la acc.length lc).ownBlock = some z → w.heap.size + 1 ≤ z ∧ z < wr.heap.size:=fun z hz=>hrow.block hz
   unfold RdE at hrd
   generalize (syR l) pk yk = X at *
   obtain ⟨x,px,yx⟩:=X
   simp only at hst hrd hple
   unfold rdv at hrd
   go_wp2_with fail
   refine hrd.mono ?_
   rintro e w2 ⟨cs,rfl,hC2,hr2,K2⟩
   have hlen:=cSyK.len hC2
   obtain ⟨fv,rfl,hT2⟩:=hC2
   obtain ⟨fa,fc,rfl⟩:=hT2.shape
   have hC2:cSy (Fr wr w2) w2 x [.string (str x.mod),.int .i64 x.item.kind,.string (str x.item.name),.string (str x.item.ty),.slice fa x.item.cases.length fc]:=⟨_,rfl,hT2⟩
   clear hT2
   have K3:=wk_alloc w2 (.cells #[.string (str x.mod),.int .i64 x.item.kind,.string (str x.item.name),.string (str x.item.ty),.slice fa x.item.cases.length fc] 79)
   have hN3:=World.alloc_heap_new w2 (.cells #[.string (str x.mod),.int .i64 x.item.kind,.string (str x.item.name),.string (str x.item.ty),.slice fa x.item.cases.length fc] 79)
   have hr3:=hr2.kept K3 (fun h=>h) (fun h=>h)
   have hs2:=K2.size
   have hrow3:=(hrow.wk cSyK K2 (fun z hz e=>by omega)).wk cSyK K3 (fun _ _ h=>h)
   have K3':Wire.Kept (fun x=>x = b) wA (w2.alloc (.cells #[.string (str x.mod),.int .i64 x.item.kind,.string (str x.item.name),.string (str x.item.ty),.slice fa x.item.cases.length fc] 79)):=(Kr.trans K2 (fun _ _ h=>h) (fun _ _ h=>h)).trans K3 (fun _ _ h=>h) (fun _ _ h=>h.elim)
   have hC3:cSy (fun z=>w.heap.size + 1 ≤ z ∧ z < (w2.alloc (.cells #[.string (str x.mod),.int .i64 x.item.kind,.string (str x.item.name),.string (str x.item.ty),.slice fa x.item.cases.length fc] 79)).heap.size ∧ some z ≠ (Value.slice la acc.length lc).ownBlock) (w2.alloc (.cells #[.string (str x.mod),.int .i64 x.item.kind,.string (str x.item.name),.string (str x.item.ty),.slice fa x.item.cases.length fc] 79)) x [.string (str x.mod),.int .i64 x.item.kind,.string (str x.item.name),.string (str x.item.ty),.slice fa x.item.cases.length fc]:=cSyK.frame (fun z hz=>⟨⟨by have:=hz.1; omega,by have:=hz.2; simp; omega,fun e=>by have:=(hob0 z e.symm).2; have:=hz.1; omega⟩,Below.heap_alloc _ _ _ hz.2⟩) hC2
   have q2:=hptr _ K3'
   have href:=rref b g l px yx _ hl hr3
   unfold rdv at href
   clear q1 hrow K2 hrr Kr hC2 hr2 hlen K3
   by_cases hbad:badW yx = true
   ·rw [hbad] at href
    have HE:=hq.out
    rw [hst,if_pos hbad] at HE
    subst HE
    clear hst hq hbad hrow3 hC3 hN3
    go_wp2_with fail
    generalize w2.alloc (.cells #[.string (str x.mod),.int .i64 x.item.kind,.string (str x.item.name),.string (str x.item.ty),.slice fa x.item.cases.length fc] 79) = W3 at *
    refine href.mono ?_
    rintro e w4 ⟨rfl,K4⟩
    have hr4:=hr3.kept K4 (fun h=>h) (fun h=>h)
    have K4':Wire.Kept (fun x=>x = b) w w4:=(kA.trans K3' (U:=fun x=>x = b) (fun _ _ h=>h.elim) (fun _ _ h=>h)).trans K4 (fun _ _ h=>h) (fun _ _ h=>h.elim)
    clear href K4 q2 K3' hr3
    go_wp2
    go_ret
    exact ⟨_,rfl,.inl ⟨none,0,rfl,rfl⟩,by simp,hr4,K4'⟩
   ·have hbf:badW yx = false:=by simpa using hbad
    rw [hbf] at href
    have HE:Hid (RES = listF (syR l) (N - (k + 1)) px yx (acc ++ [x])):=by rw [hid_iff,hq.out,hst,if_neg hbad]
    clear hst hq hbad hbf
    go_wp2_with fail
    generalize hW3:w2.alloc (.cells #[.string (str x.mod),.int .i64 x.item.kind,.string (str x.item.name),.string (str x.item.ty),.slice fa x.item.cases.length fc] 79) = W3 at *
    clear hW3
    refine href.mono ?_
    rintro e w4 ⟨rfl,K4⟩
    have hlt3:w2.heap.size < W3.heap.size:=(Array.getElem?_eq_some_iff.1 hN3).1
    have hr4:=hr3.kept K4 (fun h=>h) (fun h=>h)
    have hrow4:=hrow3.wk cSyK K4 (fun _ _ h=>h)
    have hN4:=(K4.block w2.heap.size hlt3 (fun h=>h)).trans hN3
    have K4':Wire.Kept (fun x=>x = b) wA w4:=K3'.trans K4 (fun _ _ h=>h) (fun _ _ h=>h.elim)
    have hC4:cSy (fun z=>w.heap.size + 1 ≤ z ∧ z < (w4.alloc (.cells #[.string (str x.mod),.int .i64 x.item.kind,.string (str x.item.name),.string (str x.item.ty),.slice fa x.item.cases.length fc] 79)).heap.size ∧ some z ≠ (Value.slice la acc.length lc).ownBlock) (w4.alloc (.cells #[.string (str x.mod),.int .i64 x.item.kind,.string (str x.item.name),.string (str x.item.ty),.slice fa x.item.cases.length fc] 79)) x [.string (str x.mod),.int .i64 x.item.kind,.string (str x.item.name),.string (str x.item.ty),.slice fa x.item.cases.length fc]:=cSyK.frame (fun z hz=>⟨⟨hz.1,by have:=hz.2.1; have:=K4.size; simp; omega,hz.2.2⟩,(Below.heap_alloc _ _ _ (by have:=hz.2.1; have:=K4.size; omega)).trans (K4.block z hz.2.1 (fun h=>h))⟩) hC3
    have hs4:=K4'.size
    have n0:w4.cell? ⟨w2.heap.size,0,none⟩ = some (.string (str x.mod)):=by rw [cell_of_row _ _ 0 _ _ _ hN4]; rfl
    have n1:w4.cell? ⟨w2.heap.size,1,none⟩ = some (.int .i64 x.item.kind):=by rw [cell_of_row _ _ 1 _ _ _ hN4]; rfl
    have n2:w4.cell? ⟨w2.heap.size,2,none⟩ = some (.string (str x.item.name)):=by rw [cell_of_row _ _ 2 _ _ _ hN4]; rfl
    have n3:w4.cell? ⟨w2.heap.size,3,none⟩ = some (.string (str x.item.ty)):=by rw [cell_of_row _ _ 3 _ _ _ hN4]; rfl
    have n4:w4.cell? ⟨w2.heap.size,4,none⟩ = some (.slice fa x.item.cases.length fc):=by rw [cell_of_row _ _ 4 _ _ _ hN4]; rfl
    clear hrow3 K4 hr3 K3' hN3 hC3 href hrd q2 hN4
    go_wp2_with (at_builtin; refine append_rowG (bytes:=80) cSyK rfl (.tmp 15) (.tmp 17) 26 rfl Tryz.underlying26 (by kernel_rfl) (by decide) _ acc rfl (hrow4.wk cSyK (wk_alloc _ _) (fun _ _ h=>h)) x [.string (str x.mod),.int .i64 x.item.kind,.string (str x.item.name),.string (str x.item.ty),.slice fa x.item.cases.length fc] _ _ rfl ?news hC4 ?len ?hby ?hB ?next)
    case news=>first | exact cells_new _ _ _ | exact fun j u h=>h
    case len=>first | (unfold maxLen; omega) | (simp; omega)
    case hby=>omega
    case hB=>first | omega | (simp; omega)
    case next =>
     intro gq cap w5 j1 j2
     have K5:=((wk_alloc w4 (.cells #[.string (str x.mod),.int .i64 x.item.kind,.string (str x.item.name),.string (str x.item.ty),.slice fa x.item.cases.length fc] 79)).trans (U:=fun z=>(Value.slice la acc.length lc).ownBlock = some z) (wk_grown j2) (fun _ _ h=>h.elim) (fun _ _ h=>h))
     have hr5:=hr4.kept K5 (fun h=>by have:=(hob0 _ h).1; omega) (fun h=>by have:=(hob0 _ h).1; omega)
     have K5':Wire.Kept (fun x=>x = b) wA w5:=K4'.trans K5 (fun _ _ h=>h) (fun z hz h=>absurd (hob0 z h).1 (by omega))
     clear K5 K4' hr4 hrow4 j2
     go_wp2
     go_roundg (N - (k + 1))
     case measure=>omega
     case rel=>exact ⟨k + 1,px,yx,acc ++ [x],by omega,by go_num,HE,by have:=hak.out; rw [hid_iff,List.length_append,List.length_singleton,this],hple,hr5,by simpa using j1,K5'⟩
  ·have hki:¬ (k:Int) < (N:Int):=by omega
   have HE:=hq.out
   rw [listF_endO (syR l) N k pk yk acc hk] at HE
   subst HE
   obtain ⟨va,vc,hlv⟩:=hrow.shape
   subst hlv
   have hal:acc.length ≤ 65535:=by have:=hak.out; omega
   have hR:RwR 5 cSy (Fr w wr) wr (.slice va acc.length vc) acc:=(hrow.rw cSyK).frame (stayK cSyK) (fun z hz=>⟨⟨by have:=hz.1; omega,hz.2⟩,rfl⟩)
   have KK:Wire.Kept (fun x=>x = b) w wr:=kA.trans Kr (U:=fun x=>x = b) (fun _ _ h=>h.elim) (fun _ _ h=>h)
   clear hrow Kr hq hak
   go_wp2
   go_ret
   exact ⟨_,rfl,hR,hal,hrr,KK⟩
set_option maxHeartbeats 4000000 in
set_option maxRecDepth 1000000 in
theorem rlistF (b g : Nat) (l : List Nat) (p y : Nat) (w : World) (hl : l.length ≤ 140737488355328) (h256 : ∀ x ∈ l, x < 256) (hp : p ≤ l.length) (hr : Wire.RIs w b g l p y) :
  Calls Tryz.prog 118 #[rdv b,.func (.func 119) #[rdv b] #[]] w (RlE 6 cFn (listR l (fnR l) p y) l b g w):=by
 have hbl:=hr.lt
 have hgl:=hr.gt
 have kA:=wk_alloc w (.cells #[.pointer (some ⟨b,0,none⟩)] 115)
 have nA:=World.alloc_heap_new w (.cells #[.pointer (some ⟨b,0,none⟩)] 115)
 have zA:(w.alloc (.cells #[.pointer (some ⟨b,0,none⟩)] 115)).heap.size = w.heap.size + 1:=by simp
 have hrA:=hr.kept kA (fun h=>h) (fun h=>h)
 have hnum:=rnm b g l p y _ hl h256 hp hrA
 have hN:=Wire.rNum_most l p y 65535
 have hp1:=Wire.rNum_le l p y 65535 hp
 have HL:Hid (listR l (fnR l) p y = listF (fnR l) (Wire.rNum l p y 65535).1 (Wire.rNum l p y 65535).2.1 (Wire.rNum l p y 65535).2.2 []):=rfl
 unfold NuE at hnum
 generalize Wire.rNum l p y 65535 = R at *
 obtain ⟨N,p1,y1⟩:=R
 simp only at hnum hN hp1 HL
 generalize listR l (fnR l) p y = RES at *
 have hptr:∀ u,Wire.Kept (fun x=>x = b) (w.alloc (.cells #[.pointer (some ⟨b,0,none⟩)] 115)) u → u.cell? ⟨w.heap.size,0,none⟩ = some (.pointer (some ⟨b,0,none⟩)):=fun u hu=>by
  rw [cell_of_row u _ 0 _ _ _ ((hu.block w.heap.size (by omega) (by omega)).trans nA)]
  rfl
 have q0:=hptr _ (Wire.Kept.refl _ _)
 unfold rdv at *
 clear hr hrA nA
 go_enter Tryz.func118,Tryz.ntmps118
 go_wp2_with fail
 generalize w.alloc (.cells #[.pointer (some ⟨b,0,none⟩)] 115) = wA at *
 refine hnum.mono ?_
 rintro e w1 ⟨rfl,hr1,K1⟩
 clear hnum q0
 go_wp2
 go_loopg [5,9] N (fun gk lv i wr=>∃ (k pk yk:Nat) (acc:List (Fn)),gk + k = N ∧ i = .int .i64 (k:Int) ∧ Hid (RES = listF (fnR l) (N - k) pk yk acc) ∧ Hid (acc.length = k) ∧ pk ≤ l.length ∧ Wire.RIs wr b g l pk yk ∧ RowG cFn 52 6 (w.heap.size + 1) wr lv acc ∧ Wire.Kept (fun x=>x = b) wA wr)
 case atStart=>exact ⟨0,p1,y1,[],by omega,rfl,by simpa [Hid] using HL,rfl,hp1,hr1,RowG.nil _ _ _ _ _,K1⟩
 case round =>
  obtain ⟨k,pk,yk,acc,hg,rfl,hq,hak,hpk,hrr,hrow,Kr⟩:=hrel
  have hsr:=Kr.size
  by_cases hk:k < N
  ·have hki:(k:Int) < (N:Int):=by omega
   have hst:=listF_atO (fnR l) N k pk yk acc hk
   have hrd:=rfunO b g l pk yk wr hl h256 hpk hrr
   have hple:=(rdr_fn l).le pk yk hpk
   have hal:acc.length ≤ 65535:=by have:=hak.out; omega
   have q1:=hptr _ Kr
   obtain ⟨la,lc,hlv⟩:=hrow.shape
   subst hlv
   have hob0:∀ z,(Value.slice la acc.length lc).ownBlock = some z → w.heap.size + 1 ≤ z ∧ z < wr.heap.size:=fun z hz=>hrow.block hz
   unfold RdE at hrd
   generalize (fnR l) pk yk = X at *
   obtain ⟨x,px,yx⟩:=X
   simp only at hst hrd hple
   unfold rdv at hrd
   go_wp2_with fail
   refine hrd.mono ?_
   rintro e w2 ⟨cs,rfl,hC2,hr2,K2⟩
   have hlen:=cFnK.len hC2
   obtain ⟨pv,kv,rfl,hT2,hK2⟩:=hC2
   obtain ⟨pa,pc,rfl⟩:=hT2.1.shape
   obtain ⟨ka,kc,rfl⟩:=hK2.shape
   have hC2:cFn (Fr wr w2) w2 x [.string (str x.name),.slice pa x.params.length pc,.int .i64 x.caps,.string (str x.res),.int .i64 x.locals,.slice ka x.code.length kc]:=⟨_,_,rfl,hT2,hK2⟩
   clear hT2 hK2
   have K3:=wk_alloc w2 (.cells #[.string (str x.name),.slice pa x.params.length pc,.int .i64 x.caps,.string (str x.res),.int .i64 x.locals,.slice ka x.code.length kc] 52)
   have hN3:=World.alloc_heap_new w2 (.cells #[.string (str x.name),.slice pa x.params.length pc,.int .i64 x.caps,.string (str x.res),.int .i64 x.locals,.slice ka x.code.length kc] 52)
   have hr3:=hr2.kept K3 (fun h=>h) (fun h=>h)
   have hs2:=K2.size
   have hrow3:=(hrow.wk cFnK K2 (fun z hz e=>by omega)).wk cFnK K3 (fun _ _ h=>h)
   have K3':Wire.Kept (fun x=>x = b) wA (w2.alloc (.cells #[.string (str x.name),.slice pa x.params.length pc,.int .i64 x.caps,.string (str x.res),.int .i64 x.locals,.slice ka x.code.length kc] 52)):=(Kr.trans K2 (fun _ _ h=>h) (fun _ _ h=>h)).trans K3 (fun _ _ h=>h) (fun _ _ h=>h.elim)
   have hC3:cFn (fun z=>w.heap.size + 1 ≤ z ∧ z < (w2.alloc (.cells #[.string (str x.name),.slice pa x.params.length pc,.int .i64 x.caps,.string (str x.res),.int .i64 x.locals,.slice ka x.code.length kc] 52)).heap.size ∧ some z ≠ (Value.slice la acc.length lc).ownBlock) (w2.alloc (.cells #[.string (str x.name),.slice pa x.params.length pc,.int .i64 x.caps,.string (str x.res),.int .i64 x.locals,.slice ka x.code.length kc] 52)) x [.string (str x.name),.slice pa x.params.length pc,.int .i64 x.caps,.string (str x.res),.int .i64 x.locals,.slice ka x.code.length kc]:=cFnK.frame (fun z hz=>⟨⟨by have:=hz.1; omega,by have:=hz.2; simp; omega,fun e=>by have:=(hob0 z e.symm).2; have:=hz.1; omega⟩,Below.heap_alloc _ _ _ hz.2⟩) hC2
   have q2:=hptr _ K3'
   have href:=rref b g l px yx _ hl hr3
   unfold rdv at href
   clear q1 hrow K2 hrr Kr hC2 hr2 hlen K3
   by_cases hbad:badW yx = true
   ·rw [hbad] at href
    have HE:=hq.out
    rw [hst,if_pos hbad] at HE
    subst HE
    clear hst hq hbad hrow3 hC3 hN3
    go_wp2_with fail
    generalize w2.alloc (.cells #[.string (str x.name),.slice pa x.params.length pc,.int .i64 x.caps,.string (str x.res),.int .i64 x.locals,.slice ka x.code.length kc] 52) = W3 at *
    refine href.mono ?_
    rintro e w4 ⟨rfl,K4⟩
    have hr4:=hr3.kept K4 (fun h=>h) (fun h=>h)
    have K4':Wire.Kept (fun x=>x = b) w w4:=(kA.trans K3' (U:=fun x=>x = b) (fun _ _ h=>h.elim) (fun _ _ h=>h)).trans K4 (fun _ _ h=>h) (fun _ _ h=>h.elim)
    clear href K4 q2 K3' hr3
    go_wp2
    go_ret
    exact ⟨_,rfl,.inl ⟨none,0,rfl,rfl⟩,by simp,hr4,K4'⟩
   ·have hbf:badW yx = false:=by simpa using hbad
    rw [hbf] at href
    have HE:Hid (RES = listF (fnR l) (N - (k + 1)) px yx (acc ++ [x])):=by rw [hid_iff,hq.out,hst,if_neg hbad]
    clear hst hq hbad hbf
    go_wp2_with fail
    generalize hW3:w2.alloc (.cells #[.string (str x.name),.slice pa x.params.length pc,.int .i64 x.caps,.string (str x.res),.int .i64 x.locals,.slice ka x.code.length kc] 52) = W3 at *
    clear hW3
    refine href.mono ?_
    rintro e w4 ⟨rfl,K4⟩
    have hlt3:w2.heap.size < W3.heap.size:=(Array.getElem?_eq_some_iff.1 hN3).1
    have hr4:=hr3.kept K4 (fun h=>h) (fun h=>h)
    have hrow4:=hrow3.wk cFnK K4 (fun _ _ h=>h)
    have hN4:=(K4.block w2.heap.size hlt3 (fun h=>h)).trans hN3
    have K4':Wire.Kept (fun x=>x = b) wA w4:=K3'.trans K4 (fun _ _ h=>h) (fun _ _ h=>h.elim)
    have hC4:cFn (fun z=>w.heap.size + 1 ≤ z ∧ z < (w4.alloc (.cells #[.string (str x.name),.slice pa x.params.length pc,.int .i64 x.caps,.string (str x.res),.int .i64 x.locals,.slice ka x.code.length kc] 52)).heap.size ∧ some z ≠ (Value.slice la acc.length lc).ownBlock) (w4.alloc (.cells #[.string (str x.name),.slice pa x.params.length pc,.int .i64 x.caps,.string (str x.res),.int .i64 x.locals,.slice ka x.code.length kc] 52)) x [.string (str x.name),.slice pa x.params.length pc,.int .i64 x.caps,.string (str x.res),.int .i64 x.locals,.slice ka x.code.length kc]:=cFnK.frame (fun z hz=>⟨⟨hz.1,by have:=hz.2.1; have:=K4.size; simp; omega,hz.2.2⟩,(Below.heap_alloc _ _ _ (by have:=hz.2.1; have:=K4.size; omega)).trans (K4.block z hz.2.1 (fun h=>h))⟩) hC3
    have hs4:=K4'.size
    have n0:w4.cell? ⟨w2.heap.size,0,none⟩ = some (.string (str x.name)):=by rw [cell_of_row _ _ 0 _ _ _ hN4]; rfl
    have n1:w4.cell? ⟨w2.heap.size,1,none⟩ = some (.slice pa x.params.length pc):=by rw [cell_of_row _ _ 1 _ _ _ hN4]; rfl
    have n2:w4.cell? ⟨w2.heap.size,2,none⟩ = some (.int .i64 x.caps):=by rw [cell_of_row _ _ 2 _ _ _ hN4]; rfl
    have n3:w4.cell? ⟨w2.heap.size,3,none⟩ = some (.string (str x.res)):=by rw [cell_of_row _ _ 3 _ _ _ hN4]; rfl
    have n4:w4.cell? ⟨w2.heap.size,4,none⟩ = some (.int .i64 x.locals):=by rw [cell_of_row _ _ 4 _ _ _ hN4]; rfl
    have n5:w4.cell? ⟨w2.heap.size,5,none⟩ = some (.slice ka x.code.length kc):=by rw [cell_of_row _ _ 5 _ _ _ hN4]; rfl
    clear hrow3 K4 hr3 K3' hN3 hC3 href hrd q2 hN4
    go_wp2_with (at_builtin; refine append_rowG (bytes:=96) cFnK rfl (.tmp 15) (.tmp 17) 25 rfl Tryz.underlying25 (by kernel_rfl) (by decide) _ acc rfl (hrow4.wk cFnK (wk_alloc _ _) (fun _ _ h=>h)) x [.string (str x.name),.slice pa x.params.length pc,.int .i64 x.caps,.string (str x.res),.int .i64 x.locals,.slice ka x.code.length kc] _ _ rfl ?news hC4 ?len ?hby ?hB ?next)
    case news=>first | exact cells_new _ _ _ | exact fun j u h=>h
    case len=>first | (unfold maxLen; omega) | (simp; omega)
    case hby=>omega
    case hB=>first | omega | (simp; omega)
    case next =>
     intro gq cap w5 j1 j2
     have K5:=((wk_alloc w4 (.cells #[.string (str x.name),.slice pa x.params.length pc,.int .i64 x.caps,.string (str x.res),.int .i64 x.locals,.slice ka x.code.length kc] 52)).trans (U:=fun z=>(Value.slice la acc.length lc).ownBlock = some z) (wk_grown j2) (fun _ _ h=>h.elim) (fun _ _ h=>h))
     have hr5:=hr4.kept K5 (fun h=>by have:=(hob0 _ h).1; omega) (fun h=>by have:=(hob0 _ h).1; omega)
     have K5':Wire.Kept (fun x=>x = b) wA w5:=K4'.trans K5 (fun _ _ h=>h) (fun z hz h=>absurd (hob0 z h).1 (by omega))
     clear K5 K4' hr4 hrow4 j2
     go_wp2
     go_roundg (N - (k + 1))
     case measure=>omega
     case rel=>exact ⟨k + 1,px,yx,acc ++ [x],by omega,by go_num,HE,by have:=hak.out; rw [hid_iff,List.length_append,List.length_singleton,this],hple,hr5,by simpa using j1,K5'⟩
  ·have hki:¬ (k:Int) < (N:Int):=by omega
   have HE:=hq.out
   rw [listF_endO (fnR l) N k pk yk acc hk] at HE
   subst HE
   obtain ⟨va,vc,hlv⟩:=hrow.shape
   subst hlv
   have hal:acc.length ≤ 65535:=by have:=hak.out; omega
   have hR:RwR 6 cFn (Fr w wr) wr (.slice va acc.length vc) acc:=(hrow.rw cFnK).frame (stayK cFnK) (fun z hz=>⟨⟨by have:=hz.1; omega,hz.2⟩,rfl⟩)
   have KK:Wire.Kept (fun x=>x = b) w wr:=kA.trans Kr (U:=fun x=>x = b) (fun _ _ h=>h.elim) (fun _ _ h=>h)
   clear hrow Kr hq hak
   go_wp2
   go_ret
   exact ⟨_,rfl,hR,hal,hrr,KK⟩
end Go.Proofs.YtiiepfplommmfaaGreatDoor
