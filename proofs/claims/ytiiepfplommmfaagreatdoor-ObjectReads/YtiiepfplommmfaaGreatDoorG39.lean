/-
  The law's in: an object as the document's own answer takes it.
-/
import Derived.Test.YtiiepfplommmfaaGreatDoorG12
import Derived.Test.YtiiepfplommmfaaGreatDoorG13
import Derived.Test.YtiiepfplommmfaaGreatDoorG09
namespace Go.Proofs.YtiiepfplommmfaaGreatDoor
open Go.RowKit

def InO (F:Nat → Prop) (o:Ob) (w:World) (e:Ending) (w':World):Prop :=
 Below w.heap.size w w' ∧ ∃ u:ObV,e = .returned (obv u o.mod) ∧ ObR (fun g=>F g ∨ Fr w w' g) w' u o
def cRaw (sz:Nat) (_:Nat → Prop) (_:World) (x:List Value) (cs:List Value):Prop:=cs = x ∧ x.length = sz ∧ ∀ u ∈ x,u.oneCell' = true
theorem cRawK (sz:Nat):CelOk sz (cRaw sz):=⟨fun _ h=>h,fun h=>by rw [h.1]; exact h.2.1,fun h u hu=>by rw [h.1] at hu; exact h.2.2 u hu⟩
def PRow {α:Type} (C:Cel α) (F:Nat → Prop) (w:World) (l:List α) (acc:List (List Value)):Prop:=∀ (j:Nat) c x,acc[j]? = some c → l[j]? = some x → C F w x c
theorem PRow.nil {α:Type} (C:Cel α) (F:Nat → Prop) (w:World) (l:List α):PRow C F w l []:=fun j c x h=>by simp at h
theorem PRow.snoc {α:Type} {C:Cel α} {F:Nat → Prop} {w:World} {l:List α} {acc:List (List Value)} (h:PRow C F w l acc) {k:Nat} (hk:acc.length = k) {x:α} (hx:l[k]? = some x) {c:List Value} (hc:C F w x c):PRow C F w l (acc ++ [c]):=by
 intro j d y h1 h2
 by_cases hj:j < acc.length
 ·rw [List.getElem?_append_left hj] at h1
  exact h j d y h1 h2
 ·rw [List.getElem?_append_right (by omega)] at h1
  have hj2:j - acc.length = 0:=by
   have:=(List.getElem?_eq_some_iff.1 h1).1
   simp at this
   omega
  rw [hj2] at h1
  simp only [List.getElem?_cons_zero,Option.some.injEq] at h1
  subst h1
  have:j = k:=by omega
  subst this
  rw [hx] at h2
  simp only [Option.some.injEq] at h2
  subst h2
  exact hc
theorem rw_raw {α:Type} {sz:Nat} {C:Cel α} {F G H:Nat → Prop} {w w':World} {v:Value} {l:List α} {acc:List (List Value)} (hS:Stay C) (h:RwR sz (cRaw sz) G w' v acc) (hl:acc.length = l.length) (hp:PRow C F w l acc) (hF:∀ g,F g → H g ∧ w'.heap[g]? = w.heap[g]?) (hG:∀ g,G g → H g):RwR sz C H w' v l:=by
 rcases h with ⟨a,c,rfl,rfl⟩ | ⟨g,o,cap,rfl,h1,h2,h3⟩
 ·exact .inl ⟨a,c,rfl,List.eq_nil_of_length_eq_zero hl.symm⟩
 ·refine .inr ⟨g,o,cap,by rw [hl],by omega,hG g h2,fun j x hj=>?_⟩
  have hja:j < acc.length:=by rw [hl]; exact (List.getElem?_eq_some_iff.1 hj).1
  obtain ⟨cs,⟨rfl,_⟩,h5⟩:=h3 j _ (List.getElem?_eq_getElem hja)
  exact ⟨_,hS _ _ _ _ _ _ hF (hp j _ x (List.getElem?_eq_getElem hja) hj),h5⟩
theorem szRO:(Tryz.prog.info? 35).map (·.size) = some 8:=by kernel_rfl
theorem wk_cell {S:Nat → Prop} {w w':World} (k:Wire.Kept S w w') {g:Nat} {cs:Array Value} {T:Nat} (h:w.heap[g]? = some (.cells cs T (0,0))) (hg:¬ S g):w'.heap[g]? = some (.cells cs T (0,0)):=(k.block g (Array.getElem?_eq_some_iff.1 h).1 hg).trans h
set_option maxHeartbeats 2000000 in
set_option maxRecDepth 1000000 in
theorem inL (F : Nat → Prop) (v : ObV) (o : Ob) (w : World) (h : ObR F w v o) (hF : ∀ g, F g → g < w.heap.size) (hg0 : o.globals.length * 40 ≤ 140737488355328) (hf0 : o.funs.length * 96 ≤ 140737488355328) (hs0 : o.symbols.length * 80 ≤ 140737488355328) (hr0 : o.relocs.length * 24 ≤ 140737488355328) :
  Calls Tryz.prog 5 #[obv v o.mod] w (InO F o w):=by
 obtain ⟨v1,v2,v3,v4,v5,v6,v7⟩:=v
 obtain ⟨m,ts,xs,gs,fs,es,ss,rs⟩:=o
 obtain ⟨a1,c1,e1⟩:=h.types.shape
 obtain ⟨a2,c2,e2⟩:=h.texts.1.shape
 obtain ⟨a3,c3,e3⟩:=h.globals.shape
 obtain ⟨a4,c4,e4⟩:=h.funs.shape
 obtain ⟨a5,c5,e5⟩:=h.exports.1.shape
 obtain ⟨a6,c6,e6⟩:=h.symbols.shape
 obtain ⟨a7,c7,e7⟩:=h.relocs.shape
 simp only at e1 e2 e3 e4 e5 e6 e7 hg0 hf0 hs0 hr0
 subst e1 e2 e3 e4 e5 e6 e7
 unfold obv
 simp only
 have hH:=hidden h
 have hFH:=hidden hF
 obtain ⟨X,hX⟩:∃ X:Obj,X = .cells #[.string (str m),.slice a1 ts.length c1,.slice a2 xs.length c2,.slice a3 gs.length c3,.slice a4 fs.length c4,.slice a5 es.length c5,.slice a6 ss.length c6,.slice a7 rs.length c7] 29:=⟨_,rfl⟩
 obtain ⟨Y,hY⟩:∃ X:Obj,X = .cells #[.string ⟨#[]⟩,.slice none 0 0,.slice none 0 0,.slice none 0 0,.slice none 0 0,.slice none 0 0,.slice none 0 0,.slice none 0 0] 35:=⟨_,rfl⟩
 obtain ⟨Z,hZ⟩:∃ X:Obj,X = .cells #[.string (str m),.slice a1 ts.length c1,.slice a2 xs.length c2,.slice none 0 0,.slice none 0 0,.slice a5 es.length c5,.slice none 0 0,.slice none 0 0] 35:=⟨_,rfl⟩
 have n1:=World.alloc_heap_new w X
 have b1:Below w.heap.size w (w.alloc X):=(Below.refl _ _).alloc (Nat.le_refl _) _
 have s1:(w.alloc X).heap.size = w.heap.size + 1:=by simp
 have hlt:w.heap.size < (w.alloc X).heap.size:=by omega
 have n2:=World.alloc_heap_new (w.alloc X) Y
 have b2:Below w.heap.size w ((w.alloc X).alloc Y):=b1.alloc b1.size _
 have n12:=(Below.heap_alloc (w.alloc X) Y w.heap.size (by omega)).trans n1
 have s2:((w.alloc X).alloc Y).heap.size = w.heap.size + 1 + 1:=by simp
 rw [s1] at n2
 have n3:=World.alloc_heap_new ((w.alloc X).alloc Y) Z
 have n13:=(Below.heap_alloc ((w.alloc X).alloc Y) Z w.heap.size (by omega)).trans n12
 have n23:=(Below.heap_alloc ((w.alloc X).alloc Y) Z (w.heap.size + 1) (by omega)).trans n2
 have b3:Below w.heap.size w (((w.alloc X).alloc Y).alloc Z):=b2.alloc b2.size _
 have s3:(((w.alloc X).alloc Y).alloc Z).heap.size = w.heap.size + 1 + 1 + 1:=by simp
 rw [s2] at n3
 subst hX hY hZ
 obtain ⟨k0,k1,k2,k3,k4,k5,k6,k7⟩:=cells8 n1
 clear h hF n1 n2 n12 b1 b2
 go_enter Tryz.func5,Tryz.ntmps5
 go_upto_region 2 with fail
 generalize (((w.alloc (.cells #[.string (str m),.slice a1 ts.length c1,.slice a2 xs.length c2,.slice a3 gs.length c3,.slice a4 fs.length c4,.slice a5 es.length c5,.slice a6 ss.length c6,.slice a7 rs.length c7] 29)).alloc (.cells #[.string ⟨#[]⟩,.slice none 0 0,.slice none 0 0,.slice none 0 0,.slice none 0 0,.slice none 0 0,.slice none 0 0,.slice none 0 0] 35)).alloc (.cells #[.string (str m),.slice a1 ts.length c1,.slice a2 xs.length c2,.slice none 0 0,.slice none 0 0,.slice a5 es.length c5,.slice none 0 0,.slice none 0 0] 35)) = w0 at *
 clear k0 k1 k2 k3 k4 k5 k6 k7 hlt s1 s2
 have hV:=n3
 have hO:=n13
 have hA:=n23
 have hb:=b3
 have HB:Hid (∀ g,g < w.heap.size → w0.heap[g]? = w.heap[g]?):=fun g hg=>b3.block g hg
 clear n3 n13 n23 b3
 have hz0:w.heap.size + 1 + 1 < w0.heap.size:=by omega
 go_wp2_with fail
 go_loopg [4] gs.length (fun gk i wr=>∃ (k:Nat) (lv:Value) (acc:List (List Value)),gk + k = gs.length ∧ i = .int .i64 (k:Int) ∧ Hid (PRow cGl F w gs acc) ∧ Hid (acc.length = k) ∧ RowG (cRaw 3) 74 3 w0.heap.size wr lv acc ∧ wr.heap[w.heap.size + 1 + 1]? = some (.cells #[.string (str m),.slice a1 ts.length c1,.slice a2 xs.length c2,lv,.slice none 0 0,.slice a5 es.length c5,.slice none 0 0,.slice none 0 0] 35 (0,0)) ∧ Wire.Kept (fun x=>x = w.heap.size + 1 + 1) w0 wr)
 case atStart=>exact ⟨0,_,[],by omega,rfl,PRow.nil _ _ _ _,rfl,RowG.nil _ _ _ _ _,hV,Wire.Kept.refl _ _⟩
 case round =>
  clear hV
  obtain ⟨k,lv,acc,hg,rfl,hpr,hak,hrow,hV,Kr⟩:=hrel
  obtain ⟨la,lc,hlv⟩:=hrow.shape
  subst hlv
  have hsr:=Kr.size
  have hO:=wk_cell Kr hO (by omega)
  have hob0:∀ z,(Value.slice la acc.length lc).ownBlock = some z → w0.heap.size ≤ z ∧ z < wr.heap.size:=fun z hz=>hrow.block hz
  have q0:wr.cell? ⟨w.heap.size,3,none⟩ = some (.slice a3 gs.length c3):=by rw [cell_of_row _ _ 3 _ _ _ hO]; rfl
  have hsz0:w.heap.size < wr.heap.size:=by omega
  by_cases hk:k < gs.length
  ·have hki:(k:Int) < (gs.length:Int):=by omega
   obtain ⟨gq,oq,cq,cs,e1,e2,e3,hc,hcell⟩:=hH.out.globals.at k hk
   simp only [Value.slice.injEq,true_and] at e1
   obtain ⟨rfl,rfl⟩:=e1
   have hgw:=hFH.out gq e3
   have hgq:gq < wr.heap.size:=by omega
   have hbq:wr.heap[gq]? = w.heap[gq]?:=(Kr.block gq (by omega) (by omega)).trans (HB.out gq hgw)
   have hx:=List.getElem?_eq_getElem hk
   have hsn:=fun c (hc:cGl F w gs[k] c)=>hpr.out.snoc hak.out hx hc
   have hc0:=hc
   generalize gs[k] = x at *
   unfold cGl at hc
   subst hc
   have z0:wr.cell? ⟨gq,oq + k * 3,none⟩ = some (.string (str x.name)):=by rw [World.cell?_of_block (w:=w) hbq]; exact hcell 0 _ rfl
   have z1:wr.cell? ⟨gq,oq + k * 3 + 1,none⟩ = some (.string (str x.ty)):=by rw [World.cell?_of_block (w:=w) hbq]; exact hcell 1 _ rfl
   have z2:wr.cell? ⟨gq,oq + k * 3 + 2,none⟩ = some (.int .i64 x.fn):=by rw [World.cell?_of_block (w:=w) hbq]; exact hcell 2 _ rfl
   have hpr':=hidden (hsn _ hc0)
   have q1:wr.cell? ⟨w.heap.size + 1 + 1,3,none⟩ = some (.slice la acc.length lc):=by rw [cell_of_row _ _ 3 _ _ _ hV]; rfl
   have hsz2:w.heap.size + 1 + 1 < wr.heap.size:=by omega
   have hal:(acc.length + 1) * 40 ≤ 140737488355328:=by have:=hak.out; omega
   have hone:cRaw 3 (fun z=>w0.heap.size ≤ z ∧ z < wr.heap.size ∧ some z ≠ (Value.slice la acc.length lc).ownBlock) wr [.string (str x.name),.string (str x.ty),.int .i64 x.fn] [.string (str x.name),.string (str x.ty),.int .i64 x.fn]:=⟨rfl,rfl,by
    intro u hu
    simp only [List.mem_cons,List.not_mem_nil,or_false] at hu
    rcases hu with rfl | rfl | rfl <;> rfl⟩
   have hzA:w0.heap.size ≤ (wr.alloc (.cells #[.string (str x.name),.string (str x.ty),.int .i64 x.fn] 74)).heap.size:=by simp; omega
   have hrowA:RowG (cRaw 3) 74 3 w0.heap.size (wr.alloc (.cells #[.string (str x.name),.string (str x.ty),.int .i64 x.fn] 74)) (.slice la acc.length lc) acc:=hrow.wk (cRawK 3) (wk_alloc _ _) (fun _ _ h=>h)
   have hcn:=cells_new wr [.string (str x.name),.string (str x.ty),.int .i64 x.fn] 74
   clear hcell hsn hx hc0
   have hCE:∀ u:World,(u.heap[w.heap.size]? = wr.heap[w.heap.size]? ∧ u.heap[gq]? = wr.heap[gq]?) → u.cell? ⟨w.heap.size,3,none⟩ = some (.slice (some ⟨gq,oq,none⟩) gs.length c3) ∧ u.cell? ⟨gq,oq + k * 3,none⟩ = some (.string (str x.name)) ∧ u.cell? ⟨gq,oq + k * 3 + 1,none⟩ = some (.string (str x.ty)) ∧ u.cell? ⟨gq,oq + k * 3 + 2,none⟩ = some (.int .i64 x.fn):=fun u hu=>⟨(World.cell?_of_block (a:=⟨w.heap.size,3,none⟩) hu.1).trans q0,(World.cell?_of_block (a:=⟨gq,oq + k * 3,none⟩) hu.2).trans z0,(World.cell?_of_block (a:=⟨gq,oq + k * 3 + 1,none⟩) hu.2).trans z1,(World.cell?_of_block (a:=⟨gq,oq + k * 3 + 2,none⟩) hu.2).trans z2⟩
   go_upto_region 5 with fail
   refine wp_region_held (S:=(fun u=>u.heap[w.heap.size]? = wr.heap[w.heap.size]? ∧ u.heap[gq]? = wr.heap[gq]?)) (by kernel_rfl) ?_
   show wpAnyH Tryz.prog .any _ _ _ _ _ _ wr.drew
   have G0:(wr.drew.heap[w.heap.size]? = wr.heap[w.heap.size]? ∧ wr.drew.heap[gq]? = wr.heap[gq]?):=⟨rfl,rfl⟩
   refine wpAnyH_take (i:=0) (v := .pointer (some ⟨w.heap.size + 1 + 1,3,none⟩)) rfl (by kernel_rfl) (by kernel_rfl) (by kernel_rfl) (fun _ _ _ h=>h) (.inl ⟨by rfl,fun u hu=>by go_simp⟩) G0 ?_
   show wpAnyH Tryz.prog .any _ _ _ _ _ (Act.put _ (some 25) (.pointer (some ⟨w.heap.size + 1 + 1,3,none⟩))) _
   simp only [Act.put,List.setIfInBounds_toArray,List.set_cons_zero,List.set_cons_succ]
   refine wpAnyH_take (i:=2) (v := .pointer (some ⟨w.heap.size,3,none⟩)) rfl (by kernel_rfl) (by kernel_rfl) (by kernel_rfl) (fun _ _ _ h=>h) (.inl ⟨by rfl,fun u hu=>by go_simp⟩) G0 ?_
   show wpAnyH Tryz.prog .any _ _ _ _ _ (Act.put _ (some 27) (.pointer (some ⟨w.heap.size,3,none⟩))) _
   simp only [Act.put,List.setIfInBounds_toArray,List.set_cons_zero,List.set_cons_succ]
   refine wpAnyH_take (i:=3) (v := .slice (some ⟨gq,oq,none⟩) gs.length c3) rfl (by kernel_rfl) (by kernel_rfl) (by kernel_rfl) (fun _ _ _ h=>h) (.inl ⟨by rfl,fun u hu=>by obtain ⟨e0,f0,f1,f2⟩:=hCE u hu; go_simp⟩) G0 ?_
   show wpAnyH Tryz.prog .any _ _ _ _ _ (Act.put _ (some 28) (.slice (some ⟨gq,oq,none⟩) gs.length c3)) _
   simp only [Act.put,List.setIfInBounds_toArray,List.set_cons_zero,List.set_cons_succ]
   refine wpAnyH_take (i:=4) (v := .int .i64 (k:Int)) rfl (by kernel_rfl) (by kernel_rfl) (by kernel_rfl) (fun _ _ _ h=>h) (.inl ⟨by rfl,fun u hu=>by go_simp⟩) G0 ?_
   show wpAnyH Tryz.prog .any _ _ _ _ _ (Act.put _ (some 29) (.int .i64 (k:Int))) _
   simp only [Act.put,List.setIfInBounds_toArray,List.set_cons_zero,List.set_cons_succ]
   refine wpAnyH_take (i:=5) (v := .pointer (some ⟨gq,oq + k * 3,none⟩)) rfl (by kernel_rfl) (by kernel_rfl) (by kernel_rfl) (fun _ _ _ h=>h) (.inl ⟨by rfl,fun u hu=>by go_simp⟩) G0 ?_
   show wpAnyH Tryz.prog .any _ _ _ _ _ (Act.put _ (some 30) (.pointer (some ⟨gq,oq + k * 3,none⟩))) _
   simp only [Act.put,List.setIfInBounds_toArray,List.set_cons_zero,List.set_cons_succ]
   refine wpAnyH_take (i:=6) (v := .pointer (some ⟨gq,oq + k * 3,none⟩)) rfl (by kernel_rfl) (by kernel_rfl) (by kernel_rfl) (fun _ _ _ h=>h) (.inl ⟨by rfl,fun u hu=>by go_simp⟩) G0 ?_
   show wpAnyH Tryz.prog .any _ _ _ _ _ (Act.put _ (some 31) (.pointer (some ⟨gq,oq + k * 3,none⟩))) _
   simp only [Act.put,List.setIfInBounds_toArray,List.set_cons_zero,List.set_cons_succ]
   refine wpAnyH_take (i:=7) (v := .string (str x.name)) rfl (by kernel_rfl) (by kernel_rfl) (by kernel_rfl) (fun _ _ _ h=>h) (.inl ⟨by rfl,fun u hu=>by obtain ⟨e0,f0,f1,f2⟩:=hCE u hu; go_simp⟩) G0 ?_
   show wpAnyH Tryz.prog .any _ _ _ _ _ (Act.put _ (some 32) (.string (str x.name))) _
   simp only [Act.put,List.setIfInBounds_toArray,List.set_cons_zero,List.set_cons_succ]
   refine wpAnyH_take (i:=8) (v := .pointer (some ⟨w.heap.size,3,none⟩)) rfl (by kernel_rfl) (by kernel_rfl) (by kernel_rfl) (fun _ _ _ h=>h) (.inl ⟨by rfl,fun u hu=>by go_simp⟩) G0 ?_
   show wpAnyH Tryz.prog .any _ _ _ _ _ (Act.put _ (some 33) (.pointer (some ⟨w.heap.size,3,none⟩))) _
   simp only [Act.put,List.setIfInBounds_toArray,List.set_cons_zero,List.set_cons_succ]
   refine wpAnyH_take (i:=9) (v := .slice (some ⟨gq,oq,none⟩) gs.length c3) rfl (by kernel_rfl) (by kernel_rfl) (by kernel_rfl) (fun _ _ _ h=>h) (.inl ⟨by rfl,fun u hu=>by obtain ⟨e0,f0,f1,f2⟩:=hCE u hu; go_simp⟩) G0 ?_
   show wpAnyH Tryz.prog .any _ _ _ _ _ (Act.put _ (some 34) (.slice (some ⟨gq,oq,none⟩) gs.length c3)) _
   simp only [Act.put,List.setIfInBounds_toArray,List.set_cons_zero,List.set_cons_succ]
   refine wpAnyH_take (i:=10) (v := .int .i64 (k:Int)) rfl (by kernel_rfl) (by kernel_rfl) (by kernel_rfl) (fun _ _ _ h=>h) (.inl ⟨by rfl,fun u hu=>by go_simp⟩) G0 ?_
   show wpAnyH Tryz.prog .any _ _ _ _ _ (Act.put _ (some 35) (.int .i64 (k:Int))) _
   simp only [Act.put,List.setIfInBounds_toArray,List.set_cons_zero,List.set_cons_succ]
   refine wpAnyH_take (i:=11) (v := .pointer (some ⟨gq,oq + k * 3,none⟩)) rfl (by kernel_rfl) (by kernel_rfl) (by kernel_rfl) (fun _ _ _ h=>h) (.inl ⟨by rfl,fun u hu=>by go_simp⟩) G0 ?_
   show wpAnyH Tryz.prog .any _ _ _ _ _ (Act.put _ (some 36) (.pointer (some ⟨gq,oq + k * 3,none⟩))) _
   simp only [Act.put,List.setIfInBounds_toArray,List.set_cons_zero,List.set_cons_succ]
   refine wpAnyH_take (i:=12) (v := .pointer (some ⟨gq,oq + k * 3 + 1,none⟩)) rfl (by kernel_rfl) (by kernel_rfl) (by kernel_rfl) (fun _ _ _ h=>h) (.inl ⟨by rfl,fun u hu=>by go_simp⟩) G0 ?_
   show wpAnyH Tryz.prog .any _ _ _ _ _ (Act.put _ (some 37) (.pointer (some ⟨gq,oq + k * 3 + 1,none⟩))) _
   simp only [Act.put,List.setIfInBounds_toArray,List.set_cons_zero,List.set_cons_succ]
   refine wpAnyH_take (i:=13) (v := .string (str x.ty)) rfl (by kernel_rfl) (by kernel_rfl) (by kernel_rfl) (fun _ _ _ h=>h) (.inl ⟨by rfl,fun u hu=>by obtain ⟨e0,f0,f1,f2⟩:=hCE u hu; go_simp⟩) G0 ?_
   show wpAnyH Tryz.prog .any _ _ _ _ _ (Act.put _ (some 38) (.string (str x.ty))) _
   simp only [Act.put,List.setIfInBounds_toArray,List.set_cons_zero,List.set_cons_succ]
   refine wpAnyH_take (i:=14) (v := .pointer (some ⟨w.heap.size,3,none⟩)) rfl (by kernel_rfl) (by kernel_rfl) (by kernel_rfl) (fun _ _ _ h=>h) (.inl ⟨by rfl,fun u hu=>by go_simp⟩) G0 ?_
   show wpAnyH Tryz.prog .any _ _ _ _ _ (Act.put _ (some 39) (.pointer (some ⟨w.heap.size,3,none⟩))) _
   simp only [Act.put,List.setIfInBounds_toArray,List.set_cons_zero,List.set_cons_succ]
   refine wpAnyH_take (i:=15) (v := .slice (some ⟨gq,oq,none⟩) gs.length c3) rfl (by kernel_rfl) (by kernel_rfl) (by kernel_rfl) (fun _ _ _ h=>h) (.inl ⟨by rfl,fun u hu=>by obtain ⟨e0,f0,f1,f2⟩:=hCE u hu; go_simp⟩) G0 ?_
   show wpAnyH Tryz.prog .any _ _ _ _ _ (Act.put _ (some 40) (.slice (some ⟨gq,oq,none⟩) gs.length c3)) _
   simp only [Act.put,List.setIfInBounds_toArray,List.set_cons_zero,List.set_cons_succ]
   refine wpAnyH_take (i:=16) (v := .int .i64 (k:Int)) rfl (by kernel_rfl) (by kernel_rfl) (by kernel_rfl) (fun _ _ _ h=>h) (.inl ⟨by rfl,fun u hu=>by go_simp⟩) G0 ?_
   show wpAnyH Tryz.prog .any _ _ _ _ _ (Act.put _ (some 41) (.int .i64 (k:Int))) _
   simp only [Act.put,List.setIfInBounds_toArray,List.set_cons_zero,List.set_cons_succ]
   refine wpAnyH_take (i:=17) (v := .pointer (some ⟨gq,oq + k * 3,none⟩)) rfl (by kernel_rfl) (by kernel_rfl) (by kernel_rfl) (fun _ _ _ h=>h) (.inl ⟨by rfl,fun u hu=>by go_simp⟩) G0 ?_
   show wpAnyH Tryz.prog .any _ _ _ _ _ (Act.put _ (some 42) (.pointer (some ⟨gq,oq + k * 3,none⟩))) _
   simp only [Act.put,List.setIfInBounds_toArray,List.set_cons_zero,List.set_cons_succ]
   refine wpAnyH_take (i:=18) (v := .pointer (some ⟨gq,oq + k * 3 + 2,none⟩)) rfl (by kernel_rfl) (by kernel_rfl) (by kernel_rfl) (fun _ _ _ h=>h) (.inl ⟨by rfl,fun u hu=>by go_simp⟩) G0 ?_
   show wpAnyH Tryz.prog .any _ _ _ _ _ (Act.put _ (some 43) (.pointer (some ⟨gq,oq + k * 3 + 2,none⟩))) _
   simp only [Act.put,List.setIfInBounds_toArray,List.set_cons_zero,List.set_cons_succ]
   refine wpAnyH_take (i:=19) (v := .int .i64 x.fn) rfl (by kernel_rfl) (by kernel_rfl) (by kernel_rfl) (fun _ _ _ h=>h) (.inl ⟨by rfl,fun u hu=>by obtain ⟨e0,f0,f1,f2⟩:=hCE u hu; go_simp⟩) G0 ?_
   show wpAnyH Tryz.prog .any _ _ _ _ _ (Act.put _ (some 44) (.int .i64 x.fn)) _
   simp only [Act.put,List.setIfInBounds_toArray,List.set_cons_zero,List.set_cons_succ]
   refine wpAnyH_take (i:=20) (v := .agg #[.string (str x.name),.string (str x.ty),.int .i64 x.fn]) rfl (by kernel_rfl) (by kernel_rfl) (by kernel_rfl) (fun _ _ _ h=>h) (.inl ⟨by rfl,fun u hu=>by go_simp⟩) G0 ?_
   show wpAnyH Tryz.prog .any _ _ _ _ _ (Act.put _ (some 45) (.agg #[.string (str x.name),.string (str x.ty),.int .i64 x.fn])) _
   simp only [Act.put,List.setIfInBounds_toArray,List.set_cons_zero,List.set_cons_succ]
   refine wpAnyH_ready (rs:=[1,21]) (by kernel_rfl) (by simp) ?_
   refine AllReadyH.cons rfl (fun K hK=>?_) (AllReadyH.cons rfl (fun K hK=>?_) AllReadyH.nil)
   all_goals first
    | (
        go_simp
        refine hK _ _ G0 (fun _=>?_)
        clear hK K
        refine wpAnyH_ready (rs:=[21]) (by kernel_rfl) (by simp) ?_
        refine AllReadyH.cons rfl (fun K hK=>?_) AllReadyH.nil
        go_simp
        refine hK _ _ ⟨Below.heap_alloc _ _ _ hsz0,Below.heap_alloc _ _ _ hgq⟩ (fun _=>?_)
        clear hK K)
    | (
        go_simp
        refine hK _ _ ⟨Below.heap_alloc _ _ _ hsz0,Below.heap_alloc _ _ _ hgq⟩ (fun _=>?_)
        clear hK K
        have q9:(wr.alloc (.cells #[.string (str x.name),.string (str x.ty),.int .i64 x.fn] 74)).cell? ⟨w.heap.size + 1 + 1,3,none⟩ = some (.slice la acc.length lc):=by rw [cell_of_row _ _ 3 _ _ _ ((Below.heap_alloc wr (.cells #[.string (str x.name),.string (str x.ty),.int .i64 x.fn] 74) (w.heap.size + 1 + 1) hsz2).trans hV)]; rfl
        refine wpAnyH_ready (rs:=[1]) (by kernel_rfl) (by simp) ?_
        refine AllReadyH.cons rfl (fun K hK=>?_) AllReadyH.nil
        go_simp
        refine hK _ _ ⟨Below.heap_alloc _ _ _ hsz0,Below.heap_alloc _ _ _ hgq⟩ (fun _=>?_)
        clear hK K q9)
   all_goals
    refine wpAnyH_ready (rs:=[22]) (by kernel_rfl) (by simp) ?_
    refine AllReadyH.cons rfl (fun K hK=>?_) AllReadyH.nil
    refine step_rowG (bytes:=40) (cRawK 3) (by rfl) (.tmp 26) (.tmp 46) 30 (by rfl) Tryz.underlying30 (by kernel_rfl) (by decide) _ acc (by rfl) (by exact hrowA.wk (cRawK 3) ((Wire.Kept.refl (fun _=>False) _).drew) (fun _ _ h=>h)) [.string (str x.name),.string (str x.ty),.int .i64 x.fn] [.string (str x.name),.string (str x.ty),.int .i64 x.fn] ⟨wr.heap.size,0,none⟩ 1 (by rfl) (by exact hcn) (by exact ⟨rfl,rfl,hone.2.2⟩) (by unfold maxLen; omega) (by omega) (by exact hzA) ?_
    intro g7 cap7 w7 hr7 hg7
    have hkA:∀ z,z < wr.heap.size → (∀ y,(Value.slice la acc.length lc).ownBlock = some y → z ≠ y) → w7.heap[z]? = wr.heap[z]?:=fun z hz hn=>(hg7.block z (by show z < (wr.alloc (.cells #[.string (str x.name),.string (str x.ty),.int .i64 x.fn] 74)).heap.size; simp; omega) (fun e=>hn z e.symm rfl)).trans (Below.heap_alloc wr (.cells #[.string (str x.name),.string (str x.ty),.int .i64 x.fn] 74) z hz)
    have hV7:w7.heap[w.heap.size + 1 + 1]? = some (.cells #[.string (str m),.slice a1 ts.length c1,.slice a2 xs.length c2,(.slice la acc.length lc),.slice none 0 0,.slice a5 es.length c5,.slice none 0 0,.slice none 0 0] 35 (0,0)):=(hkA _ hsz2 (fun y hy=>by have:=(hob0 y hy).1; omega)).trans hV
    have c7:w7.cell? ⟨w.heap.size + 1 + 1,3,none⟩ = some (.slice la acc.length lc):=by rw [cell_of_row _ _ 3 _ _ _ hV7]; rfl
    have f7:=frozen_of_row w7 (w.heap.size + 1 + 1) 3 _ _ hV7
    have G7:(w7.heap[w.heap.size]? = wr.heap[w.heap.size]? ∧ w7.heap[gq]? = wr.heap[gq]?):=⟨hkA _ hsz0 (fun y hy=>by have:=(hob0 y hy).1; omega),hkA _ hgq (fun y hy=>by have:=(hob0 y hy).1; omega)⟩
    refine hK _ _ G7 (fun _=>?_)
    clear hK K
    refine wpAnyH_take (i:=23) (v := .pointer (some ⟨w.heap.size + 1 + 1,3,none⟩)) rfl (by kernel_rfl) (by kernel_rfl) (by kernel_rfl) (fun _ _ _ h=>h) (.inl ⟨by rfl,fun u hu=>by go_simp⟩) G7 ?_
    show wpAnyH Tryz.prog .any _ _ _ _ _ (Act.put _ (some 48) (.pointer (some ⟨w.heap.size + 1 + 1,3,none⟩))) _
    simp only [Act.put,List.setIfInBounds_toArray]
    refine wpAnyH_ready (rs:=[24]) (by kernel_rfl) (by simp) ?_
    refine AllReadyH.cons rfl (fun K hK=>?_) AllReadyH.nil
    go_simp
    have hV8:(w7.setCell ⟨w.heap.size + 1 + 1,3,none⟩ (.slice (some ⟨g7,0,none⟩) (acc.length + 1) cap7)).heap[w.heap.size + 1 + 1]? = some (.cells #[.string (str m),.slice a1 ts.length c1,.slice a2 xs.length c2,(.slice (some ⟨g7,0,none⟩) (acc.length + 1) cap7),.slice none 0 0,.slice a5 es.length c5,.slice none 0 0,.slice none 0 0] 35 (0,0)):=heap_setCell_same w7 (w.heap.size + 1 + 1) 3 _ _ (.slice (some ⟨g7,0,none⟩) (acc.length + 1) cap7) hV7
    have K8:=Wire.kept_set w7 (w.heap.size + 1 + 1) 3 (.slice (some ⟨g7,0,none⟩) (acc.length + 1) cap7)
    have K7:Wire.Kept (fun z=>(Value.slice la acc.length lc).ownBlock = some z) wr w7:=(wk_alloc wr (.cells #[.string (str x.name),.string (str x.ty),.int .i64 x.fn] 74)).trans (U:=fun z=>(Value.slice la acc.length lc).ownBlock = some z) (show Wire.Kept (fun z=>(Value.slice la acc.length lc).ownBlock = some z) (wr.alloc (.cells #[.string (str x.name),.string (str x.ty),.int .i64 x.fn] 74)) w7 from ⟨hg7.os,hg7.tape,hg7.output,hg7.size,fun b hb hn=>hg7.block b hb (fun e=>hn e.symm)⟩) (fun _ _ h=>h.elim) (fun _ _ h=>h)
    have s7:=K7.size
    have hr8:RowG (cRaw 3) 74 3 w0.heap.size (w7.setCell ⟨w.heap.size + 1 + 1,3,none⟩ (.slice (some ⟨g7,0,none⟩) (acc.length + 1) cap7)) (.slice (some ⟨g7,0,none⟩) (acc.length + 1) cap7) (acc ++ [[.string (str x.name),.string (str x.ty),.int .i64 x.fn]]):=hr7.wk (cRawK 3) K8 (fun b hb e=>by omega)
    have Kr8:Wire.Kept (fun x=>x = w.heap.size + 1 + 1) w0 (w7.setCell ⟨w.heap.size + 1 + 1,3,none⟩ (.slice (some ⟨g7,0,none⟩) (acc.length + 1) cap7)):=(Kr.trans K7 (U:=fun x=>x = w.heap.size + 1 + 1) (fun _ _ h=>h) (fun z hz h=>by have:=(hob0 z h).1; omega)).trans K8 (U:=fun x=>x = w.heap.size + 1 + 1) (fun _ _ h=>h) (fun _ _ h=>h)
    refine hK _ _ ⟨(K8.block _ (by omega) (by omega)).trans (hkA _ hsz0 (fun y hy=>by have:=(hob0 y hy).1; omega)),(K8.block _ (by omega) (by omega)).trans (hkA _ hgq (fun y hy=>by have:=(hob0 y hy).1; omega))⟩ (fun _=>?_)
    clear hK K hr7 hg7 c7 f7 K7 K8 hV7
    refine wpAnyH_done (by kernel_rfl) ?_ _
    go_wp2
    go_roundg (gs.length - (k + 1))
    case measure=>omega
    case rel=>exact ⟨k + 1,_,acc ++ [[.string (str x.name),.string (str x.ty),.int .i64 x.fn]],by omega,by go_num,hpr',by have:=hak.out; rw [hid_iff,List.length_append,List.length_singleton,this],by simpa using hr8,hV8,Kr8⟩
  ·have hki:¬ (k:Int) < (gs.length:Int):=by omega
   have hR0:RwR 3 cGl (fun g=>F g ∨ (w.heap.size + 1 + 1 + 1 ≤ g ∧ g < wr.heap.size)) wr (.slice la acc.length lc) gs:=rw_raw cGl_stay (hrow.rw (cRawK 3)) (by have:=hak.out; omega) hpr.out (fun g hg=>⟨.inl hg,by have:=hFH.out g hg; exact (Kr.block g (by omega) (by omega)).trans (HB.out g this)⟩) (fun g hg => .inr ⟨by have:=hg.1; omega,hg.2⟩)
   have HB':Hid (∀ g,g < w.heap.size → wr.heap[g]? = w.heap[g]?):=fun g hg=>(Kr.block g (by omega) (by omega)).trans (HB.out g hg)
   have hA':=wk_cell Kr hA (by omega)
   have hb':Below w.heap.size w wr:=hb.trans (Kr.below (B:=w.heap.size) (by omega) (fun x hx h=>by omega))
   clear hb HB hA Kr hrow hpr hob0
   replace hb:=hb'
   replace HB:=HB'
   replace hA:=hA'
   rename World=>v0
   generalize hlv:(Value.slice la acc.length lc) = lv0 at *
   obtain ⟨la0,nn0,lc0,e0⟩:∃ a n c,lv0 = .slice a n c:=⟨_,_,_,hlv.symm⟩
   clear hlv
   subst e0
   clear hak
   have hz0:w.heap.size + 1 + 1 < v0.heap.size:=by omega
   go_wp2_with fail
   clear q0
   go_loopg [5] fs.length (fun gk i wr=>∃ (k:Nat) (lv:Value) (acc:List (List Value)),gk + k = fs.length ∧ i = .int .i64 (k:Int) ∧ Hid (PRow cFn F w fs acc) ∧ Hid (acc.length = k) ∧ RowG (cRaw 6) 54 6 v0.heap.size wr lv acc ∧ wr.heap[w.heap.size + 1 + 1]? = some (.cells #[.string (str m),.slice a1 ts.length c1,.slice a2 xs.length c2,(.slice la0 nn0 lc0),lv,.slice a5 es.length c5,.slice none 0 0,.slice none 0 0] 35 (0,0)) ∧ Wire.Kept (fun x=>x = w.heap.size + 1 + 1) v0 wr)
   case atStart=>exact ⟨0,_,[],by omega,rfl,PRow.nil _ _ _ _,rfl,RowG.nil _ _ _ _ _,hV,Wire.Kept.refl _ _⟩
   case round =>
    clear hV
    obtain ⟨k,lv,acc,hg,rfl,hpr,hak,hrow,hV,Kr⟩:=hrel
    obtain ⟨la,lc,hlv⟩:=hrow.shape
    subst hlv
    have hsr:=Kr.size
    have hO:=wk_cell Kr hO (by omega)
    have hob0:∀ z,(Value.slice la acc.length lc).ownBlock = some z → v0.heap.size ≤ z ∧ z < wr.heap.size:=fun z hz=>hrow.block hz
    have q0:wr.cell? ⟨w.heap.size,4,none⟩ = some (.slice a4 fs.length c4):=by rw [cell_of_row _ _ 4 _ _ _ hO]; rfl
    have hsz0:w.heap.size < wr.heap.size:=by omega
    by_cases hk:k < fs.length
    ·have hki:(k:Int) < (fs.length:Int):=by omega
     obtain ⟨gq,oq,cq,cs,e1,e2,e3,hc,hcell⟩:=hH.out.funs.at k hk
     simp only [Value.slice.injEq,true_and] at e1
     obtain ⟨rfl,rfl⟩:=e1
     have hgw:=hFH.out gq e3
     have hgq:gq < wr.heap.size:=by omega
     have hbq:wr.heap[gq]? = w.heap[gq]?:=(Kr.block gq (by omega) (by omega)).trans (HB.out gq hgw)
     have hx:=List.getElem?_eq_getElem hk
     have hsn:=fun c (hc:cFn F w fs[k] c)=>hpr.out.snoc hak.out hx hc
     have hc0:=hc
     generalize fs[k] = x at *
     obtain ⟨pv,kv,rfl,hT,hKd⟩:=hc
     obtain ⟨pa,pc,rfl⟩:=hT.1.shape
     obtain ⟨ka,kc,rfl⟩:=hKd.shape
     have z0:wr.cell? ⟨gq,oq + k * 6,none⟩ = some (.string (str x.name)):=by rw [World.cell?_of_block (w:=w) hbq]; exact hcell 0 _ rfl
     have z1:wr.cell? ⟨gq,oq + k * 6 + 1,none⟩ = some (.slice pa x.params.length pc):=by rw [World.cell?_of_block (w:=w) hbq]; exact hcell 1 _ rfl
     have z2:wr.cell? ⟨gq,oq + k * 6 + 2,none⟩ = some (.int .i64 x.caps):=by rw [World.cell?_of_block (w:=w) hbq]; exact hcell 2 _ rfl
     have z3:wr.cell? ⟨gq,oq + k * 6 + 3,none⟩ = some (.string (str x.res)):=by rw [World.cell?_of_block (w:=w) hbq]; exact hcell 3 _ rfl
     have z4:wr.cell? ⟨gq,oq + k * 6 + 4,none⟩ = some (.int .i64 x.locals):=by rw [World.cell?_of_block (w:=w) hbq]; exact hcell 4 _ rfl
     have z5:wr.cell? ⟨gq,oq + k * 6 + 5,none⟩ = some (.slice ka x.code.length kc):=by rw [World.cell?_of_block (w:=w) hbq]; exact hcell 5 _ rfl
     have hpr':=hidden (hsn _ hc0)
     have q1:wr.cell? ⟨w.heap.size + 1 + 1,4,none⟩ = some (.slice la acc.length lc):=by rw [cell_of_row _ _ 4 _ _ _ hV]; rfl
     have hsz2:w.heap.size + 1 + 1 < wr.heap.size:=by omega
     have hal:(acc.length + 1) * 96 ≤ 140737488355328:=by have:=hak.out; omega
     have hone:cRaw 6 (fun z=>v0.heap.size ≤ z ∧ z < wr.heap.size ∧ some z ≠ (Value.slice la acc.length lc).ownBlock) wr [.string (str x.name),.slice pa x.params.length pc,.int .i64 x.caps,.string (str x.res),.int .i64 x.locals,.slice ka x.code.length kc] [.string (str x.name),.slice pa x.params.length pc,.int .i64 x.caps,.string (str x.res),.int .i64 x.locals,.slice ka x.code.length kc]:=⟨rfl,rfl,by
      intro u hu
      simp only [List.mem_cons,List.not_mem_nil,or_false] at hu
      rcases hu with rfl | rfl | rfl | rfl | rfl | rfl <;> rfl⟩
     have hf1:=World.alloc_heap_new wr (.cells #[.string (str x.name),.slice pa x.params.length pc,.int .i64 x.caps,.string (str x.res),.int .i64 x.locals,.slice ka x.code.length kc] 52)
     have kf:=wk_alloc wr (.cells #[.string (str x.name),.slice pa x.params.length pc,.int .i64 x.caps,.string (str x.res),.int .i64 x.locals,.slice ka x.code.length kc] 52)
     have sf:(wr.alloc (.cells #[.string (str x.name),.slice pa x.params.length pc,.int .i64 x.caps,.string (str x.res),.int .i64 x.locals,.slice ka x.code.length kc] 52)).heap.size = wr.heap.size + 1:=by simp
     have hV2:=wk_cell kf hV (fun h=>h)
     have q2:(wr.alloc (.cells #[.string (str x.name),.slice pa x.params.length pc,.int .i64 x.caps,.string (str x.res),.int .i64 x.locals,.slice ka x.code.length kc] 52)).cell? ⟨w.heap.size + 1 + 1,4,none⟩ = some (.slice la acc.length lc):=by rw [cell_of_row _ _ 4 _ _ _ hV2]; rfl
     have hrowA:=(hrow.wk (cRawK 6) kf (fun _ _ h=>h)).wk (cRawK 6) (wk_alloc _ (.cells #[.string (str x.name),.slice pa x.params.length pc,.int .i64 x.caps,.string (str x.res),.int .i64 x.locals,.slice ka x.code.length kc] 54)) (fun _ _ h=>h)
     obtain ⟨y0,y1,y2,y3,y4,y5⟩:=cells6 hf1
     clear hcell hsn hx hc0 hT hKd
     go_upto_region 10 with fail
     generalize wr.alloc (.cells #[.string (str x.name),.slice pa x.params.length pc,.int .i64 x.caps,.string (str x.res),.int .i64 x.locals,.slice ka x.code.length kc] 52) = wf at *
     clear z0 z1 z2 z3 z4 z5 q1
     go_wp2_with (at_builtin; refine append_rowG (bytes:=96) (cRawK 6) rfl (.tmp 62) (.tmp 76) 31 rfl Tryz.underlying31 (by kernel_rfl) (by decide) _ acc rfl hrowA [.string (str x.name),.slice pa x.params.length pc,.int .i64 x.caps,.string (str x.res),.int .i64 x.locals,.slice ka x.code.length kc] [.string (str x.name),.slice pa x.params.length pc,.int .i64 x.caps,.string (str x.res),.int .i64 x.locals,.slice ka x.code.length kc] _ _ rfl ?news ⟨rfl,rfl,hone.2.2⟩ ?len ?hby ?hB ?next)
     case len=>first | (unfold maxLen; omega) | (simp; omega)
     try (case hby=>omega)
     case hB=>first | omega | (simp; omega)
     case next =>
      intro g7 cap7 w7 hr7 hg7
      have K7:Wire.Kept (fun z=>(Value.slice la acc.length lc).ownBlock = some z) wr w7:=(kf.trans (wk_alloc wf (.cells #[.string (str x.name),.slice pa x.params.length pc,.int .i64 x.caps,.string (str x.res),.int .i64 x.locals,.slice ka x.code.length kc] 54)) (U:=fun z=>(Value.slice la acc.length lc).ownBlock = some z) (fun _ _ h=>h.elim) (fun _ _ h=>h.elim)).trans (U:=fun z=>(Value.slice la acc.length lc).ownBlock = some z) (wk_grown hg7) (fun _ _ h=>h) (fun _ _ h=>h)
      have hV7:w7.heap[w.heap.size + 1 + 1]? = some (.cells #[.string (str m),.slice a1 ts.length c1,.slice a2 xs.length c2,(.slice la0 nn0 lc0),(.slice la acc.length lc),.slice a5 es.length c5,.slice none 0 0,.slice none 0 0] 35 (0,0)):=wk_cell K7 hV (fun e=>by have:=(hob0 _ e).1; omega)
      have c7:w7.cell? ⟨w.heap.size + 1 + 1,4,none⟩ = some (.slice la acc.length lc):=by rw [cell_of_row _ _ 4 _ _ _ hV7]; rfl
      have f7:=frozen_of_row w7 (w.heap.size + 1 + 1) 4 _ _ hV7
      have hV8:(w7.setCell ⟨w.heap.size + 1 + 1,4,none⟩ (.slice (some ⟨g7,0,none⟩) (acc.length + 1) cap7)).heap[w.heap.size + 1 + 1]? = some (.cells #[.string (str m),.slice a1 ts.length c1,.slice a2 xs.length c2,(.slice la0 nn0 lc0),(.slice (some ⟨g7,0,none⟩) (acc.length + 1) cap7),.slice a5 es.length c5,.slice none 0 0,.slice none 0 0] 35 (0,0)):=heap_setCell_same w7 (w.heap.size + 1 + 1) 4 _ _ (.slice (some ⟨g7,0,none⟩) (acc.length + 1) cap7) hV7
      have K8:=Wire.kept_set w7 (w.heap.size + 1 + 1) 4 (.slice (some ⟨g7,0,none⟩) (acc.length + 1) cap7)
      have s7:=K7.size
      have hr8:RowG (cRaw 6) 54 6 v0.heap.size (w7.setCell ⟨w.heap.size + 1 + 1,4,none⟩ (.slice (some ⟨g7,0,none⟩) (acc.length + 1) cap7)) (.slice (some ⟨g7,0,none⟩) (acc.length + 1) cap7) (acc ++ [[.string (str x.name),.slice pa x.params.length pc,.int .i64 x.caps,.string (str x.res),.int .i64 x.locals,.slice ka x.code.length kc]]):=hr7.wk (cRawK 6) K8 (fun b hb e=>by omega)
      have Kr8:Wire.Kept (fun x=>x = w.heap.size + 1 + 1) v0 (w7.setCell ⟨w.heap.size + 1 + 1,4,none⟩ (.slice (some ⟨g7,0,none⟩) (acc.length + 1) cap7)):=(Kr.trans K7 (U:=fun x=>x = w.heap.size + 1 + 1) (fun _ _ h=>h) (fun z hz h=>by have:=(hob0 z h).1; omega)).trans K8 (U:=fun x=>x = w.heap.size + 1 + 1) (fun _ _ h=>h) (fun _ _ h=>h)
      clear hr7 hg7 K7 K8 hV7 hrowA kf hf1 hV2 q2 y0 y1 y2 y3 y4 y5
      go_wp2
      go_roundg (fs.length - (k + 1))
      case measure=>omega
      case rel=>exact ⟨k + 1,_,acc ++ [[.string (str x.name),.slice pa x.params.length pc,.int .i64 x.caps,.string (str x.res),.int .i64 x.locals,.slice ka x.code.length kc]],by omega,by go_num,hpr',by have:=hak.out; rw [hid_iff,List.length_append,List.length_singleton,this],by simpa using hr8,hV8,Kr8⟩
    ·have hki:¬ (k:Int) < (fs.length:Int):=by omega
     have hR1:RwR 6 cFn (fun g=>F g ∨ (w.heap.size + 1 + 1 + 1 ≤ g ∧ g < wr.heap.size)) wr (.slice la acc.length lc) fs:=rw_raw cFn_stay (hrow.rw (cRawK 6)) (by have:=hak.out; omega) hpr.out (fun g hg=>⟨.inl hg,by have:=hFH.out g hg; exact (Kr.block g (by omega) (by omega)).trans (HB.out g this)⟩) (fun g hg => .inr ⟨by have:=hg.1; omega,hg.2⟩)
     have HB':Hid (∀ g,g < w.heap.size → wr.heap[g]? = w.heap[g]?):=fun g hg=>(Kr.block g (by omega) (by omega)).trans (HB.out g hg)
     have hA':=wk_cell Kr hA (by omega)
     have hR0:=hR0.frame cGl_stay (G:=fun g=>F g ∨ (w.heap.size + 1 + 1 + 1 ≤ g ∧ g < wr.heap.size)) (w':=wr) (fun g hg=>⟨hg.imp id (fun h=>⟨h.1,by omega⟩),Kr.block g (by rcases hg with h | h; have:=hFH.out g h; omega; omega) (by rcases hg with h | h; have:=hFH.out g h; omega; omega)⟩)
     have hb':Below w.heap.size w wr:=hb.trans (Kr.below (B:=w.heap.size) (by omega) (fun x hx h=>by omega))
     clear hb HB hA Kr hrow hpr hob0
     replace hb:=hb'
     replace HB:=HB'
     replace hA:=hA'
     rename World=>v1
     generalize hlv:(Value.slice la acc.length lc) = lv1 at *
     obtain ⟨la1,nn1,lc1,e1⟩:∃ a n c,lv1 = .slice a n c:=⟨_,_,_,hlv.symm⟩
     clear hlv
     subst e1
     clear hak
     have hz0:w.heap.size + 1 + 1 < v1.heap.size:=by omega
     go_wp2_with fail
     clear q0
     go_loopg [7] ss.length (fun gk i wr=>∃ (k:Nat) (lv:Value) (acc:List (List Value)),gk + k = ss.length ∧ i = .int .i64 (k:Int) ∧ Hid (PRow cSy F w ss acc) ∧ Hid (acc.length = k) ∧ RowG (cRaw 5) 80 5 v1.heap.size wr lv acc ∧ wr.heap[w.heap.size + 1 + 1]? = some (.cells #[.string (str m),.slice a1 ts.length c1,.slice a2 xs.length c2,(.slice la0 nn0 lc0),(.slice la1 nn1 lc1),.slice a5 es.length c5,lv,.slice none 0 0] 35 (0,0)) ∧ Wire.Kept (fun x=>x = w.heap.size + 1 + 1) v1 wr)
     case atStart=>exact ⟨0,_,[],by omega,rfl,PRow.nil _ _ _ _,rfl,RowG.nil _ _ _ _ _,hV,Wire.Kept.refl _ _⟩
     case round =>
      clear hV
      obtain ⟨k,lv,acc,hg,rfl,hpr,hak,hrow,hV,Kr⟩:=hrel
      obtain ⟨la,lc,hlv⟩:=hrow.shape
      subst hlv
      have hsr:=Kr.size
      have hO:=wk_cell Kr hO (by omega)
      have hob0:∀ z,(Value.slice la acc.length lc).ownBlock = some z → v1.heap.size ≤ z ∧ z < wr.heap.size:=fun z hz=>hrow.block hz
      have q0:wr.cell? ⟨w.heap.size,6,none⟩ = some (.slice a6 ss.length c6):=by rw [cell_of_row _ _ 6 _ _ _ hO]; rfl
      have hsz0:w.heap.size < wr.heap.size:=by omega
      by_cases hk:k < ss.length
      ·have hki:(k:Int) < (ss.length:Int):=by omega
       obtain ⟨gq,oq,cq,cs,e1,e2,e3,hc,hcell⟩:=hH.out.symbols.at k hk
       simp only [Value.slice.injEq,true_and] at e1
       obtain ⟨rfl,rfl⟩:=e1
       have hgw:=hFH.out gq e3
       have hgq:gq < wr.heap.size:=by omega
       have hbq:wr.heap[gq]? = w.heap[gq]?:=(Kr.block gq (by omega) (by omega)).trans (HB.out gq hgw)
       have hx:=List.getElem?_eq_getElem hk
       have hsn:=fun c (hc:cSy F w ss[k] c)=>hpr.out.snoc hak.out hx hc
       have hc0:=hc
       generalize ss[k] = x at *
       obtain ⟨cv,rfl,hT⟩:=hc
       obtain ⟨ka,kc,rfl⟩:=hT.shape
       have z0:wr.cell? ⟨gq,oq + k * 5,none⟩ = some (.string (str x.mod)):=by rw [World.cell?_of_block (w:=w) hbq]; exact hcell 0 _ rfl
       have z1:wr.cell? ⟨gq,oq + k * 5 + 1,none⟩ = some (.int .i64 x.item.kind):=by rw [World.cell?_of_block (w:=w) hbq]; exact hcell 1 _ rfl
       have z2:wr.cell? ⟨gq,oq + k * 5 + 2,none⟩ = some (.string (str x.item.name)):=by rw [World.cell?_of_block (w:=w) hbq]; exact hcell 2 _ rfl
       have z3:wr.cell? ⟨gq,oq + k * 5 + 3,none⟩ = some (.string (str x.item.ty)):=by rw [World.cell?_of_block (w:=w) hbq]; exact hcell 3 _ rfl
       have z4:wr.cell? ⟨gq,oq + k * 5 + 4,none⟩ = some (.slice ka x.item.cases.length kc):=by rw [World.cell?_of_block (w:=w) hbq]; exact hcell 4 _ rfl
       have hpr':=hidden (hsn _ hc0)
       have q1:wr.cell? ⟨w.heap.size + 1 + 1,6,none⟩ = some (.slice la acc.length lc):=by rw [cell_of_row _ _ 6 _ _ _ hV]; rfl
       have hsz2:w.heap.size + 1 + 1 < wr.heap.size:=by omega
       have hal:(acc.length + 1) * 80 ≤ 140737488355328:=by have:=hak.out; omega
       have hone:cRaw 5 (fun z=>v1.heap.size ≤ z ∧ z < wr.heap.size ∧ some z ≠ (Value.slice la acc.length lc).ownBlock) wr [.string (str x.mod),.int .i64 x.item.kind,.string (str x.item.name),.string (str x.item.ty),.slice ka x.item.cases.length kc] [.string (str x.mod),.int .i64 x.item.kind,.string (str x.item.name),.string (str x.item.ty),.slice ka x.item.cases.length kc]:=⟨rfl,rfl,by
        intro u hu
        simp only [List.mem_cons,List.not_mem_nil,or_false] at hu
        rcases hu with rfl | rfl | rfl | rfl | rfl <;> rfl⟩
       have hzA:v1.heap.size ≤ (wr.alloc (.cells #[.string (str x.mod),.int .i64 x.item.kind,.string (str x.item.name),.string (str x.item.ty),.slice ka x.item.cases.length kc] 80)).heap.size:=by simp; omega
       have hrowA:RowG (cRaw 5) 80 5 v1.heap.size (wr.alloc (.cells #[.string (str x.mod),.int .i64 x.item.kind,.string (str x.item.name),.string (str x.item.ty),.slice ka x.item.cases.length kc] 80)) (.slice la acc.length lc) acc:=hrow.wk (cRawK 5) (wk_alloc _ _) (fun _ _ h=>h)
       have hcn:=cells_new wr [.string (str x.mod),.int .i64 x.item.kind,.string (str x.item.name),.string (str x.item.ty),.slice ka x.item.cases.length kc] 80
       clear hcell hsn hx hc0 hT
       have hCE:∀ u:World,(u.heap[w.heap.size]? = wr.heap[w.heap.size]? ∧ u.heap[gq]? = wr.heap[gq]?) → u.cell? ⟨w.heap.size,6,none⟩ = some (.slice (some ⟨gq,oq,none⟩) ss.length c6) ∧ u.cell? ⟨gq,oq + k * 5,none⟩ = some (.string (str x.mod)) ∧ u.cell? ⟨gq,oq + k * 5 + 1,none⟩ = some (.int .i64 x.item.kind) ∧ u.cell? ⟨gq,oq + k * 5 + 2,none⟩ = some (.string (str x.item.name)) ∧ u.cell? ⟨gq,oq + k * 5 + 3,none⟩ = some (.string (str x.item.ty)) ∧ u.cell? ⟨gq,oq + k * 5 + 4,none⟩ = some (.slice ka x.item.cases.length kc):=fun u hu=>⟨(World.cell?_of_block (a:=⟨w.heap.size,6,none⟩) hu.1).trans q0,(World.cell?_of_block (a:=⟨gq,oq + k * 5,none⟩) hu.2).trans z0,(World.cell?_of_block (a:=⟨gq,oq + k * 5 + 1,none⟩) hu.2).trans z1,(World.cell?_of_block (a:=⟨gq,oq + k * 5 + 2,none⟩) hu.2).trans z2,(World.cell?_of_block (a:=⟨gq,oq + k * 5 + 3,none⟩) hu.2).trans z3,(World.cell?_of_block (a:=⟨gq,oq + k * 5 + 4,none⟩) hu.2).trans z4⟩
       go_upto_region 14 with fail
       refine wp_region_held (S:=(fun u=>u.heap[w.heap.size]? = wr.heap[w.heap.size]? ∧ u.heap[gq]? = wr.heap[gq]?)) (by kernel_rfl) ?_
       show wpAnyH Tryz.prog .any _ _ _ _ _ _ wr.drew
       have G0:(wr.drew.heap[w.heap.size]? = wr.heap[w.heap.size]? ∧ wr.drew.heap[gq]? = wr.heap[gq]?):=⟨rfl,rfl⟩
       refine wpAnyH_take (i:=0) (v := .pointer (some ⟨w.heap.size + 1 + 1,6,none⟩)) rfl (by kernel_rfl) (by kernel_rfl) (by kernel_rfl) (fun _ _ _ h=>h) (.inl ⟨by rfl,fun u hu=>by go_simp⟩) G0 ?_
       show wpAnyH Tryz.prog .any _ _ _ _ _ (Act.put _ (some 86) (.pointer (some ⟨w.heap.size + 1 + 1,6,none⟩))) _
       simp only [Act.put,List.setIfInBounds_toArray,List.set_cons_zero,List.set_cons_succ]
       refine wpAnyH_take (i:=2) (v := .pointer (some ⟨w.heap.size,6,none⟩)) rfl (by kernel_rfl) (by kernel_rfl) (by kernel_rfl) (fun _ _ _ h=>h) (.inl ⟨by rfl,fun u hu=>by go_simp⟩) G0 ?_
       show wpAnyH Tryz.prog .any _ _ _ _ _ (Act.put _ (some 88) (.pointer (some ⟨w.heap.size,6,none⟩))) _
       simp only [Act.put,List.setIfInBounds_toArray,List.set_cons_zero,List.set_cons_succ]
       refine wpAnyH_take (i:=3) (v := .slice (some ⟨gq,oq,none⟩) ss.length c6) rfl (by kernel_rfl) (by kernel_rfl) (by kernel_rfl) (fun _ _ _ h=>h) (.inl ⟨by rfl,fun u hu=>by obtain ⟨e0,f0,f1,f2,f3,f4⟩:=hCE u hu; go_simp⟩) G0 ?_
       show wpAnyH Tryz.prog .any _ _ _ _ _ (Act.put _ (some 89) (.slice (some ⟨gq,oq,none⟩) ss.length c6)) _
       simp only [Act.put,List.setIfInBounds_toArray,List.set_cons_zero,List.set_cons_succ]
       refine wpAnyH_take (i:=4) (v := .int .i64 (k:Int)) rfl (by kernel_rfl) (by kernel_rfl) (by kernel_rfl) (fun _ _ _ h=>h) (.inl ⟨by rfl,fun u hu=>by go_simp⟩) G0 ?_
       show wpAnyH Tryz.prog .any _ _ _ _ _ (Act.put _ (some 90) (.int .i64 (k:Int))) _
       simp only [Act.put,List.setIfInBounds_toArray,List.set_cons_zero,List.set_cons_succ]
       refine wpAnyH_take (i:=5) (v := .pointer (some ⟨gq,oq + k * 5,none⟩)) rfl (by kernel_rfl) (by kernel_rfl) (by kernel_rfl) (fun _ _ _ h=>h) (.inl ⟨by rfl,fun u hu=>by go_simp⟩) G0 ?_
       show wpAnyH Tryz.prog .any _ _ _ _ _ (Act.put _ (some 91) (.pointer (some ⟨gq,oq + k * 5,none⟩))) _
       simp only [Act.put,List.setIfInBounds_toArray,List.set_cons_zero,List.set_cons_succ]
       refine wpAnyH_take (i:=6) (v := .pointer (some ⟨gq,oq + k * 5,none⟩)) rfl (by kernel_rfl) (by kernel_rfl) (by kernel_rfl) (fun _ _ _ h=>h) (.inl ⟨by rfl,fun u hu=>by go_simp⟩) G0 ?_
       show wpAnyH Tryz.prog .any _ _ _ _ _ (Act.put _ (some 92) (.pointer (some ⟨gq,oq + k * 5,none⟩))) _
       simp only [Act.put,List.setIfInBounds_toArray,List.set_cons_zero,List.set_cons_succ]
       refine wpAnyH_take (i:=7) (v := .string (str x.mod)) rfl (by kernel_rfl) (by kernel_rfl) (by kernel_rfl) (fun _ _ _ h=>h) (.inl ⟨by rfl,fun u hu=>by obtain ⟨e0,f0,f1,f2,f3,f4⟩:=hCE u hu; go_simp⟩) G0 ?_
       show wpAnyH Tryz.prog .any _ _ _ _ _ (Act.put _ (some 93) (.string (str x.mod))) _
       simp only [Act.put,List.setIfInBounds_toArray,List.set_cons_zero,List.set_cons_succ]
       refine wpAnyH_take (i:=8) (v := .pointer (some ⟨w.heap.size,6,none⟩)) rfl (by kernel_rfl) (by kernel_rfl) (by kernel_rfl) (fun _ _ _ h=>h) (.inl ⟨by rfl,fun u hu=>by go_simp⟩) G0 ?_
       show wpAnyH Tryz.prog .any _ _ _ _ _ (Act.put _ (some 94) (.pointer (some ⟨w.heap.size,6,none⟩))) _
       simp only [Act.put,List.setIfInBounds_toArray,List.set_cons_zero,List.set_cons_succ]
       refine wpAnyH_take (i:=9) (v := .slice (some ⟨gq,oq,none⟩) ss.length c6) rfl (by kernel_rfl) (by kernel_rfl) (by kernel_rfl) (fun _ _ _ h=>h) (.inl ⟨by rfl,fun u hu=>by obtain ⟨e0,f0,f1,f2,f3,f4⟩:=hCE u hu; go_simp⟩) G0 ?_
       show wpAnyH Tryz.prog .any _ _ _ _ _ (Act.put _ (some 95) (.slice (some ⟨gq,oq,none⟩) ss.length c6)) _
       simp only [Act.put,List.setIfInBounds_toArray,List.set_cons_zero,List.set_cons_succ]
       refine wpAnyH_take (i:=10) (v := .int .i64 (k:Int)) rfl (by kernel_rfl) (by kernel_rfl) (by kernel_rfl) (fun _ _ _ h=>h) (.inl ⟨by rfl,fun u hu=>by go_simp⟩) G0 ?_
       show wpAnyH Tryz.prog .any _ _ _ _ _ (Act.put _ (some 96) (.int .i64 (k:Int))) _
       simp only [Act.put,List.setIfInBounds_toArray,List.set_cons_zero,List.set_cons_succ]
       refine wpAnyH_take (i:=11) (v := .pointer (some ⟨gq,oq + k * 5,none⟩)) rfl (by kernel_rfl) (by kernel_rfl) (by kernel_rfl) (fun _ _ _ h=>h) (.inl ⟨by rfl,fun u hu=>by go_simp⟩) G0 ?_
       show wpAnyH Tryz.prog .any _ _ _ _ _ (Act.put _ (some 97) (.pointer (some ⟨gq,oq + k * 5,none⟩))) _
       simp only [Act.put,List.setIfInBounds_toArray,List.set_cons_zero,List.set_cons_succ]
       refine wpAnyH_take (i:=12) (v := .pointer (some ⟨gq,oq + k * 5 + 1,none⟩)) rfl (by kernel_rfl) (by kernel_rfl) (by kernel_rfl) (fun _ _ _ h=>h) (.inl ⟨by rfl,fun u hu=>by go_simp⟩) G0 ?_
       show wpAnyH Tryz.prog .any _ _ _ _ _ (Act.put _ (some 98) (.pointer (some ⟨gq,oq + k * 5 + 1,none⟩))) _
       simp only [Act.put,List.setIfInBounds_toArray,List.set_cons_zero,List.set_cons_succ]
       refine wpAnyH_take (i:=13) (v := .agg #[.int .i64 x.item.kind,.string (str x.item.name),.string (str x.item.ty),.slice ka x.item.cases.length kc]) rfl (by kernel_rfl) (by kernel_rfl) (by kernel_rfl) (fun _ _ _ h=>h) (.inl ⟨by rfl,fun u hu=>by obtain ⟨e0,f0,f1,f2,f3,f4⟩:=hCE u hu; go_simp⟩) G0 ?_
       show wpAnyH Tryz.prog .any _ _ _ _ _ (Act.put _ (some 99) (.agg #[.int .i64 x.item.kind,.string (str x.item.name),.string (str x.item.ty),.slice ka x.item.cases.length kc])) _
       simp only [Act.put,List.setIfInBounds_toArray,List.set_cons_zero,List.set_cons_succ]
       refine wpAnyH_take (i:=14) (v := .agg #[.string (str x.mod),.int .i64 x.item.kind,.string (str x.item.name),.string (str x.item.ty),.slice ka x.item.cases.length kc]) rfl (by kernel_rfl) (by kernel_rfl) (by kernel_rfl) (fun _ _ _ h=>h) (.inl ⟨by rfl,fun u hu=>by go_simp⟩) G0 ?_
       show wpAnyH Tryz.prog .any _ _ _ _ _ (Act.put _ (some 100) (.agg #[.string (str x.mod),.int .i64 x.item.kind,.string (str x.item.name),.string (str x.item.ty),.slice ka x.item.cases.length kc])) _
       simp only [Act.put,List.setIfInBounds_toArray,List.set_cons_zero,List.set_cons_succ]
       refine wpAnyH_ready (rs:=[1,15]) (by kernel_rfl) (by simp) ?_
       refine AllReadyH.cons rfl (fun K hK=>?_) (AllReadyH.cons rfl (fun K hK=>?_) AllReadyH.nil)
       all_goals first
        | (
            go_simp
            refine hK _ _ G0 (fun _=>?_)
            clear hK K
            refine wpAnyH_ready (rs:=[15]) (by kernel_rfl) (by simp) ?_
            refine AllReadyH.cons rfl (fun K hK=>?_) AllReadyH.nil
            go_simp
            refine hK _ _ ⟨Below.heap_alloc _ _ _ hsz0,Below.heap_alloc _ _ _ hgq⟩ (fun _=>?_)
            clear hK K)
        | (
            go_simp
            refine hK _ _ ⟨Below.heap_alloc _ _ _ hsz0,Below.heap_alloc _ _ _ hgq⟩ (fun _=>?_)
            clear hK K
            have q9:(wr.alloc (.cells #[.string (str x.mod),.int .i64 x.item.kind,.string (str x.item.name),.string (str x.item.ty),.slice ka x.item.cases.length kc] 80)).cell? ⟨w.heap.size + 1 + 1,6,none⟩ = some (.slice la acc.length lc):=by rw [cell_of_row _ _ 6 _ _ _ ((Below.heap_alloc wr (.cells #[.string (str x.mod),.int .i64 x.item.kind,.string (str x.item.name),.string (str x.item.ty),.slice ka x.item.cases.length kc] 80) (w.heap.size + 1 + 1) hsz2).trans hV)]; rfl
            refine wpAnyH_ready (rs:=[1]) (by kernel_rfl) (by simp) ?_
            refine AllReadyH.cons rfl (fun K hK=>?_) AllReadyH.nil
            go_simp
            refine hK _ _ ⟨Below.heap_alloc _ _ _ hsz0,Below.heap_alloc _ _ _ hgq⟩ (fun _=>?_)
            clear hK K q9)
       all_goals
        refine wpAnyH_ready (rs:=[16]) (by kernel_rfl) (by simp) ?_
        refine AllReadyH.cons rfl (fun K hK=>?_) AllReadyH.nil
        refine step_rowG (bytes:=80) (cRawK 5) (by rfl) (.tmp 87) (.tmp 101) 32 (by rfl) Tryz.underlying32 (by kernel_rfl) (by decide) _ acc (by rfl) (by exact hrowA.wk (cRawK 5) ((Wire.Kept.refl (fun _=>False) _).drew) (fun _ _ h=>h)) [.string (str x.mod),.int .i64 x.item.kind,.string (str x.item.name),.string (str x.item.ty),.slice ka x.item.cases.length kc] [.string (str x.mod),.int .i64 x.item.kind,.string (str x.item.name),.string (str x.item.ty),.slice ka x.item.cases.length kc] ⟨wr.heap.size,0,none⟩ 1 (by rfl) (by exact hcn) (by exact ⟨rfl,rfl,hone.2.2⟩) (by unfold maxLen; omega) (by omega) (by exact hzA) ?_
        intro g7 cap7 w7 hr7 hg7
        have hkA:∀ z,z < wr.heap.size → (∀ y,(Value.slice la acc.length lc).ownBlock = some y → z ≠ y) → w7.heap[z]? = wr.heap[z]?:=fun z hz hn=>(hg7.block z (by show z < (wr.alloc (.cells #[.string (str x.mod),.int .i64 x.item.kind,.string (str x.item.name),.string (str x.item.ty),.slice ka x.item.cases.length kc] 80)).heap.size; simp; omega) (fun e=>hn z e.symm rfl)).trans (Below.heap_alloc wr (.cells #[.string (str x.mod),.int .i64 x.item.kind,.string (str x.item.name),.string (str x.item.ty),.slice ka x.item.cases.length kc] 80) z hz)
        have hV7:w7.heap[w.heap.size + 1 + 1]? = some (.cells #[.string (str m),.slice a1 ts.length c1,.slice a2 xs.length c2,(.slice la0 nn0 lc0),(.slice la1 nn1 lc1),.slice a5 es.length c5,(.slice la acc.length lc),.slice none 0 0] 35 (0,0)):=(hkA _ hsz2 (fun y hy=>by have:=(hob0 y hy).1; omega)).trans hV
        have c7:w7.cell? ⟨w.heap.size + 1 + 1,6,none⟩ = some (.slice la acc.length lc):=by rw [cell_of_row _ _ 6 _ _ _ hV7]; rfl
        have f7:=frozen_of_row w7 (w.heap.size + 1 + 1) 6 _ _ hV7
        have G7:(w7.heap[w.heap.size]? = wr.heap[w.heap.size]? ∧ w7.heap[gq]? = wr.heap[gq]?):=⟨hkA _ hsz0 (fun y hy=>by have:=(hob0 y hy).1; omega),hkA _ hgq (fun y hy=>by have:=(hob0 y hy).1; omega)⟩
        refine hK _ _ G7 (fun _=>?_)
        clear hK K
        refine wpAnyH_take (i:=17) (v := .pointer (some ⟨w.heap.size + 1 + 1,6,none⟩)) rfl (by kernel_rfl) (by kernel_rfl) (by kernel_rfl) (fun _ _ _ h=>h) (.inl ⟨by rfl,fun u hu=>by go_simp⟩) G7 ?_
        show wpAnyH Tryz.prog .any _ _ _ _ _ (Act.put _ (some 103) (.pointer (some ⟨w.heap.size + 1 + 1,6,none⟩))) _
        simp only [Act.put,List.setIfInBounds_toArray]
        refine wpAnyH_ready (rs:=[18]) (by kernel_rfl) (by simp) ?_
        refine AllReadyH.cons rfl (fun K hK=>?_) AllReadyH.nil
        go_simp
        have hV8:(w7.setCell ⟨w.heap.size + 1 + 1,6,none⟩ (.slice (some ⟨g7,0,none⟩) (acc.length + 1) cap7)).heap[w.heap.size + 1 + 1]? = some (.cells #[.string (str m),.slice a1 ts.length c1,.slice a2 xs.length c2,(.slice la0 nn0 lc0),(.slice la1 nn1 lc1),.slice a5 es.length c5,(.slice (some ⟨g7,0,none⟩) (acc.length + 1) cap7),.slice none 0 0] 35 (0,0)):=heap_setCell_same w7 (w.heap.size + 1 + 1) 6 _ _ (.slice (some ⟨g7,0,none⟩) (acc.length + 1) cap7) hV7
        have K8:=Wire.kept_set w7 (w.heap.size + 1 + 1) 6 (.slice (some ⟨g7,0,none⟩) (acc.length + 1) cap7)
        have K7:Wire.Kept (fun z=>(Value.slice la acc.length lc).ownBlock = some z) wr w7:=(wk_alloc wr (.cells #[.string (str x.mod),.int .i64 x.item.kind,.string (str x.item.name),.string (str x.item.ty),.slice ka x.item.cases.length kc] 80)).trans (U:=fun z=>(Value.slice la acc.length lc).ownBlock = some z) (show Wire.Kept (fun z=>(Value.slice la acc.length lc).ownBlock = some z) (wr.alloc (.cells #[.string (str x.mod),.int .i64 x.item.kind,.string (str x.item.name),.string (str x.item.ty),.slice ka x.item.cases.length kc] 80)) w7 from ⟨hg7.os,hg7.tape,hg7.output,hg7.size,fun b hb hn=>hg7.block b hb (fun e=>hn e.symm)⟩) (fun _ _ h=>h.elim) (fun _ _ h=>h)
        have s7:=K7.size
        have hr8:RowG (cRaw 5) 80 5 v1.heap.size (w7.setCell ⟨w.heap.size + 1 + 1,6,none⟩ (.slice (some ⟨g7,0,none⟩) (acc.length + 1) cap7)) (.slice (some ⟨g7,0,none⟩) (acc.length + 1) cap7) (acc ++ [[.string (str x.mod),.int .i64 x.item.kind,.string (str x.item.name),.string (str x.item.ty),.slice ka x.item.cases.length kc]]):=hr7.wk (cRawK 5) K8 (fun b hb e=>by omega)
        have Kr8:Wire.Kept (fun x=>x = w.heap.size + 1 + 1) v1 (w7.setCell ⟨w.heap.size + 1 + 1,6,none⟩ (.slice (some ⟨g7,0,none⟩) (acc.length + 1) cap7)):=(Kr.trans K7 (U:=fun x=>x = w.heap.size + 1 + 1) (fun _ _ h=>h) (fun z hz h=>by have:=(hob0 z h).1; omega)).trans K8 (U:=fun x=>x = w.heap.size + 1 + 1) (fun _ _ h=>h) (fun _ _ h=>h)
        refine hK _ _ ⟨(K8.block _ (by omega) (by omega)).trans (hkA _ hsz0 (fun y hy=>by have:=(hob0 y hy).1; omega)),(K8.block _ (by omega) (by omega)).trans (hkA _ hgq (fun y hy=>by have:=(hob0 y hy).1; omega))⟩ (fun _=>?_)
        clear hK K hr7 hg7 c7 f7 K7 K8 hV7
        refine wpAnyH_done (by kernel_rfl) ?_ _
        go_wp2
        go_roundg (ss.length - (k + 1))
        case measure=>omega
        case rel=>exact ⟨k + 1,_,acc ++ [[.string (str x.mod),.int .i64 x.item.kind,.string (str x.item.name),.string (str x.item.ty),.slice ka x.item.cases.length kc]],by omega,by go_num,hpr',by have:=hak.out; rw [hid_iff,List.length_append,List.length_singleton,this],by simpa using hr8,hV8,Kr8⟩
      ·have hki:¬ (k:Int) < (ss.length:Int):=by omega
       have hR2:RwR 5 cSy (fun g=>F g ∨ (w.heap.size + 1 + 1 + 1 ≤ g ∧ g < wr.heap.size)) wr (.slice la acc.length lc) ss:=rw_raw cSy_stay (hrow.rw (cRawK 5)) (by have:=hak.out; omega) hpr.out (fun g hg=>⟨.inl hg,by have:=hFH.out g hg; exact (Kr.block g (by omega) (by omega)).trans (HB.out g this)⟩) (fun g hg => .inr ⟨by have:=hg.1; omega,hg.2⟩)
       have HB':Hid (∀ g,g < w.heap.size → wr.heap[g]? = w.heap[g]?):=fun g hg=>(Kr.block g (by omega) (by omega)).trans (HB.out g hg)
       have hA':=wk_cell Kr hA (by omega)
       have hR0:=hR0.frame cGl_stay (G:=fun g=>F g ∨ (w.heap.size + 1 + 1 + 1 ≤ g ∧ g < wr.heap.size)) (w':=wr) (fun g hg=>⟨hg.imp id (fun h=>⟨h.1,by omega⟩),Kr.block g (by rcases hg with h | h; have:=hFH.out g h; omega; omega) (by rcases hg with h | h; have:=hFH.out g h; omega; omega)⟩)
       have hR1:=hR1.frame cFn_stay (G:=fun g=>F g ∨ (w.heap.size + 1 + 1 + 1 ≤ g ∧ g < wr.heap.size)) (w':=wr) (fun g hg=>⟨hg.imp id (fun h=>⟨h.1,by omega⟩),Kr.block g (by rcases hg with h | h; have:=hFH.out g h; omega; omega) (by rcases hg with h | h; have:=hFH.out g h; omega; omega)⟩)
       have hb':Below w.heap.size w wr:=hb.trans (Kr.below (B:=w.heap.size) (by omega) (fun x hx h=>by omega))
       clear hb HB hA Kr hrow hpr hob0
       replace hb:=hb'
       replace HB:=HB'
       replace hA:=hA'
       rename World=>v2
       generalize hlv:(Value.slice la acc.length lc) = lv2 at *
       obtain ⟨la2,nn2,lc2,e2⟩:∃ a n c,lv2 = .slice a n c:=⟨_,_,_,hlv.symm⟩
       clear hlv
       subst e2
       clear hak
       have hz0:w.heap.size + 1 + 1 < v2.heap.size:=by omega
       go_wp2_with fail
       clear q0
       go_loopg [8] rs.length (fun gk i wr=>∃ (k:Nat) (lv:Value) (acc:List (List Value)),gk + k = rs.length ∧ i = .int .i64 (k:Int) ∧ Hid (PRow cRl F w rs acc) ∧ Hid (acc.length = k) ∧ RowG (cRaw 3) 83 3 v2.heap.size wr lv acc ∧ wr.heap[w.heap.size + 1 + 1]? = some (.cells #[.string (str m),.slice a1 ts.length c1,.slice a2 xs.length c2,(.slice la0 nn0 lc0),(.slice la1 nn1 lc1),.slice a5 es.length c5,(.slice la2 nn2 lc2),lv] 35 (0,0)) ∧ Wire.Kept (fun x=>x = w.heap.size + 1 + 1) v2 wr)
       case atStart=>exact ⟨0,_,[],by omega,rfl,PRow.nil _ _ _ _,rfl,RowG.nil _ _ _ _ _,hV,Wire.Kept.refl _ _⟩
       case round =>
        clear hV
        obtain ⟨k,lv,acc,hg,rfl,hpr,hak,hrow,hV,Kr⟩:=hrel
        obtain ⟨la,lc,hlv⟩:=hrow.shape
        subst hlv
        have hsr:=Kr.size
        have hO:=wk_cell Kr hO (by omega)
        have hob0:∀ z,(Value.slice la acc.length lc).ownBlock = some z → v2.heap.size ≤ z ∧ z < wr.heap.size:=fun z hz=>hrow.block hz
        have q0:wr.cell? ⟨w.heap.size,7,none⟩ = some (.slice a7 rs.length c7):=by rw [cell_of_row _ _ 7 _ _ _ hO]; rfl
        have hsz0:w.heap.size < wr.heap.size:=by omega
        by_cases hk:k < rs.length
        ·have hki:(k:Int) < (rs.length:Int):=by omega
         obtain ⟨gq,oq,cq,cs,e1,e2,e3,hc,hcell⟩:=hH.out.relocs.at k hk
         simp only [Value.slice.injEq,true_and] at e1
         obtain ⟨rfl,rfl⟩:=e1
         have hgw:=hFH.out gq e3
         have hgq:gq < wr.heap.size:=by omega
         have hbq:wr.heap[gq]? = w.heap[gq]?:=(Kr.block gq (by omega) (by omega)).trans (HB.out gq hgw)
         have hx:=List.getElem?_eq_getElem hk
         have hsn:=fun c (hc:cRl F w rs[k] c)=>hpr.out.snoc hak.out hx hc
         have hc0:=hc
         generalize rs[k] = x at *
         unfold cRl at hc
         subst hc
         have z0:wr.cell? ⟨gq,oq + k * 3,none⟩ = some (.int .i64 x.fn):=by rw [World.cell?_of_block (w:=w) hbq]; exact hcell 0 _ rfl
         have z1:wr.cell? ⟨gq,oq + k * 3 + 1,none⟩ = some (.int .i64 x.place):=by rw [World.cell?_of_block (w:=w) hbq]; exact hcell 1 _ rfl
         have z2:wr.cell? ⟨gq,oq + k * 3 + 2,none⟩ = some (.int .i64 x.sym):=by rw [World.cell?_of_block (w:=w) hbq]; exact hcell 2 _ rfl
         have hpr':=hidden (hsn _ hc0)
         have q1:wr.cell? ⟨w.heap.size + 1 + 1,7,none⟩ = some (.slice la acc.length lc):=by rw [cell_of_row _ _ 7 _ _ _ hV]; rfl
         have hsz2:w.heap.size + 1 + 1 < wr.heap.size:=by omega
         have hal:(acc.length + 1) * 24 ≤ 140737488355328:=by have:=hak.out; omega
         have hone:cRaw 3 (fun z=>v2.heap.size ≤ z ∧ z < wr.heap.size ∧ some z ≠ (Value.slice la acc.length lc).ownBlock) wr [.int .i64 x.fn,.int .i64 x.place,.int .i64 x.sym] [.int .i64 x.fn,.int .i64 x.place,.int .i64 x.sym]:=⟨rfl,rfl,by
          intro u hu
          simp only [List.mem_cons,List.not_mem_nil,or_false] at hu
          rcases hu with rfl | rfl | rfl <;> rfl⟩
         have hzA:v2.heap.size ≤ (wr.alloc (.cells #[.int .i64 x.fn,.int .i64 x.place,.int .i64 x.sym] 83)).heap.size:=by simp; omega
         have hrowA:RowG (cRaw 3) 83 3 v2.heap.size (wr.alloc (.cells #[.int .i64 x.fn,.int .i64 x.place,.int .i64 x.sym] 83)) (.slice la acc.length lc) acc:=hrow.wk (cRawK 3) (wk_alloc _ _) (fun _ _ h=>h)
         have hcn:=cells_new wr [.int .i64 x.fn,.int .i64 x.place,.int .i64 x.sym] 83
         clear hcell hsn hx hc0
         have hCE:∀ u:World,(u.heap[w.heap.size]? = wr.heap[w.heap.size]? ∧ u.heap[gq]? = wr.heap[gq]?) → u.cell? ⟨w.heap.size,7,none⟩ = some (.slice (some ⟨gq,oq,none⟩) rs.length c7) ∧ u.cell? ⟨gq,oq + k * 3,none⟩ = some (.int .i64 x.fn) ∧ u.cell? ⟨gq,oq + k * 3 + 1,none⟩ = some (.int .i64 x.place) ∧ u.cell? ⟨gq,oq + k * 3 + 2,none⟩ = some (.int .i64 x.sym):=fun u hu=>⟨(World.cell?_of_block (a:=⟨w.heap.size,7,none⟩) hu.1).trans q0,(World.cell?_of_block (a:=⟨gq,oq + k * 3,none⟩) hu.2).trans z0,(World.cell?_of_block (a:=⟨gq,oq + k * 3 + 1,none⟩) hu.2).trans z1,(World.cell?_of_block (a:=⟨gq,oq + k * 3 + 2,none⟩) hu.2).trans z2⟩
         go_upto_region 18 with fail
         refine wp_region_held (S:=(fun u=>u.heap[w.heap.size]? = wr.heap[w.heap.size]? ∧ u.heap[gq]? = wr.heap[gq]?)) (by kernel_rfl) ?_
         show wpAnyH Tryz.prog .any _ _ _ _ _ _ wr.drew
         have G0:(wr.drew.heap[w.heap.size]? = wr.heap[w.heap.size]? ∧ wr.drew.heap[gq]? = wr.heap[gq]?):=⟨rfl,rfl⟩
         refine wpAnyH_take (i:=0) (v := .pointer (some ⟨w.heap.size + 1 + 1,7,none⟩)) rfl (by kernel_rfl) (by kernel_rfl) (by kernel_rfl) (fun _ _ _ h=>h) (.inl ⟨by rfl,fun u hu=>by go_simp⟩) G0 ?_
         show wpAnyH Tryz.prog .any _ _ _ _ _ (Act.put _ (some 111) (.pointer (some ⟨w.heap.size + 1 + 1,7,none⟩))) _
         simp only [Act.put,List.setIfInBounds_toArray,List.set_cons_zero,List.set_cons_succ]
         refine wpAnyH_take (i:=2) (v := .pointer (some ⟨w.heap.size,7,none⟩)) rfl (by kernel_rfl) (by kernel_rfl) (by kernel_rfl) (fun _ _ _ h=>h) (.inl ⟨by rfl,fun u hu=>by go_simp⟩) G0 ?_
         show wpAnyH Tryz.prog .any _ _ _ _ _ (Act.put _ (some 113) (.pointer (some ⟨w.heap.size,7,none⟩))) _
         simp only [Act.put,List.setIfInBounds_toArray,List.set_cons_zero,List.set_cons_succ]
         refine wpAnyH_take (i:=3) (v := .slice (some ⟨gq,oq,none⟩) rs.length c7) rfl (by kernel_rfl) (by kernel_rfl) (by kernel_rfl) (fun _ _ _ h=>h) (.inl ⟨by rfl,fun u hu=>by obtain ⟨e0,f0,f1,f2⟩:=hCE u hu; go_simp⟩) G0 ?_
         show wpAnyH Tryz.prog .any _ _ _ _ _ (Act.put _ (some 114) (.slice (some ⟨gq,oq,none⟩) rs.length c7)) _
         simp only [Act.put,List.setIfInBounds_toArray,List.set_cons_zero,List.set_cons_succ]
         refine wpAnyH_take (i:=4) (v := .int .i64 (k:Int)) rfl (by kernel_rfl) (by kernel_rfl) (by kernel_rfl) (fun _ _ _ h=>h) (.inl ⟨by rfl,fun u hu=>by go_simp⟩) G0 ?_
         show wpAnyH Tryz.prog .any _ _ _ _ _ (Act.put _ (some 115) (.int .i64 (k:Int))) _
         simp only [Act.put,List.setIfInBounds_toArray,List.set_cons_zero,List.set_cons_succ]
         refine wpAnyH_take (i:=5) (v := .pointer (some ⟨gq,oq + k * 3,none⟩)) rfl (by kernel_rfl) (by kernel_rfl) (by kernel_rfl) (fun _ _ _ h=>h) (.inl ⟨by rfl,fun u hu=>by go_simp⟩) G0 ?_
         show wpAnyH Tryz.prog .any _ _ _ _ _ (Act.put _ (some 116) (.pointer (some ⟨gq,oq + k * 3,none⟩))) _
         simp only [Act.put,List.setIfInBounds_toArray,List.set_cons_zero,List.set_cons_succ]
         refine wpAnyH_take (i:=6) (v := .pointer (some ⟨gq,oq + k * 3,none⟩)) rfl (by kernel_rfl) (by kernel_rfl) (by kernel_rfl) (fun _ _ _ h=>h) (.inl ⟨by rfl,fun u hu=>by go_simp⟩) G0 ?_
         show wpAnyH Tryz.prog .any _ _ _ _ _ (Act.put _ (some 117) (.pointer (some ⟨gq,oq + k * 3,none⟩))) _
         simp only [Act.put,List.setIfInBounds_toArray,List.set_cons_zero,List.set_cons_succ]
         refine wpAnyH_take (i:=7) (v := .int .i64 x.fn) rfl (by kernel_rfl) (by kernel_rfl) (by kernel_rfl) (fun _ _ _ h=>h) (.inl ⟨by rfl,fun u hu=>by obtain ⟨e0,f0,f1,f2⟩:=hCE u hu; go_simp⟩) G0 ?_
         show wpAnyH Tryz.prog .any _ _ _ _ _ (Act.put _ (some 118) (.int .i64 x.fn)) _
         simp only [Act.put,List.setIfInBounds_toArray,List.set_cons_zero,List.set_cons_succ]
         refine wpAnyH_take (i:=8) (v := .pointer (some ⟨w.heap.size,7,none⟩)) rfl (by kernel_rfl) (by kernel_rfl) (by kernel_rfl) (fun _ _ _ h=>h) (.inl ⟨by rfl,fun u hu=>by go_simp⟩) G0 ?_
         show wpAnyH Tryz.prog .any _ _ _ _ _ (Act.put _ (some 119) (.pointer (some ⟨w.heap.size,7,none⟩))) _
         simp only [Act.put,List.setIfInBounds_toArray,List.set_cons_zero,List.set_cons_succ]
         refine wpAnyH_take (i:=9) (v := .slice (some ⟨gq,oq,none⟩) rs.length c7) rfl (by kernel_rfl) (by kernel_rfl) (by kernel_rfl) (fun _ _ _ h=>h) (.inl ⟨by rfl,fun u hu=>by obtain ⟨e0,f0,f1,f2⟩:=hCE u hu; go_simp⟩) G0 ?_
         show wpAnyH Tryz.prog .any _ _ _ _ _ (Act.put _ (some 120) (.slice (some ⟨gq,oq,none⟩) rs.length c7)) _
         simp only [Act.put,List.setIfInBounds_toArray,List.set_cons_zero,List.set_cons_succ]
         refine wpAnyH_take (i:=10) (v := .int .i64 (k:Int)) rfl (by kernel_rfl) (by kernel_rfl) (by kernel_rfl) (fun _ _ _ h=>h) (.inl ⟨by rfl,fun u hu=>by go_simp⟩) G0 ?_
         show wpAnyH Tryz.prog .any _ _ _ _ _ (Act.put _ (some 121) (.int .i64 (k:Int))) _
         simp only [Act.put,List.setIfInBounds_toArray,List.set_cons_zero,List.set_cons_succ]
         refine wpAnyH_take (i:=11) (v := .pointer (some ⟨gq,oq + k * 3,none⟩)) rfl (by kernel_rfl) (by kernel_rfl) (by kernel_rfl) (fun _ _ _ h=>h) (.inl ⟨by rfl,fun u hu=>by go_simp⟩) G0 ?_
         show wpAnyH Tryz.prog .any _ _ _ _ _ (Act.put _ (some 122) (.pointer (some ⟨gq,oq + k * 3,none⟩))) _
         simp only [Act.put,List.setIfInBounds_toArray,List.set_cons_zero,List.set_cons_succ]
         refine wpAnyH_take (i:=12) (v := .pointer (some ⟨gq,oq + k * 3 + 1,none⟩)) rfl (by kernel_rfl) (by kernel_rfl) (by kernel_rfl) (fun _ _ _ h=>h) (.inl ⟨by rfl,fun u hu=>by go_simp⟩) G0 ?_
         show wpAnyH Tryz.prog .any _ _ _ _ _ (Act.put _ (some 123) (.pointer (some ⟨gq,oq + k * 3 + 1,none⟩))) _
         simp only [Act.put,List.setIfInBounds_toArray,List.set_cons_zero,List.set_cons_succ]
         refine wpAnyH_take (i:=13) (v := .int .i64 x.place) rfl (by kernel_rfl) (by kernel_rfl) (by kernel_rfl) (fun _ _ _ h=>h) (.inl ⟨by rfl,fun u hu=>by obtain ⟨e0,f0,f1,f2⟩:=hCE u hu; go_simp⟩) G0 ?_
         show wpAnyH Tryz.prog .any _ _ _ _ _ (Act.put _ (some 124) (.int .i64 x.place)) _
         simp only [Act.put,List.setIfInBounds_toArray,List.set_cons_zero,List.set_cons_succ]
         refine wpAnyH_take (i:=14) (v := .pointer (some ⟨w.heap.size,7,none⟩)) rfl (by kernel_rfl) (by kernel_rfl) (by kernel_rfl) (fun _ _ _ h=>h) (.inl ⟨by rfl,fun u hu=>by go_simp⟩) G0 ?_
         show wpAnyH Tryz.prog .any _ _ _ _ _ (Act.put _ (some 125) (.pointer (some ⟨w.heap.size,7,none⟩))) _
         simp only [Act.put,List.setIfInBounds_toArray,List.set_cons_zero,List.set_cons_succ]
         refine wpAnyH_take (i:=15) (v := .slice (some ⟨gq,oq,none⟩) rs.length c7) rfl (by kernel_rfl) (by kernel_rfl) (by kernel_rfl) (fun _ _ _ h=>h) (.inl ⟨by rfl,fun u hu=>by obtain ⟨e0,f0,f1,f2⟩:=hCE u hu; go_simp⟩) G0 ?_
         show wpAnyH Tryz.prog .any _ _ _ _ _ (Act.put _ (some 126) (.slice (some ⟨gq,oq,none⟩) rs.length c7)) _
         simp only [Act.put,List.setIfInBounds_toArray,List.set_cons_zero,List.set_cons_succ]
         refine wpAnyH_take (i:=16) (v := .int .i64 (k:Int)) rfl (by kernel_rfl) (by kernel_rfl) (by kernel_rfl) (fun _ _ _ h=>h) (.inl ⟨by rfl,fun u hu=>by go_simp⟩) G0 ?_
         show wpAnyH Tryz.prog .any _ _ _ _ _ (Act.put _ (some 127) (.int .i64 (k:Int))) _
         simp only [Act.put,List.setIfInBounds_toArray,List.set_cons_zero,List.set_cons_succ]
         refine wpAnyH_take (i:=17) (v := .pointer (some ⟨gq,oq + k * 3,none⟩)) rfl (by kernel_rfl) (by kernel_rfl) (by kernel_rfl) (fun _ _ _ h=>h) (.inl ⟨by rfl,fun u hu=>by go_simp⟩) G0 ?_
         show wpAnyH Tryz.prog .any _ _ _ _ _ (Act.put _ (some 128) (.pointer (some ⟨gq,oq + k * 3,none⟩))) _
         simp only [Act.put,List.setIfInBounds_toArray,List.set_cons_zero,List.set_cons_succ]
         refine wpAnyH_take (i:=18) (v := .pointer (some ⟨gq,oq + k * 3 + 2,none⟩)) rfl (by kernel_rfl) (by kernel_rfl) (by kernel_rfl) (fun _ _ _ h=>h) (.inl ⟨by rfl,fun u hu=>by go_simp⟩) G0 ?_
         show wpAnyH Tryz.prog .any _ _ _ _ _ (Act.put _ (some 129) (.pointer (some ⟨gq,oq + k * 3 + 2,none⟩))) _
         simp only [Act.put,List.setIfInBounds_toArray,List.set_cons_zero,List.set_cons_succ]
         refine wpAnyH_take (i:=19) (v := .int .i64 x.sym) rfl (by kernel_rfl) (by kernel_rfl) (by kernel_rfl) (fun _ _ _ h=>h) (.inl ⟨by rfl,fun u hu=>by obtain ⟨e0,f0,f1,f2⟩:=hCE u hu; go_simp⟩) G0 ?_
         show wpAnyH Tryz.prog .any _ _ _ _ _ (Act.put _ (some 130) (.int .i64 x.sym)) _
         simp only [Act.put,List.setIfInBounds_toArray,List.set_cons_zero,List.set_cons_succ]
         refine wpAnyH_take (i:=20) (v := .agg #[.int .i64 x.fn,.int .i64 x.place,.int .i64 x.sym]) rfl (by kernel_rfl) (by kernel_rfl) (by kernel_rfl) (fun _ _ _ h=>h) (.inl ⟨by rfl,fun u hu=>by go_simp⟩) G0 ?_
         show wpAnyH Tryz.prog .any _ _ _ _ _ (Act.put _ (some 131) (.agg #[.int .i64 x.fn,.int .i64 x.place,.int .i64 x.sym])) _
         simp only [Act.put,List.setIfInBounds_toArray,List.set_cons_zero,List.set_cons_succ]
         refine wpAnyH_ready (rs:=[1,21]) (by kernel_rfl) (by simp) ?_
         refine AllReadyH.cons rfl (fun K hK=>?_) (AllReadyH.cons rfl (fun K hK=>?_) AllReadyH.nil)
         all_goals first
          | (
              go_simp
              refine hK _ _ G0 (fun _=>?_)
              clear hK K
              refine wpAnyH_ready (rs:=[21]) (by kernel_rfl) (by simp) ?_
              refine AllReadyH.cons rfl (fun K hK=>?_) AllReadyH.nil
              go_simp
              refine hK _ _ ⟨Below.heap_alloc _ _ _ hsz0,Below.heap_alloc _ _ _ hgq⟩ (fun _=>?_)
              clear hK K)
          | (
              go_simp
              refine hK _ _ ⟨Below.heap_alloc _ _ _ hsz0,Below.heap_alloc _ _ _ hgq⟩ (fun _=>?_)
              clear hK K
              have q9:(wr.alloc (.cells #[.int .i64 x.fn,.int .i64 x.place,.int .i64 x.sym] 83)).cell? ⟨w.heap.size + 1 + 1,7,none⟩ = some (.slice la acc.length lc):=by rw [cell_of_row _ _ 7 _ _ _ ((Below.heap_alloc wr (.cells #[.int .i64 x.fn,.int .i64 x.place,.int .i64 x.sym] 83) (w.heap.size + 1 + 1) hsz2).trans hV)]; rfl
              refine wpAnyH_ready (rs:=[1]) (by kernel_rfl) (by simp) ?_
              refine AllReadyH.cons rfl (fun K hK=>?_) AllReadyH.nil
              go_simp
              refine hK _ _ ⟨Below.heap_alloc _ _ _ hsz0,Below.heap_alloc _ _ _ hgq⟩ (fun _=>?_)
              clear hK K q9)
         all_goals
          refine wpAnyH_ready (rs:=[22]) (by kernel_rfl) (by simp) ?_
          refine AllReadyH.cons rfl (fun K hK=>?_) AllReadyH.nil
          refine step_rowG (bytes:=24) (cRawK 3) (by rfl) (.tmp 112) (.tmp 132) 33 (by rfl) Tryz.underlying33 (by kernel_rfl) (by decide) _ acc (by rfl) (by exact hrowA.wk (cRawK 3) ((Wire.Kept.refl (fun _=>False) _).drew) (fun _ _ h=>h)) [.int .i64 x.fn,.int .i64 x.place,.int .i64 x.sym] [.int .i64 x.fn,.int .i64 x.place,.int .i64 x.sym] ⟨wr.heap.size,0,none⟩ 1 (by rfl) (by exact hcn) (by exact ⟨rfl,rfl,hone.2.2⟩) (by unfold maxLen; omega) (by omega) (by exact hzA) ?_
          intro g7 cap7 w7 hr7 hg7
          have hkA:∀ z,z < wr.heap.size → (∀ y,(Value.slice la acc.length lc).ownBlock = some y → z ≠ y) → w7.heap[z]? = wr.heap[z]?:=fun z hz hn=>(hg7.block z (by show z < (wr.alloc (.cells #[.int .i64 x.fn,.int .i64 x.place,.int .i64 x.sym] 83)).heap.size; simp; omega) (fun e=>hn z e.symm rfl)).trans (Below.heap_alloc wr (.cells #[.int .i64 x.fn,.int .i64 x.place,.int .i64 x.sym] 83) z hz)
          have hV7:w7.heap[w.heap.size + 1 + 1]? = some (.cells #[.string (str m),.slice a1 ts.length c1,.slice a2 xs.length c2,(.slice la0 nn0 lc0),(.slice la1 nn1 lc1),.slice a5 es.length c5,(.slice la2 nn2 lc2),(.slice la acc.length lc)] 35 (0,0)):=(hkA _ hsz2 (fun y hy=>by have:=(hob0 y hy).1; omega)).trans hV
          have c7:w7.cell? ⟨w.heap.size + 1 + 1,7,none⟩ = some (.slice la acc.length lc):=by rw [cell_of_row _ _ 7 _ _ _ hV7]; rfl
          have f7:=frozen_of_row w7 (w.heap.size + 1 + 1) 7 _ _ hV7
          have G7:(w7.heap[w.heap.size]? = wr.heap[w.heap.size]? ∧ w7.heap[gq]? = wr.heap[gq]?):=⟨hkA _ hsz0 (fun y hy=>by have:=(hob0 y hy).1; omega),hkA _ hgq (fun y hy=>by have:=(hob0 y hy).1; omega)⟩
          refine hK _ _ G7 (fun _=>?_)
          clear hK K
          refine wpAnyH_take (i:=23) (v := .pointer (some ⟨w.heap.size + 1 + 1,7,none⟩)) rfl (by kernel_rfl) (by kernel_rfl) (by kernel_rfl) (fun _ _ _ h=>h) (.inl ⟨by rfl,fun u hu=>by go_simp⟩) G7 ?_
          show wpAnyH Tryz.prog .any _ _ _ _ _ (Act.put _ (some 134) (.pointer (some ⟨w.heap.size + 1 + 1,7,none⟩))) _
          simp only [Act.put,List.setIfInBounds_toArray]
          refine wpAnyH_ready (rs:=[24]) (by kernel_rfl) (by simp) ?_
          refine AllReadyH.cons rfl (fun K hK=>?_) AllReadyH.nil
          go_simp
          have hV8:(w7.setCell ⟨w.heap.size + 1 + 1,7,none⟩ (.slice (some ⟨g7,0,none⟩) (acc.length + 1) cap7)).heap[w.heap.size + 1 + 1]? = some (.cells #[.string (str m),.slice a1 ts.length c1,.slice a2 xs.length c2,(.slice la0 nn0 lc0),(.slice la1 nn1 lc1),.slice a5 es.length c5,(.slice la2 nn2 lc2),(.slice (some ⟨g7,0,none⟩) (acc.length + 1) cap7)] 35 (0,0)):=heap_setCell_same w7 (w.heap.size + 1 + 1) 7 _ _ (.slice (some ⟨g7,0,none⟩) (acc.length + 1) cap7) hV7
          have K8:=Wire.kept_set w7 (w.heap.size + 1 + 1) 7 (.slice (some ⟨g7,0,none⟩) (acc.length + 1) cap7)
          have K7:Wire.Kept (fun z=>(Value.slice la acc.length lc).ownBlock = some z) wr w7:=(wk_alloc wr (.cells #[.int .i64 x.fn,.int .i64 x.place,.int .i64 x.sym] 83)).trans (U:=fun z=>(Value.slice la acc.length lc).ownBlock = some z) (show Wire.Kept (fun z=>(Value.slice la acc.length lc).ownBlock = some z) (wr.alloc (.cells #[.int .i64 x.fn,.int .i64 x.place,.int .i64 x.sym] 83)) w7 from ⟨hg7.os,hg7.tape,hg7.output,hg7.size,fun b hb hn=>hg7.block b hb (fun e=>hn e.symm)⟩) (fun _ _ h=>h.elim) (fun _ _ h=>h)
          have s7:=K7.size
          have hr8:RowG (cRaw 3) 83 3 v2.heap.size (w7.setCell ⟨w.heap.size + 1 + 1,7,none⟩ (.slice (some ⟨g7,0,none⟩) (acc.length + 1) cap7)) (.slice (some ⟨g7,0,none⟩) (acc.length + 1) cap7) (acc ++ [[.int .i64 x.fn,.int .i64 x.place,.int .i64 x.sym]]):=hr7.wk (cRawK 3) K8 (fun b hb e=>by omega)
          have Kr8:Wire.Kept (fun x=>x = w.heap.size + 1 + 1) v2 (w7.setCell ⟨w.heap.size + 1 + 1,7,none⟩ (.slice (some ⟨g7,0,none⟩) (acc.length + 1) cap7)):=(Kr.trans K7 (U:=fun x=>x = w.heap.size + 1 + 1) (fun _ _ h=>h) (fun z hz h=>by have:=(hob0 z h).1; omega)).trans K8 (U:=fun x=>x = w.heap.size + 1 + 1) (fun _ _ h=>h) (fun _ _ h=>h)
          refine hK _ _ ⟨(K8.block _ (by omega) (by omega)).trans (hkA _ hsz0 (fun y hy=>by have:=(hob0 y hy).1; omega)),(K8.block _ (by omega) (by omega)).trans (hkA _ hgq (fun y hy=>by have:=(hob0 y hy).1; omega))⟩ (fun _=>?_)
          clear hK K hr7 hg7 c7 f7 K7 K8 hV7
          refine wpAnyH_done (by kernel_rfl) ?_ _
          go_wp2
          go_roundg (rs.length - (k + 1))
          case measure=>omega
          case rel=>exact ⟨k + 1,_,acc ++ [[.int .i64 x.fn,.int .i64 x.place,.int .i64 x.sym]],by omega,by go_num,hpr',by have:=hak.out; rw [hid_iff,List.length_append,List.length_singleton,this],by simpa using hr8,hV8,Kr8⟩
        ·have hki:¬ (k:Int) < (rs.length:Int):=by omega
         have hR3:RwR 3 cRl (fun g=>F g ∨ (w.heap.size + 1 + 1 + 1 ≤ g ∧ g < wr.heap.size)) wr (.slice la acc.length lc) rs:=rw_raw cRl_stay (hrow.rw (cRawK 3)) (by have:=hak.out; omega) hpr.out (fun g hg=>⟨.inl hg,by have:=hFH.out g hg; exact (Kr.block g (by omega) (by omega)).trans (HB.out g this)⟩) (fun g hg => .inr ⟨by have:=hg.1; omega,hg.2⟩)
         have HB':Hid (∀ g,g < w.heap.size → wr.heap[g]? = w.heap[g]?):=fun g hg=>(Kr.block g (by omega) (by omega)).trans (HB.out g hg)
         have hA':=wk_cell Kr hA (by omega)
         have hR0:=hR0.frame cGl_stay (G:=fun g=>F g ∨ (w.heap.size + 1 + 1 + 1 ≤ g ∧ g < wr.heap.size)) (w':=wr) (fun g hg=>⟨hg.imp id (fun h=>⟨h.1,by omega⟩),Kr.block g (by rcases hg with h | h; have:=hFH.out g h; omega; omega) (by rcases hg with h | h; have:=hFH.out g h; omega; omega)⟩)
         have hR1:=hR1.frame cFn_stay (G:=fun g=>F g ∨ (w.heap.size + 1 + 1 + 1 ≤ g ∧ g < wr.heap.size)) (w':=wr) (fun g hg=>⟨hg.imp id (fun h=>⟨h.1,by omega⟩),Kr.block g (by rcases hg with h | h; have:=hFH.out g h; omega; omega) (by rcases hg with h | h; have:=hFH.out g h; omega; omega)⟩)
         have hR2:=hR2.frame cSy_stay (G:=fun g=>F g ∨ (w.heap.size + 1 + 1 + 1 ≤ g ∧ g < wr.heap.size)) (w':=wr) (fun g hg=>⟨hg.imp id (fun h=>⟨h.1,by omega⟩),Kr.block g (by rcases hg with h | h; have:=hFH.out g h; omega; omega) (by rcases hg with h | h; have:=hFH.out g h; omega; omega)⟩)
         have hb':Below w.heap.size w wr:=hb.trans (Kr.below (B:=w.heap.size) (by omega) (fun x hx h=>by omega))
         clear hb HB hA Kr hrow hpr hob0
         replace hb:=hb'
         replace HB:=HB'
         replace hA:=hA'
         rename World=>v3
         generalize hlv:(Value.slice la acc.length lc) = lv3 at *
         obtain ⟨la3,nn3,lc3,e3⟩:∃ a n c,lv3 = .slice a n c:=⟨_,_,_,hlv.symm⟩
         clear hlv
         subst e3
         clear hak
         obtain ⟨d0,d1,d2,d3,d4,d5,d6,d7⟩:=cells8 hV
         have KR:=wk_setRow v3 (w.heap.size + 1) #[.string (str m),.slice a1 ts.length c1,.slice a2 xs.length c2,(.slice la0 nn0 lc0),(.slice la1 nn1 lc1),.slice a5 es.length c5,(.slice la2 nn2 lc2),(.slice la3 nn3 lc3)]
         have hs3:=hb.size
         have hbE:Below w.heap.size w (v3.setRow (w.heap.size + 1) #[.string (str m),.slice a1 ts.length c1,.slice a2 xs.length c2,(.slice la0 nn0 lc0),(.slice la1 nn1 lc1),.slice a5 es.length c5,(.slice la2 nn2 lc2),(.slice la3 nn3 lc3)]):=hb.trans (KR.below (B:=w.heap.size) (by omega) (fun x hx h=>by omega))
         have hFr:∀ g,(F g ∨ (w.heap.size + 1 + 1 + 1 ≤ g ∧ g < v3.heap.size)) → (F g ∨ Fr w (v3.setRow (w.heap.size + 1) #[.string (str m),.slice a1 ts.length c1,.slice a2 xs.length c2,(.slice la0 nn0 lc0),(.slice la1 nn1 lc1),.slice a5 es.length c5,(.slice la2 nn2 lc2),(.slice la3 nn3 lc3)]) g) ∧ (v3.setRow (w.heap.size + 1) #[.string (str m),.slice a1 ts.length c1,.slice a2 xs.length c2,(.slice la0 nn0 lc0),(.slice la1 nn1 lc1),.slice a5 es.length c5,(.slice la2 nn2 lc2),(.slice la3 nn3 lc3)]).heap[g]? = v3.heap[g]?:=fun g hg=>by
          have:=KR.size
          refine ⟨hg.imp id (fun h=>⟨by omega,by omega⟩),KR.block g ?_ ?_⟩
          ·rcases hg with h | h
           ·have:=hFH.out g h
            omega
           ·omega
          ·rcases hg with h | h
           ·have:=hFH.out g h
            omega
           ·omega
         have hF0:∀ g,F g → (F g ∨ Fr w (v3.setRow (w.heap.size + 1) #[.string (str m),.slice a1 ts.length c1,.slice a2 xs.length c2,(.slice la0 nn0 lc0),(.slice la1 nn1 lc1),.slice a5 es.length c5,(.slice la2 nn2 lc2),(.slice la3 nn3 lc3)]) g) ∧ (v3.setRow (w.heap.size + 1) #[.string (str m),.slice a1 ts.length c1,.slice a2 xs.length c2,(.slice la0 nn0 lc0),(.slice la1 nn1 lc1),.slice a5 es.length c5,(.slice la2 nn2 lc2),(.slice la3 nn3 lc3)]).heap[g]? = w.heap[g]?:=fun g hg=>⟨.inl hg,(hFr g (.inl hg)).2.trans (HB.out g (hFH.out g hg))⟩
         have hE:ObR (fun g=>F g ∨ Fr w (v3.setRow (w.heap.size + 1) #[.string (str m),.slice a1 ts.length c1,.slice a2 xs.length c2,(.slice la0 nn0 lc0),(.slice la1 nn1 lc1),.slice a5 es.length c5,(.slice la2 nn2 lc2),(.slice la3 nn3 lc3)]) g) (v3.setRow (w.heap.size + 1) #[.string (str m),.slice a1 ts.length c1,.slice a2 xs.length c2,(.slice la0 nn0 lc0),(.slice la1 nn1 lc1),.slice a5 es.length c5,(.slice la2 nn2 lc2),(.slice la3 nn3 lc3)]) ⟨.slice a1 ts.length c1,.slice a2 xs.length c2,.slice la0 nn0 lc0,.slice la1 nn1 lc1,.slice a5 es.length c5,.slice la2 nn2 lc2,.slice la3 nn3 lc3⟩ ⟨m,ts,xs,gs,fs,es,ss,rs⟩:=⟨hH.out.types.frame hF0,hH.out.texts.frame hF0,hR0.frame cGl_stay hFr,hR1.frame cFn_stay hFr,hH.out.exports.frame hF0,hR2.frame cSy_stay hFr,hR3.frame cRl_stay hFr⟩
         have hQ:=hidden (show InO F ⟨m,ts,xs,gs,fs,es,ss,rs⟩ w (.returned (.agg #[.string (str m),.slice a1 ts.length c1,.slice a2 xs.length c2,(.slice la0 nn0 lc0),(.slice la1 nn1 lc1),.slice a5 es.length c5,(.slice la2 nn2 lc2),(.slice la3 nn3 lc3)])) (v3.setRow (w.heap.size + 1) #[.string (str m),.slice a1 ts.length c1,.slice a2 xs.length c2,(.slice la0 nn0 lc0),(.slice la1 nn1 lc1),.slice a5 es.length c5,(.slice la2 nn2 lc2),(.slice la3 nn3 lc3)]) from ⟨hbE,_,rfl,hE⟩)
         clear hE hFr hF0 hbE KR hb HB hH hR0 hR1 hR2 hR3 hV hO
         go_wp2_with (refine wpList_store_row rfl 35 (.tmp 2) (.tmp 135) rfl (w.heap.size + 1) #[.string (str m),.slice a1 ts.length c1,.slice a2 xs.length c2,(.slice la0 nn0 lc0),(.slice la1 nn1 lc1),.slice a5 es.length c5,(.slice la2 nn2 lc2),(.slice la3 nn3 lc3)] rfl rfl 35 #[.string ⟨#[]⟩,.slice none 0 0,.slice none 0 0,.slice none 0 0,.slice none 0 0,.slice none 0 0,.slice none 0 0,.slice none 0 0] hA szRO rfl (by kernel_rfl) ?_)
         (try simp only [Exit.inBlock,Exit.then])
         refine bodyPost_ret (results_cell_row rfl _ _ (w.heap.size + 1) 35 #[.string (str m),.slice a1 ts.length c1,.slice a2 xs.length c2,(.slice la0 nn0 lc0),(.slice la1 nn1 lc1),.slice a5 es.length c5,(.slice la2 nn2 lc2),(.slice la3 nn3 lc3)] (0,0) _ rfl (setRow_heap _ (w.heap.size + 1) _ _ 35 (0,0) hA) Tryz.underlying35 rfl szRO) rfl ?_
         exact hQ.out
end Go.Proofs.YtiiepfplommmfaaGreatDoor
