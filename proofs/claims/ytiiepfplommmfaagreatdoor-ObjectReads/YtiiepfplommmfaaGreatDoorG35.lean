/-
  The package's Decode.
  And: The document's own Decode of objects: its box and its reader in memory; one put behind those of a field; bytes that it reads.
-/
import Derived.Test.YtiiepfplommmfaaGreatDoorG34
import Derived.Test.YtiiepfplommmfaaGreatDoorG12
import Derived.Test.YtiiepfplommmfaaGreatDoorG25
namespace Go.Proofs.YtiiepfplommmfaaGreatDoor
open Go.RowKit

def obVn:ObV:=⟨.slice none 0 0,.slice none 0 0,.slice none 0 0,.slice none 0 0,.slice none 0 0,.slice none 0 0,.slice none 0 0⟩
theorem obR_n (F:Nat → Prop) (w:World):ObR F w obVn noneO :=
 ⟨ItR.nil _ _,⟨TxR.nil _ _,by rintro a n c h; simp only [obVn,Value.slice.injEq] at h; omega⟩,RwR.nil _ _ _ _,RwR.nil _ _ _ _,⟨TxR.nil _ _,by rintro a n c h; simp only [obVn,Value.slice.injEq] at h; omega⟩,RwR.nil _ _ _ _,RwR.nil _ _ _ _⟩
def DecO (l:List Nat) (w:World) (e:Ending) (w':World):Prop :=
 Below w.heap.size w w' ∧ ∃ v:ObV,e = .returned (.tuple #[obv v (decO l).2.mod,.int .i64 ((decO l).1.1:Int),.int .i64 ((decO l).1.2:Int)]) ∧ ObR (Fr w w') w' v (decO l).2
theorem resO3 {P : Program} {fn : Func} {p u v : Tmp} {ty : TypeId} (h : fn.results = #[.cell p ty, .tmp u, .tmp v]) (tmps : Array Value) (w : World) (g : Nat) (t : TypeId) (cs : Array Value) (fr : Nat × Nat) (d : TypeDesc)
  (hp:tmps.getD p undef = .pointer (some ⟨g,0,none⟩)) (hg:w.heap[g]? = some (.cells cs t fr))
  (hu:P.underlying ty = some d) (hd:(match d with | .struct _ | .array _ _=>true | _=>false) = true) (hi:(P.info? ty).map (·.size) = some cs.size) :
  (results fn tmps).run P w = .ok (.tuple #[.agg cs,tmps.getD u undef,tmps.getD v undef]) w:=by
 have hp':tmps[p]?.getD undef = .pointer (some ⟨g,0,none⟩):=by simpa using hp
 simp [results,h,hp',asAddr,run_loadVar_row w g t ty cs fr d hg hu hd hi]
set_option maxHeartbeats 1000000 in
set_option maxRecDepth 1000000 in
theorem decode_longO (a:Option Addr) (n c:Nat) (w:World) (hn:8192 < n):Calls Tryz.prog 21 #[.slice a n c] w fun e w'=>e = .returned (.tuple #[.agg #[.string ⟨#[]⟩,.slice none 0 0,.slice none 0 0,.slice none 0 0,.slice none 0 0,.slice none 0 0,.slice none 0 0,.slice none 0 0],.int .i64 3,.int .i64 0]) ∧ Below w.heap.size w w':=by
 have hni:(8192:Int) < (n:Int):=by omega
 have hr:=heap_alloc_new w (.cells #[.string ⟨#[]⟩,.slice none 0 0,.slice none 0 0,.slice none 0 0,.slice none 0 0,.slice none 0 0,.slice none 0 0,.slice none 0 0] 29)
 have hb:Below w.heap.size w (w.alloc (.cells #[.string ⟨#[]⟩,.slice none 0 0,.slice none 0 0,.slice none 0 0,.slice none 0 0,.slice none 0 0,.slice none 0 0,.slice none 0 0] 29)):=(Below.refl _ _).alloc (Nat.le_refl _) _
 go_enter Tryz.func21,Tryz.ntmps21
 go_wp2
 (try simp only [Exit.inBlock,Exit.then])
 refine bodyPost_ret (resO3 rfl _ _ w.heap.size 29 #[.string ⟨#[]⟩,.slice none 0 0,.slice none 0 0,.slice none 0 0,.slice none 0 0,.slice none 0 0,.slice none 0 0,.slice none 0 0] (0,0) _ rfl hr Tryz.underlying29 rfl szObO) rfl ?_
 exact ⟨rfl,hb⟩
theorem decO_long {l:List Nat} (h:8192 < l.length):decO l = ((3,0),noneO):=by unfold decO; rw [if_pos h]
theorem decO_bad {l:List Nat} (h:¬ 8192 < l.length) {R:Ob × Nat × Nat} (hR:objR l 0 0 = R) (h1:(Wire.rEnd l R.2.1 R.2.2).1 ≠ 0):decO l = (Wire.rEnd l R.2.1 R.2.2,noneO):=by
 subst hR
 unfold decO
 rw [if_neg h,if_pos h1]
theorem decO_wrong {l:List Nat} (h:¬ 8192 < l.length) {R:Ob × Nat × Nat} (hR:objR l 0 0 = R) (h1:(Wire.rEnd l R.2.1 R.2.2).1 = 0) (h2:(rightO R.1).1 ≠ 0):decO l = (((rightO R.1).1,0),noneO):=by
 subst hR
 unfold decO
 rw [if_neg h,if_neg (fun e=>e h1),if_pos h2]
theorem decO_good {l:List Nat} (h:¬ 8192 < l.length) {R:Ob × Nat × Nat} (hR:objR l 0 0 = R) (h1:(Wire.rEnd l R.2.1 R.2.2).1 = 0) (h2:(rightO R.1).1 = 0):decO l = ((0,0),R.1):=by
 subst hR
 unfold decO
 rw [if_neg h,if_neg (fun e=>e h1),if_neg (fun e=>e h2)]
set_option maxHeartbeats 4000000 in
set_option maxRecDepth 1000000 in
theorem decodeO (v:Value) (b0:Nat) (l:List Nat) (w:World) (hl:l.length ≤ 140737488355328) (h256:∀ x ∈ l,x < 256) (hv:Wire.Rd w b0 v l):Calls Tryz.prog 21 #[v] w (DecO l w):=by
 obtain ⟨va,vc,rfl⟩:=hv.shape
 by_cases hlen:8192 < l.length
 ·refine (decode_longO va l.length vc w hlen).mono ?_
  rintro e w' ⟨rfl,hb⟩
  unfold DecO
  rw [decO_long hlen]
  exact ⟨hb,obVn,rfl,obR_n _ _⟩
 have hni:¬ (8192:Int) < (l.length:Int):=by omega
 have hA1:=World.alloc_heap_new w (.cells #[.string ⟨#[]⟩,.slice none 0 0,.slice none 0 0,.slice none 0 0,.slice none 0 0,.slice none 0 0,.slice none 0 0,.slice none 0 0] 29)
 have kA:=wk_alloc w (.cells #[.string ⟨#[]⟩,.slice none 0 0,.slice none 0 0,.slice none 0 0,.slice none 0 0,.slice none 0 0,.slice none 0 0,.slice none 0 0] 29)
 have hnr:=Wire.newreader (.slice va l.length vc) b0 l _ hl (hv.kept kA (fun h=>h))
 have HE:∀ R,objR l 0 0 = R → (Wire.rEnd l R.2.1 R.2.2).1 ≠ 0 → decO l = (Wire.rEnd l R.2.1 R.2.2,noneO):=fun R hR h1=>decO_bad hlen hR h1
 have HW:∀ R,objR l 0 0 = R → (Wire.rEnd l R.2.1 R.2.2).1 = 0 → (rightO R.1).1 ≠ 0 → decO l = (((rightO R.1).1,0),noneO):=fun R hR h1 h2=>decO_wrong hlen hR h1 h2
 have HG:∀ R,objR l 0 0 = R → (Wire.rEnd l R.2.1 R.2.2).1 = 0 → (rightO R.1).1 = 0 → decO l = ((0,0),R.1):=fun R hR h1 h2=>decO_good hlen hR h1 h2
 have hok:=obj_ok l 0 0
 have hro:=fun u b g (hu:Wire.RIs u b g l 0 0)=>robj b g l 0 0 u hl h256 (Nat.zero_le _) hu
 unfold RdE at hro
 generalize hX:objR l 0 0 = X at *
 obtain ⟨o,p1,y1⟩:=X
 have HE:=hidden (HE _ rfl)
 have HW:=hidden (HW _ rfl)
 have HG:=hidden (HG _ rfl)
 simp only at hro hok HE HW HG
 unfold DecO
 generalize decO l = RES at *
 clear hX hlen hv
 go_enter Tryz.func21,Tryz.ntmps21
 go_wp2_with fail
 generalize w.alloc (.cells #[.string ⟨#[]⟩,.slice none 0 0,.slice none 0 0,.slice none 0 0,.slice none 0 0,.slice none 0 0,.slice none 0 0,.slice none 0 0] 29) = w1 at *
 refine hnr.mono ?_
 rintro e w2 ⟨b,g,rfl,hr2,hb2,hg2,K2⟩
 have hz1:w.heap.size < w1.heap.size:=(Array.getElem?_eq_some_iff.1 hA1).1
 have hA2:=(K2.block w.heap.size hz1 (fun h=>h)).trans hA1
 have K2':=kA.trans K2 (U:=fun _=>False) (fun _ _ h=>h) (fun _ _ h=>h)
 have hs2:=K2.size
 have hbl:=hr2.lt
 have hgl:=hr2.gt
 have kB:=wk_alloc w2 (.cells #[.pointer (some ⟨b,0,none⟩)] 115)
 have hB3:=World.alloc_heap_new w2 (.cells #[.pointer (some ⟨b,0,none⟩)] 115)
 have hr3:=hr2.kept kB (fun h=>h) (fun h=>h)
 have hA3:=(kB.block w.heap.size (by omega) (fun h=>h)).trans hA2
 have K3:=K2'.trans kB (U:=fun _=>False) (fun _ _ h=>h) (fun _ _ h=>h)
 have q3:(w2.alloc (.cells #[.pointer (some ⟨b,0,none⟩)] 115)).cell? ⟨w2.heap.size,0,none⟩ = some (.pointer (some ⟨b,0,none⟩)):=by rw [cell_of_row _ _ 0 _ _ _ hB3]; rfl
 have ho:=hro _ b g hr3
 unfold rdv at ho
 clear hnr hro hr2 K2 kA K2' kB hA1 hA2
 go_wp2_with fail
 generalize w2.alloc (.cells #[.pointer (some ⟨b,0,none⟩)] 115) = w3 at *
 refine ho.mono ?_
 rintro e w4 ⟨cs,rfl,hC4,hr4,K4⟩
 obtain ⟨⟨v1,v2,v3,v4,v5,v6,v7⟩,rfl,hO4⟩:=hC4
 obtain ⟨m,ts,xs,gs,fs,es,ss,rs⟩:=o
 unfold ObV.cells
 obtain ⟨a1,c1,e1⟩:=hO4.types.shape
 obtain ⟨a2,c2,e2⟩:=hO4.texts.1.shape
 obtain ⟨a3,c3,e3⟩:=hO4.globals.shape
 obtain ⟨a4,c4,e4⟩:=hO4.funs.shape
 obtain ⟨a5,c5,e5⟩:=hO4.exports.1.shape
 obtain ⟨a6,c6,e6⟩:=hO4.symbols.shape
 obtain ⟨a7,c7,e7⟩:=hO4.relocs.shape
 simp only at e1 e2 e3 e4 e5 e6 e7
 subst e1 e2 e3 e4 e5 e6 e7
 have hz3:w2.heap.size < w3.heap.size:=(Array.getElem?_eq_some_iff.1 hB3).1
 have hA4:=(K4.block w.heap.size (by omega) (by omega)).trans hA3
 have hB4:=(K4.block w2.heap.size hz3 (by omega)).trans hB3
 have hs4:=K4.size
 have K4':Wire.Kept (fun x=>w.heap.size < x) w w4:=K3.trans K4 (U:=fun x=>w.heap.size < x) (fun _ _ h=>h.elim) (fun x hx h=>by omega)
 have kC:=wk_alloc w4 (.cells #[.string (str m),.slice a1 ts.length c1,.slice a2 xs.length c2,.slice a3 gs.length c3,.slice a4 fs.length c4,.slice a5 es.length c5,.slice a6 ss.length c6,.slice a7 rs.length c7] 29)
 have hC5:=World.alloc_heap_new w4 (.cells #[.string (str m),.slice a1 ts.length c1,.slice a2 xs.length c2,.slice a3 gs.length c3,.slice a4 fs.length c4,.slice a5 es.length c5,.slice a6 ss.length c6,.slice a7 rs.length c7] 29)
 have hr5:=hr4.kept kC (fun h=>h) (fun h=>h)
 have hA5:=(kC.block w.heap.size (by omega) (fun h=>h)).trans hA4
 have hB5:=(kC.block w2.heap.size (by omega) (fun h=>h)).trans hB4
 have K5:=K4'.trans kC (U:=fun x=>w.heap.size < x) (fun _ _ h=>h) (fun _ _ h=>h.elim)
 have hO5:ObR (fun z=>w2.heap.size < z ∧ z < (w4.alloc (.cells #[.string (str m),.slice a1 ts.length c1,.slice a2 xs.length c2,.slice a3 gs.length c3,.slice a4 fs.length c4,.slice a5 es.length c5,.slice a6 ss.length c6,.slice a7 rs.length c7] 29)).heap.size) (w4.alloc (.cells #[.string (str m),.slice a1 ts.length c1,.slice a2 xs.length c2,.slice a3 gs.length c3,.slice a4 fs.length c4,.slice a5 es.length c5,.slice a6 ss.length c6,.slice a7 rs.length c7] 29)) ⟨.slice a1 ts.length c1,.slice a2 xs.length c2,.slice a3 gs.length c3,.slice a4 fs.length c4,.slice a5 es.length c5,.slice a6 ss.length c6,.slice a7 rs.length c7⟩ ⟨m,ts,xs,gs,fs,es,ss,rs⟩:=hO4.frame fun z hz=>⟨⟨by have:=hz.1; omega,by have:=hz.2; simp; omega⟩,kC.block z hz.2 (fun h=>h)⟩
 have q5:(w4.alloc (.cells #[.string (str m),.slice a1 ts.length c1,.slice a2 xs.length c2,.slice a3 gs.length c3,.slice a4 fs.length c4,.slice a5 es.length c5,.slice a6 ss.length c6,.slice a7 rs.length c7] 29)).cell? ⟨w2.heap.size,0,none⟩ = some (.pointer (some ⟨b,0,none⟩)):=by rw [cell_of_row _ _ 0 _ _ _ hB5]; rfl
 have hend:=Wire.rend b g l p1 y1 _ hl hr5
 clear ho hr3 hr4 K3 K4 K4' hA3 hA4 hB3 hB4 q3 hO4 kC
 go_wp2_with fail
 generalize w4.alloc (.cells #[.string (str m),.slice a1 ts.length c1,.slice a2 xs.length c2,.slice a3 gs.length c3,.slice a4 fs.length c4,.slice a5 es.length c5,.slice a6 ss.length c6,.slice a7 rs.length c7] 29) = w5 at *
 refine hend.mono ?_
 rintro e w6 ⟨rfl,K6⟩
 have hz5:w4.heap.size < w5.heap.size:=(Array.getElem?_eq_some_iff.1 hC5).1
 have hA:=(K6.block w.heap.size (by omega) (fun h=>h)).trans hA5
 have hC6:=(K6.block w4.heap.size hz5 (fun h=>h)).trans hC5
 have hs6:=K6.size
 have K6':=K5.trans K6 (U:=fun x=>w.heap.size < x) (fun _ _ h=>h) (fun _ _ h=>h.elim)
 have hO6:ObR (fun z=>w2.heap.size < z ∧ z < w6.heap.size) w6 ⟨.slice a1 ts.length c1,.slice a2 xs.length c2,.slice a3 gs.length c3,.slice a4 fs.length c4,.slice a5 es.length c5,.slice a6 ss.length c6,.slice a7 rs.length c7⟩ ⟨m,ts,xs,gs,fs,es,ss,rs⟩:=hO5.frame fun z hz=>⟨⟨hz.1,Nat.lt_of_lt_of_le hz.2 hs6⟩,K6.block z hz.2 (fun h=>h)⟩
 clear hend K6 K5 hA5 hB5 hC5 hO5 hr5 q5
 generalize Wire.rEnd l p1 y1 = EN at *
 obtain ⟨yn,yp⟩:=EN
 simp only at HE HW HG ⊢
 by_cases hy:yn = 0
 ·have HW:=hidden (HW.out hy)
  have HG:=hidden (HG.out hy)
  clear HE
  subst hy
  obtain ⟨d0,d1,d2,d3,d4,d5,d6,d7⟩:=cells8 hC6
  have hri:=right14 (fun z=>w2.heap.size < z ∧ z < w6.heap.size) ⟨.slice a1 ts.length c1,.slice a2 xs.length c2,.slice a3 gs.length c3,.slice a4 fs.length c4,.slice a5 es.length c5,.slice a6 ss.length c6,.slice a7 rs.length c7⟩ ⟨m,ts,xs,gs,fs,es,ss,rs⟩ w6 hO6 (fun z hz=>hz.2) hok
  unfold TwoB obv at hri
  simp only at hri
  generalize rightO ⟨m,ts,xs,gs,fs,es,ss,rs⟩ = RO at *
  obtain ⟨rn,rk⟩:=RO
  simp only at hri HW HG
  go_wp2_with fail
  refine hri.mono ?_
  rintro e w7 ⟨rfl,hb7⟩
  have K7:=wk_below hb7
  have hs7:=hb7.size
  have hA:=(K7.block w.heap.size (by omega) (fun h=>h)).trans hA
  have hC7:=(K7.block w4.heap.size (by omega) (fun h=>h)).trans hC6
  have K7':=K6'.trans K7 (U:=fun x=>w.heap.size < x) (fun _ _ h=>h) (fun _ _ h=>h.elim)
  have hO7:ObR (fun z=>w2.heap.size < z ∧ z < w7.heap.size) w7 ⟨.slice a1 ts.length c1,.slice a2 xs.length c2,.slice a3 gs.length c3,.slice a4 fs.length c4,.slice a5 es.length c5,.slice a6 ss.length c6,.slice a7 rs.length c7⟩ ⟨m,ts,xs,gs,fs,es,ss,rs⟩:=hO6.frame fun z hz=>⟨⟨hz.1,Nat.lt_of_lt_of_le hz.2 hs7⟩,K7.block z hz.2 (fun h=>h)⟩
  clear hri hb7 K7 K6' hO6 d0 d1 d2 d3 d4 d5 d6 d7 hC6
  by_cases hr:rn = 0
  ·have hR:Hid (RES = ((0,0),⟨m,ts,xs,gs,fs,es,ss,rs⟩)):=by rw [hid_iff]; exact HG.out trivial hr
   clear HW HG
   subst hr
   obtain ⟨d0,d1,d2,d3,d4,d5,d6,d7⟩:=cells8 hC7
   have KR:=wk_setRow w7 w.heap.size #[.string (str m),.slice a1 ts.length c1,.slice a2 xs.length c2,.slice a3 gs.length c3,.slice a4 fs.length c4,.slice a5 es.length c5,.slice a6 ss.length c6,.slice a7 rs.length c7]
   have hb:Below w.heap.size w (w7.setRow w.heap.size #[.string (str m),.slice a1 ts.length c1,.slice a2 xs.length c2,.slice a3 gs.length c3,.slice a4 fs.length c4,.slice a5 es.length c5,.slice a6 ss.length c6,.slice a7 rs.length c7]):=(K7'.below (B:=w.heap.size) (by omega) (fun x hx h=>by omega)).trans (KR.below (B:=w.heap.size) (by omega) (fun x hx h=>by omega))
   have hO:ObR (Fr w (w7.setRow w.heap.size #[.string (str m),.slice a1 ts.length c1,.slice a2 xs.length c2,.slice a3 gs.length c3,.slice a4 fs.length c4,.slice a5 es.length c5,.slice a6 ss.length c6,.slice a7 rs.length c7])) (w7.setRow w.heap.size #[.string (str m),.slice a1 ts.length c1,.slice a2 xs.length c2,.slice a3 gs.length c3,.slice a4 fs.length c4,.slice a5 es.length c5,.slice a6 ss.length c6,.slice a7 rs.length c7]) ⟨.slice a1 ts.length c1,.slice a2 xs.length c2,.slice a3 gs.length c3,.slice a4 fs.length c4,.slice a5 es.length c5,.slice a6 ss.length c6,.slice a7 rs.length c7⟩ ⟨m,ts,xs,gs,fs,es,ss,rs⟩:=hO7.frame fun z hz=>⟨⟨by have:=hz.1; omega,by have:=hz.2; have:=KR.size; omega⟩,KR.block z hz.2 (by have:=hz.1; omega)⟩
   clear KR K7' hO7
   go_wp2_with (refine wpList_store_row rfl 29 (.tmp 2) (.tmp 40) rfl w.heap.size #[.string (str m),.slice a1 ts.length c1,.slice a2 xs.length c2,.slice a3 gs.length c3,.slice a4 fs.length c4,.slice a5 es.length c5,.slice a6 ss.length c6,.slice a7 rs.length c7] rfl rfl 29 #[.string ⟨#[]⟩,.slice none 0 0,.slice none 0 0,.slice none 0 0,.slice none 0 0,.slice none 0 0,.slice none 0 0,.slice none 0 0] hA szObO rfl (by kernel_rfl) ?_)
   (try simp only [Exit.inBlock,Exit.then])
   refine bodyPost_ret (resO3 rfl _ _ w.heap.size 29 #[.string (str m),.slice a1 ts.length c1,.slice a2 xs.length c2,.slice a3 gs.length c3,.slice a4 fs.length c4,.slice a5 es.length c5,.slice a6 ss.length c6,.slice a7 rs.length c7] (0,0) _ rfl (setRow_heap _ w.heap.size _ _ 29 (0,0) hA) Tryz.underlying29 rfl szObO) rfl ?_
   refine ⟨hb,⟨.slice a1 ts.length c1,.slice a2 xs.length c2,.slice a3 gs.length c3,.slice a4 fs.length c4,.slice a5 es.length c5,.slice a6 ss.length c6,.slice a7 rs.length c7⟩,?_,?_⟩
   ·rw [hR.out]
    rfl
   ·rw [hR.out]
    exact hO
  ·have hR:Hid (RES = ((rn,0),noneO)):=by rw [hid_iff]; exact HW.out trivial hr
   clear HW HG
   have hrn:((rn:Int) != 0) = true:=by rw [bne_iff_ne]; omega
   have KR:=wk_setRow w7 w.heap.size #[.string ⟨#[]⟩,.slice none 0 0,.slice none 0 0,.slice none 0 0,.slice none 0 0,.slice none 0 0,.slice none 0 0,.slice none 0 0]
   have hb:Below w.heap.size w (w7.setRow w.heap.size #[.string ⟨#[]⟩,.slice none 0 0,.slice none 0 0,.slice none 0 0,.slice none 0 0,.slice none 0 0,.slice none 0 0,.slice none 0 0]):=(K7'.below (B:=w.heap.size) (by omega) (fun x hx h=>by omega)).trans (KR.below (B:=w.heap.size) (by omega) (fun x hx h=>by omega))
   clear KR K7' hO7 hr
   go_wp2_with (refine wpList_store_row rfl 29 (.tmp 2) (.tmp 38) rfl w.heap.size #[.string ⟨#[]⟩,.slice none 0 0,.slice none 0 0,.slice none 0 0,.slice none 0 0,.slice none 0 0,.slice none 0 0,.slice none 0 0] rfl rfl 29 #[.string ⟨#[]⟩,.slice none 0 0,.slice none 0 0,.slice none 0 0,.slice none 0 0,.slice none 0 0,.slice none 0 0,.slice none 0 0] hA szObO rfl (by kernel_rfl) ?_)
   (try simp only [Exit.inBlock,Exit.then])
   refine bodyPost_ret (resO3 rfl _ _ w.heap.size 29 #[.string ⟨#[]⟩,.slice none 0 0,.slice none 0 0,.slice none 0 0,.slice none 0 0,.slice none 0 0,.slice none 0 0,.slice none 0 0] (0,0) _ rfl (setRow_heap _ w.heap.size _ _ 29 (0,0) hA) Tryz.underlying29 rfl szObO) rfl ?_
   refine ⟨hb,obVn,?_,?_⟩
   ·rw [hR.out]
    rfl
   ·rw [hR.out]
    exact obR_n _ _
 ·have hR:Hid (RES = ((yn,yp),noneO)):=by rw [hid_iff]; exact HE.out hy
  clear HE HW HG
  have hyn:((yn:Int) != 0) = true:=by rw [bne_iff_ne]; omega
  have KR:=wk_setRow w6 w.heap.size #[.string ⟨#[]⟩,.slice none 0 0,.slice none 0 0,.slice none 0 0,.slice none 0 0,.slice none 0 0,.slice none 0 0,.slice none 0 0]
  have hb:Below w.heap.size w (w6.setRow w.heap.size #[.string ⟨#[]⟩,.slice none 0 0,.slice none 0 0,.slice none 0 0,.slice none 0 0,.slice none 0 0,.slice none 0 0,.slice none 0 0]):=(K6'.below (B:=w.heap.size) (by omega) (fun x hx h=>by omega)).trans (KR.below (B:=w.heap.size) (by omega) (fun x hx h=>by omega))
  clear KR K6' hO6 hy
  go_wp2_with (refine wpList_store_row rfl 29 (.tmp 2) (.tmp 28) rfl w.heap.size #[.string ⟨#[]⟩,.slice none 0 0,.slice none 0 0,.slice none 0 0,.slice none 0 0,.slice none 0 0,.slice none 0 0,.slice none 0 0] rfl rfl 29 #[.string ⟨#[]⟩,.slice none 0 0,.slice none 0 0,.slice none 0 0,.slice none 0 0,.slice none 0 0,.slice none 0 0,.slice none 0 0] hA szObO rfl (by kernel_rfl) ?_)
  (try simp only [Exit.inBlock,Exit.then])
  refine bodyPost_ret (resO3 rfl _ _ w.heap.size 29 #[.string ⟨#[]⟩,.slice none 0 0,.slice none 0 0,.slice none 0 0,.slice none 0 0,.slice none 0 0,.slice none 0 0,.slice none 0 0] (0,0) _ rfl (setRow_heap _ w.heap.size _ _ 29 (0,0) hA) Tryz.underlying29 rfl szObO) rfl ?_
  refine ⟨hb,obVn,?_,?_⟩
  ·rw [hR.out]
   rfl
  ·rw [hR.out]
   exact obR_n _ _
end Go.Proofs.YtiiepfplommmfaaGreatDoor

namespace Go.Proofs.YtiiepfplommmfaaGreatDoor
open Go.RowKit

def QByE (RES:List UInt8 × Nat × Nat) (l:List Nat) (b b0:Nat) (bv:Value) (w:World) (e:Ending) (w':World):Prop:=∃ v,e = .returned v ∧ ByR (Fr w w') w' v RES.1 ∧ Wire.QIs w' b b0 bv l RES.2.1 RES.2.2 ∧ Wire.Kept (fun k=>k = b) w w'
theorem rraw14 (n : Nat) (b b0 : Nat) (bv : Value) (l : List Nat) (p y : Nat) (w : World) (hl : l.length ≤ 140737488351232) (h256 : ∀ x ∈ l, x < 256) (hp : p ≤ l.length) (hq : Wire.QIs w b b0 bv l p y) (hn : n ≤ 65535) (hcap : ∃ a m c, bv = .slice a m c ∧ m ≤ c ∧ c ≤ maxLen) :
  Calls Tryz.prog 62 #[.pointer (some ⟨b,0,none⟩),.int .i64 (n:Int)] w (QByE ((Wire.rTake l p y n).1.map UInt8.ofNat,(Wire.rTake l p y n).2) l b b0 bv w):=by
 refine (Wire.qraw (n:Int) b b0 bv l p y w (by omega) hl hp hq hcap).mono ?_
 rintro e w' ⟨v,g',rfl,h1,h2,h3,h4⟩
 have hx:∀ x ∈ (Wire.rTake l p y (n:Int)).1,x < 256:=by
  intro x hx
  unfold Wire.rTake at hx
  split at hx
  ·simp at hx
  ·split at hx
   ·simp at hx
   ·exact h256 x (List.mem_of_mem_drop (List.mem_of_mem_take hx))
 refine ⟨v,rfl,?_,h3,h4⟩
 generalize (Wire.rTake l p y (n:Int)).1 = xs at *
 rcases h1.shape with ⟨rfl,rfl⟩ | ⟨cap,rfl,hcap,_⟩
 ·exact .inl ⟨none,0,rfl,rfl⟩
 ·refine .inr ⟨g',0,cap,by simp,by simpa using hcap,⟨h2,h1.lt (k:=g') rfl⟩,fun j x hj=>?_⟩
  simp only [List.getElem?_map,Option.map_eq_some_iff] at hj
  obtain ⟨m,hm,rfl⟩:=hj
  obtain ⟨hjl,rfl⟩:=List.getElem?_eq_some_iff.1 hm
  have hc:=h1.cell j hjl
  have hl2:=hx _ (List.getElem_mem hjl)
  rw [Nat.zero_add,hc]
  simp [List.getD,hjl]
  omega
theorem txt_is14 (l:List Nat) (p y:Nat):txtR l 65535 p y = ((Wire.rTake l (Wire.rNum l p y 65535).2.1 (Wire.rNum l p y 65535).2.2 ((Wire.rNum l p y 65535).1:Nat)).1.map UInt8.ofNat,(Wire.rTake l (Wire.rNum l p y 65535).2.1 (Wire.rNum l p y 65535).2.2 ((Wire.rNum l p y 65535).1:Nat)).2):=rfl
structure DB (rb b0:Nat) (bv:Value) (l:List Nat) (cb:Nat) (cs:Array Value) (p y:Nat) (u0 u:World):Prop where
 box:u.heap[cb]? = some (.cells cs 35 (0,0))
 rd:Wire.QIs u rb b0 bv l p y
 kept:Wire.Kept (fun z=>z = rb ∨ z = cb) u0 u
 le:p ≤ l.length
 lt:rb < cb
 old:cb < u0.heap.size
 src:b0 < rb ∨ l = []
variable {rb b0 cb:Nat} {bv:Value} {l:List Nat} {cs:Array Value} {p y p' y':Nat} {u0 u u':World}
theorem DB.call (h:DB rb b0 bv l cb cs p y u0 u) (k:Wire.Kept (fun z=>z = rb) u u') (hq:Wire.QIs u' rb b0 bv l p' y') (hp:p' ≤ l.length):DB rb b0 bv l cb cs p' y' u0 u':=by
 have h1:=h.lt
 have h2:=h.old
 have h3:=h.kept.size
 exact ⟨(k.block cb (by omega) (by omega)).trans h.box,hq,h.kept.trans k (fun _ _ h=>h) (fun _ _ h => .inl h),hp,h1,h2,h.src⟩
theorem DB.grown (h:DB rb b0 bv l cb cs p y u0 u) {S:Nat → Prop} (k:Wire.Kept S u u') (hS:∀ z,S z → u0.heap.size ≤ z):DB rb b0 bv l cb cs p y u0 u':=by
 have h1:=h.lt
 have h2:=h.old
 have h3:=h.kept.size
 have h4:=h.src
 exact ⟨(k.block cb (by omega) (fun e=>by have:=hS _ e; omega)).trans h.box,h.rd.kept k (fun e=>by have:=hS _ e; omega) (fun e=>h4.resolve_left (fun _=>by have:=hS _ e; omega)),h.kept.trans k (fun _ _ h=>h) (fun z hz e=>by have:=hS _ e; omega),h.le,h1,h2,h4⟩
theorem DB.store (h:DB rb b0 bv l cb cs p y u0 u) (i:Nat) (v:Value):DB rb b0 bv l cb (cs.setIfInBounds i v) p y u0 (u.setCell ⟨cb,i,none⟩ v):=by
 have h1:=h.lt
 have k:=Wire.kept_set u cb i v
 exact ⟨heap_setCell_same u cb i _ _ v h.box,h.rd.kept k (by omega) (fun e=>h.src.resolve_left (fun _=>by omega)),h.kept.trans k (fun _ _ h=>h) (fun _ _ h => .inr h),h.le,h1,h.old,h.src⟩
theorem DB.cell (h:DB rb b0 bv l cb cs p y u0 u) (i:Nat):u.cell? ⟨cb,i,none⟩ = cs[i]?:=cell_of_row u _ i _ _ _ h.box
theorem DB.frozen (h:DB rb b0 bv l cb cs p y u0 u) (i:Nat):u.frozen? ⟨cb,i,none⟩ = false:=frozen_of_row u _ i _ _ h.box
theorem DB.here (h:DB rb b0 bv l cb cs p y u0 u):DB rb b0 bv l cb cs p y u u:=by
 have:=h.kept.size
 exact ⟨h.box,h.rd,Wire.Kept.refl _ _,h.le,h.lt,by have:=h.old; omega,h.src⟩
theorem DB.carry (h:DB rb b0 bv l cb cs p y u0 u):∀ z,(cb < z ∧ z < u0.heap.size) → (cb < z ∧ z < u.heap.size) ∧ u.heap[z]? = u0.heap[z]?:=fun z hz=>by
 have h1:=h.lt
 have h3:=h.kept.size
 exact ⟨⟨hz.1,by omega⟩,h.kept.block z hz.2 (by omega)⟩
theorem DB.put {α : Type} {C : Cel α} {ty sz : Nat} (hC : CelOk sz C) {w5 w7 : World} {iv v7 : Value} {xs ys : List α} {o : Obj} (h : DB rb b0 bv l cb cs p y u0 u) (hI : RowG C ty sz u0.heap.size u iv xs) (k : Wire.Kept (fun z => z = rb) u w5) (hq : Wire.QIs w5 rb b0 bv l p' y') (hp : p' ≤ l.length)
  (ho:RowG C ty sz u0.heap.size w7 v7 ys) (hg:(w5.alloc o).grownBy w7 iv.ownBlock) (i:Nat) :
  w7.cell? ⟨cb,i,none⟩ = cs[i]? ∧ w7.frozen? ⟨cb,i,none⟩ = false ∧ DB rb b0 bv l cb (cs.setIfInBounds i v7) p' y' u0 (w7.setCell ⟨cb,i,none⟩ v7) ∧ RowG C ty sz u0.heap.size (w7.setCell ⟨cb,i,none⟩ v7) v7 ys:=by
 have h5:=h.call k hq hp
 have h7:=h5.grown ((wkept_alloc w5 o).trans (U:=fun z=>iv.ownBlock = some z) (wkept_grown hg) (fun _ _ h=>h.elim) (fun _ _ h=>h)) (fun z hz=>(hI.block hz).1)
 have h8:=h7.store i v7
 have hlt:=h.old
 exact ⟨h7.cell i,h7.frozen i,h8,ho.wk hC (Wire.kept_set w7 cb i v7) (fun z hz e=>by omega)⟩
theorem DB.row {α:Type} {C:Cel α} {ty sz:Nat} (hC:CelOk sz C) {iv:Value} {xs:List α} (h:DB rb b0 bv l cb cs p y u0 u) (hI:RowG C ty sz u0.heap.size u iv xs):RwR sz C (fun z=>cb < z ∧ z < u.heap.size) u iv xs :=
 (hI.rw hC).frame (stayK hC) (fun z hz=>⟨⟨by have:=hz.1; have:=h.old; omega,hz.2⟩,rfl⟩)
structure XB (rb b0:Nat) (bv:Value) (l:List Nat) (gb T:Nat) (ds:Array Value) (p y:Nat) (wo u:World):Prop where
 box:u.heap[gb]? = some (.cells ds T (0,0))
 rd:Wire.QIs u rb b0 bv l p y
 kept:Wire.Kept (fun z=>z = rb) wo u
 le:p ≤ l.length
 rlt:rb < wo.heap.size
 old:wo.heap.size ≤ gb
 lt:gb < u.heap.size
 src:b0 < rb ∨ l = []
variable {gb T:Nat} {ds es:Array Value} {wo:World}
theorem DB.box0 (h:DB rb b0 bv l cb cs p y u0 u) (k:Wire.Kept (fun z=>z = rb) u u') (hq:Wire.QIs u' rb b0 bv l p' y') (hp:p' ≤ l.length) (T:Nat) (ds:Array Value):XB rb b0 bv l u'.heap.size T ds p' y' u (u'.alloc (.cells ds T)):=by
 have h1:=h.lt
 have h2:=h.old
 have h3:=h.kept.size
 have h4:=k.size
 have ka:=wkept_alloc u' (.cells ds T)
 exact ⟨World.alloc_heap_new u' _,hq.kept ka (fun h=>h) (fun h=>h.elim),k.trans ka (fun _ _ h=>h) (fun _ _ h=>h.elim),hp,by omega,h4,by simp,h.src⟩
theorem XB.call (h:XB rb b0 bv l gb T ds p y wo u) (k:Wire.Kept (fun z=>z = rb) u u') (hq:Wire.QIs u' rb b0 bv l p' y') (hp:p' ≤ l.length):XB rb b0 bv l gb T ds p' y' wo u':=by
 have h1:=h.rlt
 have h2:=h.old
 have h3:=h.lt
 have h4:=k.size
 exact ⟨(k.block gb h3 (by omega)).trans h.box,hq,h.kept.trans k (fun _ _ h=>h) (fun _ _ h=>h),hp,h1,h2,by omega,h.src⟩
theorem XB.store (h:XB rb b0 bv l gb T ds p y wo u) (i:Nat) (v:Value):XB rb b0 bv l gb T (ds.setIfInBounds i v) p y wo (u.setCell ⟨gb,i,none⟩ v):=by
 have h1:=h.rlt
 have h2:=h.old
 have h3:=h.lt
 have k:=Wire.kept_set u gb i v
 exact ⟨heap_setCell_same u gb i _ _ v h.box,h.rd.kept k (by omega) (fun e=>h.src.resolve_left (fun _=>by omega)),h.kept.trans k (fun _ _ h=>h) (fun z hz e=>by omega),h.le,h1,h2,by have:=k.size; omega,h.src⟩
theorem XB.cell (h:XB rb b0 bv l gb T ds p y wo u) (i:Nat):u.cell? ⟨gb,i,none⟩ = ds[i]?:=cell_of_row u _ i _ _ _ h.box
theorem XB.frozen (h:XB rb b0 bv l gb T ds p y wo u) (i:Nat):u.frozen? ⟨gb,i,none⟩ = false:=frozen_of_row u _ i _ _ h.box
theorem XB.carryC (h:XB rb b0 bv l gb T ds p y wo u) (k:Wire.Kept (fun z=>z = rb) u u'):∀ z,(gb < z ∧ z < u.heap.size) → (gb < z ∧ z < u'.heap.size) ∧ u'.heap[z]? = u.heap[z]?:=fun z hz=>by
 have h1:=h.rlt
 have h2:=h.old
 have h4:=k.size
 exact ⟨⟨hz.1,by omega⟩,k.block z hz.2 (by omega)⟩
theorem XB.carryS (_h:XB rb b0 bv l gb T ds p y wo u) (i:Nat) (v:Value):∀ z,(gb < z ∧ z < u.heap.size) → (gb < z ∧ z < (u.setCell ⟨gb,i,none⟩ v).heap.size) ∧ (u.setCell ⟨gb,i,none⟩ v).heap[z]? = u.heap[z]?:=fun z hz=>by
 have k:=Wire.kept_set u gb i v
 have:=k.size
 exact ⟨⟨hz.1,by omega⟩,k.block z hz.2 (by omega)⟩
theorem XB.take (h:XB rb b0 bv l gb T ds p y wo u):∀ z,Fr u u' z → (gb < z ∧ z < u'.heap.size) ∧ u'.heap[z]? = u'.heap[z]?:=fun z hz=>by
 have:=h.lt
 exact ⟨⟨by have:=hz.1; omega,hz.2⟩,rfl⟩
theorem XB.last {α:Type} {C:Cel α} {ty sz B:Nat} {iv:Value} {xs:List α} (h:XB rb b0 bv l gb T ds p y wo u) (hI:RowG C ty sz B wo iv xs) (hB:B ≤ wo.heap.size) (o:Obj):∀ z,(gb < z ∧ z < u.heap.size) → (B ≤ z ∧ z < (u.alloc o).heap.size ∧ some z ≠ iv.ownBlock) ∧ (u.alloc o).heap[z]? = u.heap[z]?:=fun z hz=>by
 have h2:=h.old
 exact ⟨⟨by omega,by simp; omega,fun e=>by have:=(hI.block e.symm).2; omega⟩,Below.heap_alloc _ _ _ hz.2⟩
theorem XB.row {α:Type} {C:Cel α} {ty sz B:Nat} (hC:CelOk sz C) {iv:Value} {xs:List α} (h:XB rb b0 bv l gb T ds p y wo u) (hI:RowG C ty sz B wo iv xs) (hB:rb < B) (o:Obj):RowG C ty sz B (u.alloc o) iv xs :=
 (hI.wk hC h.kept (fun z hz e=>by omega)).wk hC (wkept_alloc u o) (fun _ _ h=>h)
theorem tri_is {α:Type} (t:α × Nat × Nat):∃ a p y,t = (a,p,y):=⟨t.1,t.2.1,t.2.2,rfl⟩
theorem decQ {l : List Nat} (h : ¬ 8192 < l.length) : ∃ m p0 y0 ts pA yA xs pB yB gs pC yC fs pD yD es pE yE ss pF yF rs pG yG, txtR l 24 0 0 = (m, p0, y0) ∧ refL l (itemQ l) p0 y0 = (ts, pA, yA) ∧ refL l (txtR l 200) pA yA = (xs, pB, yB) ∧ refL l (glR l) pB yB = (gs, pC, yC) ∧ refL l (fnQ l) pC yC = (fs, pD, yD) ∧ refL l (txtR l 24) pD yD = (es, pE, yE) ∧ refL l (syQ l) pE yE = (ss, pF, yF) ∧ refL l (rlR l) pF yF = (rs, pG, yG) ∧
  ((Wire.rEnd l pG yG).1 ≠ 0 → decO l = (Wire.rEnd l pG yG,noneO)) ∧ ((Wire.rEnd l pG yG).1 = 0 → ObOk ⟨m,ts,xs,gs,fs,es,ss,rs⟩ ∧ ((rightO ⟨m,ts,xs,gs,fs,es,ss,rs⟩).1 ≠ 0 → decO l = (((rightO ⟨m,ts,xs,gs,fs,es,ss,rs⟩).1,0),noneO)) ∧ ((rightO ⟨m,ts,xs,gs,fs,es,ss,rs⟩).1 = 0 → decO l = ((0,0),⟨m,ts,xs,gs,fs,es,ss,rs⟩))):=by
 obtain ⟨o,pG,yG,hQ⟩:∃ o p y,objQ l 0 0 = (o,p,y):=tri_is _
 obtain ⟨h1,h2⟩:=dec_same l
 rw [hQ] at h1 h2
 simp only at h1 h2
 have hd1:(Wire.rEnd l pG yG).1 ≠ 0 → decO l = (Wire.rEnd l pG yG,noneO):=by
  rw [h1]
  exact fun e=>decO_bad h rfl e
 have hd2:(Wire.rEnd l pG yG).1 = 0 → ObOk o ∧ ((rightO o).1 ≠ 0 → decO l = (((rightO o).1,0),noneO)) ∧ ((rightO o).1 = 0 → decO l = ((0,0),o)):=by
  rw [h1]
  intro e
  rw [h2 e]
  exact ⟨obj_ok l 0 0,fun e2=>decO_wrong h rfl e e2,fun e2=>decO_good h rfl e e2⟩
 unfold objQ at hQ
 obtain ⟨m,p0,y0,e0⟩:∃ a p y,txtR l 24 0 0 = (a,p,y):=tri_is _
 obtain ⟨ts,pA,yA,eA⟩:∃ a p y,refL l (itemQ l) p0 y0 = (a,p,y):=tri_is _
 obtain ⟨xs,pB,yB,eB⟩:∃ a p y,refL l (txtR l 200) pA yA = (a,p,y):=tri_is _
 obtain ⟨gs,pC,yC,eC⟩:∃ a p y,refL l (glR l) pB yB = (a,p,y):=tri_is _
 obtain ⟨fs,pD,yD,eD⟩:∃ a p y,refL l (fnQ l) pC yC = (a,p,y):=tri_is _
 obtain ⟨es,pE,yE,eE⟩:∃ a p y,refL l (txtR l 24) pD yD = (a,p,y):=tri_is _
 obtain ⟨ss,pF,yF,eF⟩:∃ a p y,refL l (syQ l) pE yE = (a,p,y):=tri_is _
 obtain ⟨rs,pH,yH,eG⟩:∃ a p y,refL l (rlR l) pF yF = (a,p,y):=tri_is _
 simp only [e0,eA,eB,eC,eD,eE,eF,eG,Prod.mk.injEq] at hQ
 obtain ⟨rfl,rfl,rfl⟩:=hQ
 exact ⟨m,p0,y0,ts,pA,yA,xs,pB,yB,gs,pC,yC,fs,pD,yD,es,pE,yE,ss,pF,yF,rs,_,_,e0,eA,eB,eC,eD,eE,eF,eG,hd1,hd2⟩
theorem obR_m (F:Nat → Prop) (w:World) (m:List UInt8):ObR F w ⟨.slice none 0 0,.slice none 0 0,.slice none 0 0,.slice none 0 0,.slice none 0 0,.slice none 0 0,.slice none 0 0⟩ ⟨m,[],[],[],[],[],[],[]⟩ :=
 have h:=obR_n F w
 ⟨h.types,h.texts,h.globals,h.funs,h.exports,h.symbols,h.relocs⟩
end Go.Proofs.YtiiepfplommmfaaGreatDoor
