/-
  The law's same, at objects that are alike.
-/
import Derived.Test.YtiiepfplommmfaaGreatDoorG40
import Derived.Test.YtiiepfplommmfaaGreatDoorG13
namespace Go.Proofs.YtiiepfplommmfaaGreatDoor
open Go.RowKit

theorem byR_string {F:Nat → Prop} {w:World} {v:Value} {l:List UInt8} (h:ByR F w v l):(convert 42 9 v).run Tryz.prog w = .ok (.string (str l)) w:=by
 have e:Wire.toStr (l.map UInt8.toNat) = str l:=by
  rw [Wire.toStr_eq,List.map_map]
  simp [str,Function.comp_def]
 rcases h with ⟨a,c,rfl,rfl⟩ | ⟨g,o,cap,rfl,_,_,h3⟩
 ·cases a with
  | none =>
   rw [run_convert_bytes_string w 42 9 5 none 0 c Tryz.underlying42 Tryz.underlying5 Tryz.underlying9]
   rfl
  | some a=>exact (Wire.Rd.string (b:=a.block) (l:=[]) (.inr ⟨a,c,rfl,rfl,fun j u hu=>by simp [Wire.bs] at hu⟩)).trans (by rw [← e]; rfl)
 ·have hR:Wire.Rd w g (.slice (some ⟨g,o,none⟩) l.length cap) (l.map UInt8.toNat) := .inr ⟨⟨g,o,none⟩,cap,by simp,rfl,fun j u hu=>by
   rw [Wire.bs,List.getElem?_map,List.getElem?_map] at hu
   cases hx:l[j]? with
   | none=>rw [hx] at hu; cases hu
   | some x =>
    rw [hx] at hu
    simp only [Option.map_some,Option.some.injEq] at hu
    subst hu
    have:=h3 j x hx
    unfold Addr.add
    split
    ·rename_i e
     subst e
     simpa using this
    ·exact this⟩
  exact hR.string.trans (by rw [e])
set_option maxHeartbeats 4000000 in
set_option maxRecDepth 1000000 in
theorem sameL (F G : Nat → Prop) (v u : ObV) (o : Ob) (w : World) (h1 : ObR F w v o) (h2 : ObR G w u o) (hF : ∀ g, F g → g < w.heap.size) (hG : ∀ g, G g → g < w.heap.size) (hok : ObOk o) (hS : ObS o) :
  Calls Tryz.prog 23 #[obv v o.mod,obv u o.mod] w (BoolB true w):=by
 obtain ⟨v1,v2,v3,v4,v5,v6,v7⟩:=v
 obtain ⟨u1,u2,u3,u4,u5,u6,u7⟩:=u
 obtain ⟨m,ts,xs,gs,fs,es,ss,rs⟩:=o
 obtain ⟨aa1,ac1,e1⟩:=h1.types.shape
 obtain ⟨aa2,ac2,e2⟩:=h1.texts.1.shape
 obtain ⟨aa3,ac3,e3⟩:=h1.globals.shape
 obtain ⟨aa4,ac4,e4⟩:=h1.funs.shape
 obtain ⟨aa5,ac5,e5⟩:=h1.exports.1.shape
 obtain ⟨aa6,ac6,e6⟩:=h1.symbols.shape
 obtain ⟨aa7,ac7,e7⟩:=h1.relocs.shape
 simp only at e1 e2 e3 e4 e5 e6 e7
 subst e1 e2 e3 e4 e5 e6 e7
 obtain ⟨ba1,bc1,e1⟩:=h2.types.shape
 obtain ⟨ba2,bc2,e2⟩:=h2.texts.1.shape
 obtain ⟨ba3,bc3,e3⟩:=h2.globals.shape
 obtain ⟨ba4,bc4,e4⟩:=h2.funs.shape
 obtain ⟨ba5,bc5,e5⟩:=h2.exports.1.shape
 obtain ⟨ba6,bc6,e6⟩:=h2.symbols.shape
 obtain ⟨ba7,bc7,e7⟩:=h2.relocs.shape
 simp only at e1 e2 e3 e4 e5 e6 e7
 subst e1 e2 e3 e4 e5 e6 e7
 obtain ⟨A,hA⟩:∃ X:Obj,X = .cells #[.string (str m),.slice aa1 ts.length ac1,.slice aa2 xs.length ac2,.slice aa3 gs.length ac3,.slice aa4 fs.length ac4,.slice aa5 es.length ac5,.slice aa6 ss.length ac6,.slice aa7 rs.length ac7] 29:=⟨_,rfl⟩
 obtain ⟨B,hB⟩:∃ X:Obj,X = .cells #[.string (str m),.slice ba1 ts.length bc1,.slice ba2 xs.length bc2,.slice ba3 gs.length bc3,.slice ba4 fs.length bc4,.slice ba5 es.length bc5,.slice ba6 ss.length bc6,.slice ba7 rs.length bc7] 35:=⟨_,rfl⟩
 have n1:=World.alloc_heap_new w A
 have b1:Below w.heap.size w (w.alloc A):=(Below.refl _ _).alloc (Nat.le_refl _) _
 have z1:(w.alloc A).heap.size = w.heap.size + 1:=by simp
 have n2:=World.alloc_heap_new (w.alloc A) B
 have b2:Below w.heap.size w ((w.alloc A).alloc B):=b1.alloc b1.size _
 have n12:=(Below.heap_alloc (w.alloc A) B w.heap.size (by omega)).trans n1
 have z2:((w.alloc A).alloc B).heap.size = w.heap.size + 1 + 1:=by simp
 rw [z1] at n2
 have hi:=inL F ⟨.slice aa1 ts.length ac1,.slice aa2 xs.length ac2,.slice aa3 gs.length ac3,.slice aa4 fs.length ac4,.slice aa5 es.length ac5,.slice aa6 ss.length ac6,.slice aa7 rs.length ac7⟩ ⟨m,ts,xs,gs,fs,es,ss,rs⟩ ((w.alloc A).alloc B) (h1.below b2 hF) (fun g hg=>by have:=hF g hg; omega) (by have hh:=hS.globals.1; first | omega | (simp only at hh ⊢; omega)) (by have hh:=hS.funs.1; first | omega | (simp only at hh ⊢; omega)) (by have hh:=hS.symbols.1; first | omega | (simp only at hh ⊢; omega)) (by have hh:=hS.relocs.1; first | omega | (simp only at hh ⊢; omega))
 have h2':=h2.below b2 hG
 unfold obv at hi ⊢
 simp only at hi ⊢
 subst hA hB
 obtain ⟨k0,k1,k2,k3,k4,k5,k6,k7⟩:=cells8 n12
 clear n1 n12 b1 z1 h1 h2
 go_enter Tryz.func23,Tryz.ntmps23
 go_wp2_with fail
 generalize ((w.alloc (.cells #[.string (str m),.slice aa1 ts.length ac1,.slice aa2 xs.length ac2,.slice aa3 gs.length ac3,.slice aa4 fs.length ac4,.slice aa5 es.length ac5,.slice aa6 ss.length ac6,.slice aa7 rs.length ac7] 29)).alloc (.cells #[.string (str m),.slice ba1 ts.length bc1,.slice ba2 xs.length bc2,.slice ba3 gs.length bc3,.slice ba4 fs.length bc4,.slice ba5 es.length bc5,.slice ba6 ss.length bc6,.slice ba7 rs.length bc7] 35)) = w2 at *
 refine hi.mono ?_
 rintro e w3 ⟨hb3,x,rfl,h3⟩
 obtain ⟨x1,x2,x3,x4,x5,x6,x7⟩:=x
 obtain ⟨xa1,xc1,e1⟩:=h3.types.shape
 obtain ⟨xa2,xc2,e2⟩:=h3.texts.1.shape
 obtain ⟨xa3,xc3,e3⟩:=h3.globals.shape
 obtain ⟨xa4,xc4,e4⟩:=h3.funs.shape
 obtain ⟨xa5,xc5,e5⟩:=h3.exports.1.shape
 obtain ⟨xa6,xc6,e6⟩:=h3.symbols.shape
 obtain ⟨xa7,xc7,e7⟩:=h3.relocs.shape
 simp only at e1 e2 e3 e4 e5 e6 e7
 subst e1 e2 e3 e4 e5 e6 e7
 unfold obv
 simp only
 have hs3:=hb3.size
 have n23:=(hb3.block (w.heap.size + 1) (by omega)).trans n2
 have h23:=h2'.below hb3 (fun g hg=>by have:=hG g hg; omega)
 have b3:Below w.heap.size w w3:=b2.trans (hb3.mono (by omega))
 clear hi hb3 n2 b2 h2' k0 k1 k2 k3 k4 k5 k6 k7
 have n4:=World.alloc_heap_new w3 (.cells #[.string (str m),.slice xa1 ts.length xc1,.slice xa2 xs.length xc2,.slice xa3 gs.length xc3,.slice xa4 fs.length xc4,.slice xa5 es.length xc5,.slice xa6 ss.length xc6,.slice xa7 rs.length xc7] 35)
 have b34:Below w3.heap.size w3 (w3.alloc (.cells #[.string (str m),.slice xa1 ts.length xc1,.slice xa2 xs.length xc2,.slice xa3 gs.length xc3,.slice xa4 fs.length xc4,.slice xa5 es.length xc5,.slice xa6 ss.length xc6,.slice xa7 rs.length xc7] 35)):=(Below.refl _ _).alloc (Nat.le_refl _) _
 have z4:(w3.alloc (.cells #[.string (str m),.slice xa1 ts.length xc1,.slice xa2 xs.length xc2,.slice xa3 gs.length xc3,.slice xa4 fs.length xc4,.slice xa5 es.length xc5,.slice xa6 ss.length xc6,.slice xa7 rs.length xc7] 35)).heap.size = w3.heap.size + 1:=by simp
 have n24:=(b34.block (w.heap.size + 1) (by omega)).trans n23
 have h24:=h23.below b34 (fun g hg=>by have:=hG g hg; omega)
 have hH3:∀ g,(F g ∨ Fr w2 w3 g) → g < w3.heap.size:=fun g hg=>by
  rcases hg with h | h
  ·have:=hF g h
   omega
  ·exact h.2
 have h34:=h3.below b34 hH3
 have b4:Below w.heap.size w (w3.alloc (.cells #[.string (str m),.slice xa1 ts.length xc1,.slice xa2 xs.length xc2,.slice xa3 gs.length xc3,.slice xa4 fs.length xc4,.slice xa5 es.length xc5,.slice xa6 ss.length xc6,.slice xa7 rs.length xc7] 35)):=b3.trans (b34.mono (by omega))
 clear n23 h23 b34 h3 b3
 go_upto_region 2 with fail
 generalize w3.alloc (.cells #[.string (str m),.slice xa1 ts.length xc1,.slice xa2 xs.length xc2,.slice xa3 gs.length xc3,.slice xa4 fs.length xc4,.slice xa5 es.length xc5,.slice xa6 ss.length xc6,.slice xa7 rs.length xc7] 35) = w4 at *
 have HX:Hid (∀ u,Below w4.heap.size w4 u → (u.cell? ⟨w.heap.size + 1,0,none⟩ = some (.string (str m)) ∧ u.cell? ⟨w.heap.size + 1,1,none⟩ = some (.slice ba1 ts.length bc1) ∧ u.cell? ⟨w.heap.size + 1,2,none⟩ = some (.slice ba2 xs.length bc2) ∧ u.cell? ⟨w.heap.size + 1,3,none⟩ = some (.slice ba3 gs.length bc3) ∧ u.cell? ⟨w.heap.size + 1,4,none⟩ = some (.slice ba4 fs.length bc4) ∧ u.cell? ⟨w.heap.size + 1,5,none⟩ = some (.slice ba5 es.length bc5) ∧ u.cell? ⟨w.heap.size + 1,6,none⟩ = some (.slice ba6 ss.length bc6) ∧ u.cell? ⟨w.heap.size + 1,7,none⟩ = some (.slice ba7 rs.length bc7)) ∧ (u.cell? ⟨w3.heap.size,0,none⟩ = some (.string (str m)) ∧ u.cell? ⟨w3.heap.size,1,none⟩ = some (.slice xa1 ts.length xc1) ∧ u.cell? ⟨w3.heap.size,2,none⟩ = some (.slice xa2 xs.length xc2) ∧ u.cell? ⟨w3.heap.size,3,none⟩ = some (.slice xa3 gs.length xc3) ∧ u.cell? ⟨w3.heap.size,4,none⟩ = some (.slice xa4 fs.length xc4) ∧ u.cell? ⟨w3.heap.size,5,none⟩ = some (.slice xa5 es.length xc5) ∧ u.cell? ⟨w3.heap.size,6,none⟩ = some (.slice xa6 ss.length xc6) ∧ u.cell? ⟨w3.heap.size,7,none⟩ = some (.slice xa7 rs.length xc7)) ∧ ObR (fun g=>F g ∨ Fr w2 w3 g) u ⟨.slice xa1 ts.length xc1,.slice xa2 xs.length xc2,.slice xa3 gs.length xc3,.slice xa4 fs.length xc4,.slice xa5 es.length xc5,.slice xa6 ss.length xc6,.slice xa7 rs.length xc7⟩ ⟨m,ts,xs,gs,fs,es,ss,rs⟩ ∧ ObR G u ⟨.slice ba1 ts.length bc1,.slice ba2 xs.length bc2,.slice ba3 gs.length bc3,.slice ba4 fs.length bc4,.slice ba5 es.length bc5,.slice ba6 ss.length bc6,.slice ba7 rs.length bc7⟩ ⟨m,ts,xs,gs,fs,es,ss,rs⟩ ∧ Below w.heap.size w u ∧ w4.heap.size ≤ u.heap.size):=by
  rw [hid_iff]
  intro u hu
  have y2:=(hu.block (w.heap.size + 1) (by omega)).trans n24
  have y4:=(hu.block w3.heap.size (by omega)).trans n4
  exact ⟨⟨by rw [cell_of_row _ _ 0 _ _ _ y2]; rfl,by rw [cell_of_row _ _ 1 _ _ _ y2]; rfl,by rw [cell_of_row _ _ 2 _ _ _ y2]; rfl,by rw [cell_of_row _ _ 3 _ _ _ y2]; rfl,by rw [cell_of_row _ _ 4 _ _ _ y2]; rfl,by rw [cell_of_row _ _ 5 _ _ _ y2]; rfl,by rw [cell_of_row _ _ 6 _ _ _ y2]; rfl,by rw [cell_of_row _ _ 7 _ _ _ y2]; rfl⟩,⟨by rw [cell_of_row _ _ 0 _ _ _ y4]; rfl,by rw [cell_of_row _ _ 1 _ _ _ y4]; rfl,by rw [cell_of_row _ _ 2 _ _ _ y4]; rfl,by rw [cell_of_row _ _ 3 _ _ _ y4]; rfl,by rw [cell_of_row _ _ 4 _ _ _ y4]; rfl,by rw [cell_of_row _ _ 5 _ _ _ y4]; rfl,by rw [cell_of_row _ _ 6 _ _ _ y4]; rfl,by rw [cell_of_row _ _ 7 _ _ _ y4]; rfl⟩,h34.below hu (fun g hg=>by have:=hH3 g hg; omega),h24.below hu (fun g hg=>by have:=hG g hg; omega),b4.trans (hu.mono (by have:=b4.size; omega)),hu.size⟩
 have HFl:Hid (∀ u:World,w4.heap.size ≤ u.heap.size → (∀ g,(F g ∨ Fr w2 w3 g) → g < u.heap.size) ∧ ∀ g,G g → g < u.heap.size):=by
  rw [hid_iff]
  exact fun u hu=>⟨fun g hg=>by have:=hH3 g hg; omega,fun g hg=>by have:=hG g hg; omega⟩
 have hm1:((str m).toList != (str m).toList) = false:=by simp
 have G4:Below w4.heap.size w4 w4:=Below.refl _ _
 clear n4 n24 h24 h34 b4 hH3
 obtain ⟨⟨p0_0,p0_1, -, -, -, -, -, -⟩,⟨q0_0,q0_1, -, -, -, -, -, -⟩,hx0,hy0,hz0,hs0⟩:=HX.out _ G4
 have hc0:=keepItems (fun g=>F g ∨ Fr w2 w3 g) G _ _ ts w4 hx0.types hy0.types (HFl.out _ hs0).1 (HFl.out _ hs0).2 (by have:=hS.types.1; simp only at this; omega) hok.types
 clear hx0 hy0 hz0
 go_wp2_with fail
 refine hc0.mono ?_
 rintro e w5 ⟨rfl,hb0⟩
 have G5:Below w4.heap.size w4 w5:=G4.trans (hb0.mono hs0)
 clear hb0
 clear hc0 hs0 p0_0 q0_0 p0_1 q0_1 
 obtain ⟨⟨-, -, p1_2, -, -, -, -, -⟩,⟨-, -, q1_2, -, -, -, -, -⟩,hx1,hy1,hz1,hs1⟩:=HX.out _ G5
 have hc1:=keepTexts (fun g=>F g ∨ Fr w2 w3 g) G _ _ xs w5 hx1.texts.1 hy1.texts.1 (by have:=hS.texts.1; simp only at this; omega)
 clear hx1 hy1 hz1
 go_wp2_with fail
 refine hc1.mono ?_
 rintro e w6 ⟨rfl,n1,hw6⟩
 have G6:Below w4.heap.size w4 w6:=by rw [hw6]; exact G5.trans (belowK w5 n1)
 clear hw6 G5
 clear hc1 hs1 p1_2 q1_2 
 obtain ⟨⟨-, -, -, -, -, p2_5, -, -⟩,⟨-, -, -, -, -, q2_5, -, -⟩,hx2,hy2,hz2,hs2⟩:=HX.out _ G6
 have hc2:=keepTexts (fun g=>F g ∨ Fr w2 w3 g) G _ _ es w6 hx2.exports.1 hy2.exports.1 (by have:=hS.exports.1; simp only at this; omega)
 clear hx2 hy2 hz2
 go_wp2_with fail
 refine hc2.mono ?_
 rintro e w7 ⟨rfl,n2,hw7⟩
 have G7:Below w4.heap.size w4 w7:=by rw [hw7]; exact G6.trans (belowK w6 n2)
 clear hw7 G6
 clear hc2 hs2 p2_5 q2_5
 obtain ⟨⟨-, -, -, p3_3, -, -, -, -⟩,⟨-, -, -, q3_3, -, -, -, -⟩,hx3,hy3,hz3,hs3⟩:=HX.out _ G7
 have hc3:=sameGl (fun g=>F g ∨ Fr w2 w3 g) G _ _ gs w7 hx3.globals hy3.globals hS.globals.1
 clear hx3 hy3 hz3
 go_wp2_with fail
 refine hc3.mono ?_
 rintro e w8 ⟨rfl,n3,hw8⟩
 have G8:Below w4.heap.size w4 w8:=by rw [hw8]; exact G7.trans (belowK w7 n3)
 clear hw8 G7
 clear hc3 hs3 p3_3 q3_3
 obtain ⟨⟨-, -, -, -, p4_4, -, p4_6,p4_7⟩,⟨-, -, -, -, q4_4, -, q4_6,q4_7⟩,hx4,hy4,hz4,hs4⟩:=HX.out _ G8
 have hc4:=sameRl (fun g=>F g ∨ Fr w2 w3 g) G _ _ rs w8 hx4.relocs hy4.relocs hS.relocs.1
 clear hx4 hy4 hz4
 go_wp2_with fail
 refine hc4.mono ?_
 rintro e w9 ⟨rfl,n4,hw9⟩
 have G9:Below w4.heap.size w4 w9:=by rw [hw9]; exact G8.trans (belowK w8 n4)
 clear hw9 G8
 clear hc4 hs4 p4_4 q4_4 p4_6 q4_6 p4_7 q4_7
 go_wp2_with fail
 go_loopg [6] fs.length (fun gk i wr=>∃ k:Nat,gk + k = fs.length ∧ i = .int .i64 (k:Int) ∧ Below w4.heap.size w4 wr)
 case atStart=>exact ⟨0,by omega,rfl,G9⟩
 case round =>
  clear G9
  obtain ⟨k,hg,rfl,Gr⟩:=hrel
  obtain ⟨⟨-, -, -, -, pb4, -, -, -⟩,⟨-, -, -, -, px4, -, -, -⟩,hx,hy,hz,hs⟩:=HX.out _ Gr
  have hfl:fs.length ≤ 65535:=hS.funs.1
  by_cases hk:k < fs.length
  ·have hki:(k:Int) < (fs.length:Int):=by omega
   obtain ⟨g1,o1,d1,cs1,e1,_,f1,hc1,c1⟩:=hx.funs.at k hk
   simp only [Value.slice.injEq,true_and] at e1
   obtain ⟨rfl,rfl⟩:=e1
   obtain ⟨g2,o2,d2,cs2,e2,_,f2,hc2,c2⟩:=hy.funs.at k hk
   simp only [Value.slice.injEq,true_and] at e2
   obtain ⟨rfl,rfl⟩:=e2
   have hfx:=hS.funs.2 _ (List.getElem_mem hk)
   have l1:=(HFl.out _ hs).1 g1 f1
   have l2:=(HFl.out _ hs).2 g2 f2
   simp only at hc1 hc2 c1 c2 hfx
   generalize fs[k] = x at *
   obtain ⟨pv1,kv1,rfl,hT1,hK1⟩:=hc1
   obtain ⟨xpa,xpc,rfl⟩:=hT1.1.shape
   obtain ⟨xka,xkc,rfl⟩:=hK1.shape
   obtain ⟨pv2,kv2,rfl,hT2,hK2⟩:=hc2
   obtain ⟨ypa,ypc,rfl⟩:=hT2.1.shape
   obtain ⟨yka,ykc,rfl⟩:=hK2.shape
   have z0:wr.cell? ⟨g1,o1 + k * 6,none⟩ = some (.string (str x.name)):=c1 0 _ rfl
   have z1:wr.cell? ⟨g1,o1 + k * 6 + 1,none⟩ = some (.slice xpa x.params.length xpc):=c1 1 _ rfl
   have z2:wr.cell? ⟨g1,o1 + k * 6 + 2,none⟩ = some (.int .i64 x.caps):=c1 2 _ rfl
   have z3:wr.cell? ⟨g1,o1 + k * 6 + 3,none⟩ = some (.string (str x.res)):=c1 3 _ rfl
   have z4:wr.cell? ⟨g1,o1 + k * 6 + 4,none⟩ = some (.int .i64 x.locals):=c1 4 _ rfl
   have z5:wr.cell? ⟨g1,o1 + k * 6 + 5,none⟩ = some (.slice xka x.code.length xkc):=c1 5 _ rfl
   have y0:wr.cell? ⟨g2,o2 + k * 6,none⟩ = some (.string (str x.name)):=c2 0 _ rfl
   have y1:wr.cell? ⟨g2,o2 + k * 6 + 1,none⟩ = some (.slice ypa x.params.length ypc):=c2 1 _ rfl
   have y2:wr.cell? ⟨g2,o2 + k * 6 + 2,none⟩ = some (.int .i64 x.caps):=c2 2 _ rfl
   have y3:wr.cell? ⟨g2,o2 + k * 6 + 3,none⟩ = some (.string (str x.res)):=c2 3 _ rfl
   have y4:wr.cell? ⟨g2,o2 + k * 6 + 4,none⟩ = some (.int .i64 x.locals):=c2 4 _ rfl
   have y5:wr.cell? ⟨g2,o2 + k * 6 + 5,none⟩ = some (.slice yka x.code.length ykc):=c2 5 _ rfl
   obtain ⟨X,hX⟩:∃ X:Obj,X = .cells #[.string (str x.name),.slice xpa x.params.length xpc,.int .i64 x.caps,.string (str x.res),.int .i64 x.locals,.slice xka x.code.length xkc] 54:=⟨_,rfl⟩
   obtain ⟨Y,hY⟩:∃ X:Obj,X = .cells #[.string (str x.name),.slice ypa x.params.length ypc,.int .i64 x.caps,.string (str x.res),.int .i64 x.locals,.slice yka x.code.length ykc] 54:=⟨_,rfl⟩
   have nX:=World.alloc_heap_new wr X
   have bX:Below wr.heap.size wr (wr.alloc X):=(Below.refl _ _).alloc (Nat.le_refl _) _
   have sX:(wr.alloc X).heap.size = wr.heap.size + 1:=by simp
   have pb4':=(bX.cell (World.block_lt_of_cell? wr _ pb4)).trans pb4
   have y0':=(bX.cell (World.block_lt_of_cell? wr _ y0)).trans y0
   have y1':=(bX.cell (World.block_lt_of_cell? wr _ y1)).trans y1
   have y2':=(bX.cell (World.block_lt_of_cell? wr _ y2)).trans y2
   have y3':=(bX.cell (World.block_lt_of_cell? wr _ y3)).trans y3
   have y4':=(bX.cell (World.block_lt_of_cell? wr _ y4)).trans y4
   have y5':=(bX.cell (World.block_lt_of_cell? wr _ y5)).trans y5
   have nY:=World.alloc_heap_new (wr.alloc X) Y
   have bY:Below wr.heap.size wr ((wr.alloc X).alloc Y):=bX.alloc bX.size _
   have sY:((wr.alloc X).alloc Y).heap.size = wr.heap.size + 1 + 1:=by simp
   have nXY:=(Below.heap_alloc (wr.alloc X) Y wr.heap.size (by omega)).trans nX
   rw [sX] at nY
   have hcT:=keepTexts (fun g=>F g ∨ Fr w2 w3 g) G _ _ x.params ((wr.alloc X).alloc Y) (hT1.1.below bY (HFl.out _ hs).1) (hT2.1.below bY (HFl.out _ hs).2) (by have:=hfx.params.1; omega)
   have hcv1:∀ n:Nat,(convert 42 9 (.slice xka x.code.length xkc)).run Tryz.prog (((wr.alloc X).alloc Y).drewN n) = .ok (.string (str x.code)) (((wr.alloc X).alloc Y).drewN n):=fun n=>byR_string (hK1.frame (G:=(fun g=>F g ∨ Fr w2 w3 g)) fun g hg=>⟨hg,by show ((wr.alloc X).alloc Y).heap[g]? = _; exact bY.block g ((HFl.out _ hs).1 g hg)⟩)
   have hcv2:∀ n:Nat,(convert 42 9 (.slice yka x.code.length ykc)).run Tryz.prog (((wr.alloc X).alloc Y).drewN n) = .ok (.string (str x.code)) (((wr.alloc X).alloc Y).drewN n):=fun n=>byR_string (hK2.frame (G:=G) fun g hg=>⟨hg,by show ((wr.alloc X).alloc Y).heap[g]? = _; exact bY.block g ((HFl.out _ hs).2 g hg)⟩)
   subst hX hY
   obtain ⟨a0,a1,a2,a3,a4,a5⟩:=cells6 nXY
   obtain ⟨b0,b1,b2,b3,b4,b5⟩:=cells6 nY
   have hn1:((str x.name).toList != (str x.name).toList) = false:=by simp
   have hn2:((str x.res).toList != (str x.res).toList) = false:=by simp
   have hn3:((str x.code).toList != (str x.code).toList) = false:=by simp
   have GY:=Gr.trans (bY.mono hs)
   clear hx hy hz hT1 hT2 hK1 hK2 c1 c2 nX nY nXY bX bY
   go_wp2_with fail
   generalize ((wr.alloc (.cells #[.string (str x.name),.slice xpa x.params.length xpc,.int .i64 x.caps,.string (str x.res),.int .i64 x.locals,.slice xka x.code.length xkc] 54)).alloc (.cells #[.string (str x.name),.slice ypa x.params.length ypc,.int .i64 x.caps,.string (str x.res),.int .i64 x.locals,.slice yka x.code.length ykc] 54)) = wy at *
   refine hcT.mono ?_
   rintro e wz ⟨rfl,n9,rfl⟩
   have hcv1:=hcv1 n9
   have hcv2:=hcv2 n9
   have GZ:Below w4.heap.size w4 (wy.drewN n9):=GY.trans (belowK wy n9)
   clear hcT GY
   go_wp2
   go_roundg (fs.length - (k + 1))
   case measure=>omega
   case rel=>exact ⟨k + 1,by omega,by go_num,GZ⟩
  ·have hki:¬ (k:Int) < (fs.length:Int):=by omega
   rename World=>v1
   clear hx hy hz hs
   go_wp2_with fail
   clear pb4 px4
   go_loopg [9] ss.length (fun gk i wr=>∃ k:Nat,gk + k = ss.length ∧ i = .int .i64 (k:Int) ∧ Below w4.heap.size w4 wr)
   case atStart=>exact ⟨0,by omega,rfl,Gr⟩
   case round =>
    clear Gr hk hki
    obtain ⟨k,hg,rfl,Gr⟩:=hrel
    obtain ⟨⟨-, -, -, -, -, -, pb6, -⟩,⟨-, -, -, -, -, -, px6, -⟩,hx,hy,hz,hs⟩:=HX.out _ Gr
    have hfl:ss.length ≤ 65535:=hS.symbols.1
    by_cases hk:k < ss.length
    ·have hki:(k:Int) < (ss.length:Int):=by omega
     obtain ⟨g1,o1,d1,cs1,e1,_,f1,hc1,c1⟩:=hx.symbols.at k hk
     simp only [Value.slice.injEq,true_and] at e1
     obtain ⟨rfl,rfl⟩:=e1
     obtain ⟨g2,o2,d2,cs2,e2,_,f2,hc2,c2⟩:=hy.symbols.at k hk
     simp only [Value.slice.injEq,true_and] at e2
     obtain ⟨rfl,rfl⟩:=e2
     have hsx:=hok.symbols _ (List.getElem_mem hk)
     simp only at hc1 hc2 c1 c2 hsx
     generalize ss[k] = x at *
     obtain ⟨cv1,rfl,hT1⟩:=hc1
     obtain ⟨cv2,rfl,hT2⟩:=hc2
     have hcI:=keepItem (fun g=>F g ∨ Fr w2 w3 g) G x.item cv1 cv2 wr hT1 hT2 (HFl.out _ hs).1 (HFl.out _ hs).2 hsx.2
     have hcI':=keepItem (fun g=>F g ∨ Fr w2 w3 g) G x.item cv1 cv2 wr.drew hT1 hT2 (HFl.out _ hs).1 (HFl.out _ hs).2 hsx.2
     unfold itv at hcI hcI'
     obtain ⟨a1',c1',rfl⟩:=hT1.shape
     obtain ⟨a2',c2',rfl⟩:=hT2.shape
     have z0:wr.cell? ⟨g1,o1 + k * 5,none⟩ = some (.string (str x.mod)):=c1 0 _ rfl
     have z1:wr.cell? ⟨g1,o1 + k * 5 + 1,none⟩ = some (.int .i64 x.item.kind):=c1 1 _ rfl
     have z2:wr.cell? ⟨g1,o1 + k * 5 + 2,none⟩ = some (.string (str x.item.name)):=c1 2 _ rfl
     have z3:wr.cell? ⟨g1,o1 + k * 5 + 3,none⟩ = some (.string (str x.item.ty)):=c1 3 _ rfl
     have z4:wr.cell? ⟨g1,o1 + k * 5 + 4,none⟩ = some ((.slice a1' x.item.cases.length c1')):=c1 4 _ rfl
     have y0:wr.cell? ⟨g2,o2 + k * 5,none⟩ = some (.string (str x.mod)):=c2 0 _ rfl
     have y1:wr.cell? ⟨g2,o2 + k * 5 + 1,none⟩ = some (.int .i64 x.item.kind):=c2 1 _ rfl
     have y2:wr.cell? ⟨g2,o2 + k * 5 + 2,none⟩ = some (.string (str x.item.name)):=c2 2 _ rfl
     have y3:wr.cell? ⟨g2,o2 + k * 5 + 3,none⟩ = some (.string (str x.item.ty)):=c2 3 _ rfl
     have y4:wr.cell? ⟨g2,o2 + k * 5 + 4,none⟩ = some ((.slice a2' x.item.cases.length c2')):=c2 4 _ rfl
     have hn1:((str x.mod).toList != (str x.mod).toList) = false:=by simp
     have l1:=(HFl.out _ hs).1 g1 f1
     have l2:=(HFl.out _ hs).2 g2 f2
     have hCE:∀ u:World,(u.heap[w3.heap.size]? = wr.heap[w3.heap.size]? ∧ u.heap[w.heap.size + 1]? = wr.heap[w.heap.size + 1]? ∧ u.heap[g1]? = wr.heap[g1]? ∧ u.heap[g2]? = wr.heap[g2]?) → u.cell? ⟨w3.heap.size,6,none⟩ = some (.slice (some ⟨g1,o1,none⟩) ss.length xc6) ∧ u.cell? ⟨w.heap.size + 1,6,none⟩ = some (.slice (some ⟨g2,o2,none⟩) ss.length bc6) ∧ u.cell? ⟨g1,o1 + k * 5,none⟩ = some (.string (str x.mod)) ∧ u.cell? ⟨g1,o1 + k * 5 + 1,none⟩ = some (.int .i64 x.item.kind) ∧ u.cell? ⟨g1,o1 + k * 5 + 2,none⟩ = some (.string (str x.item.name)) ∧ u.cell? ⟨g1,o1 + k * 5 + 3,none⟩ = some (.string (str x.item.ty)) ∧ u.cell? ⟨g1,o1 + k * 5 + 4,none⟩ = some ((.slice a1' x.item.cases.length c1')) ∧ u.cell? ⟨g2,o2 + k * 5,none⟩ = some (.string (str x.mod)) ∧ u.cell? ⟨g2,o2 + k * 5 + 1,none⟩ = some (.int .i64 x.item.kind) ∧ u.cell? ⟨g2,o2 + k * 5 + 2,none⟩ = some (.string (str x.item.name)) ∧ u.cell? ⟨g2,o2 + k * 5 + 3,none⟩ = some (.string (str x.item.ty)) ∧ u.cell? ⟨g2,o2 + k * 5 + 4,none⟩ = some ((.slice a2' x.item.cases.length c2')):=fun u hu=>⟨(World.cell?_of_block (a:=⟨w3.heap.size,6,none⟩) hu.1).trans px6,(World.cell?_of_block (a:=⟨w.heap.size + 1,6,none⟩) hu.2.1).trans pb6,(World.cell?_of_block (a:=⟨g1,o1 + k * 5,none⟩) hu.2.2.1).trans z0,(World.cell?_of_block (a:=⟨g1,o1 + k * 5 + 1,none⟩) hu.2.2.1).trans z1,(World.cell?_of_block (a:=⟨g1,o1 + k * 5 + 2,none⟩) hu.2.2.1).trans z2,(World.cell?_of_block (a:=⟨g1,o1 + k * 5 + 3,none⟩) hu.2.2.1).trans z3,(World.cell?_of_block (a:=⟨g1,o1 + k * 5 + 4,none⟩) hu.2.2.1).trans z4,(World.cell?_of_block (a:=⟨g2,o2 + k * 5,none⟩) hu.2.2.2).trans y0,(World.cell?_of_block (a:=⟨g2,o2 + k * 5 + 1,none⟩) hu.2.2.2).trans y1,(World.cell?_of_block (a:=⟨g2,o2 + k * 5 + 2,none⟩) hu.2.2.2).trans y2,(World.cell?_of_block (a:=⟨g2,o2 + k * 5 + 3,none⟩) hu.2.2.2).trans y3,(World.cell?_of_block (a:=⟨g2,o2 + k * 5 + 4,none⟩) hu.2.2.2).trans y4⟩
     clear hx hy hz hT1 hT2 c1 c2 hcI
     go_upto_region 14 with fail
     (try dsimp only [List.append])
     refine wp_region_held (S:=(fun u=>u.heap[w3.heap.size]? = wr.heap[w3.heap.size]? ∧ u.heap[w.heap.size + 1]? = wr.heap[w.heap.size + 1]? ∧ u.heap[g1]? = wr.heap[g1]? ∧ u.heap[g2]? = wr.heap[g2]?)) (by kernel_rfl) ?_
     show wpAnyH Tryz.prog .any _ _ _ _ _ _ wr.drew
     have G0:(wr.drew.heap[w3.heap.size]? = wr.heap[w3.heap.size]? ∧ wr.drew.heap[w.heap.size + 1]? = wr.heap[w.heap.size + 1]? ∧ wr.drew.heap[g1]? = wr.heap[g1]? ∧ wr.drew.heap[g2]? = wr.heap[g2]?):=⟨rfl,rfl,rfl,rfl⟩
     refine wpAnyH_take (i:=0) (v := .pointer (some ⟨w3.heap.size,6,none⟩)) rfl (by kernel_rfl) (by kernel_rfl) (by kernel_rfl) (fun _ _ _ h=>h) (.inl ⟨by rfl,fun u hu=>by go_simp⟩) G0 ?_
     show wpAnyH Tryz.prog .any _ _ _ _ _ (Act.put _ (some 142) (.pointer (some ⟨w3.heap.size,6,none⟩))) _
     simp only [Act.put,List.setIfInBounds_toArray,List.set_cons_zero,List.set_cons_succ]
     refine wpAnyH_take (i:=1) (v := .slice (some ⟨g1,o1,none⟩) ss.length xc6) rfl (by kernel_rfl) (by kernel_rfl) (by kernel_rfl) (fun _ _ _ h=>h) (.inl ⟨by rfl,fun u hu=>by obtain ⟨e1,e2,f0,f1,f2,f3,f4,h0,h1,h2,h3,h4⟩:=hCE u hu; go_simp⟩) G0 ?_
     show wpAnyH Tryz.prog .any _ _ _ _ _ (Act.put _ (some 143) (.slice (some ⟨g1,o1,none⟩) ss.length xc6)) _
     simp only [Act.put,List.setIfInBounds_toArray,List.set_cons_zero,List.set_cons_succ]
     refine wpAnyH_take (i:=2) (v := .int .i64 (k:Int)) rfl (by kernel_rfl) (by kernel_rfl) (by kernel_rfl) (fun _ _ _ h=>h) (.inl ⟨by rfl,fun u hu=>by go_simp⟩) G0 ?_
     show wpAnyH Tryz.prog .any _ _ _ _ _ (Act.put _ (some 144) (.int .i64 (k:Int))) _
     simp only [Act.put,List.setIfInBounds_toArray,List.set_cons_zero,List.set_cons_succ]
     refine wpAnyH_take (i:=3) (v := .pointer (some ⟨g1,o1 + k * 5,none⟩)) rfl (by kernel_rfl) (by kernel_rfl) (by kernel_rfl) (fun _ _ _ h=>h) (.inl ⟨by rfl,fun u hu=>by go_simp⟩) G0 ?_
     show wpAnyH Tryz.prog .any _ _ _ _ _ (Act.put _ (some 145) (.pointer (some ⟨g1,o1 + k * 5,none⟩))) _
     simp only [Act.put,List.setIfInBounds_toArray,List.set_cons_zero,List.set_cons_succ]
     refine wpAnyH_take (i:=4) (v := .pointer (some ⟨g1,o1 + k * 5,none⟩)) rfl (by kernel_rfl) (by kernel_rfl) (by kernel_rfl) (fun _ _ _ h=>h) (.inl ⟨by rfl,fun u hu=>by go_simp⟩) G0 ?_
     show wpAnyH Tryz.prog .any _ _ _ _ _ (Act.put _ (some 146) (.pointer (some ⟨g1,o1 + k * 5,none⟩))) _
     simp only [Act.put,List.setIfInBounds_toArray,List.set_cons_zero,List.set_cons_succ]
     refine wpAnyH_take (i:=5) (v := .string (str x.mod)) rfl (by kernel_rfl) (by kernel_rfl) (by kernel_rfl) (fun _ _ _ h=>h) (.inl ⟨by rfl,fun u hu=>by obtain ⟨e1,e2,f0,f1,f2,f3,f4,h0,h1,h2,h3,h4⟩:=hCE u hu; go_simp⟩) G0 ?_
     show wpAnyH Tryz.prog .any _ _ _ _ _ (Act.put _ (some 147) (.string (str x.mod))) _
     simp only [Act.put,List.setIfInBounds_toArray,List.set_cons_zero,List.set_cons_succ]
     refine wpAnyH_take (i:=6) (v := .pointer (some ⟨w.heap.size + 1,6,none⟩)) rfl (by kernel_rfl) (by kernel_rfl) (by kernel_rfl) (fun _ _ _ h=>h) (.inl ⟨by rfl,fun u hu=>by go_simp⟩) G0 ?_
     show wpAnyH Tryz.prog .any _ _ _ _ _ (Act.put _ (some 148) (.pointer (some ⟨w.heap.size + 1,6,none⟩))) _
     simp only [Act.put,List.setIfInBounds_toArray,List.set_cons_zero,List.set_cons_succ]
     refine wpAnyH_take (i:=7) (v := .slice (some ⟨g2,o2,none⟩) ss.length bc6) rfl (by kernel_rfl) (by kernel_rfl) (by kernel_rfl) (fun _ _ _ h=>h) (.inl ⟨by rfl,fun u hu=>by obtain ⟨e1,e2,f0,f1,f2,f3,f4,h0,h1,h2,h3,h4⟩:=hCE u hu; go_simp⟩) G0 ?_
     show wpAnyH Tryz.prog .any _ _ _ _ _ (Act.put _ (some 149) (.slice (some ⟨g2,o2,none⟩) ss.length bc6)) _
     simp only [Act.put,List.setIfInBounds_toArray,List.set_cons_zero,List.set_cons_succ]
     refine wpAnyH_take (i:=8) (v := .int .i64 (k:Int)) rfl (by kernel_rfl) (by kernel_rfl) (by kernel_rfl) (fun _ _ _ h=>h) (.inl ⟨by rfl,fun u hu=>by go_simp⟩) G0 ?_
     show wpAnyH Tryz.prog .any _ _ _ _ _ (Act.put _ (some 150) (.int .i64 (k:Int))) _
     simp only [Act.put,List.setIfInBounds_toArray,List.set_cons_zero,List.set_cons_succ]
     refine wpAnyH_take (i:=9) (v := .pointer (some ⟨g2,o2 + k * 5,none⟩)) rfl (by kernel_rfl) (by kernel_rfl) (by kernel_rfl) (fun _ _ _ h=>h) (.inl ⟨by rfl,fun u hu=>by go_simp⟩) G0 ?_
     show wpAnyH Tryz.prog .any _ _ _ _ _ (Act.put _ (some 151) (.pointer (some ⟨g2,o2 + k * 5,none⟩))) _
     simp only [Act.put,List.setIfInBounds_toArray,List.set_cons_zero,List.set_cons_succ]
     refine wpAnyH_take (i:=10) (v := .pointer (some ⟨g2,o2 + k * 5,none⟩)) rfl (by kernel_rfl) (by kernel_rfl) (by kernel_rfl) (fun _ _ _ h=>h) (.inl ⟨by rfl,fun u hu=>by go_simp⟩) G0 ?_
     show wpAnyH Tryz.prog .any _ _ _ _ _ (Act.put _ (some 152) (.pointer (some ⟨g2,o2 + k * 5,none⟩))) _
     simp only [Act.put,List.setIfInBounds_toArray,List.set_cons_zero,List.set_cons_succ]
     refine wpAnyH_take (i:=11) (v := .string (str x.mod)) rfl (by kernel_rfl) (by kernel_rfl) (by kernel_rfl) (fun _ _ _ h=>h) (.inl ⟨by rfl,fun u hu=>by obtain ⟨e1,e2,f0,f1,f2,f3,f4,h0,h1,h2,h3,h4⟩:=hCE u hu; go_simp⟩) G0 ?_
     show wpAnyH Tryz.prog .any _ _ _ _ _ (Act.put _ (some 153) (.string (str x.mod))) _
     simp only [Act.put,List.setIfInBounds_toArray,List.set_cons_zero,List.set_cons_succ]
     refine wpAnyH_take (i:=12) (v := .bool false) rfl (by kernel_rfl) (by kernel_rfl) (by kernel_rfl) (fun _ _ _ h=>h) (.inl ⟨by rfl,fun u hu=>by go_simp⟩) G0 ?_
     show wpAnyH Tryz.prog .any _ _ _ _ _ (Act.put _ (some 154) (.bool false)) _
     simp only [Act.put,List.setIfInBounds_toArray,List.set_cons_zero,List.set_cons_succ]
     refine wpAnyH_take (i:=13) (v := .bool false) rfl (by kernel_rfl) (by kernel_rfl) (by kernel_rfl) (fun _ _ _ h=>h) (.inl ⟨by rfl,fun u hu=>by go_simp⟩) G0 ?_
     show wpAnyH Tryz.prog .any _ _ _ _ _ (Act.put _ (some 155) (.bool false)) _
     simp only [Act.put,List.setIfInBounds_toArray,List.set_cons_zero,List.set_cons_succ]
     refine wpAnyH_take (i:=14) (v := .pointer (some ⟨w3.heap.size,6,none⟩)) rfl (by kernel_rfl) (by kernel_rfl) (by kernel_rfl) (fun _ _ _ h=>h) (.inl ⟨by rfl,fun u hu=>by go_simp⟩) G0 ?_
     show wpAnyH Tryz.prog .any _ _ _ _ _ (Act.put _ (some 156) (.pointer (some ⟨w3.heap.size,6,none⟩))) _
     simp only [Act.put,List.setIfInBounds_toArray,List.set_cons_zero,List.set_cons_succ]
     refine wpAnyH_take (i:=15) (v := .slice (some ⟨g1,o1,none⟩) ss.length xc6) rfl (by kernel_rfl) (by kernel_rfl) (by kernel_rfl) (fun _ _ _ h=>h) (.inl ⟨by rfl,fun u hu=>by obtain ⟨e1,e2,f0,f1,f2,f3,f4,h0,h1,h2,h3,h4⟩:=hCE u hu; go_simp⟩) G0 ?_
     show wpAnyH Tryz.prog .any _ _ _ _ _ (Act.put _ (some 157) (.slice (some ⟨g1,o1,none⟩) ss.length xc6)) _
     simp only [Act.put,List.setIfInBounds_toArray,List.set_cons_zero,List.set_cons_succ]
     refine wpAnyH_take (i:=16) (v := .int .i64 (k:Int)) rfl (by kernel_rfl) (by kernel_rfl) (by kernel_rfl) (fun _ _ _ h=>h) (.inl ⟨by rfl,fun u hu=>by go_simp⟩) G0 ?_
     show wpAnyH Tryz.prog .any _ _ _ _ _ (Act.put _ (some 158) (.int .i64 (k:Int))) _
     simp only [Act.put,List.setIfInBounds_toArray,List.set_cons_zero,List.set_cons_succ]
     refine wpAnyH_take (i:=17) (v := .pointer (some ⟨g1,o1 + k * 5,none⟩)) rfl (by kernel_rfl) (by kernel_rfl) (by kernel_rfl) (fun _ _ _ h=>h) (.inl ⟨by rfl,fun u hu=>by go_simp⟩) G0 ?_
     show wpAnyH Tryz.prog .any _ _ _ _ _ (Act.put _ (some 159) (.pointer (some ⟨g1,o1 + k * 5,none⟩))) _
     simp only [Act.put,List.setIfInBounds_toArray,List.set_cons_zero,List.set_cons_succ]
     refine wpAnyH_take (i:=18) (v := .pointer (some ⟨g1,o1 + k * 5 + 1,none⟩)) rfl (by kernel_rfl) (by kernel_rfl) (by kernel_rfl) (fun _ _ _ h=>h) (.inl ⟨by rfl,fun u hu=>by go_simp⟩) G0 ?_
     show wpAnyH Tryz.prog .any _ _ _ _ _ (Act.put _ (some 160) (.pointer (some ⟨g1,o1 + k * 5 + 1,none⟩))) _
     simp only [Act.put,List.setIfInBounds_toArray,List.set_cons_zero,List.set_cons_succ]
     refine wpAnyH_take (i:=19) (v := .agg #[.int .i64 x.item.kind,.string (str x.item.name),.string (str x.item.ty),.slice a1' x.item.cases.length c1']) rfl (by kernel_rfl) (by kernel_rfl) (by kernel_rfl) (fun _ _ _ h=>h) (.inl ⟨by rfl,fun u hu=>by obtain ⟨e1,e2,f0,f1,f2,f3,f4,h0,h1,h2,h3,h4⟩:=hCE u hu; go_simp⟩) G0 ?_
     show wpAnyH Tryz.prog .any _ _ _ _ _ (Act.put _ (some 161) (.agg #[.int .i64 x.item.kind,.string (str x.item.name),.string (str x.item.ty),.slice a1' x.item.cases.length c1'])) _
     simp only [Act.put,List.setIfInBounds_toArray,List.set_cons_zero,List.set_cons_succ]
     refine wpAnyH_take (i:=20) (v := .pointer (some ⟨w.heap.size + 1,6,none⟩)) rfl (by kernel_rfl) (by kernel_rfl) (by kernel_rfl) (fun _ _ _ h=>h) (.inl ⟨by rfl,fun u hu=>by go_simp⟩) G0 ?_
     show wpAnyH Tryz.prog .any _ _ _ _ _ (Act.put _ (some 162) (.pointer (some ⟨w.heap.size + 1,6,none⟩))) _
     simp only [Act.put,List.setIfInBounds_toArray,List.set_cons_zero,List.set_cons_succ]
     refine wpAnyH_take (i:=21) (v := .slice (some ⟨g2,o2,none⟩) ss.length bc6) rfl (by kernel_rfl) (by kernel_rfl) (by kernel_rfl) (fun _ _ _ h=>h) (.inl ⟨by rfl,fun u hu=>by obtain ⟨e1,e2,f0,f1,f2,f3,f4,h0,h1,h2,h3,h4⟩:=hCE u hu; go_simp⟩) G0 ?_
     show wpAnyH Tryz.prog .any _ _ _ _ _ (Act.put _ (some 163) (.slice (some ⟨g2,o2,none⟩) ss.length bc6)) _
     simp only [Act.put,List.setIfInBounds_toArray,List.set_cons_zero,List.set_cons_succ]
     refine wpAnyH_take (i:=22) (v := .int .i64 (k:Int)) rfl (by kernel_rfl) (by kernel_rfl) (by kernel_rfl) (fun _ _ _ h=>h) (.inl ⟨by rfl,fun u hu=>by go_simp⟩) G0 ?_
     show wpAnyH Tryz.prog .any _ _ _ _ _ (Act.put _ (some 164) (.int .i64 (k:Int))) _
     simp only [Act.put,List.setIfInBounds_toArray,List.set_cons_zero,List.set_cons_succ]
     refine wpAnyH_take (i:=23) (v := .pointer (some ⟨g2,o2 + k * 5,none⟩)) rfl (by kernel_rfl) (by kernel_rfl) (by kernel_rfl) (fun _ _ _ h=>h) (.inl ⟨by rfl,fun u hu=>by go_simp⟩) G0 ?_
     show wpAnyH Tryz.prog .any _ _ _ _ _ (Act.put _ (some 165) (.pointer (some ⟨g2,o2 + k * 5,none⟩))) _
     simp only [Act.put,List.setIfInBounds_toArray,List.set_cons_zero,List.set_cons_succ]
     refine wpAnyH_take (i:=24) (v := .pointer (some ⟨g2,o2 + k * 5 + 1,none⟩)) rfl (by kernel_rfl) (by kernel_rfl) (by kernel_rfl) (fun _ _ _ h=>h) (.inl ⟨by rfl,fun u hu=>by go_simp⟩) G0 ?_
     show wpAnyH Tryz.prog .any _ _ _ _ _ (Act.put _ (some 166) (.pointer (some ⟨g2,o2 + k * 5 + 1,none⟩))) _
     simp only [Act.put,List.setIfInBounds_toArray,List.set_cons_zero,List.set_cons_succ]
     refine wpAnyH_take (i:=25) (v := .agg #[.int .i64 x.item.kind,.string (str x.item.name),.string (str x.item.ty),.slice a2' x.item.cases.length c2']) rfl (by kernel_rfl) (by kernel_rfl) (by kernel_rfl) (fun _ _ _ h=>h) (.inl ⟨by rfl,fun u hu=>by obtain ⟨e1,e2,f0,f1,f2,f3,f4,h0,h1,h2,h3,h4⟩:=hCE u hu; go_simp⟩) G0 ?_
     show wpAnyH Tryz.prog .any _ _ _ _ _ (Act.put _ (some 167) (.agg #[.int .i64 x.item.kind,.string (str x.item.name),.string (str x.item.ty),.slice a2' x.item.cases.length c2'])) _
     simp only [Act.put,List.setIfInBounds_toArray,List.set_cons_zero,List.set_cons_succ]
     refine wpAnyH_ready (rs:=[26]) (by kernel_rfl) (by simp) ?_
     refine AllReadyH.cons rfl (fun K hK=>?_) AllReadyH.nil
     go_simp
     refine hcI'.mono ?_
     rintro e w9 ⟨rfl,hb9⟩
     have G1:(w9.heap[w3.heap.size]? = wr.heap[w3.heap.size]? ∧ w9.heap[w.heap.size + 1]? = wr.heap[w.heap.size + 1]? ∧ w9.heap[g1]? = wr.heap[g1]? ∧ w9.heap[g2]? = wr.heap[g2]?):=⟨hb9.block _ (by show w3.heap.size < wr.heap.size; omega),hb9.block _ (by show w.heap.size + 1 < wr.heap.size; omega),hb9.block _ l1,hb9.block _ l2⟩
     refine hK _ _ G1 (fun _=>?_)
     clear hK K
     refine wpAnyH_take (i:=27) (v := .bool false) rfl (by kernel_rfl) (by kernel_rfl) (by kernel_rfl) (fun _ _ _ h=>h) (.inl ⟨by rfl,fun u hu=>by go_simp⟩) G1 ?_
     show wpAnyH Tryz.prog .any _ _ _ _ _ (Act.put _ (some 169) (.bool false)) _
     simp only [Act.put,List.setIfInBounds_toArray]
     refine wpAnyH_take (i:=28) (v := .bool false) rfl (by kernel_rfl) (by kernel_rfl) (by kernel_rfl) (fun _ _ _ h=>h) (.inl ⟨by rfl,fun u hu=>by go_simp⟩) G1 ?_
     show wpAnyH Tryz.prog .any _ _ _ _ _ (Act.put _ (some 170) (.bool false)) _
     simp only [Act.put,List.setIfInBounds_toArray,List.set_cons_zero,List.set_cons_succ]
     refine wpAnyH_done (by kernel_rfl) ?_ _
     have G9:Below w4.heap.size w4 w9:=(Gr.drew).trans (hb9.mono hs)
     clear hcI' hb9 G0 G1 hCE
     go_wp2
     go_roundg (ss.length - (k + 1))
     case measure=>omega
     case rel=>exact ⟨k + 1,by omega,by go_num,G9⟩
    ·have hki:¬ (k:Int) < (ss.length:Int):=by omega
     go_wp2
     go_ret
     exact ⟨rfl,hz⟩
end Go.Proofs.YtiiepfplommmfaaGreatDoor
