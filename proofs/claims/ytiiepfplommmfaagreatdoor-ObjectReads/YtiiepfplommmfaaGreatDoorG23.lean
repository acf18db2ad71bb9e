/-
  The document's own objects: Own, defines.
  And: Right: the refusal and its number, given what is answered of each element.
-/
import Derived.Deep.LoopGhost
import Derived.Deep.CutRange
import Derived.Test.YtiiepfplommmfaaGreatDoorG21
import Derived.Test.YtiiepfplommmfaaGreatDoorG22
import Derived.Laws.EntriesVeiled
import Derived.Test.YtiiepfplommmfaaGreatDoorG17
namespace Go.Proofs.YtiiepfplommmfaaGreatDoor
open Go.RowKit

def OwnE (F:Nat → Prop) (o:Ob) (q:List UInt8) (w:World) (e:Ending) (w':World):Prop:=∃ x cv,e = .returned (.tuple #[itv x cv,.bool (ownQ o q).isSome]) ∧ x = (ownQ o q).getD it00 ∧ CsR F w' cv x.cases ∧ Below w.heap.size w w'
def SgOk (o:Ob):Prop:=∀ f ∈ o.funs,f.params.length ≤ 100000 ∧ (∀ y ∈ f.params,y.length ≤ 1000) ∧ f.res.length ≤ 1000
set_option maxHeartbeats 4000000 in
set_option maxRecDepth 1000000 in
theorem rOwn (F:Nat → Prop) (u:ObV) (o:Ob) (q:List UInt8) (w:World) (h:ObR F w u o) (hF:∀ g,F g → g < w.heap.size) (hok:ObOk o) (hsg:SgOk o):Calls Tryz.prog 54 #[obv u o.mod,.string (str q)] w (OwnE F o q w):=by
 have HO:=hidden (ownTq_zero o q)
 have HTy':=hidden (ownTq_yes o q)
 have HTn:=hidden (ownTq_no o q)
 have HTe:=hidden (ownTq_end o q)
 have HGy:=hidden (ownGq_yes o q)
 have HGn:=hidden (ownGq_no o q)
 have HGe:=hidden (ownGq_end o q)
 have HFy:=hidden (ownFq_yes o q)
 have HFn':=hidden (ownFq_no o q)
 have HFe:=hidden (ownFq_end o q)
 have HSg:=hidden hsg
 unfold OwnE
 generalize ownQ o q = ow at *
 generalize ownTq o q = oT at *
 generalize ownGq o q = oG at *
 generalize ownFq o q = oF at *
 have hnn:=nil_text q
 have hTy:=h.types
 have hGl:=h.globals
 have hFn:=h.funs
 obtain ⟨a2,c2,e2⟩:=h.texts.1.shape
 obtain ⟨a5,c5,e5⟩:=h.exports.1.shape
 obtain ⟨a6,c6,e6⟩:=h.symbols.shape
 obtain ⟨a7,c7,e7⟩:=h.relocs.shape
 have hnt:=hok.nt
 have hng:=hok.ng
 have hnf:=hok.nf
 obtain ⟨m,ts,xs,gs,fs,es,ss,rs⟩:=o
 obtain ⟨tv,xv,gv,fv,ev,sv,rv⟩:=u
 unfold obv
 unfold SgOk at HSg
 simp only at *
 subst e2 e5 e6 e7
 obtain ⟨a1,c1,rfl⟩:=hTy.shape
 obtain ⟨a3,c3,rfl⟩:=hGl.shape
 obtain ⟨a4,c4,rfl⟩:=hFn.shape
 generalize xs.length = n2 at *
 generalize es.length = n5 at *
 generalize ss.length = n6 at *
 generalize rs.length = n7 at *
 generalize hW:w.alloc (.cells #[.string (str m),.slice a1 ts.length c1,.slice a2 n2 c2,.slice a3 gs.length c3,.slice a4 fs.length c4,.slice a5 n5 c5,.slice a6 n6 c6,.slice a7 n7 c7] 35) = W0 at *
 have hb0:Below w.heap.size w W0:=by rw [← hW]; exact (Below.refl _ _).alloc (Nat.le_refl _) _
 have hs0:W0.heap.size = w.heap.size + 1:=by rw [← hW]; simp
 have hN0:=heap_alloc_new w (.cells #[.string (str m),.slice a1 ts.length c1,.slice a2 n2 c2,.slice a3 gs.length c3,.slice a4 fs.length c4,.slice a5 n5 c5,.slice a6 n6 c6,.slice a7 n7 c7] 35)
 rw [hW] at hN0
 generalize hW1:W0.alloc (.cells #[.int .i64 0,.string ⟨#[]⟩,.string ⟨#[]⟩,.slice none 0 0] 77) = W1 at *
 have hb1:Below W0.heap.size W0 W1:=by rw [← hW1]; exact (Below.refl _ _).alloc (Nat.le_refl _) _
 have hs1:W1.heap.size = w.heap.size + 2:=by rw [← hW1]; simp; omega
 have hN1:=heap_alloc_new W0 (.cells #[.int .i64 0,.string ⟨#[]⟩,.string ⟨#[]⟩,.slice none 0 0] 77)
 rw [hW1,hs0] at hN1
 have hbw:Below w.heap.size w W1:=below_trans hb0 hb1
 have HC:∀ u,Below W1.heap.size W1 u → u.cell? ⟨w.heap.size,1,none⟩ = some (.slice a1 ts.length c1) ∧ u.cell? ⟨w.heap.size,3,none⟩ = some (.slice a3 gs.length c3) ∧ u.cell? ⟨w.heap.size,4,none⟩ = some (.slice a4 fs.length c4) ∧ u.heap[w.heap.size + 1]? = some (.cells #[.int .i64 0,.string ⟨#[]⟩,.string ⟨#[]⟩,.slice none 0 0] 77 (0,0)) ∧ Below w.heap.size w u:=by
  intro u hu
  have n0:=(hu.block w.heap.size (by omega)).trans ((hb1.block _ (by omega)).trans hN0)
  have n1:=(hu.block (w.heap.size + 1) (by omega)).trans hN1
  exact ⟨by rw [cell_of_row u _ 1 _ _ _ n0]; rfl,by rw [cell_of_row u _ 3 _ _ _ n0]; rfl,by rw [cell_of_row u _ 4 _ _ _ n0]; rfl,n1,below_trans hbw hu⟩
 have HCh:=hidden HC
 obtain ⟨z1,z3,z4,z9,_⟩:=HC W1 (Below.refl _ _)
 have HTy:=hidden hTy
 have HGl:=hidden hGl
 have HFn:=hidden hFn
 clear h hTy hGl hFn hsg HC hN0 hN1 hok z9
 go_enter Tryz.func54,Tryz.ntmps54
 go_wp2_with fail
 go_loopg [6] ts.length (fun g i wr=>∃ (k:Nat),g + k = ts.length ∧ i = .int .i64 (k:Int) ∧ Hid (ow = oT k) ∧ wr = W1)
 case atStart=>exact ⟨0,by omega,rfl,HO,rfl⟩
 case round =>
  obtain ⟨k,hgk,rfl,hqk,rfl⟩:=hrel
  obtain ⟨y1,y3,y4,y9,hwr⟩:=HCh.out wr (Below.refl _ _)
  by_cases hk:k < ts.length
  ·obtain ⟨g,of,cap,cv,e1,hgF,hcv,q0,q1,q2,q3⟩:=(HTy.out.below hwr hF).at k hk
   simp only [Value.slice.injEq,true_and] at e1
   obtain ⟨rfl,rfl⟩:=e1
   have hki:(k:Int) < (ts.length:Int):=by omega
   have he:=eq_is ts[k].name q
   have hYes:=HTy'.out k hk
   have hNo:=HTn.out k hk
   generalize ts[k] = it at *
   obtain ⟨kd,nm,ty,cs⟩:=it
   simp only at *
   obtain ⟨ca,cc,rfl⟩:=hcv.shape
   by_cases hn:nm = q
   ·rw [decide_eq_true hn] at he
    have HX:Hid (ow = some ⟨kd,nm,ty,cs⟩):=by rw [hid_iff,hqk.out,hYes hn]
    have HCV:=hidden hcv
    clear hn hYes hNo hqk hcv
    obtain ⟨r0,r1,r2,r3,rf0,rf1,rf2,rf3⟩:=four4 y9
    have hbe:=box4_below hwr (b:=w.heap.size + 1) (by omega) (.int .i64 kd) (.string (str nm)) (.string (str ty)) (.slice ca cs.length cc)
    have HB:=hidden hbe
    have HCF:Hid (CsR F ((((wr.setCell ⟨w.heap.size + 1,0,none⟩ (.int .i64 kd)).setCell ⟨w.heap.size + 1,1,none⟩ (.string (str nm))).setCell ⟨w.heap.size + 1,2,none⟩ (.string (str ty))).setCell ⟨w.heap.size + 1,3,none⟩ (.slice ca cs.length cc)) (.slice ca cs.length cc) cs):=HCV.out.frame fun g hg=>⟨hg,by have:=hF g hg; have hs:=hwr.size; exact (hbe.block g this).trans (hwr.block g this).symm⟩
    clear hbe HCV
    go_wp2
    (try simp only [Exit.inBlock,Exit.then])
    refine bodyPost_ret (res7 rfl _ _ (w.heap.size + 1) 77 _ (0,0) _ rfl (box4_set y9 _ _ _ _) Tryz.underlying77 rfl sizeIt) rfl ?_
    exact ⟨⟨kd,nm,ty,cs⟩,.slice ca cs.length cc,by rw [HX.out]; rfl,by rw [HX.out]; rfl,HCF.out,HB.out⟩
   ·rw [decide_eq_false hn] at he
    have HX:Hid (ow = oT (k + 1)):=by rw [hid_iff,hqk.out,hNo hn]
    clear hn hYes hNo hqk hcv
    go_wp2
    go_roundg (ts.length - (k + 1))
    case measure=>omega
    case rel=>exact ⟨k + 1,by omega,by go_num,HX,rfl⟩
  ·have hki:¬ (k:Int) < (ts.length:Int):=by omega
   have HX0:Hid (ow = oG 0):=by rw [hid_iff,hqk.out]; exact HTe.out k hk
   clear hqk hgk hk
   go_wp2_with fail
   go_loopg [7] gs.length (fun g i wr'=>∃ (k:Nat),g + k = gs.length ∧ i = .int .i64 (k:Int) ∧ Hid (ow = oG k) ∧ Below wr.heap.size wr wr')
   case atStart=>exact ⟨0,by omega,rfl,HX0,Below.refl _ _⟩
   case round =>
    clear y1 y3 y4 y9 hwr hki HX0
    obtain ⟨k2,hgk,rfl,hqk,hbl⟩:=hrel
    rename World=>wi
    obtain ⟨y1,y3,y4,y9,hwr⟩:=HCh.out wi hbl
    by_cases hk:k2 < gs.length
    ·obtain ⟨g,of,cap,cs,e1,_,hgF,hC,hcell⟩:=(HGl.out.below cGl_stay hwr hF).at k2 hk
     simp only [Value.slice.injEq,true_and] at e1
     obtain ⟨rfl,rfl⟩:=e1
     unfold cGl at hC
     subst hC
     have q0:=hcell 0 _ rfl
     have q1:=hcell 1 _ rfl
     have q2:=hcell 2 _ rfl
     simp only [Nat.add_zero] at q0
     have hki:(k2:Int) < (gs.length:Int):=by omega
     have he:=eq_is gs[k2].name q
     have hYes:=HGy.out k2 hk
     have hNo:=HGn.out k2 hk
     generalize gs[k2].name = xn at *
     generalize gs[k2].ty = xt at *
     clear hcell
     by_cases hn:xn = q
     ·rw [decide_eq_true hn] at he
      have HX:Hid (ow = some ⟨2,q,xt,[]⟩):=by rw [hid_iff,hqk.out,hYes hn]
      obtain ⟨r0,r1,r2,r3,rf0,rf1,rf2,rf3⟩:=four4 y9
      clear hn hYes hNo hqk
      go_wp2
      (try simp only [Exit.inBlock,Exit.then])
      refine bodyPost_ret (res7 rfl _ _ (w.heap.size + 1) 77 _ (0,0) _ rfl (box4_set y9 _ _ _ _) Tryz.underlying77 rfl sizeIt) rfl ?_
      exact ⟨⟨2,q,xt,[]⟩,.slice none 0 0,by rw [HX.out]; rfl,by rw [HX.out]; rfl,CsR.nil _ _,box4_below hwr (by omega) _ _ _ _⟩
     ·rw [decide_eq_false hn] at he
      have HX:Hid (ow = oG (k2 + 1)):=by rw [hid_iff,hqk.out,hNo hn]
      clear hn hYes hNo hqk
      go_wp2
      go_roundg (gs.length - (k2 + 1))
      case measure=>omega
      case rel=>exact ⟨k2 + 1,by omega,by go_num,HX,hbl⟩
    ·have hki:¬ (k2:Int) < (gs.length:Int):=by omega
     have HX1:Hid (ow = oF 0):=by rw [hid_iff,hqk.out]; exact HGe.out k2 hk
     clear hqk hgk hk
     go_wp2_with fail
     go_loopg [8] fs.length (fun g i wr'=>∃ (k:Nat),g + k = fs.length ∧ i = .int .i64 (k:Int) ∧ Hid (ow = oF k) ∧ Below wr.heap.size wr wr')
     case atStart=>exact ⟨0,by omega,rfl,HX1,hbl⟩
     case round =>
      clear y1 y3 y4 y9 hwr hki HX1 hbl
      obtain ⟨k3,hgk,rfl,hqk,hbl⟩:=hrel
      rename World=>wj
      obtain ⟨y1,y3,y4,y9,hwr⟩:=HCh.out wj hbl
      by_cases hk:k3 < fs.length
      ·obtain ⟨g,of,cap,cs,e1,_,hgF,hC,hcell⟩:=(HFn.out.below cFn_stay hwr hF).at k3 hk
       simp only [Value.slice.injEq,true_and] at e1
       obtain ⟨rfl,rfl⟩:=e1
       obtain ⟨pv,kv,rfl,hpv,hkv⟩:=hC
       have q0:=hcell 0 _ rfl
       have q1:=hcell 1 _ rfl
       have q2:=hcell 2 _ rfl
       have q3:=hcell 3 _ rfl
       have q4:=hcell 4 _ rfl
       have q5:=hcell 5 _ rfl
       simp only [Nat.add_zero] at q0
       have hki:(k3:Int) < (fs.length:Int):=by omega
       have he:=eq_is fs[k3].name q
       have hYes:=HFy.out k3 hk
       have hNo:=HFn'.out k3 hk
       obtain ⟨o1,o2,o3⟩:=HSg.out _ (List.getElem_mem hk)
       obtain ⟨pa,pc,rfl⟩:=hpv.1.shape
       obtain ⟨ka,kc,rfl⟩:=hkv.shape
       have hSg:=rSign F fs[k3] (.slice pa fs[k3].params.length pc) (.slice ka fs[k3].code.length kc) wj hpv (fun g hg=>Nat.lt_of_lt_of_le (hF g hg) hwr.size) o1 o2 o3
       unfold fnv TextB at hSg
       generalize signO fs[k3] = sg at *
       generalize fs[k3].name = xn at *
       generalize fs[k3].caps = xp at *
       generalize fs[k3].res = xt at *
       generalize fs[k3].locals = xl at *
       generalize fs[k3].params.length = np at *
       generalize fs[k3].code.length = nc at *
       have hsr:=hbl.size
       clear hcell hpv hkv o1 o2 o3
       by_cases hq0:q = []
       ·rw [decide_eq_true hq0] at hnn
        have hnq:(str q).toList = []:=by rw [← List.isEmpty_iff]; exact hnn
        have HX:Hid (ow = oF (k3 + 1)):=by rw [hid_iff,hqk.out,hNo (.inl hq0)]
        clear hYes hNo hqk hSg hq0
        go_wp2
        go_roundg (fs.length - (k3 + 1))
        case measure=>omega
        case rel=>exact ⟨k3 + 1,by omega,by go_num,HX,hbl⟩
       ·rw [decide_eq_false hq0] at hnn
        have hnq:¬ (str q).toList = []:=by
         intro hh
         rw [hh] at hnn
         cases hnn
        by_cases hn:xn = q
        ·rw [decide_eq_true hn] at he
         have HX:Hid (ow = some ⟨3,q,sg,[]⟩):=by rw [hid_iff,hqk.out,hYes hq0 hn]
         clear hn hYes hNo hqk hq0
         go_wp2_with fail
         refine hSg.mono ?_
         rintro e wb ⟨rfl,hcb⟩
         obtain ⟨-, -, -, g9,gw⟩:=HCh.out wb (below_trans hbl hcb)
         obtain ⟨r0,r1,r2,r3,rf0,rf1,rf2,rf3⟩:=four4 g9
         clear hSg y1 y3 y4 y9 q0 q1 q2 q3 q4 q5
         go_wp2
         (try simp only [Exit.inBlock,Exit.then])
         refine bodyPost_ret (res7 rfl _ _ (w.heap.size + 1) 77 _ (0,0) _ rfl (box4_set g9 _ _ _ _) Tryz.underlying77 rfl sizeIt) rfl ?_
         exact ⟨⟨3,q,sg,[]⟩,.slice none 0 0,by rw [HX.out]; rfl,by rw [HX.out]; rfl,CsR.nil _ _,box4_below gw (by omega) _ _ _ _⟩
        ·rw [decide_eq_false hn] at he
         have HX:Hid (ow = oF (k3 + 1)):=by rw [hid_iff,hqk.out,hNo (.inr hn)]
         clear hn hYes hNo hqk hSg hq0
         go_wp2
         go_roundg (fs.length - (k3 + 1))
         case measure=>omega
         case rel=>exact ⟨k3 + 1,by omega,by go_num,HX,hbl⟩
      ·have hki:¬ (k3:Int) < (fs.length:Int):=by omega
       have HX:Hid (ow = none):=by rw [hid_iff,hqk.out]; exact HFe.out k3 hk
       obtain ⟨r0,r1,r2,r3,rf0,rf1,rf2,rf3⟩:=four4 y9
       clear hqk hgk hk
       go_wp2
       (try simp only [Exit.inBlock,Exit.then])
       refine bodyPost_ret (res7 rfl _ _ (w.heap.size + 1) 77 _ (0,0) _ rfl (box4_set y9 _ _ _ _) Tryz.underlying77 rfl sizeIt) rfl ?_
       exact ⟨⟨0,[],[],[]⟩,.slice none 0 0,by rw [HX.out]; rfl,by rw [HX.out]; rfl,CsR.nil _ _,box4_below hwr (by omega) _ _ _ _⟩
theorem sizeObQ:(Tryz.prog.info? 35).map (·.size) = some 8:=by kernel_rfl
set_option maxHeartbeats 1000000 in
set_option maxRecDepth 1000000 in
theorem rdefines (F:Nat → Prop) (u:ObV) (o:Ob) (q:List UInt8) (w:World) (h:ObR F w u o) (hF:∀ g,F g → g < w.heap.size) (hok:ObOk o) (hsg:SgOk o):Calls Tryz.prog 37 #[obv u o.mod,.string (str q)] w (BoolB (ownQ o q).isSome w):=by
 have hO:∀ v,Below w.heap.size w v → Calls Tryz.prog 54 #[obv u o.mod,.string (str q)] v (OwnE F o q v):=fun v hv=>rOwn F u o q v (h.below hv hF) (fun g hg=>Nat.lt_of_lt_of_le (hF g hg) hv.size) hok hsg
 unfold OwnE at hO
 generalize ownQ o q = ow at *
 obtain ⟨a1,c1,e1⟩:=h.types.shape
 obtain ⟨a2,c2,e2⟩:=h.texts.1.shape
 obtain ⟨a3,c3,e3⟩:=h.globals.shape
 obtain ⟨a4,c4,e4⟩:=h.funs.shape
 obtain ⟨a5,c5,e5⟩:=h.exports.1.shape
 obtain ⟨a6,c6,e6⟩:=h.symbols.shape
 obtain ⟨a7,c7,e7⟩:=h.relocs.shape
 clear h hok hsg
 obtain ⟨m,ts,xs,gs,fs,es,ss,rs⟩:=o
 obtain ⟨tv,xv,gv,fv,ev,sv,rv⟩:=u
 unfold obv at *
 simp only at *
 subst e1 e2 e3 e4 e5 e6 e7
 have hb0:∀ A,Below w.heap.size w (w.alloc (.cells A 35)):=fun A=>(Below.refl _ _).alloc (Nat.le_refl _) _
 have hN0:=heap_alloc_new w (.cells #[.string (str m),.slice a1 ts.length c1,.slice a2 xs.length c2,.slice a3 gs.length c3,.slice a4 fs.length c4,.slice a5 es.length c5,.slice a6 ss.length c6,.slice a7 rs.length c7] 35)
 have hO1:=hO _ (hb0 #[.string (str m),.slice a1 ts.length c1,.slice a2 xs.length c2,.slice a3 gs.length c3,.slice a4 fs.length c4,.slice a5 es.length c5,.slice a6 ss.length c6,.slice a7 rs.length c7])
 clear hO
 go_enter Tryz.func37,Tryz.ntmps37
 go_wp2_with (first
  | (refine wpList_load_row rfl 35 (.tmp 2) rfl w.heap.size rfl 35 _ (0,0) _ hN0 Tryz.underlying35 rfl sizeObQ ?_)
  | (go_at_call 54; refine hO1.mono ?_; rintro e w2 ⟨x,cv,rfl,hx,hcv,hb2⟩; obtain ⟨ca,cc,rfl⟩:=hcv.shape; unfold itv))
 go_ret
 exact ⟨rfl,below_trans (hb0 _) (below_trans hb2 ((Below.refl _ _).alloc (Nat.le_refl _) _))⟩
end Go.Proofs.YtiiepfplommmfaaGreatDoor

namespace Go.Proofs.YtiiepfplommmfaaGreatDoor
open Go.RowKit

def fnO (j:Nat):Nat :=
 match j with
 | 0=>27
 | 1=>28
 | 2=>29
 | 3=>30
 | 4=>31
 | 5=>32
 | _=>33
def ElO (u:ObV) (o:Ob) (w:World):Prop:=∀ (j k:Nat),j < 7 → k < lenO o j → ∀ v,Below w.heap.size w v → Calls Tryz.prog (fnO j) #[obv u o.mod,.int .i64 (k:Int)] v (NumB (elemO o j k) v)
def TwoB (p:Nat × Nat) (w:World) (e:Ending) (w':World):Prop:=e = .returned (.tuple #[.int .i64 (p.1:Int),.int .i64 (p.2:Int)]) ∧ Below w.heap.size w w'
theorem scanO_at (f:Nat → Nat) (n k:Nat) (h:k < n):scanO f k (n - k) = if f k = 0 then scanO f (k + 1) (n - (k + 1)) else (f k,k):=by
 obtain ⟨m,hm⟩:∃ m,n - k = m + 1:=⟨n - k - 1,by omega⟩
 rw [hm,scanO,show n - (k + 1) = m from by omega]
theorem listsO_at (o:Ob) (j:Nat) (h:j < 7):listsO o j (7 - j) = if (scanO (elemO o j) 0 (lenO o j)).1 = 0 then listsO o (j + 1) (7 - (j + 1)) else scanO (elemO o j) 0 (lenO o j):=by
 obtain ⟨m,hm⟩:∃ m,7 - j = m + 1:=⟨7 - j - 1,by omega⟩
 rw [hm,listsO,show 7 - (j + 1) = m from by omega]
set_option maxRecDepth 1000000 in
theorem enterO (j:Nat) (hj:j < 7):∀ args w,(callFunc (fnO j) args).run Tryz.prog w = .ok (.enter (fnO j) args) w:=by
 rcases j with _ | _ | _ | _ | _ | _ | _ | j
 ·exact enters_of Tryz.func27 (by kernel_rfl) rfl
 ·exact enters_of Tryz.func28 (by kernel_rfl) rfl
 ·exact enters_of Tryz.func29 (by kernel_rfl) rfl
 ·exact enters_of Tryz.func30 (by kernel_rfl) rfl
 ·exact enters_of Tryz.func31 (by kernel_rfl) rfl
 ·exact enters_of Tryz.func32 (by kernel_rfl) rfl
 ·exact enters_of Tryz.func33 (by kernel_rfl) rfl
 ·omega
set_option maxHeartbeats 4000000 in
set_option maxRecDepth 1000000 in
theorem rightOb (F:Nat → Prop) (u:ObV) (o:Ob) (w:World) (h:ObR F w u o) (hF:∀ g,F g → g < w.heap.size) (hm:Tk o.mod) (hE:valueR o.mod = true → manyO o = false → ElO u o w):Calls Tryz.prog 6 #[obv u o.mod] w (TwoB (rightO o) w):=by
 have HV:Hid (rightO o = if valueR o.mod = false then (13,0) else if manyO o = true then (4,0) else listsO o 0 7):=rfl
 generalize rightO o = r at *
 have hL0:o.types.length = lenO o 0:=rfl
 have hL1:o.texts.length = lenO o 1:=rfl
 have hL2:o.globals.length = lenO o 2:=rfl
 have hL3:o.funs.length = lenO o 3:=rfl
 have hL4:o.exports.length = lenO o 4:=rfl
 have hL5:o.symbols.length = lenO o 5:=rfl
 have hL6:o.relocs.length = lenO o 6:=rfl
 have hTM:∀ v,Below w.heap.size w v → Calls Tryz.prog 26 #[obv u o.mod] v (BoolB (manyO o) v):=fun v hv=>otooMany F u o v (h.below hv hF)
 obtain ⟨a1,c1,e1⟩:=h.types.shape
 obtain ⟨a2,c2,e2⟩:=h.texts.1.shape
 obtain ⟨a3,c3,e3⟩:=h.globals.shape
 obtain ⟨a4,c4,e4⟩:=h.funs.shape
 obtain ⟨a5,c5,e5⟩:=h.exports.1.shape
 obtain ⟨a6,c6,e6⟩:=h.symbols.shape
 obtain ⟨a7,c7,e7⟩:=h.relocs.shape
 have hE2:valueR o.mod = true → manyO o = false → Hid (ElO u o w):=fun h1 h2=>hE h1 h2
 clear hE
 unfold ElO at hE2
 rw [hL0] at e1
 rw [hL1] at e2
 rw [hL2] at e3
 rw [hL3] at e4
 rw [hL4] at e5
 rw [hL5] at e6
 rw [hL6] at e7
 have HMn:Hid (manyO o = false → ∀ j,j < 7 → lenO o j ≤ 384):=by
  rw [hid_iff]
  intro hmn j hj
  simp only [manyO,Bool.or_eq_false_iff,decide_eq_false_iff_not] at hmn
  rcases j with _ | _ | _ | _ | _ | _ | _ | j <;> simp only [lenO] <;> omega
 obtain ⟨tv,xv,gv,fv,ev,sv,rv⟩:=u
 unfold obv at hTM hE2 ⊢
 simp only at e1 e2 e3 e4 e5 e6 e7 hTM hE2 ⊢
 subst e1 e2 e3 e4 e5 e6 e7
 clear h hL0 hL1 hL2 hL3 hL4 hL5 hL6
 have hV:=fun v=>value (str o.mod) v (by rw [str_size]; unfold Tk at hm; omega)
 rw [str_data] at hV
 generalize hLn:lenO o = ln at *
 generalize hm':o.mod = m at *
 generalize hW:w.alloc (.cells #[.string (str m),.slice a1 (ln 0) c1,.slice a2 (ln 1) c2,.slice a3 (ln 2) c3,.slice a4 (ln 3) c4,.slice a5 (ln 4) c5,.slice a6 (ln 5) c6,.slice a7 (ln 6) c7] 29) = W0 at *
 have hb0:Below w.heap.size w W0:=by rw [← hW]; exact (Below.refl _ _).alloc (Nat.le_refl _) _
 have hs0:W0.heap.size = w.heap.size + 1:=by rw [← hW]; simp
 have hN0:=heap_alloc_new w (.cells #[.string (str m),.slice a1 (ln 0) c1,.slice a2 (ln 1) c2,.slice a3 (ln 2) c3,.slice a4 (ln 3) c4,.slice a5 (ln 4) c5,.slice a6 (ln 5) c6,.slice a7 (ln 6) c7] 29)
 rw [hW] at hN0
 have HC:∀ u,Below W0.heap.size W0 u → u.cell? ⟨w.heap.size,0,none⟩ = some (.string (str m)) ∧ u.cell? ⟨w.heap.size,1,none⟩ = some (.slice a1 (ln 0) c1) ∧ u.cell? ⟨w.heap.size,2,none⟩ = some (.slice a2 (ln 1) c2) ∧ u.cell? ⟨w.heap.size,3,none⟩ = some (.slice a3 (ln 2) c3) ∧ u.cell? ⟨w.heap.size,4,none⟩ = some (.slice a4 (ln 3) c4) ∧ u.cell? ⟨w.heap.size,5,none⟩ = some (.slice a5 (ln 4) c5) ∧ u.cell? ⟨w.heap.size,6,none⟩ = some (.slice a6 (ln 5) c6) ∧ u.cell? ⟨w.heap.size,7,none⟩ = some (.slice a7 (ln 6) c7):=by
  intro u hu
  have n0:=(hu.block w.heap.size (by omega)).trans hN0
  exact ⟨by rw [cell_of_row u _ 0 _ _ _ n0]; rfl,by rw [cell_of_row u _ 1 _ _ _ n0]; rfl,by rw [cell_of_row u _ 2 _ _ _ n0]; rfl,by rw [cell_of_row u _ 3 _ _ _ n0]; rfl,by rw [cell_of_row u _ 4 _ _ _ n0]; rfl,by rw [cell_of_row u _ 5 _ _ _ n0]; rfl,by rw [cell_of_row u _ 6 _ _ _ n0]; rfl,by rw [cell_of_row u _ 7 _ _ _ n0]; rfl⟩
 cases hv:valueR m
 ·rw [hv] at hV HV
  have HW:Hid (r = (13,0)):=by rw [hid_iff,HV.out]; rfl
  obtain ⟨z0, -, -, -, -, -, -, -⟩:=HC W0 (Below.refl _ _)
  clear HC hE2 HMn hTM HV
  go_enter Tryz.func6,Tryz.ntmps6
  go_wp2_with fail
  refine (hV _).mono ?_
  rintro e w2 ⟨rfl,hw2⟩
  obtain rfl:=hw2.symm
  go_wp2
  go_ret2
  exact ⟨(by rw [HW.out]; first | done | rfl),hb0⟩
 ·rw [hv] at hV HV
  have HCh:=hidden HC
  have hT0:=hTM W0 hb0
  obtain ⟨z0,z1,z2,z3,z4,z5,z6,z7⟩:=HC W0 (Below.refl _ _)
  clear HC hTM
  cases hmn:manyO o
  ·rw [hmn] at hT0 HV
   have HE:=hE2 hv hmn
   have HM:=HMn.out hmn
   have HV':=HV.out
   simp only [Bool.true_eq_false,Bool.false_eq_true,if_false] at HV'
   have HV:=hidden HV'
   clear HV' hE2 HMn hmn
   go_enter Tryz.func6,Tryz.ntmps6
   go_wp2_with (go_at_call 25; refine (hV _).mono ?_; rintro e w2 ⟨rfl,hw2⟩; obtain rfl:=hw2.symm)
   refine hT0.mono ?_
   rintro e w3 ⟨rfl,hb3⟩
   obtain ⟨y0,y1,y2,y3,y4,y5,y6,y7⟩:=HCh.out w3 hb3
   clear hT0 z0 z1 z2 z3 z4 z5 z6 z7
   have hbw3:=below_trans hb0 hb3
   have hs3:=hb3.size
   generalize hW4:w3.alloc (.cells #[.string (str m),.slice a1 (ln 0) c1,.slice a2 (ln 1) c2,.slice a3 (ln 2) c3,.slice a4 (ln 3) c4,.slice a5 (ln 4) c5,.slice a6 (ln 5) c6,.slice a7 (ln 6) c7] 86) = W4 at *
   have hb4:Below w3.heap.size w3 W4:=by rw [← hW4]; exact (Below.refl _ _).alloc (Nat.le_refl _) _
   have hs4:W4.heap.size = w3.heap.size + 1:=by rw [← hW4]; simp
   have hN4:=heap_alloc_new w3 (.cells #[.string (str m),.slice a1 (ln 0) c1,.slice a2 (ln 1) c2,.slice a3 (ln 2) c3,.slice a4 (ln 3) c4,.slice a5 (ln 4) c5,.slice a6 (ln 5) c6,.slice a7 (ln 6) c7] 86)
   rw [hW4] at hN4
   obtain ⟨t0,t1,t2,t3,t4,t5,t6,t7⟩:=HCh.out W4 (below_trans hb3 hb4)
   obtain ⟨l0,l1,l2,l3,l4,l5,l6,l7⟩:W4.cell? ⟨w3.heap.size,0,none⟩ = some (.string (str m)) ∧ W4.cell? ⟨w3.heap.size,1,none⟩ = some (.slice a1 (ln 0) c1) ∧ W4.cell? ⟨w3.heap.size,2,none⟩ = some (.slice a2 (ln 1) c2) ∧ W4.cell? ⟨w3.heap.size,3,none⟩ = some (.slice a3 (ln 2) c3) ∧ W4.cell? ⟨w3.heap.size,4,none⟩ = some (.slice a4 (ln 3) c4) ∧ W4.cell? ⟨w3.heap.size,5,none⟩ = some (.slice a5 (ln 4) c5) ∧ W4.cell? ⟨w3.heap.size,6,none⟩ = some (.slice a6 (ln 5) c6) ∧ W4.cell? ⟨w3.heap.size,7,none⟩ = some (.slice a7 (ln 6) c7):=⟨by rw [cell_of_row W4 _ 0 _ _ _ hN4]; rfl,by rw [cell_of_row W4 _ 1 _ _ _ hN4]; rfl,by rw [cell_of_row W4 _ 2 _ _ _ hN4]; rfl,by rw [cell_of_row W4 _ 3 _ _ _ hN4]; rfl,by rw [cell_of_row W4 _ 4 _ _ _ hN4]; rfl,by rw [cell_of_row W4 _ 5 _ _ _ hN4]; rfl,by rw [cell_of_row W4 _ 6 _ _ _ hN4]; rfl,by rw [cell_of_row W4 _ 7 _ _ _ hN4]; rfl⟩
   generalize hW5:W4.alloc (.cells #[.int .i64 (ln 0:Int),.func (.func 27) #[.agg #[.string (str m),.slice a1 (ln 0) c1,.slice a2 (ln 1) c2,.slice a3 (ln 2) c3,.slice a4 (ln 3) c4,.slice a5 (ln 4) c5,.slice a6 (ln 5) c6,.slice a7 (ln 6) c7]] #[],.int .i64 (ln 1:Int),.func (.func 28) #[.agg #[.string (str m),.slice a1 (ln 0) c1,.slice a2 (ln 1) c2,.slice a3 (ln 2) c3,.slice a4 (ln 3) c4,.slice a5 (ln 4) c5,.slice a6 (ln 5) c6,.slice a7 (ln 6) c7]] #[],.int .i64 (ln 2:Int),.func (.func 29) #[.agg #[.string (str m),.slice a1 (ln 0) c1,.slice a2 (ln 1) c2,.slice a3 (ln 2) c3,.slice a4 (ln 3) c4,.slice a5 (ln 4) c5,.slice a6 (ln 5) c6,.slice a7 (ln 6) c7]] #[],.int .i64 (ln 3:Int),.func (.func 30) #[.agg #[.string (str m),.slice a1 (ln 0) c1,.slice a2 (ln 1) c2,.slice a3 (ln 2) c3,.slice a4 (ln 3) c4,.slice a5 (ln 4) c5,.slice a6 (ln 5) c6,.slice a7 (ln 6) c7]] #[],.int .i64 (ln 4:Int),.func (.func 31) #[.agg #[.string (str m),.slice a1 (ln 0) c1,.slice a2 (ln 1) c2,.slice a3 (ln 2) c3,.slice a4 (ln 3) c4,.slice a5 (ln 4) c5,.slice a6 (ln 5) c6,.slice a7 (ln 6) c7]] #[],.int .i64 (ln 5:Int),.func (.func 32) #[.agg #[.string (str m),.slice a1 (ln 0) c1,.slice a2 (ln 1) c2,.slice a3 (ln 2) c3,.slice a4 (ln 3) c4,.slice a5 (ln 4) c5,.slice a6 (ln 5) c6,.slice a7 (ln 6) c7]] #[],.int .i64 (ln 6:Int),.func (.func 33) #[.agg #[.string (str m),.slice a1 (ln 0) c1,.slice a2 (ln 1) c2,.slice a3 (ln 2) c3,.slice a4 (ln 3) c4,.slice a5 (ln 4) c5,.slice a6 (ln 5) c6,.slice a7 (ln 6) c7]] #[]] 88) = W5 at *
   have hb5:Below W4.heap.size W4 W5:=by rw [← hW5]; exact (Below.refl _ _).alloc (Nat.le_refl _) _
   have hs5:W5.heap.size = w3.heap.size + 2:=by rw [← hW5]; simp; omega
   have hN5:=heap_alloc_new W4 (.cells #[.int .i64 (ln 0:Int),.func (.func 27) #[.agg #[.string (str m),.slice a1 (ln 0) c1,.slice a2 (ln 1) c2,.slice a3 (ln 2) c3,.slice a4 (ln 3) c4,.slice a5 (ln 4) c5,.slice a6 (ln 5) c6,.slice a7 (ln 6) c7]] #[],.int .i64 (ln 1:Int),.func (.func 28) #[.agg #[.string (str m),.slice a1 (ln 0) c1,.slice a2 (ln 1) c2,.slice a3 (ln 2) c3,.slice a4 (ln 3) c4,.slice a5 (ln 4) c5,.slice a6 (ln 5) c6,.slice a7 (ln 6) c7]] #[],.int .i64 (ln 2:Int),.func (.func 29) #[.agg #[.string (str m),.slice a1 (ln 0) c1,.slice a2 (ln 1) c2,.slice a3 (ln 2) c3,.slice a4 (ln 3) c4,.slice a5 (ln 4) c5,.slice a6 (ln 5) c6,.slice a7 (ln 6) c7]] #[],.int .i64 (ln 3:Int),.func (.func 30) #[.agg #[.string (str m),.slice a1 (ln 0) c1,.slice a2 (ln 1) c2,.slice a3 (ln 2) c3,.slice a4 (ln 3) c4,.slice a5 (ln 4) c5,.slice a6 (ln 5) c6,.slice a7 (ln 6) c7]] #[],.int .i64 (ln 4:Int),.func (.func 31) #[.agg #[.string (str m),.slice a1 (ln 0) c1,.slice a2 (ln 1) c2,.slice a3 (ln 2) c3,.slice a4 (ln 3) c4,.slice a5 (ln 4) c5,.slice a6 (ln 5) c6,.slice a7 (ln 6) c7]] #[],.int .i64 (ln 5:Int),.func (.func 32) #[.agg #[.string (str m),.slice a1 (ln 0) c1,.slice a2 (ln 1) c2,.slice a3 (ln 2) c3,.slice a4 (ln 3) c4,.slice a5 (ln 4) c5,.slice a6 (ln 5) c6,.slice a7 (ln 6) c7]] #[],.int .i64 (ln 6:Int),.func (.func 33) #[.agg #[.string (str m),.slice a1 (ln 0) c1,.slice a2 (ln 1) c2,.slice a3 (ln 2) c3,.slice a4 (ln 3) c4,.slice a5 (ln 4) c5,.slice a6 (ln 5) c6,.slice a7 (ln 6) c7]] #[]] 88)
   rw [hW5,hs4] at hN5
   have hbw5:Below w.heap.size w W5:=below_trans hbw3 (below_trans hb4 hb5)
   have HF:Hid (∀ u,Below W5.heap.size W5 u → ∀ j,j < 7 → u.cell? ⟨w3.heap.size + 1,j * 2,none⟩ = some (.int .i64 (ln j:Int)) ∧ u.cell? ⟨w3.heap.size + 1,j * 2 + 1,none⟩ = some (.func (.func (fnO j)) #[.agg #[.string (str m),.slice a1 (ln 0) c1,.slice a2 (ln 1) c2,.slice a3 (ln 2) c3,.slice a4 (ln 3) c4,.slice a5 (ln 4) c5,.slice a6 (ln 5) c6,.slice a7 (ln 6) c7]] #[])):=by
    rw [hid_iff]
    intro u hu j hj
    have n5:=(hu.block (w3.heap.size + 1) (by omega)).trans hN5
    rcases j with _ | _ | _ | _ | _ | _ | _ | j
    all_goals first
     | omega
     | exact ⟨by rw [cell_of_row u _ _ _ _ _ n5]; rfl,by rw [cell_of_row u _ _ _ _ _ n5]; rfl⟩
   go_wp2_with fail
   clear y0 y1 y2 y3 y4 y5 y6 y7 t0 t1 t2 t3 t4 t5 t6 t7 l0 l1 l2 l3 l4 l5 l6 l7 hN0 hN4 hN5 hW hW4 hW5 HCh
   go_loopg [61] 7 (fun g i wr=>∃ (j:Nat),g + j = 7 ∧ i = .int .i64 (j:Int) ∧ Hid (r = listsO o j (7 - j)) ∧ Below W5.heap.size W5 wr)
   case atStart=>exact ⟨0,by omega,rfl,HV,Below.refl _ _⟩
   case round =>
    obtain ⟨j,hg,rfl,hq,hbl⟩:=hrel
    rename World=>wo
    have hso:=hbl.size
    by_cases hj:j < 7
    ·have hji:(j:Int) < 7:=by omega
     obtain ⟨f0,f1⟩:=HF.out wo hbl j hj
     generalize hW6:wo.alloc (.cells #[.int .i64 (ln j:Int),.func (.func (fnO j)) #[.agg #[.string (str m),.slice a1 (ln 0) c1,.slice a2 (ln 1) c2,.slice a3 (ln 2) c3,.slice a4 (ln 3) c4,.slice a5 (ln 4) c5,.slice a6 (ln 5) c6,.slice a7 (ln 6) c7]] #[]] 88) = W6 at *
     have hb6:Below wo.heap.size wo W6:=by rw [← hW6]; exact (Below.refl _ _).alloc (Nat.le_refl _) _
     have hs6:W6.heap.size = wo.heap.size + 1:=by rw [← hW6]; simp
     have hN6:=heap_alloc_new wo (.cells #[.int .i64 (ln j:Int),.func (.func (fnO j)) #[.agg #[.string (str m),.slice a1 (ln 0) c1,.slice a2 (ln 1) c2,.slice a3 (ln 2) c3,.slice a4 (ln 3) c4,.slice a5 (ln 4) c5,.slice a6 (ln 5) c6,.slice a7 (ln 6) c7]] #[]] 88)
     rw [hW6] at hN6
     have hb56:Below W5.heap.size W5 W6:=below_trans hbl hb6
     have HG:Hid (∀ u,Below W6.heap.size W6 u → u.cell? ⟨wo.heap.size,0,none⟩ = some (.int .i64 (ln j:Int)) ∧ u.cell? ⟨wo.heap.size,1,none⟩ = some (.func (.func (fnO j)) #[.agg #[.string (str m),.slice a1 (ln 0) c1,.slice a2 (ln 1) c2,.slice a3 (ln 2) c3,.slice a4 (ln 3) c4,.slice a5 (ln 4) c5,.slice a6 (ln 5) c6,.slice a7 (ln 6) c7]] #[])):=by
      rw [hid_iff]
      intro u hu
      have n6:=(hu.block wo.heap.size (by omega)).trans hN6
      exact ⟨by rw [cell_of_row u _ 0 _ _ _ n6]; rfl,by rw [cell_of_row u _ 1 _ _ _ n6]; rfl⟩
     obtain ⟨s0,s1⟩:=HG.out W6 (Below.refl _ _)
     have HLJ:=hidden (listsO_at o j hj)
     have hlj:ln j ≤ 384:=HM j hj
     go_wp2_with fail
     go_loopg [67] (ln j) (fun g i wr=>∃ (k:Nat),g + k = ln j ∧ i = .int .i64 (k:Int) ∧ Hid (scanO (elemO o j) 0 (ln j) = scanO (elemO o j) k (ln j - k)) ∧ Below W6.heap.size W6 wr)
     case atStart=>exact ⟨0,by omega,rfl,rfl,Below.refl _ _⟩
     case round =>
      obtain ⟨k,hgk,rfl,hqk,hbk⟩:=hrel
      rename World=>wi
      obtain ⟨u0,u1⟩:=HG.out wi hbk
      have hbwi:Below w.heap.size w wi:=below_trans hbw5 (below_trans hb56 hbk)
      by_cases hk:k < ln j
      ·have hki:(k:Int) < (ln j:Int):=by omega
       have hCal:=HE.out j k hj hk wi hbwi
       have HSA:=hidden (scanO_at (elemO o j) (ln j) k hk)
       have eg:=enterO j hj
       generalize elemO o j k = el at *
       generalize fnO j = fj at *
       go_wp2_with fail
       refine hCal.mono ?_
       rintro e wx ⟨rfl,hbx⟩
       have hb7:Below W6.heap.size W6 wx:=below_trans hbk hbx
       by_cases h0:el = 0
       ·subst h0
        have HQ:Hid (scanO (elemO o j) 0 (ln j) = scanO (elemO o j) (k + 1) (ln j - (k + 1))):=by rw [hid_iff,hqk.out,HSA.out,if_pos rfl]
        clear hCal hqk HSA
        go_wp2
        go_roundg (ln j - (k + 1))
        case measure=>omega
        case rel=>exact ⟨k + 1,by omega,by go_num,HQ,hb7⟩
       ·have h0i:¬ (el:Int) = 0:=by omega
        have HW:Hid (r = (el,k)):=by
         have e1:scanO (elemO o j) 0 (ln j) = (el,k):=by rw [hqk.out,HSA.out,if_neg h0]
         rw [hid_iff,hq.out,HLJ.out,hLn,e1,if_neg h0]
        clear hCal hqk HSA
        have hbe:Below w.heap.size w wx:=below_trans hbw5 (below_trans hb56 hb7)
        go_wp2
        go_ret2
        exact ⟨(by rw [HW.out]; first | done | rfl),hbe⟩
      ·have hki:¬ (k:Int) < (ln j:Int):=by omega
       have HQ:Hid (r = listsO o (j + 1) (7 - (j + 1))):=by
        have e1:scanO (elemO o j) 0 (ln j) = (0,0):=by rw [hqk.out,show ln j - k = 0 from by omega]; rfl
        rw [hid_iff,hq.out,HLJ.out,hLn,e1,if_pos rfl]
       clear hqk
       have hb7:Below W5.heap.size W5 wi:=below_trans hb56 hbk
       go_wp2
       go_roundg (7 - (j + 1))
       case measure=>omega
       case rel=>exact ⟨j + 1,by omega,by go_num,HQ,hb7⟩
    ·have hji:¬ (j:Int) < 7:=by omega
     have HW:Hid (r = (0,0)):=by
      rw [hid_iff,hq.out,show 7 - j = 0 from by omega]
      rfl
     have hbe:Below w.heap.size w wo:=below_trans hbw5 hbl
     clear hq
     go_wp2
     go_ret2
     exact ⟨(by rw [HW.out]; first | done | rfl),hbe⟩
  ·rw [hmn] at hT0 HV
   have HW:Hid (r = (4,0)):=by rw [hid_iff,HV.out]; rfl
   clear hE2 HMn HV
   go_enter Tryz.func6,Tryz.ntmps6
   go_wp2_with (go_at_call 25; refine (hV _).mono ?_; rintro e w2 ⟨rfl,hw2⟩; obtain rfl:=hw2.symm)
   refine hT0.mono ?_
   rintro e w3 ⟨rfl,hb3⟩
   go_wp2
   go_ret2
   exact ⟨(by rw [HW.out]; first | done | rfl),below_trans hb0 hb3⟩
end Go.Proofs.YtiiepfplommmfaaGreatDoor
