/-
  named, for any name that is not empty.
-/
import Derived.Test.YtiiepfplommmfaaGreatDoorG21
import Derived.Deep.RegionHeld3
namespace Go.Proofs.YtiiepfplommmfaaGreatDoor
open Go.RowKit

set_option maxHeartbeats 4000000 in
set_option maxRecDepth 1000000 in
theorem onamed (F:Nat → Prop) (u:ObV) (o:Ob) (q:List UInt8) (w:World) (h:ObR F w u o) (hF:∀ g,F g → g < w.heap.size) (hok:ObOk o) (hq:q ≠ []) (hqt:Tk q) (hfo:∀ f ∈ o.funs,f.params.length ≤ 1000000 ∧ (joinR (f.params.drop (cutO f))).length ≤ 1000000000 ∧ f.res.length ≤ 1000000000) (hnt:o.types.length ≤ 2199023255552):Calls Tryz.prog 52 #[obv u o.mod,.string (str q)] w (NamedO o q w):=by
 have HO:=hidden (ownG_zero o q hq)
 have HGy:=hidden (ownG_yes o q)
 have HGn:=hidden (ownG_no o q)
 have HGe:=hidden (ownG_end o q)
 have HFy:=hidden (ownF_yes o q)
 have HFn':=hidden (ownF_no o q)
 have HFe:=hidden (ownF_end o q)
 have HFo:=hidden hfo
 have HGo:=hidden hok.globals
 have HFk:=hidden hok.funs
 unfold NamedO
 generalize ownO o q = ow at *
 generalize ownG o q = oG at *
 generalize ownF o q = oF at *
 have hnn:=nil_text q
 rw [decide_eq_false hq] at hnn
 have hnq:¬ (str q).toList = []:=by
  intro hh
  rw [hh] at hnn
  cases hnn
 have hTy:=h.types
 have hGl:=h.globals
 have hFn:=h.funs
 have hot:=hok.types
 obtain ⟨a2,c2,e2⟩:=h.texts.1.shape
 obtain ⟨a5,c5,e5⟩:=h.exports.1.shape
 obtain ⟨a6,c6,e6⟩:=h.symbols.shape
 obtain ⟨a7,c7,e7⟩:=h.relocs.shape
 have hng:=hok.ng
 have hnf:=hok.nf
 obtain ⟨m,ts,xs,gs,fs,es,ss,rs⟩:=o
 obtain ⟨tv,xv,gv,fv,ev,sv,rv⟩:=u
 unfold obv
 simp only at *
 subst e2 e5 e6 e7
 obtain ⟨a1,c1,rfl⟩:=hTy.shape
 obtain ⟨a3,c3,rfl⟩:=hGl.shape
 obtain ⟨a4,c4,rfl⟩:=hFn.shape
 generalize xs.length = n2 at *
 generalize es.length = n5 at *
 generalize ss.length = n6 at *
 generalize rs.length = n7 at *
 generalize hW:w.alloc (.cells #[.string (str m),.slice a1 ts.length c1,.slice a2 n2 c2,.slice a3 gs.length c3,.slice a4 fs.length c4,.slice a5 n5 c5,.slice a6 n6 c6,.slice a7 n7 c7] 29) = W0 at *
 have hb0:Below w.heap.size w W0:=by rw [← hW]; exact (Below.refl _ _).alloc (Nat.le_refl _) _
 have hs0:W0.heap.size = w.heap.size + 1:=by rw [← hW]; simp
 have hN0:=heap_alloc_new w (.cells #[.string (str m),.slice a1 ts.length c1,.slice a2 n2 c2,.slice a3 gs.length c3,.slice a4 fs.length c4,.slice a5 n5 c5,.slice a6 n6 c6,.slice a7 n7 c7] 29)
 rw [hW] at hN0
 generalize hW1:W0.alloc (.cells #[.int .i64 0,.string ⟨#[]⟩,.string ⟨#[]⟩,.slice none 0 0] 77) = W1 at *
 have hb1:Below W0.heap.size W0 W1:=by rw [← hW1]; exact (Below.refl _ _).alloc (Nat.le_refl _) _
 have hs1:W1.heap.size = w.heap.size + 2:=by rw [← hW1]; simp; omega
 have hN1:=heap_alloc_new W0 (.cells #[.int .i64 0,.string ⟨#[]⟩,.string ⟨#[]⟩,.slice none 0 0] 77)
 rw [hW1,hs0] at hN1
 have hbw:Below w.heap.size w W1:=below_trans hb0 hb1
 have HC:∀ u,Below W1.heap.size W1 u → u.cell? ⟨w.heap.size,1,none⟩ = some (.slice a1 ts.length c1) ∧ u.cell? ⟨w.heap.size,3,none⟩ = some (.slice a3 gs.length c3) ∧ u.cell? ⟨w.heap.size,4,none⟩ = some (.slice a4 fs.length c4) ∧ u.heap[w.heap.size + 1]? = some (.cells #[.int .i64 0,.string ⟨#[]⟩,.string ⟨#[]⟩,.slice none 0 0] 77 (0,0)) ∧ Below w.heap.size w u:=by
  intro u hu
  have n0:=(hu.block w.heap.size (by omega)).trans ((hb1.block _ (by omega)).trans hN0)
  have n1:=(hu.block (w.heap.size + 1) (by omega)).trans hN1
  exact ⟨by rw [cell_of_row u _ 1 _ _ _ n0]; rfl,by rw [cell_of_row u _ 3 _ _ _ n0]; rfl,by rw [cell_of_row u _ 4 _ _ _ n0]; rfl,n1,below_trans hbw hu⟩
 have HCh:=hidden HC
 obtain ⟨z1,z3,z4,z9,_⟩:=HC W1 (Below.refl _ _)
 have HTy:=hidden hTy
 have HGl:=hidden hGl
 have HFn:=hidden hFn
 clear h hTy hGl hFn hfo HC hN0 hN1 hok z9
 go_enter Tryz.func52,Tryz.ntmps52
 go_wp2_with fail
 go_loopg [16] gs.length (fun g i wr=>∃ (k:Nat),g + k = gs.length ∧ i = .int .i64 (k:Int) ∧ Hid (ow = oG k) ∧ Below W1.heap.size W1 wr)
 case atStart=>exact ⟨0,by omega,rfl,HO,Below.refl _ _⟩
 case round =>
  obtain ⟨k,hgk,rfl,hqk,hbl⟩:=hrel
  obtain ⟨y1,y3,y4,y9,hwr⟩:=HCh.out wr hbl
  by_cases hk:k < gs.length
  ·obtain ⟨g,of,cap,cs,e1,_,hgF,hC,hcell⟩:=(HGl.out.below cGl_stay hwr hF).at k hk
   simp only [Value.slice.injEq,true_and] at e1
   obtain ⟨rfl,rfl⟩:=e1
   unfold cGl at hC
   subst hC
   have q0:=hcell 0 _ rfl
   have q1:=hcell 1 _ rfl
   have q2:=hcell 2 _ rfl
   simp only [Nat.add_zero] at q0
   have hki:(k:Int) < (gs.length:Int):=by omega
   have he:=eq_is gs[k].name q
   have hYes:=HGy.out k hk
   have hNo:=HGn.out k hk
   have hxt:=(HGo.out _ (List.getElem_mem hk)).2.1
   generalize gs[k].name = xn at *
   generalize gs[k].ty = xt at *
   generalize gs[k].fn = xf at *
   generalize hWs:wr.alloc (.cells #[.string (str xn),.string (str xt),.int .i64 xf] 73) = ws at *
   have hbs:Below wr.heap.size wr ws:=by rw [← hWs]; exact (Below.refl _ _).alloc (Nat.le_refl _) _
   have hNs:=heap_alloc_new wr (.cells #[.string (str xn),.string (str xt),.int .i64 xf] 73)
   rw [hWs] at hNs
   have hba:Below W1.heap.size W1 ws:=below_trans hbl hbs
   have hsr:=hbl.size
   have hss:ws.heap.size = wr.heap.size + 1:=by rw [← hWs]; simp
   clear hcell y1 y3 y4 y9
   by_cases hn:xn = q
   ·rw [decide_eq_true hn] at he
    have HX:Hid (ow = some ⟨2,q,xt,[]⟩):=by rw [hid_iff,hqk.out,hYes hn]
    have HCs:∀ u,Below ws.heap.size ws u → u.cell? ⟨wr.heap.size,0,none⟩ = some (.string (str xn)) ∧ u.cell? ⟨wr.heap.size,1,none⟩ = some (.string (str xt)) ∧ u.heap[w.heap.size + 1]? = some (.cells #[.int .i64 0,.string ⟨#[]⟩,.string ⟨#[]⟩,.slice none 0 0] 77 (0,0)) ∧ Below w.heap.size w u:=by
     intro u hu
     have n1:=(hu.block wr.heap.size (by omega)).trans hNs
     obtain ⟨-, -, -, m9,mw⟩:=HCh.out u (below_trans hba hu)
     exact ⟨by rw [cell_of_row u _ 0 _ _ _ n1]; rfl,by rw [cell_of_row u _ 1 _ _ _ n1]; rfl,m9,mw⟩
    have HCsh:=hidden HCs
    obtain ⟨g0,g1,g9,_⟩:=HCs ws (Below.refl _ _)
    obtain ⟨r0,r1,r2,r3,rf0,rf1,rf2,rf3⟩:=four4 g9
    have hcq:=fun u=>sCloneT q u hqt
    have hct:=fun u=>sCloneT xt u hxt
    have hl1:w.heap.size + 1 < wr.heap.size:=by omega
    clear hn hYes hNo hqk HCs hNs
    go_wp2_with fail
    first | (go_region_with (first
     | (go_at_call_of 46 (str q); refine (hcq _).mono ?_; rintro e wa ⟨rfl,hca⟩; have Ga:Below ws.heap.size ws wa:=(by first | exact hca | exact below_undrew hca | exact below_trans Gb hca | exact below_trans Gb (below_undrew hca)); obtain ⟨g0,g1,g9,gw⟩:=HCsh.out wa Ga; obtain ⟨r0,r1,r2,r3,rf0,rf1,rf2,rf3⟩:=four4 g9; clear hca)
     | (go_at_call_of 46 (str xt); refine (hct _).mono ?_; rintro e wb ⟨rfl,hcb⟩; have Gb:Below ws.heap.size ws wb:=(by first | exact hcb | exact below_undrew hcb | exact below_trans Ga hcb | exact below_trans Ga (below_undrew hcb)); obtain ⟨g0,g1,g9,gw⟩:=HCsh.out wb Gb; obtain ⟨r0,r1,r2,r3,rf0,rf1,rf2,rf3⟩:=four4 g9; clear hcb))) | fail
    all_goals (
     go_wp2
     (try simp only [Exit.inBlock,Exit.then])
     refine bodyPost_ret (res7 rfl _ _ (w.heap.size + 1) 77 _ (0,0) _ rfl (box4_set g9 _ _ _ _) Tryz.underlying77 rfl sizeIt) rfl ?_
     exact ⟨⟨2,q,xt,[]⟩,.slice none 0 0,by rw [HX.out]; rfl,by rw [HX.out]; rfl,CsR.nil _ _,box4_below gw (by omega) _ _ _ _⟩)
   ·rw [decide_eq_false hn] at he
    have HX:Hid (ow = oG (k + 1)):=by rw [hid_iff,hqk.out,hNo hn]
    have g0:ws.cell? ⟨wr.heap.size,0,none⟩ = some (.string (str xn)):=by rw [cell_of_row ws _ 0 _ _ _ hNs]; rfl
    clear hn hYes hNo hqk
    go_wp2
    go_roundg (gs.length - (k + 1))
    case measure=>omega
    case rel=>exact ⟨k + 1,by omega,by go_num,HX,hba⟩
  ·have hki:¬ (k:Int) < (gs.length:Int):=by omega
   have HX0:Hid (ow = oF 0):=by rw [hid_iff,hqk.out]; exact HGe.out k hk
   clear hqk
   go_wp2_with fail
   go_loopg [34] fs.length (fun g i wr'=>∃ (k:Nat),g + k = fs.length ∧ i = .int .i64 (k:Int) ∧ Hid (ow = oF k) ∧ Below W1.heap.size W1 wr')
   case atStart=>exact ⟨0,by omega,rfl,HX0,hbl⟩
   case round =>
    clear y1 y3 y4 y9 hwr hbl hgk hk hki HX0
    obtain ⟨k2,hgk,rfl,hqk,hbl⟩:=hrel
    rename World=>wi
    obtain ⟨y1,y3,y4,y9,hwr⟩:=HCh.out wi hbl
    by_cases hk:k2 < fs.length
    ·obtain ⟨g,of,cap,cs,e1,_,hgF,hC,hcell⟩:=(HFn.out.below cFn_stay hwr hF).at k2 hk
     simp only [Value.slice.injEq,true_and] at e1
     obtain ⟨rfl,rfl⟩:=e1
     obtain ⟨pv,kv,rfl,hpv,hkv⟩:=hC
     have q0:=hcell 0 _ rfl
     have q1:=hcell 1 _ rfl
     have q2:=hcell 2 _ rfl
     have q3:=hcell 3 _ rfl
     have q4:=hcell 4 _ rfl
     have q5:=hcell 5 _ rfl
     simp only [Nat.add_zero] at q0
     have hki:(k2:Int) < (fs.length:Int):=by omega
     have he:=eq_is fs[k2].name q
     have hYes:=HFy.out k2 hk
     have hNo:=HFn'.out k2 hk
     obtain ⟨o1,o2,o3⟩:=HFo.out _ (List.getElem_mem hk)
     have hfk:=HFk.out _ (List.getElem_mem hk)
     obtain ⟨pa,pc,rfl⟩:=hpv.1.shape
     obtain ⟨ka,kc,rfl⟩:=hkv.shape
     have hSg:=fun v (hv:Below wi.heap.size wi v)=>osign F fs[k2] (.slice pa fs[k2].params.length pc) (.slice ka fs[k2].code.length kc) v ⟨hpv.1.below hv (fun g hg=>Nat.lt_of_lt_of_le (hF g hg) hwr.size),hpv.2⟩ (fun g hg=>Nat.lt_of_lt_of_le (hF g hg) (Nat.le_trans hwr.size hv.size)) hfk o1 o2 o3
     unfold fnv TextB at hSg
     generalize signO fs[k2] = sg at *
     generalize fs[k2].name = xn at *
     generalize fs[k2].caps = xp at *
     generalize fs[k2].res = xt at *
     generalize fs[k2].locals = xl at *
     generalize fs[k2].params.length = np at *
     generalize fs[k2].code.length = nc at *
     generalize hWs:wi.alloc (.cells #[.string (str xn),.slice pa np pc,.int .i64 xp,.string (str xt),.int .i64 xl,.slice ka nc kc] 52) = ws at *
     have hbs:Below wi.heap.size wi ws:=by rw [← hWs]; exact (Below.refl _ _).alloc (Nat.le_refl _) _
     have hNs:=heap_alloc_new wi (.cells #[.string (str xn),.slice pa np pc,.int .i64 xp,.string (str xt),.int .i64 xl,.slice ka nc kc] 52)
     rw [hWs] at hNs
     have hba:Below W1.heap.size W1 ws:=below_trans hbl hbs
     have hsr:=hbl.size
     have hss:ws.heap.size = wi.heap.size + 1:=by rw [← hWs]; simp
     clear hcell hpv hkv y1 y3 y4 y9 o1 o2 o3 hfk
     by_cases hn:xn = q
     ·rw [decide_eq_true hn] at he
      have HX:Hid (ow = some ⟨3,q,sg,[]⟩):=by rw [hid_iff,hqk.out,hYes hn]
      have HCs:∀ u,Below ws.heap.size ws u → (u.cell? ⟨wi.heap.size,0,none⟩ = some (.string (str xn)) ∧ u.cell? ⟨wi.heap.size,1,none⟩ = some (.slice pa np pc) ∧ u.cell? ⟨wi.heap.size,2,none⟩ = some (.int .i64 xp) ∧ u.cell? ⟨wi.heap.size,3,none⟩ = some (.string (str xt)) ∧ u.cell? ⟨wi.heap.size,4,none⟩ = some (.int .i64 xl) ∧ u.cell? ⟨wi.heap.size,5,none⟩ = some (.slice ka nc kc)) ∧ u.heap[w.heap.size + 1]? = some (.cells #[.int .i64 0,.string ⟨#[]⟩,.string ⟨#[]⟩,.slice none 0 0] 77 (0,0)) ∧ Below w.heap.size w u:=by
       intro u hu
       have n1:=(hu.block wi.heap.size (by omega)).trans hNs
       obtain ⟨-, -, -, m9,mw⟩:=HCh.out u (below_trans hba hu)
       exact ⟨⟨by rw [cell_of_row u _ 0 _ _ _ n1]; rfl,by rw [cell_of_row u _ 1 _ _ _ n1]; rfl,by rw [cell_of_row u _ 2 _ _ _ n1]; rfl,by rw [cell_of_row u _ 3 _ _ _ n1]; rfl,by rw [cell_of_row u _ 4 _ _ _ n1]; rfl,by rw [cell_of_row u _ 5 _ _ _ n1]; rfl⟩,m9,mw⟩
      have HCsh:=hidden HCs
      obtain ⟨⟨g0,g1,g2,g3,g4,g5⟩,g9,_⟩:=HCs ws (Below.refl _ _)
      obtain ⟨r0,r1,r2,r3,rf0,rf1,rf2,rf3⟩:=four4 g9
      have hcq:=fun u=>sCloneT q u hqt
      have hSg2:=fun u (hu:Below ws.heap.size ws u)=>hSg u (below_trans hbs hu)
      have HSg:=hidden hSg2
      have hl1:w.heap.size + 1 < wi.heap.size:=by omega
      clear hn hYes hNo hqk HCs hNs hSg hSg2
      go_wp2_with fail
      first | (go_region_with (first
       | (go_at_call 46; refine (hcq _).mono ?_; rintro e wa ⟨rfl,hca⟩; have Ga:Below ws.heap.size ws wa:=(by first | exact hca | exact below_undrew hca | exact below_trans Gb hca | exact below_trans Gb (below_undrew hca)); obtain ⟨⟨g0,g1,g2,g3,g4,g5⟩,g9,gw⟩:=HCsh.out wa Ga; obtain ⟨r0,r1,r2,r3,rf0,rf1,rf2,rf3⟩:=four4 g9; clear hca)
       | (go_at_call 13; refine (HSg.out _ (by first | exact Below.refl _ _ | exact below_drew (Below.refl _ _) | exact Ga | exact below_drew Ga)).mono ?_; rintro e wb ⟨rfl,hcb⟩; have Gb:Below ws.heap.size ws wb:=(by first | exact hcb | exact below_undrew hcb | exact below_trans Ga hcb | exact below_trans Ga (below_undrew hcb)); obtain ⟨⟨g0,g1,g2,g3,g4,g5⟩,g9,gw⟩:=HCsh.out wb Gb; obtain ⟨r0,r1,r2,r3,rf0,rf1,rf2,rf3⟩:=four4 g9; clear hcb))) | fail
      all_goals (
       go_wp2
       (try simp only [Exit.inBlock,Exit.then])
       refine bodyPost_ret (res7 rfl _ _ (w.heap.size + 1) 77 _ (0,0) _ rfl (box4_set g9 _ _ _ _) Tryz.underlying77 rfl sizeIt) rfl ?_
       exact ⟨⟨3,q,sg,[]⟩,.slice none 0 0,by rw [HX.out]; rfl,by rw [HX.out]; rfl,CsR.nil _ _,box4_below gw (by omega) _ _ _ _⟩)
     ·rw [decide_eq_false hn] at he
      have HX:Hid (ow = oF (k2 + 1)):=by rw [hid_iff,hqk.out,hNo hn]
      have g0:ws.cell? ⟨wi.heap.size,0,none⟩ = some (.string (str xn)):=by rw [cell_of_row ws _ 0 _ _ _ hNs]; rfl
      clear hn hYes hNo hqk hSg
      go_wp2
      go_roundg (fs.length - (k2 + 1))
      case measure=>omega
      case rel=>exact ⟨k2 + 1,by omega,by go_num,HX,hba⟩
    ·have hki:¬ (k2:Int) < (fs.length:Int):=by omega
     have HX1:Hid (findI ts q = ow):=by rw [hid_iff,hqk.out]; exact (HFe.out k2 hk).symm
     have hFd:=find7 F [] ts a1 c1 q wi (HTy.out.below hwr hF) (fun g hg=>Nat.lt_of_lt_of_le (hF g hg) hwr.size) hot hnt
     unfold FindE at hFd
     rw [HX1.out] at hFd
     go_wp2_with fail
     refine hFd.mono ?_
     rintro e w5 ⟨x,cv,rfl,hx,hcv,hb5⟩
     obtain ⟨ca,cc,rfl⟩:=hcv.shape
     have hb15:=below_trans hbl hb5
     have hsl:=hbl.size
     obtain ⟨-, -, -, y9',hw5⟩:=HCh.out w5 hb15
     have HXX:Hid (x = ow.getD it00):=hx
     obtain ⟨kd,nm,ty,cs⟩:=x
     unfold itv
     simp only at hcv ⊢
     have hC4:CsR (Fr w (w5.setRow (w.heap.size + 1) #[.int .i64 kd,.string (str nm),.string (str ty),.slice ca cs.length cc])) (w5.setRow (w.heap.size + 1) #[.int .i64 kd,.string (str nm),.string (str ty),.slice ca cs.length cc]) (.slice ca cs.length cc) cs:=hcv.frame fun g hg=>by
      have:=hg.1
      refine ⟨⟨by omega,by simpa [World.setRow] using hg.2⟩,?_⟩
      simp only [World.setRow]
      rw [Array.getElem?_modify,if_neg (by omega)]
     have hbe:=hw5.trans ((setRow_below w5 (w.heap.size + 1) #[.int .i64 kd,.string (str nm),.string (str ty),.slice ca cs.length cc]).mono (by omega))
     clear hFd hcv hx
     go_wp2_with (refine wpList_store_row rfl 77 (.tmp 4) (.tmp 53) rfl (w.heap.size + 1) #[.int .i64 kd,.string (str nm),.string (str ty),.slice ca cs.length cc] rfl rfl 77 #[.int .i64 0,.string ⟨#[]⟩,.string ⟨#[]⟩,.slice none 0 0] y9' sizeIt rfl (by first | kernel_rfl | rfl | simp [Value.oneCell']) ?_)
     (try simp only [Exit.inBlock,Exit.then])
     refine bodyPost_ret (res7 rfl _ _ (w.heap.size + 1) 77 #[.int .i64 kd,.string (str nm),.string (str ty),.slice ca cs.length cc] (0,0) _ rfl (setRow_heap w5 (w.heap.size + 1) _ _ 77 (0,0) y9') Tryz.underlying77 rfl sizeIt) rfl ?_
     exact ⟨⟨kd,nm,ty,cs⟩,_,rfl,HXX.out,hC4,hbe⟩
end Go.Proofs.YtiiepfplommmfaaGreatDoor
