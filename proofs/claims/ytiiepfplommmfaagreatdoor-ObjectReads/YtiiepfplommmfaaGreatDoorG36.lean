/-
  The document's own Decode of objects: the walk.
-/
import Derived.Test.YtiiepfplommmfaaGreatDoorG35
namespace Go.Proofs.YtiiepfplommmfaaGreatDoor
open Go.RowKit

theorem szRP:(Tryz.prog.info? 35).map (·.size) = some 8:=by kernel_rfl
set_option maxHeartbeats 1000000 in
set_option maxRecDepth 1000000 in
theorem rdecode_long (a:Option Addr) (n c:Nat) (w:World) (hn:8192 < n):Calls Tryz.prog 22 #[.slice a n c] w fun e w'=>e = .returned (.tuple #[.agg #[.string ⟨#[]⟩,.slice none 0 0,.slice none 0 0,.slice none 0 0,.slice none 0 0,.slice none 0 0,.slice none 0 0,.slice none 0 0],.int .i64 3,.int .i64 0]) ∧ Below w.heap.size w w':=by
 have hni:(8192:Int) < (n:Int):=by omega
 have hr:=heap_alloc_new w (.cells #[.string ⟨#[]⟩,.slice none 0 0,.slice none 0 0,.slice none 0 0,.slice none 0 0,.slice none 0 0,.slice none 0 0,.slice none 0 0] 35)
 have hb:Below w.heap.size w (w.alloc (.cells #[.string ⟨#[]⟩,.slice none 0 0,.slice none 0 0,.slice none 0 0,.slice none 0 0,.slice none 0 0,.slice none 0 0,.slice none 0 0] 35)):=(Below.refl _ _).alloc (Nat.le_refl _) _
 go_enter Tryz.func22,Tryz.ntmps22
 go_wp2
 (try simp only [Exit.inBlock,Exit.then])
 refine bodyPost_ret (resO3 rfl _ _ w.heap.size 35 #[.string ⟨#[]⟩,.slice none 0 0,.slice none 0 0,.slice none 0 0,.slice none 0 0,.slice none 0 0,.slice none 0 0,.slice none 0 0] (0,0) _ rfl hr Tryz.underlying35 rfl szRP) rfl ?_
 exact ⟨rfl,hb⟩
set_option maxHeartbeats 32000000 in
set_option maxRecDepth 1000000 in
theorem refDecode14 (bv:Value) (b0:Nat) (l:List Nat) (w:World) (hl:l.length ≤ 140737488351232) (h256:∀ x ∈ l,x < 256) (hv:Wire.Rd w b0 bv l) (hg0:b0 < w.heap.size ∨ l = []) (hcap:∃ a m c,bv = .slice a m c ∧ m ≤ c ∧ c ≤ maxLen):Calls Tryz.prog 22 #[bv] w (DecO l w):=by
 obtain ⟨va,vc,hbv⟩:=hv.shape
 by_cases hlen:8192 < l.length
 ·subst hbv
  refine (rdecode_long va l.length vc w hlen).mono ?_
  rintro e w' ⟨rfl,hb⟩
  unfold DecO
  rw [decO_long hlen]
  exact ⟨hb,obVn,rfl,obR_n _ _⟩
 have hni:¬ (8192:Int) < (l.length:Int):=by omega
 obtain ⟨m,p0,y0,ts,pA,yA,xs,pB,yB,gs,pC,yC,fs,pD,yD,es,pE,yE,ss,pF,yF,rs,pG,yG,e0,eA,eB,eC,eD,eE,eF,eG,hd⟩:=decQ hlen
 have hA1:((w.alloc (.cells #[.string ⟨#[]⟩,.slice none 0 0,.slice none 0 0,.slice none 0 0,.slice none 0 0,.slice none 0 0,.slice none 0 0,.slice none 0 0] 35)).alloc (.cells #[bv,.int .i64 0,.bool false,.int .i64 0,.int .i64 0] 120)).heap[w.heap.size]? = some (.cells #[.string ⟨#[]⟩,.slice none 0 0,.slice none 0 0,.slice none 0 0,.slice none 0 0,.slice none 0 0,.slice none 0 0,.slice none 0 0] 35 (0,0)):=(Below.heap_alloc _ _ _ (by simp)).trans (World.alloc_heap_new w _)
 have hR1:((w.alloc (.cells #[.string ⟨#[]⟩,.slice none 0 0,.slice none 0 0,.slice none 0 0,.slice none 0 0,.slice none 0 0,.slice none 0 0,.slice none 0 0] 35)).alloc (.cells #[bv,.int .i64 0,.bool false,.int .i64 0,.int .i64 0] 120)).heap[w.heap.size + 1]? = some (.cells #[bv,.int .i64 0,.bool false,.int .i64 0,.int .i64 0] 120 (0,0)):=by have:=World.alloc_heap_new (w.alloc (.cells #[.string ⟨#[]⟩,.slice none 0 0,.slice none 0 0,.slice none 0 0,.slice none 0 0,.slice none 0 0,.slice none 0 0,.slice none 0 0] 35)) (.cells #[bv,.int .i64 0,.bool false,.int .i64 0,.int .i64 0] 120); simpa using this
 have hB1:Below w.heap.size w ((w.alloc (.cells #[.string ⟨#[]⟩,.slice none 0 0,.slice none 0 0,.slice none 0 0,.slice none 0 0,.slice none 0 0,.slice none 0 0,.slice none 0 0] 35)).alloc (.cells #[bv,.int .i64 0,.bool false,.int .i64 0,.int .i64 0] 120)):=((Below.refl _ _).alloc (Nat.le_refl _) _).alloc (by simp) _
 have hq1:Wire.QIs ((w.alloc (.cells #[.string ⟨#[]⟩,.slice none 0 0,.slice none 0 0,.slice none 0 0,.slice none 0 0,.slice none 0 0,.slice none 0 0,.slice none 0 0] 35)).alloc (.cells #[bv,.int .i64 0,.bool false,.int .i64 0,.int .i64 0] 120)) (w.heap.size + 1) b0 bv l 0 0:=⟨0,false,0,0,⟨_,hR1⟩,hv.kept (wkept_below hB1) (fun h=>h),fun e=>hg0.resolve_left (fun h=>by omega),Nat.zero_le _,.inl ⟨rfl,rfl,rfl⟩⟩
 have Hcap:=hidden hcap
 have HG:Hid (b0 < w.heap.size + 1 ∨ l = []):=hg0.imp_left (fun e=>by omega)
 have HL:=hidden hl
 have H256:=hidden h256
 have htx:=qtxt 24 (w.heap.size + 1) b0 bv l 0 0 _ (by decide) hl h256 (Nat.zero_le _) hq1 Hcap.out
 have le0:=txt_le l 24 0 0 (Nat.zero_le _)
 have HD:=hidden hd
 unfold QTxtE at htx
 rw [e0] at htx le0
 simp only at htx le0
 have HtA:=hidden eA
 have HtB:=hidden eB
 have HtC:=hidden eC
 have HtD:=hidden eD
 have HtE:=hidden eE
 have HtF:=hidden eF
 have HtG:=hidden eG
 clear hl h256 hg0 hcap hv hlen hd e0 eA eB eC eD eE eF eG
 unfold DecO
 generalize decO l = RES at *
 have Hbv:=hidden hbv
 subst hbv
 go_enter Tryz.func22,Tryz.ntmps22
 go_wp2_with fail
 generalize ((w.alloc (.cells #[.string ⟨#[]⟩,.slice none 0 0,.slice none 0 0,.slice none 0 0,.slice none 0 0,.slice none 0 0,.slice none 0 0,.slice none 0 0] 35)).alloc (.cells #[.slice va l.length vc,.int .i64 0,.bool false,.int .i64 0,.int .i64 0] 120)) = W1 at *
 generalize Value.slice va l.length vc = bv at *
 refine htx.mono ?_
 rintro e w2 ⟨rfl,hq2,K2⟩
 have hz1:w.heap.size + 1 < W1.heap.size:=(Array.getElem?_eq_some_iff.1 hR1).1
 have hs2:=K2.size
 have hA2:=(K2.block w.heap.size (by omega) (by omega)).trans hA1
 have hB2:=hB1.trans (K2.below (B:=w.heap.size) (by omega) (fun x hx h=>by omega))
 have hA3:=(Below.heap_alloc w2 (.cells #[.string (str m),.slice none 0 0,.slice none 0 0,.slice none 0 0,.slice none 0 0,.slice none 0 0,.slice none 0 0,.slice none 0 0] 35) w.heap.size (by omega)).trans hA2
 have hC3:=World.alloc_heap_new w2 (.cells #[.string (str m),.slice none 0 0,.slice none 0 0,.slice none 0 0,.slice none 0 0,.slice none 0 0,.slice none 0 0,.slice none 0 0] 35)
 have hq3:=hq2.kept (wkept_alloc w2 (.cells #[.string (str m),.slice none 0 0,.slice none 0 0,.slice none 0 0,.slice none 0 0,.slice none 0 0,.slice none 0 0,.slice none 0 0] 35)) (fun h=>h) (fun h=>h.elim)
 have hB3:=hB2.trans ((wkept_alloc w2 (.cells #[.string (str m),.slice none 0 0,.slice none 0 0,.slice none 0 0,.slice none 0 0,.slice none 0 0,.slice none 0 0,.slice none 0 0] 35)).below (B:=w.heap.size) (by omega) (fun _ _ h=>h))
 have hz3:(w2.alloc (.cells #[.string (str m),.slice none 0 0,.slice none 0 0,.slice none 0 0,.slice none 0 0,.slice none 0 0,.slice none 0 0,.slice none 0 0] 35)).heap.size = w2.heap.size + 1:=by simp
 have D3:DB (w.heap.size + 1) b0 bv l w2.heap.size #[.string (str m),.slice none 0 0,.slice none 0 0,.slice none 0 0,.slice none 0 0,.slice none 0 0,.slice none 0 0,.slice none 0 0] p0 y0 (w2.alloc (.cells #[.string (str m),.slice none 0 0,.slice none 0 0,.slice none 0 0,.slice none 0 0,.slice none 0 0,.slice none 0 0,.slice none 0 0] 35)) (w2.alloc (.cells #[.string (str m),.slice none 0 0,.slice none 0 0,.slice none 0 0,.slice none 0 0,.slice none 0 0,.slice none 0 0,.slice none 0 0] 35)):=⟨hC3,hq3,Wire.Kept.refl _ _,le0,by omega,by omega,HG.out⟩
 have hcb:w.heap.size + 1 < w2.heap.size:=by omega
 clear htx K2 hA1 hR1 hB1 hq1 hA2 hB2 hq2 hC3 hq3 hz1 hs2 hz3
 obtain ⟨N,q1,z1,hR⟩:=tri_is (Wire.rNum l p0 y0 65535)
 have hn:=rnumber (w.heap.size + 1) b0 bv l p0 y0 _ HL.out H256.out D3.le D3.rd Hcap.out
 have leN:=Wire.rNum_le l p0 y0 65535 D3.le
 have moN:=Wire.rNum_most l p0 y0 65535
 have HX:Hid ((ts,pA,yA) = refF (itemQ l) N q1 z1 []):=by rw [hid_iff, ← HtA.out]; unfold refL; rw [hR]
 unfold QNuE at hn
 rw [hR] at hn leN moN
 simp only at hn leN moN
 have O3:ObR (fun z=>w2.heap.size < z ∧ z < (w2.alloc (.cells #[.string (str m),.slice none 0 0,.slice none 0 0,.slice none 0 0,.slice none 0 0,.slice none 0 0,.slice none 0 0,.slice none 0 0] 35)).heap.size) (w2.alloc (.cells #[.string (str m),.slice none 0 0,.slice none 0 0,.slice none 0 0,.slice none 0 0,.slice none 0 0,.slice none 0 0,.slice none 0 0] 35)) ⟨.slice none 0 0,.slice none 0 0,.slice none 0 0,.slice none 0 0,.slice none 0 0,.slice none 0 0,.slice none 0 0⟩ ⟨m,[],[],[],[],[],[],[]⟩:=obR_m _ _ m
 clear hR
 go_wp2_with fail
 generalize w2.alloc (.cells #[.string (str m),.slice none 0 0,.slice none 0 0,.slice none 0 0,.slice none 0 0,.slice none 0 0,.slice none 0 0,.slice none 0 0] 35) = w3 at *
 generalize w2.heap.size = cb at *
 refine hn.mono ?_
 rintro e w4 ⟨rfl,hq4,K4⟩
 have D4:=D3.call K4 hq4 leN
 have O4:=O3.frame D4.carry
 replace D4:=D4.here
 have hA4:=(K4.block w.heap.size (Array.getElem?_eq_some_iff.1 hA3).1 (by omega)).trans hA3
 have hB4:=hB3.trans (K4.below (B:=w.heap.size) (by have:=hB3.size; omega) (fun x hx h=>by omega))
 clear hn D3 hq4 K4 hA3 hB3 O3
 go_upto_block 0 with fail
 go_cut [] (fun wx=>∃ v1,DB (w.heap.size + 1) b0 bv l cb #[.string (str m),v1,.slice none 0 0,.slice none 0 0,.slice none 0 0,.slice none 0 0,.slice none 0 0,.slice none 0 0] pA yA w4 wx ∧ RwR 4 cIt (fun z=>cb < z ∧ z < wx.heap.size) wx v1 ts)
 case first =>
  as_aux_lemma =>
   clear hA4 hB4 O4 HD HtA HtB HtC HtD HtE HtF HtG
   go_wp2
   go_loopg [7] N (fun gk i wr=>∃ (k pk yk:Nat) (acc:List It) (iv:Value),gk = k ∧ i = .int .i64 (k:Int) ∧ Hid ((ts,pA,yA) = refF (itemQ l) k pk yk acc) ∧ Hid (acc.length + k ≤ 65535) ∧ DB (w.heap.size + 1) b0 bv l cb #[.string (str m),iv,.slice none 0 0,.slice none 0 0,.slice none 0 0,.slice none 0 0,.slice none 0 0,.slice none 0 0] pk yk w4 wr ∧ RowG cIt 77 4 w4.heap.size wr iv acc)
   case atStart=>exact ⟨N,q1,z1,[],_,rfl,rfl,HX,by simpa [Hid] using moN,D4,RowG.nil _ _ _ _ _⟩
   case round =>
    obtain ⟨k,pk,yk,acc,iv,hgk0,rfl,hR,hak,Dr,hI⟩:=hrel
    rename World=>wo
    obtain ⟨fl,hfl,hfy⟩:=qflag Dr.rd
    obtain ⟨ia,ic,rfl⟩:=hI.shape
    clear D4 HX
    by_cases hgo:0 < k ∧ yk = 0
    ·obtain ⟨hk,rfl⟩:=hgo
     have hff:fl = false:=by simpa using hfy
     subst hff
     clear hfy
     have hki:(0:Int) < (k:Int):=by omega
     have hkle:k ≤ 65535:=by have:=hak.out; omega
     have hwk:IntKind.i64.wrap ((k:Int) - 1) = ((k - 1:Nat):Int):=by rw [show (k:Int) - 1 = ((k - 1:Nat):Int) by omega,IntKind.wrap_i64]; omega
     have hit:∀ u,Below wo.heap.size wo u → Calls Tryz.prog 60 #[.pointer (some ⟨w.heap.size + 1,0,none⟩)] u (RItemE (itemQ l pk 0) l (w.heap.size + 1) b0 bv u):=fun u hu=>refReadItem (w.heap.size + 1) b0 bv l pk 0 u HL.out H256.out Dr.le (Dr.rd.kept (wkept_below hu) (fun h=>h) (fun h=>h.elim)) (HG.out.imp_left (fun e=>by have:=hu.size; have:=Dr.rd.lt; omega)) Hcap.out
     have hst:=refF_go (itemQ l) k pk acc hk
     have hpi:(itemQ l pk 0).2.1 ≤ l.length:=by rw [(item_ref l pk 0).1]; exact item_le l pk 0 Dr.le
     unfold RItemE at hit
     generalize itemQ l pk 0 = X at *
     obtain ⟨x,px,yx⟩:=X
     simp only at hit hpi hst
     have HE0:Hid ((ts,pA,yA) = refF (itemQ l) (k - 1) px yx (acc ++ [x])):=by rw [hid_iff,hR.out,hst]
     clear hst hR
     obtain ⟨kd,xn,xt,xc⟩:=x
     have c1:wo.cell? ⟨cb,1,none⟩ = some (.slice ia acc.length ic):=Dr.cell 1
     have G0:Below wo.heap.size wo wo.drew:=(Below.refl _ _).drew
     have hSl:acc.length + 1 ≤ 65535:=by have:=hak.out; omega
     have hfin:=fun (w5 w7:World) (g cap:Nat) (o:Obj) K5 hq5 ho hg7=>Dr.put cItK hI (w5:=w5) (w7:=w7) (p':=px) (y':=yx) (o:=o) (v7 := .slice (some ⟨g,0,none⟩) (acc.length + 1) cap) (ys:=acc ++ [⟨kd,xn,xt,xc⟩]) K5 hq5 hpi ho hg7 1
     have hw4:w4.heap.size ≤ wo.heap.size:=Dr.kept.size
     have hcb4:cb < w4.heap.size:=Dr.old
     have hO5:∀ u,Wire.Kept (fun z=>z = w.heap.size + 1) wo u → RowG cIt 77 4 w4.heap.size u (.slice ia acc.length ic) acc:=fun u hu=>hI.wk cItK hu (fun z hz e=>by omega)
     have hc5:∀ u,Wire.Kept (fun z=>z = w.heap.size + 1) wo u → u.cell? ⟨cb,1,none⟩ = some (.slice ia acc.length ic):=fun u hu=>by rw [cell_of_row _ _ 1 _ _ _ ((hu.block cb (by omega) (by omega)).trans Dr.box)]; rfl
     have hT5:∀ (u v:World) (cv:Value) (o:Obj),u.heap.size = wo.heap.size → CsR (Fr u v) v cv xc → cIt (fun g=>w4.heap.size ≤ g ∧ g < (v.alloc o).heap.size ∧ some g ≠ (Value.slice ia acc.length ic).ownBlock) (v.alloc o) ⟨kd,xn,xt,xc⟩ [.int .i64 kd,.string (str xn),.string (str xt),cv]:=fun u v cv o hu h=>⟨cv,rfl,h.frame fun z hz=>by
      have h1:=hz.1
      have h2:=hz.2
      exact ⟨⟨by omega,by simp; omega,fun e=>by have:=(hI.block e.symm).2; omega⟩,Below.heap_alloc _ _ _ h2⟩⟩
     clear Dr
     go_wp2_with fail
     go_region_law (first
      | (refine step_rowG (bytes:=64) cItK (by rfl) (.tmp 42) (.tmp 45) 22 (by rfl) Tryz.underlying22 (by kernel_rfl) (by decide) _ acc (by rfl) hO6 ⟨kd,xn,xt,xc⟩ _ _ 1 (by rfl) (cells_new _ _ _) hT6 (by unfold maxLen; omega) (by omega) hB5 ?_; intro g7 cap7 w7 ho7 hg7; obtain ⟨c7,f7,D8,ho8⟩:=hfin w5 w7 g7 cap7 _ K5' hq5 ho7 hg7)
      | (go_simp; go_at_call 60; refine (hit _ (by assumption)).mono ?_; rintro e w5 ⟨fv,rfl,hT4,hf4,hq5,K5⟩; obtain ⟨fa,fc,rfl⟩:=hT4.shape; unfold itv; have K5':Wire.Kept (fun k=>k = w.heap.size + 1) wo w5:=(wkept_below G0).trans K5 (fun _ _ h=>h.elim) (fun _ _ h=>h); have c5:=hc5 _ K5'; have c6:=hc5 _ (K5'.trans (wkept_alloc w5 (.cells #[.int .i64 kd,.string (str xn),.string (str xt),.slice fa xc.length fc] 77)) (fun _ _ h=>h) (fun _ _ h=>h.elim)); have hO6:=(hO5 _ K5').wk cItK (wkept_alloc w5 (.cells #[.int .i64 kd,.string (str xn),.string (str xt),.slice fa xc.length fc] 77)) (fun _ _ h=>h); have hT6:=hT5 _ w5 _ (.cells #[.int .i64 kd,.string (str xn),.string (str xt),.slice fa xc.length fc] 77) rfl hT4; have hB5:w4.heap.size ≤ (w5.alloc (.cells #[.int .i64 kd,.string (str xn),.string (str xt),.slice fa xc.length fc] 77)).heap.size:=by (have:=K5'.size; simp; omega)))
     all_goals (
      clear hfin hO5 hc5 hit c1 c5 c6 hO6 hB5 hT5 hT6 hT4 ho7 hg7 K5 K5' hq5 hfl hI
      go_wp2
      go_roundg (k - 1)
      case measure=>omega
      case rel=>exact ⟨k - 1,px,yx,acc ++ [⟨kd,xn,xt,xc⟩],_,rfl,by first | rfl | rw [hwk] | go_num,HE0,by (have:=hak.out; rw [hid_iff,List.length_append,List.length_singleton]; omega),D8,ho8⟩)
    ·have hor:k = 0 ∨ (0 < k ∧ fl = true):=by
      rcases Nat.eq_zero_or_pos k with h | h
      ·exact .inl h
      ·exact .inr ⟨h,hfy.2 (fun e=>hgo ⟨h,e⟩)⟩
     have HEY:(ts,pA,yA) = (acc,pk,yk):=by
      rw [hR.out]
      refine refF_stop _ _ _ _ _ ?_
      rcases hor with h | h
      ·exact .inl h
      ·exact .inr (hfy.1 h.2)
     simp only [Prod.mk.injEq] at HEY
     obtain ⟨rfl,rfl,rfl⟩:=HEY
     have hrow:=Dr.row cItK hI
     clear hR hfy hgo hI
     rcases hor with rfl | ⟨hk,rfl⟩
     all_goals (
      try have hki:(0:Int) < (k:Int):=by omega
      go_wp2
      go_meet
      exact ⟨_,Dr,hrow⟩)
 case rest =>
  obtain ⟨v1,D5,T5⟩:=hcut
  have hA5:=(D5.kept.block w.heap.size (Array.getElem?_eq_some_iff.1 hA4).1 (by omega)).trans hA4
  have hB5:=hB4.trans (D5.kept.below (B:=w.heap.size) (by have:=hB4.size; omega) (fun x hx h=>by omega))
  have O5':=O4.frame D5.carry
  have O5:ObR (fun z=>cb < z ∧ z < wc.heap.size) wc ⟨v1,.slice none 0 0,.slice none 0 0,.slice none 0 0,.slice none 0 0,.slice none 0 0,.slice none 0 0⟩ ⟨m,ts,[],[],[],[],[],[]⟩:=⟨rw_it T5,O5'.texts,O5'.globals,O5'.funs,O5'.exports,O5'.symbols,O5'.relocs⟩
  replace D5:=D5.here
  clear hA4 hB4 O4 O5' T5 D4 HtA HX leN moN
  have hx:=rreadTexts 200 (w.heap.size + 1) b0 bv l pA yA _ (by decide) HL.out H256.out D5.le D5.rd (HG.out.imp_left (fun e=>by have:=D5.rd.lt; omega)) Hcap.out
  have leX:=refL_le (txt_le l 200) pA yA D5.le
  unfold QTxsE at hx
  rw [HtB.out] at hx leX
  simp only at hx leX
  go_wp2_with fail
  refine hx.mono ?_
  rintro e w6 ⟨v2,rfl,hTx,hxl,hq,KX⟩
  have D6:=D5.call KX hq leX
  have hA6:=(KX.block w.heap.size (Array.getElem?_eq_some_iff.1 hA5).1 (by omega)).trans hA5
  have hB6:=hB5.trans (KX.below (B:=w.heap.size) (by have:=hB5.size; omega) (fun x hx h=>by omega))
  have O6':=O5.frame D6.carry
  have hz6:=D5.old
  have O6:ObR (fun z=>cb < z ∧ z < w6.heap.size) w6 ⟨v1,v2,.slice none 0 0,.slice none 0 0,.slice none 0 0,.slice none 0 0,.slice none 0 0⟩ ⟨m,ts,xs,[],[],[],[],[]⟩:=⟨O6'.types,hTx.frame (fun z hz=>⟨⟨by have:=hz.1; omega,hz.2⟩,rfl⟩),O6'.globals,O6'.funs,O6'.exports,O6'.symbols,O6'.relocs⟩
  clear hx leX hTx hxl hq KX D5 O5 hA5 hB5 O6' hz6
  obtain ⟨a2,c2,hv2⟩:=O6.texts.1.shape
  simp only at hv2
  subst hv2
  have cf:=D6.cell 2
  have ff:=D6.frozen 2
  simp only [List.getElem?_toArray,List.getElem?_cons_succ,List.getElem?_cons_zero] at cf
  have K7:=Wire.kept_set w6 cb 2 (.slice a2 xs.length c2)
  have D7:DB (w.heap.size + 1) b0 bv l cb #[.string (str m),v1,(.slice a2 xs.length c2),.slice none 0 0,.slice none 0 0,.slice none 0 0,.slice none 0 0,.slice none 0 0] pB yB w6 (w6.setCell ⟨cb,2,none⟩ (.slice a2 xs.length c2)):=D6.here.store 2 (.slice a2 xs.length c2)
  have O7:=O6.frame D7.carry
  have hA7:=(K7.block w.heap.size (Array.getElem?_eq_some_iff.1 hA6).1 (by omega)).trans hA6
  have hB7:=hB6.trans (K7.below (B:=w.heap.size) (by have:=hB6.size; omega) (fun x hx h=>by omega))
  replace D7:=D7.here
  clear K7 D6 O6 hA6 hB6
  obtain ⟨N,q1,z1,hR⟩:=tri_is (Wire.rNum l pB yB 65535)
  have hn:=rnumber (w.heap.size + 1) b0 bv l pB yB _ HL.out H256.out D7.le D7.rd Hcap.out
  have leN:=Wire.rNum_le l pB yB 65535 D7.le
  have moN:=Wire.rNum_most l pB yB 65535
  have HX:Hid ((gs,pC,yC) = refF (glR l) N q1 z1 []):=by rw [hid_iff, ← HtC.out]; unfold refL; rw [hR]
  unfold QNuE at hn
  rw [hR] at hn leN moN
  simp only at hn leN moN
  clear hR
  go_wp2_with fail
  clear cf ff
  generalize (w6.setCell ⟨cb,2,none⟩ (.slice a2 xs.length c2)) = W8 at *
  refine hn.mono ?_
  rintro e w8 ⟨rfl,hq,KX⟩
  have D8:=D7.call KX hq leN
  have O8:=O7.frame D8.carry
  replace D8:=D8.here
  have hA8:=(KX.block w.heap.size (Array.getElem?_eq_some_iff.1 hA7).1 (by omega)).trans hA7
  have hB8:=hB7.trans (KX.below (B:=w.heap.size) (by have:=hB7.size; omega) (fun x hx h=>by omega))
  clear hn D7 hq KX hA7 hB7 O7
  go_upto_block 2 with fail
  go_cut [] (fun wx=>∃ v3,DB (w.heap.size + 1) b0 bv l cb #[.string (str m),v1,(.slice a2 xs.length c2),v3,.slice none 0 0,.slice none 0 0,.slice none 0 0,.slice none 0 0] pC yC w8 wx ∧ RwR 3 cGl (fun z=>cb < z ∧ z < wx.heap.size) wx v3 gs)
  case first =>
   as_aux_lemma =>
    clear hA8 hB8 O8 HD HtB HtC HtD HtE HtF HtG
    go_wp2
    go_loopg [8] N (fun gk i wr=>∃ (k pk yk:Nat) (acc:List Gl) (iv:Value),gk = k ∧ i = .int .i64 (k:Int) ∧ Hid ((gs,pC,yC) = refF (glR l) k pk yk acc) ∧ Hid (acc.length + k ≤ 65535) ∧ DB (w.heap.size + 1) b0 bv l cb #[.string (str m),v1,(.slice a2 xs.length c2),iv,.slice none 0 0,.slice none 0 0,.slice none 0 0,.slice none 0 0] pk yk w8 wr ∧ RowG cGl 74 3 w8.heap.size wr iv acc)
    case atStart=>exact ⟨N,q1,z1,[],_,rfl,rfl,HX,by simpa [Hid] using moN,D8,RowG.nil _ _ _ _ _⟩
    case round =>
     obtain ⟨k,pk,yk,acc,iv,hgk0,rfl,hR,hak,Dr,hI⟩:=hrel
     rename World=>wo
     obtain ⟨fl,hfl,hfy⟩:=qflag Dr.rd
     obtain ⟨ia,ic,rfl⟩:=hI.shape
     clear D8 HX
     by_cases hgo:0 < k ∧ yk = 0
     ·obtain ⟨hk,rfl⟩:=hgo
      have hff:fl = false:=by simpa using hfy
      subst hff
      clear hfy
      have hki:(0:Int) < (k:Int):=by omega
      have hkle:k ≤ 65535:=by have:=hak.out; omega
      have hwk:IntKind.i64.wrap ((k:Int) - 1) = ((k - 1:Nat):Int):=by rw [show (k:Int) - 1 = ((k - 1:Nat):Int) by omega,IntKind.wrap_i64]; omega
      have hst:=refF_go (glR l) k pk acc hk
      have hSl:acc.length + 1 ≤ 65535:=by have:=hak.out; omega
      have hw0:w8.heap.size ≤ wo.heap.size:=Dr.kept.size
      have hcb0:cb < w8.heap.size:=Dr.old
      obtain ⟨s0,p0,y0,h0⟩:=tri_is (txtR l 24 pk 0)
      obtain ⟨s1,p1,y1,h1⟩:=tri_is (txtR l 200 p0 y0)
      obtain ⟨s2,p2,y2,h2⟩:=tri_is (Wire.rNum l p1 y1 65535)
      have hxx:glR l pk 0 = (⟨s0,s1,(s2:Int)⟩,p2,y2):=by unfold glR; simp only [h0,h1,h2]
      rw [hxx] at hst
      simp only at hst
      have HE0:Hid ((gs,pC,yC) = refF (glR l) (k - 1) p2 y2 (acc ++ [⟨s0,s1,(s2:Int)⟩])):=by rw [hid_iff,hR.out,hst]
      clear hst hR hxx
      have hc:=qtxt 24 (w.heap.size + 1) b0 bv l pk 0 _ (by decide) HL.out H256.out Dr.le Dr.rd Hcap.out
      have lc:=txt_le l 24 pk 0 Dr.le
      unfold QTxtE at hc
      rw [h0] at hc lc
      simp only at hc lc
      go_wp2_with fail
      refine hc.mono ?_
      rintro e w8_0 ⟨rfl,hq,KX⟩
      have X8_0:XB (w.heap.size + 1) b0 bv l w8_0.heap.size 74 #[.string (str s0),.string ⟨#[]⟩,.int .i64 0] p0 y0 wo (w8_0.alloc (.cells #[.string (str s0),.string ⟨#[]⟩,.int .i64 0] 74)):=Dr.box0 KX hq lc 74 #[.string (str s0),.string ⟨#[]⟩,.int .i64 0]
      clear hc hq KX lc
      have hc:=qtxt 200 (w.heap.size + 1) b0 bv l p0 y0 _ (by decide) HL.out H256.out X8_0.le X8_0.rd Hcap.out
      have lc:=txt_le l 200 p0 y0 X8_0.le
      unfold QTxtE at hc
      rw [h1] at hc lc
      simp only at hc lc
      go_wp2_with fail
      generalize (w8_0.alloc (.cells #[.string (str s0),.string ⟨#[]⟩,.int .i64 0] 74)) = u1 at *
      generalize hgbe:w8_0.heap.size = gb at *
      refine hc.mono ?_
      rintro e w8_1 ⟨rfl,hq,KX⟩
      have X8_1c:=X8_0.call KX hq lc
      have fr0:=X8_0.carryC KX
      clear hc hq KX lc X8_0 fr0
      have cq:=X8_1c.cell 1
      have fq:=X8_1c.frozen 1
      simp only [List.getElem?_toArray,List.getElem?_cons_succ,List.getElem?_cons_zero] at cq
      have X8_1:XB (w.heap.size + 1) b0 bv l gb 74 #[.string (str s0),.string (str s1),.int .i64 0] p1 y1 wo (w8_1.setCell ⟨gb,1,none⟩ (.string (str s1))):=X8_1c.store 1 (.string (str s1))
      have fr1:=X8_1c.carryS 1 (.string (str s1))
      clear X8_1c fr1
      have hc:=rnumber (w.heap.size + 1) b0 bv l p1 y1 _ HL.out H256.out X8_1.le X8_1.rd Hcap.out
      have lc:=Wire.rNum_le l p1 y1 65535 X8_1.le
      unfold QNuE at hc
      rw [h2] at hc lc
      simp only at hc lc
      go_wp2_with fail
      generalize (w8_1.setCell ⟨gb,1,none⟩ (.string (str s1))) = u2 at *
      refine hc.mono ?_
      rintro e w8_2 ⟨rfl,hq,KX⟩
      have X8_2c:=X8_1.call KX hq lc
      have fr0:=X8_1.carryC KX
      clear hc hq KX lc X8_1 fr0
      have cq:=X8_2c.cell 2
      have fq:=X8_2c.frozen 2
      simp only [List.getElem?_toArray,List.getElem?_cons_succ,List.getElem?_cons_zero] at cq
      have X8_2:XB (w.heap.size + 1) b0 bv l gb 74 #[.string (str s0),.string (str s1),.int .i64 (s2:Int)] p2 y2 wo (w8_2.setCell ⟨gb,2,none⟩ (.int .i64 (s2:Int))):=X8_2c.store 2 (.int .i64 (s2:Int))
      have fr1:=X8_2c.carryS 2 (.int .i64 (s2:Int))
      clear X8_2c fr1
      go_upto_region 16 with fail
      generalize (w8_2.setCell ⟨gb,2,none⟩ (.int .i64 (s2:Int))) = ul at *
      have ci:ul.cell? ⟨cb,3,none⟩ = some (.slice ia acc.length ic):=by rw [cell_of_row _ _ 3 _ _ _ ((X8_2.kept.block cb (by omega) (by omega)).trans Dr.box)]; rfl
      have e0:ul.cell? ⟨gb,0,none⟩ = some (.string (str s0)):=X8_2.cell 0
      have e1:ul.cell? ⟨gb,1,none⟩ = some (.string (str s1)):=X8_2.cell 1
      have e2:ul.cell? ⟨gb,2,none⟩ = some (.int .i64 (s2:Int)):=X8_2.cell 2
      have hfr:=X8_2.last hI hw0 (.cells #[.string (str s0),.string (str s1),.int .i64 (s2:Int)] 74)
      have hC8:cGl (fun g=>w8.heap.size ≤ g ∧ g < (ul.alloc (.cells #[.string (str s0),.string (str s1),.int .i64 (s2:Int)] 74)).heap.size ∧ some g ≠ (Value.slice ia acc.length ic).ownBlock) (ul.alloc (.cells #[.string (str s0),.string (str s1),.int .i64 (s2:Int)] 74)) ⟨s0,s1,(s2:Int)⟩ [.string (str s0),.string (str s1),.int .i64 (s2:Int)]:=rfl
      have hI8:=X8_2.row cGlK hI (by omega) (.cells #[.string (str s0),.string (str s1),.int .i64 (s2:Int)] 74)
      have hB8:w8.heap.size ≤ (ul.alloc (.cells #[.string (str s0),.string (str s1),.int .i64 (s2:Int)] 74)).heap.size:=by have:=X8_2.kept.size; simp; omega
      have hfin:=fun (w7:World) (g cap:Nat) ho7 hg7=>Dr.put cGlK hI (w5:=ul) (w7:=w7) (p':=p2) (y':=y2) (o := .cells #[.string (str s0),.string (str s1),.int .i64 (s2:Int)] 74) (v7 := .slice (some ⟨g,0,none⟩) (acc.length + 1) cap) (ys:=acc ++ [⟨s0,s1,(s2:Int)⟩]) X8_2.kept X8_2.rd X8_2.le ho7 hg7 3
      clear X8_2 Dr hfl hfr 
      go_wp2_with (at_builtin; refine append_rowG (bytes:=40) cGlK rfl (.tmp 74) (.tmp 76) 30 rfl Tryz.underlying30 (by kernel_rfl) (by decide) (.slice ia acc.length ic) acc (by rfl) hI8 _ _ _ _ (by rfl) ?news hC8 ?len ?hby hB8 ?next)
      case news=>first | exact cells_new _ _ _ | exact fun j u h=>h
      case len=>unfold maxLen; omega
      case hby=>omega
      case next =>
       intro gq cap7 w7 j1 j2
       obtain ⟨c7,f7,D8,ho8⟩:=hfin w7 gq cap7 j1 j2
       have HAK:Hid ((acc ++ [(⟨s0,s1,(s2:Int)⟩:Gl)]).length + (k - 1) ≤ 65535):=by (have:=hak.out; rw [hid_iff,List.length_append,List.length_singleton]; omega)
       clear hfin hI8 hC8 hB8 j1 j2 ci e0 e1 e2 hI
       go_wp2
       go_roundg (k - 1)
       case measure=>omega
       case rel=>exact ⟨k - 1,p2,y2,acc ++ [⟨s0,s1,(s2:Int)⟩],(.slice (some ⟨gq,0,none⟩) (acc.length + 1) cap7),rfl,by first | rfl | rw [hwk] | go_num,HE0,HAK,D8,ho8⟩
     ·have hor:k = 0 ∨ (0 < k ∧ fl = true):=by
       rcases Nat.eq_zero_or_pos k with h | h
       ·exact .inl h
       ·exact .inr ⟨h,hfy.2 (fun e=>hgo ⟨h,e⟩)⟩
      have HEY:(gs,pC,yC) = (acc,pk,yk):=by
       rw [hR.out]
       refine refF_stop _ _ _ _ _ ?_
       rcases hor with h | h
       ·exact .inl h
       ·exact .inr (hfy.1 h.2)
      simp only [Prod.mk.injEq] at HEY
      obtain ⟨rfl,rfl,rfl⟩:=HEY
      have hrow:=Dr.row cGlK hI
      clear hR hfy hgo hI
      rcases hor with rfl | ⟨hk,rfl⟩
      all_goals (
       try have hki:(0:Int) < (k:Int):=by omega
       go_wp2
       go_meet
       exact ⟨_,Dr,hrow⟩)
  case rest =>
  obtain ⟨v3,D9,TT⟩:=hcut
  have hA9:=(D9.kept.block w.heap.size (Array.getElem?_eq_some_iff.1 hA8).1 (by omega)).trans hA8
  have hB9:=hB8.trans (D9.kept.below (B:=w.heap.size) (by have:=hB8.size; omega) (fun x hx h=>by omega))
  have O9':=O8.frame D9.carry
  rename World=>w9
  have O9:ObR (fun z=>cb < z ∧ z < w9.heap.size) w9 ⟨v1,(.slice a2 xs.length c2),v3,.slice none 0 0,.slice none 0 0,.slice none 0 0,.slice none 0 0⟩ ⟨m,ts,xs,gs,[],[],[],[]⟩:=⟨O9'.types,O9'.texts,TT,O9'.funs,O9'.exports,O9'.symbols,O9'.relocs⟩
  replace D9:=D9.here
  clear hA8 hB8 O8 O9' TT D8 HX leN moN
  obtain ⟨N,q1,z1,hR⟩:=tri_is (Wire.rNum l pC yC 65535)
  have hn:=rnumber (w.heap.size + 1) b0 bv l pC yC _ HL.out H256.out D9.le D9.rd Hcap.out
  have leN:=Wire.rNum_le l pC yC 65535 D9.le
  have moN:=Wire.rNum_most l pC yC 65535
  have HX:Hid ((fs,pD,yD) = refF (fnQ l) N q1 z1 []):=by rw [hid_iff, ← HtD.out]; unfold refL; rw [hR]
  unfold QNuE at hn
  rw [hR] at hn leN moN
  simp only at hn leN moN
  clear hR
  go_wp2_with fail
  refine hn.mono ?_
  rintro e w10 ⟨rfl,hq,KX⟩
  have D10:=D9.call KX hq leN
  have O10:=O9.frame D10.carry
  replace D10:=D10.here
  have hA10:=(KX.block w.heap.size (Array.getElem?_eq_some_iff.1 hA9).1 (by omega)).trans hA9
  have hB10:=hB9.trans (KX.below (B:=w.heap.size) (by have:=hB9.size; omega) (fun x hx h=>by omega))
  clear hn D9 hq KX hA9 hB9 O9
  go_upto_block 4 with fail
  go_cut [] (fun wx=>∃ v4,DB (w.heap.size + 1) b0 bv l cb #[.string (str m),v1,(.slice a2 xs.length c2),v3,v4,.slice none 0 0,.slice none 0 0,.slice none 0 0] pD yD w10 wx ∧ RwR 6 cFn (fun z=>cb < z ∧ z < wx.heap.size) wx v4 fs)
  case first =>
   focus
    clear hA10 hB10 O10 HD HtB HtC HtD HtE HtF HtG
    go_wp2
    go_loopg [10] N (fun gk i wr=>∃ (k pk yk:Nat) (acc:List Fn) (iv:Value),gk = k ∧ i = .int .i64 (k:Int) ∧ Hid ((fs,pD,yD) = refF (fnQ l) k pk yk acc) ∧ Hid (acc.length + k ≤ 65535) ∧ DB (w.heap.size + 1) b0 bv l cb #[.string (str m),v1,(.slice a2 xs.length c2),v3,iv,.slice none 0 0,.slice none 0 0,.slice none 0 0] pk yk w10 wr ∧ RowG cFn 54 6 w10.heap.size wr iv acc)
    case atStart=>exact ⟨N,q1,z1,[],_,rfl,rfl,HX,by simpa [Hid] using moN,D10,RowG.nil _ _ _ _ _⟩
    case round =>
     obtain ⟨k,pk,yk,acc,iv,hgk0,rfl,hR,hak,Dr,hI⟩:=hrel
     rename World=>wo
     obtain ⟨fl,hfl,hfy⟩:=qflag Dr.rd
     obtain ⟨ia,ic,rfl⟩:=hI.shape
     clear D10 HX
     by_cases hgo:0 < k ∧ yk = 0
     ·obtain ⟨hk,rfl⟩:=hgo
      have hff:fl = false:=by simpa using hfy
      subst hff
      clear hfy
      have hki:(0:Int) < (k:Int):=by omega
      have hkle:k ≤ 65535:=by have:=hak.out; omega
      have hwk:IntKind.i64.wrap ((k:Int) - 1) = ((k - 1:Nat):Int):=by rw [show (k:Int) - 1 = ((k - 1:Nat):Int) by omega,IntKind.wrap_i64]; omega
      have hst:=refF_go (fnQ l) k pk acc hk
      have hSl:acc.length + 1 ≤ 65535:=by have:=hak.out; omega
      have hw0:w10.heap.size ≤ wo.heap.size:=Dr.kept.size
      have hcb0:cb < w10.heap.size:=Dr.old
      obtain ⟨s0,p0,y0,h0⟩:=tri_is (txtR l 24 pk 0)
      obtain ⟨s1,p1,y1,h1⟩:=tri_is (refL l (txtR l 200) p0 y0)
      obtain ⟨s2,p2,y2,h2⟩:=tri_is (Wire.rNum l p1 y1 65535)
      obtain ⟨s3,p3,y3,h3⟩:=tri_is (txtR l 200 p2 y2)
      obtain ⟨s4,p4,y4,h4⟩:=tri_is (Wire.rNum l p3 y3 65535)
      obtain ⟨n5,pn5,yn5,hn5⟩:=tri_is (Wire.rNum l p4 y4 65535)
      obtain ⟨s5,p5,y5,h5⟩:=tri_is (txtR l 65535 p4 y4)
      have hr5:((Wire.rTake l pn5 yn5 (n5:Nat)).1.map UInt8.ofNat,(Wire.rTake l pn5 yn5 (n5:Nat)).2) = (s5,p5,y5):=by rw [← h5,txt_is14,hn5]
      have hxx:fnQ l pk 0 = (⟨s0,s1,(s2:Int),s3,(s4:Int),s5⟩,p5,y5):=by unfold fnQ; simp only [h0,h1,h2,h3,h4,h5]
      rw [hxx] at hst
      simp only at hst
      have HE0:Hid ((fs,pD,yD) = refF (fnQ l) (k - 1) p5 y5 (acc ++ [⟨s0,s1,(s2:Int),s3,(s4:Int),s5⟩])):=by rw [hid_iff,hR.out,hst]
      clear hst hR hxx
      have hc:=qtxt 24 (w.heap.size + 1) b0 bv l pk 0 _ (by decide) HL.out H256.out Dr.le Dr.rd Hcap.out
      have lc:=txt_le l 24 pk 0 Dr.le
      unfold QTxtE at hc
      rw [h0] at hc lc
      simp only at hc lc
      go_wp2_with fail
      refine hc.mono ?_
      rintro e w10_0 ⟨rfl,hq,KX⟩
      have X10_0:XB (w.heap.size + 1) b0 bv l w10_0.heap.size 54 #[.string (str s0),.slice none 0 0,.int .i64 0,.string ⟨#[]⟩,.int .i64 0,.slice none 0 0] p0 y0 wo (w10_0.alloc (.cells #[.string (str s0),.slice none 0 0,.int .i64 0,.string ⟨#[]⟩,.int .i64 0,.slice none 0 0] 54)):=Dr.box0 KX hq lc 54 #[.string (str s0),.slice none 0 0,.int .i64 0,.string ⟨#[]⟩,.int .i64 0,.slice none 0 0]
      clear hc hq KX lc
      have hc:=rreadTexts 200 (w.heap.size + 1) b0 bv l p0 y0 _ (by decide) HL.out H256.out X10_0.le X10_0.rd (HG.out.imp_left (fun e=>by have:=X10_0.rd.lt; omega)) Hcap.out
      have lc:=refL_le (txt_le l 200) p0 y0 X10_0.le
      unfold QTxsE at hc
      rw [h1] at hc lc
      simp only at hc lc
      go_wp2_with fail
      generalize (w10_0.alloc (.cells #[.string (str s0),.slice none 0 0,.int .i64 0,.string ⟨#[]⟩,.int .i64 0,.slice none 0 0] 54)) = u1 at *
      generalize hgbe:w10_0.heap.size = gb at *
      refine hc.mono ?_
      rintro e w10_1 ⟨xv1,rfl,hT1,hTl,hq,KX⟩
      obtain ⟨xa1,xc1,rfl⟩:=hT1.1.shape
      clear hTl
      have X10_1c:=X10_0.call KX hq lc
      have fr0:=X10_0.carryC KX
      replace hT1:=hT1.frame (X10_0.take (u':=w10_1))
      clear hc hq KX lc X10_0 fr0
      have cq:=X10_1c.cell 1
      have fq:=X10_1c.frozen 1
      simp only [List.getElem?_toArray,List.getElem?_cons_succ,List.getElem?_cons_zero] at cq
      have X10_1:XB (w.heap.size + 1) b0 bv l gb 54 #[.string (str s0),.slice xa1 s1.length xc1,.int .i64 0,.string ⟨#[]⟩,.int .i64 0,.slice none 0 0] p1 y1 wo (w10_1.setCell ⟨gb,1,none⟩ (.slice xa1 s1.length xc1)):=X10_1c.store 1 (.slice xa1 s1.length xc1)
      have fr1:=X10_1c.carryS 1 (.slice xa1 s1.length xc1)
      replace hT1:=hT1.frame fr1
      clear X10_1c fr1
      have hc:=rnumber (w.heap.size + 1) b0 bv l p1 y1 _ HL.out H256.out X10_1.le X10_1.rd Hcap.out
      have lc:=Wire.rNum_le l p1 y1 65535 X10_1.le
      unfold QNuE at hc
      rw [h2] at hc lc
      simp only at hc lc
      go_wp2_with fail
      generalize (w10_1.setCell ⟨gb,1,none⟩ (.slice xa1 s1.length xc1)) = u2 at *
      refine hc.mono ?_
      rintro e w10_2 ⟨rfl,hq,KX⟩
      have X10_2c:=X10_1.call KX hq lc
      have fr0:=X10_1.carryC KX
      replace hT1:=hT1.frame fr0
      clear hc hq KX lc X10_1 fr0
      have cq:=X10_2c.cell 2
      have fq:=X10_2c.frozen 2
      simp only [List.getElem?_toArray,List.getElem?_cons_succ,List.getElem?_cons_zero] at cq
      have X10_2:XB (w.heap.size + 1) b0 bv l gb 54 #[.string (str s0),.slice xa1 s1.length xc1,.int .i64 (s2:Int),.string ⟨#[]⟩,.int .i64 0,.slice none 0 0] p2 y2 wo (w10_2.setCell ⟨gb,2,none⟩ (.int .i64 (s2:Int))):=X10_2c.store 2 (.int .i64 (s2:Int))
      have fr1:=X10_2c.carryS 2 (.int .i64 (s2:Int))
      replace hT1:=hT1.frame fr1
      clear X10_2c fr1
      have hc:=qtxt 200 (w.heap.size + 1) b0 bv l p2 y2 _ (by decide) HL.out H256.out X10_2.le X10_2.rd Hcap.out
      have lc:=txt_le l 200 p2 y2 X10_2.le
      unfold QTxtE at hc
      rw [h3] at hc lc
      simp only at hc lc
      go_wp2_with fail
      generalize (w10_2.setCell ⟨gb,2,none⟩ (.int .i64 (s2:Int))) = u3 at *
      refine hc.mono ?_
      rintro e w10_3 ⟨rfl,hq,KX⟩
      have X10_3c:=X10_2.call KX hq lc
      have fr0:=X10_2.carryC KX
      replace hT1:=hT1.frame fr0
      clear hc hq KX lc X10_2 fr0
      have cq:=X10_3c.cell 3
      have fq:=X10_3c.frozen 3
      simp only [List.getElem?_toArray,List.getElem?_cons_succ,List.getElem?_cons_zero] at cq
      have X10_3:XB (w.heap.size + 1) b0 bv l gb 54 #[.string (str s0),.slice xa1 s1.length xc1,.int .i64 (s2:Int),.string (str s3),.int .i64 0,.slice none 0 0] p3 y3 wo (w10_3.setCell ⟨gb,3,none⟩ (.string (str s3))):=X10_3c.store 3 (.string (str s3))
      have fr1:=X10_3c.carryS 3 (.string (str s3))
      replace hT1:=hT1.frame fr1
      clear X10_3c fr1
      have hc:=rnumber (w.heap.size + 1) b0 bv l p3 y3 _ HL.out H256.out X10_3.le X10_3.rd Hcap.out
      have lc:=Wire.rNum_le l p3 y3 65535 X10_3.le
      unfold QNuE at hc
      rw [h4] at hc lc
      simp only at hc lc
      go_wp2_with fail
      generalize (w10_3.setCell ⟨gb,3,none⟩ (.string (str s3))) = u4 at *
      refine hc.mono ?_
      rintro e w10_4 ⟨rfl,hq,KX⟩
      have X10_4c:=X10_3.call KX hq lc
      have fr0:=X10_3.carryC KX
      replace hT1:=hT1.frame fr0
      clear hc hq KX lc X10_3 fr0
      have cq:=X10_4c.cell 4
      have fq:=X10_4c.frozen 4
      simp only [List.getElem?_toArray,List.getElem?_cons_succ,List.getElem?_cons_zero] at cq
      have X10_4:XB (w.heap.size + 1) b0 bv l gb 54 #[.string (str s0),.slice xa1 s1.length xc1,.int .i64 (s2:Int),.string (str s3),.int .i64 (s4:Int),.slice none 0 0] p4 y4 wo (w10_4.setCell ⟨gb,4,none⟩ (.int .i64 (s4:Int))):=X10_4c.store 4 (.int .i64 (s4:Int))
      have fr1:=X10_4c.carryS 4 (.int .i64 (s4:Int))
      replace hT1:=hT1.frame fr1
      clear X10_4c fr1
      have p4le:p4 ≤ l.length:=X10_4.le
      have mon:=Wire.rNum_most l p4 y4 65535
      rw [hn5] at mon
      simp only at mon
      have hc:=rnumber (w.heap.size + 1) b0 bv l p4 y4 _ HL.out H256.out X10_4.le X10_4.rd Hcap.out
      have lc:=Wire.rNum_le l p4 y4 65535 X10_4.le
      unfold QNuE at hc
      rw [hn5] at hc lc
      simp only at hc lc
      go_wp2_with fail
      generalize (w10_4.setCell ⟨gb,4,none⟩ (.int .i64 (s4:Int))) = u5 at *
      refine hc.mono ?_
      rintro e w10_5 ⟨rfl,hq,KX⟩
      have X10_r:=X10_4.call KX hq lc
      have fr0:=X10_4.carryC KX
      replace hT1:=hT1.frame fr0
      clear hc hq KX lc X10_4 fr0
      have hc:=rraw14 n5 (w.heap.size + 1) b0 bv l pn5 yn5 w10_5 HL.out H256.out X10_r.le X10_r.rd mon Hcap.out
      have lc:=txt_le l 65535 p4 y4
      unfold QByE at hc
      rw [hr5] at hc
      rw [h5] at lc
      simp only at hc lc
      go_wp2_with fail
      refine hc.mono ?_
      rintro e w10_5b ⟨xv5,rfl,hT5,hq,KX⟩
      obtain ⟨xa5,xc5,rfl⟩:=hT5.shape
      replace lc:=lc p4le
      have X10_5c:=X10_r.call KX hq lc
      have fr0:=X10_r.carryC KX
      replace hT1:=hT1.frame fr0
      replace hT5:=hT5.frame (X10_r.take (u':=w10_5b))
      clear hc hq KX lc X10_r fr0
      have cq:=X10_5c.cell 5
      have fq:=X10_5c.frozen 5
      simp only [List.getElem?_toArray,List.getElem?_cons_succ,List.getElem?_cons_zero] at cq
      have X10_5:XB (w.heap.size + 1) b0 bv l gb 54 #[.string (str s0),.slice xa1 s1.length xc1,.int .i64 (s2:Int),.string (str s3),.int .i64 (s4:Int),.slice xa5 s5.length xc5] p5 y5 wo (w10_5b.setCell ⟨gb,5,none⟩ (.slice xa5 s5.length xc5)):=X10_5c.store 5 (.slice xa5 s5.length xc5)
      have fr1:=X10_5c.carryS 5 (.slice xa5 s5.length xc5)
      replace hT1:=hT1.frame fr1
      replace hT5:=hT5.frame fr1
      clear X10_5c fr1
      go_upto_region 26 with fail
      generalize (w10_5b.setCell ⟨gb,5,none⟩ (.slice xa5 s5.length xc5)) = ul at *
      have ci:ul.cell? ⟨cb,4,none⟩ = some (.slice ia acc.length ic):=by rw [cell_of_row _ _ 4 _ _ _ ((X10_5.kept.block cb (by omega) (by omega)).trans Dr.box)]; rfl
      have e0:ul.cell? ⟨gb,0,none⟩ = some (.string (str s0)):=X10_5.cell 0
      have e1:ul.cell? ⟨gb,1,none⟩ = some (.slice xa1 s1.length xc1):=X10_5.cell 1
      have e2:ul.cell? ⟨gb,2,none⟩ = some (.int .i64 (s2:Int)):=X10_5.cell 2
      have e3:ul.cell? ⟨gb,3,none⟩ = some (.string (str s3)):=X10_5.cell 3
      have e4:ul.cell? ⟨gb,4,none⟩ = some (.int .i64 (s4:Int)):=X10_5.cell 4
      have e5:ul.cell? ⟨gb,5,none⟩ = some (.slice xa5 s5.length xc5):=X10_5.cell 5
      have hfr:=X10_5.last hI hw0 (.cells #[.string (str s0),.slice xa1 s1.length xc1,.int .i64 (s2:Int),.string (str s3),.int .i64 (s4:Int),.slice xa5 s5.length xc5] 54)
      have hC8:cFn (fun g=>w10.heap.size ≤ g ∧ g < (ul.alloc (.cells #[.string (str s0),.slice xa1 s1.length xc1,.int .i64 (s2:Int),.string (str s3),.int .i64 (s4:Int),.slice xa5 s5.length xc5] 54)).heap.size ∧ some g ≠ (Value.slice ia acc.length ic).ownBlock) (ul.alloc (.cells #[.string (str s0),.slice xa1 s1.length xc1,.int .i64 (s2:Int),.string (str s3),.int .i64 (s4:Int),.slice xa5 s5.length xc5] 54)) ⟨s0,s1,(s2:Int),s3,(s4:Int),s5⟩ [.string (str s0),.slice xa1 s1.length xc1,.int .i64 (s2:Int),.string (str s3),.int .i64 (s4:Int),.slice xa5 s5.length xc5]:=⟨_,_,rfl,hT1.frame hfr,hT5.frame hfr⟩
      have hI8:=X10_5.row cFnK hI (by omega) (.cells #[.string (str s0),.slice xa1 s1.length xc1,.int .i64 (s2:Int),.string (str s3),.int .i64 (s4:Int),.slice xa5 s5.length xc5] 54)
      have hB8:w10.heap.size ≤ (ul.alloc (.cells #[.string (str s0),.slice xa1 s1.length xc1,.int .i64 (s2:Int),.string (str s3),.int .i64 (s4:Int),.slice xa5 s5.length xc5] 54)).heap.size:=by have:=X10_5.kept.size; simp; omega
      have hfin:=fun (w7:World) (g cap:Nat) ho7 hg7=>Dr.put cFnK hI (w5:=ul) (w7:=w7) (p':=p5) (y':=y5) (o := .cells #[.string (str s0),.slice xa1 s1.length xc1,.int .i64 (s2:Int),.string (str s3),.int .i64 (s4:Int),.slice xa5 s5.length xc5] 54) (v7 := .slice (some ⟨g,0,none⟩) (acc.length + 1) cap) (ys:=acc ++ [⟨s0,s1,(s2:Int),s3,(s4:Int),s5⟩]) X10_5.kept X10_5.rd X10_5.le ho7 hg7 4
      clear X10_5 Dr hfl hfr hT1 hT5
      go_wp2_with (at_builtin; refine append_rowG (bytes:=96) cFnK rfl (.tmp 113) (.tmp 115) 31 rfl Tryz.underlying31 (by kernel_rfl) (by decide) (.slice ia acc.length ic) acc (by rfl) hI8 _ _ _ _ (by rfl) ?news hC8 ?len ?hby hB8 ?next)
      case news=>first | exact cells_new _ _ _ | exact fun j u h=>h
      case len=>unfold maxLen; omega
      case hby=>omega
      case next =>
       intro gq cap7 w7 j1 j2
       obtain ⟨c7,f7,D8,ho8⟩:=hfin w7 gq cap7 j1 j2
       have HAK:Hid ((acc ++ [(⟨s0,s1,(s2:Int),s3,(s4:Int),s5⟩:Fn)]).length + (k - 1) ≤ 65535):=by (have:=hak.out; rw [hid_iff,List.length_append,List.length_singleton]; omega)
       clear hfin hI8 hC8 hB8 j1 j2 ci e0 e1 e2 e3 e4 e5 hI
       go_wp2
       go_roundg (k - 1)
       case measure=>omega
       case rel=>exact ⟨k - 1,p5,y5,acc ++ [⟨s0,s1,(s2:Int),s3,(s4:Int),s5⟩],(.slice (some ⟨gq,0,none⟩) (acc.length + 1) cap7),rfl,by first | rfl | rw [hwk] | go_num,HE0,HAK,D8,ho8⟩
     ·have hor:k = 0 ∨ (0 < k ∧ fl = true):=by
       rcases Nat.eq_zero_or_pos k with h | h
       ·exact .inl h
       ·exact .inr ⟨h,hfy.2 (fun e=>hgo ⟨h,e⟩)⟩
      have HEY:(fs,pD,yD) = (acc,pk,yk):=by
       rw [hR.out]
       refine refF_stop _ _ _ _ _ ?_
       rcases hor with h | h
       ·exact .inl h
       ·exact .inr (hfy.1 h.2)
      simp only [Prod.mk.injEq] at HEY
      obtain ⟨rfl,rfl,rfl⟩:=HEY
      have hrow:=Dr.row cFnK hI
      clear hR hfy hgo hI
      rcases hor with rfl | ⟨hk,rfl⟩
      all_goals (
       try have hki:(0:Int) < (k:Int):=by omega
       go_wp2
       go_meet
       exact ⟨_,Dr,hrow⟩)
  case rest =>
  obtain ⟨v4,D11,TT⟩:=hcut
  have hA11:=(D11.kept.block w.heap.size (Array.getElem?_eq_some_iff.1 hA10).1 (by omega)).trans hA10
  have hB11:=hB10.trans (D11.kept.below (B:=w.heap.size) (by have:=hB10.size; omega) (fun x hx h=>by omega))
  have O11':=O10.frame D11.carry
  rename World=>w11
  have O11:ObR (fun z=>cb < z ∧ z < w11.heap.size) w11 ⟨v1,(.slice a2 xs.length c2),v3,v4,.slice none 0 0,.slice none 0 0,.slice none 0 0⟩ ⟨m,ts,xs,gs,fs,[],[],[]⟩:=⟨O11'.types,O11'.texts,O11'.globals,TT,O11'.exports,O11'.symbols,O11'.relocs⟩
  replace D11:=D11.here
  clear hA10 hB10 O10 O11' TT D10 HX leN moN
  have hx:=rreadTexts 24 (w.heap.size + 1) b0 bv l pD yD _ (by decide) HL.out H256.out D11.le D11.rd (HG.out.imp_left (fun e=>by have:=D11.rd.lt; omega)) Hcap.out
  have leX:=refL_le (txt_le l 24) pD yD D11.le
  unfold QTxsE at hx
  rw [HtE.out] at hx leX
  simp only at hx leX
  go_wp2_with fail
  refine hx.mono ?_
  rintro e w12 ⟨v5,rfl,hTx,hxl,hq,KX⟩
  have D12:=D11.call KX hq leX
  have hA12:=(KX.block w.heap.size (Array.getElem?_eq_some_iff.1 hA11).1 (by omega)).trans hA11
  have hB12:=hB11.trans (KX.below (B:=w.heap.size) (by have:=hB11.size; omega) (fun x hx h=>by omega))
  have O12':=O11.frame D12.carry
  have hz12:=D11.old
  have O12:ObR (fun z=>cb < z ∧ z < w12.heap.size) w12 ⟨v1,(.slice a2 xs.length c2),v3,v4,v5,.slice none 0 0,.slice none 0 0⟩ ⟨m,ts,xs,gs,fs,es,[],[]⟩:=⟨O12'.types,O12'.texts,O12'.globals,O12'.funs,hTx.frame (fun z hz=>⟨⟨by have:=hz.1; omega,hz.2⟩,rfl⟩),O12'.symbols,O12'.relocs⟩
  clear hx leX hTx hxl hq KX D11 O11 hA11 hB11 O12' hz12
  obtain ⟨a5,c5,hv5⟩:=O12.exports.1.shape
  simp only at hv5
  subst hv5
  have cf:=D12.cell 5
  have ff:=D12.frozen 5
  simp only [List.getElem?_toArray,List.getElem?_cons_succ,List.getElem?_cons_zero] at cf
  have K13:=Wire.kept_set w12 cb 5 (.slice a5 es.length c5)
  have D13:DB (w.heap.size + 1) b0 bv l cb #[.string (str m),v1,(.slice a2 xs.length c2),v3,v4,(.slice a5 es.length c5),.slice none 0 0,.slice none 0 0] pE yE w12 (w12.setCell ⟨cb,5,none⟩ (.slice a5 es.length c5)):=D12.here.store 5 (.slice a5 es.length c5)
  have O13:=O12.frame D13.carry
  have hA13:=(K13.block w.heap.size (Array.getElem?_eq_some_iff.1 hA12).1 (by omega)).trans hA12
  have hB13:=hB12.trans (K13.below (B:=w.heap.size) (by have:=hB12.size; omega) (fun x hx h=>by omega))
  replace D13:=D13.here
  clear K13 D12 O12 hA12 hB12
  obtain ⟨N,q1,z1,hR⟩:=tri_is (Wire.rNum l pE yE 65535)
  have hn:=rnumber (w.heap.size + 1) b0 bv l pE yE _ HL.out H256.out D13.le D13.rd Hcap.out
  have leN:=Wire.rNum_le l pE yE 65535 D13.le
  have moN:=Wire.rNum_most l pE yE 65535
  have HX:Hid ((ss,pF,yF) = refF (syQ l) N q1 z1 []):=by rw [hid_iff, ← HtF.out]; unfold refL; rw [hR]
  unfold QNuE at hn
  rw [hR] at hn leN moN
  simp only at hn leN moN
  clear hR
  go_wp2_with fail
  clear cf ff
  generalize (w12.setCell ⟨cb,5,none⟩ (.slice a5 es.length c5)) = W14 at *
  refine hn.mono ?_
  rintro e w14 ⟨rfl,hq,KX⟩
  have D14:=D13.call KX hq leN
  have O14:=O13.frame D14.carry
  replace D14:=D14.here
  have hA14:=(KX.block w.heap.size (Array.getElem?_eq_some_iff.1 hA13).1 (by omega)).trans hA13
  have hB14:=hB13.trans (KX.below (B:=w.heap.size) (by have:=hB13.size; omega) (fun x hx h=>by omega))
  clear hn D13 hq KX hA13 hB13 O13
  go_upto_block 6 with fail
  go_cut [] (fun wx=>∃ v6,DB (w.heap.size + 1) b0 bv l cb #[.string (str m),v1,(.slice a2 xs.length c2),v3,v4,(.slice a5 es.length c5),v6,.slice none 0 0] pF yF w14 wx ∧ RwR 5 cSy (fun z=>cb < z ∧ z < wx.heap.size) wx v6 ss)
  case first =>
   focus
    clear hA14 hB14 O14 HD HtB HtC HtD HtE HtF HtG
    go_wp2
    go_loopg [12] N (fun gk i wr=>∃ (k pk yk:Nat) (acc:List Sy) (iv:Value),gk = k ∧ i = .int .i64 (k:Int) ∧ Hid ((ss,pF,yF) = refF (syQ l) k pk yk acc) ∧ Hid (acc.length + k ≤ 65535) ∧ DB (w.heap.size + 1) b0 bv l cb #[.string (str m),v1,(.slice a2 xs.length c2),v3,v4,(.slice a5 es.length c5),iv,.slice none 0 0] pk yk w14 wr ∧ RowG cSy 80 5 w14.heap.size wr iv acc)
    case atStart=>exact ⟨N,q1,z1,[],_,rfl,rfl,HX,by simpa [Hid] using moN,D14,RowG.nil _ _ _ _ _⟩
    case round =>
     obtain ⟨k,pk,yk,acc,iv,hgk0,rfl,hR,hak,Dr,hI⟩:=hrel
     rename World=>wo
     obtain ⟨fl,hfl,hfy⟩:=qflag Dr.rd
     obtain ⟨ia,ic,rfl⟩:=hI.shape
     clear D14 HX
     by_cases hgo:0 < k ∧ yk = 0
     ·obtain ⟨hk,rfl⟩:=hgo
      have hff:fl = false:=by simpa using hfy
      subst hff
      clear hfy
      have hki:(0:Int) < (k:Int):=by omega
      have hkle:k ≤ 65535:=by have:=hak.out; omega
      have hwk:IntKind.i64.wrap ((k:Int) - 1) = ((k - 1:Nat):Int):=by rw [show (k:Int) - 1 = ((k - 1:Nat):Int) by omega,IntKind.wrap_i64]; omega
      have hst:=refF_go (syQ l) k pk acc hk
      have hSl:acc.length + 1 ≤ 65535:=by have:=hak.out; omega
      have hw0:w14.heap.size ≤ wo.heap.size:=Dr.kept.size
      have hcb0:cb < w14.heap.size:=Dr.old
      obtain ⟨s0,p0,y0,h0⟩:=tri_is (txtR l 24 pk 0)
      obtain ⟨s1,p1,y1,h1⟩:=tri_is (itemQ l p0 y0)
      have hxx:syQ l pk 0 = (⟨s0,s1⟩,p1,y1):=by unfold syQ; simp only [h0,h1]
      rw [hxx] at hst
      simp only at hst
      have HE0:Hid ((ss,pF,yF) = refF (syQ l) (k - 1) p1 y1 (acc ++ [⟨s0,s1⟩])):=by rw [hid_iff,hR.out,hst]
      clear hst hR hxx
      have hc:=qtxt 24 (w.heap.size + 1) b0 bv l pk 0 _ (by decide) HL.out H256.out Dr.le Dr.rd Hcap.out
      have lc:=txt_le l 24 pk 0 Dr.le
      unfold QTxtE at hc
      rw [h0] at hc lc
      simp only at hc lc
      go_wp2_with fail
      refine hc.mono ?_
      rintro e w14_0 ⟨rfl,hq,KX⟩
      have X14_0:XB (w.heap.size + 1) b0 bv l w14_0.heap.size 80 #[.string (str s0),.int .i64 0,.string ⟨#[]⟩,.string ⟨#[]⟩,.slice none 0 0] p0 y0 wo (w14_0.alloc (.cells #[.string (str s0),.int .i64 0,.string ⟨#[]⟩,.string ⟨#[]⟩,.slice none 0 0] 80)):=Dr.box0 KX hq lc 80 #[.string (str s0),.int .i64 0,.string ⟨#[]⟩,.string ⟨#[]⟩,.slice none 0 0]
      clear hc hq KX lc
      have hc:=refReadItem (w.heap.size + 1) b0 bv l p0 y0 _ HL.out H256.out X14_0.le X14_0.rd (HG.out.imp_left (fun e=>by have:=X14_0.rd.lt; omega)) Hcap.out
      have lc:=(show (itemQ l p0 y0).2.1 ≤ l.length by rw [(item_ref l p0 y0).1]; exact item_le l p0 y0 X14_0.le)
      unfold RItemE at hc
      rw [h1] at hc lc
      simp only at hc lc
      go_wp2_with fail
      generalize (w14_0.alloc (.cells #[.string (str s0),.int .i64 0,.string ⟨#[]⟩,.string ⟨#[]⟩,.slice none 0 0] 80)) = u1 at *
      generalize hgbe:w14_0.heap.size = gb at *
      refine hc.mono ?_
      rintro e w14_1 ⟨fv,rfl,hT1,hTl,hq,KX⟩
      obtain ⟨xa1,xc1,rfl⟩:=hT1.shape
      clear hTl
      unfold itv
      have X14_1c:=X14_0.call KX hq lc
      have fr0:=X14_0.carryC KX
      replace hT1:=hT1.frame (X14_0.take (u':=w14_1))
      clear hc hq KX lc X14_0 fr0
      have cq1:=X14_1c.cell 1
      have fq1:=X14_1c.frozen 1
      simp only [List.getElem?_toArray,List.getElem?_cons_succ,List.getElem?_cons_zero] at cq1
      have cq2:=X14_1c.cell 2
      have fq2:=X14_1c.frozen 2
      simp only [List.getElem?_toArray,List.getElem?_cons_succ,List.getElem?_cons_zero] at cq2
      have cq3:=X14_1c.cell 3
      have fq3:=X14_1c.frozen 3
      simp only [List.getElem?_toArray,List.getElem?_cons_succ,List.getElem?_cons_zero] at cq3
      have cq4:=X14_1c.cell 4
      have fq4:=X14_1c.frozen 4
      simp only [List.getElem?_toArray,List.getElem?_cons_succ,List.getElem?_cons_zero] at cq4
      have fr1:=X14_1c.carryS 1 (.int .i64 s1.kind)
      replace hT1:=hT1.frame fr1
      clear fr1
      have X14_1s1:XB (w.heap.size + 1) b0 bv l gb 80 #[.string (str s0),.int .i64 s1.kind,.string ⟨#[]⟩,.string ⟨#[]⟩,.slice none 0 0] p1 y1 wo (w14_1.setCell ⟨gb,1,none⟩ (.int .i64 s1.kind)):=X14_1c.store 1 (.int .i64 s1.kind)
      clear X14_1c
      have fr1:=X14_1s1.carryS 2 (.string (str s1.name))
      replace hT1:=hT1.frame fr1
      clear fr1
      have X14_1s2:XB (w.heap.size + 1) b0 bv l gb 80 #[.string (str s0),.int .i64 s1.kind,.string (str s1.name),.string ⟨#[]⟩,.slice none 0 0] p1 y1 wo ((w14_1.setCell ⟨gb,1,none⟩ (.int .i64 s1.kind)).setCell ⟨gb,2,none⟩ (.string (str s1.name))):=X14_1s1.store 2 (.string (str s1.name))
      clear X14_1s1
      have fr1:=X14_1s2.carryS 3 (.string (str s1.ty))
      replace hT1:=hT1.frame fr1
      clear fr1
      have X14_1s3:XB (w.heap.size + 1) b0 bv l gb 80 #[.string (str s0),.int .i64 s1.kind,.string (str s1.name),.string (str s1.ty),.slice none 0 0] p1 y1 wo (((w14_1.setCell ⟨gb,1,none⟩ (.int .i64 s1.kind)).setCell ⟨gb,2,none⟩ (.string (str s1.name))).setCell ⟨gb,3,none⟩ (.string (str s1.ty))):=X14_1s2.store 3 (.string (str s1.ty))
      clear X14_1s2
      have fr1:=X14_1s3.carryS 4 (.slice xa1 s1.cases.length xc1)
      replace hT1:=hT1.frame fr1
      clear fr1
      have X14_1s4:XB (w.heap.size + 1) b0 bv l gb 80 #[.string (str s0),.int .i64 s1.kind,.string (str s1.name),.string (str s1.ty),.slice xa1 s1.cases.length xc1] p1 y1 wo ((((w14_1.setCell ⟨gb,1,none⟩ (.int .i64 s1.kind)).setCell ⟨gb,2,none⟩ (.string (str s1.name))).setCell ⟨gb,3,none⟩ (.string (str s1.ty))).setCell ⟨gb,4,none⟩ (.slice xa1 s1.cases.length xc1)):=X14_1s3.store 4 (.slice xa1 s1.cases.length xc1)
      clear X14_1s3
      go_upto_region 33 with fail
      generalize ((((w14_1.setCell ⟨gb,1,none⟩ (.int .i64 s1.kind)).setCell ⟨gb,2,none⟩ (.string (str s1.name))).setCell ⟨gb,3,none⟩ (.string (str s1.ty))).setCell ⟨gb,4,none⟩ (.slice xa1 s1.cases.length xc1)) = ul at *
      have ci:ul.cell? ⟨cb,6,none⟩ = some (.slice ia acc.length ic):=by rw [cell_of_row _ _ 6 _ _ _ ((X14_1s4.kept.block cb (by omega) (by omega)).trans Dr.box)]; rfl
      have e0:ul.cell? ⟨gb,0,none⟩ = some (.string (str s0)):=X14_1s4.cell 0
      have e1:ul.cell? ⟨gb,1,none⟩ = some (.int .i64 s1.kind):=X14_1s4.cell 1
      have e2:ul.cell? ⟨gb,2,none⟩ = some (.string (str s1.name)):=X14_1s4.cell 2
      have e3:ul.cell? ⟨gb,3,none⟩ = some (.string (str s1.ty)):=X14_1s4.cell 3
      have e4:ul.cell? ⟨gb,4,none⟩ = some (.slice xa1 s1.cases.length xc1):=X14_1s4.cell 4
      have hfr:=X14_1s4.last hI hw0 (.cells #[.string (str s0),.int .i64 s1.kind,.string (str s1.name),.string (str s1.ty),.slice xa1 s1.cases.length xc1] 80)
      have hC8:cSy (fun g=>w14.heap.size ≤ g ∧ g < (ul.alloc (.cells #[.string (str s0),.int .i64 s1.kind,.string (str s1.name),.string (str s1.ty),.slice xa1 s1.cases.length xc1] 80)).heap.size ∧ some g ≠ (Value.slice ia acc.length ic).ownBlock) (ul.alloc (.cells #[.string (str s0),.int .i64 s1.kind,.string (str s1.name),.string (str s1.ty),.slice xa1 s1.cases.length xc1] 80)) ⟨s0,s1⟩ [.string (str s0),.int .i64 s1.kind,.string (str s1.name),.string (str s1.ty),.slice xa1 s1.cases.length xc1]:=⟨_,rfl,hT1.frame hfr⟩
      have hI8:=X14_1s4.row cSyK hI (by omega) (.cells #[.string (str s0),.int .i64 s1.kind,.string (str s1.name),.string (str s1.ty),.slice xa1 s1.cases.length xc1] 80)
      have hB8:w14.heap.size ≤ (ul.alloc (.cells #[.string (str s0),.int .i64 s1.kind,.string (str s1.name),.string (str s1.ty),.slice xa1 s1.cases.length xc1] 80)).heap.size:=by have:=X14_1s4.kept.size; simp; omega
      have hfin:=fun (w7:World) (g cap:Nat) ho7 hg7=>Dr.put cSyK hI (w5:=ul) (w7:=w7) (p':=p1) (y':=y1) (o := .cells #[.string (str s0),.int .i64 s1.kind,.string (str s1.name),.string (str s1.ty),.slice xa1 s1.cases.length xc1] 80) (v7 := .slice (some ⟨g,0,none⟩) (acc.length + 1) cap) (ys:=acc ++ [⟨s0,s1⟩]) X14_1s4.kept X14_1s4.rd X14_1s4.le ho7 hg7 6
      clear X14_1s4 Dr hfl hfr hT1
      go_wp2_with (at_builtin; refine append_rowG (bytes:=80) cSyK rfl (.tmp 141) (.tmp 143) 32 rfl Tryz.underlying32 (by kernel_rfl) (by decide) (.slice ia acc.length ic) acc (by rfl) hI8 _ _ _ _ (by rfl) ?news hC8 ?len ?hby hB8 ?next)
      case news=>first | exact cells_new _ _ _ | exact fun j u h=>h
      case len=>unfold maxLen; omega
      case hby=>omega
      case next =>
       intro gq cap7 w7 j1 j2
       obtain ⟨c7,f7,D8,ho8⟩:=hfin w7 gq cap7 j1 j2
       have HAK:Hid ((acc ++ [(⟨s0,s1⟩:Sy)]).length + (k - 1) ≤ 65535):=by (have:=hak.out; rw [hid_iff,List.length_append,List.length_singleton]; omega)
       clear hfin hI8 hC8 hB8 j1 j2 ci e0 e1 e2 e3 e4 hI
       go_wp2
       go_roundg (k - 1)
       case measure=>omega
       case rel=>exact ⟨k - 1,p1,y1,acc ++ [⟨s0,s1⟩],(.slice (some ⟨gq,0,none⟩) (acc.length + 1) cap7),rfl,by first | rfl | rw [hwk] | go_num,HE0,HAK,D8,ho8⟩
     ·have hor:k = 0 ∨ (0 < k ∧ fl = true):=by
       rcases Nat.eq_zero_or_pos k with h | h
       ·exact .inl h
       ·exact .inr ⟨h,hfy.2 (fun e=>hgo ⟨h,e⟩)⟩
      have HEY:(ss,pF,yF) = (acc,pk,yk):=by
       rw [hR.out]
       refine refF_stop _ _ _ _ _ ?_
       rcases hor with h | h
       ·exact .inl h
       ·exact .inr (hfy.1 h.2)
      simp only [Prod.mk.injEq] at HEY
      obtain ⟨rfl,rfl,rfl⟩:=HEY
      have hrow:=Dr.row cSyK hI
      clear hR hfy hgo hI
      rcases hor with rfl | ⟨hk,rfl⟩
      all_goals (
       try have hki:(0:Int) < (k:Int):=by omega
       go_wp2
       go_meet
       exact ⟨_,Dr,hrow⟩)
  case rest =>
  obtain ⟨v6,D15,TT⟩:=hcut
  have hA15:=(D15.kept.block w.heap.size (Array.getElem?_eq_some_iff.1 hA14).1 (by omega)).trans hA14
  have hB15:=hB14.trans (D15.kept.below (B:=w.heap.size) (by have:=hB14.size; omega) (fun x hx h=>by omega))
  have O15':=O14.frame D15.carry
  rename World=>w15
  have O15:ObR (fun z=>cb < z ∧ z < w15.heap.size) w15 ⟨v1,(.slice a2 xs.length c2),v3,v4,(.slice a5 es.length c5),v6,.slice none 0 0⟩ ⟨m,ts,xs,gs,fs,es,ss,[]⟩:=⟨O15'.types,O15'.texts,O15'.globals,O15'.funs,O15'.exports,TT,O15'.relocs⟩
  replace D15:=D15.here
  clear hA14 hB14 O14 O15' TT D14 HX leN moN
  obtain ⟨N,q1,z1,hR⟩:=tri_is (Wire.rNum l pF yF 65535)
  have hn:=rnumber (w.heap.size + 1) b0 bv l pF yF _ HL.out H256.out D15.le D15.rd Hcap.out
  have leN:=Wire.rNum_le l pF yF 65535 D15.le
  have moN:=Wire.rNum_most l pF yF 65535
  have HX:Hid ((rs,pG,yG) = refF (rlR l) N q1 z1 []):=by rw [hid_iff, ← HtG.out]; unfold refL; rw [hR]
  unfold QNuE at hn
  rw [hR] at hn leN moN
  simp only at hn leN moN
  clear hR
  go_wp2_with fail
  refine hn.mono ?_
  rintro e w16 ⟨rfl,hq,KX⟩
  have D16:=D15.call KX hq leN
  have O16:=O15.frame D16.carry
  replace D16:=D16.here
  have hA16:=(KX.block w.heap.size (Array.getElem?_eq_some_iff.1 hA15).1 (by omega)).trans hA15
  have hB16:=hB15.trans (KX.below (B:=w.heap.size) (by have:=hB15.size; omega) (fun x hx h=>by omega))
  clear hn D15 hq KX hA15 hB15 O15
  go_upto_block 8 with fail
  go_cut [] (fun wx=>∃ v7,DB (w.heap.size + 1) b0 bv l cb #[.string (str m),v1,(.slice a2 xs.length c2),v3,v4,(.slice a5 es.length c5),v6,v7] pG yG w16 wx ∧ RwR 3 cRl (fun z=>cb < z ∧ z < wx.heap.size) wx v7 rs)
  case first =>
   focus
    clear hA16 hB16 O16 HD HtB HtC HtD HtE HtF HtG
    go_wp2
    go_loopg [14] N (fun gk i wr=>∃ (k pk yk:Nat) (acc:List Rl) (iv:Value),gk = k ∧ i = .int .i64 (k:Int) ∧ Hid ((rs,pG,yG) = refF (rlR l) k pk yk acc) ∧ Hid (acc.length + k ≤ 65535) ∧ DB (w.heap.size + 1) b0 bv l cb #[.string (str m),v1,(.slice a2 xs.length c2),v3,v4,(.slice a5 es.length c5),v6,iv] pk yk w16 wr ∧ RowG cRl 83 3 w16.heap.size wr iv acc)
    case atStart=>exact ⟨N,q1,z1,[],_,rfl,rfl,HX,by simpa [Hid] using moN,D16,RowG.nil _ _ _ _ _⟩
    case round =>
     obtain ⟨k,pk,yk,acc,iv,hgk0,rfl,hR,hak,Dr,hI⟩:=hrel
     rename World=>wo
     obtain ⟨fl,hfl,hfy⟩:=qflag Dr.rd
     obtain ⟨ia,ic,rfl⟩:=hI.shape
     clear D16 HX
     by_cases hgo:0 < k ∧ yk = 0
     ·obtain ⟨hk,rfl⟩:=hgo
      have hff:fl = false:=by simpa using hfy
      subst hff
      clear hfy
      have hki:(0:Int) < (k:Int):=by omega
      have hkle:k ≤ 65535:=by have:=hak.out; omega
      have hwk:IntKind.i64.wrap ((k:Int) - 1) = ((k - 1:Nat):Int):=by rw [show (k:Int) - 1 = ((k - 1:Nat):Int) by omega,IntKind.wrap_i64]; omega
      have hst:=refF_go (rlR l) k pk acc hk
      have hSl:acc.length + 1 ≤ 65535:=by have:=hak.out; omega
      have hw0:w16.heap.size ≤ wo.heap.size:=Dr.kept.size
      have hcb0:cb < w16.heap.size:=Dr.old
      obtain ⟨s0,p0,y0,h0⟩:=tri_is (Wire.rNum l pk 0 65535)
      obtain ⟨s1,p1,y1,h1⟩:=tri_is (Wire.rNum l p0 y0 65535)
      obtain ⟨s2,p2,y2,h2⟩:=tri_is (Wire.rNum l p1 y1 65535)
      have hxx:rlR l pk 0 = (⟨(s0:Int),(s1:Int),(s2:Int)⟩,p2,y2):=by unfold rlR; simp only [h0,h1,h2]
      rw [hxx] at hst
      simp only at hst
      have HE0:Hid ((rs,pG,yG) = refF (rlR l) (k - 1) p2 y2 (acc ++ [⟨(s0:Int),(s1:Int),(s2:Int)⟩])):=by rw [hid_iff,hR.out,hst]
      clear hst hR hxx
      have hc:=rnumber (w.heap.size + 1) b0 bv l pk 0 _ HL.out H256.out Dr.le Dr.rd Hcap.out
      have lc:=Wire.rNum_le l pk 0 65535 Dr.le
      unfold QNuE at hc
      rw [h0] at hc lc
      simp only at hc lc
      go_wp2_with fail
      refine hc.mono ?_
      rintro e w16_0 ⟨rfl,hq,KX⟩
      have X16_0:XB (w.heap.size + 1) b0 bv l w16_0.heap.size 83 #[.int .i64 (s0:Int),.int .i64 0,.int .i64 0] p0 y0 wo (w16_0.alloc (.cells #[.int .i64 (s0:Int),.int .i64 0,.int .i64 0] 83)):=Dr.box0 KX hq lc 83 #[.int .i64 (s0:Int),.int .i64 0,.int .i64 0]
      clear hc hq KX lc
      have hc:=rnumber (w.heap.size + 1) b0 bv l p0 y0 _ HL.out H256.out X16_0.le X16_0.rd Hcap.out
      have lc:=Wire.rNum_le l p0 y0 65535 X16_0.le
      unfold QNuE at hc
      rw [h1] at hc lc
      simp only at hc lc
      go_wp2_with fail
      generalize (w16_0.alloc (.cells #[.int .i64 (s0:Int),.int .i64 0,.int .i64 0] 83)) = u1 at *
      generalize hgbe:w16_0.heap.size = gb at *
      refine hc.mono ?_
      rintro e w16_1 ⟨rfl,hq,KX⟩
      have X16_1c:=X16_0.call KX hq lc
      have fr0:=X16_0.carryC KX
      clear hc hq KX lc X16_0 fr0
      have cq:=X16_1c.cell 1
      have fq:=X16_1c.frozen 1
      simp only [List.getElem?_toArray,List.getElem?_cons_succ,List.getElem?_cons_zero] at cq
      have X16_1:XB (w.heap.size + 1) b0 bv l gb 83 #[.int .i64 (s0:Int),.int .i64 (s1:Int),.int .i64 0] p1 y1 wo (w16_1.setCell ⟨gb,1,none⟩ (.int .i64 (s1:Int))):=X16_1c.store 1 (.int .i64 (s1:Int))
      have fr1:=X16_1c.carryS 1 (.int .i64 (s1:Int))
      clear X16_1c fr1
      have hc:=rnumber (w.heap.size + 1) b0 bv l p1 y1 _ HL.out H256.out X16_1.le X16_1.rd Hcap.out
      have lc:=Wire.rNum_le l p1 y1 65535 X16_1.le
      unfold QNuE at hc
      rw [h2] at hc lc
      simp only at hc lc
      go_wp2_with fail
      generalize (w16_1.setCell ⟨gb,1,none⟩ (.int .i64 (s1:Int))) = u2 at *
      refine hc.mono ?_
      rintro e w16_2 ⟨rfl,hq,KX⟩
      have X16_2c:=X16_1.call KX hq lc
      have fr0:=X16_1.carryC KX
      clear hc hq KX lc X16_1 fr0
      have cq:=X16_2c.cell 2
      have fq:=X16_2c.frozen 2
      simp only [List.getElem?_toArray,List.getElem?_cons_succ,List.getElem?_cons_zero] at cq
      have X16_2:XB (w.heap.size + 1) b0 bv l gb 83 #[.int .i64 (s0:Int),.int .i64 (s1:Int),.int .i64 (s2:Int)] p2 y2 wo (w16_2.setCell ⟨gb,2,none⟩ (.int .i64 (s2:Int))):=X16_2c.store 2 (.int .i64 (s2:Int))
      have fr1:=X16_2c.carryS 2 (.int .i64 (s2:Int))
      clear X16_2c fr1
      go_upto_region 40 with fail
      generalize (w16_2.setCell ⟨gb,2,none⟩ (.int .i64 (s2:Int))) = ul at *
      have ci:ul.cell? ⟨cb,7,none⟩ = some (.slice ia acc.length ic):=by rw [cell_of_row _ _ 7 _ _ _ ((X16_2.kept.block cb (by omega) (by omega)).trans Dr.box)]; rfl
      have e0:ul.cell? ⟨gb,0,none⟩ = some (.int .i64 (s0:Int)):=X16_2.cell 0
      have e1:ul.cell? ⟨gb,1,none⟩ = some (.int .i64 (s1:Int)):=X16_2.cell 1
      have e2:ul.cell? ⟨gb,2,none⟩ = some (.int .i64 (s2:Int)):=X16_2.cell 2
      have hfr:=X16_2.last hI hw0 (.cells #[.int .i64 (s0:Int),.int .i64 (s1:Int),.int .i64 (s2:Int)] 83)
      have hC8:cRl (fun g=>w16.heap.size ≤ g ∧ g < (ul.alloc (.cells #[.int .i64 (s0:Int),.int .i64 (s1:Int),.int .i64 (s2:Int)] 83)).heap.size ∧ some g ≠ (Value.slice ia acc.length ic).ownBlock) (ul.alloc (.cells #[.int .i64 (s0:Int),.int .i64 (s1:Int),.int .i64 (s2:Int)] 83)) ⟨(s0:Int),(s1:Int),(s2:Int)⟩ [.int .i64 (s0:Int),.int .i64 (s1:Int),.int .i64 (s2:Int)]:=rfl
      have hI8:=X16_2.row cRlK hI (by omega) (.cells #[.int .i64 (s0:Int),.int .i64 (s1:Int),.int .i64 (s2:Int)] 83)
      have hB8:w16.heap.size ≤ (ul.alloc (.cells #[.int .i64 (s0:Int),.int .i64 (s1:Int),.int .i64 (s2:Int)] 83)).heap.size:=by have:=X16_2.kept.size; simp; omega
      have hfin:=fun (w7:World) (g cap:Nat) ho7 hg7=>Dr.put cRlK hI (w5:=ul) (w7:=w7) (p':=p2) (y':=y2) (o := .cells #[.int .i64 (s0:Int),.int .i64 (s1:Int),.int .i64 (s2:Int)] 83) (v7 := .slice (some ⟨g,0,none⟩) (acc.length + 1) cap) (ys:=acc ++ [⟨(s0:Int),(s1:Int),(s2:Int)⟩]) X16_2.kept X16_2.rd X16_2.le ho7 hg7 7
      clear X16_2 Dr hfl hfr 
      go_wp2_with (at_builtin; refine append_rowG (bytes:=24) cRlK rfl (.tmp 169) (.tmp 171) 33 rfl Tryz.underlying33 (by kernel_rfl) (by decide) (.slice ia acc.length ic) acc (by rfl) hI8 _ _ _ _ (by rfl) ?news hC8 ?len ?hby hB8 ?next)
      case news=>first | exact cells_new _ _ _ | exact fun j u h=>h
      case len=>unfold maxLen; omega
      case hby=>omega
      case next =>
       intro gq cap7 w7 j1 j2
       obtain ⟨c7,f7,D8,ho8⟩:=hfin w7 gq cap7 j1 j2
       have HAK:Hid ((acc ++ [(⟨(s0:Int),(s1:Int),(s2:Int)⟩:Rl)]).length + (k - 1) ≤ 65535):=by (have:=hak.out; rw [hid_iff,List.length_append,List.length_singleton]; omega)
       clear hfin hI8 hC8 hB8 j1 j2 ci e0 e1 e2 hI
       go_wp2
       go_roundg (k - 1)
       case measure=>omega
       case rel=>exact ⟨k - 1,p2,y2,acc ++ [⟨(s0:Int),(s1:Int),(s2:Int)⟩],(.slice (some ⟨gq,0,none⟩) (acc.length + 1) cap7),rfl,by first | rfl | rw [hwk] | go_num,HE0,HAK,D8,ho8⟩
     ·have hor:k = 0 ∨ (0 < k ∧ fl = true):=by
       rcases Nat.eq_zero_or_pos k with h | h
       ·exact .inl h
       ·exact .inr ⟨h,hfy.2 (fun e=>hgo ⟨h,e⟩)⟩
      have HEY:(rs,pG,yG) = (acc,pk,yk):=by
       rw [hR.out]
       refine refF_stop _ _ _ _ _ ?_
       rcases hor with h | h
       ·exact .inl h
       ·exact .inr (hfy.1 h.2)
      simp only [Prod.mk.injEq] at HEY
      obtain ⟨rfl,rfl,rfl⟩:=HEY
      have hrow:=Dr.row cRlK hI
      clear hR hfy hgo hI
      rcases hor with rfl | ⟨hk,rfl⟩
      all_goals (
       try have hki:(0:Int) < (k:Int):=by omega
       go_wp2
       go_meet
       exact ⟨_,Dr,hrow⟩)
  case rest =>
  obtain ⟨v7,D17,TT⟩:=hcut
  have hA17:=(D17.kept.block w.heap.size (Array.getElem?_eq_some_iff.1 hA16).1 (by omega)).trans hA16
  have hB17:=hB16.trans (D17.kept.below (B:=w.heap.size) (by have:=hB16.size; omega) (fun x hx h=>by omega))
  have O17':=O16.frame D17.carry
  rename World=>w17
  have O17:ObR (fun z=>cb < z ∧ z < w17.heap.size) w17 ⟨v1,(.slice a2 xs.length c2),v3,v4,(.slice a5 es.length c5),v6,v7⟩ ⟨m,ts,xs,gs,fs,es,ss,rs⟩:=⟨O17'.types,O17'.texts,O17'.globals,O17'.funs,O17'.exports,O17'.symbols,TT⟩
  replace D17:=D17.here
  clear hA16 hB16 O16 O17' TT D16 HX leN moN
  obtain ⟨a1,c1,e1⟩:=O17.types.shape
  obtain ⟨a3,c3,e3⟩:=O17.globals.shape
  obtain ⟨a4,c4,e4⟩:=O17.funs.shape
  obtain ⟨a6,c6,e6⟩:=O17.symbols.shape
  obtain ⟨a7,c7,e7⟩:=O17.relocs.shape
  simp only at e1 e3 e4 e6 e7
  subst e1 e3 e4 e6 e7
  have hend:=Wire.qend (w.heap.size + 1) b0 bv l pG yG _ HL.out D17.rd
  go_wp2_with fail
  refine hend.mono ?_
  rintro e w90 ⟨rfl,K90⟩
  have hA90:=(K90.block w.heap.size (Array.getElem?_eq_some_iff.1 hA17).1 (fun h=>h)).trans hA17
  have hB90:=hB17.trans (K90.below (B:=w.heap.size) (by have:=hB17.size; omega) (fun _ _ h=>h))
  have hC90:=(K90.block cb D17.old (fun h=>h)).trans D17.box
  have O90:ObR (fun z=>cb < z ∧ z < w90.heap.size) w90 ⟨.slice a1 ts.length c1,.slice a2 xs.length c2,.slice a3 gs.length c3,.slice a4 fs.length c4,.slice a5 es.length c5,.slice a6 ss.length c6,.slice a7 rs.length c7⟩ ⟨m,ts,xs,gs,fs,es,ss,rs⟩:=O17.frame fun z hz=>⟨⟨hz.1,Nat.lt_of_lt_of_le hz.2 K90.size⟩,K90.block z hz.2 (fun h=>h)⟩
  clear hend K90 D17 O17 hA17 hB17
  obtain ⟨HE,HW⟩:=HD.out
  clear HD HtG
  generalize Wire.rEnd l pG yG = EN at *
  obtain ⟨yn,yp⟩:=EN
  simp only at HE HW ⊢
  by_cases hy:yn = 0
  ·obtain ⟨hok,HW1,HG1⟩:=HW hy
   clear HE HW
   subst hy
   obtain ⟨d0,d1,d2,d3,d4,d5,d6,d7⟩:=cells8 hC90
   have hri:=rRight (fun z=>cb < z ∧ z < w90.heap.size) ⟨.slice a1 ts.length c1,.slice a2 xs.length c2,.slice a3 gs.length c3,.slice a4 fs.length c4,.slice a5 es.length c5,.slice a6 ss.length c6,.slice a7 rs.length c7⟩ ⟨m,ts,xs,gs,fs,es,ss,rs⟩ w90 O90 (fun z hz=>hz.2) hok
   unfold TwoB obv at hri
   simp only at hri
   have HW1:=hidden HW1
   have HG1:=hidden HG1
   generalize rightO ⟨m,ts,xs,gs,fs,es,ss,rs⟩ = RO at *
   obtain ⟨rn,rk⟩:=RO
   simp only at hri HW1 HG1
   clear hok
   go_wp2_with fail
   refine hri.mono ?_
   rintro e w91 ⟨rfl,hb91⟩
   have hA91:=(hb91.block w.heap.size (Array.getElem?_eq_some_iff.1 hA90).1).trans hA90
   have hC91:=(hb91.block cb (Array.getElem?_eq_some_iff.1 hC90).1).trans hC90
   have hB91:=hB90.trans (hb91.mono hB90.size)
   have O91:ObR (fun z=>cb < z ∧ z < w91.heap.size) w91 ⟨.slice a1 ts.length c1,.slice a2 xs.length c2,.slice a3 gs.length c3,.slice a4 fs.length c4,.slice a5 es.length c5,.slice a6 ss.length c6,.slice a7 rs.length c7⟩ ⟨m,ts,xs,gs,fs,es,ss,rs⟩:=O90.frame fun z hz=>⟨⟨hz.1,Nat.lt_of_lt_of_le hz.2 hb91.size⟩,hb91.block z hz.2⟩
   clear hri hb91 hA90 hB90 O90 hC90 d0 d1 d2 d3 d4 d5 d6 d7
   by_cases hr:rn = 0
   ·have hR:Hid (RES = ((0,0),⟨m,ts,xs,gs,fs,es,ss,rs⟩)):=by rw [hid_iff]; exact HG1.out hr
    clear HW1 HG1
    subst hr
    obtain ⟨d0,d1,d2,d3,d4,d5,d6,d7⟩:=cells8 hC91
    have KR:=wkept_setRow w91 w.heap.size #[.string (str m),.slice a1 ts.length c1,.slice a2 xs.length c2,.slice a3 gs.length c3,.slice a4 fs.length c4,.slice a5 es.length c5,.slice a6 ss.length c6,.slice a7 rs.length c7]
    have hb:Below w.heap.size w (w91.setRow w.heap.size #[.string (str m),.slice a1 ts.length c1,.slice a2 xs.length c2,.slice a3 gs.length c3,.slice a4 fs.length c4,.slice a5 es.length c5,.slice a6 ss.length c6,.slice a7 rs.length c7]):=hB91.trans (KR.below (B:=w.heap.size) (by have:=hB91.size; omega) (fun x hx h=>by omega))
    have hO:ObR (Fr w (w91.setRow w.heap.size #[.string (str m),.slice a1 ts.length c1,.slice a2 xs.length c2,.slice a3 gs.length c3,.slice a4 fs.length c4,.slice a5 es.length c5,.slice a6 ss.length c6,.slice a7 rs.length c7])) (w91.setRow w.heap.size #[.string (str m),.slice a1 ts.length c1,.slice a2 xs.length c2,.slice a3 gs.length c3,.slice a4 fs.length c4,.slice a5 es.length c5,.slice a6 ss.length c6,.slice a7 rs.length c7]) ⟨.slice a1 ts.length c1,.slice a2 xs.length c2,.slice a3 gs.length c3,.slice a4 fs.length c4,.slice a5 es.length c5,.slice a6 ss.length c6,.slice a7 rs.length c7⟩ ⟨m,ts,xs,gs,fs,es,ss,rs⟩:=O91.frame fun z hz=>⟨⟨by have:=hz.1; omega,by have:=hz.2; have:=KR.size; omega⟩,KR.block z hz.2 (by have:=hz.1; omega)⟩
    clear KR O91 hB91
    go_wp2_with (refine wpList_store_row rfl 35 (.tmp 2) (.tmp 191) rfl w.heap.size #[.string (str m),.slice a1 ts.length c1,.slice a2 xs.length c2,.slice a3 gs.length c3,.slice a4 fs.length c4,.slice a5 es.length c5,.slice a6 ss.length c6,.slice a7 rs.length c7] rfl rfl 35 #[.string ⟨#[]⟩,.slice none 0 0,.slice none 0 0,.slice none 0 0,.slice none 0 0,.slice none 0 0,.slice none 0 0,.slice none 0 0] hA91 szRP rfl (by kernel_rfl) ?_)
    (try simp only [Exit.inBlock,Exit.then])
    refine bodyPost_ret (resO3 rfl _ _ w.heap.size 35 #[.string (str m),.slice a1 ts.length c1,.slice a2 xs.length c2,.slice a3 gs.length c3,.slice a4 fs.length c4,.slice a5 es.length c5,.slice a6 ss.length c6,.slice a7 rs.length c7] (0,0) _ rfl (setRow_heap _ w.heap.size _ _ 35 (0,0) hA91) Tryz.underlying35 rfl szRP) rfl ?_
    refine ⟨hb,⟨.slice a1 ts.length c1,.slice a2 xs.length c2,.slice a3 gs.length c3,.slice a4 fs.length c4,.slice a5 es.length c5,.slice a6 ss.length c6,.slice a7 rs.length c7⟩,?_,?_⟩
    ·rw [hR.out]
     rfl
    ·rw [hR.out]
     exact hO
   ·have hR:Hid (RES = ((rn,0),noneO)):=by rw [hid_iff]; exact HW1.out hr
    clear HW1 HG1
    have hrn:((rn:Int) != 0) = true:=by rw [bne_iff_ne]; omega
    have KR:=wkept_setRow w91 w.heap.size #[.string ⟨#[]⟩,.slice none 0 0,.slice none 0 0,.slice none 0 0,.slice none 0 0,.slice none 0 0,.slice none 0 0,.slice none 0 0]
    have hb:Below w.heap.size w (w91.setRow w.heap.size #[.string ⟨#[]⟩,.slice none 0 0,.slice none 0 0,.slice none 0 0,.slice none 0 0,.slice none 0 0,.slice none 0 0,.slice none 0 0]):=hB91.trans (KR.below (B:=w.heap.size) (by have:=hB91.size; omega) (fun x hx h=>by omega))
    clear KR O91 hr hC91
    go_wp2_with (refine wpList_store_row rfl 35 (.tmp 2) (.tmp 188) rfl w.heap.size #[.string ⟨#[]⟩,.slice none 0 0,.slice none 0 0,.slice none 0 0,.slice none 0 0,.slice none 0 0,.slice none 0 0,.slice none 0 0] rfl rfl 35 #[.string ⟨#[]⟩,.slice none 0 0,.slice none 0 0,.slice none 0 0,.slice none 0 0,.slice none 0 0,.slice none 0 0,.slice none 0 0] hA91 szRP rfl (by kernel_rfl) ?_)
    (try simp only [Exit.inBlock,Exit.then])
    refine bodyPost_ret (resO3 rfl _ _ w.heap.size 35 #[.string ⟨#[]⟩,.slice none 0 0,.slice none 0 0,.slice none 0 0,.slice none 0 0,.slice none 0 0,.slice none 0 0,.slice none 0 0] (0,0) _ rfl (setRow_heap _ w.heap.size _ _ 35 (0,0) hA91) Tryz.underlying35 rfl szRP) rfl ?_
    refine ⟨hb,obVn,?_,?_⟩
    ·rw [hR.out]
     rfl
    ·rw [hR.out]
     exact obR_n _ _
  ·have hR:Hid (RES = ((yn,yp),noneO)):=by rw [hid_iff]; exact HE hy
   clear HE HW
   have hyz:((yn:Int) == 0) = false:=by rw [beq_eq_false_iff_ne]; omega
   have hyn:((yn:Int) != 0) = true:=by rw [bne_iff_ne]; omega
   have KR:=wkept_setRow w90 w.heap.size #[.string ⟨#[]⟩,.slice none 0 0,.slice none 0 0,.slice none 0 0,.slice none 0 0,.slice none 0 0,.slice none 0 0,.slice none 0 0]
   have hb:Below w.heap.size w (w90.setRow w.heap.size #[.string ⟨#[]⟩,.slice none 0 0,.slice none 0 0,.slice none 0 0,.slice none 0 0,.slice none 0 0,.slice none 0 0,.slice none 0 0]):=hB90.trans (KR.below (B:=w.heap.size) (by have:=hB90.size; omega) (fun x hx h=>by omega))
   clear KR O90 hy hC90
   go_wp2_with (refine wpList_store_row rfl 35 (.tmp 2) (.tmp 188) rfl w.heap.size #[.string ⟨#[]⟩,.slice none 0 0,.slice none 0 0,.slice none 0 0,.slice none 0 0,.slice none 0 0,.slice none 0 0,.slice none 0 0] rfl rfl 35 #[.string ⟨#[]⟩,.slice none 0 0,.slice none 0 0,.slice none 0 0,.slice none 0 0,.slice none 0 0,.slice none 0 0,.slice none 0 0] hA90 szRP rfl (by kernel_rfl) ?_)
   (try simp only [Exit.inBlock,Exit.then])
   refine bodyPost_ret (resO3 rfl _ _ w.heap.size 35 #[.string ⟨#[]⟩,.slice none 0 0,.slice none 0 0,.slice none 0 0,.slice none 0 0,.slice none 0 0,.slice none 0 0,.slice none 0 0] (0,0) _ rfl (setRow_heap _ w.heap.size _ _ 35 (0,0) hA90) Tryz.underlying35 rfl szRP) rfl ?_
   refine ⟨hb,obVn,?_,?_⟩
   ·rw [hR.out]
    rfl
   ·rw [hR.out]
    exact obR_n _ _
end Go.Proofs.YtiiepfplommmfaaGreatDoor
