/-
  The law on what is read of objects' bytes: its walk.
-/
import Derived.Test.YtiiepfplommmfaaGreatDoorG36
import Derived.Test.YtiiepfplommmfaaGreatDoorG38
import Derived.Test.YtiiepfplommmfaaGreatDoorG41
import Derived.Test.YtiiepfplommmfaaGreatDoorG42
namespace Go.Proofs.YtiiepfplommmfaaGreatDoor
open Go.RowKit

theorem rdO14 {w w':World} {b:Nat} {v:Value} {l:List Nat} (h:Wire.Rd w b v l) (k:Below w.heap.size w w'):Wire.Rd w' b v l:=by
 rcases h with h | ⟨a,cap,h1,h2,h3⟩
 ·exact .inl h
 ·refine .inr ⟨a,cap,h1,h2,fun j u hj=>?_⟩
  have:=h3 j u hj
  rw [k.cell (World.block_lt_of_cell? w _ this)]
  exact this
theorem noneS14:ObS noneO:=⟨by simp [noneO],⟨by simp [noneO],by simp [noneO]⟩,⟨by simp [noneO],by simp [noneO]⟩,⟨by simp [noneO],by simp [noneO]⟩,⟨by simp [noneO],by simp [noneO]⟩,⟨by simp [noneO],by simp [noneO]⟩,⟨by simp [noneO],by simp [noneO]⟩,⟨by simp [noneO],by simp [noneO]⟩⟩
theorem decO_S {l:List Nat} (h256:∀ x ∈ l,x < 256):ObS (decO l).2:=by
 by_cases h:(decO l).1.1 = 0
 ·exact obj_short (dec_backO h256 h).1
 ·have e:(decO l).2 = noneO:=by
   unfold decO at h ⊢
   split
   ·rfl
   ·split
    ·rfl
    ·split
     ·rfl
     ·rename_i h1 h2 h3
      rw [if_neg h1,if_neg h2,if_neg h3] at h
      exact absurd rfl h
  rw [e]
  exact noneS14
theorem objB_pos (o:Ob):0 < (objB o).length:=by
 have h1:=Wire.enc_pos o.mod.length
 unfold objB txtB
 simp only [List.length_append]
 omega
theorem u8_xorO (a b:Nat) (ha:a < 256) (hb:b < 256):bits .xor .u8 (a:Int) (b:Int) = ((a ^^^ b:Nat):Int):=by
 have hx:a ^^^ b < 2 ^ 8:=Nat.xor_lt_two_pow (by omega) (by omega)
 have h1:(BitVec.ofInt 8 (a:Int)).toNat = a:=by
  rw [BitVec.ofInt_natCast,BitVec.toNat_ofNat]
  exact Nat.mod_eq_of_lt (by omega)
 have h2:(BitVec.ofInt 8 (b:Int)).toNat = b:=by
  rw [BitVec.ofInt_natCast,BitVec.toNat_ofNat]
  exact Nat.mod_eq_of_lt (by omega)
 have h3:∀ n:Int,IntKind.u8.wrap n = n % 256:=fun n=>by simp [IntKind.wrap,IntKind.bits,IntKind.signed]
 show IntKind.u8.wrap ((BitVec.ofInt 8 (a:Int) ^^^ BitVec.ofInt 8 (b:Int)).toNat:Int) = _
 rw [BitVec.toNat_xor,h1,h2,h3]
 omega
set_option maxHeartbeats 8000000 in
set_option maxRecDepth 1000000 in
theorem reads_walk14 (F : Nat → Prop) (v : ObV) (o : Ob) (bv : Value) (b0 : Nat) (bl : List Nat) (n : Int) (t : Nat) (w : World) (hO : ObR F w v o) (hB : Wire.Rd w b0 bv bl) (hF : ∀ g, F g → g < w.heap.size) (hok : ObOk o)
  (hg0:o.globals.length * 40 ≤ 140737488355328) (hf0:o.funs.length * 96 ≤ 140737488355328) (hs0:o.symbols.length * 80 ≤ 140737488355328) (hr0:o.relocs.length * 24 ≤ 140737488355328)
  (hbl:bl.length ≤ 140737488351232) (h256:∀ x ∈ bl,x < 256) (hcap:∃ a m c,bv = .slice a m c ∧ m ≤ c ∧ c ≤ maxLen) (hn0 : -9223372036854775808 ≤ n) (hn1:n ≤ 9223372036854775807) (ht:t < 256) :
  Calls Tryz.prog 4 #[bv,obv v o.mod,.int .i64 n,.int .u8 t] w (BoolB true w):=by
 obtain ⟨ba,bc,rfl⟩:=hB.shape
 have hblk:b0 < w.heap.size ∨ bl = []:=by rcases Wire.Rd.blk hB with h | h; exact .inr h; exact .inl h
 obtain ⟨v1,v2,v3,v4,v5,v6,v7⟩:=v
 obtain ⟨va1,vc1,e1⟩:=hO.types.shape
 obtain ⟨va2,vc2,e2⟩:=hO.texts.1.shape
 obtain ⟨va3,vc3,e3⟩:=hO.globals.shape
 obtain ⟨va4,vc4,e4⟩:=hO.funs.shape
 obtain ⟨va5,vc5,e5⟩:=hO.exports.1.shape
 obtain ⟨va6,vc6,e6⟩:=hO.symbols.shape
 obtain ⟨va7,vc7,e7⟩:=hO.relocs.shape
 simp only at e1 e2 e3 e4 e5 e6 e7
 subst e1 e2 e3 e4 e5 e6 e7
 have n1:=World.alloc_heap_new w (.cells #[.string (str o.mod),.slice va1 o.types.length vc1,.slice va2 o.texts.length vc2,.slice va3 o.globals.length vc3,.slice va4 o.funs.length vc4,.slice va5 o.exports.length vc5,.slice va6 o.symbols.length vc6,.slice va7 o.relocs.length vc7] 29)
 have b1:Below w.heap.size w (w.alloc (.cells #[.string (str o.mod),.slice va1 o.types.length vc1,.slice va2 o.texts.length vc2,.slice va3 o.globals.length vc3,.slice va4 o.funs.length vc4,.slice va5 o.exports.length vc5,.slice va6 o.symbols.length vc6,.slice va7 o.relocs.length vc7] 29)):=(Below.refl _ _).alloc (Nat.le_refl _) _
 have z1:(w.alloc (.cells #[.string (str o.mod),.slice va1 o.types.length vc1,.slice va2 o.texts.length vc2,.slice va3 o.globals.length vc3,.slice va4 o.funs.length vc4,.slice va5 o.exports.length vc5,.slice va6 o.symbols.length vc6,.slice va7 o.relocs.length vc7] 29)).heap.size = w.heap.size + 1:=by simp
 have hin:=inL F ⟨.slice va1 o.types.length vc1,.slice va2 o.texts.length vc2,.slice va3 o.globals.length vc3,.slice va4 o.funs.length vc4,.slice va5 o.exports.length vc5,.slice va6 o.symbols.length vc6,.slice va7 o.relocs.length vc7⟩ o _ (hO.below b1 hF) (fun g hg=>by have:=hF g hg; omega) hg0 hf0 hs0 hr0
 have hB0:=rdO14 hB b1
 unfold obv at hin ⊢
 simp only at hin ⊢
 obtain ⟨d0,d1,d2,d3,d4,d5,d6,d7⟩:=cells8 n1
 clear hO hB hg0 hf0 hs0 hr0
 go_enter Tryz.func4,Tryz.ntmps4
 go_wp2_with fail
 generalize w.alloc (.cells #[.string (str o.mod),.slice va1 o.types.length vc1,.slice va2 o.texts.length vc2,.slice va3 o.globals.length vc3,.slice va4 o.funs.length vc4,.slice va5 o.exports.length vc5,.slice va6 o.symbols.length vc6,.slice va7 o.relocs.length vc7] 29) = W0 at *
 refine hin.mono ?_
 rintro e w1 ⟨hb1,iv,rfl,hiv⟩
 have s1:=hb1.size
 have hGi:∀ g,(F g ∨ Fr W0 w1 g) → g < w1.heap.size:=fun g hg=>by
  rcases hg with h | h
  ·have:=hF g h
   omega
  ·exact h.2
 have hE:=rEncode (fun g=>F g ∨ Fr W0 w1 g) iv o w1 hiv hGi hok
 have bW1:Below w.heap.size w w1:=b1.trans (hb1.mono b1.size)
 have hB1:=rdO14 hB0 hb1
 unfold obv at hE ⊢
 clear hin hiv hGi d0 d1 d2 d3 d4 d5 d6 d7 n1 hB0 hb1
 have h8:=objB_lt o
 have hps:=objB_pos o
 unfold EncD at hE
 generalize objB o = L at *
 generalize (rightO o).1 = RN at *
 go_wp2_with fail
 refine hE.mono ?_
 rintro e wS ⟨hcase,b2⟩
 have bWS:Below w.heap.size w wS:=bW1.trans (b2.mono bW1.size)
 have hz1:=b2.size
 have hWS:∀ u,Below wS.heap.size wS u → Below w.heap.size w u:=fun u hu=>bWS.trans (hu.mono bWS.size)
 have hRd:=rdO14 hB1 b2
 have hcase:(∃ y:Nat,y ≠ 0 ∧ e = .returned (.tuple #[.slice none 0 0,.int .i64 (y:Int)])) ∨ (L.length ≤ 8192 ∧ ∃ xv g,e = .returned (.tuple #[xv,.int .i64 0]) ∧ Wire.Row wS g xv L ∧ w1.heap.size ≤ g):=by
  rcases hcase with ⟨h1,h2⟩ | ⟨_,_,h2⟩ | ⟨_,h1,xv,g,h2,h3,h4⟩
  ·exact .inl ⟨RN,h1,h2⟩
  ·exact .inl ⟨3,by decide,h2⟩
  ·exact .inr ⟨h1,xv,g,h2,h3,h4⟩
 clear hE hB1 b1 hok
 rcases hcase with ⟨y,hy0,rfl⟩ | ⟨hsh,xv,g,rfl,hrow,hg⟩
 ·have hg0:b0 < wS.heap.size ∨ bl = []:=hblk.imp_left (fun h=>by have:=bWS.size; omega)
  have hez:((y:Int) == 0) = false:=by
   clear hcap hg0 hblk bWS hWS hRd b2 bW1
   rw [beq_eq_false_iff_ne]
   omega
  clear hps h8 hn0 hn1
  have hro:=Wire.roomy _ b0 bl wS hbl hRd
  go_wp2_with fail
  refine hro.mono ?_
  rintro e w3 ⟨fc,fg,rfl,hr3,hg3,hc3,hcm3,hk3⟩
  have B3:=hk3.below (Nat.le_refl _) (fun _ _ h=>h)
  clear hro hk3
  have hsub:=Wire.row_sub hr3
  have hdec:=decodeO _ fg bl w3 (by omega) h256 hsub
  have hcI:(bl.length:Int) ≤ fc:=by omega
  have hok:=dec_ok bl
  have hS:=decO_S h256
  have hdr0:=fun u (h1:Wire.Rd u b0 _ bl) h2=>refDecode14 _ b0 bl u hbl h256 h1 h2 hcap
  unfold DecO at hdec hdr0
  generalize decO bl = RES at *
  obtain ⟨⟨yn,yp⟩,ob⟩:=RES
  simp only at hdec hdr0 hok hS
  clear hsub
  go_wp2_with fail
  refine hdec.mono ?_
  rintro e w4 ⟨b4,pv,rfl,hT4⟩
  obtain ⟨pv1,pv2,pv3,pv4,pv5,pv6,pv7⟩:=pv
  obtain ⟨pa1,pc1,e1⟩:=hT4.types.shape
  obtain ⟨pa2,pc2,e2⟩:=hT4.texts.1.shape
  obtain ⟨pa3,pc3,e3⟩:=hT4.globals.shape
  obtain ⟨pa4,pc4,e4⟩:=hT4.funs.shape
  obtain ⟨pa5,pc5,e5⟩:=hT4.exports.1.shape
  obtain ⟨pa6,pc6,e6⟩:=hT4.symbols.shape
  obtain ⟨pa7,pc7,e7⟩:=hT4.relocs.shape
  simp only at e1 e2 e3 e4 e5 e6 e7
  subst e1 e2 e3 e4 e5 e6 e7
  unfold obv
  simp only
  clear hdec hcI
  have bA5:Below w4.heap.size w4 (w4.alloc (.cells #[.string (str ob.mod),.slice pa1 ob.types.length pc1,.slice pa2 ob.texts.length pc2,.slice pa3 ob.globals.length pc3,.slice pa4 ob.funs.length pc4,.slice pa5 ob.exports.length pc5,.slice pa6 ob.symbols.length pc6,.slice pa7 ob.relocs.length pc7] 29)):=(Below.refl _ _).alloc (Nat.le_refl _) _
  have hN5:=World.alloc_heap_new w4 (.cells #[.string (str ob.mod),.slice pa1 ob.types.length pc1,.slice pa2 ob.texts.length pc2,.slice pa3 ob.globals.length pc3,.slice pa4 ob.funs.length pc4,.slice pa5 ob.exports.length pc5,.slice pa6 ob.symbols.length pc6,.slice pa7 ob.relocs.length pc7] 29)
  have hz5:(w4.alloc (.cells #[.string (str ob.mod),.slice pa1 ob.types.length pc1,.slice pa2 ob.texts.length pc2,.slice pa3 ob.globals.length pc3,.slice pa4 ob.funs.length pc4,.slice pa5 ob.exports.length pc5,.slice pa6 ob.symbols.length pc6,.slice pa7 ob.relocs.length pc7] 29)).heap.size = w4.heap.size + 1:=by simp
  have hT5:=hT4.below bA5 (fun g hg=>hg.2)
  have hr5:=(hr3.kept (wkept_below b4) (fun _ h=>h)).kept (wkept_below bA5) (fun _ h=>h)
  have B5:Below wS.heap.size wS (w4.alloc (.cells #[.string (str ob.mod),.slice pa1 ob.types.length pc1,.slice pa2 ob.texts.length pc2,.slice pa3 ob.globals.length pc3,.slice pa4 ob.funs.length pc4,.slice pa5 ob.exports.length pc5,.slice pa6 ob.symbols.length pc6,.slice pa7 ob.relocs.length pc7] 29)):=(B3.trans (b4.mono B3.size)).trans (bA5.mono (Nat.le_trans B3.size b4.size))
  have hRd5:=rdO14 hRd B5
  have hdr:=hdr0 _ hRd5 (hg0.imp_left (fun h=>Nat.lt_of_lt_of_le h B5.size))
  have hF5:∀ g,Fr w3 w4 g → g < w4.heap.size:=fun g hg=>hg.2
  clear hT4 bA5 hr3 b4 B3 hRd hdr0
  go_wp2_with fail
  generalize w4.alloc (.cells #[.string (str ob.mod),.slice pa1 ob.types.length pc1,.slice pa2 ob.texts.length pc2,.slice pa3 ob.globals.length pc3,.slice pa4 ob.funs.length pc4,.slice pa5 ob.exports.length pc5,.slice pa6 ob.symbols.length pc6,.slice pa7 ob.relocs.length pc7] 29) = W5 at *
  refine hdr.mono ?_
  rintro e w6 ⟨b6,qv,rfl,hT6⟩
  obtain ⟨qv1,qv2,qv3,qv4,qv5,qv6,qv7⟩:=qv
  obtain ⟨qa1,qc1,e1⟩:=hT6.types.shape
  obtain ⟨qa2,qc2,e2⟩:=hT6.texts.1.shape
  obtain ⟨qa3,qc3,e3⟩:=hT6.globals.shape
  obtain ⟨qa4,qc4,e4⟩:=hT6.funs.shape
  obtain ⟨qa5,qc5,e5⟩:=hT6.exports.1.shape
  obtain ⟨qa6,qc6,e6⟩:=hT6.symbols.shape
  obtain ⟨qa7,qc7,e7⟩:=hT6.relocs.shape
  simp only at e1 e2 e3 e4 e5 e6 e7
  subst e1 e2 e3 e4 e5 e6 e7
  unfold obv
  simp only
  clear hdr
  have bA7:Below w6.heap.size w6 (w6.alloc (.cells #[.string (str ob.mod),.slice qa1 ob.types.length qc1,.slice qa2 ob.texts.length qc2,.slice qa3 ob.globals.length qc3,.slice qa4 ob.funs.length qc4,.slice qa5 ob.exports.length qc5,.slice qa6 ob.symbols.length qc6,.slice qa7 ob.relocs.length qc7] 35)):=(Below.refl _ _).alloc (Nat.le_refl _) _
  have hN7:=World.alloc_heap_new w6 (.cells #[.string (str ob.mod),.slice qa1 ob.types.length qc1,.slice qa2 ob.texts.length qc2,.slice qa3 ob.globals.length qc3,.slice qa4 ob.funs.length qc4,.slice qa5 ob.exports.length qc5,.slice qa6 ob.symbols.length qc6,.slice qa7 ob.relocs.length qc7] 35)
  have hz6:=b6.size
  have hz7:(w6.alloc (.cells #[.string (str ob.mod),.slice qa1 ob.types.length qc1,.slice qa2 ob.texts.length qc2,.slice qa3 ob.globals.length qc3,.slice qa4 ob.funs.length qc4,.slice qa5 ob.exports.length qc5,.slice qa6 ob.symbols.length qc6,.slice qa7 ob.relocs.length qc7] 35)).heap.size = w6.heap.size + 1:=by simp
  have B75:Below W5.heap.size W5 (w6.alloc (.cells #[.string (str ob.mod),.slice qa1 ob.types.length qc1,.slice qa2 ob.texts.length qc2,.slice qa3 ob.globals.length qc3,.slice qa4 ob.funs.length qc4,.slice qa5 ob.exports.length qc5,.slice qa6 ob.symbols.length qc6,.slice qa7 ob.relocs.length qc7] 35)):=b6.trans (bA7.mono hz6)
  have hN57:=(B75.block w4.heap.size (by omega)).trans hN5
  have hT57:=hT5.below B75 (fun g hg=>by have:=hF5 g hg; omega)
  have hT7:=hT6.below bA7 (fun g hg=>hg.2)
  have hr7:=hr5.kept (wkept_below B75) (fun _ h=>h)
  have B7:=B5.trans (B75.mono B5.size)
  have hRd7:=rdO14 hRd5 B75
  have hkI:=sameL (Fr w3 w4) (Fr W5 w6) ⟨.slice pa1 ob.types.length pc1,.slice pa2 ob.texts.length pc2,.slice pa3 ob.globals.length pc3,.slice pa4 ob.funs.length pc4,.slice pa5 ob.exports.length pc5,.slice pa6 ob.symbols.length pc6,.slice pa7 ob.relocs.length pc7⟩ ⟨.slice qa1 ob.types.length qc1,.slice qa2 ob.texts.length qc2,.slice qa3 ob.globals.length qc3,.slice qa4 ob.funs.length qc4,.slice qa5 ob.exports.length qc5,.slice qa6 ob.symbols.length qc6,.slice qa7 ob.relocs.length qc7⟩ ob _ hT57 hT7 (fun g hg=>by have:=hF5 g hg; omega) (fun g hg=>by have:=hg.2; omega) hok hS
  unfold obv BoolB at hkI
  simp only at hkI
  obtain ⟨q0,q1,q2,q3,q4,q5,q6,q7⟩:=cells8 hN7
  obtain ⟨o0,o1,o2,o3,o4,o5,o6,o7⟩:=cells8 hN57
  clear hT5 hT6 bA7 hr5 b6 B5 B75 hRd5 hT57 hT7 hN5 hN7 hN57
  go_wp2_with fail
  generalize w6.alloc (.cells #[.string (str ob.mod),.slice qa1 ob.types.length qc1,.slice qa2 ob.texts.length qc2,.slice qa3 ob.globals.length qc3,.slice qa4 ob.funs.length qc4,.slice qa5 ob.exports.length qc5,.slice qa6 ob.symbols.length qc6,.slice qa7 ob.relocs.length qc7] 35) = W7 at *
  refine hkI.mono ?_
  rintro e w8 ⟨rfl,b8⟩
  have hr8:=hr7.kept (wkept_below b8) (fun _ h=>h)
  have hRd8:=rdO14 hRd7 b8
  have B8:=B7.trans (b8.mono B7.size)
  have hin:=Wire.intact _ b0 fg fc bl w8 hbl hc3 hcm3 hRd8 hr8
  clear hkI hr7 hRd7 B7 q0 q1 q2 q3 q4 q5 q6 q7 o0 o1 o2 o3 o4 o5 o6 o7 b8
  go_wp2_with fail
  refine hin.mono ?_
  rintro e w9 ⟨rfl,k9⟩
  have B9:=B8.trans ((k9.below (Nat.le_refl _) (fun _ _ h=>h)).mono B8.size)
  have hkn:=known14 w9
  clear hin hr8 hRd8 B8 k9
  go_wp2_with fail
  refine hkn.mono ?_
  rintro e w10 ⟨rfl,b10⟩
  have hbw:=hWS _ (B9.trans (b10.mono B9.size))
  go_wp2
  go_ret
  exact ⟨rfl,hbw⟩
 ·clear hRd h256 hbl hcap hblk
  rcases hrow.shape with ⟨_,rfl⟩ | ⟨xc,rfl,hxl,hxm⟩
  ·simp at hps
  have hgl:g < wS.heap.size:=hrow.lt (k:=g) rfl
  have hlp:(0:Int) < (L.length:Int):=by omega
  have hmod:=Int.emod_lt_of_pos n hlp
  have hmod0:=Int.emod_nonneg n (show (L.length:Int) ≠ 0 by omega)
  obtain ⟨k,hk⟩:∃ k:Nat,(k:Int) = n % (L.length:Int):=⟨(n % (L.length:Int)).toNat,by omega⟩
  have hkl:k < L.length:=by omega
  have hWi:Calls Tryz.prog 19 #[.int .i64 n,.int .i64 0,.int .i64 ((L.length:Int) - 1)] wS (Pu (.int .i64 (k:Int)) wS):=by
   have h:=withinQ n (L.length - 1) hn0 hn1 (by omega) wS
   rw [show ((L.length - 1:Nat):Int) = (L.length:Int) - 1 by omega,show (L.length:Int) - 1 + 1 = (L.length:Int) by omega, ← hk] at h
   exact h
  have hcell:=hrow.cell k hkl
  have hfz:=hrow.1.frozenAt k
  have hx1:L.getD k 0 < 256:=by
   rw [List.getD_eq_getElem?_getD,List.getElem?_eq_getElem hkl]
   exact h8 _ (List.getElem_mem hkl)
  obtain ⟨a,ha⟩:∃ a,L.getD k 0 = a:=⟨_,rfl⟩
  rw [ha] at hcell hx1
  clear ha
  have hxor:=u8_xorO a t hx1 ht
  have hst:=hrow.store k (a ^^^ t)
  have hkst:Wire.Kept (fun b=>b = g) wS (wS.setCell ⟨g,k,none⟩ (.int .u8 ((a ^^^ t:Nat):Int))):=Wire.Kept.setCell (S:=fun b=>b = g) (Wire.Kept.refl _ wS) (p:=⟨g,k,none⟩) (fun _=>rfl) _
  have hbw2:Below w.heap.size w (wS.setCell ⟨g,k,none⟩ (.int .u8 ((a ^^^ t:Nat):Int))):=bWS.trans ⟨hkst.os,hkst.tape,hkst.output,hkst.size,fun b hb=>hkst.block b (by have:=bWS.size; omega) (by have:=bW1.size; omega)⟩
  have hg0:g < (wS.setCell ⟨g,k,none⟩ (.int .u8 ((a ^^^ t:Nat):Int))).heap.size ∨ L.set k (a ^^^ t) = [] := .inl (Nat.lt_of_lt_of_le hgl hkst.size)
  have h256:∀ y ∈ L.set k (a ^^^ t),y < 256:=by
   intro y hy
   rcases List.mem_or_eq_of_mem_set hy with h | h
   ·exact h8 y h
   ·rw [h]
    exact Nat.xor_lt_two_pow (n:=8) (by omega) (by omega)
  have hlen:Hid (L.length = (L.set k (a ^^^ t)).length):=by rw [hid_iff]; simp
  clear hmod hmod0 hk hkst hWS h8
  go_wp2_with fail
  refine hWi.mono ?_
  rintro e w2 ⟨rfl,rfl⟩
  clear hWi
  go_wp2_with fail
  clear hxor hcell hfz hrow
  replace hlen:=hlen.out
  generalize L.set k (a ^^^ t) = bl at *
  generalize L.length = nL at *
  subst hlen
  generalize w2.setCell ⟨g,k,none⟩ (.int .u8 ((a ^^^ t:Nat):Int)) = wT at *
  have hRd:=hst.rd
  have hWS:∀ u,Below wT.heap.size wT u → Below w.heap.size w u:=fun u hu=>hbw2.trans (hu.mono hbw2.size)
  have hbl:bl.length ≤ 140737488351232:=by omega
  have hcap:∃ a m c,Value.slice (some ⟨g,0,none⟩) bl.length xc = .slice a m c ∧ m ≤ c ∧ c ≤ maxLen:=⟨_,_,_,rfl,hxl,hxm⟩
  clear hst hbw2 hlp hkl hps hxl
  have hro:=Wire.roomy _ g bl wT hbl hRd
  go_wp2_with fail
  refine hro.mono ?_
  rintro e w3 ⟨fc,fg,rfl,hr3,hg3,hc3,hcm3,hk3⟩
  have B3:=hk3.below (Nat.le_refl _) (fun _ _ h=>h)
  clear hro hk3
  have hsub:=Wire.row_sub hr3
  have hdec:=decodeO _ fg bl w3 (by omega) h256 hsub
  have hcI:(bl.length:Int) ≤ fc:=by omega
  have hok:=dec_ok bl
  have hS:=decO_S h256
  have hdr0:=fun u (h1:Wire.Rd u g _ bl) h2=>refDecode14 _ g bl u hbl h256 h1 h2 hcap
  unfold DecO at hdec hdr0
  generalize decO bl = RES at *
  obtain ⟨⟨yn,yp⟩,ob⟩:=RES
  simp only at hdec hdr0 hok hS
  clear hsub
  go_wp2_with fail
  refine hdec.mono ?_
  rintro e w4 ⟨b4,pv,rfl,hT4⟩
  obtain ⟨pv1,pv2,pv3,pv4,pv5,pv6,pv7⟩:=pv
  obtain ⟨pa1,pc1,e1⟩:=hT4.types.shape
  obtain ⟨pa2,pc2,e2⟩:=hT4.texts.1.shape
  obtain ⟨pa3,pc3,e3⟩:=hT4.globals.shape
  obtain ⟨pa4,pc4,e4⟩:=hT4.funs.shape
  obtain ⟨pa5,pc5,e5⟩:=hT4.exports.1.shape
  obtain ⟨pa6,pc6,e6⟩:=hT4.symbols.shape
  obtain ⟨pa7,pc7,e7⟩:=hT4.relocs.shape
  simp only at e1 e2 e3 e4 e5 e6 e7
  subst e1 e2 e3 e4 e5 e6 e7
  unfold obv
  simp only
  clear hdec hcI
  have bA5:Below w4.heap.size w4 (w4.alloc (.cells #[.string (str ob.mod),.slice pa1 ob.types.length pc1,.slice pa2 ob.texts.length pc2,.slice pa3 ob.globals.length pc3,.slice pa4 ob.funs.length pc4,.slice pa5 ob.exports.length pc5,.slice pa6 ob.symbols.length pc6,.slice pa7 ob.relocs.length pc7] 29)):=(Below.refl _ _).alloc (Nat.le_refl _) _
  have hN5:=World.alloc_heap_new w4 (.cells #[.string (str ob.mod),.slice pa1 ob.types.length pc1,.slice pa2 ob.texts.length pc2,.slice pa3 ob.globals.length pc3,.slice pa4 ob.funs.length pc4,.slice pa5 ob.exports.length pc5,.slice pa6 ob.symbols.length pc6,.slice pa7 ob.relocs.length pc7] 29)
  have hz5:(w4.alloc (.cells #[.string (str ob.mod),.slice pa1 ob.types.length pc1,.slice pa2 ob.texts.length pc2,.slice pa3 ob.globals.length pc3,.slice pa4 ob.funs.length pc4,.slice pa5 ob.exports.length pc5,.slice pa6 ob.symbols.length pc6,.slice pa7 ob.relocs.length pc7] 29)).heap.size = w4.heap.size + 1:=by simp
  have hT5:=hT4.below bA5 (fun g hg=>hg.2)
  have hr5:=(hr3.kept (wkept_below b4) (fun _ h=>h)).kept (wkept_below bA5) (fun _ h=>h)
  have B5:Below wT.heap.size wT (w4.alloc (.cells #[.string (str ob.mod),.slice pa1 ob.types.length pc1,.slice pa2 ob.texts.length pc2,.slice pa3 ob.globals.length pc3,.slice pa4 ob.funs.length pc4,.slice pa5 ob.exports.length pc5,.slice pa6 ob.symbols.length pc6,.slice pa7 ob.relocs.length pc7] 29)):=(B3.trans (b4.mono B3.size)).trans (bA5.mono (Nat.le_trans B3.size b4.size))
  have hRd5:=rdO14 hRd B5
  have hdr:=hdr0 _ hRd5 (hg0.imp_left (fun h=>Nat.lt_of_lt_of_le h B5.size))
  have hF5:∀ g,Fr w3 w4 g → g < w4.heap.size:=fun g hg=>hg.2
  clear hT4 bA5 hr3 b4 B3 hRd hdr0
  go_wp2_with fail
  generalize w4.alloc (.cells #[.string (str ob.mod),.slice pa1 ob.types.length pc1,.slice pa2 ob.texts.length pc2,.slice pa3 ob.globals.length pc3,.slice pa4 ob.funs.length pc4,.slice pa5 ob.exports.length pc5,.slice pa6 ob.symbols.length pc6,.slice pa7 ob.relocs.length pc7] 29) = W5 at *
  refine hdr.mono ?_
  rintro e w6 ⟨b6,qv,rfl,hT6⟩
  obtain ⟨qv1,qv2,qv3,qv4,qv5,qv6,qv7⟩:=qv
  obtain ⟨qa1,qc1,e1⟩:=hT6.types.shape
  obtain ⟨qa2,qc2,e2⟩:=hT6.texts.1.shape
  obtain ⟨qa3,qc3,e3⟩:=hT6.globals.shape
  obtain ⟨qa4,qc4,e4⟩:=hT6.funs.shape
  obtain ⟨qa5,qc5,e5⟩:=hT6.exports.1.shape
  obtain ⟨qa6,qc6,e6⟩:=hT6.symbols.shape
  obtain ⟨qa7,qc7,e7⟩:=hT6.relocs.shape
  simp only at e1 e2 e3 e4 e5 e6 e7
  subst e1 e2 e3 e4 e5 e6 e7
  unfold obv
  simp only
  clear hdr
  have bA7:Below w6.heap.size w6 (w6.alloc (.cells #[.string (str ob.mod),.slice qa1 ob.types.length qc1,.slice qa2 ob.texts.length qc2,.slice qa3 ob.globals.length qc3,.slice qa4 ob.funs.length qc4,.slice qa5 ob.exports.length qc5,.slice qa6 ob.symbols.length qc6,.slice qa7 ob.relocs.length qc7] 35)):=(Below.refl _ _).alloc (Nat.le_refl _) _
  have hN7:=World.alloc_heap_new w6 (.cells #[.string (str ob.mod),.slice qa1 ob.types.length qc1,.slice qa2 ob.texts.length qc2,.slice qa3 ob.globals.length qc3,.slice qa4 ob.funs.length qc4,.slice qa5 ob.exports.length qc5,.slice qa6 ob.symbols.length qc6,.slice qa7 ob.relocs.length qc7] 35)
  have hz6:=b6.size
  have hz7:(w6.alloc (.cells #[.string (str ob.mod),.slice qa1 ob.types.length qc1,.slice qa2 ob.texts.length qc2,.slice qa3 ob.globals.length qc3,.slice qa4 ob.funs.length qc4,.slice qa5 ob.exports.length qc5,.slice qa6 ob.symbols.length qc6,.slice qa7 ob.relocs.length qc7] 35)).heap.size = w6.heap.size + 1:=by simp
  have B75:Below W5.heap.size W5 (w6.alloc (.cells #[.string (str ob.mod),.slice qa1 ob.types.length qc1,.slice qa2 ob.texts.length qc2,.slice qa3 ob.globals.length qc3,.slice qa4 ob.funs.length qc4,.slice qa5 ob.exports.length qc5,.slice qa6 ob.symbols.length qc6,.slice qa7 ob.relocs.length qc7] 35)):=b6.trans (bA7.mono hz6)
  have hN57:=(B75.block w4.heap.size (by omega)).trans hN5
  have hT57:=hT5.below B75 (fun g hg=>by have:=hF5 g hg; omega)
  have hT7:=hT6.below bA7 (fun g hg=>hg.2)
  have hr7:=hr5.kept (wkept_below B75) (fun _ h=>h)
  have B7:=B5.trans (B75.mono B5.size)
  have hRd7:=rdO14 hRd5 B75
  have hkI:=sameL (Fr w3 w4) (Fr W5 w6) ⟨.slice pa1 ob.types.length pc1,.slice pa2 ob.texts.length pc2,.slice pa3 ob.globals.length pc3,.slice pa4 ob.funs.length pc4,.slice pa5 ob.exports.length pc5,.slice pa6 ob.symbols.length pc6,.slice pa7 ob.relocs.length pc7⟩ ⟨.slice qa1 ob.types.length qc1,.slice qa2 ob.texts.length qc2,.slice qa3 ob.globals.length qc3,.slice qa4 ob.funs.length qc4,.slice qa5 ob.exports.length qc5,.slice qa6 ob.symbols.length qc6,.slice qa7 ob.relocs.length qc7⟩ ob _ hT57 hT7 (fun g hg=>by have:=hF5 g hg; omega) (fun g hg=>by have:=hg.2; omega) hok hS
  unfold obv BoolB at hkI
  simp only at hkI
  obtain ⟨q0,q1,q2,q3,q4,q5,q6,q7⟩:=cells8 hN7
  obtain ⟨o0,o1,o2,o3,o4,o5,o6,o7⟩:=cells8 hN57
  clear hT5 hT6 bA7 hr5 b6 B5 B75 hRd5 hT57 hT7 hN5 hN7 hN57
  go_wp2_with fail
  generalize w6.alloc (.cells #[.string (str ob.mod),.slice qa1 ob.types.length qc1,.slice qa2 ob.texts.length qc2,.slice qa3 ob.globals.length qc3,.slice qa4 ob.funs.length qc4,.slice qa5 ob.exports.length qc5,.slice qa6 ob.symbols.length qc6,.slice qa7 ob.relocs.length qc7] 35) = W7 at *
  refine hkI.mono ?_
  rintro e w8 ⟨rfl,b8⟩
  have hr8:=hr7.kept (wkept_below b8) (fun _ h=>h)
  have hRd8:=rdO14 hRd7 b8
  have B8:=B7.trans (b8.mono B7.size)
  have hin:=Wire.intact _ g fg fc bl w8 hbl hc3 hcm3 hRd8 hr8
  clear hkI hr7 hRd7 B7 q0 q1 q2 q3 q4 q5 q6 q7 o0 o1 o2 o3 o4 o5 o6 o7 b8
  go_wp2_with fail
  refine hin.mono ?_
  rintro e w9 ⟨rfl,k9⟩
  have B9:=B8.trans ((k9.below (Nat.le_refl _) (fun _ _ h=>h)).mono B8.size)
  have hkn:=known14 w9
  clear hin hr8 hRd8 B8 k9
  go_wp2_with fail
  refine hkn.mono ?_
  rintro e w10 ⟨rfl,b10⟩
  have hbw:=hWS _ (B9.trans (b10.mono B9.size))
  go_wp2
  go_ret
  exact ⟨rfl,hbw⟩
end Go.Proofs.YtiiepfplommmfaaGreatDoor
