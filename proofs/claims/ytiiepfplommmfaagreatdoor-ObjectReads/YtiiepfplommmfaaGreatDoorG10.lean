/-
  The reference's Reader: Number.
  And: The reference's Reader: its other methods. The document's own ReadCases. The document's own ReadCases: the walk. The package's readList, at cases. The package's readItem.
-/
import Derived.Test.YtiiepfplommmfaaGreatDoorG09
import Derived.Test.YtiiepfplommmfaaGreatDoorG07
namespace Go.Proofs.YtiiepfplommmfaaGreatDoor.Wire
open Go.RowKit

def QNumE (w:World) (b b0:Nat) (bv:Value) (l:List Nat) (R:Nat × Nat × Nat) (e:Ending) (w':World):Prop :=
 e = .returned (.int .u64 R.1) ∧ QIs w' b b0 bv l R.2.1 R.2.2 ∧ Kept (fun k=>k = b) w w'
theorem low_bits (x:Nat) (hx:x < 256):bits .and .u8 (x:Int) 127 = ((x % 128:Nat):Int):=by
 have h1:bits .and .u8 (x:Int) 127 = ((x &&& 127:Nat):Int):=u8_and_nat x 127 hx (by omega)
 have h3:x &&& 127 = x % 128:=Nat.and_two_pow_sub_one_eq_mod x 7
 rw [h1,h3]
theorem rNum_dec {l:List Nat} {p most dn ds dw:Nat} (hd:dec (l.drop p) 0 0 = (dn,ds,dw)):rNum l p 0 most = if dw = 10 then (0,l.length,10) else if dw ≠ 0 then (0,p,dw) else if most < dn then (0,p,3) else (dn,p + ds,0):=by simp [rNum,hd]
set_option maxHeartbeats 4000000 in
set_option maxRecDepth 1000000 in
theorem qnumber (b b0 : Nat) (bv : Value) (l : List Nat) (p why most : Nat) (w : World) (hl : l.length ≤ 140737488351232) (h256 : ∀ x ∈ l, x < 256) (hp : p ≤ l.length) (_hm : most < 18446744073709551616) (hq : QIs w b b0 bv l p why) (hcap : ∃ a m c, bv = .slice a m c ∧ m ≤ c ∧ c ≤ maxLen) :
  Calls Tryz.prog 124 #[.pointer (some ⟨b,0,none⟩),.int .u64 most] w (QNumE w b b0 bv l (rNum l p why most)):=by
 obtain ⟨A,r,Y,Z,hb,hrd,hne,hA,hst⟩:=hq
 obtain ⟨c0,c1,c2,c3,c4,hf⟩:=qcells hb
 rcases hst with ⟨rfl,rfl,rfl⟩ | ⟨h0,rfl,rfl,rfl⟩
 ·go_enter Tryz.func124,Tryz.ntmps124
  go_wp2
  go_loopg [6,7,8] 10 (fun gk n k _ wr=>∃ j acc:Nat,gk + j = 10 ∧ j < 10 ∧ A + j ≤ l.length ∧ k = .int .i64 j ∧ n = .int .u64 acc ∧ acc < 2 ^ (7 * j) ∧ Hid (dec (l.drop A) j acc = dec (l.drop A) 0 0) ∧ QBox wr b bv (A + j) false Y Z ∧ Kept (fun k=>k = b) w wr)
  case atStart=>exact ⟨0,0,rfl,by omega,by omega,rfl,rfl,by decide,rfl,hb,Kept.refl _ _⟩
  case round =>
   obtain ⟨j,acc,hgj,hj,hAj,rfl,rfl,hacc,HD,hbr,hK⟩:=hrel
   have hrdr:=hrd.keptE hK (fun h=>hne h.symm)
   clear c0 c1 c2 c3 c4 hf hb
   obtain ⟨c0,c1,c2,c3,c4,hf⟩:=qcells hbr
   have hf1:=hf 1
   go_wp2_with fail
   refine (qraw_box 1 b b0 bv l (A + j) false Y Z wr (by omega) hl hAj hbr hrdr hcap).mono ?_
   rintro e w1 ⟨v1,g1,l1,rfl,hr1,hg1,hk1,hcase⟩
   have hK1:=hK.trans hk1 (U:=fun k=>k = b) (fun _ _ h=>h) (fun _ _ h=>h)
   have hrd1:=hrdr.keptE hk1 (fun h=>hne h.symm)
   rcases hcase with ⟨h0,_⟩ | ⟨_,_,hend,hl1,hb1⟩ | ⟨_,_,hin,hl1,hb1⟩
   ·exfalso; simp at h0
   ·have hend':l.length = A + j:=by omega
    obtain ⟨d0,d1,d2,d3,d4,hf'⟩:=qcells hb1
    obtain ⟨a1,n1,c1',hv1⟩:=hr1.rd.shape3'
    subst hv1
    have HR:Hid (rNum l A 0 most = (0,l.length,10)):=by
     have h:dec (l.drop A) 0 0 = (0,0,10):=by rw [← HD.out]; exact dec_none hj (List.getElem?_eq_none (by simp; omega))
     rw [Hid,rNum_dec h,if_pos rfl]
    clear hend'
    go_wp2
    go_ret
    rw [HR.out]
    exact ⟨rfl,⟨_,_,_,_,hb1,hrd1,hne,hAj,.inr ⟨by simp,rfl,rfl,rfl⟩⟩,hK1⟩
   ·have hlt:A + j < l.length:=by omega
    have hx:(l.drop A)[j]? = some (l.getD (A + j) 0):=by simp [List.getElem?_drop,List.getD,hlt]
    have hl1':l1 = [l.getD (A + j) 0]:=by
     have h1:(l.drop (A + j)).take 1 = [l[A + j]]:=by rw [List.drop_eq_getElem_cons hlt]; rfl
     rw [hl1,show (1:Int).toNat = 1 from rfl,h1]
     simp [List.getD,hlt]
    have hx256:l.getD (A + j) 0 < 256:=h256 _ (by simp [List.getD,hlt])
    rw [show (1:Int).toNat = 1 from rfl] at hb1
    generalize l.getD (A + j) 0 = x at hx hl1' hx256
    subst hl1'
    clear hl1
    rcases hr1.shape with ⟨_,h⟩ | ⟨cap1,hv1,_,_⟩
    ·simp at h
    ·subst hv1
     have hcx:=hr1.cell 0 (by simp)
     simp only [List.getD_cons_zero] at hcx
     obtain ⟨d0,d1,d2,d3,d4,hf'⟩:=qcells hb1
     have hf1':=hf' 1
     have hlow:=low_bits x hx256
     have hj10:¬ (9:Int) < j:=by omega
     by_cases j9:j = 9
     ·have j9b:((j:Int) == 9) = true:=by simp; omega
      have jp:(0:Int) < j:=by omega
      by_cases x1:1 < x
      ·have HR:Hid (rNum l A 0 most = (0,A,12)):=by
        have h:dec (l.drop A) 0 0 = (0,0,12):=by
         rw [← HD.out]
         by_cases h128:128 ≤ x
         ·rw [dec_on hj hx h128,dec_end (by omega)]
         ·exact dec_bad hj hx (by omega) (by omega)
        rw [Hid,rNum_dec h,if_neg (by omega),if_pos (by omega)]
       have x1b:(1:Int) < x:=by omega
       clear j9 x1
       clear hlow
       go_wp2_with fail
       have hb2:QBox (w1.setCell ⟨b,1,none⟩ (.int .i64 A)) b bv A false Y Z:=Box.set hb1 1 (.int .i64 A)
       refine (qrefuse 12 A b bv A false Y Z _ hb2).mono ?_
       rintro e w2 ⟨rfl,hb3,hk3⟩
       have hk4:=(kept_set w1 b 1 (.int .i64 A)).trans hk3 (U:=fun k=>k = b) (fun _ _ h=>h) (fun _ _ h=>h)
       have hrd3:=hrd1.keptE hk4 (fun h=>hne h.symm)
       have hK3:=hK1.trans hk4 (U:=fun k=>k = b) (fun _ _ h=>h) (fun _ _ h=>h)
       go_wp2
       go_ret
       rw [HR.out]
       exact ⟨rfl,⟨_,_,_,_,hb3,hrd3,hne,hA,.inr ⟨by simp,rfl,rfl,rfl⟩⟩,hK3⟩
      ·have x1b:¬ (1:Int) < x:=by omega
       by_cases x0:x = 0
       ·have HR:Hid (rNum l A 0 most = (0,A,12)):=by
         have h:dec (l.drop A) 0 0 = (0,0,12):=by
          rw [← HD.out]
          by_cases h128:128 ≤ x
          ·rw [dec_on hj hx h128,dec_end (by omega)]
          ·exact dec_bad hj hx (by omega) (by omega)
         rw [Hid,rNum_dec h,if_neg (by omega),if_pos (by omega)]
        have x0b:((x:Int) == 0) = true:=by simp; omega
        clear j9 x1 x0
        clear hlow
        go_wp2_with fail
        have hb2:QBox (w1.setCell ⟨b,1,none⟩ (.int .i64 A)) b bv A false Y Z:=Box.set hb1 1 (.int .i64 A)
        refine (qrefuse 12 A b bv A false Y Z _ hb2).mono ?_
        rintro e w2 ⟨rfl,hb3,hk3⟩
        have hk4:=(kept_set w1 b 1 (.int .i64 A)).trans hk3 (U:=fun k=>k = b) (fun _ _ h=>h) (fun _ _ h=>h)
        have hrd3:=hrd1.keptE hk4 (fun h=>hne h.symm)
        have hK3:=hK1.trans hk4 (U:=fun k=>k = b) (fun _ _ h=>h) (fun _ _ h=>h)
        go_wp2
        go_ret
        rw [HR.out]
        exact ⟨rfl,⟨_,_,_,_,hb3,hrd3,hne,hA,.inr ⟨by simp,rfl,rfl,rfl⟩⟩,hK3⟩
       ·have x0b:((x:Int) == 0) = false:=by simp; omega
        have hval:=or_val (k:=j) (acc:=acc) (x:=x) (by omega) hacc
        obtain ⟨V,HVe⟩:∃ V,Hid (V = acc + x % 128 * 2 ^ (7 * j)):=⟨_,rfl⟩
        rw [← HVe.out] at hval
        obtain ⟨hV1,hV2⟩:=hval
        have hx128:(x:Int) < 128:=by omega
        have HB:Hid (dec (l.drop A) 0 0 = (V,j + 1,0)):=by
         rw [Hid, ← HD.out,dec_ok hj hx (by omega) (by omega),HVe.out]
         simp only [show x % 128 = x by omega]
        clear j9 x1 x0
        by_cases hmo:most < V
        ·have HR:Hid (rNum l A 0 most = (0,A,3)):=by rw [Hid,rNum_dec HB.out,if_neg (by omega),if_neg (by omega),if_pos hmo]
         go_wp2_with fail
         refine (qrefuse 3 A b bv (A + j + 1) false Y Z _ hb1).mono ?_
         rintro e w2 ⟨rfl,hb3,hk3⟩
         have hrd3:=hrd1.keptE hk3 (fun h=>hne h.symm)
         have hK3:=hK1.trans hk3 (U:=fun k=>k = b) (fun _ _ h=>h) (fun _ _ h=>h)
         go_wp2
         go_ret
         rw [HR.out]
         exact ⟨rfl,⟨_,_,_,_,hb3,hrd3,hne,by omega,.inr ⟨by simp,rfl,rfl,rfl⟩⟩,hK3⟩
        ·have HR:Hid (rNum l A 0 most = (V,A + (j + 1),0)):=by rw [Hid,rNum_dec HB.out,if_neg (by omega),if_neg (by omega),if_neg hmo]
         go_wp2
         go_ret
         rw [HR.out]
         exact ⟨rfl,⟨_,_,_,_,hb1,hrd1,hne,by omega,.inl ⟨rfl,rfl,rfl⟩⟩,hK1⟩
     ·have j9b:((j:Int) == 9) = false:=by simp; omega
      by_cases j0:0 < j
      ·have jp:(0:Int) < j:=by omega
       by_cases x0:x = 0
       ·have HR:Hid (rNum l A 0 most = (0,A,12)):=by
         have h:dec (l.drop A) 0 0 = (0,0,12):=by
          rw [← HD.out]
          by_cases h128:128 ≤ x
          ·rw [dec_on hj hx h128,dec_end (by omega)]
          ·exact dec_bad hj hx (by omega) (by omega)
         rw [Hid,rNum_dec h,if_neg (by omega),if_pos (by omega)]
        have x0b:((x:Int) == 0) = true:=by simp; omega
        clear j9 x0
        clear hlow
        go_wp2_with fail
        have hb2:QBox (w1.setCell ⟨b,1,none⟩ (.int .i64 A)) b bv A false Y Z:=Box.set hb1 1 (.int .i64 A)
        refine (qrefuse 12 A b bv A false Y Z _ hb2).mono ?_
        rintro e w2 ⟨rfl,hb3,hk3⟩
        have hk4:=(kept_set w1 b 1 (.int .i64 A)).trans hk3 (U:=fun k=>k = b) (fun _ _ h=>h) (fun _ _ h=>h)
        have hrd3:=hrd1.keptE hk4 (fun h=>hne h.symm)
        have hK3:=hK1.trans hk4 (U:=fun k=>k = b) (fun _ _ h=>h) (fun _ _ h=>h)
        go_wp2
        go_ret
        rw [HR.out]
        exact ⟨rfl,⟨_,_,_,_,hb3,hrd3,hne,hA,.inr ⟨by simp,rfl,rfl,rfl⟩⟩,hK3⟩
       ·have x0b:((x:Int) == 0) = false:=by simp; omega
        have hval:=or_val (k:=j) (acc:=acc) (x:=x) (by omega) hacc
        obtain ⟨V,HVe⟩:∃ V,Hid (V = acc + x % 128 * 2 ^ (7 * j)):=⟨_,rfl⟩
        rw [← HVe.out] at hval
        obtain ⟨hV1,hV2⟩:=hval
        by_cases x128:x < 128
        ·have hx128:(x:Int) < 128:=by omega
         have HB:Hid (dec (l.drop A) 0 0 = (V,j + 1,0)):=by
          rw [Hid, ← HD.out,dec_ok hj hx (by omega) (by omega),HVe.out]
          simp only [show x % 128 = x by omega]
         by_cases hmo:most < V
         ·have HR:Hid (rNum l A 0 most = (0,A,3)):=by rw [Hid,rNum_dec HB.out,if_neg (by omega),if_neg (by omega),if_pos hmo]
          go_wp2_with fail
          refine (qrefuse 3 A b bv (A + j + 1) false Y Z _ hb1).mono ?_
          rintro e w2 ⟨rfl,hb3,hk3⟩
          have hrd3:=hrd1.keptE hk3 (fun h=>hne h.symm)
          have hK3:=hK1.trans hk3 (U:=fun k=>k = b) (fun _ _ h=>h) (fun _ _ h=>h)
          go_wp2
          go_ret
          rw [HR.out]
          exact ⟨rfl,⟨_,_,_,_,hb3,hrd3,hne,by omega,.inr ⟨by simp,rfl,rfl,rfl⟩⟩,hK3⟩
         ·have HR:Hid (rNum l A 0 most = (V,A + (j + 1),0)):=by rw [Hid,rNum_dec HB.out,if_neg (by omega),if_neg (by omega),if_neg hmo]
          go_wp2
          go_ret
          rw [HR.out]
          exact ⟨rfl,⟨_,_,_,_,hb1,hrd1,hne,by omega,.inl ⟨rfl,rfl,rfl⟩⟩,hK1⟩
        ·have hx128:(128:Int) ≤ x:=by omega
         have HDn:Hid (dec (l.drop A) (j + 1) V = dec (l.drop A) 0 0):=by rw [Hid, ← HD.out,dec_on hj hx (by omega),HVe.out]
         go_wp2
         go_roundg (10 - (j + 1))
         case measure=>omega
         case rel=>exact ⟨j + 1,V,by omega,by omega,by omega,by go_num,rfl,hV2,HDn,by simpa [Nat.add_assoc] using hb1,hK1⟩
      ·have jp:¬ (0:Int) < j:=by omega
       have hval:=or_val (k:=j) (acc:=acc) (x:=x) (by omega) hacc
       obtain ⟨V,HVe⟩:∃ V,Hid (V = acc + x % 128 * 2 ^ (7 * j)):=⟨_,rfl⟩
       rw [← HVe.out] at hval
       obtain ⟨hV1,hV2⟩:=hval
       by_cases x128:x < 128
       ·have hx128:(x:Int) < 128:=by omega
        have HB:Hid (dec (l.drop A) 0 0 = (V,j + 1,0)):=by
         rw [Hid, ← HD.out,dec_ok hj hx (by omega) (by omega),HVe.out]
         simp only [show x % 128 = x by omega]
        by_cases hmo:most < V
        ·have HR:Hid (rNum l A 0 most = (0,A,3)):=by rw [Hid,rNum_dec HB.out,if_neg (by omega),if_neg (by omega),if_pos hmo]
         go_wp2_with fail
         refine (qrefuse 3 A b bv (A + j + 1) false Y Z _ hb1).mono ?_
         rintro e w2 ⟨rfl,hb3,hk3⟩
         have hrd3:=hrd1.keptE hk3 (fun h=>hne h.symm)
         have hK3:=hK1.trans hk3 (U:=fun k=>k = b) (fun _ _ h=>h) (fun _ _ h=>h)
         go_wp2
         go_ret
         rw [HR.out]
         exact ⟨rfl,⟨_,_,_,_,hb3,hrd3,hne,by omega,.inr ⟨by simp,rfl,rfl,rfl⟩⟩,hK3⟩
        ·have HR:Hid (rNum l A 0 most = (V,A + (j + 1),0)):=by rw [Hid,rNum_dec HB.out,if_neg (by omega),if_neg (by omega),if_neg hmo]
         go_wp2
         go_ret
         rw [HR.out]
         exact ⟨rfl,⟨_,_,_,_,hb1,hrd1,hne,by omega,.inl ⟨rfl,rfl,rfl⟩⟩,hK1⟩
       ·have hx128:(128:Int) ≤ x:=by omega
        have HDn:Hid (dec (l.drop A) (j + 1) V = dec (l.drop A) 0 0):=by rw [Hid, ← HD.out,dec_on hj hx (by omega),HVe.out]
        go_wp2
        go_roundg (10 - (j + 1))
        case measure=>omega
        case rel=>exact ⟨j + 1,V,by omega,by omega,by omega,by go_num,rfl,hV2,HDn,by simpa [Nat.add_assoc] using hb1,hK1⟩
 ·have HR:Hid (rNum l Z Y most = (0,Z,Y)):=by simp [Hid,rNum,h0]
  have hq0:QIs w b b0 bv l Z Y:=⟨A,true,Y,Z,hb,hrd,hne,hA,.inr ⟨h0,rfl,rfl,rfl⟩⟩
  go_enter Tryz.func124,Tryz.ntmps124
  go_wp2
  go_loopg [6,7,8] 0 (fun _ n _ _ wr=>n = .int .u64 0 ∧ wr = w)
  case atStart=>exact ⟨rfl,rfl⟩
  case round =>
   obtain ⟨rfl,rfl⟩:=hrel
   go_wp2
   go_ret
   rw [HR.out]
   exact ⟨rfl,hq0,Kept.refl _ _⟩
end Go.Proofs.YtiiepfplommmfaaGreatDoor.Wire

namespace Go.Proofs.YtiiepfplommmfaaGreatDoor.Wire
open Go.RowKit

def QTakeE (w:World) (b b0:Nat) (bv:Value) (l:List Nat) (T:List Nat × Nat × Nat) (e:Ending) (w':World):Prop :=
 ∃ v g,e = .returned v ∧ Row w' g v T.1 ∧ w.heap.size ≤ g ∧ QIs w' b b0 bv l T.2.1 T.2.2 ∧ Kept (fun k=>k = b) w w'
theorem qraw (n : Int) (b b0 : Nat) (bv : Value) (l : List Nat) (p why : Nat) (w : World) (hn : n < 9223372036854775808) (hl : l.length ≤ 140737488351232) (hp : p ≤ l.length) (hq : QIs w b b0 bv l p why) (hcap : ∃ a m c, bv = .slice a m c ∧ m ≤ c ∧ c ≤ maxLen) :
  Calls Tryz.prog 62 #[.pointer (some ⟨b,0,none⟩),.int .i64 n] w (QTakeE w b b0 bv l (rTake l p why n)):=by
 obtain ⟨A,r,Y,Z,hb,hrd,hne,hA,hst⟩:=hq
 refine (qraw_box n b b0 bv l A r Y Z w hn hl hA hb hrd hcap).mono ?_
 rintro e w1 ⟨v1,g1,l1,he,hr1,hg1,hk1,hcase⟩
 have hrd1:=hrd.keptE hk1 (fun h=>hne h.symm)
 rcases hst with ⟨rfl,rfl,rfl⟩ | ⟨h0,rfl,rfl,rfl⟩
 ·rcases hcase with ⟨hc,rfl,hb1⟩ | ⟨_,hn0,hend,rfl,hb1⟩ | ⟨_,hn0,hin,rfl,hb1⟩
  ·have hn0:n < 0:=by simpa using hc
   have e1:rTake l A 0 n = ([],A,0):=by rw [rTake,if_pos (by omega)]
   rw [e1]
   exact ⟨v1,g1,he,hr1,hg1,⟨_,_,_,_,hb1,hrd1,hne,hA,.inl ⟨rfl,rfl,rfl⟩⟩,hk1⟩
  ·have e1:rTake l A 0 n = ([],l.length,10):=by rw [rTake,if_neg (by omega),if_pos hend]
   rw [e1]
   exact ⟨v1,g1,he,hr1,hg1,⟨_,_,_,_,hb1,hrd1,hne,hA,.inr ⟨by simp,rfl,rfl,rfl⟩⟩,hk1⟩
  ·have e1:rTake l A 0 n = ((l.drop A).take n.toNat,A + n.toNat,0):=by
    by_cases hz:n = 0
    ·subst hz; rw [rTake,if_pos (by omega)]; simp
    ·rw [rTake,if_neg (by omega),if_neg (by omega)]
   rw [e1]
   exact ⟨v1,g1,he,hr1,hg1,⟨_,_,_,_,hb1,hrd1,hne,by omega,.inl ⟨rfl,rfl,rfl⟩⟩,hk1⟩
 ·rcases hcase with ⟨hc,rfl,hb1⟩ | ⟨hc,_⟩ | ⟨hc,_⟩
  ·have e1:rTake l Z Y n = ([],Z,Y):=by rw [rTake,if_pos (Or.inl h0)]
   rw [e1]
   exact ⟨v1,g1,he,hr1,hg1,⟨_,_,_,_,hb1,hrd1,hne,hA,.inr ⟨h0,rfl,rfl,rfl⟩⟩,hk1⟩
  ·simp at hc
  ·simp at hc
def QTextE (w:World) (b b0:Nat) (bv:Value) (l:List Nat) (T:List Nat × Nat × Nat) (e:Ending) (w':World):Prop :=
 e = .returned (.string (toStr T.1)) ∧ QIs w' b b0 bv l T.2.1 T.2.2 ∧ Kept (fun k=>k = b) w w'
set_option maxHeartbeats 800000 in
set_option maxRecDepth 1000000 in
theorem qtext (most : Int) (b b0 : Nat) (bv : Value) (l : List Nat) (p why : Nat) (w : World) (h0 : -9223372036854775808 ≤ most) (h1 : most < 9223372036854775808) (hl : l.length ≤ 140737488351232) (h256 : ∀ x ∈ l, x < 256) (hp : p ≤ l.length) (hq : QIs w b b0 bv l p why) (hcap : ∃ a m c, bv = .slice a m c ∧ m ≤ c ∧ c ≤ maxLen) (R : Nat × Nat × Nat) (HR : Hid (R = rNum l p why most.toNat)) :
  Calls Tryz.prog 58 #[.pointer (some ⟨b,0,none⟩),.int .i64 most] w (QTextE w b b0 bv l (rTake l R.2.1 R.2.2 R.1)):=by
 have hcall:=qnumber b b0 bv l p why most.toNat w hl h256 hp (by omega) hq hcap
 have hlt:=rNum_lt l p why most.toNat
 have hmost:=rNum_most l p why most.toNat
 have hple:=rNum_le l p why most.toNat hp
 rw [← HR.out] at hcall hlt hmost hple
 obtain ⟨n,p',why'⟩:=R
 simp only at hlt hmost hple
 have hn0:n < 9223372036854775808:=by omega
 obtain ⟨T,HT⟩:∃ T,Hid (T = rTake l p' why' n):=⟨_,rfl⟩
 have hraw:∀ u,QIs u b b0 bv l p' why' → Calls Tryz.prog 62 #[.pointer (some ⟨b,0,none⟩),.int .i64 n] u (QTakeE u b b0 bv l T):=by
  intro u hu
  rw [HT.out]
  exact qraw n b b0 bv l p' why' u (by omega) hl hple hu hcap
 show Calls Tryz.prog 58 #[.pointer (some ⟨b,0,none⟩),.int .i64 most] w (QTextE w b b0 bv l (rTake l p' why' n))
 rw [← HT.out]
 clear hmost HR
 by_cases hm:most < 0
 ·have e:((most.toNat:Nat):Int) = 0:=by omega
  rw [e] at hcall
  clear e
  go_enter Tryz.func58,Tryz.ntmps58
  go_wp2_with fail
  refine hcall.mono ?_
  rintro e w1 ⟨rfl,k1,k2⟩
  go_wp2_with fail
  refine (hraw _ k1).mono ?_
  rintro e w2 ⟨v2,g2,rfl,j1,_,j2,j3⟩
  have hcv:=j1.rd.string
  obtain ⟨a2,n2,c2,hv2⟩:=j1.rd.shape3'
  subst hv2
  go_wp2
  go_ret
  exact ⟨rfl,j2,k2.trans j3 (fun _ _ h=>h) (fun _ _ h=>h)⟩
 ·have e:((most.toNat:Nat):Int) = most:=by omega
  rw [e] at hcall
  have hm':0 ≤ most:=by omega
  clear e hm
  go_enter Tryz.func58,Tryz.ntmps58
  go_wp2_with fail
  refine hcall.mono ?_
  rintro e w1 ⟨rfl,k1,k2⟩
  go_wp2_with fail
  refine (hraw _ k1).mono ?_
  rintro e w2 ⟨v2,g2,rfl,j1,_,j2,j3⟩
  have hcv:=j1.rd.string
  obtain ⟨a2,n2,c2,hv2⟩:=j1.rd.shape3'
  subst hv2
  go_wp2
  go_ret
  exact ⟨rfl,j2,k2.trans j3 (fun _ _ h=>h) (fun _ _ h=>h)⟩
set_option maxHeartbeats 800000 in
theorem qend (b b0 : Nat) (bv : Value) (l : List Nat) (p why : Nat) (w : World) (_hl : l.length ≤ 140737488351232) (hq : QIs w b b0 bv l p why) :
  Calls Tryz.prog 63 #[.pointer (some ⟨b,0,none⟩)] w fun e w'=>e = .returned (.tuple #[.int .i64 (rEnd l p why).1,.int .i64 (rEnd l p why).2]) ∧ Kept (fun _=>False) w w':=by
 obtain ⟨A,r,Y,Z,hb,hrd,hne,hA,hst⟩:=hq
 obtain ⟨c0,c1,c2,c3,c4,hf⟩:=qcells hb
 obtain ⟨a,c,hsh⟩:=hrd.shape
 subst hsh
 rcases hst with ⟨rfl,rfl,rfl⟩ | ⟨h0,rfl,rfl,rfl⟩
 ·by_cases h1:A < l.length
  ·have HE:Hid (rEnd l A 0 = (11,A)):=by simp [Hid,rEnd,h1]
   go_enter Tryz.func63,Tryz.ntmps63
   go_wp2
   go_quiet (fail)
   go_wp2
   go_quiet (fail)
   go_wp2
   go_ret2
   rw [HE.out]
   exact ⟨rfl,((kept_drewN _ _).trans (kept_drewN _ _) (fun _ _ h=>h) (fun _ _ h=>h))⟩
  ·have HE:Hid (rEnd l A 0 = (0,0)):=by simp [Hid,rEnd,h1]
   go_enter Tryz.func63,Tryz.ntmps63
   go_wp2
   go_quiet (fail)
   go_wp2
   go_ret2
   rw [HE.out]
   exact ⟨rfl,kept_drewN _ _⟩
 ·have HE:Hid (rEnd l Z Y = (Y,Z)):=by simp [Hid,rEnd,h0]
  go_enter Tryz.func63,Tryz.ntmps63
  go_wp2
  go_quiet (fail)
  go_wp2
  go_ret2
  rw [HE.out]
  exact ⟨rfl,kept_drewN _ _⟩
end Go.Proofs.YtiiepfplommmfaaGreatDoor.Wire

namespace Go.Proofs.YtiiepfplommmfaaGreatDoor
open Go.RowKit

def QTxtE (l:List Nat) (most p y b b0:Nat) (bv:Value) (w:World) (e:Ending) (w':World):Prop:=e = .returned (.string (str (txtR l most p y).1)) ∧ Wire.QIs w' b b0 bv l (txtR l most p y).2.1 (txtR l most p y).2.2 ∧ Wire.Kept (fun k=>k = b) w w'
theorem qtxt (most b b0 : Nat) (bv : Value) (l : List Nat) (p y : Nat) (w : World) (hm : most ≤ 65535) (hl : l.length ≤ 140737488351232) (h256 : ∀ x ∈ l, x < 256) (hp : p ≤ l.length) (hq : Wire.QIs w b b0 bv l p y) (hcap : ∃ a m c, bv = .slice a m c ∧ m ≤ c ∧ c ≤ maxLen) :
  Calls Tryz.prog 58 #[.pointer (some ⟨b,0,none⟩),.int .i64 (most:Int)] w (QTxtE l most p y b b0 bv w):=by
 refine (Wire.qtext (most:Int) b b0 bv l p y w (by omega) (by omega) hl h256 hp hq hcap (Wire.rNum l p y most) (by rw [hid_iff,Int.toNat_natCast])).mono ?_
 rintro e w' ⟨rfl,h1,h2⟩
 exact ⟨by rw [Wire.toStr_eq]; rfl,h1,h2⟩
theorem qflag {w:World} {b b0:Nat} {bv:Value} {l:List Nat} {p y:Nat} (h:Wire.QIs w b b0 bv l p y):∃ fl,w.cell? ⟨b,2,none⟩ = some (.bool fl) ∧ (fl = true ↔ y ≠ 0):=by
 obtain ⟨A,r,Y,Z,h1,h2,h3,h4,h5⟩:=h
 obtain ⟨c0,c1,c2,_⟩:=Wire.qcells h1
 refine ⟨r,c2,?_⟩
 rcases h5 with ⟨rfl,rfl,_⟩ | ⟨h,rfl,_⟩
 ·simp
 ·simp [h]
theorem step_textM {w : World} {ops : Array Oper} {o : Oper} {a : Act} {K : Act → World → Prop} {Q : Exit → Act → World → Prop} {E : Prop} (hgd : o.guard = none) (s x : Operand)
  (ho:o.op = .call { callee := .builtin .append,args:=#[s,x],argTypes:=#[23,23] })
  (B:Nat) (v:Value) (ks:List (List UInt8)) (hs:a.eval s = v) (hown:w.ownsRow B 9 1 v ks.length (sc ks)) (n:List UInt8) (ad:Addr) (cp:Nat) (hx:a.eval x = .slice (some ad) 1 cp)
  (hnews:∀ j u,([.string (str n)]:List Value)[j]? = some u → w.cell? (ad.add j) = some u) (hlen:ks.length + 1 ≤ 100000) (hB:B ≤ w.heap.size)
  (h:∀ g cap w',w'.ownsRow B 9 1 (.slice (some ⟨g,0,none⟩) (ks.length + 1) cap) (ks ++ [n]).length (sc (ks ++ [n])) → w.grownBy w' v.ownBlock → K (a.put o.dst (.slice (some ⟨g,0,none⟩) (ks.length + 1) cap)) w') :
  if Region.wanted o (yielded ops a.tmps) = true then Oper.wp Tryz.prog o a w K Q else E:=by
 obtain ⟨i,z,hi,hz,h1,h2,h3⟩:=info_z infoS
 refine step_append_lies w hgd s x 23 ho B 9 i z 1 16 Tryz.underlying23 hi hz h1 h2 h3 (by decide) v _ (sc ks) hs hown ad 1 cp [.string (str n)] hx rfl hnews (fun u hu=>?_) (by decide) (by unfold maxLen; omega) (by omega) hB w.heap.size rfl ?_
 ·simp only [List.mem_cons,List.not_mem_nil,or_false] at hu
  subst hu
  rfl
 ·intro g cap w' q1 q2 q3 q4
  refine h g cap w' ?_ q2
  have e:sc (ks ++ [n]) = sc ks ++ [.string (str n)]:=by simp [sc]
  rw [e]
  simpa using q1
theorem field_put {w2 wr w5 w7 : World} {b b0 cb : Nat} {bv : Value} {l : List Nat} {p y : Nat} {nm : List UInt8} {fv : Value} {fs : List (List UInt8)} {x : List UInt8} {o : Obj} {g cap : Nat} (hb : b < cb) (hcb : cb = w2.heap.size) (hg : b0 < cb ∨ l = [])
  (hC:wr.heap[cb]? = some (.cells #[.string (str nm),fv] 203 (0,0))) (hown:wr.ownsRow (cb + 1) 9 1 fv fs.length (sc fs)) (K0:Wire.Kept (fun k=>k = b) w2 wr) (K5:Wire.Kept (fun k=>k = b) wr w5) (hq:Wire.QIs w5 b b0 bv l p y)
  (ho:w7.ownsRow (cb + 1) 9 1 (.slice (some ⟨g,0,none⟩) (fs.length + 1) cap) (fs ++ [x]).length (sc (fs ++ [x]))) (hg7:(w5.alloc o).grownBy w7 fv.ownBlock) :
  w7.cell? ⟨cb,1,none⟩ = some fv ∧ w7.frozen? ⟨cb,1,none⟩ = false ∧ Wire.QIs (w7.setCell ⟨cb,1,none⟩ (.slice (some ⟨g,0,none⟩) (fs.length + 1) cap)) b b0 bv l p y ∧
   (w7.setCell ⟨cb,1,none⟩ (.slice (some ⟨g,0,none⟩) (fs.length + 1) cap)).heap[cb]? = some (.cells #[.string (str nm),.slice (some ⟨g,0,none⟩) (fs.length + 1) cap] 203 (0,0)) ∧
   (w7.setCell ⟨cb,1,none⟩ (.slice (some ⟨g,0,none⟩) (fs.length + 1) cap)).ownsRow (cb + 1) 9 1 (.slice (some ⟨g,0,none⟩) (fs.length + 1) cap) (fs ++ [x]).length (sc (fs ++ [x])) ∧
   Wire.Kept (fun k=>k = b) w2 (w7.setCell ⟨cb,1,none⟩ (.slice (some ⟨g,0,none⟩) (fs.length + 1) cap)):=by
 have hcl:cb < wr.heap.size:=(Array.getElem?_eq_some_iff.1 hC).1
 have hob:∀ z,fv.ownBlock = some z → cb + 1 ≤ z:=fun z hz=>(owns_block hown hz).1
 have K7:=(wkept_alloc w5 o).trans (U:=fun z=>fv.ownBlock = some z) (wkept_grown hg7) (fun _ _ h=>h.elim) (fun _ _ h=>h)
 have hC5:=(K5.block cb hcl (by omega)).trans hC
 have hC7:=(K7.block cb (Nat.lt_of_lt_of_le hcl K5.size) (fun h=>by have:=hob _ h; omega)).trans hC5
 have hq7:=hq.kept K7 (fun h=>by have:=hob _ h; omega) (fun h=>hg.resolve_left (fun e=>by have:=hob _ h; omega))
 have K8:=Wire.kept_set w7 cb 1 (.slice (some ⟨g,0,none⟩) (fs.length + 1) cap)
 refine ⟨by rw [cell_of_row _ _ 1 _ _ _ hC7]; rfl,frozen_of_row w7 cb 1 _ _ hC7,hq7.kept K8 (by omega) (fun h=>hg.resolve_left (fun e=>by omega)),by simpa using heap_setCell_same w7 cb 1 _ _ (.slice (some ⟨g,0,none⟩) (fs.length + 1) cap) hC7,owns_wkept ho K8 (fun z hz e=>by omega),?_⟩
 exact ((K0.trans K5 (U:=fun k=>k = b) (fun _ _ h=>h) (fun _ _ h=>h)).trans K7 (U:=fun k=>k = b) (fun _ _ h=>h) (fun z hz h=>by have:=hob _ h; omega)).trans K8 (U:=fun k=>k = b) (fun _ _ h=>h) (fun z hz h=>by omega)
end Go.Proofs.YtiiepfplommmfaaGreatDoor

namespace Go.Proofs.YtiiepfplommmfaaGreatDoor
open Go.RowKit

theorem wrapM (n:Nat) (h:n ≤ 1000000000):IntKind.u64.wrap ((n:Nat):Int) = (n:Int):=by simp [IntKind.wrap,IntKind.bits,IntKind.signed]; omega
def RCasesE (RES:List Cs × Nat × Nat) (l:List Nat) (b b0:Nat) (bv:Value) (w:World) (e:Ending) (w':World):Prop:=∃ v,e = .returned v ∧ CsR (Fr w w') w' v RES.1 ∧ RES.1.length ≤ 65535 ∧ Wire.QIs w' b b0 bv l RES.2.1 RES.2.2 ∧ Wire.Kept (fun x=>x = b) w w'
set_option maxHeartbeats 2000000 in
set_option maxRecDepth 1000000 in
theorem refReadCases (b b0 : Nat) (bv : Value) (l : List Nat) (p y : Nat) (w : World) (hl : l.length ≤ 140737488351232) (h256 : ∀ x ∈ l, x < 256) (hp : p ≤ l.length) (hq : Wire.QIs w b b0 bv l p y) (hg0 : b0 < w.heap.size ∨ l = []) (hcap : ∃ a m c, bv = .slice a m c ∧ m ≤ c ∧ c ≤ maxLen) :
  Calls Tryz.prog 125 #[.pointer (some ⟨b,0,none⟩),.int .i64 24,.int .i64 200] w (RCasesE (refL l (caseQ l) p y) l b b0 bv w):=by
 have hbl:=hq.lt
 have hnum:=Wire.qnumber b b0 bv l p y 65535 w hl h256 hp (by decide) hq hcap
 have hN:=Wire.rNum_most l p y 65535
 have hp1:=Wire.rNum_le l p y 65535 hp
 have HL:Hid (refL l (caseQ l) p y = refF (caseQ l) (Wire.rNum l p y 65535).1 (Wire.rNum l p y 65535).2.1 (Wire.rNum l p y 65535).2.2 []):=rfl
 have Hcap:=hidden hcap
 have HG:=hidden hg0
 clear hcap hg0
 unfold Wire.QNumE at hnum
 generalize Wire.rNum l p y 65535 = R at *
 obtain ⟨N,p1,y1⟩:=R
 simp only at hnum hN hp1 HL
 generalize refL l (caseQ l) p y = RES at *
 go_enter Tryz.func125,Tryz.ntmps125
 go_wp2_with fail
 refine hnum.mono ?_
 rintro e w1 ⟨rfl,hq1,K1⟩
 clear hnum
 go_wp2
 go_loopg [7,8] N (fun gk lv i wr=>∃ (k pk yk:Nat) (acc:List Cs),gk = k ∧ i = .int .u64 (k:Int) ∧ Hid (RES = refF (caseQ l) k pk yk acc) ∧ Hid (acc.length + k ≤ 65535) ∧ pk ≤ l.length ∧ Wire.QIs wr b b0 bv l pk yk ∧ CsI w.heap.size wr lv acc ∧ Wire.Kept (fun x=>x = b) w wr)
 case atStart=>exact ⟨N,p1,y1,[],rfl,rfl,HL,by simpa [Hid] using hN,hp1,hq1,CsI.nil _ _,K1⟩
 case round =>
  obtain ⟨k,pk,yk,acc,hgk0,rfl,hR,hak,hpk,hqr,hrow,Kr⟩:=hrel
  rename World=>wo
  have hsr:=Kr.size
  obtain ⟨fl,hfl,hfy⟩:=qflag hqr
  by_cases hgo:0 < k ∧ yk = 0
  ·obtain ⟨hk,rfl⟩:=hgo
   have hff:fl = false:=by simpa using hfy
   subst hff
   clear hfy
   have hki:(0:Int) < (k:Int):=by omega
   have hkle:k ≤ 65535:=by have:=hak.out; omega
   have hwk:IntKind.u64.wrap ((k:Int) - 1) = ((k - 1:Nat):Int):=by rw [show (k:Int) - 1 = ((k - 1:Nat):Int) by omega]; exact wrapM (k - 1) (by omega)
   have htx:=qtxt 24 b b0 bv l pk 0 wo (by decide) hl h256 hpk hqr Hcap.out
   have hst:=refF_go (caseQ l) k pk acc hk
   have HC:Hid (caseQ l pk 0 = (((txtR l 24 pk 0).1,(refL l (txtR l 200) (txtR l 24 pk 0).2.1 (txtR l 24 pk 0).2.2).1),(refL l (txtR l 200) (txtR l 24 pk 0).2.1 (txtR l 24 pk 0).2.2).2)):=rfl
   have hple:=txt_le l 24 pk 0 hpk
   unfold QTxtE at htx
   generalize txtR l 24 pk 0 = X at *
   obtain ⟨nm,px,yx⟩:=X
   simp only at htx hple HC
   have hfp:=refL_le (txt_le l 200) px yx hple
   have HF:Hid (refL l (txtR l 200) px yx = refF (txtR l 200) (Wire.rNum l px yx 65535).1 (Wire.rNum l px yx 65535).2.1 (Wire.rNum l px yx 65535).2.2 []):=rfl
   have hN2:=Wire.rNum_most l px yx 65535
   have hp2:=Wire.rNum_le l px yx 65535 hple
   have hnu:∀ u,Wire.QIs u b b0 bv l px yx → Calls Tryz.prog 124 #[.pointer (some ⟨b,0,none⟩),.int .u64 65535] u (Wire.QNumE u b b0 bv l (Wire.rNum l px yx 65535)):=fun u hu=>Wire.qnumber b b0 bv l px yx 65535 u hl h256 hple (by decide) hu Hcap.out
   generalize Wire.rNum l px yx 65535 = R2 at *
   obtain ⟨N2,p2,y2⟩:=R2
   simp only at hN2 hp2 HF
   unfold Wire.QNumE at hnu
   simp only at hnu
   generalize refL l (txtR l 200) px yx = FR at *
   rw [HC.out] at hst
   simp only at hst
   have HE0:Hid (RES = refF (caseQ l) (k - 1) FR.2.1 FR.2.2 (acc ++ [(nm,FR.1)])):=by rw [hid_iff,hR.out,hst]
   clear hst HC hR
   obtain ⟨la,lc,hlv⟩:=hrow.shape
   subst hlv
   have HRow:=hidden hrow
   clear hrow
   go_wp2_with fail
   refine htx.mono ?_
   rintro e w2 ⟨rfl,hq2,K2⟩
   have hs2:=K2.size
   have hq3:=hq2.kept (wkept_alloc w2 (.cells #[.string (str nm),.slice none 0 0] 203)) (fun h=>h) (fun h=>h.elim)
   have hC3:=World.alloc_heap_new w2 (.cells #[.string (str nm),.slice none 0 0] 203)
   have K3:=wkept_alloc w2 (.cells #[.string (str nm),.slice none 0 0] 203)
   have hz3:w2.heap.size < (w2.alloc (.cells #[.string (str nm),.slice none 0 0] 203)).heap.size:=by simp
   clear htx hfl hqr
   go_wp2_with fail
   generalize w2.alloc (.cells #[.string (str nm),.slice none 0 0] 203) = w3 at *
   refine (hnu w3 hq3).mono ?_
   rintro e w4 ⟨rfl,hq4,K4⟩
   have hC4:=(K4.block w2.heap.size hz3 (by omega)).trans hC3
   have K4':Wire.Kept (fun x=>x = b) w2 w4:=K3.trans K4 (fun _ _ h=>h.elim) (fun _ _ h=>h)
   clear hnu hC3 K3 K4 hq3
   go_wp2
   go_loopg [10] N2 (fun gj i wr=>∃ (j pj yj:Nat) (fs:List (List UInt8)) (fv:Value),gj = j ∧ i = .int .u64 (j:Int) ∧ Hid (FR = refF (txtR l 200) j pj yj fs) ∧ Hid (fs.length + j ≤ 65535) ∧ pj ≤ l.length ∧ Wire.QIs wr b b0 bv l pj yj ∧ wr.heap[w2.heap.size]? = some (.cells #[.string (str nm),fv] 203 (0,0)) ∧ wr.ownsRow (w2.heap.size + 1) 9 1 fv fs.length (sc fs) ∧ Wire.Kept (fun x=>x = b) w2 wr)
   case atStart=>exact ⟨N2,p2,y2,[],_,rfl,rfl,HF,by simpa [Hid] using hN2,hp2,hq4,hC4,World.ownsRow_nil _ _ _ _,K4'⟩
   case round =>
    obtain ⟨j,pj,yj,fs,fv,hgj0,rfl,hR2,haj,hpj,hqj,hCj,hown,Kj⟩:=hrel
    rename World=>wj
    have hsj:=Kj.size
    obtain ⟨fj,hfj,hfz⟩:=qflag hqj
    by_cases hgj:0 < j ∧ yj = 0
    ·obtain ⟨hj,rfl⟩:=hgj
     have hjf:fj = false:=by simpa using hfz
     subst hjf
     clear hfz
     have hji:(0:Int) < (j:Int):=by omega
     have hjle:j ≤ 65535:=by have:=haj.out; omega
     have hwj:IntKind.u64.wrap ((j:Int) - 1) = ((j - 1:Nat):Int):=by rw [show (j:Int) - 1 = ((j - 1:Nat):Int) by omega]; exact wrapM (j - 1) (by omega)
     have htx:∀ u,Below wj.heap.size wj u → Calls Tryz.prog 58 #[.pointer (some ⟨b,0,none⟩),.int .i64 200] u (QTxtE l 200 pj 0 b b0 bv u):=fun u hu=>qtxt 200 b b0 bv l pj 0 u (by decide) hl h256 hpj (hqj.kept (wkept_below hu) (fun h=>h) (fun h=>h.elim)) Hcap.out
     have hst:=refF_go (txtR l 200) j pj fs hj
     have hple2:=txt_le l 200 pj 0 hpj
     unfold QTxtE at htx
     generalize txtR l 200 pj 0 = X2 at *
     obtain ⟨x,qx,zx⟩:=X2
     simp only at htx hple2 hst
     have HE2:Hid (FR = refF (txtR l 200) (j - 1) qx zx (fs ++ [x])):=by rw [hid_iff,hR2.out,hst]
     clear hst hR2
     obtain ⟨fa,fc,rfl⟩:∃ fa fc,fv = .slice fa fs.length fc:=by
      rcases hown.2 with ⟨rfl,hz⟩ | ⟨g,cap,cur,rfl,_⟩
      ·exact ⟨none,0,by rw [hz]⟩
      ·exact ⟨_,_,rfl⟩
     have c1:wj.cell? ⟨w2.heap.size,1,none⟩ = some (.slice fa fs.length fc):=by rw [cell_of_row _ _ 1 _ _ _ hCj]; rfl
     have G0:Below wj.heap.size wj wj.drew:=(Below.refl _ _).drew
     have hSl:fs.length + 1 ≤ 100000:=by have:=haj.out; omega
     have hcl:w2.heap.size < wj.heap.size:=(Array.getElem?_eq_some_iff.1 hCj).1
     have hfin:=fun (w5 w7:World) (g cap:Nat) (o:Obj) K5 hq5 ho hg7=>field_put (w2:=w2) (wr:=wj) (w5:=w5) (w7:=w7) (b:=b) (b0:=b0) (bv:=bv) (l:=l) (p:=qx) (y:=zx) (x:=x) (o:=o) (g:=g) (cap:=cap) (show b < w2.heap.size by omega) rfl (HG.out.imp_left (fun e=>by omega)) hCj hown Kj K5 hq5 ho hg7
     have hO5:∀ u,Wire.Kept (fun k=>k = b) wj u → u.ownsRow (w2.heap.size + 1) 9 1 (.slice fa fs.length fc) fs.length (sc fs):=fun u hu=>owns_wkept hown hu (fun z hz e=>by omega)
     have hc5:∀ u,Wire.Kept (fun k=>k = b) wj u → u.cell? ⟨w2.heap.size,1,none⟩ = some (.slice fa fs.length fc):=fun u hu=>by rw [cell_of_row _ _ 1 _ _ _ ((hu.block w2.heap.size hcl (by omega)).trans hCj)]; rfl
     clear hown hCj Kj HRow HE0 hpj
     go_wp2_with fail
     go_region_law (first
      | (refine step_textM (by rfl) (.tmp 42) (.tmp 46) (by rfl) (w2.heap.size + 1) _ fs (by rfl) (hO6.alloc _) x _ 1 (by rfl) (cells_new _ _ _) hSl hB5 ?_; intro g7 cap7 w7 ho7 hg7; obtain ⟨c7,f7,hq8,hC8,ho8,K8⟩:=hfin w5 w7 g7 cap7 _ K5' hq5 ho7 hg7)
      | (go_simp; go_at_call 58; refine (htx _ (by assumption)).mono ?_; rintro e w5 ⟨rfl,hq5,K5⟩; have K5':Wire.Kept (fun k=>k = b) wj w5:=(wkept_below G0).trans K5 (fun _ _ h=>h.elim) (fun _ _ h=>h); have c5:=hc5 _ K5'; have c6:=hc5 _ (K5'.trans (wkept_alloc w5 (.cells #[.string (str x)] 9)) (fun _ _ h=>h) (fun _ _ h=>h.elim)); have hO6:=hO5 _ K5'; have hB5:w2.heap.size + 1 ≤ (w5.alloc (.cells #[.string (str x)] 9)).heap.size:=by (have:=K5'.size; simp; omega)))
     all_goals (
      clear hfin hO5 hc5 htx c1 c5 c6 c7 f7 hO6 hB5 ho7 hg7 K5 K5' hq5 hfj hqj
      go_wp2
      go_roundg (j - 1)
      case measure=>omega
      case rel=>exact ⟨j - 1,qx,zx,fs ++ [x],_,rfl,by first | rfl | rw [hwj] | go_num,HE2,by (have:=haj.out; rw [hid_iff,List.length_append,List.length_singleton]; omega),hple2,hq8,hC8,ho8,K8⟩)
    ·have hor:j = 0 ∨ (0 < j ∧ fj = true):=by
      rcases Nat.eq_zero_or_pos j with h | h
      ·exact .inl h
      ·exact .inr ⟨h,hfz.2 (fun e=>hgj ⟨h,e⟩)⟩
     have HEF:FR = (fs,pj,yj):=by
      rw [hR2.out]
      refine refF_stop _ _ _ _ _ ?_
      rcases hor with h | h
      ·exact .inl h
      ·exact .inr (hfz.1 h.2)
     subst HEF
     simp only at HE0
     clear hfz hgj hR2 HF hfp
     obtain ⟨fa,fc,rfl⟩:∃ fa fc,fv = .slice fa fs.length fc:=by
      rcases hown.2 with ⟨rfl,hz⟩ | ⟨g,cap,cur,rfl,_⟩
      ·exact ⟨none,0,by rw [hz]⟩
      ·exact ⟨_,_,rfl⟩
     have n0:wj.cell? ⟨w2.heap.size,0,none⟩ = some (.string (str nm)):=by rw [cell_of_row _ _ 0 _ _ _ hCj]; rfl
     have n1:wj.cell? ⟨w2.heap.size,1,none⟩ = some (.slice fa fs.length fc):=by rw [cell_of_row _ _ 1 _ _ _ hCj]; rfl
     have hT:TxR (fun z=>w.heap.size ≤ z ∧ z < wj.heap.size ∧ some z ≠ (Value.slice la acc.length lc).ownBlock) wj (.slice fa fs.length fc) fs:=(tx_own hown).frame fun z hz=>by
      have h1:=hz.1
      exact ⟨⟨by omega,hz.2,fun e=>by have:=(HRow.out.block e.symm).2; omega⟩,rfl⟩
     have K2j:Wire.Kept (fun x=>x = b) wo wj:=K2.trans Kj (fun _ _ h=>h) (fun _ _ h=>h)
     have hI:=HRow.out.wkept K2j (fun z hz e=>by omega)
     have Kw:Wire.Kept (fun x=>x = b) w wj:=Kr.trans K2j (fun _ _ h=>h) (fun _ _ h=>h)
     have hob0:∀ z,(Value.slice la acc.length lc).ownBlock = some z → w.heap.size ≤ z:=fun z hz=>(hI.block hz).1
     have hal:acc.length ≤ 65535:=by have:=hak.out; omega
     have hsw:=Kw.size
     clear hown hCj Kj K2j K2 Kr HRow hq2 hq4 K4' hC4
     rcases hor with rfl | ⟨hj,rfl⟩
     all_goals (
      try have hji:(0:Int) < (j:Int):=by omega
      go_wp2_with (at_builtin; refine append_case rfl (.tmp 49) (.tmp 51) rfl w.heap.size _ acc rfl (hI.wkept (wkept_alloc _ _) (fun _ _ h=>h)) (nm,fs) (.slice fa fs.length fc) _ _ rfl (cells_new _ _ _) ?hT ?len ?hB ?next)
      case hT=>exact hT.frame fun z hz=>⟨⟨hz.1,by have:=hz.2.1; simp; omega,hz.2.2⟩,Below.heap_alloc _ _ _ hz.2.1⟩
      case len=>omega
      case hB=>first | omega | (simp; omega)
      case next =>
       intro gq cap w5 j1 j2
       have K5:=((wkept_alloc wj (.cells #[.string (str nm),.slice fa fs.length fc] 203)).trans (U:=fun z=>(Value.slice la acc.length lc).ownBlock = some z) (wkept_grown j2) (fun _ _ h=>h.elim) (fun _ _ h=>h))
       have hq5:=hqj.kept K5 (fun h=>by have:=hob0 _ h; omega) (fun h=>HG.out.resolve_left (fun e=>by have:=hob0 _ h; omega))
       have K5':Wire.Kept (fun x=>x = b) w w5:=Kw.trans K5 (fun _ _ h=>h) (fun z hz h=>absurd (hob0 z h) (by omega))
       clear K5 Kw j2 hI hT
       go_wp2
       go_roundg (k - 1)
       case measure=>omega
       case rel=>exact ⟨k - 1,pj,yj,acc ++ [(nm,fs)],rfl,by first | rfl | rw [hwk] | go_num,HE0,by (have:=hak.out; rw [hid_iff,List.length_append,List.length_singleton]; omega),hpj,hq5,j1,K5'⟩)
  ·have hor:k = 0 ∨ (0 < k ∧ fl = true):=by
    rcases Nat.eq_zero_or_pos k with h | h
    ·exact .inl h
    ·exact .inr ⟨h,hfy.2 (fun e=>hgo ⟨h,e⟩)⟩
   have HE:RES = (acc,pk,yk):=by
    rw [hR.out]
    refine refF_stop _ _ _ _ _ ?_
    rcases hor with h | h
    ·exact .inl h
    ·exact .inr (hfy.1 h.2)
   subst HE
   clear hR hfy hgo HL
   obtain ⟨la,lc,hlv⟩:=hrow.shape
   subst hlv
   have hal:acc.length ≤ 65535:=by have:=hak.out; omega
   rcases hor with rfl | ⟨hk,rfl⟩
   all_goals (
    try have hki:(0:Int) < (k:Int):=by omega
    go_wp2
    go_ret
    exact ⟨_,rfl,hrow.row,hal,hqr,Kr⟩)
end Go.Proofs.YtiiepfplommmfaaGreatDoor

namespace Go.Proofs.YtiiepfplommmfaaGreatDoor
open Go.RowKit

end Go.Proofs.YtiiepfplommmfaaGreatDoor

namespace Go.Proofs.YtiiepfplommmfaaGreatDoor
open Go.RowKit

end Go.Proofs.YtiiepfplommmfaaGreatDoor
