/-
  The document's own reader of functions' types: its walk.
  And: The document's own reader of types: its walk. The document's own Right, kind, Elem, Named, Func, Dotted, short: their walks. The document's own Parts: its walk.
-/
import Derived.Deep.LoopGhost
import Derived.Deep.Cut
import Derived.Deep.CutRange
import Derived.Test.YtiiepfplommmfaaGreatDoorG14
import Derived.Test.YtiiepfplommmfaaGreatDoorG03
namespace Go.Proofs.YtiiepfplommmfaaGreatDoor
open Go.RowKit

set_option maxHeartbeats 4000000 in
set_option maxRecDepth 1000000 in
theorem refFun (s:ByteArray) (w:World) (hs:s.size ≤ 200) (h0:0 < s.size) (IH:OneAll s.size):Calls Tryz.prog 181 #[.string s] w (Pu (.int .i64 (funN s.data.toList:Int)) w):=by
 go_enter Tryz.func181,Tryz.ntmps181
 go_wp2
 go_loopg [3,4] (s.size - 1) (fun g n c wr=>∃ (p k:Nat),g + p = s.size ∧ n = .int .i64 (p:Int) ∧ c = .int .i64 (k:Int) ∧ 1 ≤ p ∧ k < p ∧ Hid (fnHd k (s.data.toList.drop p) = fnHd 0 (s.data.toList.drop 1)) ∧ wr = w)
 case atStart=>exact ⟨1,0,by omega,rfl,rfl,by omega,by omega,rfl,rfl⟩
 case round =>
  obtain ⟨p,k,hg,rfl,rfl,hp1,hkp,HQ,rfl⟩:=hrel
  by_cases hp:p < s.size
  ·have hpi:(p:Int) < (s.size:Int):=by omega
   have hpl:(p:Int) ≤ (s.size:Int):=by omega
   have hd:=drop_at s p hp
   by_cases hA:k = 0 ∧ s[p].toNat = 41
   ·obtain ⟨rfl,c41⟩:=hA
    have c41':((s[p].toNat:Int) == 41) = true:=by rw [beq_iff_eq]; omega
    have c41n:((s[p].toNat:Int) != 41) = false:=by rw [bne_eq_false_iff_eq]; omega
    have HT:Hid (fnHd 0 (s.data.toList.drop 1) = rOne (s.data.toList.drop (p + 1))):=by
     rw [hid_iff, ← HQ.out,hd,fnHd,if_pos ⟨rfl,by rw [isHead_cons]; exact decide_eq_true c41⟩]
     rfl
    clear HQ hd c41
    have h2:=oneAt IH (p + 1) (by omega) (by omega) h0
    have hq1:(p:Int) + 1 ≤ (s.size:Int):=by omega
    cases hr2:rOne (s.data.toList.drop (p + 1)) with
    | none =>
     have HF:Hid (funN s.data.toList = 0):=by rw [hid_iff]; exact funN_none (by rw [HT.out,hr2])
     rw [oneN_none hr2] at h2
     clear HT hr2 IH
     go_wp2_with fail
     refine (h2 _).mono ?_
     rintro e w1 ⟨k7,rfl,rfl⟩
     go_wp2
     go_ret
     exact ⟨by rw [HF.out]; rfl,rfl⟩
    | some y =>
     obtain ⟨m1,m2,m3⟩:=oneN_some hr2
     rw [List.length_drop,size_len] at m2
     have HF:Hid (funN s.data.toList = p + 1 + oneN (s.data.toList.drop (p + 1))):=by
      rw [hid_iff]
      refine funN_at ?_ (by rw [size_len]; omega)
      rw [HT.out,hr2,m3,List.drop_drop]
     clear HT hr2 IH m3
     generalize oneN (s.data.toList.drop (p + 1)) = m7 at *
     have m1':((m7:Int) == 0) = false:=by rw [beq_eq_false_iff_ne]; omega
     go_wp2_with fail
     refine (h2 _).mono ?_
     rintro e w1 ⟨k7,rfl,rfl⟩
     go_wp2
     go_ret
     exact ⟨by rw [HF.out]; go_num,rfl⟩
   ·have hnh:¬ (k = 0 ∧ isHead 41 (s.data.toList.drop p) = true):=by
     rintro ⟨h1,h2⟩
     rw [hd,isHead_cons] at h2
     exact hA ⟨h1,of_decide_eq_true h2⟩
    have hfh:Hid (fnHd k (s.data.toList.drop p) = (rOne (s.data.toList.drop p)).bind (fun x=>(rTl k x).bind rOne)):=by rw [hid_iff,fnHd,if_neg hnh]
    have h1:=oneAt IH p (by omega) (by omega) h0
    have hcond:((s[p].toNat:Int) == 41) = false ∨ (((s[p].toNat:Int) == 41) = true ∧ ((k:Int) == 0) = false):=by
     by_cases c:s[p].toNat = 41
     ·exact .inr ⟨by rw [beq_iff_eq]; omega,by rw [beq_eq_false_iff_ne]; intro h; exact hA ⟨by omega,c⟩⟩
     ·exact .inl (by rw [beq_eq_false_iff_ne]; omega)
    clear hA
    go_upto_region 3 with fail
    go_cut [22] from 9 to 22 (fun c wx=>c = .bool false ∧ wx = wr)
    case first =>
     rcases hcond with c | ⟨c,c'⟩
     ·go_wp2_with fail
      go_meet
      exact ⟨rfl,rfl⟩
     ·go_wp2_with fail
      go_meet
      exact ⟨rfl,rfl⟩
    case rest =>
     obtain ⟨rfl,rfl⟩:=hcut
     clear hcond
     cases hr:rOne (s.data.toList.drop p) with
     | none =>
      have HF:Hid (funN s.data.toList = 0):=by rw [hid_iff]; exact funN_none (by rw [← HQ.out,hfh.out,hr]; rfl)
      rw [oneN_none hr] at h1
      clear HQ hfh hr IH hnh hd
      go_wp2_with fail
      refine (h1 _).mono ?_
      rintro e w1 ⟨k7,rfl,rfl⟩
      go_wp2
      go_ret
      exact ⟨by rw [HF.out]; rfl,rfl⟩
     | some x =>
      obtain ⟨m1,m2,m3⟩:=oneN_some hr
      rw [List.length_drop,size_len] at m2
      rw [List.drop_drop] at m3
      generalize oneN (s.data.toList.drop p) = m at *
      have m1':((m:Int) == 0) = false:=by rw [beq_eq_false_iff_ne]; omega
      have HX:Hid (fnHd 0 (s.data.toList.drop 1) = (rTl k x).bind rOne):=by rw [hid_iff, ← HQ.out,hfh.out,hr]; rfl
      by_cases hqs:p + m < s.size
      ·have hqi:(p:Int) + (m:Int) < (s.size:Int):=by omega
       have hdq:=drop_at s (p + m) hqs
       have hqn:¬ (s.size:Int) ≤ (p:Int) + (m:Int):=by omega
       by_cases c44:s[p + m].toNat = 44
       ·have c44':((s[p + m].toNat:Int) == 44) = true:=by rw [beq_iff_eq]; omega
        have HN:Hid (fnHd (k + 1) (s.data.toList.drop (p + m + 1)) = fnHd 0 (s.data.toList.drop 1)):=by
         rw [hid_iff, ← HQ.out]
         exact (fnHd_next hnh (by rw [hr,m3,hdq]) c44).symm
        clear HQ hfh hr IH hnh hd HX hdq m3 c44
        go_wp2_with fail
        refine (h1 _).mono ?_
        rintro e w1 ⟨k7,rfl,rfl⟩
        go_wp2
        go_roundg (s.size - (p + m + 1))
        case measure=>omega
        case rel=>exact ⟨p + m + 1,k + 1,by omega,by go_num,by go_num,by omega,by omega,HN,rfl⟩
       ·have c44':((s[p + m].toNat:Int) == 44) = false:=by rw [beq_eq_false_iff_ne]; omega
        by_cases c41:s[p + m].toNat = 41
        ·have c41':((s[p + m].toNat:Int) != 41) = false:=by rw [bne_eq_false_iff_eq]; omega
         by_cases h6:6 < k + 1
         ·have h6':(6:Int) < (k:Int) + 1:=by omega
          have HF:Hid (funN s.data.toList = 0):=by
           rw [hid_iff]
           refine funN_none ?_
           rw [HX.out,m3,hdq,rTl_bad k _ c44 (fun h=>by omega)]
           rfl
          clear HQ hfh hr IH hnh hd HX hdq m3 c44 c41
          go_wp2_with fail
          refine (h1 _).mono ?_
          rintro e w1 ⟨k7,rfl,rfl⟩
          go_wp2
          go_ret
          exact ⟨by rw [HF.out]; rfl,rfl⟩
         ·have h6':¬ (6:Int) < (k:Int) + 1:=by omega
          have HT:Hid (fnHd 0 (s.data.toList.drop 1) = rOne (s.data.toList.drop (p + m + 1))):=by
           rw [hid_iff,HX.out,m3,hdq,rTl_close k _ c41 (by omega)]
           rfl
          clear HQ hfh hr hnh hd HX hdq m3 c44 c41
          go_wp2_with fail
          refine (h1 _).mono ?_
          rintro e w1 ⟨k7',rfl,rfl⟩
          clear h1
          have h2:=oneAt IH (p + m + 1) (by omega) (by omega) h0
          have hq1:(p:Int) + (m:Int) + 1 ≤ (s.size:Int):=by omega
          cases hr2:rOne (s.data.toList.drop (p + m + 1)) with
          | none =>
           have HF:Hid (funN s.data.toList = 0):=by rw [hid_iff]; exact funN_none (by rw [HT.out,hr2])
           rw [oneN_none hr2] at h2
           clear HT hr2 IH
           go_wp2_with fail
           refine (h2 _).mono ?_
           rintro e w1 ⟨k7,rfl,rfl⟩
           go_wp2
           go_ret
           exact ⟨by rw [HF.out]; rfl,rfl⟩
          | some y =>
           obtain ⟨n1,n2,n3⟩:=oneN_some hr2
           rw [List.length_drop,size_len] at n2
           have HF:Hid (funN s.data.toList = p + m + 1 + oneN (s.data.toList.drop (p + m + 1))):=by
            rw [hid_iff]
            refine funN_at ?_ (by rw [size_len]; omega)
            rw [HT.out,hr2,n3,List.drop_drop]
           clear HT hr2 IH n3
           generalize oneN (s.data.toList.drop (p + m + 1)) = m7 at *
           have n1':((m7:Int) == 0) = false:=by rw [beq_eq_false_iff_ne]; omega
           go_wp2_with fail
           refine (h2 _).mono ?_
           rintro e w1 ⟨k7,rfl,rfl⟩
           go_wp2
           go_ret
           exact ⟨by rw [HF.out]; go_num,rfl⟩
        ·have c41':((s[p + m].toNat:Int) != 41) = true:=by rw [bne_iff_ne]; omega
         have HF:Hid (funN s.data.toList = 0):=by
          rw [hid_iff]
          refine funN_none ?_
          rw [HX.out,m3,hdq,rTl_bad k _ c44 (fun h=>c41 h.1)]
          rfl
         clear HQ hfh hr IH hnh hd HX hdq m3 c44 c41
         go_wp2_with fail
         refine (h1 _).mono ?_
         rintro e w1 ⟨k7,rfl,rfl⟩
         go_wp2
         go_ret
         exact ⟨by rw [HF.out]; rfl,rfl⟩
      ·have hqi:¬ (p:Int) + (m:Int) < (s.size:Int):=by omega
       have hqn:(s.size:Int) ≤ (p:Int) + (m:Int):=by omega
       have HF:Hid (funN s.data.toList = 0):=by
        rw [hid_iff]
        refine funN_none ?_
        rw [HX.out,m3,List.drop_eq_nil_of_le (by rw [size_len]; omega),rTl_nil]
        rfl
       clear HQ hfh hr IH hnh hd HX m3
       go_wp2_with fail
       refine (h1 _).mono ?_
       rintro e w1 ⟨k7,rfl,rfl⟩
       go_wp2
       go_ret
       exact ⟨by rw [HF.out]; rfl,rfl⟩
  ·have hpi:¬ (p:Int) < (s.size:Int):=by omega
   have hpn:(s.size:Int) ≤ (p:Int):=by omega
   have HF:Hid (funN s.data.toList = 0):=by
    rw [hid_iff]
    refine funN_none ?_
    rw [← HQ.out,List.drop_eq_nil_of_le (by rw [size_len]; omega),fnHd,if_neg (by rintro ⟨_,h⟩; cases h),rOne_nil]
    rfl
   clear HQ IH
   go_wp2
   go_ret
   exact ⟨by rw [HF.out]; rfl,rfl⟩
end Go.Proofs.YtiiepfplommmfaaGreatDoor

namespace Go.Proofs.YtiiepfplommmfaaGreatDoor
open Go.RowKit

theorem oneE_no {l:List UInt8} {z k:Int} {w w':World} (h:rOne l = none) (hz:z = 0) (hk:k = 0) (hw:w' = w):OneE l w (.returned (.tuple #[.int .i64 z,.int .i64 k])) w':=by
 subst hz hk
 exact ⟨0,by rw [oneN_none h]; rfl,fun hh=>absurd h hh,hw⟩
theorem oneE_yes {l:List UInt8} {z k:Int} {n j:Nat} {w w':World} (h:rOne l = some (l.drop n)) (hn:n ≤ l.length) (hz:z = (n:Int)) (hj:kindR l = j) (hk:k = (j:Int)) (hw:w' = w):OneE l w (.returned (.tuple #[.int .i64 z,.int .i64 k])) w':=by
 subst hz hk
 exact ⟨j,by rw [oneN_at h hn],fun _=>hj.symm,hw⟩
def shutA:List UInt8 → Option (List UInt8)
 | []=>none
 | d :: y=>if d.toNat = 93 then some y else none
theorem rOne_arr' {c:UInt8} {r x:List UInt8} (h:c.toNat = 91) (hx:rOne r = some x):rOne (c :: r) = shutA x:=by
 rw [rOne_arr r h,hx,Option.bind_some]
 cases x <;> rfl
theorem rOne_arr0 {c:UInt8} {r:List UInt8} (h:c.toNat = 91) (hx:rOne r = none):rOne (c :: r) = none:=by
 rw [rOne_arr r h,hx,Option.bind_none]
theorem ext_take (s:ByteArray) (k:Nat):(s.extract 0 k).data.toList = s.data.toList.take k:=by rw [str_take,str_data]
theorem ext_mid (s:ByteArray) (a b:Nat):(s.extract a b).data.toList = (s.data.toList.drop a).take (b - a):=by rw [extract_str,str_data]
theorem take_all_next {l:List UInt8} {k:Nat} {c:UInt8} {r:List UInt8} (h:(l.take k).all isLetter = true) (hd:l.drop k = c :: r) (hc:isLetter c = true):(l.take (k + 1)).all isLetter = true:=by
 rw [List.take_add,hd,List.all_append,h]
 simp [hc]
set_option maxHeartbeats 8000000 in
set_option maxRecDepth 1000000 in
theorem refOneStep (s:ByteArray) (w:World) (hs:s.size ≤ 200) (IH:OneAll s.size):Calls Tryz.prog 141 #[.string s] w (OneE s.data.toList w):=by
 go_enter Tryz.func141,Tryz.ntmps141
 go_upto_region 1 with fail
 go_cut [21] from 9 to 21 (fun c wx=>c = .bool (isNum s.data.toList) ∧ wx = w)
 case first =>
  by_cases hn:3 ≤ s.size
  ·have hni:(3:Int) ≤ (s.size:Int):=by omega
   have hext:s.extract 0 3 = str (s.data.toList.take 3):=str_take s 3
   by_cases ht:s.data.toList.take 3 = numL
   ·have hgo:=goes5 s 3 w (by decide)
    have heq:((s.extract 0 3).toList == [110,117,109]) = true:=by
     rw [beq_iff_eq,Lib.toList_data,hext,str_data,ht]; rfl
    cases hg:goesR (s.data.toList.drop 3)
    ·have HV:Hid (isNum s.data.toList = true):=by rw [hid_iff,isNum,hg,decide_eq_true ht]; rfl
     rw [hg] at hgo
     clear hg ht hext
     go_wp2_with (go_at_call 180; refine hgo.mono ?_; rintro e w1 ⟨rfl,rfl⟩)
     go_meet
     exact ⟨by rw [HV.out],rfl⟩
    ·have HV:Hid (isNum s.data.toList = false):=by rw [hid_iff,isNum,hg,decide_eq_true ht]; rfl
     rw [hg] at hgo
     clear hg ht hext
     go_wp2_with (go_at_call 180; refine hgo.mono ?_; rintro e w1 ⟨rfl,rfl⟩)
     go_meet
     exact ⟨by rw [HV.out],rfl⟩
   ·have heq:((s.extract 0 3).toList == [110,117,109]) = false:=by
     rw [beq_eq_false_iff_ne,Lib.toList_data,hext,str_data]
     exact fun h=>ht h
    have HV:Hid (isNum s.data.toList = false):=by rw [hid_iff,isNum,decide_eq_false ht]; rfl
    clear ht hext
    go_wp2_with fail
    go_meet
    exact ⟨by rw [HV.out],rfl⟩
  ·have hni:¬ (3:Int) ≤ (s.size:Int):=by omega
   have HV:Hid (isNum s.data.toList = false):=by
    rw [hid_iff,isNum,decide_eq_false (fun h=>hn (by have:=take_len h rfl (by decide); rw [size_len] at this; exact this))]; rfl
   go_wp2_with fail
   go_meet
   exact ⟨by rw [HV.out],rfl⟩
 case rest =>
  obtain ⟨rfl,rfl⟩:=hcut
  cases hN:isNum s.data.toList with
  | true =>
   obtain ⟨h1,h2,h3⟩:=num_head hN
   have H:=hidden (And.intro h1 (And.intro h2 h3))
   clear h1 h2 h3 IH hN
   go_wp2
   go_ret2
   exact oneE_yes H.out.1 H.out.2.2 rfl H.out.2.1 rfl rfl
  | false =>
   go_upto_region 3 with fail
   go_cut [34] from 22 to 34 (fun c wx=>c = .bool (isByt s.data.toList) ∧ wx = wc)
   case first =>
    by_cases hn:5 ≤ s.size
    ·have hni:(5:Int) ≤ (s.size:Int):=by omega
     have hext:s.extract 0 5 = str (s.data.toList.take 5):=str_take s 5
     by_cases ht:s.data.toList.take 5 = bytesL
     ·have hgo:=goes5 s 5 wc (by decide)
      have heq:((s.extract 0 5).toList == [98,121,116,101,115]) = true:=by
       rw [beq_iff_eq,Lib.toList_data,hext,str_data,ht]; rfl
      cases hg:goesR (s.data.toList.drop 5)
      ·have HV:Hid (isByt s.data.toList = true):=by rw [hid_iff,isByt,hg,decide_eq_true ht]; rfl
       rw [hg] at hgo
       clear hg ht hext
       go_wp2_with (go_at_call 180; refine hgo.mono ?_; rintro e w1 ⟨rfl,rfl⟩)
       go_meet
       exact ⟨by rw [HV.out],rfl⟩
      ·have HV:Hid (isByt s.data.toList = false):=by rw [hid_iff,isByt,hg,decide_eq_true ht]; rfl
       rw [hg] at hgo
       clear hg ht hext
       go_wp2_with (go_at_call 180; refine hgo.mono ?_; rintro e w1 ⟨rfl,rfl⟩)
       go_meet
       exact ⟨by rw [HV.out],rfl⟩
     ·have heq:((s.extract 0 5).toList == [98,121,116,101,115]) = false:=by
       rw [beq_eq_false_iff_ne,Lib.toList_data,hext,str_data]
       exact fun h=>ht h
      have HV:Hid (isByt s.data.toList = false):=by rw [hid_iff,isByt,decide_eq_false ht]; rfl
      clear ht hext
      go_wp2_with fail
      go_meet
      exact ⟨by rw [HV.out],rfl⟩
    ·have hni:¬ (5:Int) ≤ (s.size:Int):=by omega
     have HV:Hid (isByt s.data.toList = false):=by
      rw [hid_iff,isByt,decide_eq_false (fun h=>hn (by have:=take_len h rfl (by decide); rw [size_len] at this; exact this))]; rfl
     go_wp2_with fail
     go_meet
     exact ⟨by rw [HV.out],rfl⟩
   case rest =>
    obtain ⟨rfl,rfl⟩:=hcut
    cases hB:isByt s.data.toList with
    | true =>
     obtain ⟨h1,h2,h3⟩:=byt_head hN hB
     have H:=hidden (And.intro h1 (And.intro h2 h3))
     clear h1 h2 h3 IH hN hB
     go_wp2
     go_ret2
     exact oneE_yes H.out.1 H.out.2.2 rfl H.out.2.1 rfl rfl
    | false =>
     by_cases h0:s.size = 0
     ·have HR:Hid (rOne s.data.toList = none):=by
       have hz:s.data.toList = []:=List.eq_nil_of_length_eq_zero (by rw [size_len]; exact h0)
       rw [hid_iff,hz,rOne_nil]
      have hz:s.data.toList = []:=List.eq_nil_of_length_eq_zero (by rw [size_len]; exact h0)
      have he:s = ByteArray.empty:=by rw [← str_toList s,hz]; rfl
      have he2:(s.toList == []) = true:=by rw [Lib.toList_data,hz]; rfl
      have he3:s.toList.isEmpty = true:=by rw [Lib.toList_data,hz]; rfl
      clear hz
      clear hN hB IH
      go_wp2
      go_ret2
      exact oneE_no HR.out rfl rfl rfl
     ·have h0':0 < s.size:=by omega
      have h0i:(0:Int) < (s.size:Int):=by omega
      have he:¬ s = ByteArray.empty:=fun e=>h0 (by rw [e]; rfl)
      have he2:(s.toList == []) = false:=by
       rw [beq_eq_false_iff_ne,Lib.toList_data]
       exact fun e=>h0 (by rw [← size_len,e]; rfl)
      have he3:s.toList.isEmpty = false:=by
       rw [Bool.eq_false_iff,Ne,List.isEmpty_iff,Lib.toList_data]
       exact fun e=>h0 (by rw [← size_len,e]; rfl)
      have hd:=drop_at s 0 h0'
      rw [List.drop_zero,Nat.zero_add] at hd
      by_cases c91:s[0].toNat = 91
      ·have c91':((s[0].toNat:Int) == 91) = true:=by rw [beq_iff_eq]; omega
       have h1:=oneAt IH 1 (by omega) (by omega) h0'
       have h1i:(1:Int) ≤ (s.size:Int):=by omega
       have HA:∀ x,rOne (s.data.toList.drop 1) = some x → rOne s.data.toList = shutA x:=fun x hx=>by have:=rOne_arr' c91 hx; rwa [← hd] at this
       have HA0:rOne (s.data.toList.drop 1) = none → rOne s.data.toList = none:=fun hx=>by have:=rOne_arr0 c91 hx; rwa [← hd] at this
       have HK:Hid (kindR s.data.toList = 2):=by rw [hid_iff,kindR,hd,isHead_cons,decide_eq_true c91]; rfl
       clear hN hB IH c91 hd
       cases hr:rOne (s.data.toList.drop 1) with
       | none =>
        have HR:Hid (rOne s.data.toList = none):=HA0 hr
        rw [oneN_none hr] at h1
        clear HA HA0 hr HK
        go_wp2_with fail
        refine (h1 _).mono ?_
        rintro e w1 ⟨k7,rfl,rfl⟩
        go_wp2
        go_ret2
        exact oneE_no HR.out rfl rfl rfl
       | some x =>
        obtain ⟨m1,m2,m3⟩:=oneN_some hr
        rw [List.length_drop,size_len] at m2
        rw [List.drop_drop] at m3
        generalize oneN (s.data.toList.drop 1) = m at *
        rw [Nat.add_comm] at m3
        have m1':((m:Int) == 0) = false:=by rw [beq_eq_false_iff_ne]; omega
        have HX:Hid (rOne s.data.toList = shutA x):=HA x hr
        clear HA HA0 hr
        by_cases hqs:m + 1 < s.size
        ·have hqi:(m:Int) + 1 < (s.size:Int):=by omega
         have hqn:¬ (s.size:Int) ≤ (m:Int) + 1:=by omega
         have hdq:=drop_at s (m + 1) hqs
         by_cases c93:s[m + 1].toNat = 93
         ·have c93':((s[m + 1].toNat:Int) != 93) = false:=by rw [bne_eq_false_iff_eq]; omega
          have HR:Hid (rOne s.data.toList = some (s.data.toList.drop (m + 1 + 1))):=by
           rw [hid_iff,HX.out,m3,hdq]
           exact if_pos c93
          have hql:m + 1 + 1 ≤ s.data.toList.length:=by rw [size_len]; omega
          have HZ:Hid ((m:Int) + 2 = ((m + 1 + 1:Nat):Int)):=by rw [hid_iff]; omega
          clear HX m3 hdq c93
          go_wp2_with fail
          refine (h1 _).mono ?_
          rintro e w1 ⟨k7,rfl,rfl⟩
          go_wp2
          go_ret2
          exact oneE_yes HR.out hql HZ.out HK.out rfl rfl
         ·have c93':((s[m + 1].toNat:Int) != 93) = true:=by rw [bne_iff_ne]; omega
          have HR:Hid (rOne s.data.toList = none):=by
           rw [hid_iff,HX.out,m3,hdq]
           exact if_neg c93
          clear HX m3 hdq c93
          go_wp2_with fail
          refine (h1 _).mono ?_
          rintro e w1 ⟨k7,rfl,rfl⟩
          go_wp2
          go_ret2
          exact oneE_no HR.out rfl rfl rfl
        ·have hqn:(s.size:Int) ≤ (m:Int) + 1:=by omega
         have HR:Hid (rOne s.data.toList = none):=by
          rw [hid_iff,HX.out,m3,List.drop_eq_nil_of_le (by rw [size_len]; omega)]
          rfl
         clear HX m3
         go_wp2_with fail
         refine (h1 _).mono ?_
         rintro e w1 ⟨k7,rfl,rfl⟩
         go_wp2
         go_ret2
         exact oneE_no HR.out rfl rfl rfl
      ·have c91':((s[0].toNat:Int) == 91) = false:=by rw [beq_eq_false_iff_ne]; omega
       by_cases c40:s[0].toNat = 40
       ·have c40':((s[0].toNat:Int) == 40) = true:=by rw [beq_iff_eq]; omega
        have hf:=fun u=>refFun s u hs h0' IH
        have HF:Hid (oneN s.data.toList = funN s.data.toList):=by
         have:=rOne_fn (s.data.toList.drop 1) c40
         rw [← hd] at this
         rw [hid_iff,oneN,funN,this]
        have HK:Hid (kindR s.data.toList = 3):=by rw [hid_iff,kindR,hd,isHead_cons,isHead_cons,decide_eq_true c40,decide_eq_false c91]; rfl
        clear hN hB IH c40 c91 hd
        generalize funN s.data.toList = m at *
        go_wp2_with fail
        refine (hf _).mono ?_
        rintro e w1 ⟨rfl,rfl⟩
        go_wp2
        go_ret2
        exact ⟨3,by rw [HF.out]; rfl,fun _=>HK.out.symm,rfl⟩
       ·have c40':((s[0].toNat:Int) == 40) = false:=by rw [beq_eq_false_iff_ne]; omega
        obtain ⟨g1,g2⟩:=nm_head hd c91 c40 hN hB
        have HN:=hidden g1
        have HK:=hidden g2
        clear g1 g2 hN hB c91 c40 hd IH
        go_wp2
        go_loopg [7] s.size (fun g i wr=>∃ (k:Nat),g + k = s.size ∧ i = .int .i64 (k:Int) ∧ Hid ((s.data.toList.take k).all isLetter = true) ∧ wr = wc)
        case atStart=>exact ⟨0,rfl,rfl,rfl,rfl⟩
        case round =>
         obtain ⟨k,hg,rfl,hall,rfl⟩:=hrel
         have hkl:k ≤ s.data.toList.length:=by rw [size_len]; omega
         have hks:(k:Int) ≤ (s.size:Int):=by omega
         have hva:=fun u=>refValue (s.extract 0 k) u (by rw [str_take,str_size,List.length_take]; omega)
         rw [ext_take] at hva
         by_cases hk:k < s.size
         ·have hki:(k:Int) < (s.size:Int):=by omega
          have hkn:¬ (s.size:Int) ≤ (k:Int):=by omega
          have hkd:decide (s.size ≤ k) = false:=decide_eq_false (by omega)
          have hdk:=drop_at s k hk
          have hl:=letter5 s[k]
          cases hb:isLetter s[k] with
          | true =>
           have HA:Hid ((s.data.toList.take (k + 1)).all isLetter = true):=take_all_next hall.out hdk hb
           rw [hb] at hl
           clear hall hdk hb hva
           go_wp2_with (go_at_call 182; refine (hl _).mono ?_; rintro e w1 ⟨rfl,rfl⟩)
           go_roundg (s.size - (k + 1))
           case measure=>omega
           case rel=>exact ⟨k + 1,by omega,by go_num,HA,rfl⟩
          | false =>
           have hlt:=let_at hall.out (fun d y e=>by rw [hdk] at e; cases e; exact hb)
           rw [hb] at hl
           cases hv:valueR (s.data.toList.take k) with
           | false =>
            have HR:Hid (rOne s.data.toList = none):=by rw [hid_iff,HN.out]; exact nmR_no1 hlt hv
            rw [hv] at hva
            clear hall hdk hb hlt HN HK hv
            go_wp2_with (go_at_call 182; refine (hl _).mono ?_; rintro e w1 ⟨rfl,rfl⟩)
            go_wp2_with fail
            refine (hva _).mono ?_
            rintro e w1 ⟨rfl,rfl⟩
            go_wp2
            go_ret2
            exact oneE_no HR.out rfl rfl rfl
           | true =>
            rw [hv] at hva
            by_cases c46:s[k].toNat = 46
            ·have c46':((s[k].toNat:Int) != 46) = false:=by rw [bne_eq_false_iff_eq]; omega
             have h46:Hid (isHead 46 (s.data.toList.drop k) = true):=by rw [hid_iff,hdk,isHead_cons]; exact decide_eq_true c46
             have HL:=hidden hlt
             have HV:=hidden hv
             clear hall hdk hb hlt hv c46
             go_wp2_with (go_at_call 182; refine (hl _).mono ?_; rintro e w1 ⟨rfl,rfl⟩)
             go_wp2_with fail
             refine (hva _).mono ?_
             rintro e w1 ⟨rfl,rfl⟩
             clear hva hl
             go_wp2
             go_loopg [8] (s.size - (k + 1)) (fun g i wr=>∃ (j:Nat),g + (k + 1 + j) = s.size ∧ i = .int .i64 ((k + 1 + j:Nat):Int) ∧ Hid (((s.data.toList.drop (k + 1)).take j).all isLetter = true) ∧ wr = w1)
             case atStart=>exact ⟨0,by omega,by go_num,rfl,rfl⟩
             case round =>
              obtain ⟨j,hg2,rfl,hall,rfl⟩:=hrel
              obtain ⟨t,ht⟩:∃ t,t = k + 1 + j:=⟨_,rfl⟩
              rw [← ht] at hg2 ⊢
              have hts:(t:Int) ≤ (s.size:Int):=by omega
              have hkt:(k:Int) + 1 ≤ (t:Int):=by omega
              have hbg:=fun u=>refBig (s.extract (k + 1) t) u (by rw [extract_str,str_size,List.length_take]; omega)
              rw [ext_mid,show t - (k + 1) = j from by omega] at hbg
              have hjl:k + 1 + j ≤ s.data.toList.length:=by rw [size_len]; omega
              have HT:=hidden ht
              clear ht
              by_cases htk:t < s.size
              ·have hti:(t:Int) < (s.size:Int):=by omega
               have hdt:=drop_at s t htk
               have hdj:(s.data.toList.drop (k + 1)).drop j = s[t] :: s.data.toList.drop (t + 1):=by rw [List.drop_drop, ← HT.out,hdt]
               have hl:=letter5 s[t]
               cases hb2:isLetter s[t] with
               | true =>
                have HA:Hid (((s.data.toList.drop (k + 1)).take (j + 1)).all isLetter = true):=take_all_next hall.out hdj hb2
                rw [hb2] at hl
                clear hall hdt hdj hb2 hbg
                go_wp2_with (go_at_call 182; refine (hl _).mono ?_; rintro e w2 ⟨rfl,rfl⟩)
                go_roundg (s.size - (t + 1))
                case measure=>omega
                case rel=>exact ⟨j + 1,by have:=HT.out; omega,by have:=HT.out; go_num,HA,rfl⟩
               | false =>
                have hlt2:=let_at hall.out (fun d y e=>by rw [hdj] at e; cases e; exact hb2)
                rw [hb2] at hl
                clear hdt hdj hb2
                cases hb:bigR ((s.data.toList.drop (k + 1)).take j) with
                | false =>
                 have HR:Hid (rOne s.data.toList = none):=by rw [hid_iff,HN.out]; exact nmR_no3 hkl HL.out hlt2 hb
                 rw [hb] at hbg
                 clear hall hlt2 HN HK HL HV h46 hb
                 go_wp2_with (go_at_call 182; refine (hl _).mono ?_; rintro e w2 ⟨rfl,rfl⟩)
                 go_wp2_with fail
                 refine (hbg _).mono ?_
                 rintro e w2 ⟨rfl,rfl⟩
                 go_wp2
                 go_ret2
                 exact oneE_no HR.out rfl rfl rfl
                | true =>
                 have HR:Hid (rOne s.data.toList = some (s.data.toList.drop t)):=by
                  rw [hid_iff,HN.out,HT.out]; exact nmR_yes hkl HL.out HV.out h46.out hjl hlt2 hb
                 have htl:t ≤ s.data.toList.length:=by rw [size_len]; omega
                 rw [hb] at hbg
                 clear hall hlt2 HN HL HV h46 hb
                 go_wp2_with (go_at_call 182; refine (hl _).mono ?_; rintro e w2 ⟨rfl,rfl⟩)
                 go_wp2_with fail
                 refine (hbg _).mono ?_
                 rintro e w2 ⟨rfl,rfl⟩
                 go_wp2
                 go_ret2
                 exact oneE_yes HR.out htl rfl HK.out rfl rfl
              ·have hti:¬ (t:Int) < (s.size:Int):=by omega
               have hlt2:=let_at hall.out (fun d y e=>by rw [List.drop_drop,List.drop_eq_nil_of_le (by rw [size_len, ← HT.out]; omega)] at e; cases e)
               cases hb:bigR ((s.data.toList.drop (k + 1)).take j) with
               | false =>
                have HR:Hid (rOne s.data.toList = none):=by rw [hid_iff,HN.out]; exact nmR_no3 hkl HL.out hlt2 hb
                rw [hb] at hbg
                clear hall hlt2 HN HK HL HV h46 hb
                skip
                go_wp2_with fail
                refine (hbg _).mono ?_
                rintro e w2 ⟨rfl,rfl⟩
                go_wp2
                go_ret2
                exact oneE_no HR.out rfl rfl rfl
               | true =>
                have HR:Hid (rOne s.data.toList = some (s.data.toList.drop t)):=by
                 rw [hid_iff,HN.out,HT.out]; exact nmR_yes hkl HL.out HV.out h46.out hjl hlt2 hb
                have htl:t ≤ s.data.toList.length:=by rw [size_len]; omega
                rw [hb] at hbg
                clear hall hlt2 HN HL HV h46 hb
                skip
                go_wp2_with fail
                refine (hbg _).mono ?_
                rintro e w2 ⟨rfl,rfl⟩
                go_wp2
                go_ret2
                exact oneE_yes HR.out htl rfl HK.out rfl rfl
            ·have c46':((s[k].toNat:Int) != 46) = true:=by rw [bne_iff_ne]; omega
             have HR:Hid (rOne s.data.toList = none):=by
              rw [hid_iff,HN.out]
              exact nmR_no2 hkl hlt (by rw [hdk,isHead_cons]; exact decide_eq_false c46)
             clear hall hdk hb hlt HN HK hv c46
             go_wp2_with (go_at_call 182; refine (hl _).mono ?_; rintro e w1 ⟨rfl,rfl⟩)
             go_wp2_with fail
             refine (hva _).mono ?_
             rintro e w1 ⟨rfl,rfl⟩
             go_wp2
             go_ret2
             exact oneE_no HR.out rfl rfl rfl
         ·have hki:¬ (k:Int) < (s.size:Int):=by omega
          have hkn:(s.size:Int) ≤ (k:Int):=by omega
          have hlt:=let_at hall.out (fun d y e=>by rw [List.drop_eq_nil_of_le (by rw [size_len]; omega)] at e; cases e)
          have HR:Hid (rOne s.data.toList = none):=by
           rw [hid_iff,HN.out]
           exact nmR_no2 hkl hlt (by rw [List.drop_eq_nil_of_le (by rw [size_len]; omega)]; rfl)
          clear hall hlt HN HK
          cases hv:valueR (s.data.toList.take k) with
          | false =>
           rw [hv] at hva
           clear hv
           go_wp2_with fail
           refine (hva _).mono ?_
           rintro e w1 ⟨rfl,rfl⟩
           go_wp2
           go_ret2
           exact oneE_no HR.out rfl rfl rfl
          | true =>
           rw [hv] at hva
           clear hv
           go_wp2_with fail
           refine (hva _).mono ?_
           rintro e w1 ⟨rfl,rfl⟩
           go_wp2
           go_ret2
           exact oneE_no HR.out rfl rfl rfl
theorem refOneAll:∀ n,n ≤ 201 → OneAll n
 | 0,_=>fun s h=>by omega
 | n + 1,hn=>fun s h u=>refOneStep s u (by omega) (fun s' h'=>refOneAll n (by omega) s' (by omega))
theorem refOne (s:ByteArray) (w:World) (hs:s.size ≤ 200):Calls Tryz.prog 141 #[.string s] w (OneE s.data.toList w):=refOneAll 201 (Nat.le_refl _) s (by omega) w
end Go.Proofs.YtiiepfplommmfaaGreatDoor

namespace Go.Proofs.YtiiepfplommmfaaGreatDoor
open Go.RowKit

set_option maxHeartbeats 1000000 in
set_option maxRecDepth 1000000 in
theorem refRight (s:ByteArray) (w:World):Calls Tryz.prog 88 #[.string s] w (Pu (.bool (rightR s.data.toList)) w):=by
 by_cases hs:s.size ≤ 200
 ·have h1:=fun u=>refOne s u hs
  have hn:¬ (200:Int) < (s.size:Int):=by omega
  have HR:=hidden (right_is s.data.toList)
  rw [decide_eq_true (by rw [size_len]; exact hs),Bool.true_and] at HR
  unfold OneE at h1
  cases hr:rOne s.data.toList with
  | none =>
   rw [oneN_none hr] at h1
   rw [hr] at HR
   clear hr
   go_enter Tryz.func88,Tryz.ntmps88
   go_wp2_with (go_at_call 141; refine (h1 _).mono ?_; rintro e w1 ⟨k,rfl, -, rfl⟩)
   go_ret
   exact ⟨by rw [HR.out]; rfl,rfl⟩
  | some x =>
   obtain ⟨m1,m2,m3⟩:=oneN_some hr
   rw [size_len] at m2
   rw [hr] at HR
   generalize oneN s.data.toList = m at *
   have m1':(0:Int) < (m:Int):=by omega
   have HV:Hid (decide (some x = some []) = ((m:Int) == (s.size:Int))):=by
    rw [hid_iff,m3,Bool.eq_iff_iff,decide_eq_true_iff,beq_iff_eq,Option.some.injEq,List.drop_eq_nil_iff,size_len]
    omega
   rw [HV.out] at HR
   clear hr m3 HV
   go_enter Tryz.func88,Tryz.ntmps88
   go_wp2_with (go_at_call 141; refine (h1 _).mono ?_; rintro e w1 ⟨k,rfl, -, rfl⟩)
   go_ret
   exact ⟨by rw [HR.out]; rfl,rfl⟩
 ·have hn:(200:Int) < (s.size:Int):=by omega
  have HR:Hid (rightR s.data.toList = false):=by rw [hid_iff,rightR,decide_eq_false (by rw [size_len]; exact hs)]; rfl
  clear hs
  go_enter Tryz.func88,Tryz.ntmps88
  go_wp2
  go_ret
  exact ⟨by rw [HR.out]; rfl,rfl⟩
def kindV (l:List UInt8):Nat:=if rightR l = true then kindR l else 0
set_option maxHeartbeats 1000000 in
set_option maxRecDepth 1000000 in
theorem refKind (s:ByteArray) (w:World):Calls Tryz.prog 179 #[.string s] w (Pu (.int .i64 (kindV s.data.toList:Int)) w):=by
 have h1:=fun u=>refRight s u
 cases hr:rightR s.data.toList with
 | false =>
  have HK:Hid (kindV s.data.toList = 0):=by rw [hid_iff,kindV,hr]; rfl
  rw [hr] at h1
  clear hr
  go_enter Tryz.func179,Tryz.ntmps179
  go_wp2_with (go_at_call 88; refine (h1 _).mono ?_; rintro e w1 ⟨rfl,rfl⟩)
  go_ret
  exact ⟨by rw [HK.out]; rfl,rfl⟩
 | true =>
  have HK:Hid (kindV s.data.toList = kindR s.data.toList):=by rw [hid_iff,kindV,hr]; rfl
  have hl:=rightR_len hr
  rw [size_len] at hl
  have hne:rOne s.data.toList ≠ none:=by rw [rOne_of (rightR_one hr)]; simp
  have h2:∀ u,Calls Tryz.prog 141 #[.string s] u fun e w'=>e = .returned (.tuple #[.int .i64 (oneN s.data.toList:Int),.int .i64 (kindR s.data.toList:Int)]) ∧ w' = u:=by
   intro u
   refine (refOne s u hl).mono ?_
   rintro e w' ⟨k,rfl,hk,rfl⟩
   exact ⟨by rw [hk hne],rfl⟩
  rw [hr] at h1
  clear hr hne
  generalize oneN s.data.toList = m at *
  generalize kindR s.data.toList = kk at *
  go_enter Tryz.func179,Tryz.ntmps179
  go_wp2_with (first
   | (go_at_call 88; refine (h1 _).mono ?_; rintro e w1 ⟨rfl,rfl⟩)
   | (go_at_call 141; refine (h2 _).mono ?_; rintro e w2 ⟨rfl,rfl⟩))
  go_ret
  exact ⟨by rw [HK.out]; rfl,rfl⟩
theorem kind_fn (l:List UInt8):kindV l = 3 ↔ isFn l = true:=by
 rw [kindV,isFn,Bool.and_eq_true]
 by_cases h:rightR l = true
 ·rw [if_pos h,kindR]
  by_cases h2:isHead 91 l = true
  ·rw [if_pos h2]
   refine ⟨fun hh=>by omega,fun hh=>?_⟩
   obtain ⟨d,y,rfl,hd⟩:=isHead_pos h2
   rw [isHead_cons] at hh
   have:=of_decide_eq_true hh.2
   omega
  ·rw [if_neg h2]
   by_cases h3:isHead 40 l = true
   ·rw [if_pos h3]; exact ⟨fun _=>⟨h,h3⟩,fun _=>rfl⟩
   ·rw [if_neg h3]
    refine ⟨fun hh=>?_,fun hh=>absurd hh.2 h3⟩
    split at hh <;> omega
 ·rw [if_neg h]; exact ⟨fun hh=>by omega,fun hh=>absurd hh.1 h⟩
theorem join_next:∀ (ps:List (List UInt8)) (x:List UInt8),joinR (ps ++ [x]) = (if 0 < ps.length then joinR ps ++ [44] else []) ++ x
 | [],x=>by simp [joinR_one]
 | [p],x=>by simp [joinR_one,joinR_two]
 | p :: q :: r,x=>by
  have:=join_next (q :: r) x
  rw [List.cons_append,List.cons_append,joinR_two, ← List.cons_append,this]
  simp [joinR_two]
set_option maxHeartbeats 1000000 in
set_option maxRecDepth 1000000 in
theorem refFunc (v : Value) (ps : List (List UInt8)) (r : List UInt8) (w : World) (hv : StrRow w v ps) (hn : ps.length ≤ 100000) (hl : ∀ y ∈ ps, y.length ≤ 1000) (hr : r.length ≤ 1000) :
  Calls Tryz.prog 51 #[v,.string (str r)] w (Pu (.string (str (funcR ps r))) w):=by
 obtain ⟨va,vc,rfl⟩:=hv.shape
 have H:=hidden hv
 have HL:=hidden hl
 clear hv hl
 go_enter Tryz.func51,Tryz.ntmps51
 go_wp2
 go_loopg [5,6] ps.length (fun g t i wr=>∃ (k:Nat) (x:List UInt8),g + k = ps.length ∧ i = .int .i64 (k:Int) ∧ t = .string (str x) ∧ x.length ≤ 1 + 1001 * k ∧ Hid (x = 40 :: joinR (ps.take k)) ∧ wr = w)
 case atStart=>exact ⟨0,[40],by omega,rfl,rfl,by simp,by rw [hid_iff]; rfl,rfl⟩
 case round =>
  obtain ⟨k,x,hg,rfl,rfl,hx,HX,rfl⟩:=hrel
  have hxs:(str x).size = x.length:=rfl
  by_cases hk:k < ps.length
  ·obtain ⟨bk,o,c,e1,q1⟩:=H.out.at k hk
   simp only [Value.slice.injEq,true_and] at e1
   obtain ⟨rfl,rfl⟩:=e1
   have hki:(k:Int) < (ps.length:Int):=by omega
   have hpl:=HL.out ps[k] (List.getElem_mem hk)
   have hps:(str ps[k]).size = ps[k].length:=rfl
   have htk:ps.take (k + 1) = ps.take k ++ [ps[k]]:=List.take_succ_eq_append_getElem hk
   have htl:(ps.take k).length = k:=by rw [List.length_take]; omega
   have hjn:=join_next (ps.take k) ps[k]
   rw [← htk,htl] at hjn
   by_cases h0:0 < k
   ·have h0':(0:Int) < (k:Int):=by omega
    rw [if_pos h0] at hjn
    have HY:Hid (str x ++ ⟨#[44]⟩ ++ str ps[k] = str (40 :: joinR (ps.take (k + 1)))):=by
     rw [hid_iff,show (⟨#[44]⟩:ByteArray) = str [44] from rfl,str_append,str_append,HX.out,hjn]
     simp
    have HYL:Hid ((40 :: joinR (ps.take (k + 1))).length ≤ 1 + 1001 * (k + 1)):=by
     rw [hid_iff,hjn]
     rw [HX.out] at hx
     simp at hx ⊢
     omega
    clear hjn htk htl HX HL
    generalize ps[k] = y at *
    go_wp2
    go_roundg (ps.length - (k + 1))
    case measure=>omega
    case rel=>exact ⟨k + 1,_,by omega,by go_num,by rw [← HY.out],HYL.out,by rw [hid_iff],rfl⟩
   ·have h0':¬ (0:Int) < (k:Int):=by omega
    rw [if_neg h0,List.nil_append] at hjn
    have HY:Hid (str x ++ str ps[k] = str (40 :: joinR (ps.take (k + 1)))):=by
     rw [hid_iff,str_append,HX.out,hjn,show ps.take k = [] from List.eq_nil_of_length_eq_zero (by omega),joinR_nil]
     simp
    have HYL:Hid ((40 :: joinR (ps.take (k + 1))).length ≤ 1 + 1001 * (k + 1)):=by
     rw [hid_iff,hjn]
     simp
     omega
    clear hjn htk htl HX HL
    generalize ps[k] = y at *
    go_wp2
    go_roundg (ps.length - (k + 1))
    case measure=>omega
    case rel=>exact ⟨k + 1,_,by omega,by go_num,by rw [← HY.out],HYL.out,by rw [hid_iff],rfl⟩
  ·have hki:¬ (k:Int) < (ps.length:Int):=by omega
   have hrs:(str r).size = r.length:=rfl
   have HE:Hid (str x ++ ⟨#[41]⟩ ++ str r = str (funcR ps r)):=by
    rw [hid_iff,show (⟨#[41]⟩:ByteArray) = str [41] from rfl,str_append,str_append,HX.out,List.take_of_length_le (by omega),funcR]
    simp
   clear HX HL
   go_wp2
   go_ret
   exact ⟨by rw [← HE.out]; rfl,rfl⟩
end Go.Proofs.YtiiepfplommmfaaGreatDoor

namespace Go.Proofs.YtiiepfplommmfaaGreatDoor
open Go.RowKit

theorem one_first {c:UInt8} {r x:List UInt8} (h:one (c :: r) = some x):c.toNat ≠ 41 ∧ c.toNat ≠ 44:=by
 have key:isSign c = true → c.toNat ≠ 91 → c.toNat ≠ 40 → False:=by
  intro hs h1 h2
  have hw:wordR (c :: r) = []:=by simp [wordR,notSign,hs]
  rw [one_word r h1 h2,hw,wordOk_nil] at h
  simp at h
 exact ⟨fun e=>key (sign_of (by omega)) (by omega) (by omega),fun e=>key (sign_of (by omega)) (by omega) (by omega)⟩
def PtA (L:List UInt8) (acc:List (List UInt8)) (p:Nat):Prop:=∃ j,Goes j (L.drop p) ∧ partsR L = (acc ++ (psQ (L.drop p)).1,(psQ (L.drop p)).2)
def PtB (L:List UInt8) (acc:List (List UInt8)) (p:Nat):Prop:=∃ c r,L.drop p = c :: r ∧ ((c.toNat = 44 ∧ PtA L acc (p + 1)) ∨ (c.toNat = 41 ∧ partsR L = (acc,r)))
theorem pt_start {l:List UInt8} (h:isFn l = true):PtA l [] 1 ∨ PtB l [] 1:=by
 rw [isFn,Bool.and_eq_true] at h
 have h1:=rightR_one h.1
 obtain ⟨c,y,rfl,hc⟩:=isHead_pos h.2
 by_cases h41:isHead 41 y = true
 ·obtain ⟨d,r,rfl,hd⟩:=isHead_pos h41
  exact .inr ⟨d,r,rfl,.inr ⟨hd,by rw [partsR,List.tail_cons,if_pos h41]; rfl⟩⟩
 ·exact .inl ⟨0,goes_first hc h1 (by simpa using h41),by rw [partsR,List.tail_cons,if_neg h41]; rfl⟩
theorem pt_param {L:List UInt8} {acc:List (List UInt8)} {p:Nat} (h:PtA L acc p):∃ c r m,one (L.drop p) = some (c :: r) ∧ rOne (L.drop p) = some (c :: r) ∧ m = oneN (L.drop p) ∧ 0 < m ∧ p + m < L.length ∧ L.drop (p + m) = c :: r ∧ PtB L (acc ++ [(L.drop p).take m]) (p + m):=by
 obtain ⟨j,hg,hp⟩:=h
 obtain ⟨c,r,h1,h2⟩:=goes_next hg
 have h3:=rOne_of h1
 obtain ⟨m1,m2,m3⟩:=oneN_some h3
 have hlen:=congrArg List.length m3
 rw [List.length_drop,List.length_cons] at hlen
 rw [List.drop_drop] at m3
 have hl2:=m2
 rw [List.length_drop] at hl2 hlen
 refine ⟨c,r,_,h1,h3,rfl,m1,by omega,m3.symm,c,r,m3.symm,?_⟩
 have hq:=psQ_some h1
 have htk:(L.drop p).take ((L.drop p).length - (r.length + 1)) = (L.drop p).take (oneN (L.drop p)):=by
  congr 1
  rw [List.length_drop]
  omega
 have hr:L.drop (p + oneN (L.drop p) + 1) = r:=by rw [← List.drop_drop, ← m3]; rfl
 rw [htk] at hq
 rcases h2 with ⟨hc,_⟩ | ⟨hc,_,hg2⟩
 ·rw [if_neg (by omega)] at hq
  exact .inr ⟨hc,by rw [hp,hq]⟩
 ·rw [if_pos hc] at hq
  refine .inl ⟨hc,j + 1,by rw [hr]; exact hg2,?_⟩
  rw [hp,hq,hr]
  simp
set_option maxHeartbeats 2000000 in
set_option maxRecDepth 1000000 in
theorem refPartsOf (s:ByteArray) (w:World):Calls Tryz.prog 140 #[.string s] w (PartsE s.data.toList w):=by
 have h1:=fun u=>refKind s u
 cases hi:isFn s.data.toList with
 | false =>
  have HI:=hidden hi
  have hk:((kindV s.data.toList:Int) != 3) = true:=by
   rw [bne_iff_ne]; intro h; rw [(kind_fn _).1 (by omega)] at hi; cases hi
  clear hi
  generalize kindV s.data.toList = k at *
  go_enter Tryz.func140,Tryz.ntmps140
  go_wp2_with (go_at_call 179; refine (h1 _).mono ?_; rintro e w1 ⟨rfl,rfl⟩)
  go_ret3
  exact ⟨.inr ⟨HI.out,rfl⟩,Below.refl _ _⟩
 | true =>
  have HI:=hidden hi
  have hk:((kindV s.data.toList:Int) != 3) = false:=by
   rw [bne_eq_false_iff_eq,(kind_fn _).2 hi]; rfl
  have hst:=hidden (pt_start hi)
  have hi':=hi
  rw [isFn,Bool.and_eq_true] at hi'
  have hl:=rightR_len hi'.1
  rw [size_len] at hl
  have hall:=refOneAll 201 (Nat.le_refl _)
  clear hi hi'
  generalize kindV s.data.toList = kk at *
  go_enter Tryz.func140,Tryz.ntmps140
  go_wp2_with (go_at_call 179; refine (h1 _).mono ?_; rintro e w1 ⟨rfl,rfl⟩)
  clear h1
  go_loopg [5,6] (s.size + 1) (fun g v n wr=>∃ (p:Nat) (acc:List (List UInt8)),g + p = s.size + 2 ∧ n = .int .i64 (p:Int) ∧ acc.length < p ∧ p ≤ 202 ∧ Hid (PtA s.data.toList acc p ∨ PtB s.data.toList acc p) ∧ wr.ownsRow w1.heap.size 9 1 v acc.length (sc acc) ∧ Below w1.heap.size w1 wr)
  case atStart=>exact ⟨1,[],by omega,rfl,by simp,by omega,hst,World.ownsRow_nil _ _ _ _,Below.refl _ _⟩
  case round =>
   obtain ⟨p,acc,hg,rfl,hap,hp2,HP,hown,hbl⟩:=hrel
   have hB:=hbl.size
   rcases HP.out with hA | hB'
   ·obtain ⟨c,r,m,h2,h3,hm,m1,m2,m3,m4⟩:=pt_param hA
    rw [size_len] at m2
    have hps:p < s.size:=by omega
    have hpi:(p:Int) < (s.size:Int):=by omega
    have hpl:(p:Int) ≤ (s.size:Int):=by omega
    have hdp:=drop_at s p hps
    have hne:=one_first (c:=s[p]) (r:=s.data.toList.drop (p + 1)) (by rw [← hdp]; exact h2)
    have c41:((s[p].toNat:Int) != 41) = true:=by rw [bne_iff_ne]; have:=hne.1; omega
    have c44:((s[p].toNat:Int) == 44) = false:=by rw [beq_eq_false_iff_ne]; have:=hne.2; omega
    have ho:=oneAt (s:=s) (fun s' h'=>hall s' (by omega)) p (by omega) (by omega) (by omega)
    rw [← hm] at ho
    have hx:s.extract p (p + m) = str ((s.data.toList.drop p).take m):=by rw [extract_str]; congr 2; omega
    have HN:Hid (PtA s.data.toList (acc ++ [(s.data.toList.drop p).take m]) (p + m) ∨ PtB s.data.toList (acc ++ [(s.data.toList.drop p).take m]) (p + m)) := .inr m4
    have k1:(p:Int) ≤ (p:Int) + (m:Int):=by omega
    have k2:(p:Int) + (m:Int) ≤ (s.size:Int):=by omega
    generalize (s.data.toList.drop p).take m = x at *
    have HX:=hidden hx
    clear hm h2 h3 m3 m4 hdp hne hA HP hx hst
    go_wp2_with fail
    refine (ho _).mono ?_
    rintro e w2 ⟨k7,rfl,rfl⟩
    go_wp2_with (at_builtin; refine append_text rfl (.tmp 29) (.tmp 36) rfl w1.heap.size _ acc rfl (hown.alloc _) _ _ x rfl ?src ?len ?hB ?next)
    case src =>
     rw [show (sc [x]) = [.string (s.extract p (p + m))] from by rw [HX.out]; rfl]
     first | exact cells_new _ _ _ | exact fun j u h=>h
    case len=>first | omega | (simp; omega)
    case hB=>first | omega | (simp; omega)
    case next =>
     intro ad c' w' q1 q2
     have b1:=below_grown (hown.alloc _) (by simp; omega) (hbl.alloc (by omega) _) q2
     clear q2 hown hbl
     go_wp2
     go_roundg (s.size + 2 - (p + m))
     case measure=>omega
     case rel=>exact ⟨p + m,acc ++ [x],by omega,by go_num,by simp; omega,by omega,HN,by simpa using q1,b1⟩
   ·obtain ⟨c,r,hd,hcase⟩:=hB'
    have hps:p < s.size:=by
     rcases Nat.lt_or_ge p s.size with h | h
     ·exact h
     ·rw [List.drop_eq_nil_of_le (by rw [size_len]; exact h)] at hd; cases hd
    have hpi:(p:Int) < (s.size:Int):=by omega
    have hdp:=drop_at s p hps
    rw [hd] at hdp
    simp only [List.cons.injEq] at hdp
    rcases hcase with ⟨hc,hA⟩ | ⟨hc,hE⟩
    ·have c41:((s[p].toNat:Int) != 41) = true:=by rw [bne_iff_ne, ← hdp.1]; omega
     have c44:((s[p].toNat:Int) == 44) = true:=by rw [beq_iff_eq, ← hdp.1]; omega
     have HN:Hid (PtA s.data.toList acc (p + 1) ∨ PtB s.data.toList acc (p + 1)) := .inl hA
     clear hd hdp hc hA HP hst
     go_wp2
     go_roundg (s.size + 2 - (p + 1))
     case measure=>omega
     case rel=>exact ⟨p + 1,acc,by omega,by go_num,by omega,by omega,HN,hown,hbl⟩
    ·have c41:((s[p].toNat:Int) != 41) = false:=by rw [bne_eq_false_iff_eq, ← hdp.1]; omega
     have HX:Hid (s.extract (p + 1) s.size = str (partsR s.data.toList).2):=by rw [hid_iff,hE,str_drop,hdp.2]
     have HY:Hid ((partsR s.data.toList).1 = acc):=by rw [hid_iff,hE]
     have q1:(p:Int) + 1 ≤ (s.size:Int):=by omega
     have q3:IntKind.i64.wrap ((p:Int) + 1) = (p:Int) + 1:=by rw [IntKind.wrap_i64]; omega
     have hsr:=strRow_own hown
     clear hd hdp hc hE HP hst
     go_wp2
     go_region
     go_wp2
     go_ret3
     exact ⟨.inl ⟨HI.out,_,by rw [← HX.out]; rfl,by rw [HY.out]; exact hsr⟩,hbl.drew⟩
end Go.Proofs.YtiiepfplommmfaaGreatDoor
