/-
  The package's Right.
  And: The package's Encode. The package's Of where nothing is defined; the statements' 'known': some of chapter 7's runs. The package's readCase. The reference's writers: what each call does. The reference's Reader: what each call does.
-/
import Derived.Deep.CutRange
import Derived.Test.YtiiepfplommmfaaGreatDoorG01
import Derived.Test.YtiiepfplommmfaaGreatDoorG08
import Derived.Deep.LoopGhost
import Derived.Laws.Rows
import Derived.Laws.Tables
import Derived.Test.YtiiepfplommmfaaGreatDoorG07
import Derived.Deep.RegionHeld3
import Derived.Deep.RegionWith
namespace Go.Proofs.YtiiepfplommmfaaGreatDoor
open Go.RowKit

theorem iE1 {p:Option (List UInt8)} {kd:Int} {nm ty:List UInt8} {cs:List Cs} (h:kindE kd = false):itemE p ⟨kd,nm,ty,cs⟩ = 12:=if_pos h
theorem iE2 {p:Option (List UInt8)} {kd:Int} {nm ty:List UInt8} {cs:List Cs} (h:kindE kd = true) (hn:namedE ⟨kd,nm,ty,cs⟩ = false):itemE p ⟨kd,nm,ty,cs⟩ = 13:=by
 unfold itemE
 rw [if_neg (by rw [h]; simp),if_pos hn]
theorem iE3 {p:Option (List UInt8)} {kd:Int} {nm ty:List UInt8} {cs:List Cs} (h:kindE kd = true) (hn:namedE ⟨kd,nm,ty,cs⟩ = true) (hp:p.any (fun q=>decide (nm ≤ q)) = true):itemE p ⟨kd,nm,ty,cs⟩ = 13:=by
 unfold itemE
 rw [if_neg (by rw [h]; simp),if_neg (by rw [hn]; simp),if_pos hp]
theorem iE4 {p:Option (List UInt8)} {kd:Int} {nm ty:List UInt8} {cs:List Cs} (h:kindE kd = true) (hn:namedE ⟨kd,nm,ty,cs⟩ = true) (hp:p.any (fun q=>decide (nm ≤ q)) = false) (hk:kd ≠ 1):itemE p ⟨kd,nm,ty,cs⟩ = valueE ⟨kd,nm,ty,cs⟩:=by
 unfold itemE
 rw [if_neg (by rw [h]; simp),if_neg (by rw [hn]; simp),if_neg (by rw [hp]; simp),if_pos hk]
theorem iE5 {p:Option (List UInt8)} {kd:Int} {nm ty:List UInt8} {cs:List Cs} (h:kindE kd = true) (hn:namedE ⟨kd,nm,ty,cs⟩ = true) (hp:p.any (fun q=>decide (nm ≤ q)) = false) (hk:kd = 1):itemE p ⟨kd,nm,ty,cs⟩ = if ty ≠ [] then 12 else if cs.length = 0 then 12 else if 6 < cs.length then 12 else casesE [] cs:=by
 unfold itemE
 rw [if_neg (by rw [h]; simp),if_neg (by rw [hn]; simp),if_neg (by rw [hp]; simp),if_neg (fun h=>h hk)]
 rfl
theorem leq_is (a b:List UInt8):(Op.bytesLess (str a).toList (str b).toList || (str a).toList == (str b).toList) = decide (a ≤ b):=by
 rw [less_is,eq_is,Bool.eq_iff_iff,Bool.or_eq_true,decide_eq_true_iff,decide_eq_true_iff,decide_eq_true_iff,str_lt_iff]
 constructor
 ·rintro (h | rfl)
  ·exact h.1
  ·exact List.le_refl _
 ·intro h
  by_cases he:a = b
  ·exact .inr he
  ·exact .inl ⟨h,he⟩
theorem nil_text (ty:List UInt8):(str ty).toList.isEmpty = decide (ty = []):=by
 rw [Lib.toList_data,str_data]
 cases ty <;> simp
set_option maxHeartbeats 8000000 in
set_option maxRecDepth 1000000 in
theorem right7 (F:Nat → Prop) (m:List UInt8) (v:Value) (l:List It) (w:World) (h:ItR F w v l) (hF:∀ g,F g → g < w.heap.size) (hm:Tk m) (hok:∀ x ∈ l,ItOk x):Calls Tryz.prog 130 #[.agg #[.string (str m),v]] w (NumB (rightI m l) w):=by
 obtain ⟨va,vc,rfl⟩:=h.shape
 have hb0:Below w.heap.size w (w.alloc (.cells #[.string (str m),.slice va l.length vc] 56)):=(Below.refl _ _).alloc (Nat.le_refl _) _
 have hN:=heap_alloc_new w (.cells #[.string (str m),.slice va l.length vc] 56)
 have HI:Hid (ItR F (w.alloc (.cells #[.string (str m),.slice va l.length vc] 56)) (.slice va l.length vc) l):=h.below hb0 hF
 have hF0:∀ g,F g → g < (w.alloc (.cells #[.string (str m),.slice va l.length vc] 56)).heap.size:=fun g hg=>by have:=hF g hg; simp; omega
 have hs0:w.heap.size < (w.alloc (.cells #[.string (str m),.slice va l.length vc] 56)).heap.size:=by simp
 have hV:=fun u=>value (str m) u (by rw [str_size]; unfold Tk at hm; omega)
 rw [str_data] at hV
 have HO:Hid (∀ x ∈ l,ItOk x):=hok
 clear h hm hok
 go_enter Tryz.func130,Tryz.ntmps130
 go_wp2_with fail
 refine wp_scope_labels (fun _ _ _=>False) (fun _ _ _=>0) ?_ (fun _ _ _ h=>h.elim)
 intro hz
 clear hz
 go_wp2_with fail
 generalize w.alloc (.cells #[.string (str m),.slice va l.length vc] 56) = w0 at *
 have c1:w0.cell? ⟨w.heap.size,1,none⟩ = some (.slice va l.length vc):=by rw [cell_of_row w0 _ 1 _ _ _ hN]; rfl
 refine (hV _).mono ?_
 rintro e w1 ⟨rfl,hw1⟩
 obtain rfl:=hw1.symm
 cases hv:valueR m
 ·have HR:Hid (rightI m l = 13):=by rw [hid_iff,rightI,if_pos hv]
  clear hv hV
  go_wp2
  show bodyPost Tryz.prog Tryz.f130 (NumB (rightI m l) w) Exit.ret _ _
  go_ret
  exact ⟨by rw [HR.out]; rfl,hb0⟩
 ·by_cases h32:32 < l.length
  ·have HR:Hid (rightI m l = 4):=by rw [hid_iff,rightI,if_neg (by rw [hv]; simp),if_pos h32]
   have h32i:(32:Int) < (l.length:Int):=by omega
   clear hv hV
   go_wp2
   show bodyPost Tryz.prog Tryz.f130 (NumB (rightI m l) w) Exit.ret _ _
   go_ret
   exact ⟨by rw [HR.out]; rfl,hb0⟩
  ·have HR:Hid (rightI m l = itemsE none l):=by rw [hid_iff,rightI,if_neg (by rw [hv]; simp),if_neg h32]
   have h32i:¬ (32:Int) < (l.length:Int):=by omega
   clear hv hV
   go_wp2
   rename_i hK
   refine wp_label (hK _ _ ?_)
   go_wp2
   clear c1
   go_loopg [18,3] l.length (fun g i s wr=>∃ (k:Nat),g + k = l.length ∧ i = .int .i64 (k:Int) ∧ s = .int .i64 0 ∧ Hid (itemsE none l = itemsE (prevI l k) (l.drop k)) ∧ Below w0.heap.size w0 wr)
   case atStart=>exact ⟨0,by omega,rfl,rfl,rfl,Below.refl _ _⟩
   case round =>
    obtain ⟨k,hg,rfl,rfl,hq,hbl⟩:=hrel
    rename World=>wo
    have hbw:=below_trans hb0 hbl
    by_cases hk:k < l.length
    ·obtain ⟨g,o,cap,cv,e1,hFg,hC,q0,q1,q2,q3⟩:=(HI.out.below hbl hF0).at k hk
     simp only [Value.slice.injEq,true_and] at e1
     obtain ⟨rfl,rfl⟩:=e1
     have hki:(k:Int) < (l.length:Int):=by omega
     obtain ⟨ca,cc,rfl⟩:=hC.shape
     have hxo:=HO.out _ (List.getElem_mem hk)
     have hat:=itemsE_at l k hk
     have HP:Hid (∀ j,k = j + 1 → ∃ p,(prevI l k).any (fun q=>decide (l[k].name ≤ q)) = decide (l[k].name ≤ p) ∧ wo.cell? ⟨g,o + j * 4 + 1,none⟩ = some (.string (str p))):=by
      rw [hid_iff]
      rintro j rfl
      obtain ⟨g',o',cap',cv',e1,_,_,_,q1',_⟩:=(HI.out.below hbl hF0).at j (by omega)
      simp only [Value.slice.injEq,Option.some.injEq,Addr.mk.injEq,and_true,true_and] at e1
      obtain ⟨⟨rfl,rfl⟩,_⟩:=e1
      have hj:j < l.length:=by omega
      refine ⟨l[j].name,?_,q1'⟩
      simp [prevI,hj]
     have HZ:Hid (k = 0 → (prevI l k).any (fun q=>decide (l[k].name ≤ q)) = false):=by
      rw [hid_iff]
      rintro rfl
      rfl
     rcases hx:l[k] with ⟨kd,nm,ty,cs⟩
     rw [hx] at q0 q1 q2 q3 hC hxo hat HP HZ
     simp only at q0 q1 q2 q3 hC HP HZ
     obtain ⟨_,_,hnm,hty,hcl,hco⟩:=hxo
     simp only at hnm hty hcl hco
     have HT:Hid (∀ y,itemE (prevI l k) ⟨kd,nm,ty,cs⟩ = y → y ≠ 0 → rightI m l = y):=by
      rw [hid_iff]
      intro y hy hy0
      rw [HR.out,hq.out,hat,hy,if_neg hy0]
     have HX:Hid (itemE (prevI l k) ⟨kd,nm,ty,cs⟩ = 0 → Hid (itemsE none l = itemsE (prevI l (k + 1)) (l.drop (k + 1)))):=by
      rw [hid_iff]
      intro hy
      rw [hid_iff,hq.out,hat,if_pos hy]
     obtain ⟨pv,hpv⟩:∃ pv,(prevI l k).any (fun q=>decide (nm ≤ q)) = pv:=⟨_,rfl⟩
     rw [hpv] at HP HZ
     have HPV:=hidden hpv
     clear hx hat hq hpv
     have hb2:Below wo.heap.size wo (wo.alloc (.cells #[.int .i64 kd,.string (str nm),.string (str ty),.slice ca cs.length cc] 77)):=(Below.refl _ _).alloc (Nat.le_refl _) _
     have hN2:=heap_alloc_new wo (.cells #[.int .i64 kd,.string (str nm),.string (str ty),.slice ca cs.length cc] 77)
     have hsz2:=hbl.size
     have HC0:∀ u,Below (wo.alloc (.cells #[.int .i64 kd,.string (str nm),.string (str ty),.slice ca cs.length cc] 77)).heap.size (wo.alloc (.cells #[.int .i64 kd,.string (str nm),.string (str ty),.slice ca cs.length cc] 77)) u → u.cell? ⟨wo.heap.size,0,none⟩ = some (.int .i64 kd) ∧ u.cell? ⟨wo.heap.size,1,none⟩ = some (.string (str nm)) ∧ u.cell? ⟨wo.heap.size,2,none⟩ = some (.string (str ty)) ∧ u.cell? ⟨wo.heap.size,3,none⟩ = some (.slice ca cs.length cc) ∧ u.cell? ⟨w.heap.size,1,none⟩ = some (.slice (some ⟨g,o,none⟩) l.length vc) ∧ Below wo.heap.size wo u ∧ Below w.heap.size w u:=by
      intro u hu
      have hn:=(hu.block wo.heap.size (by simp)).trans hN2
      have hn1:=(hu.block w.heap.size (by simp; omega)).trans ((hb2.block _ (by omega)).trans ((hbl.block _ hs0).trans hN))
      have hbu:Below wo.heap.size wo u:=below_trans hb2 hu
      exact ⟨by rw [cell_of_row u _ 0 _ _ _ hn]; rfl,by rw [cell_of_row u _ 1 _ _ _ hn]; rfl,by rw [cell_of_row u _ 2 _ _ _ hn]; rfl,by rw [cell_of_row u _ 3 _ _ _ hn]; rfl,by rw [cell_of_row u _ 1 _ _ _ hn1]; rfl,hbu,below_trans hbw hbu⟩
     have HC:=hidden HC0
     obtain ⟨_,_,_,_,_,hbz,hbz'⟩:=HC0 _ (Below.refl _ _)
     have hKd:=fun u=>isKind kd u
     have hNm:=isNamed ⟨kd,nm,ty,cs⟩ (.slice ca cs.length cc) (wo.alloc (.cells #[.int .i64 kd,.string (str nm),.string (str ty),.slice ca cs.length cc] 77)) hnm
     unfold itv at hNm
     simp only at hNm
     clear HC0 hN2 hb2
     go_wp2_with fail
     refine (hKd _).mono ?_
     rintro e w2 ⟨rfl,hw2⟩
     obtain rfl:=hw2.symm
     clear q0 q1 q2 q3 hKd
     cases hkd:kindE kd
     ·have HKD:=hidden hkd
      clear HX HP HZ HC hNm hkd
      go_wp2
      show bodyPost Tryz.prog Tryz.f130 (NumB (rightI m l) w) Exit.ret _ _
      go_ret
      exact ⟨by rw [HT.out 12 (iE1 HKD.out) (by decide)]; rfl,hbz'⟩
     ·have HKD:=hidden hkd
      go_wp2_with fail
      generalize wo.alloc (.cells #[.int .i64 kd,.string (str nm),.string (str ty),.slice ca cs.length cc] 77) = w2 at *
      refine hNm.mono ?_
      rintro e w3 ⟨rfl,hb3⟩
      obtain ⟨y0,y1,y2,y3,y4,hb4,hb5⟩:=HC.out w3 hb3
      clear hNm hkd
      cases hnd:namedE ⟨kd,nm,ty,cs⟩
      ·have HND:=hidden hnd
       clear HX HP HZ HC hnd
       go_wp2
       show bodyPost Tryz.prog Tryz.f130 (NumB (rightI m l) w) Exit.ret _ _
       go_ret
       exact ⟨by rw [HT.out 13 (iE2 HKD.out HND.out) (by decide)]; rfl,hb5⟩
      ·have HND:=hidden hnd
       clear hnd
       go_upto_region 18 with fail
       go_cut [41] from 45 to 58 (fun c wx=>c = .bool pv ∧ ∃ n,wx = w3.drewN n)
       case first =>
        cases k with
        | zero =>
         have hz:=HZ.out rfl
         subst hz
         clear HT HX HP HZ HC
         go_region
         all_goals (
          go_wp2_with fail
          go_meet
          exact ⟨rfl,1,rfl⟩)
        | succ j =>
         obtain ⟨p,hp1,hp2⟩:=HP.out j rfl
         have hp3:=(World.cell?_of_block (a:=⟨g,o + j * 4 + 1,none⟩) (hb4.block g (World.block_lt_of_cell? wo _ hp2))).trans hp2
         have hle:=leq_is nm p
         rw [← hp1] at hle
         have hj1:IntKind.i64.wrap (((j + 1:Nat):Int) - 1) = (j:Int):=by rw [IntKind.wrap_i64]; omega
         have hj2:(j:Int) < (l.length:Int):=by omega
         have hj3:(0:Int) < ((j + 1:Nat):Int):=by omega
         clear HT HX HP HZ HC hp1 hp2
         go_region
         all_goals (
          go_wp2_with fail
          go_meet
          exact ⟨rfl,1,rfl⟩)
       case rest =>
        obtain ⟨rfl,n,rfl⟩:=hcut
        have hb5':=below_drewN hb5 n
        have hb3':Below w2.heap.size w2 (w3.drewN n):=below_drewN hb3 n
        clear y0 y1 y2 y3 y4 hb4 hb5 HP HZ
        generalize w3.drewN n = w4 at *
        obtain ⟨y0,y1,y2,y3,y4,hb4,hb5⟩:=HC.out w4 hb3'
        clear hb3 hb3' hb5'
        cases pv
        ·by_cases hk1:kd = 1
         ·subst hk1
          by_cases hty0:ty = []
          ·have hne:=nil_text ty
           rw [decide_eq_true hty0] at hne
           have HTY:=hidden hty0
           clear hty0
           by_cases hc0:cs.length = 0
           ·have hci:((cs.length:Nat):Int) = 0:=by omega
            have hcb:(((cs.length:Nat):Int) == 0) = true:=by simp [hc0]
            go_wp2
            show bodyPost Tryz.prog Tryz.f130 (NumB (rightI m l) w) Exit.ret _ _
            go_ret
            exact ⟨by rw [HT.out 12 (by rw [iE5 HKD.out HND.out HPV.out rfl,if_neg (fun h=>h HTY.out),if_pos hc0]) (by decide)]; rfl,hb5⟩
           ·have hcb:(((cs.length:Nat):Int) == 0) = false:=by rw [beq_eq_false_iff_ne]; omega
            by_cases h6:6 < cs.length
            ·have h6i:(6:Int) < (cs.length:Int):=by omega
             go_wp2
             show bodyPost Tryz.prog Tryz.f130 (NumB (rightI m l) w) Exit.ret _ _
             go_ret
             exact ⟨by rw [HT.out 12 (by rw [iE5 HKD.out HND.out HPV.out rfl,if_neg (fun h=>h HTY.out),if_neg hc0,if_pos h6]) (by decide)]; rfl,hb5⟩
            ·have h6i:¬ (6:Int) < (cs.length:Int):=by omega
             have hCk:∀ u,Below w4.heap.size w4 u → CsR F u (.slice ca cs.length cc) cs:=fun u hu=>hC.below (below_trans hb4 hu) (fun g hg=>Nat.lt_of_lt_of_le (hF0 g hg) hsz2)
             have hFk:∀ g,F g → g < w4.heap.size:=fun g hg=>Nat.lt_of_lt_of_le (hF0 g hg) (Nat.le_trans hsz2 hb4.size)
             have HCK:=hidden hCk
             have HQ:Hid (∀ u,Below w4.heap.size w4 u → u.cell? ⟨wo.heap.size,3,none⟩ = some (.slice ca cs.length cc)):=fun u hu=>(World.cell?_of_block (a:=⟨wo.heap.size,3,none⟩) (hu.block wo.heap.size (World.block_lt_of_cell? w4 _ y3))).trans y3
             have HTc:Hid (∀ y,casesE [] cs = y → y ≠ 0 → rightI m l = y):=by
              rw [hid_iff]
              intro y hy hy0
              exact HT.out y (by rw [iE5 HKD.out HND.out HPV.out rfl,if_neg (fun h=>h HTY.out),if_neg hc0,if_neg h6]; exact hy) hy0
             have HXc:Hid (casesE [] cs = 0 → Hid (itemsE none l = itemsE (prevI l (k + 1)) (l.drop (k + 1)))):=by
              rw [hid_iff]
              intro hy
              exact HX.out (by rw [iE5 HKD.out HND.out HPV.out rfl,if_neg (fun h=>h HTY.out),if_neg hc0,if_neg h6]; exact hy)
             clear HT HX hCk hC HC
             go_wp2
             clear y0 y1 y2 y3 y4
             go_loopg [26,3] cs.length (fun gj i s wr=>∃ (j:Nat),gj + j = cs.length ∧ i = .int .i64 (j:Int) ∧ s = .int .i64 0 ∧ Hid (casesE [] cs = casesE (cs.take j) (cs.drop j)) ∧ Below w4.heap.size w4 wr)
             case atStart=>exact ⟨0,by omega,rfl,rfl,by rw [hid_iff]; rfl,Below.refl _ _⟩
             case round =>
              obtain ⟨j,hgj,rfl,rfl,hqj,hbj⟩:=hrel
              have hbwj:=below_trans hb5 hbj
              by_cases hj:j < cs.length
              ·have hji:(j:Int) < (cs.length:Int):=by omega
               have z3:=HQ.out wr hbj
               have hrc:=rightCase F _ cs j wr (HCK.out wr hbj) (fun g hg=>Nat.lt_of_lt_of_le (hFk g hg) hbj.size) hcl hco hj
               have hca:=casesE_at cs j hj
               by_cases hz:caseE (cs.take j) cs[j] = 0
               ·rw [hz] at hrc
                have HJ:Hid (casesE [] cs = casesE (cs.take (j + 1)) (cs.drop (j + 1))):=by rw [hid_iff,hqj.out,hca,if_pos hz]
                clear hqj hca hz
                go_wp2_with fail
                refine hrc.mono ?_
                rintro e w5 ⟨rfl,hb6⟩
                have hb7:=below_trans hbj hb6
                go_wp2
                go_roundg (cs.length - (j + 1))
                case measure=>omega
                case rel=>exact ⟨j + 1,by omega,by go_num,rfl,HJ,hb7⟩
               ·have HJ:Hid (rightI m l = caseE (cs.take j) cs[j]):=HTc.out _ (by rw [hqj.out,hca,if_neg hz]) hz
                generalize caseE (cs.take j) cs[j] = y at *
                have hyn:((y:Int) != 0) = true:=by simp; omega
                clear hqj hca hz
                go_wp2_with fail
                refine hrc.mono ?_
                rintro e w5 ⟨rfl,hb6⟩
                have hb7:=below_trans hbwj hb6
                go_wp2
                show bodyPost Tryz.prog Tryz.f130 (NumB (rightI m l) w) Exit.ret _ _
                go_ret
                exact ⟨(by rw [HJ.out]; first | done | rfl),hb7⟩
              ·have hji:¬ (j:Int) < (cs.length:Int):=by omega
               have HZZ:Hid (casesE [] cs = 0):=by
                rw [hid_iff,hqj.out,List.drop_of_length_le (by omega)]
                rfl
               have hb8:Below w0.heap.size w0 wr:=below_trans hbl (below_trans hb4 hbj)
               clear hqj
               go_wp2
               go_roundg (l.length - (k + 1))
               case measure=>omega
               case rel=>exact ⟨k + 1,by omega,by go_num,rfl,HXc.out (HZZ.out),hb8⟩
          ·have hne:=nil_text ty
           rw [decide_eq_false hty0] at hne
           go_wp2
           show bodyPost Tryz.prog Tryz.f130 (NumB (rightI m l) w) Exit.ret _ _
           go_ret
           exact ⟨by rw [HT.out 12 (by rw [iE5 HKD.out HND.out HPV.out rfl,if_pos hty0]) (by decide)]; rfl,hb5⟩
         ·have hkn:(kd != 1) = true:=by simp [hk1]
          have hrv:=rightValue F ⟨kd,nm,ty,cs⟩ (.slice ca cs.length cc) w4 (hC.below hb4 (fun g hg=>Nat.lt_of_lt_of_le (hF0 g hg) hsz2)) hty
          unfold itv at hrv
          simp only at hrv
          by_cases hz:valueE ⟨kd,nm,ty,cs⟩ = 0
          ·rw [hz] at hrv
           have HJ:=HX.out (by rw [iE4 HKD.out HND.out HPV.out hk1]; exact hz)
           clear HT HX HC hz hC
           go_wp2_with fail
           refine hrv.mono ?_
           rintro e w5 ⟨rfl,hb6⟩
           have hb7:Below w0.heap.size w0 w5:=below_trans hbl (below_trans hb4 hb6)
           go_wp2
           go_roundg (l.length - (k + 1))
           case measure=>omega
           case rel=>exact ⟨k + 1,by omega,by go_num,rfl,HJ,hb7⟩
          ·have HJ:Hid (rightI m l = valueE ⟨kd,nm,ty,cs⟩):=HT.out _ (iE4 HKD.out HND.out HPV.out hk1) hz
           generalize valueE ⟨kd,nm,ty,cs⟩ = y at *
           have hyn:((y:Int) != 0) = true:=by simp; omega
           clear HT HX HC hz hC
           go_wp2_with fail
           refine hrv.mono ?_
           rintro e w5 ⟨rfl,hb6⟩
           have hb7:=below_trans hb5 hb6
           go_wp2
           show bodyPost Tryz.prog Tryz.f130 (NumB (rightI m l) w) Exit.ret _ _
           go_ret
           exact ⟨(by rw [HJ.out]; first | done | rfl),hb7⟩
        ·go_wp2
         show bodyPost Tryz.prog Tryz.f130 (NumB (rightI m l) w) Exit.ret _ _
         go_ret
         exact ⟨by rw [HT.out 13 (iE3 HKD.out HND.out HPV.out) (by decide)]; rfl,hb5⟩
    ·have hki:¬ (k:Int) < (l.length:Int):=by omega
     have HZ:Hid (rightI m l = 0):=by
      rw [hid_iff,HR.out,hq.out,List.drop_of_length_le (by omega)]
      rfl
     clear hq
     go_wp2
     show bodyPost Tryz.prog Tryz.f130 (NumB (rightI m l) w) Exit.ret _ _
     go_ret
     exact ⟨(by rw [HZ.out]; first | done | rfl),hbw⟩
end Go.Proofs.YtiiepfplommmfaaGreatDoor

namespace Go.Proofs.YtiiepfplommmfaaGreatDoor
open Go.RowKit

end Go.Proofs.YtiiepfplommmfaaGreatDoor

namespace Go.Proofs.YtiiepfplommmfaaGreatDoor
open Go.RowKit

theorem res7 {P : Program} {fn : Func} {p u : Tmp} {ty : TypeId} (h : fn.results = #[.cell p ty, .tmp u]) (tmps : Array Value) (w : World) (g : Nat) (t : TypeId) (cs : Array Value) (fr : Nat × Nat) (d : TypeDesc)
  (hp:tmps.getD p undef = .pointer (some ⟨g,0,none⟩)) (hg:w.heap[g]? = some (.cells cs t fr))
  (hu:P.underlying ty = some d) (hd:(match d with | .struct _ | .array _ _=>true | _=>false) = true) (hi:(P.info? ty).map (·.size) = some cs.size) :
  (results fn tmps).run P w = .ok (.tuple #[.agg cs,tmps.getD u undef]) w:=by
 have hp':tmps[p]?.getD undef = .pointer (some ⟨g,0,none⟩):=by simpa using hp
 simp [results,h,hp',asAddr,run_loadVar_row w g t ty cs fr d hg hu hd hi]
theorem sizeIt:(Tryz.prog.info? 77).map (·.size) = some 4:=by kernel_rfl
theorem setRow_below (w:World) (g:Nat) (cs:Array Value):Below g w (w.setRow g cs):=by
 refine ⟨rfl,rfl,rfl,by simp [World.setRow],fun k hk=>?_⟩
 simp only [World.setRow]
 rw [Array.getElem?_modify,if_neg (by omega)]
end Go.Proofs.YtiiepfplommmfaaGreatDoor

namespace Go.Proofs.YtiiepfplommmfaaGreatDoor
open Go.RowKit

theorem wkept_setRow (w:World) (g:Nat) (cs:Array Value):Wire.Kept (fun k=>k = g) w (w.setRow g cs):=by
 refine ⟨rfl,rfl,rfl,by simp [World.setRow],fun k hk hn=>?_⟩
 simp only [World.setRow]
 rw [Array.getElem?_modify,if_neg (fun e=>hn e.symm)]
end Go.Proofs.YtiiepfplommmfaaGreatDoor

namespace Go.Proofs.YtiiepfplommmfaaGreatDoor.Wire
open Go.RowKit

set_option maxHeartbeats 800000 in
set_option maxRecDepth 1000000 in
theorem refnumber (v : Value) (b0 : Nat) (l : List Nat) (n : Nat) (w : World) (hl : l.length + 10 ≤ 140737488355328) (hn : n < 18446744073709551616) (hv : Rd w b0 v l) :
  Calls Tryz.prog 104 #[v,.int .u64 n] w fun e w'=>∃ v' g,e = .returned v' ∧ Row w' g v' (l ++ enc n) ∧ w.heap.size ≤ g ∧ Kept (fun _=>False) w w':=by
 have hrow:=Row.lit w [] (by simp)
 have hten:=enc_ten n hn
 obtain ⟨ao,c0,hsh⟩:=hv.shape
 subst hsh
 go_enter Tryz.func104,Tryz.ntmps104
 go_wp2_with (at_builtin; refine wpList_append_row _ rfl (.tmp 6) (.tmp 7) 42 42 rfl Tryz.underlying42 Tryz.info5 _ _ [] rfl hrow _ l.length l rfl ?src ?len ?next)
 case src=>exact (hv.alloc _).src Tryz.underlying42
 case len=>simp; omega
 case next =>
  intro v1 w1 g1 hv1 hg1 hat hgr hnil
  have hk1:Kept (fun _=>False) w w1:=((Kept.refl _ w).alloc _).grown hgr (by intro k hk h; simp [Value.ownBlock] at hk; omega)
  obtain ⟨c1,rfl⟩:∃ c,v1 = .slice (some ⟨g1,0,none⟩) l.length c:=by
   rcases hv1.shape with ⟨h,_⟩ | ⟨c,h,_⟩
   ·exact absurd h hnil
   ·exact ⟨c,h⟩
  have hgz:w.heap.size ≤ g1:=by omega
  clear hnil hat hgr hg1 hv hrow
  go_wp2
  go_loopg [1,5] n (fun gk i o wr=>∃ (c g:Nat) (l':List Nat),gk ≤ n ∧ i = .int .u64 gk ∧ o = .slice (some ⟨g,0,none⟩) l'.length c ∧ Hid (l' ++ enc gk = l ++ enc n) ∧ Row wr g o l' ∧ w.heap.size ≤ g ∧ Kept (fun _=>False) w wr)
  case atStart=>exact ⟨c1,g1,l,Nat.le_refl _,rfl,rfl,rfl,hv1,hgz,hk1⟩
  case round =>
   obtain ⟨c,g,l',hgn,rfl,rfl,HE,hr,hg,hK⟩:=hrel
   clear hv1 hgz hk1
   have hll:l'.length + 1 ≤ 140737488355328:=by
    have e1:=congrArg List.length HE.out
    have e2:=enc_pos gk
    simp only [List.length_append] at e1
    omega
   by_cases hlt:128 ≤ gk
   ·go_wp2_with (at_builtin; refine wpList_append_row _ rfl (.tmp 11) (.tmp 16) 42 42 rfl Tryz.underlying42 Tryz.info5 _ g l' rfl (hr.alloc _) _ 1 [gk % 128 + 128] rfl ?src ?len ?next)
    case src =>
     refine Src.ofSlice _ Tryz.underlying42 _ 1 1 _ rfl ?_ (bs_one _)
     simp only [bs,List.map_cons,List.map_nil]
     rw [show ((gk % 128 + 128:Nat):Int) = (gk:Int) % 128 + 128 by omega]
     exact cell_one_new _ _ _
    case len=>simpa using hll
    case next =>
     intro v2 w2 g2 hv2 hg2 hat hgr hnil
     have hK2:Kept (fun _=>False) w w2:=(hK.alloc _).grown hgr (by intro k hk h; simp [Value.ownBlock] at hk; omega)
     have hsz:=hK.size
     obtain ⟨c2,rfl⟩:∃ c,v2 = .slice (some ⟨g2,0,none⟩) (l'.length + 1) c:=by
      rcases hv2.shape with ⟨h,_⟩ | ⟨c,h,_⟩
      ·exact absurd h hnil
      ·exact ⟨c,by simpa using h⟩
     have hgz2:w.heap.size ≤ g2:=by omega
     clear hnil hat hgr hg2
     go_wp2
     go_roundg (gk / 128)
     case measure=>omega
     case rel =>
      refine ⟨c2,g2,l' ++ [gk % 128 + 128],by omega,by go_num,by simp,?_,?_,hgz2,hK2⟩
      ·show _ = _
       rw [← HE.out,enc_big hlt,List.append_assoc]; rfl
      ·simpa using hv2
   ·go_wp2_with (at_builtin; refine wpList_append_row _ rfl (.tmp 20) (.tmp 23) 42 42 rfl Tryz.underlying42 Tryz.info5 _ g l' rfl (hr.alloc _) _ 1 [gk] rfl ?src ?len ?next)
    case src =>
     refine Src.ofSlice _ Tryz.underlying42 _ 1 1 _ rfl ?_ (bs_one _)
     simp only [bs,List.map_cons,List.map_nil]
     exact cell_one_new _ _ _
    case len=>simpa using hll
    case next =>
     intro v2 w2 g2 hv2 hg2 hat hgr hnil
     have hK2:Kept (fun _=>False) w w2:=(hK.alloc _).grown hgr (by intro k hk h; simp [Value.ownBlock] at hk; omega)
     have hsz:=hK.size
     obtain ⟨c2,rfl⟩:∃ c,v2 = .slice (some ⟨g2,0,none⟩) (l'.length + 1) c:=by
      rcases hv2.shape with ⟨h,_⟩ | ⟨c,h,_⟩
      ·exact absurd h hnil
      ·exact ⟨c,by simpa using h⟩
     have hgz2:w.heap.size ≤ g2:=by omega
     clear hnil hat hgr hg2
     go_wp2
     go_ret
     refine ⟨_,g2,rfl,?_,hgz2,hK2⟩
     rw [← HE.out,enc_small (by omega)]
     exact hv2
set_option maxHeartbeats 400000 in
set_option maxRecDepth 1000000 in
theorem reftext (v : Value) (b0 : Nat) (l : List Nat) (s : ByteArray) (w : World) (hl : l.length + s.size + 10 ≤ 140737488355328) (hv : Rd w b0 v l) :
  Calls Tryz.prog 42 #[v,.string s] w fun e w'=>∃ v' g,e = .returned v' ∧ Row w' g v' (l ++ enc s.size ++ s.data.toList.map UInt8.toNat) ∧ w.heap.size ≤ g ∧ Kept (fun _=>False) w w':=by
 have hten:=enc_ten s.size (by omega)
 have hsz:s.size ≤ 140737488355328:=by omega
 go_enter Tryz.func42,Tryz.ntmps42
 go_wp2_with fail
 refine (refnumber v b0 l s.size w (by omega) (by omega) hv).mono ?_
 rintro e w1 ⟨v1,g1,rfl,h1,hg1,hk1⟩
 have hsz1:=hk1.size
 go_wp2_with (at_builtin; refine wpList_append_row _ rfl (.tmp 9) (.tmp 10) 42 9 rfl Tryz.underlying42 Tryz.info5 v1 g1 (l ++ enc s.size) rfl h1 _ s.size (s.data.toList.map UInt8.toNat) rfl ?src ?len ?next)
 case src =>
  have e:bs (s.data.toList.map UInt8.toNat) = byteCells s:=by simp [bs,byteCells]
  rw [e]
  exact Src.ofString w1 Tryz.underlying9 s
 case len=>simp; have:s.data.size = s.size:=rfl; omega
 case next =>
  intro v2 w2 g2 hv2 hg2 hat hgr hnil
  have hK2:Kept (fun _=>False) w w2:=hk1.grown hgr (by
   intro k hk h
   rcases h1.2 with e | e
   ·rw [e] at hk; simp at hk
   ·rw [e] at hk; simp at hk; omega)
  obtain ⟨a2,n2,c2,rfl⟩:∃ a n c,v2 = .slice a n c:=by
   obtain ⟨a,c,h⟩:=hv2.rd.shape
   exact ⟨a,_,c,h⟩
  clear hnil hat hgr
  go_wp2
  go_ret
  refine ⟨_,g2,rfl,?_,by omega,hK2⟩
  rw [List.append_assoc]
  simpa using hv2
end Go.Proofs.YtiiepfplommmfaaGreatDoor.Wire

namespace Go.Proofs.YtiiepfplommmfaaGreatDoor.Wire
open Go.RowKit

theorem step_append_row {P : Program} (w : World) {ops : Array Oper} {o : Oper} {a : Act} {K : Act → World → Prop} {Q : Exit → Act → World → Prop} {E : Prop} (hgd : o.guard = none) (s x : Operand) (t tx : TypeId)
  (ho:o.op = .call { callee := .builtin .append,args:=#[s,x],argTypes:=#[t,tx] }) (ht:P.underlying t = some (.slice 5)) (hinfo:(P.info? 5).map (fun i=>(i.zero,i.size,i.bytes)) = some (some (.int .u8 0),1,1))
  (v:Value) (g:Nat) (l:List Nat) (hs:a.eval s = v) (hv:Row w g v l) (xv:Value) (m:Nat) (news:List Nat) (hx:a.eval x = xv) (hsrc:Src P 1 tx xv m (bs news) w) (hlen:l.length + news.length ≤ 140737488355328)
  (h:∀ v' w' g',Row w' g' v' (l ++ news) → (g' = g ∨ g' < w'.heap.size ∧ w.heap.size ≤ g') → (v'.ownBlock = v.ownBlock ∨ v'.ownBlock = some w.heap.size) → w.grownBy w' v.ownBlock → (v' = .slice none 0 0 ↔ v = .slice none 0 0 ∧ news = []) → K (a.put o.dst v') w') :
  if Region.wanted o (yielded ops a.tmps) = true then Oper.wp P o a w K Q else E:=by
 have hw:Region.wanted o (yielded ops a.tmps) = true:=by simp [Region.wanted,hgd]
 rw [if_pos hw]
 obtain ⟨v',w',hr,h2,h3,h4,h5⟩:=run_append_row (P:=P) w t tx o.type ht hinfo hv hsrc hlen
 unfold Oper.wp execOp
 simp only [ho,resolve,invoke,builtin,Sem.run_bind,Sem.run_pure,Result.andThen_ok,List.map_toArray,List.map_cons,List.map_nil,hs,hx,hr]
 rcases h3 with e | e
 ·exact h v' w' g ⟨h2,by rw [e]; exact hv.2⟩ (Or.inl rfl) (Or.inl e) h4 h5
 ·exact h v' w' w.heap.size ⟨h2,Or.inr e⟩ (Or.inr ⟨(h2.lt _ e).2,Nat.le_refl _⟩) (Or.inr e) h4 h5
theorem Rd.addr2 {w:World} {b:Nat} {v:Value} {l:List Nat} (h:Rd w b v l) (hl:0 < l.length):∃ off cap,v = .slice (some ⟨b,off,none⟩) l.length cap ∧ ∀ s c,s ≤ l.length → Rd w b (.slice (some ⟨b,off,none⟩) s c) (l.take s):=by
 rcases h with ⟨_,rfl⟩ | ⟨a,cap,rfl,rfl,hc⟩
 ·simp at hl
 ·obtain ⟨ab,ao,asp⟩:=a
  have h0:=hc 0 ((bs l)[0]'(by rw [bs_length]; exact hl)) (List.getElem?_eq_getElem _)
  have hsp:asp = none:=by simpa [Addr.add] using World.cell?_spot h0
  subst hsp
  refine ⟨ao,cap,rfl,fun s c hs => .inr ⟨⟨ab,ao,none⟩,c,?_,rfl,fun j u hu=>hc j u ?_⟩⟩
  ·rw [List.length_take,Nat.min_eq_left hs]
  ·rw [bs,List.map_take,List.getElem?_take] at hu
   split at hu
   ·exact hu
   ·simp at hu
theorem Rd.sub {w:World} {b0 off c:Nat} {l:List Nat} (h:Rd w b0 (.slice (some ⟨b0,off,none⟩) l.length c) l) (A m k0 c':Nat) (hm:A + m ≤ l.length) (hk:k0 = A → m = 0):Rd w b0 (.slice (if k0 = A then some ⟨b0,off,none⟩ else some ⟨b0,off + A,none⟩) m c') ((l.drop A).take m):=by
 have hlen:((l.drop A).take m).length = m:=by simp; omega
 have hc:∀ j u,(bs l)[j]? = some u → w.cell? ((⟨b0,off,none⟩:Addr).add j) = some u:=by
  rcases h with ⟨h,_⟩ | ⟨a,cap,h,_,hc⟩
  ·simp at h
  ·simp at h
   rw [h.1]
   exact hc
 by_cases e:k0 = A
 ·have hm0:=hk e
  subst hm0
  rw [if_pos e]
  exact .inr ⟨_,c',by rw [hlen],rfl,fun j u hu=>by simp [bs] at hu⟩
 ·rw [if_neg e]
  refine .inr ⟨_,c',by rw [hlen],rfl,fun j u hu=>?_⟩
  have hj:j < m:=by
   have:=(List.getElem?_eq_some_iff.1 hu).1
   rw [bs_length,hlen] at this
   exact this
  have e1:(⟨b0,off + A,none⟩:Addr).add j = (⟨b0,off,none⟩:Addr).add (A + j):=by
   unfold Addr.add
   split <;> split <;> simp_all <;> omega
  rw [e1]
  refine hc (A + j) u ?_
  rw [bs,List.getElem?_map,List.getElem?_take,if_pos hj,List.getElem?_drop] at hu
  rw [bs,List.getElem?_map]
  exact hu
theorem Rd.shape3' {w:World} {b:Nat} {v:Value} {l:List Nat} (h:Rd w b v l):∃ a n c,v = .slice a n c:=by
 obtain ⟨a,c,e⟩:=h.shape
 exact ⟨a,_,c,e⟩
theorem Rd.keptE {S:Nat → Prop} {w w':World} {b:Nat} {v:Value} {l:List Nat} (h:Rd w b v l) (k:Kept S w w') (hb:S b → l = []):Rd w' b v l:=by
 by_cases hS:S b
 ·have hl:=hb hS
  subst hl
  rcases h with h | ⟨a,cap,h1,h2,_⟩
  ·exact .inl h
  ·exact .inr ⟨a,cap,h1,h2,fun j u hu=>by simp [bs] at hu⟩
 ·exact h.kept k hS
def QBox (w:World) (b:Nat) (bv:Value) (A:Nat) (r:Bool) (Y Z:Nat):Prop:=Box w b #[bv,.int .i64 A,.bool r,.int .i64 Y,.int .i64 Z]
def QIs (w:World) (b b0:Nat) (bv:Value) (l:List Nat) (p why:Nat):Prop:=∃ A r Y Z,QBox w b bv A r Y Z ∧ Rd w b0 bv l ∧ (b = b0 → l = []) ∧ A ≤ l.length ∧ ((why = 0 ∧ r = false ∧ A = p) ∨ (why ≠ 0 ∧ r = true ∧ Y = why ∧ Z = p))
theorem QIs.kept {S:Nat → Prop} {w w':World} {b b0:Nat} {bv:Value} {l:List Nat} {p why:Nat} (h:QIs w b b0 bv l p why) (k:Kept S w w') (hb:¬ S b) (hb0:S b0 → l = []):QIs w' b b0 bv l p why:=by
 obtain ⟨A,r,Y,Z,h1,h2,h3,h4,h5⟩:=h
 exact ⟨A,r,Y,Z,Box.kept h1 k hb,h2.keptE k hb0,h3,h4,h5⟩
theorem QIs.lt {w:World} {b b0:Nat} {bv:Value} {l:List Nat} {p why:Nat} (h:QIs w b b0 bv l p why):b < w.heap.size:=by
 obtain ⟨A,r,Y,Z,h1,_⟩:=h
 exact Box.lt h1
theorem qcells {w:World} {b:Nat} {bv:Value} {A:Nat} {r:Bool} {Y Z:Nat} (h:QBox w b bv A r Y Z):w.cell? ⟨b,0,none⟩ = some bv ∧ w.cell? ⟨b,1,none⟩ = some (.int .i64 A) ∧ w.cell? ⟨b,2,none⟩ = some (.bool r) ∧ w.cell? ⟨b,3,none⟩ = some (.int .i64 Y) ∧ w.cell? ⟨b,4,none⟩ = some (.int .i64 Z) ∧ ∀ i,w.frozen? ⟨b,i,none⟩ = false :=
 ⟨Box.cell h 0,Box.cell h 1,Box.cell h 2,Box.cell h 3,Box.cell h 4,fun i=>Box.frozen h i⟩
set_option maxHeartbeats 800000 in
theorem qrefuse (y z b : Nat) (bv : Value) (A : Nat) (r : Bool) (Y Z : Nat) (w : World) (hq : QBox w b bv A r Y Z) :
  Calls Tryz.prog 126 #[.pointer (some ⟨b,0,none⟩),.int .i64 y,.int .i64 z] w fun e w'=>e = .returned (.tuple #[]) ∧ QBox w' b bv A true (if r then Y else y) (if r then Z else z) ∧ Kept (fun k=>k = b) w w':=by
 obtain ⟨c0,c1,c2,c3,c4,hf⟩:=qcells hq
 have f2:=hf 2
 have f3:=hf 3
 have f4:=hf 4
 clear hf
 cases r with
 | true =>
  go_enter Tryz.func126,Tryz.ntmps126
  go_wp2
  go_end0
  exact ⟨rfl,hq,Kept.refl _ _⟩
 | false =>
  go_enter Tryz.func126,Tryz.ntmps126
  go_wp2
  go_end0
  exact ⟨rfl,((hq.set 2 (.bool true)).set 3 (.int .i64 y)).set 4 (.int .i64 z),((kept_set w b 2 _).trans (kept_set _ b 3 _) (fun _ _ h=>h) (fun _ _ h=>h)).trans (kept_set _ b 4 _) (fun _ _ h=>h) (fun _ _ h=>h)⟩
def QRaw (w':World) (b:Nat) (bv:Value) (l:List Nat) (A:Nat) (r:Bool) (Y Z:Nat) (n:Int) (l':List Nat):Prop :=
 ((r = true ∨ n < 0) ∧ l' = [] ∧ QBox w' b bv A r Y Z) ∨ (r = false ∧ 0 ≤ n ∧ ((l.length - A:Nat):Int) < n ∧ l' = [] ∧ QBox w' b bv A true 10 l.length) ∨ (r = false ∧ 0 ≤ n ∧ n ≤ ((l.length - A:Nat):Int) ∧ l' = (l.drop A).take n.toNat ∧ QBox w' b bv (A + n.toNat) false Y Z)
def QRawE (w:World) (b:Nat) (bv:Value) (l:List Nat) (A:Nat) (r:Bool) (Y Z:Nat) (n:Int) (e:Ending) (w':World):Prop :=
 ∃ v' g l',e = .returned v' ∧ Row w' g v' l' ∧ w.heap.size ≤ g ∧ Kept (fun k=>k = b) w w' ∧ QRaw w' b bv l A r Y Z n l'
set_option maxHeartbeats 1600000 in
set_option maxRecDepth 1000000 in
theorem qraw_box (n : Int) (b b0 : Nat) (bv : Value) (l : List Nat) (A : Nat) (r : Bool) (Y Z : Nat) (w : World) (hn : n < 9223372036854775808) (hl : l.length ≤ 140737488351232) (hA : A ≤ l.length) (hq : QBox w b bv A r Y Z) (hrd : Rd w b0 bv l) (hcap : ∃ a m c, bv = .slice a m c ∧ m ≤ c ∧ c ≤ maxLen) :
  Calls Tryz.prog 62 #[.pointer (some ⟨b,0,none⟩),.int .i64 n] w (QRawE w b bv l A r Y Z n):=by
 obtain ⟨c0,c1,c2,c3,c4,hf⟩:=qcells hq
 obtain ⟨a0,m0,k0,rfl,hmc,hcm⟩:=hcap
 have hm0:m0 = l.length:=by
  obtain ⟨a,c,h⟩:=hrd.shape
  simp at h
  exact h.2.1
 subst hm0
 by_cases h0:r = true ∨ n < 0
 ·rcases h0 with rfl | h0
  ·go_enter Tryz.func62,Tryz.ntmps62
   go_wp2
   go_ret
   exact ⟨_,w.heap.size,[],rfl,Row.nil _ _,Nat.le_refl _,Kept.refl _ _,.inl ⟨Or.inl rfl,rfl,hq⟩⟩
  ·cases r
   all_goals
    go_enter Tryz.func62,Tryz.ntmps62
    go_wp2
    go_ret
    exact ⟨_,w.heap.size,[],rfl,Row.nil _ _,Nat.le_refl _,Kept.refl _ _,.inl ⟨Or.inr h0,rfl,hq⟩⟩
 ·obtain ⟨hr,hn0⟩:r = false ∧ 0 ≤ n:=by
   refine ⟨?_,by omega⟩
   cases r with
   | true=>exact absurd (Or.inl rfl) h0
   | false=>rfl
  subst hr
  clear h0
  by_cases hlt:(l.length:Int) - A < n
  ·go_enter Tryz.func62,Tryz.ntmps62
   go_wp2
   go_quiet (fail)
   go_wp2_with fail
   refine (qrefuse 10 l.length b _ A false Y Z _ (Box.kept hq (kept_drewN w _) (fun h=>h))).mono ?_
   rintro e w' ⟨rfl,h1,h2⟩
   go_wp2
   go_ret
   have hk:=(kept_drewN w _).trans h2 (fun _ _ h=>h.elim) (fun _ _ h=>h)
   exact ⟨_,w'.heap.size,[],rfl,Row.nil _ _,hk.size,hk,.inr (.inl ⟨rfl,hn0,by omega,rfl,h1⟩)⟩
  ·have hf1:=hf 1
   have hlen:((l.drop A).take n.toNat).length = n.toNat:=by simp; omega
   by_cases hne:0 < l.length
   ·obtain ⟨off,cap,hbv,hsub⟩:=hrd.addr2 hne
    simp only [Value.slice.injEq,true_and] at hbv
    obtain ⟨rfl,rfl⟩:=hbv
    unfold maxLen at hcm
    clear hsub
    have hpm:(A:Int) + n ≤ l.length:=by omega
    have hpk:(A:Int) + n ≤ k0:=by omega
    have hA0:(0:Int) ≤ A:=by omega
    have hAn:(A:Int) ≤ A + n:=by omega
    have hwrap:IntKind.i64.wrap ((A:Int) + n) = A + n:=by rw [IntKind.wrap_i64]; omega
    go_enter Tryz.func62,Tryz.ntmps62
    go_wp2
    go_quiet (fail)
    go_wp2
    have hqa:QBox (w.drewN nq) b (.slice (some ⟨b0,off,none⟩) l.length k0) A false Y Z:=hq
    have hrda:Rd (w.drewN nq) b0 (.slice (some ⟨b0,off,none⟩) l.length k0) l:=hrd
    have hka:=kept_drewN w nq
    clear c0 c1 c2 c3 c4 hf hf1 hq hrd
    obtain ⟨c0,c1,c2,c3,c4,hf⟩:=qcells hqa
    generalize w.drewN nq = wq at hqa hrda hka c0 c1 c2 c3 c4 hf ⊢
    have hrow0:Row (wq.alloc (.cells #[] 5)).drew wq.heap.size (.slice (some ⟨wq.heap.size,0,none⟩) 0 0) []:=Row.lit wq [] (by simp)
    have hbq:=Box.lt hqa
    have hsrc0:Src Tryz.prog 1 42 (.slice (if k0 = A then some ⟨b0,off,none⟩ else some ⟨b0,off + A,none⟩) (((A:Int) + n).toNat - A) (k0 - A)) ((l.drop A).take n.toNat).length (bs ((l.drop A).take n.toNat)) (wq.alloc (.cells #[] 5)).drew:=by
     have h:=Rd.sub (hrda.alloc (.cells #[] 5)) A n.toNat k0 (k0 - A) (by omega) (by omega)
     rw [show ((A:Int) + n).toNat - A = n.toNat by omega]
     exact Rd.src (w:=(wq.alloc (.cells #[] 5)).drew) h Tryz.underlying42
    have hlen0:([]:List Nat).length + ((l.drop A).take n.toNat).length ≤ 140737488355328:=by rw [hlen]; simp; omega
    go_region_held3 (fun u=>u.cell? ⟨b,0,none⟩ = some (.slice (some ⟨b0,off,none⟩) l.length k0) ∧ u.cell? ⟨b,1,none⟩ = some (.int .i64 A)) (first | go_keep | exact ⟨by assumption,by assumption⟩) ((refine step_append_row _ (by rfl) (.tmp 33) (.tmp 48) 42 42 (by rfl) Tryz.underlying42 Tryz.info5 _ _ [] (by rfl) hrow0 _ _ ((l.drop A).take n.toNat) (by rfl) hsrc0 hlen0 ?_; intro v1 w1 g1 hr1 hg1 hat1 hgr1 hnil1; have hk1:Kept (fun _=>False) wq w1:=(((Kept.refl _ wq).alloc (.cells #[] 5)).drew).grown hgr1 (fun k hk h=>by simp [Value.ownBlock] at hk; omega); have e0:=hk1.cell c0 (fun h=>h); have e1:=hk1.cell c1 (fun h=>h)))
    have hq1:QBox w1 b (.slice (some ⟨b0,off,none⟩) l.length k0) A false Y Z:=Box.kept hqa hk1 (fun h=>h)
    have hf1:=Box.frozen hq1 1
    have hne1:v1.ownBlock ≠ some b:=by
     intro h
     rcases hat1 with e | e
     ·rw [e] at h; simp [Value.ownBlock] at h; omega
     ·rw [e] at h; simp at h; omega
    have hgz:w.heap.size ≤ g1:=by
     have:=hka.size
     simp at hg1
     omega
    obtain ⟨a1,n1,c1',rfl⟩:=hr1.rd.shape3'
    have hk2:=(hka.trans hk1 (fun _ _ h=>h) (fun _ _ h=>h)).trans (kept_set w1 b 1 (.int .i64 ((A:Int) + n))) (U:=fun k=>k = b) (fun _ _ h=>h.elim) (fun _ _ h=>h)
    clear hnil1 hat1 hgr1 hsrc0
    generalize (if k0 = A then some (⟨b0,off,none⟩:Addr) else some ⟨b0,off + A,none⟩) = aopt
    go_wp2
    go_ret
    refine ⟨_,g1,_,rfl,Row.set hr1 hne1 1 _,hgz,hk2,.inr (.inr ⟨rfl,hn0,by omega,rfl,?_⟩)⟩
    have hset:=Box.set hq1 1 (.int .i64 ((A:Int) + n))
    unfold QBox
    rw [show ((A + n.toNat:Nat):Int) = (A:Int) + n by omega]
    exact hset
   ·have hl0:l = []:=List.eq_nil_of_length_eq_zero (by omega)
    subst hl0
    obtain rfl:A = 0:=by simpa using hA
    obtain rfl:n = 0:=by simp at hlt; omega
    have hwrap:IntKind.i64.wrap (0 + 0) = 0:=by decide
    have hwrap0:IntKind.i64.wrap 0 = 0:=by decide
    unfold maxLen at hcm
    have hk00:(0:Int) ≤ k0:=by omega
    have hshape:(a0 = none ∧ k0 = 0) ∨ ∃ a,a0 = some a:=by
     rcases hrd with ⟨h,_⟩ | ⟨a,cap,h,_⟩
     ·simp at h; exact .inl h
     ·simp at h; exact .inr ⟨a,h.1⟩
    rcases hshape with ⟨rfl,rfl⟩ | ⟨a,rfl⟩
    ·go_enter Tryz.func62,Tryz.ntmps62
     go_wp2
     go_quiet (fail)
     go_wp2
     have hqa:QBox (w.drewN nq) b (.slice none 0 0) 0 false Y Z:=hq
     have hka:=kept_drewN w nq
     clear c0 c1 c2 c3 c4 hf hf1 hq hrd
     obtain ⟨c0,c1,c2,c3,c4,hf⟩:=qcells hqa
     have c1':(w.drewN nq).cell? ⟨b,1,none⟩ = some (.int .i64 0):=c1
     clear c1
     have c1:=c1'
     clear c1'
     generalize w.drewN nq = wq at hqa hka c0 c1 c2 c3 c4 hf ⊢
     have hbq:=Box.lt hqa
     have hrow0:Row (wq.alloc (.cells #[] 5)).drew wq.heap.size (.slice (some ⟨wq.heap.size,0,none⟩) 0 0) []:=Row.lit wq [] (by simp)
     go_region_held3 (fun u=>u.cell? ⟨b,0,none⟩ = some (.slice none 0 0) ∧ u.cell? ⟨b,1,none⟩ = some (.int .i64 0)) (first | go_keep | exact ⟨by assumption,by assumption⟩) ((refine step_append_row _ (by rfl) (.tmp 33) (.tmp 48) 42 42 (by rfl) Tryz.underlying42 Tryz.info5 _ _ [] (by rfl) hrow0 _ 0 [] (by rfl) (Src.ofNil _ Tryz.underlying42 0) (by simp) ?_; intro v1 w1 g1 hr1 hg1 hat1 hgr1 hnil1; have hk1:Kept (fun _=>False) wq w1:=(((Kept.refl _ wq).alloc (.cells #[] 5)).drew).grown hgr1 (fun k hk h=>by simp [Value.ownBlock] at hk; omega); have e0:=hk1.cell c0 (fun h=>h); have e1:=hk1.cell c1 (fun h=>h)))
     have hq1:QBox w1 b (.slice none 0 0) 0 false Y Z:=Box.kept hqa hk1 (fun h=>h)
     have hf1:=Box.frozen hq1 1
     have hne1:v1.ownBlock ≠ some b:=by
      intro h
      rcases hat1 with e | e
      ·rw [e] at h; simp [Value.ownBlock] at h; omega
      ·rw [e] at h; simp at h; omega
     have hgz:w.heap.size ≤ g1:=by
      have:=hka.size
      simp at hg1
      omega
     obtain ⟨a1,n1,c1',rfl⟩:=hr1.rd.shape3'
     have hk2:=(hka.trans hk1 (fun _ _ h=>h) (fun _ _ h=>h)).trans (kept_set w1 b 1 (.int .i64 0)) (U:=fun k=>k = b) (fun _ _ h=>h.elim) (fun _ _ h=>h)
     clear hnil1 hat1 hgr1
     go_wp2
     go_ret
     exact ⟨_,g1,_,rfl,Row.set hr1 hne1 1 _,hgz,hk2,.inr (.inr ⟨rfl,hn0,by simp,rfl,Box.set hq1 1 (.int .i64 0)⟩)⟩
    ·go_enter Tryz.func62,Tryz.ntmps62
     go_wp2
     go_quiet (fail)
     go_wp2
     have hqa:QBox (w.drewN nq) b (.slice (some a) 0 k0) 0 false Y Z:=hq
     have hka:=kept_drewN w nq
     clear c0 c1 c2 c3 c4 hf hf1 hq hrd
     obtain ⟨c0,c1,c2,c3,c4,hf⟩:=qcells hqa
     have c1':(w.drewN nq).cell? ⟨b,1,none⟩ = some (.int .i64 0):=c1
     clear c1
     have c1:=c1'
     clear c1'
     generalize w.drewN nq = wq at hqa hka c0 c1 c2 c3 c4 hf ⊢
     have hbq:=Box.lt hqa
     have hrow0:Row (wq.alloc (.cells #[] 5)).drew wq.heap.size (.slice (some ⟨wq.heap.size,0,none⟩) 0 0) []:=Row.lit wq [] (by simp)
     go_region_held3 (fun u=>u.cell? ⟨b,0,none⟩ = some (.slice (some a) 0 k0) ∧ u.cell? ⟨b,1,none⟩ = some (.int .i64 0)) (first | go_keep | exact ⟨by assumption,by assumption⟩) ((refine step_append_row _ (by rfl) (.tmp 33) (.tmp 48) 42 42 (by rfl) Tryz.underlying42 Tryz.info5 _ _ [] (by rfl) hrow0 _ 0 [] (by rfl) (Src.ofSlice _ Tryz.underlying42 a 0 _ [] rfl (fun j u hu=>by simp at hu) (fun u hu=>by simp at hu)) (by simp) ?_; intro v1 w1 g1 hr1 hg1 hat1 hgr1 hnil1; have hk1:Kept (fun _=>False) wq w1:=(((Kept.refl _ wq).alloc (.cells #[] 5)).drew).grown hgr1 (fun k hk h=>by simp [Value.ownBlock] at hk; omega); have e0:=hk1.cell c0 (fun h=>h); have e1:=hk1.cell c1 (fun h=>h)))
     have hq1:QBox w1 b (.slice (some a) 0 k0) 0 false Y Z:=Box.kept hqa hk1 (fun h=>h)
     have hf1:=Box.frozen hq1 1
     have hne1:v1.ownBlock ≠ some b:=by
      intro h
      rcases hat1 with e | e
      ·rw [e] at h; simp [Value.ownBlock] at h; omega
      ·rw [e] at h; simp at h; omega
     have hgz:w.heap.size ≤ g1:=by
      have:=hka.size
      simp at hg1
      omega
     obtain ⟨a1,n1,c1',rfl⟩:=hr1.rd.shape3'
     have hk2:=(hka.trans hk1 (fun _ _ h=>h) (fun _ _ h=>h)).trans (kept_set w1 b 1 (.int .i64 0)) (U:=fun k=>k = b) (fun _ _ h=>h.elim) (fun _ _ h=>h)
     clear hnil1 hat1 hgr1
     go_wp2
     go_ret
     exact ⟨_,g1,_,rfl,Row.set hr1 hne1 1 _,hgz,hk2,.inr (.inr ⟨rfl,hn0,by simp,rfl,Box.set hq1 1 (.int .i64 0)⟩)⟩
end Go.Proofs.YtiiepfplommmfaaGreatDoor.Wire
