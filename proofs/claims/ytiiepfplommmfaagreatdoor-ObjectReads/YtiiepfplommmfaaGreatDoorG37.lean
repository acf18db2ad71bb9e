/-
  The document's own bytes of an interface: cases, an item, the whole: their walks.
  And: The document's own objects: numbers and texts behind bytes.
-/
import Derived.Deep.RegionHeld3
import Derived.Test.YtiiepfplommmfaaGreatDoorG16
import Derived.Test.YtiiepfplommmfaaGreatDoorG09
import Derived.Test.YtiiepfplommmfaaGreatDoorG07
import Derived.Test.YtiiepfplommmfaaGreatDoorG08
import Derived.Test.YtiiepfplommmfaaGreatDoorG11
namespace Go.Proofs.YtiiepfplommmfaaGreatDoor
open Go.RowKit

def RwE (L:List Nat) (w:World) (e:Ending) (w':World):Prop:=∃ v g,e = .returned v ∧ Wire.Row w' g v L ∧ w.heap.size ≤ g ∧ Below w.heap.size w w'
theorem rN (u:World) (v:Value) (b0:Nat) (L:List Nat) (n:Nat) (hv:Wire.Rd u b0 v L) (hl:L.length ≤ 1000000000) (hn:n ≤ 1000000000):Calls Tryz.prog 104 #[v,.int .u64 (n:Int)] u (RwE (L ++ Wire.enc n) u):=by
 refine (Wire.refnumber v b0 L n u (by omega) (by omega) hv).mono ?_
 rintro e w' ⟨v',g,rfl,h1,h2,h3⟩
 exact ⟨v',g,rfl,h1,h2,h3.below (Nat.le_refl _) (fun _ _ h=>h)⟩
theorem rT (u:World) (v:Value) (b0:Nat) (L:List Nat) (x:List UInt8) (hv:Wire.Rd u b0 v L) (hl:L.length ≤ 1000000000) (hn:x.length ≤ 1000000000):Calls Tryz.prog 42 #[v,.string (str x)] u (RwE (L ++ txtB x) u):=by
 refine (Wire.reftext v b0 L (str x) u (by rw [str_size]; omega) hv).mono ?_
 rintro e w' ⟨v',g,rfl,h1,h2,h3⟩
 rw [List.append_assoc] at h1
 exact ⟨v',g,rfl,h1,h2,h3.below (Nat.le_refl _) (fun _ _ h=>h)⟩
theorem rdV {w w':World} {b:Nat} {v:Value} {l:List Nat} (h:Wire.Rd w b v l) (k:Below w.heap.size w w'):Wire.Rd w' b v l:=by
 rcases h with h | ⟨a,cap,h1,h2,h3⟩
 ·exact .inl h
 ·refine .inr ⟨a,cap,h1,h2,fun j u hj=>?_⟩
  have:=h3 j u hj
  rw [k.cell (World.block_lt_of_cell? w _ this)]
  exact this
theorem rowRd {w w':World} {g:Nat} {v:Value} {L:List Nat} (h:Wire.Row w g v L) (k:Below w.heap.size w w'):Wire.Rd w' g v L:=by
 rcases h.rd with h | ⟨a,cap,h1,h2,h3⟩
 ·exact .inl h
 ·refine .inr ⟨a,cap,h1,h2,fun j u hj=>?_⟩
  have:=h3 j u hj
  rw [k.cell (World.block_lt_of_cell? w _ this)]
  exact this
theorem wrapU (n:Nat) (h:n ≤ 1000000000):IntKind.u64.wrap ((n:Nat):Int) = (n:Int):=by simp [IntKind.wrap,IntKind.bits,IntKind.signed]; omega
theorem fields_sz (fs:List (List UInt8)) (h:∀ f ∈ fs,f.length ≤ 200) (hn:fs.length ≤ 4) (k:Nat):(fieldsB (fs.take k)).length ≤ 840:=by
 have h1:=fieldsB_le fs k
 have h2:=fields_len fs h
 omega
theorem case_sz {c:Cs} (h:CsS c):(caseB c).length ≤ 1000:=by
 have h5:=h.1
 have h6:=txtB_len c.1 (by omega)
 have h7:=fields_len c.2 h.2.2
 have h8:=Wire.enc_ten c.2.length (by have:=h.2.1; omega)
 have:=h.2.1
 simp only [caseB,List.length_append]
 omega
theorem cases_sz:∀ (cs:List Cs),(∀ c ∈ cs,CsS c) → (casesB cs).length ≤ 1000 * cs.length
 | [],_=>by simp [casesB]
 | c :: r,h=>by
  have h1:=case_sz (h c (by simp))
  have h2:=cases_sz r (fun d hd=>h d (by simp [hd]))
  simp only [casesB,List.length_append,List.length_cons]
  omega
set_option maxHeartbeats 1000000 in
set_option maxRecDepth 1000000 in
theorem refCasesB (F : Nat → Prop) (v : Value) (b0 : Nat) (L : List Nat) (cv : Value) (cs : List Cs) (w : World) (hv : Wire.Rd w b0 v L) (hC : CsR F w cv cs) (hF : ∀ g, F g → g < w.heap.size) (hs : ∀ c ∈ cs, CsS c) (hn : cs.length ≤ 6) (hL : L.length ≤ 100000000) :
  Calls Tryz.prog 105 #[v,cv] w (RwE (L ++ (Wire.enc cs.length ++ casesB cs)) w):=by
 obtain ⟨ca,cc,rfl⟩:=hC.shape
 have hnum:=rN w v b0 L cs.length hv (by omega) (by omega)
 have hw:=wrapU cs.length (by omega)
 have hsz:=cases_sz cs hs
 have hten:=Wire.enc_ten cs.length (by omega)
 have hh:=hidden hC
 have HS:=hidden hs
 obtain ⟨va,vn,hvs⟩:=hv.shape
 subst hvs
 clear hv hC hs
 go_enter Tryz.func105,Tryz.ntmps105
 go_wp2_with fail
 refine hnum.mono ?_
 rintro e w1 ⟨v1,g1,rfl,hr1,hf1,hb1⟩
 go_wp2
 go_loopg [0,5] cs.length (fun gk a i wr=>∃ (k g:Nat),gk + k = cs.length ∧ i = .int .i64 (k:Int) ∧ Wire.Row wr g a (L ++ (Wire.enc cs.length ++ casesB (cs.take k))) ∧ w.heap.size ≤ g ∧ Below w.heap.size w wr)
 case atStart=>exact ⟨0,g1,by omega,rfl,by simpa [casesB] using hr1,hf1,hb1⟩
 case round =>
  obtain ⟨k,g,hg,rfl,hrow,hgf,hbr⟩:=hrel
  rename World=>wo
  have hsr:=hbr.size
  by_cases hk:k < cs.length
  ·have hCo:=hh.out.below hbr hF
   obtain ⟨gc,oc,dc,fv,e1,_,hFg,hT,q0,q1⟩:=hCo.at k hk
   simp only [Value.slice.injEq,true_and] at e1
   obtain ⟨rfl,rfl⟩:=e1
   have hki:(k:Int) < (cs.length:Int):=by omega
   have hcs:=HS.out _ (List.getElem_mem hk)
   have hat:=casesB_at cs k hk
   have hle:=casesB_le cs k
   obtain ⟨fa,fc,rfl⟩:=hT.shape
   clear hh HS
   generalize cs[k] = c at *
   obtain ⟨nm,fs⟩:=c
   simp only at hT q0 q1 hcs
   have hnm:=hcs.1
   have hfn:=hcs.2.1
   have hff:=hcs.2.2
   simp only at hnm hfn hff
   have hwf:=wrapU fs.length (by omega)
   have hgl:gc < wo.heap.size:=Nat.lt_of_lt_of_le (hF gc hFg) hsr
   have hS:∀ u,Below wo.heap.size wo u → u.cell? ⟨gc,oc + k * 2,none⟩ = some (.string (str nm)) ∧ u.cell? ⟨gc,oc + k * 2 + 1,none⟩ = some (.slice fa fs.length fc):=fun u hu=>by
    have b1:=hu.block gc hgl
    exact ⟨(World.cell?_of_block (a:=⟨gc,oc + k * 2,none⟩) b1).trans q0,(World.cell?_of_block (a:=⟨gc,oc + k * 2 + 1,none⟩) b1).trans q1⟩
   have hln:(L ++ (Wire.enc cs.length ++ casesB (cs.take k))).length ≤ 101010000:=by simp only [List.length_append]; omega
   generalize hLL:L ++ (Wire.enc cs.length ++ casesB (cs.take k)) = LL at *
   have hTx:∀ u,Below wo.heap.size wo u → Calls Tryz.prog 42 #[_,.string (str nm)] u (RwE (LL ++ txtB nm) u):=fun u hu=>rT u _ g LL nm (rowRd hrow hu) (by omega) (by omega)
   have htl:=txtB_len nm (by omega)
   have hNu:∀ u v2 g2,Wire.Row u g2 v2 (LL ++ txtB nm) → Calls Tryz.prog 104 #[v2,.int .u64 (fs.length:Int)] u (RwE ((LL ++ txtB nm) ++ Wire.enc fs.length) u):=fun u v2 g2 h=>rN u v2 g2 _ fs.length h.rd (by simp only [List.length_append]; omega) (by omega)
   obtain ⟨oa,on,hos⟩:=hrow.rd.shape
   subst hos
   have G0:Below wo.heap.size wo wo.drew:=(Below.refl _ _).drew
   have HLL:=hidden hLL
   clear hLL
   go_upto_region 5 with fail
   go_cut [0] from 12 to 52 (fun a wx=>∃ g3,Wire.Row wx g3 a ((LL ++ txtB nm) ++ Wire.enc fs.length) ∧ wo.heap.size ≤ g3 ∧ Below wo.heap.size wo wx)
   case first =>
    clear hat hle hT hCo HLL
    go_region_held3 (fun u=>u.cell? ⟨gc,oc + k * 2,none⟩ = some (.string (str nm)) ∧ u.cell? ⟨gc,oc + k * 2 + 1,none⟩ = some (.slice fa fs.length fc)) (first | go_keep | exact hS _ (by assumption)) (first
     | (go_at_call 42; refine (hTx _ (by assumption)).mono ?_; rintro e w2 ⟨v2,g2,rfl,hr2,hf2,hb2⟩; have G2:=G0.trans (hb2.mono (Nat.le_refl _)))
     | (go_at_call 104; refine (hNu _ _ _ hr2).mono ?_; rintro e w3 ⟨v3,g3,rfl,hr3,hf3,hb3⟩; have G3:=G2.trans (hb3.mono G2.size)))
    all_goals (
     go_wp2_with fail
     go_meet
     exact ⟨_,hr3,Nat.le_trans G2.size hf3,G3⟩)
   case rest =>
    obtain ⟨g3,hr3,hf3,hb3⟩:=hcut
    rename World=>w3
    have hs3:=hb3.size
    have hfb:=fields_sz fs hff hfn
    have hTf:=hT.below hb3 (fun g hg=>Nat.lt_of_lt_of_le (hF g hg) hsr)
    have HTf:=hidden hT
    obtain ⟨p0,p1⟩:=hS _ hb3
    clear hTx hNu hCo hT
    have hl3:((LL ++ txtB nm) ++ Wire.enc fs.length).length ≤ 101010100:=by
     have:=Wire.enc_ten fs.length (by omega)
     simp only [List.length_append]
     omega
    go_wp2
    go_loopg [0,6] fs.length (fun gk a i wr=>∃ (j g:Nat),gk + j = fs.length ∧ i = .int .i64 (j:Int) ∧ Wire.Row wr g a (((LL ++ txtB nm) ++ Wire.enc fs.length) ++ fieldsB (fs.take j)) ∧ wo.heap.size ≤ g ∧ Below wo.heap.size wo wr)
    case atStart=>exact ⟨0,g3,by omega,rfl,by simpa [fieldsB] using hr3,hf3,hb3⟩
    case round =>
     obtain ⟨j,g4,hgj,rfl,hr4,hf4,hb4⟩:=hrel
     rename World=>w4
     have hs4:=hb4.size
     clear p0 p1
     obtain ⟨p0,p1⟩:=hS _ hb4
     have hrl:(((LL ++ txtB nm) ++ Wire.enc fs.length) ++ fieldsB (fs.take j)).length ≤ 101020000:=by have:=hfb j; rw [List.length_append]; omega
     generalize hR4:((LL ++ txtB nm) ++ Wire.enc fs.length) ++ fieldsB (fs.take j) = R4 at *
     have HR4:=hidden hR4
     clear hR4
     by_cases hj:j < fs.length
     ·obtain ⟨gf,of,df,e5,_,q5⟩:=(HTf.out.below hb4 (fun g hg=>Nat.lt_of_lt_of_le (hF g hg) hsr)).at j hj
      simp only [Value.slice.injEq,true_and] at e5
      obtain ⟨rfl,rfl⟩:=e5
      have hji:(j:Int) < (fs.length:Int):=by omega
      have hxl:=hff _ (List.getElem_mem hj)
      have hfa:=hidden (fieldsB_at fs j hj)
      have hfj:=hfb j
      have htx:=rT w4 _ g4 R4 fs[j] hr4.rd (by omega) (by omega)
      obtain ⟨xa,xn,hxs⟩:=hr4.rd.shape
      subst hxs
      generalize fs[j] = fx at *
      go_wp2_with fail
      refine htx.mono ?_
      rintro e w5 ⟨v5,g5,rfl,hr5,hf5,hb5⟩
      have hb6:=hb4.trans (hb5.mono hs4)
      go_wp2
      go_roundg (fs.length - (j + 1))
      case measure=>omega
      case rel=>exact ⟨j + 1,g5,by omega,by go_num,by rw [hfa.out, ← List.append_assoc,HR4.out]; exact hr5,Nat.le_trans hs4 hf5,hb6⟩
     ·have hji:¬ (j:Int) < (fs.length:Int):=by omega
      have HFIN:Hid (L ++ (Wire.enc cs.length ++ casesB (cs.take (k + 1))) = R4):=by
       have h1:=HR4.out
       rw [List.take_of_length_le (by omega)] at h1
       rw [hid_iff,hat, ← h1, ← HLL.out,caseB]
       simp only [List.append_assoc]
      have hb6:=hbr.trans (hb4.mono hsr)
      clear HR4 HLL hat
      go_wp2
      go_roundg (cs.length - (k + 1))
      case measure=>omega
      case rel=>exact ⟨k + 1,g4,by omega,by go_num,by rw [HFIN.out]; exact hr4,Nat.le_trans hsr hf4,hb6⟩
  ·have hki:¬ (k:Int) < (cs.length:Int):=by omega
   rw [List.take_of_length_le (by omega)] at hrow
   go_wp2
   go_ret
   exact ⟨_,g,rfl,hrow,hgf,hbr⟩
set_option maxHeartbeats 2000000 in
set_option maxRecDepth 1000000 in
theorem refItemB (F : Nat → Prop) (v : Value) (b0 : Nat) (L : List Nat) (x : It) (cv : Value) (w : World) (hv : Wire.Rd w b0 v L) (hC : CsR F w cv x.cases) (hF : ∀ g, F g → g < w.heap.size) (hs : ItS x) (hL : L.length ≤ 90000000) :
  Calls Tryz.prog 44 #[v,itv x cv] w (RwE (L ++ itemB x) w):=by
 obtain ⟨ca,cc,rfl⟩:=hC.shape
 obtain ⟨kd,nm,ty,cs⟩:=x
 have hkd:=hs.kind
 have hnm:=hs.name
 simp only at hkd hnm hC
 obtain ⟨kn,rfl⟩:∃ kn:Nat,kd = (kn:Int):=⟨kd.toNat,by omega⟩
 have HB:Hid (itemB ⟨(kn:Int),nm,ty,cs⟩ = Wire.enc kn ++ (txtB nm ++ (if (kn:Int) = 1 then Wire.enc cs.length ++ casesB cs else txtB ty))):=by rw [hid_iff]; unfold itemB; simp only [Int.toNat_natCast]
 unfold itv
 simp only
 have hb0:Below w.heap.size w (w.alloc (.cells #[.int .i64 (kn:Int),.string (str nm),.string (str ty),.slice ca cs.length cc] 77)):=(Below.refl _ _).alloc (Nat.le_refl _) _
 have hN:=World.alloc_heap_new w (.cells #[.int .i64 (kn:Int),.string (str nm),.string (str ty),.slice ca cs.length cc] 77)
 have hv0:=rdV hv hb0
 have hC0:=hC.below hb0 hF
 have hF0:∀ g,F g → g < (w.alloc (.cells #[.int .i64 (kn:Int),.string (str nm),.string (str ty),.slice ca cs.length cc] 77)).heap.size:=fun g hg=>by have:=hF g hg; simp; omega
 have hlt:w.heap.size < (w.alloc (.cells #[.int .i64 (kn:Int),.string (str nm),.string (str ty),.slice ca cs.length cc] 77)).heap.size:=by simp
 obtain ⟨va,vn,hvs⟩:=hv.shape
 subst hvs
 have hw:=wrapU kn (by omega)
 clear hv hC
 go_enter Tryz.func44,Tryz.ntmps44
 go_upto_region 1 with fail
 generalize w.alloc (.cells #[.int .i64 (kn:Int),.string (str nm),.string (str ty),.slice ca cs.length cc] 77) = W0 at *
 have hS:∀ u,Below W0.heap.size W0 u → u.cell? ⟨w.heap.size,0,none⟩ = some (.int .i64 (kn:Int)) ∧ u.cell? ⟨w.heap.size,1,none⟩ = some (.string (str nm)) ∧ u.cell? ⟨w.heap.size,2,none⟩ = some (.string (str ty)) ∧ u.cell? ⟨w.heap.size,3,none⟩ = some (.slice ca cs.length cc):=fun u hu=>by
  have k1:=(hu.block w.heap.size hlt).trans hN
  exact ⟨by rw [cell_of_row _ _ 0 _ _ _ k1]; rfl,by rw [cell_of_row _ _ 1 _ _ _ k1]; rfl,by rw [cell_of_row _ _ 2 _ _ _ k1]; rfl,by rw [cell_of_row _ _ 3 _ _ _ k1]; rfl⟩
 have hNu:∀ u,Below W0.heap.size W0 u → Calls Tryz.prog 104 #[.slice va L.length vn,.int .u64 (kn:Int)] u (RwE (L ++ Wire.enc kn) u):=fun u hu=>rN u _ b0 L kn (rdV hv0 hu) (by omega) (by omega)
 have hek:=Wire.enc_ten kn (by omega)
 have hTx:∀ u v2 g2,Wire.Row u g2 v2 (L ++ Wire.enc kn) → Calls Tryz.prog 42 #[v2,.string (str nm)] u (RwE ((L ++ Wire.enc kn) ++ txtB nm) u):=fun u v2 g2 h=>rT u v2 g2 _ nm h.rd (by simp only [List.length_append]; omega) (by omega)
 have htl:=txtB_len nm (by omega)
 have G0:Below W0.heap.size W0 W0.drew:=(Below.refl _ _).drew
 obtain ⟨z0,z1,z2,z3⟩:=hS _ (Below.refl _ _)
 go_cut [0] (fun a wx=>∃ g3,Wire.Row wx g3 a ((L ++ Wire.enc kn) ++ txtB nm) ∧ Below W0.heap.size W0 wx)
 case first =>
  clear hC0 hs
  go_region_held3 (fun u=>u.cell? ⟨w.heap.size,0,none⟩ = some (.int .i64 (kn:Int)) ∧ u.cell? ⟨w.heap.size,1,none⟩ = some (.string (str nm))) (first | go_keep | exact ⟨(hS _ (by assumption)).1,(hS _ (by assumption)).2.1⟩) (first
   | (go_at_call 104; refine (hNu _ (by assumption)).mono ?_; rintro e w2 ⟨v2,g2,rfl,hr2,hf2,hb2⟩; have G2:=G0.trans (hb2.mono (Nat.le_refl _)))
   | (go_at_call 42; refine (hTx _ _ _ hr2).mono ?_; rintro e w3 ⟨v3,g3,rfl,hr3,hf3,hb3⟩; have G3:=G2.trans (hb3.mono G2.size)))
  all_goals (
   go_wp2_with fail
   go_meet
   exact ⟨_,hr3,G3⟩)
 case rest =>
  obtain ⟨g3,hr3,hb3⟩:=hcut
  rename World=>w3
  clear z0 z1 z2 z3
  obtain ⟨z0,z1,z2,z3⟩:=hS _ hb3
  have hs3:=hb3.size
  have hbw:=hb0.trans (hb3.mono (by omega))
  have hl3:((L ++ Wire.enc kn) ++ txtB nm).length ≤ 90000100:=by simp only [List.length_append]; omega
  clear hNu hTx hS
  generalize hRR:(L ++ Wire.enc kn) ++ txtB nm = R3 at *
  have HRR:=hidden hRR
  clear hRR
  by_cases hk1:kn = 1
  ·have hc:=hs.cases1 (by simp only; omega)
   simp only at hc
   have hca:=refCasesB F _ g3 R3 _ cs w3 hr3.rd (hC0.below hb3 hF0) (fun g hg=>Nat.lt_of_lt_of_le (hF0 g hg) hs3) hc.2.2 hc.2.1 (by omega)
   obtain ⟨xa,xn,hxs⟩:=hr3.rd.shape
   subst hxs
   have hkt:((kn:Int) == 1) = true:=by rw [beq_iff_eq]; omega
   have HF:Hid (L ++ itemB ⟨(kn:Int),nm,ty,cs⟩ = R3 ++ (Wire.enc cs.length ++ casesB cs)):=by
    rw [hid_iff,HB.out,if_pos (by omega), ← HRR.out]
    simp only [List.append_assoc]
   clear hr3 HB HRR hs hc hk1
   go_wp2_with fail
   refine hca.mono ?_
   rintro e w5 ⟨v5,g5,rfl,hr5,hf5,hb5⟩
   have hb6:=hbw.trans (hb5.mono (by omega))
   go_wp2
   go_ret
   exact ⟨_,g5,rfl,by rw [HF.out]; exact hr5,by have:=hbw.size; omega,hb6⟩
  ·have hc:=hs.ty1 (by simp only; omega)
   simp only at hc
   have hta:=rT w3 _ g3 R3 ty hr3.rd (by omega) (by omega)
   obtain ⟨xa,xn,hxs⟩:=hr3.rd.shape
   subst hxs
   have hkt:((kn:Int) == 1) = false:=by rw [beq_eq_false_iff_ne]; omega
   have HF:Hid (L ++ itemB ⟨(kn:Int),nm,ty,cs⟩ = R3 ++ txtB ty):=by
    rw [hid_iff,HB.out,if_neg (by omega), ← HRR.out]
    simp only [List.append_assoc]
   clear hr3 HB HRR hs hc hk1
   go_wp2_with fail
   refine hta.mono ?_
   rintro e w5 ⟨v5,g5,rfl,hr5,hf5,hb5⟩
   have hb6:=hbw.trans (hb5.mono (by omega))
   go_wp2
   go_ret
   exact ⟨_,g5,rfl,by rw [HF.out]; exact hr5,by have:=hbw.size; omega,hb6⟩
end Go.Proofs.YtiiepfplommmfaaGreatDoor

namespace Go.Proofs.YtiiepfplommmfaaGreatDoor
open Go.RowKit

theorem flatM_at {α β:Type} (f:α → List β) (l:List α) (k:Nat) (h:k < l.length):(l.take (k + 1)).flatMap f = (l.take k).flatMap f ++ f l[k]:=by
 rw [List.take_succ_eq_append_getElem h,List.flatMap_append]
 simp
set_option maxHeartbeats 1000000 in
set_option maxRecDepth 1000000 in
theorem rNums (ns : List Nat) (v : Value) (b0 : Nat) (L : List Nat) (b : Nat) (w : World) (hv : Wire.Rd w b0 v L) (hc : ∀ (j : Nat) n, ns[j]? = some n → w.cell? ⟨b, j, none⟩ = some (.int .i64 (n : Int))) (hn : ∀ n ∈ ns, n ≤ 1000000) (hl : 0 < ns.length) (hl3 : ns.length ≤ 3) (hL : L.length ≤ 900000000) :
  Calls Tryz.prog 43 #[v,.slice (some ⟨b,0,none⟩) ns.length ns.length] w (RwE (L ++ ns.flatMap Wire.enc) w):=by
 obtain ⟨va,vn,hvs⟩:=hv.shape
 have HV:=hidden hv
 have HC:=hidden hc
 have HN:=hidden hn
 subst hvs
 clear hv hc hn
 go_enter Tryz.func43,Tryz.ntmps43
 go_wp2_with fail
 go_loopg [0,5] ns.length (fun gk a i wr=>∃ (k:Nat),gk + k = ns.length ∧ i = .int .i64 (k:Int) ∧ (k = 0 → wr = w ∧ a = .slice va L.length vn) ∧ (0 < k → ∃ g,Wire.Row wr g a (L ++ (ns.take k).flatMap Wire.enc) ∧ w.heap.size ≤ g) ∧ (L ++ (ns.take k).flatMap Wire.enc).length ≤ 900000000 + 10 * k ∧ Below w.heap.size w wr)
 case atStart=>exact ⟨0,by omega,rfl,fun _=>⟨rfl,rfl⟩,fun h=>absurd h (by omega),by simpa using hL,Below.refl _ _⟩
 case round =>
  obtain ⟨k,hg,rfl,h0,h1,hlen,hbr⟩:=hrel
  rename World=>wo
  have hRd:∃ g,Wire.Rd wo g u0 (L ++ (ns.take k).flatMap Wire.enc):=by
   by_cases hk0:k = 0
   ·obtain ⟨rfl,rfl⟩:=h0 hk0
    subst hk0
    exact ⟨b0,by simpa using HV.out⟩
   ·obtain ⟨g,h2,_⟩:=h1 (by omega)
    exact ⟨g,h2.rd⟩
  by_cases hk:k < ns.length
  ·have q0:wo.cell? ⟨b,k,none⟩ = some (.int .i64 (ns[k]:Int)):=by
    have h2:=HC.out k _ (List.getElem?_eq_getElem hk)
    rw [hbr.cell (World.block_lt_of_cell? w _ h2)]
    exact h2
   have hnk:=HN.out _ (List.getElem_mem hk)
   have hfl:=hidden (flatM_at Wire.enc ns k hk)
   have hfl2:Hid (L ++ (ns.take (k + 1)).flatMap Wire.enc = (L ++ (ns.take k).flatMap Wire.enc) ++ Wire.enc ns[k]):=by rw [hid_iff,hfl.out,List.append_assoc]
   clear h0 h1 hfl
   generalize L ++ (ns.take k).flatMap Wire.enc = LL at *
   obtain ⟨g,hr⟩:=hRd
   have hnu:=rN wo _ g _ ns[k] hr (by omega) (by omega)
   have hten:=Wire.enc_ten ns[k] (by omega)
   have hwf:=wrapU ns[k] (by omega)
   have hki:(k:Int) < (ns.length:Int):=by omega
   obtain ⟨xa,xn,hxs⟩:=hr.shape
   subst hxs
   clear hr
   generalize ns[k] = n at *
   go_wp2_with fail
   refine hnu.mono ?_
   rintro e w5 ⟨v5,g5,rfl,hr5,hf5,hb5⟩
   have hb6:=below_trans hbr hb5
   have hsr:=hbr.size
   have hlen2:(L ++ (ns.take (k + 1)).flatMap Wire.enc).length ≤ 900000000 + 10 * (k + 1):=by
    rw [hfl2.out,List.length_append]
    omega
   have HL2:=hidden hlen2
   clear hlen2
   go_wp2
   go_roundg (ns.length - (k + 1))
   case measure=>omega
   case rel=>exact ⟨k + 1,by omega,by go_num,fun e=>absurd e (by omega),fun _=>⟨g5,by rw [hfl2.out]; exact hr5,by omega⟩,HL2.out,hb6⟩
  ·have hki:¬ (k:Int) < (ns.length:Int):=by omega
   obtain ⟨g,hrow,hgf⟩:=h1 (by omega)
   rw [List.take_of_length_le (by omega)] at hrow
   clear h0 h1
   go_wp2
   go_ret
   exact ⟨_,g,rfl,hrow,hgf,hbr⟩
set_option maxHeartbeats 1000000 in
set_option maxRecDepth 1000000 in
theorem rTexts (F : Nat → Prop) (v : Value) (b0 : Nat) (L : List Nat) (xv : Value) (xs : List (List UInt8)) (w : World) (hv : Wire.Rd w b0 v L) (hX : TxR F w xv xs) (hF : ∀ g, F g → g < w.heap.size) (hs : ∀ x ∈ xs, x.length ≤ 200) (hn : xs.length ≤ 65535) (hL : L.length ≤ 800000000) :
  Calls Tryz.prog 45 #[v,xv] w (RwE (L ++ lsB txtB xs) w):=by
 obtain ⟨ca,cc,rfl⟩:=hX.shape
 have hnum:=rN w v b0 L xs.length hv (by omega) (by omega)
 have hw:=wrapU xs.length (by omega)
 have hten:=Wire.enc_ten xs.length (by omega)
 have hh:=hidden hX
 have HS:=hidden hs
 obtain ⟨va,vn,hvs⟩:=hv.shape
 subst hvs
 clear hv hX hs
 go_enter Tryz.func45,Tryz.ntmps45
 go_wp2_with fail
 refine hnum.mono ?_
 rintro e w1 ⟨v1,g1,rfl,hr1,hf1,hb1⟩
 go_wp2_with fail
 go_loopg [0,5] xs.length (fun gk a i wr=>∃ (k g:Nat),gk + k = xs.length ∧ i = .int .i64 (k:Int) ∧ Wire.Row wr g a (L ++ (Wire.enc xs.length ++ (xs.take k).flatMap txtB)) ∧ (L ++ (Wire.enc xs.length ++ (xs.take k).flatMap txtB)).length ≤ 800000010 + 210 * k ∧ w.heap.size ≤ g ∧ Below w.heap.size w wr)
 case atStart=>exact ⟨0,g1,by omega,rfl,by simpa using hr1,by simp; omega,hf1,hb1⟩
 case round =>
  obtain ⟨k,g,hg,rfl,hrow,hlen,hgf,hbr⟩:=hrel
  rename World=>wo
  have hsr:=hbr.size
  by_cases hk:k < xs.length
  ·obtain ⟨gf,of,df,e5,_,q5⟩:=(hh.out.below hbr hF).at k hk
   simp only [Value.slice.injEq,true_and] at e5
   obtain ⟨rfl,rfl⟩:=e5
   have hki:(k:Int) < (xs.length:Int):=by omega
   have hxl:=HS.out _ (List.getElem_mem hk)
   have hfl:=hidden (flatM_at txtB xs k hk)
   have htl:=txtB_len xs[k] (by omega)
   have hfl2:Hid (L ++ (Wire.enc xs.length ++ (xs.take (k + 1)).flatMap txtB) = (L ++ (Wire.enc xs.length ++ (xs.take k).flatMap txtB)) ++ txtB xs[k]):=by rw [hid_iff,hfl.out]; simp only [List.append_assoc]
   clear hfl
   generalize L ++ (Wire.enc xs.length ++ (xs.take k).flatMap txtB) = LL at *
   have htx:=rT wo _ g _ xs[k] hrow.rd (by omega) (by omega)
   obtain ⟨xa,xn,hxs⟩:=hrow.rd.shape
   subst hxs
   generalize xs[k] = fx at *
   clear hh HS
   go_wp2_with fail
   refine htx.mono ?_
   rintro e w5 ⟨v5,g5,rfl,hr5,hf5,hb5⟩
   have hb6:=below_trans hbr hb5
   have hlen2:(L ++ (Wire.enc xs.length ++ (xs.take (k + 1)).flatMap txtB)).length ≤ 800000010 + 210 * (k + 1):=by
    rw [hfl2.out,List.length_append]
    omega
   have HL2:=hidden hlen2
   clear hlen2
   go_wp2
   go_roundg (xs.length - (k + 1))
   case measure=>omega
   case rel=>exact ⟨k + 1,g5,by omega,by go_num,by rw [hfl2.out]; exact hr5,HL2.out,by omega,hb6⟩
  ·have hki:¬ (k:Int) < (xs.length:Int):=by omega
   rw [List.take_of_length_le (by omega)] at hrow
   go_wp2
   go_ret
   exact ⟨_,g,rfl,hrow,hgf,hbr⟩
end Go.Proofs.YtiiepfplommmfaaGreatDoor
