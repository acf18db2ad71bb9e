/-
  What is refused of one function of an object.
-/
import Derived.Test.YtiiepfplommmfaaGreatDoorG17
namespace Go.Proofs.YtiiepfplommmfaaGreatDoor
open Go.RowKit

theorem join_len (n:Nat):∀ (ps:List (List UInt8)),(∀ p ∈ ps,p.length ≤ n) → (joinR ps).length ≤ (n + 1) * ps.length
 | [],_=>by simp [joinR_nil]
 | [p],h=>by
  rw [joinR_one]
  have:=h p (by simp)
  simp
  omega
 | p :: q :: r,h=>by
  rw [joinR_two,List.length_append,List.length_cons]
  have h1:=h p (by simp)
  have h2:=join_len n (q :: r) (fun x hx=>h x (List.mem_cons_of_mem _ hx))
  have e:(n + 1) * (p :: q :: r).length = (n + 1) * (q :: r).length + (n + 1):=by rw [List.length_cons,Nat.mul_succ]
  rw [e]
  omega
theorem str_nil {nm:List UInt8} (h:nm = []):(str nm).toList = []:=by
 rw [← List.isEmpty_iff,nil_text,decide_eq_true h]
theorem str_not {nm:List UInt8} (h:nm ≠ []):¬ (str nm).toList = []:=by
 intro e
 have:=nil_text nm
 rw [e,decide_eq_false h] at this
 cases this
set_option maxHeartbeats 4000000 in
set_option maxRecDepth 1000000 in
theorem funAt (F:Nat → Prop) (u:ObV) (o:Ob) (w:World) (h:ObR F w u o) (hF:∀ g,F g → g < w.heap.size) (hok:ObOk o) (k:Nat) (hk:k < o.funs.length):Calls Tryz.prog 30 #[obv u o.mod,.int .i64 (k:Int)] w (NumB (elemO o 3 k) w):=by
 have HV:Hid (elemO o 3 k = funO o.globals (o.funs.take k) o.funs[k]):=by rw [hid_iff,elemO,List.getElem?_eq_getElem hk]
 generalize elemO o 3 k = r at *
 have hT:=h.funs
 obtain ⟨g,of,cap,cs,e1,hcap,hg,hC,hcell⟩:=hT.at k hk
 have hxo:=hok.funs _ (List.getElem_mem hk)
 have hm:=hok.mod
 have hng:=hok.ng
 have hnf:=hok.nf
 have hGv:=h.globals
 obtain ⟨m,ts,xs,gs,fs,es,ss,rs⟩:=o
 obtain ⟨tv,xv,gv,fv,ev,sv,rv⟩:=u
 unfold obv
 simp only at *
 subst e1
 have hk':k < fs.length:=hk
 have hTk:=hT.take k (by omega)
 rcases hx:fs[k] with ⟨nm,ps,cp,res,lc,cd⟩
 rw [hx] at hC hxo HV
 obtain ⟨pv,kv,rfl,hpv,hkv⟩:=hC
 have hxo':=hxo
 obtain ⟨hn,hpl,hpt,hcp,hrs,hlc,hcl⟩:=hxo'
 simp only at hn hpl hpt hcp hrs hlc hcl hpv hkv hcell
 have q0:=hcell 0 _ rfl
 have q1:=hcell 1 _ rfl
 have q2:=hcell 2 _ rfl
 have q3:=hcell 3 _ rfl
 have q4:=hcell 4 _ rfl
 have q5:=hcell 5 _ rfl
 simp only [Nat.add_zero] at q0
 have ki0:(k:Int) < (fs.length:Int):=by omega
 have ki1:(k:Int) ≤ (cap:Int):=by omega
 have ki2:(0:Int) ≤ (k:Int):=by omega
 generalize hW:w.alloc (.cells #[.string (str m),tv,xv,gv,(.slice (some ⟨g,of,none⟩) fs.length cap),ev,sv,rv] 86) = W0 at *
 have hb0:Below w.heap.size w W0:=by rw [← hW]; exact (Below.refl _ _).alloc (Nat.le_refl _) _
 have hs0:W0.heap.size = w.heap.size + 1:=by rw [← hW]; simp
 have hN0:=heap_alloc_new w (.cells #[.string (str m),tv,xv,gv,(.slice (some ⟨g,of,none⟩) fs.length cap),ev,sv,rv] 86)
 rw [hW] at hN0
 generalize hW1:W0.alloc (.cells #[.string (str nm),pv,.int .i64 cp,.string (str res),.int .i64 lc,kv] 52) = W1 at *
 have hb1:Below W0.heap.size W0 W1:=by rw [← hW1]; exact (Below.refl _ _).alloc (Nat.le_refl _) _
 have hs1:W1.heap.size = w.heap.size + 2:=by rw [← hW1]; simp; omega
 have hN1:=heap_alloc_new W0 (.cells #[.string (str nm),pv,.int .i64 cp,.string (str res),.int .i64 lc,kv] 52)
 rw [hW1,hs0] at hN1
 have hbw:Below w.heap.size w W1:=below_trans hb0 hb1
 have HC:∀ u,Below W1.heap.size W1 u → (u.cell? ⟨w.heap.size,0,none⟩ = some (.string (str m)) ∧ u.cell? ⟨w.heap.size,1,none⟩ = some (tv) ∧ u.cell? ⟨w.heap.size,2,none⟩ = some (xv) ∧ u.cell? ⟨w.heap.size,3,none⟩ = some (gv) ∧ u.cell? ⟨w.heap.size,4,none⟩ = some ((.slice (some ⟨g,of,none⟩) fs.length cap)) ∧ u.cell? ⟨w.heap.size,5,none⟩ = some (ev) ∧ u.cell? ⟨w.heap.size,6,none⟩ = some (sv) ∧ u.cell? ⟨w.heap.size,7,none⟩ = some (rv)) ∧ (u.cell? ⟨w.heap.size + 1,0,none⟩ = some (.string (str nm)) ∧ u.cell? ⟨w.heap.size + 1,1,none⟩ = some (pv) ∧ u.cell? ⟨w.heap.size + 1,2,none⟩ = some (.int .i64 cp) ∧ u.cell? ⟨w.heap.size + 1,3,none⟩ = some (.string (str res)) ∧ u.cell? ⟨w.heap.size + 1,4,none⟩ = some (.int .i64 lc) ∧ u.cell? ⟨w.heap.size + 1,5,none⟩ = some (kv)) ∧ Below w.heap.size w u:=by
  intro u hu
  have n0:=(hu.block w.heap.size (by omega)).trans ((hb1.block _ (by omega)).trans hN0)
  have n1:=(hu.block (w.heap.size + 1) (by omega)).trans hN1
  exact ⟨⟨(by rw [cell_of_row u _ 0 _ _ _ n0]; rfl),(by rw [cell_of_row u _ 1 _ _ _ n0]; rfl),(by rw [cell_of_row u _ 2 _ _ _ n0]; rfl),(by rw [cell_of_row u _ 3 _ _ _ n0]; rfl),(by rw [cell_of_row u _ 4 _ _ _ n0]; rfl),(by rw [cell_of_row u _ 5 _ _ _ n0]; rfl),(by rw [cell_of_row u _ 6 _ _ _ n0]; rfl),(by rw [cell_of_row u _ 7 _ _ _ n0]; rfl)⟩,⟨(by rw [cell_of_row u _ 0 _ _ _ n1]; rfl),(by rw [cell_of_row u _ 1 _ _ _ n1]; rfl),(by rw [cell_of_row u _ 2 _ _ _ n1]; rfl),(by rw [cell_of_row u _ 3 _ _ _ n1]; rfl),(by rw [cell_of_row u _ 4 _ _ _ n1]; rfl),(by rw [cell_of_row u _ 5 _ _ _ n1]; rfl)⟩,below_trans hbw hu⟩
 have y0:=(hb0.cell (p:=⟨g,of + k * 6,none⟩) (hF g hg)).trans q0
 have y1:=(hb0.cell (p:=⟨g,of + k * 6 + 1,none⟩) (hF g hg)).trans q1
 have y2:=(hb0.cell (p:=⟨g,of + k * 6 + 2,none⟩) (hF g hg)).trans q2
 have y3:=(hb0.cell (p:=⟨g,of + k * 6 + 3,none⟩) (hF g hg)).trans q3
 have y4:=(hb0.cell (p:=⟨g,of + k * 6 + 4,none⟩) (hF g hg)).trans q4
 have y5:=(hb0.cell (p:=⟨g,of + k * 6 + 5,none⟩) (hF g hg)).trans q5
 have zz:W0.cell? ⟨w.heap.size,4,none⟩ = some ((.slice (some ⟨g,of,none⟩) fs.length cap)):=by rw [cell_of_row W0 _ 4 _ _ _ hN0]; rfl
 obtain ⟨⟨-, -, -, z3,z4, -, -, -⟩,⟨x0, -, -, -, -, -⟩, -⟩:=HC W1 (Below.refl _ _)
 have HCh:=hidden HC
 have hUp:∀ u,Below W1.heap.size W1 u → Below w.heap.size w u ∧ ∀ g,F g → g < u.heap.size:=fun u hu=>⟨(HC u hu).2.2,fun g hg=>by have:=hF g hg; have:=hu.size; omega⟩
 have hU2:∀ u,Below W1.heap.size W1 u → w.heap.size + 1 < u.heap.size:=fun u hu=>by have:=hu.size; omega
 obtain ⟨ga,gc,rfl⟩:=hGv.shape
 obtain ⟨pa,pc,rfl⟩:=hpv.1.shape
 obtain ⟨ka,kc,rfl⟩:=hkv.shape
 have hV:=fun u=>value (str nm) u (by rw [str_size]; unfold Tk at hn; omega)
 rw [str_data] at hV
 have hG:∀ u,Below W1.heap.size W1 u → Calls Tryz.prog 75 #[.slice ga gs.length gc,.string (str nm)] u (BoolB (gs.any (fun d=>decide (d.name = nm))) u):=fun u hu =>
  isGlobal F _ gs nm u (hGv.below cGl_stay (hUp u hu).1 hF) (hUp u hu).2 hng
 have hI:∀ u,Below W1.heap.size W1 u → Calls Tryz.prog 77 #[.slice (some ⟨g,of,none⟩) k cap,.string (str nm)] u (BoolB ((fs.take k).any (fun d=>decide (d.name = nm))) u):=fun u hu =>
  isFun F _ (fs.take k) nm u (hTk.below cFn_stay (hUp u hu).1 hF) (hUp u hu).2 (by rw [List.length_take]; omega)
 have hCt:=fun u=>ocounts ⟨nm,ps,cp,res,lc,cd⟩ (.slice pa ps.length pc) (.slice ka cd.length kc) u ⟨_,_,rfl⟩ hxo
 have hRr:=fun u=>right (str res) u
 rw [str_data] at hRr
 have hAl:∀ u,Below W1.heap.size W1 u → Calls Tryz.prog 79 #[.slice pa ps.length pc] u (BoolB (ps.all rightR) u):=fun u hu =>
  oallTypes F _ ps u (hpv.1.below (hUp u hu).1 hF) (hUp u hu).2 hpl
 have hSg:countsO ⟨nm,ps,cp,res,lc,cd⟩ = true → rightR res = true → ps.all rightR = true → ∀ u,Below W1.heap.size W1 u → Calls Tryz.prog 13 #[fnv ⟨nm,ps,cp,res,lc,cd⟩ (.slice pa ps.length pc) (.slice ka cd.length kc)] u (TextB (signO ⟨nm,ps,cp,res,lc,cd⟩) u):=by
  intro h1 h2 h3 u hu
  have hl24:ps.length ≤ 24:=by
   simp only [countsO,Bool.and_eq_true,decide_eq_true_eq] at h1
   omega
  have hjl:=join_len 200 (ps.drop (cutO ⟨nm,ps,cp,res,lc,cd⟩)) (fun p hp=>rightR_len (List.all_eq_true.1 h3 p (List.mem_of_mem_drop hp)))
  refine osign F ⟨nm,ps,cp,res,lc,cd⟩ _ _ u ⟨hpv.1.below (hUp u hu).1 hF,hpv.2⟩ (hUp u hu).2 hxo (by simp only; omega) ?_ ?_
  ·have:(ps.drop (cutO ⟨nm,ps,cp,res,lc,cd⟩)).length ≤ 24:=by rw [List.length_drop]; omega
   have:=Nat.mul_le_mul_left 201 this
   show (joinR (ps.drop (cutO ⟨nm,ps,cp,res,lc,cd⟩))).length ≤ 1000000000
   omega
  ·have:=rightR_len h2
   show res.length ≤ 1000000000
   omega
 have hRs:=fun u=>right (str (signO ⟨nm,ps,cp,res,lc,cd⟩)) u
 rw [str_data] at hRs
 have HR:Hid (funO gs (fs.take k) ⟨nm,ps,cp,res,lc,cd⟩ = if nm ≠ [] ∧ valueR nm = false then 13
 else if nm ≠ [] ∧ ((fs.take k).any (fun d=>decide (d.name = nm)) = true ∨ gs.any (fun d=>decide (d.name = nm)) = true) then 15
 else if countsO ⟨nm,ps,cp,res,lc,cd⟩ = false then 19
 else if rightR res = false ∨ ps.all rightR = false ∨ rightR (signO ⟨nm,ps,cp,res,lc,cd⟩) = false then 17
 else if 2048 < cd.length then 3 else 0):=rfl
 unfold fnv at hCt hSg
 simp only at hCt hSg
 generalize (fs.take k).any (fun d=>decide (d.name = nm)) = bf at *
 generalize gs.any (fun d=>decide (d.name = nm)) = bg at *
 generalize countsO ⟨nm,ps,cp,res,lc,cd⟩ = ct at *
 generalize rightR (signO ⟨nm,ps,cp,res,lc,cd⟩) = rsg at *
 generalize signO ⟨nm,ps,cp,res,lc,cd⟩ = sg at *
 generalize rightR res = rr at *
 generalize ps.all rightR = al at *
 generalize valueR nm = vn at *
 rw [HR.out] at HV
 clear HR h hT hTk hok hx hcell HC hxo hpv hkv hGv q0 q1 q2 q3 q4 q5 hn hpl hpt hcp hrs hlc hcl
 have HGh:=hidden hG
 have HIh:=hidden hI
 have HAh:=hidden hAl
 have HSh:=hidden hSg
 clear hG hI hUp hU2 hAl hSg
 by_cases hnm:nm = []
 ·have hn1:=str_nil hnm
  have HV':=HV.out
  simp only [hnm,ne_eq,not_true_eq_false,false_and,if_false] at HV'
  have hn2:(str nm).toList.isEmpty = true:=by rw [hn1]; rfl
  have HV:=hidden HV'
  clear HV' hnm
  go_enter Tryz.func30,Tryz.ntmps30
  go_wp2_with fail
  go_quiet (fail)
  have hq:Below W1.heap.size W1 (W1.drewN nq):=⟨rfl,rfl,rfl,Nat.le_refl _,fun _ _=>rfl⟩
  clear x0 y0 y1 y2 y3 y4 y5 zz z3 z4
  obtain ⟨-, ⟨d0,d1,d2,d3,d4,d5⟩,hwq⟩:=HCh.out _ hq
  cases ct
  ·have HW:Hid (r = 19):=by rw [hid_iff,HV.out]; simp 
   go_wp2_with fail
   refine (hCt _).mono ?_
   rintro e wA ⟨rfl,hA⟩
   go_wp2
   go_ret
   exact ⟨(by rw [HW.out]; first | done | rfl),below_trans hwq hA⟩
  ·go_wp2_with fail
   refine (hCt _).mono ?_
   rintro e wA ⟨rfl,hA⟩
   have hqA:=below_trans hq hA
   clear d0 d1 d2 d3 d4 d5 hA
   obtain ⟨-, ⟨-, d1, -, d3, -, -⟩,hwA⟩:=HCh.out wA hqA
   go_wp2_with fail
   refine (hRr _).mono ?_
   rintro e wB ⟨rfl,hB⟩
   cases rr
   ·have HW:Hid (r = 17):=by rw [hid_iff,HV.out]; simp 
    go_wp2
    go_ret
    exact ⟨(by rw [HW.out]; first | done | rfl),below_trans hwA hB⟩
   ·have hqB:=below_trans hqA hB
    clear d1 d3 hB
    obtain ⟨-, ⟨-, d1, -, -, -, -⟩,hwB⟩:=HCh.out wB hqB
    go_wp2_with fail
    refine (HAh.out _ hqB).mono ?_
    rintro e wC ⟨rfl,hC⟩
    cases al
    ·have HW:Hid (r = 17):=by rw [hid_iff,HV.out]; simp 
     go_wp2
     go_ret
     exact ⟨(by rw [HW.out]; first | done | rfl),below_trans hwB hC⟩
    ·have hqC:=below_trans hqB hC
     clear d1 hC
     obtain ⟨-, ⟨d0,d1,d2,d3,d4,d5⟩,hwC⟩:=HCh.out wC hqC
     go_wp2_with fail
     refine (HSh.out (by first | rfl | trivial) (by first | rfl | trivial) (by first | rfl | trivial) _ hqC).mono ?_
     rintro e wD ⟨rfl,hD⟩
     have hqD:=below_trans hqC hD
     clear d0 d1 d2 d3 d4 d5
     go_wp2_with fail
     refine (hRs _).mono ?_
     rintro e wE ⟨rfl,hE⟩
     have hqE:=below_trans hqD hE
     clear hD hE
     obtain ⟨-, ⟨-, -, -, -, -, d5⟩,hwE⟩:=HCh.out wE hqE
     cases rsg
     ·have HW:Hid (r = 17):=by rw [hid_iff,HV.out]; simp 
      go_wp2
      go_ret
      exact ⟨(by rw [HW.out]; first | done | rfl),hwE⟩
     ·by_cases hcl:2048 < cd.length
      ·have HW:Hid (r = 3):=by rw [hid_iff,HV.out]; simp [hcl] 
       have hci:(2048:Int) < (cd.length:Int):=by omega
       go_wp2
       go_ret
       exact ⟨(by rw [HW.out]; first | done | rfl),hwE⟩
      ·have HW:Hid (r = 0):=by rw [hid_iff,HV.out]; simp [hcl] 
       have hci:¬ (2048:Int) < (cd.length:Int):=by omega
       go_wp2
       go_ret
       exact ⟨(by rw [HW.out]; first | done | rfl),hwE⟩
 ·have hn1:=str_not hnm
  have hn2:(str nm).toList.isEmpty = false:=by rw [nil_text,decide_eq_false hnm]
  cases vn
  ·have HW:Hid (r = 13):=by rw [hid_iff,HV.out,if_pos ⟨hnm,rfl⟩]
   go_enter Tryz.func30,Tryz.ntmps30
   go_wp2_with (go_at_call 25; refine (hV _).mono ?_; rintro e w2 ⟨rfl,hw2⟩; obtain rfl:=hw2.symm)
   go_ret
   exact ⟨(by rw [HW.out]; first | done | rfl),hbw⟩
  ·cases bf
   ·cases bg
    ·go_enter Tryz.func30,Tryz.ntmps30
     go_wp2_with (go_at_call 25; refine (hV _).mono ?_; rintro e w2 ⟨rfl,hw2⟩; obtain rfl:=hw2.symm)
     go_cut [22] from 23 to 43 (fun c wx=>c = .bool false ∧ Below W1.heap.size W1 wx)
     case first =>
      first | (go_region_with (first | (go_at_call 77; refine (HIh.out _ (by first | exact Below.refl _ _ | exact below_drew (Below.refl _ _))).mono ?_; rintro e w3 ⟨rfl,hb3⟩; have hb3':Below W1.heap.size W1 w3:=(by first | exact hb3 | exact below_undrew hb3); obtain ⟨⟨-, -, -, c3,c4, -, -, -⟩,⟨c0, -, -, -, -, -⟩,hw3⟩:=HCh.out w3 hb3') | (go_at_call 75; refine (HGh.out _ (by first | exact hb3' | exact below_drew hb3')).mono ?_; rintro e w4 ⟨rfl,hb4⟩; have hq:Below W1.heap.size W1 w4:=below_trans hb3' (by first | exact hb4 | exact below_undrew hb4)))) | fail
      all_goals (
       go_wp2_with fail
       go_meet
       exact ⟨rfl,hq⟩)
     case rest =>
      obtain ⟨rfl,hq⟩:=hcut
      have HV':=HV.out
      rw [if_neg (by simp),if_neg (by simp)] at HV'
      have HV:=hidden HV'
      clear HV' x0 y0 y1 y2 y3 y4 y5 zz z3 z4
      obtain ⟨-, ⟨d0,d1,d2,d3,d4,d5⟩,hwq⟩:=HCh.out _ hq
      cases ct
      ·have HW:Hid (r = 19):=by rw [hid_iff,HV.out]; simp 
       go_wp2_with fail
       refine (hCt _).mono ?_
       rintro e wA ⟨rfl,hA⟩
       go_wp2
       go_ret
       exact ⟨(by rw [HW.out]; first | done | rfl),below_trans hwq hA⟩
      ·go_wp2_with fail
       refine (hCt _).mono ?_
       rintro e wA ⟨rfl,hA⟩
       have hqA:=below_trans hq hA
       clear d0 d1 d2 d3 d4 d5 hA
       obtain ⟨-, ⟨-, d1, -, d3, -, -⟩,hwA⟩:=HCh.out wA hqA
       go_wp2_with fail
       refine (hRr _).mono ?_
       rintro e wB ⟨rfl,hB⟩
       cases rr
       ·have HW:Hid (r = 17):=by rw [hid_iff,HV.out]; simp 
        go_wp2
        go_ret
        exact ⟨(by rw [HW.out]; first | done | rfl),below_trans hwA hB⟩
       ·have hqB:=below_trans hqA hB
        clear d1 d3 hB
        obtain ⟨-, ⟨-, d1, -, -, -, -⟩,hwB⟩:=HCh.out wB hqB
        go_wp2_with fail
        refine (HAh.out _ hqB).mono ?_
        rintro e wC ⟨rfl,hC⟩
        cases al
        ·have HW:Hid (r = 17):=by rw [hid_iff,HV.out]; simp 
         go_wp2
         go_ret
         exact ⟨(by rw [HW.out]; first | done | rfl),below_trans hwB hC⟩
        ·have hqC:=below_trans hqB hC
         clear d1 hC
         obtain ⟨-, ⟨d0,d1,d2,d3,d4,d5⟩,hwC⟩:=HCh.out wC hqC
         go_wp2_with fail
         refine (HSh.out (by first | rfl | trivial) (by first | rfl | trivial) (by first | rfl | trivial) _ hqC).mono ?_
         rintro e wD ⟨rfl,hD⟩
         have hqD:=below_trans hqC hD
         clear d0 d1 d2 d3 d4 d5
         go_wp2_with fail
         refine (hRs _).mono ?_
         rintro e wE ⟨rfl,hE⟩
         have hqE:=below_trans hqD hE
         clear hD hE
         obtain ⟨-, ⟨-, -, -, -, -, d5⟩,hwE⟩:=HCh.out wE hqE
         cases rsg
         ·have HW:Hid (r = 17):=by rw [hid_iff,HV.out]; simp 
          go_wp2
          go_ret
          exact ⟨(by rw [HW.out]; first | done | rfl),hwE⟩
         ·by_cases hcl:2048 < cd.length
          ·have HW:Hid (r = 3):=by rw [hid_iff,HV.out]; simp [hcl] 
           have hci:(2048:Int) < (cd.length:Int):=by omega
           go_wp2
           go_ret
           exact ⟨(by rw [HW.out]; first | done | rfl),hwE⟩
          ·have HW:Hid (r = 0):=by rw [hid_iff,HV.out]; simp [hcl] 
           have hci:¬ (2048:Int) < (cd.length:Int):=by omega
           go_wp2
           go_ret
           exact ⟨(by rw [HW.out]; first | done | rfl),hwE⟩
    ·go_enter Tryz.func30,Tryz.ntmps30
     go_wp2_with (go_at_call 25; refine (hV _).mono ?_; rintro e w2 ⟨rfl,hw2⟩; obtain rfl:=hw2.symm)
     go_cut [22] from 23 to 43 (fun c wx=>c = .bool true ∧ Below W1.heap.size W1 wx)
     case first =>
      first | (go_region_with (first | (go_at_call 77; refine (HIh.out _ (by first | exact Below.refl _ _ | exact below_drew (Below.refl _ _))).mono ?_; rintro e w3 ⟨rfl,hb3⟩; have hb3':Below W1.heap.size W1 w3:=(by first | exact hb3 | exact below_undrew hb3); obtain ⟨⟨-, -, -, c3,c4, -, -, -⟩,⟨c0, -, -, -, -, -⟩,hw3⟩:=HCh.out w3 hb3') | (go_at_call 75; refine (HGh.out _ (by first | exact hb3' | exact below_drew hb3')).mono ?_; rintro e w4 ⟨rfl,hb4⟩; have hq:Below W1.heap.size W1 w4:=below_trans hb3' (by first | exact hb4 | exact below_undrew hb4)))) | fail
      all_goals (
       go_wp2_with fail
       go_meet
       exact ⟨rfl,hq⟩)
     case rest =>
      obtain ⟨rfl,hq⟩:=hcut
      have HW:Hid (r = 15):=by rw [hid_iff,HV.out,if_neg (by simp),if_pos ⟨hnm,by simp⟩]
      have hwq:=(HCh.out _ hq).2.2
      go_wp2
      go_ret
      exact ⟨(by rw [HW.out]; first | done | rfl),hwq⟩
   ·go_enter Tryz.func30,Tryz.ntmps30
    go_wp2_with (go_at_call 25; refine (hV _).mono ?_; rintro e w2 ⟨rfl,hw2⟩; obtain rfl:=hw2.symm)
    go_cut [22] from 23 to 43 (fun c wx=>c = .bool true ∧ Below W1.heap.size W1 wx)
    case first =>
     first | (go_region_with ((go_at_call 77; refine (HIh.out _ (by first | exact Below.refl _ _ | exact below_drew (Below.refl _ _))).mono ?_; rintro e w3 ⟨rfl,hb3⟩; have hb3':Below W1.heap.size W1 w3:=(by first | exact hb3 | exact below_undrew hb3); obtain ⟨⟨-, -, -, c3,c4, -, -, -⟩,⟨c0, -, -, -, -, -⟩,hw3⟩:=HCh.out w3 hb3'))) | fail
     all_goals (
      go_wp2_with fail
      go_meet
      exact ⟨rfl,hb3'⟩)
    case rest =>
     obtain ⟨rfl,hq⟩:=hcut
     have HW:Hid (r = 15):=by rw [hid_iff,HV.out,if_neg (by simp),if_pos ⟨hnm,by simp⟩]
     have hwq:=(HCh.out _ hq).2.2
     go_wp2
     go_ret
     exact ⟨(by rw [HW.out]; first | done | rfl),hwq⟩
end Go.Proofs.YtiiepfplommmfaaGreatDoor
