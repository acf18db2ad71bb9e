/-
  What is refused of one relocation of an object.
-/
import Derived.Test.YtiiepfplommmfaaGreatDoorG17
namespace Go.Proofs.YtiiepfplommmfaaGreatDoor
open Go.RowKit

set_option maxHeartbeats 1000000 in
set_option maxRecDepth 1000000 in
theorem isAhead (a b:Rl) (w:World):Calls Tryz.prog 83 #[rlv a,rlv b] w (BoolB (aheadO a b) w):=by
 obtain ⟨a1,a2,a3⟩:=a
 obtain ⟨b1,b2,b3⟩:=b
 unfold rlv
 simp only
 have hb0:Below w.heap.size w ((w.alloc (.cells #[.int .i64 a1,.int .i64 a2,.int .i64 a3] 82)).alloc (.cells #[.int .i64 b1,.int .i64 b2,.int .i64 b3] 82)):=((Below.refl _ _).alloc (Nat.le_refl _) _).alloc (by simp) _
 have HM:Hid (aheadO ⟨a1,a2,a3⟩ ⟨b1,b2,b3⟩ = (decide (a1 < b1) || (decide (a1 = b1) && decide (a2 < b2)))):=rfl
 by_cases h1:a1 < b1
 ·have HV:Hid (aheadO ⟨a1,a2,a3⟩ ⟨b1,b2,b3⟩ = true):=by rw [hid_iff,HM.out]; simp [h1]
  clear HM
  go_enter Tryz.func83,Tryz.ntmps83
  go_wp2
  go_ret
  exact ⟨(by rw [HV.out]; first | done | rfl),hb0⟩
 ·by_cases h2:a1 = b1
  ·subst h2
   by_cases h3:a2 < b2
   ·have HV:Hid (aheadO ⟨a1,a2,a3⟩ ⟨a1,b2,b3⟩ = true):=by rw [hid_iff,HM.out]; simp [h3]
    clear HM
    go_enter Tryz.func83,Tryz.ntmps83
    go_wp2
    go_ret
    exact ⟨(by rw [HV.out]; first | done | rfl),hb0⟩
   ·have HV:Hid (aheadO ⟨a1,a2,a3⟩ ⟨a1,b2,b3⟩ = false):=by rw [hid_iff,HM.out]; simp [h3]
    clear HM
    go_enter Tryz.func83,Tryz.ntmps83
    go_wp2
    go_ret
    exact ⟨(by rw [HV.out]; first | done | rfl),hb0⟩
  ·have HV:Hid (aheadO ⟨a1,a2,a3⟩ ⟨b1,b2,b3⟩ = false):=by rw [hid_iff,HM.out]; simp [h1,h2]
   have hne:(a1 == b1) = false:=by simp [h2]
   clear HM
   go_enter Tryz.func83,Tryz.ntmps83
   go_wp2
   go_ret
   exact ⟨(by rw [HV.out]; first | done | rfl),hb0⟩
set_option maxHeartbeats 4000000 in
set_option maxRecDepth 1000000 in
theorem relocAt (F:Nat → Prop) (u:ObV) (o:Ob) (w:World) (h:ObR F w u o) (hF:∀ g,F g → g < w.heap.size) (hok:ObOk o) (k:Nat) (hk:k < o.relocs.length):Calls Tryz.prog 33 #[obv u o.mod,.int .i64 (k:Int)] w (NumB (elemO o 6 k) w):=by
 have HV:Hid (elemO o 6 k = relocO o.funs o.symbols.length (if k = 0 then none else o.relocs[k - 1]?) o.relocs[k]):=by rw [hid_iff,elemO,List.getElem?_eq_getElem hk]
 generalize elemO o 6 k = r at *
 have hT:=h.relocs
 obtain ⟨g,of,cap,cs,e1,hcap,hg,hC,hcell⟩:=hT.at k hk
 have hxo:=hok.relocs _ (List.getElem_mem hk)
 have hm:=hok.mod
 have hfo:=hok.funs
 have hnf:=hok.nf
 have hns:=hok.ns
 have hnr:=hok.nr
 have hFn:=h.funs
 obtain ⟨sa,sc',hsv⟩:=h.symbols.shape
 obtain ⟨m,ts,xs,gs,fs,es,ss,rs⟩:=o
 obtain ⟨tv,xv,gv,fv,ev,sv,rv⟩:=u
 unfold obv
 simp only at *
 subst e1
 have hk':k < rs.length:=hk
 have hTk:=hT.take k (by omega)
 rcases hx:rs[k] with ⟨rf,ra,ry⟩
 rw [hx] at hC hxo HV
 unfold cRl at hC
 subst hC
 obtain ⟨hi1,hi2,hi3⟩:=hxo
 simp only at *
 have q0:=hcell 0 _ rfl
 have q1:=hcell 1 _ rfl
 have q2:=hcell 2 _ rfl
 simp only [Nat.add_zero] at q0
 have ki0:(k:Int) < (rs.length:Int):=by omega
 have ki1:(k:Int) ≤ (cap:Int):=by omega
 have ki2:(0:Int) ≤ (k:Int):=by omega
 generalize hW:w.alloc (.cells #[.string (str m),tv,xv,gv,fv,ev,sv,(.slice (some ⟨g,of,none⟩) rs.length cap)] 86) = W0 at *
 have hb0:Below w.heap.size w W0:=by rw [← hW]; exact (Below.refl _ _).alloc (Nat.le_refl _) _
 have hs0:W0.heap.size = w.heap.size + 1:=by rw [← hW]; simp
 have hN0:=heap_alloc_new w (.cells #[.string (str m),tv,xv,gv,fv,ev,sv,(.slice (some ⟨g,of,none⟩) rs.length cap)] 86)
 rw [hW] at hN0
 generalize hW1:W0.alloc (.cells #[.int .i64 rf,.int .i64 ra,.int .i64 ry] 82) = W1 at *
 have hb1:Below W0.heap.size W0 W1:=by rw [← hW1]; exact (Below.refl _ _).alloc (Nat.le_refl _) _
 have hs1:W1.heap.size = w.heap.size + 2:=by rw [← hW1]; simp; omega
 have hN1:=heap_alloc_new W0 (.cells #[.int .i64 rf,.int .i64 ra,.int .i64 ry] 82)
 rw [hW1,hs0] at hN1
 have hbw:Below w.heap.size w W1:=below_trans hb0 hb1
 have HC:∀ u,Below W1.heap.size W1 u → (u.cell? ⟨w.heap.size,0,none⟩ = some (.string (str m)) ∧ u.cell? ⟨w.heap.size,1,none⟩ = some (tv) ∧ u.cell? ⟨w.heap.size,2,none⟩ = some (xv) ∧ u.cell? ⟨w.heap.size,3,none⟩ = some (gv) ∧ u.cell? ⟨w.heap.size,4,none⟩ = some (fv) ∧ u.cell? ⟨w.heap.size,5,none⟩ = some (ev) ∧ u.cell? ⟨w.heap.size,6,none⟩ = some (sv) ∧ u.cell? ⟨w.heap.size,7,none⟩ = some ((.slice (some ⟨g,of,none⟩) rs.length cap))) ∧ (u.cell? ⟨w.heap.size + 1,0,none⟩ = some (.int .i64 rf) ∧ u.cell? ⟨w.heap.size + 1,1,none⟩ = some (.int .i64 ra) ∧ u.cell? ⟨w.heap.size + 1,2,none⟩ = some (.int .i64 ry)) ∧ Below w.heap.size w u:=by
  intro u hu
  have n0:=(hu.block w.heap.size (by omega)).trans ((hb1.block _ (by omega)).trans hN0)
  have n1:=(hu.block (w.heap.size + 1) (by omega)).trans hN1
  exact ⟨⟨(by rw [cell_of_row u _ 0 _ _ _ n0]; rfl),(by rw [cell_of_row u _ 1 _ _ _ n0]; rfl),(by rw [cell_of_row u _ 2 _ _ _ n0]; rfl),(by rw [cell_of_row u _ 3 _ _ _ n0]; rfl),(by rw [cell_of_row u _ 4 _ _ _ n0]; rfl),(by rw [cell_of_row u _ 5 _ _ _ n0]; rfl),(by rw [cell_of_row u _ 6 _ _ _ n0]; rfl),(by rw [cell_of_row u _ 7 _ _ _ n0]; rfl)⟩,⟨(by rw [cell_of_row u _ 0 _ _ _ n1]; rfl),(by rw [cell_of_row u _ 1 _ _ _ n1]; rfl),(by rw [cell_of_row u _ 2 _ _ _ n1]; rfl)⟩,below_trans hbw hu⟩
 have y0:=(hb0.cell (p:=⟨g,of + k * 3,none⟩) (hF g hg)).trans q0
 have y1:=(hb0.cell (p:=⟨g,of + k * 3 + 1,none⟩) (hF g hg)).trans q1
 have y2:=(hb0.cell (p:=⟨g,of + k * 3 + 2,none⟩) (hF g hg)).trans q2
 have zz:W0.cell? ⟨w.heap.size,7,none⟩ = some ((.slice (some ⟨g,of,none⟩) rs.length cap)):=by rw [cell_of_row W0 _ 7 _ _ _ hN0]; rfl
 obtain ⟨⟨-, -, -, -, z4, -, z6,z7⟩,⟨x0,x1,x2⟩, -⟩:=HC W1 (Below.refl _ _)
 have HCh:=hidden HC
 have hUp:∀ u,Below W1.heap.size W1 u → Below w.heap.size w u ∧ ∀ g,F g → g < u.heap.size:=fun u hu=>⟨(HC u hu).2.2,fun g hg=>by have:=hF g hg; have:=hu.size; omega⟩
 have hU2:∀ u,Below W1.heap.size W1 u → w.heap.size + 1 < u.heap.size:=fun u hu=>by have:=hu.size; omega
 subst hsv
 obtain ⟨fa,fc,rfl⟩:=hFn.shape
 have hX:=fun u=>isIndex rf (fs.length:Int) u
 have hZ:=fun u=>isIndex ry (ss.length:Int) u
 have hA:=fun u=>isIndex ra (codeAt fs rf - 1) u
 have HR:Hid (relocO fs ss.length (if k = 0 then none else rs[k - 1]?) ⟨rf,ra,ry⟩ = if inO rf fs.length = false ∨ inO ra (codeAt fs rf - 1) = false ∨ inO ry ss.length = false then 21
 else if (if k = 0 then none else rs[k - 1]?).any (fun p => !aheadO p ⟨rf,ra,ry⟩) = true then 12 else 0):=rfl
 rw [HR.out] at HV
 have HPv:Hid (∀ u,Below W1.heap.size W1 u → ∀ j,k = j + 1 → ∃ p:Rl,rs[k - 1]? = some p ∧ u.cell? ⟨g,of + j * 3,none⟩ = some (.int .i64 p.fn) ∧ u.cell? ⟨g,of + j * 3 + 1,none⟩ = some (.int .i64 p.place) ∧ u.cell? ⟨g,of + j * 3 + 2,none⟩ = some (.int .i64 p.sym)):=by
  rw [hid_iff]
  rintro u hu j rfl
  obtain ⟨g',of',cap',cs',e1,_,hg',hC',hcell'⟩:=(hT.below cRl_stay (hUp u hu).1 hF).at j (by omega)
  simp only [Value.slice.injEq,Option.some.injEq,Addr.mk.injEq,and_true,true_and] at e1
  obtain ⟨⟨rfl,rfl⟩,_⟩:=e1
  unfold cRl at hC'
  subst hC'
  have hj:j < rs.length:=by omega
  refine ⟨rs[j],by simp [hj],?_,hcell' 1 _ rfl,hcell' 2 _ rfl⟩
  exact hcell' 0 _ rfl
 have HCo:Hid (inO rf fs.length = true → ∃ (f:Nat) (g0 o0 c0:Nat) (ka:Option Addr) (kc:Nat),rf = (f:Int) ∧ f < fs.length ∧ fa = some ⟨g0,o0,none⟩ ∧ codeAt fs rf = ((fs[f]?.map (·.code.length)).getD 0:Nat) ∧ W1.cell? ⟨g0,o0 + f * 6 + 5,none⟩ = some (.slice ka ((fs[f]?.map (·.code.length)).getD 0) kc) ∧ ((fs[f]?.map (·.code.length)).getD 0) ≤ 140737488355328):=by
  rw [hid_iff]
  intro hin
  simp only [inO,Bool.and_eq_true,decide_eq_true_eq] at hin
  obtain ⟨f,rfl⟩:∃ f:Nat,rf = (f:Int):=⟨rf.toNat,by omega⟩
  have hf:f < fs.length:=by omega
  obtain ⟨g',of',cap',cs',e1,_,hg',hC',hcell'⟩:=(hFn.below cFn_stay hbw hF).at f hf
  simp only [Value.slice.injEq,true_and] at e1
  obtain ⟨rfl,rfl⟩:=e1
  obtain ⟨pv,kv,rfl,hpv,hkv⟩:=hC'
  obtain ⟨ka,kc,rfl⟩:=hkv.shape
  have h5:=hcell' 5 _ rfl
  refine ⟨f,g',of',fc,ka,kc,rfl,hf,rfl,?_,?_,?_⟩
  ·simp [codeAt,hf]
  ·rw [h5]
   simp [hf]
  ·have:=(hfo _ (List.getElem_mem hf)).2.2.2.2.2.2
   simpa [hf] using this
 clear HR h hT hTk hok hx hcell q0 q1 q2 hfo hFn
 have HR2:=HV
 have hAh:=fun p u=>isAhead p ⟨rf,ra,ry⟩ u
 unfold rlv at hAh
 simp only at hAh
 clear HC hUp hU2
 cases hin1:inO rf fs.length
 ·rw [hin1] at hX HV
  clear HPv HCo HR2 hAh hA hin1
  have HW:Hid (r = 21):=by rw [hid_iff,HV.out]; simp
  go_enter Tryz.func33,Tryz.ntmps33
  go_wp2_with fail
  go_quiet ((go_at_call 76; first | with_reducible exact Calls.quiet_of_same (hX _) | with_reducible exact Calls.quiet_of_same (hA _) | with_reducible exact Calls.quiet_of_same (hZ _)))
  have hq:Below W1.heap.size W1 (W1.drewN nq):=below_drewN (Below.refl _ _) nq
  have hwq:=(HCh.out _ hq).2.2
  go_wp2
  go_ret
  exact ⟨(by rw [HW.out]; first | done | rfl),hwq⟩
 ·obtain ⟨f,g0,o0,c0,ka,kc,rfl,hf,rfl,hco,p5,hcb⟩:=HCo.out hin1
  rw [hin1] at hX HV
  rw [hco] at hA HV
  generalize (fs[f]?.map (·.code.length)).getD 0 = nc at *
  have fi0:(f:Int) < (fs.length:Int):=by omega
  have fi1:(0:Int) ≤ (f:Int):=by omega
  clear HCo HR2 hin1 hco
  cases hin2:inO ra ((nc:Int) - 1)
  ·rw [hin2] at hA HV
   clear HPv hAh hin2
   have HW:Hid (r = 21):=by rw [hid_iff,HV.out]; simp
   go_enter Tryz.func33,Tryz.ntmps33
   go_wp2_with fail
   go_quiet ((go_at_call 76; first | with_reducible exact Calls.quiet_of_same (hX _) | with_reducible exact Calls.quiet_of_same (hA _) | with_reducible exact Calls.quiet_of_same (hZ _)))
   have hq:Below W1.heap.size W1 (W1.drewN nq):=below_drewN (Below.refl _ _) nq
   have hwq:=(HCh.out _ hq).2.2
   go_wp2
   go_ret
   exact ⟨(by rw [HW.out]; first | done | rfl),hwq⟩
  ·rw [hin2] at hA HV
   cases hin3:inO ry ss.length
   ·rw [hin3] at hZ HV
    clear HPv hAh hin2 hin3
    have HW:Hid (r = 21):=by rw [hid_iff,HV.out]; simp
    go_enter Tryz.func33,Tryz.ntmps33
    go_wp2_with fail
    go_quiet ((go_at_call 76; first | with_reducible exact Calls.quiet_of_same (hX _) | with_reducible exact Calls.quiet_of_same (hA _) | with_reducible exact Calls.quiet_of_same (hZ _)))
    have hq:Below W1.heap.size W1 (W1.drewN nq):=below_drewN (Below.refl _ _) nq
    have hwq:=(HCh.out _ hq).2.2
    go_wp2
    go_ret
    exact ⟨(by rw [HW.out]; first | done | rfl),hwq⟩
   ·rw [hin3] at hZ HV
    have HV':=HV.out
    simp only [Bool.true_eq_false,or_self,if_false] at HV'
    have HV:=hidden HV'
    clear HV' hin2 hin3
    generalize hbad:(if k = 0 then none else rs[k - 1]?).any (fun p => !aheadO p ⟨(f:Int),ra,ry⟩) = bad at HV
    have HB:=hidden hbad
    clear hbad
    go_enter Tryz.func33,Tryz.ntmps33
    go_wp2_with fail
    go_quiet ((go_at_call 76; first | with_reducible exact Calls.quiet_of_same (hX _) | with_reducible exact Calls.quiet_of_same (hA _) | with_reducible exact Calls.quiet_of_same (hZ _)))
    have hq:Below W1.heap.size W1 (W1.drewN nq):=below_drewN (Below.refl _ _) nq
    have hwq:=(HCh.out _ hq).2.2
    clear y0 y1 y2 zz z4 z6 p5
    go_wp2_with fail
    go_cut [59] from 46 to 58 (fun c wx=>c = .bool bad ∧ Below W1.heap.size W1 wx)
    case first =>
     cases k with
     | zero =>
      have hz:bad = false:=by rw [← HB.out]; rfl
      subst hz
      clear HPv HV HB hAh
      go_quiet (fail)
      go_wp2_with fail
      go_meet
      exact ⟨rfl,below_drewN (Below.refl _ _) _⟩
     | succ j =>
      obtain ⟨pr,hp0,hp1,hp2,hp3⟩:=HPv.out _ (Below.refl _ _) j rfl
      have hz:bad = !aheadO pr ⟨(f:Int),ra,ry⟩:=by
       rw [← HB.out,if_neg (by omega),hp0]
       rfl
      have hAp:=hAh pr
      generalize aheadO pr ⟨(f:Int),ra,ry⟩ = ah at *
      obtain ⟨pf,pp,py⟩:=pr
      simp only at hp1 hp2 hp3 hAp
      subst hz
      have hj1:IntKind.i64.wrap (((j + 1:Nat):Int) - 1) = (j:Int):=by rw [IntKind.wrap_i64]; omega
      have hj2:(j:Int) < (rs.length:Int):=by omega
      have hj3:(0:Int) < ((j + 1:Nat):Int):=by omega
      have hj0:(0:Int) ≤ (j:Int):=by omega
      have hj4:((j + 1:Nat):Int) - 1 = (j:Int):=by omega
      have hj5:IntKind.i64.wrap ((j:Int) + 1 - 1) = (j:Int):=by rw [IntKind.wrap_i64]; omega
      have hj6:IntKind.i64.wrap (j:Int) = (j:Int):=by rw [IntKind.wrap_i64]; omega
      clear HPv HV HB hAh hp0
      first | (go_region_with (go_at_call 83; refine (hAp _).mono ?_; rintro e w3 ⟨rfl,hb3⟩)) | fail
      all_goals (
       go_wp2_with fail
       go_meet
       exact ⟨rfl,below_trans (below_drewN (Below.refl _ W1) _) (by first | exact hb3 | exact below_undrew hb3)⟩)
    case rest =>
     obtain ⟨rfl,hq2⟩:=hcut
     have hw2:=(HCh.out _ hq2).2.2
     cases bad
     ·have HW:Hid (r = 0):=by rw [hid_iff,HV.out]; rfl
      go_wp2
      go_ret
      exact ⟨(by rw [HW.out]; first | done | rfl),hw2⟩
     ·have HW:Hid (r = 12):=by rw [hid_iff,HV.out]; rfl
      go_wp2
      go_ret
      exact ⟨(by rw [HW.out]; first | done | rfl),hw2⟩
end Go.Proofs.YtiiepfplommmfaaGreatDoor
