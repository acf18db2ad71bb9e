/-
  The document's own objects: what is refused of a function.
  And: The package's Find. named, and exportAt, where neither a global nor a function of the object has the name. named: what an object has by a name, as others see it. The document's own way through an object's names, held against the chapter's: what each element answers where those ahead are let by. No program.
-/
import Derived.Test.YtiiepfplommmfaaGreatDoorG19
import Derived.Test.YtiiepfplommmfaaGreatDoorG20
import Derived.Test.YtiiepfplommmfaaGreatDoorG17
import Derived.Test.YtiiepfplommmfaaGreatDoorG11
namespace Go.Proofs.YtiiepfplommmfaaGreatDoor
open Go.RowKit

def ownFR (f:Fn):Nat :=
 if countsO f = false then 19
 else if f.params.all rightR = false then 17
 else if rightR f.res = false then 17
 else if rightR (signO f) = false then 17
 else if 2048 < f.code.length then 3 else 0
def funR (had:List (List UInt8)) (f:Fn):Nat :=
 if f.name = [] then ownFR f
 else if valueR f.name = false then 13
 else if had.any (fun x=>decide (x = f.name)) = true then 15
 else ownFR f
theorem hid_of {p:Prop} (h:p):Hid p:=h
set_option maxHeartbeats 8000000 in
set_option maxRecDepth 1000000 in
theorem rfunN (F : Nat → Prop) (f : Fn) (pv kv hv : Value) (had : List (List UInt8)) (w : World) (hp : TxC F w pv f.params) (hkv : ∃ a c, kv = .slice a f.code.length c) (hF : ∀ g, F g → g < w.heap.size) (hok : FnOk f) (hh : StrRow w hv had) (_hhl : had.length ≤ 8796093022208) (pn : f.name = []) :
  Calls Tryz.prog 89 #[fnv f pv kv,hv] w (NumB (funR had f) w):=by
 obtain ⟨nm,ps,cp,rs,lc,cd⟩:=f
 obtain ⟨hn,hpl,_,⟨hc1,hc2⟩,hrs,⟨hl1,hl2⟩,hcl⟩:=hok
 obtain ⟨va,vc,rfl⟩:=hp.1.shape
 have hp2:=hp.2
 have HP:=hidden hp.1
 obtain ⟨ka,kc,rfl⟩:=hkv
 obtain ⟨ha,hc,rfl⟩:=hh.shape
 unfold fnv
 simp only at *
 have hb0:∀ A,Below w.heap.size w (w.alloc (.cells A 54)):=fun A=>(Below.refl _ _).alloc (Nat.le_refl _) _
 have hR:=fun u=>refRight (str rs) u
 rw [str_data] at hR
 have HF:Hid (funR had ⟨nm,ps,cp,rs,lc,cd⟩ = ownFR ⟨nm,ps,cp,rs,lc,cd⟩):=hid_of (by rw [funR,if_pos pn])
 have he:=str_nil pn
 have he2:(str nm).toList.isEmpty = true:=by rw [he]; rfl
 have PN:=hidden pn
 clear hp hh hn pn
 by_cases p0:(ps.length:Int) ≤ 30
 case neg =>
  have HV:Hid (funR had ⟨nm,ps,cp,rs,lc,cd⟩ = 19):=hid_of (by rw [HF.out,ownFR,if_pos (by cases hcc:countsO ⟨nm,ps,cp,rs,lc,cd⟩ <;> first | rfl | (exfalso; simp only [countsO,Bool.and_eq_true,decide_eq_true_eq] at hcc; omega))])
  go_enter Tryz.func89,Tryz.ntmps89
  clear HF
  go_wp2
  go_ret
  exact ⟨(by rw [HV.out]; first | done | rfl),hb0 _⟩
 by_cases p1:0 ≤ cp
 case neg =>
  have HV:Hid (funR had ⟨nm,ps,cp,rs,lc,cd⟩ = 19):=hid_of (by rw [HF.out,ownFR,if_pos (by cases hcc:countsO ⟨nm,ps,cp,rs,lc,cd⟩ <;> first | rfl | (exfalso; simp only [countsO,Bool.and_eq_true,decide_eq_true_eq] at hcc; omega))])
  go_enter Tryz.func89,Tryz.ntmps89
  clear HF
  go_wp2
  go_ret
  exact ⟨(by rw [HV.out]; first | done | rfl),hb0 _⟩
 by_cases p2:cp ≤ (ps.length:Int)
 case neg =>
  have HV:Hid (funR had ⟨nm,ps,cp,rs,lc,cd⟩ = 19):=hid_of (by rw [HF.out,ownFR,if_pos (by cases hcc:countsO ⟨nm,ps,cp,rs,lc,cd⟩ <;> first | rfl | (exfalso; simp only [countsO,Bool.and_eq_true,decide_eq_true_eq] at hcc; omega))])
  go_enter Tryz.func89,Tryz.ntmps89
  clear HF
  go_wp2
  go_ret
  exact ⟨(by rw [HV.out]; first | done | rfl),hb0 _⟩
 by_cases p3:(ps.length:Int) - cp ≤ 6
 case neg =>
  have HV:Hid (funR had ⟨nm,ps,cp,rs,lc,cd⟩ = 19):=hid_of (by rw [HF.out,ownFR,if_pos (by cases hcc:countsO ⟨nm,ps,cp,rs,lc,cd⟩ <;> first | rfl | (exfalso; simp only [countsO,Bool.and_eq_true,decide_eq_true_eq] at hcc; omega))])
  go_enter Tryz.func89,Tryz.ntmps89
  clear HF
  go_wp2
  go_ret
  exact ⟨(by rw [HV.out]; first | done | rfl),hb0 _⟩
 by_cases p4:(ps.length:Int) ≤ lc
 case neg =>
  have HV:Hid (funR had ⟨nm,ps,cp,rs,lc,cd⟩ = 19):=hid_of (by rw [HF.out,ownFR,if_pos (by cases hcc:countsO ⟨nm,ps,cp,rs,lc,cd⟩ <;> first | rfl | (exfalso; simp only [countsO,Bool.and_eq_true,decide_eq_true_eq] at hcc; omega))])
  go_enter Tryz.func89,Tryz.ntmps89
  clear HF
  go_wp2
  go_ret
  exact ⟨(by rw [HV.out]; first | done | rfl),hb0 _⟩
 by_cases p5:lc ≤ 24
 case neg =>
  have HV:Hid (funR had ⟨nm,ps,cp,rs,lc,cd⟩ = 19):=hid_of (by rw [HF.out,ownFR,if_pos (by cases hcc:countsO ⟨nm,ps,cp,rs,lc,cd⟩ <;> first | rfl | (exfalso; simp only [countsO,Bool.and_eq_true,decide_eq_true_eq] at hcc; omega))])
  go_enter Tryz.func89,Tryz.ntmps89
  clear HF
  go_wp2
  go_ret
  exact ⟨(by rw [HV.out]; first | done | rfl),hb0 _⟩
 have HG:Hid (funR had ⟨nm,ps,cp,rs,lc,cd⟩ = if ps.all rightR = false then 17 else if rightR rs = false then 17 else if rightR (signO ⟨nm,ps,cp,rs,lc,cd⟩) = false then 17 else if 2048 < cd.length then 3 else 0):=hid_of (by rw [HF.out,ownFR,if_neg (by rw [show countsO ⟨nm,ps,cp,rs,lc,cd⟩ = true by simp only [countsO,Bool.and_eq_true,Bool.or_eq_true,decide_eq_true_eq]; exact ⟨by omega,by omega,by omega,by omega,by omega,.inl PN.out⟩]; simp)])
 clear HF
 have hl24:ps.length ≤ 24:=by omega
 go_enter Tryz.func89,Tryz.ntmps89
 go_wp2
 go_loopg [6] ps.length (fun g i wr=>∃ (k:Nat),g + k = ps.length ∧ i = .int .i64 (k:Int) ∧ Hid ((ps.take k).all rightR = true) ∧ wr = (w.alloc (.cells #[.string (str nm),.slice va ps.length vc,.int .i64 cp,.string (str rs),.int .i64 lc,.slice ka cd.length kc] 54)))
 case atStart=>exact ⟨0,by omega,rfl,by rw [hid_iff]; rfl,rfl⟩
 case round =>
  obtain ⟨k,hg,rfl,hq,rfl⟩:=hrel
  by_cases hk:k < ps.length
  ·obtain ⟨g,o,cap,e1,hFg,q⟩:=(HP.out.below (hb0 #[.string (str nm),.slice va ps.length vc,.int .i64 cp,.string (str rs),.int .i64 lc,.slice ka cd.length kc]) hF).at k hk
   simp only [Value.slice.injEq,true_and] at e1
   obtain ⟨rfl,rfl⟩:=e1
   have hki:(k:Int) < (ps.length:Int):=by omega
   have hr:=fun u=>refRight (str ps[k]) u
   rw [str_data] at hr
   cases hb:rightR ps[k]
   ·rw [hb] at hr
    have HV:Hid (funR had ⟨nm,ps,cp,rs,lc,cd⟩ = 17):=hid_of (by rw [HG.out,if_pos (all_not hk hb)])
    generalize ps[k] = x at *
    clear HG hb
    go_wp2_with fail
    refine (hr _).mono ?_
    rintro e w1 ⟨rfl,rfl⟩
    go_wp2
    go_ret
    exact ⟨(by rw [HV.out]; first | done | rfl),hb0 _⟩
   ·rw [hb] at hr
    have HQ:Hid ((ps.take (k + 1)).all rightR = true):=all_next hk hq.out hb
    generalize ps[k] = x at *
    clear hb
    go_wp2_with fail
    refine (hr _).mono ?_
    rintro e w1 ⟨rfl,rfl⟩
    go_wp2
    go_roundg (ps.length - (k + 1))
    case measure=>omega
    case rel=>exact ⟨k + 1,by omega,by go_num,HQ,rfl⟩
  ·have hki:¬ (k:Int) < (ps.length:Int):=by omega
   have hall:ps.all rightR = true:=by
    have:=hq.out
    rwa [List.take_of_length_le (by omega)] at this
   clear hq
   have HR2:Hid (funR had ⟨nm,ps,cp,rs,lc,cd⟩ = if rightR rs = false then 17 else if rightR (signO ⟨nm,ps,cp,rs,lc,cd⟩) = false then 17 else if 2048 < cd.length then 3 else 0):=hid_of (by rw [HG.out,hall]; rfl)
   clear HG
   cases hrr:rightR rs
   ·rw [hrr] at hR
    have HV:Hid (funR had ⟨nm,ps,cp,rs,lc,cd⟩ = 17):=hid_of (by rw [HR2.out,hrr]; rfl)
    clear HR2 hall hrr
    go_wp2_with fail
    refine (hR _).mono ?_
    rintro e w1 ⟨rfl,rfl⟩
    go_wp2
    go_ret
    exact ⟨(by rw [HV.out]; first | done | rfl),hb0 _⟩
   ·rw [hrr] at hR
    have hSg:Calls Tryz.prog 14 #[.agg #[.string (str nm),.slice va ps.length vc,.int .i64 cp,.string (str rs),.int .i64 lc,.slice ka cd.length kc]] (w.alloc (.cells #[.string (str nm),.slice va ps.length vc,.int .i64 cp,.string (str rs),.int .i64 lc,.slice ka cd.length kc] 54)) (TextB (signO ⟨nm,ps,cp,rs,lc,cd⟩) (w.alloc (.cells #[.string (str nm),.slice va ps.length vc,.int .i64 cp,.string (str rs),.int .i64 lc,.slice ka cd.length kc] 54))):=rSign F ⟨nm,ps,cp,rs,lc,cd⟩ (.slice va ps.length vc) (.slice ka cd.length kc) _ ⟨HP.out.below (hb0 _) hF,hp2⟩ (fun g hg=>by have:=hF g hg; have:=(hb0 #[.string (str nm),.slice va ps.length vc,.int .i64 cp,.string (str rs),.int .i64 lc,.slice ka cd.length kc]).size; omega) (by simp only; omega) (fun y hy=>by have:=rightR_len (List.all_eq_true.1 hall y hy); omega) (by have:=rightR_len hrr; simp only; omega)
    have hS:=fun u=>refRight (str (signO ⟨nm,ps,cp,rs,lc,cd⟩)) u
    rw [str_data] at hS
    have HR3:Hid (funR had ⟨nm,ps,cp,rs,lc,cd⟩ = if rightR (signO ⟨nm,ps,cp,rs,lc,cd⟩) = false then 17 else if 2048 < cd.length then 3 else 0):=hid_of (by rw [HR2.out,hrr]; rfl)
    clear HR2 hall hrr
    have hN:=heap_alloc_new w (.cells #[.string (str nm),.slice va ps.length vc,.int .i64 cp,.string (str rs),.int .i64 lc,.slice ka cd.length kc] 54)
    generalize signO ⟨nm,ps,cp,rs,lc,cd⟩ = sg at *
    go_wp2_with fail
    refine (hR _).mono ?_
    rintro e w1 ⟨rfl,rfl⟩
    go_wp2_with fail
    refine hSg.mono ?_
    rintro e w1 ⟨rfl,hb1⟩
    have hC:=(hb1.block w.heap.size (by simp)).trans hN
    have q5:w1.cell? ⟨w.heap.size,5,none⟩ = some (.slice ka cd.length kc):=by rw [cell_of_row _ _ 5 _ _ _ hC]; rfl
    have hbw:=below_trans (hb0 _) hb1
    clear hC hN hb1
    cases hsr:rightR sg
    ·rw [hsr] at hS
     have HV:Hid (funR had ⟨nm,ps,cp,rs,lc,cd⟩ = 17):=hid_of (by rw [HR3.out,hsr]; rfl)
     clear HR3 hsr
     go_wp2_with fail
     refine (hS _).mono ?_
     rintro e w2 ⟨rfl,rfl⟩
     go_wp2
     go_ret
     exact ⟨(by rw [HV.out]; first | done | rfl),hbw⟩
    ·rw [hsr] at hS
     have HR4:Hid (funR had ⟨nm,ps,cp,rs,lc,cd⟩ = if 2048 < cd.length then 3 else 0):=hid_of (by rw [HR3.out,hsr]; rfl)
     clear HR3 hsr
     by_cases hcd:2048 < cd.length
     ·have HV:Hid (funR had ⟨nm,ps,cp,rs,lc,cd⟩ = 3):=hid_of (by rw [HR4.out,if_pos hcd])
      have hcdi:(2048:Int) < (cd.length:Int):=by omega
      clear HR4 hcd
      go_wp2_with fail
      refine (hS _).mono ?_
      rintro e w2 ⟨rfl,rfl⟩
      go_wp2
      go_ret
      exact ⟨(by rw [HV.out]; first | done | rfl),hbw⟩
     ·have HV:Hid (funR had ⟨nm,ps,cp,rs,lc,cd⟩ = 0):=hid_of (by rw [HR4.out,if_neg hcd])
      have hcdi:¬ (2048:Int) < (cd.length:Int):=by omega
      clear HR4 hcd
      go_wp2_with fail
      refine (hS _).mono ?_
      rintro e w2 ⟨rfl,rfl⟩
      go_wp2
      go_ret
      exact ⟨(by rw [HV.out]; first | done | rfl),hbw⟩
set_option maxHeartbeats 8000000 in
set_option maxRecDepth 1000000 in
theorem rfunV (F : Nat → Prop) (f : Fn) (pv kv hv : Value) (had : List (List UInt8)) (w : World) (hp : TxC F w pv f.params) (hkv : ∃ a c, kv = .slice a f.code.length c) (hF : ∀ g, F g → g < w.heap.size) (hok : FnOk f) (hh : StrRow w hv had) (hhl : had.length ≤ 8796093022208) (pn : f.name ≠ []) :
  Calls Tryz.prog 89 #[fnv f pv kv,hv] w (NumB (funR had f) w):=by
 obtain ⟨nm,ps,cp,rs,lc,cd⟩:=f
 obtain ⟨hn,hpl,_,⟨hc1,hc2⟩,hrs,⟨hl1,hl2⟩,hcl⟩:=hok
 obtain ⟨va,vc,rfl⟩:=hp.1.shape
 have hp2:=hp.2
 have HP:=hidden hp.1
 obtain ⟨ka,kc,rfl⟩:=hkv
 obtain ⟨ha,hc,rfl⟩:=hh.shape
 unfold fnv
 simp only at *
 have hb0:∀ A,Below w.heap.size w (w.alloc (.cells A 54)):=fun A=>(Below.refl _ _).alloc (Nat.le_refl _) _
 have hR:=fun u=>refRight (str rs) u
 rw [str_data] at hR
 have he:=str_not pn
 have he2:(str nm).toList.isEmpty = false:=by rw [nil_text,decide_eq_false pn]
 have hV:=fun u=>refValue (str nm) u (by rw [str_size]; unfold Tk at hn; omega)
 rw [str_data] at hV
 have hH:∀ A,Calls Tryz.prog 87 #[.slice ha had.length hc,.string (str nm)] (w.alloc (.cells A 54)) (Pu (.bool (had.any (fun x=>decide (x = nm)))) (w.alloc (.cells A 54))):=fun A=>rhas _ had nm _ (hh.below (hb0 A)) hhl
 clear hp hh hn
 cases hvv:valueR nm
 ·rw [hvv] at hV
  have HV:Hid (funR had ⟨nm,ps,cp,rs,lc,cd⟩ = 13):=hid_of (by rw [funR,if_neg pn,if_pos hvv])
  clear hvv hH
  go_enter Tryz.func89,Tryz.ntmps89
  go_wp2_with fail
  refine (hV _).mono ?_
  rintro e w1 ⟨rfl,rfl⟩
  go_wp2
  go_ret
  exact ⟨(by rw [HV.out]; first | done | rfl),hb0 _⟩
 rw [hvv] at hV
 cases hvh:had.any (fun x=>decide (x = nm))
 case true =>
  rw [hvh] at hH
  have HV:Hid (funR had ⟨nm,ps,cp,rs,lc,cd⟩ = 15):=hid_of (by rw [funR,if_neg pn,if_neg (by simp [hvv]),if_pos hvh])
  clear hvv hvh
  go_enter Tryz.func89,Tryz.ntmps89
  go_wp2_with fail
  refine (hV _).mono ?_
  rintro e w1 ⟨rfl,rfl⟩
  go_wp2_with fail
  refine (hH _).mono ?_
  rintro e w1 ⟨rfl,rfl⟩
  go_wp2
  go_ret
  exact ⟨(by rw [HV.out]; first | done | rfl),hb0 _⟩
 rw [hvh] at hH
 have HF:Hid (funR had ⟨nm,ps,cp,rs,lc,cd⟩ = ownFR ⟨nm,ps,cp,rs,lc,cd⟩):=hid_of (by rw [funR,if_neg pn,if_neg (by simp [hvv]),if_neg (by simp [hvh])])
 have PN:=hidden pn
 clear hvv hvh pn
 by_cases p0:(ps.length:Int) ≤ 30
 case neg =>
  have HV:Hid (funR had ⟨nm,ps,cp,rs,lc,cd⟩ = 19):=hid_of (by rw [HF.out,ownFR,if_pos (by cases hcc:countsO ⟨nm,ps,cp,rs,lc,cd⟩ <;> first | rfl | (exfalso; simp only [countsO,Bool.and_eq_true,decide_eq_true_eq] at hcc; omega))])
  go_enter Tryz.func89,Tryz.ntmps89
  go_wp2_with fail
  refine (hV _).mono ?_
  rintro e w1 ⟨rfl,rfl⟩
  go_wp2_with fail
  refine (hH _).mono ?_
  rintro e w1 ⟨rfl,rfl⟩
  clear HF
  go_wp2
  go_ret
  exact ⟨(by rw [HV.out]; first | done | rfl),hb0 _⟩
 by_cases p1:0 ≤ cp
 case neg =>
  have HV:Hid (funR had ⟨nm,ps,cp,rs,lc,cd⟩ = 19):=hid_of (by rw [HF.out,ownFR,if_pos (by cases hcc:countsO ⟨nm,ps,cp,rs,lc,cd⟩ <;> first | rfl | (exfalso; simp only [countsO,Bool.and_eq_true,decide_eq_true_eq] at hcc; omega))])
  go_enter Tryz.func89,Tryz.ntmps89
  go_wp2_with fail
  refine (hV _).mono ?_
  rintro e w1 ⟨rfl,rfl⟩
  go_wp2_with fail
  refine (hH _).mono ?_
  rintro e w1 ⟨rfl,rfl⟩
  clear HF
  go_wp2
  go_ret
  exact ⟨(by rw [HV.out]; first | done | rfl),hb0 _⟩
 by_cases p2:cp ≤ (ps.length:Int)
 case neg =>
  have HV:Hid (funR had ⟨nm,ps,cp,rs,lc,cd⟩ = 19):=hid_of (by rw [HF.out,ownFR,if_pos (by cases hcc:countsO ⟨nm,ps,cp,rs,lc,cd⟩ <;> first | rfl | (exfalso; simp only [countsO,Bool.and_eq_true,decide_eq_true_eq] at hcc; omega))])
  go_enter Tryz.func89,Tryz.ntmps89
  go_wp2_with fail
  refine (hV _).mono ?_
  rintro e w1 ⟨rfl,rfl⟩
  go_wp2_with fail
  refine (hH _).mono ?_
  rintro e w1 ⟨rfl,rfl⟩
  clear HF
  go_wp2
  go_ret
  exact ⟨(by rw [HV.out]; first | done | rfl),hb0 _⟩
 by_cases p3:(ps.length:Int) - cp ≤ 6
 case neg =>
  have HV:Hid (funR had ⟨nm,ps,cp,rs,lc,cd⟩ = 19):=hid_of (by rw [HF.out,ownFR,if_pos (by cases hcc:countsO ⟨nm,ps,cp,rs,lc,cd⟩ <;> first | rfl | (exfalso; simp only [countsO,Bool.and_eq_true,decide_eq_true_eq] at hcc; omega))])
  go_enter Tryz.func89,Tryz.ntmps89
  go_wp2_with fail
  refine (hV _).mono ?_
  rintro e w1 ⟨rfl,rfl⟩
  go_wp2_with fail
  refine (hH _).mono ?_
  rintro e w1 ⟨rfl,rfl⟩
  clear HF
  go_wp2
  go_ret
  exact ⟨(by rw [HV.out]; first | done | rfl),hb0 _⟩
 by_cases p4:(ps.length:Int) ≤ lc
 case neg =>
  have HV:Hid (funR had ⟨nm,ps,cp,rs,lc,cd⟩ = 19):=hid_of (by rw [HF.out,ownFR,if_pos (by cases hcc:countsO ⟨nm,ps,cp,rs,lc,cd⟩ <;> first | rfl | (exfalso; simp only [countsO,Bool.and_eq_true,decide_eq_true_eq] at hcc; omega))])
  go_enter Tryz.func89,Tryz.ntmps89
  go_wp2_with fail
  refine (hV _).mono ?_
  rintro e w1 ⟨rfl,rfl⟩
  go_wp2_with fail
  refine (hH _).mono ?_
  rintro e w1 ⟨rfl,rfl⟩
  clear HF
  go_wp2
  go_ret
  exact ⟨(by rw [HV.out]; first | done | rfl),hb0 _⟩
 by_cases p5:lc ≤ 24
 case neg =>
  have HV:Hid (funR had ⟨nm,ps,cp,rs,lc,cd⟩ = 19):=hid_of (by rw [HF.out,ownFR,if_pos (by cases hcc:countsO ⟨nm,ps,cp,rs,lc,cd⟩ <;> first | rfl | (exfalso; simp only [countsO,Bool.and_eq_true,decide_eq_true_eq] at hcc; omega))])
  go_enter Tryz.func89,Tryz.ntmps89
  go_wp2_with fail
  refine (hV _).mono ?_
  rintro e w1 ⟨rfl,rfl⟩
  go_wp2_with fail
  refine (hH _).mono ?_
  rintro e w1 ⟨rfl,rfl⟩
  clear HF
  go_wp2
  go_ret
  exact ⟨(by rw [HV.out]; first | done | rfl),hb0 _⟩
 by_cases p6:cp = 0
 case neg =>
  have HV:Hid (funR had ⟨nm,ps,cp,rs,lc,cd⟩ = 19):=hid_of (by rw [HF.out,ownFR,if_pos (by cases hcc:countsO ⟨nm,ps,cp,rs,lc,cd⟩ <;> first | rfl | (exfalso; simp only [countsO,Bool.and_eq_true,Bool.or_eq_true,decide_eq_true_eq] at hcc; first | exact p6 (hcc.2.2.2.2.2.resolve_left PN.out) | omega))])
  have p7:0 < cp:=by omega
  go_enter Tryz.func89,Tryz.ntmps89
  go_wp2_with fail
  refine (hV _).mono ?_
  rintro e w1 ⟨rfl,rfl⟩
  go_wp2_with fail
  refine (hH _).mono ?_
  rintro e w1 ⟨rfl,rfl⟩
  clear HF
  go_wp2
  go_ret
  exact ⟨(by rw [HV.out]; first | done | rfl),hb0 _⟩
 subst p6
 have HG:Hid (funR had ⟨nm,ps,0,rs,lc,cd⟩ = if ps.all rightR = false then 17 else if rightR rs = false then 17 else if rightR (signO ⟨nm,ps,0,rs,lc,cd⟩) = false then 17 else if 2048 < cd.length then 3 else 0):=hid_of (by rw [HF.out,ownFR,if_neg (by rw [show countsO ⟨nm,ps,0,rs,lc,cd⟩ = true by simp only [countsO,Bool.and_eq_true,Bool.or_eq_true,decide_eq_true_eq]; exact ⟨by omega,by omega,by omega,by omega,by omega,.inr trivial⟩]; simp)])
 clear HF
 have hl24:ps.length ≤ 24:=by omega
 go_enter Tryz.func89,Tryz.ntmps89
 go_wp2_with fail
 refine (hV _).mono ?_
 rintro e w1 ⟨rfl,rfl⟩
 go_wp2_with fail
 refine (hH _).mono ?_
 rintro e w1 ⟨rfl,rfl⟩
 go_wp2
 go_loopg [6] ps.length (fun g i wr=>∃ (k:Nat),g + k = ps.length ∧ i = .int .i64 (k:Int) ∧ Hid ((ps.take k).all rightR = true) ∧ wr = (w.alloc (.cells #[.string (str nm),.slice va ps.length vc,.int .i64 0,.string (str rs),.int .i64 lc,.slice ka cd.length kc] 54)))
 case atStart=>exact ⟨0,by omega,rfl,by rw [hid_iff]; rfl,rfl⟩
 case round =>
  obtain ⟨k,hg,rfl,hq,rfl⟩:=hrel
  by_cases hk:k < ps.length
  ·obtain ⟨g,o,cap,e1,hFg,q⟩:=(HP.out.below (hb0 #[.string (str nm),.slice va ps.length vc,.int .i64 0,.string (str rs),.int .i64 lc,.slice ka cd.length kc]) hF).at k hk
   simp only [Value.slice.injEq,true_and] at e1
   obtain ⟨rfl,rfl⟩:=e1
   have hki:(k:Int) < (ps.length:Int):=by omega
   have hr:=fun u=>refRight (str ps[k]) u
   rw [str_data] at hr
   cases hb:rightR ps[k]
   ·rw [hb] at hr
    have HV:Hid (funR had ⟨nm,ps,0,rs,lc,cd⟩ = 17):=hid_of (by rw [HG.out,if_pos (all_not hk hb)])
    generalize ps[k] = x at *
    clear HG hb
    go_wp2_with fail
    refine (hr _).mono ?_
    rintro e w1 ⟨rfl,rfl⟩
    go_wp2
    go_ret
    exact ⟨(by rw [HV.out]; first | done | rfl),hb0 _⟩
   ·rw [hb] at hr
    have HQ:Hid ((ps.take (k + 1)).all rightR = true):=all_next hk hq.out hb
    generalize ps[k] = x at *
    clear hb
    go_wp2_with fail
    refine (hr _).mono ?_
    rintro e w1 ⟨rfl,rfl⟩
    go_wp2
    go_roundg (ps.length - (k + 1))
    case measure=>omega
    case rel=>exact ⟨k + 1,by omega,by go_num,HQ,rfl⟩
  ·have hki:¬ (k:Int) < (ps.length:Int):=by omega
   have hall:ps.all rightR = true:=by
    have:=hq.out
    rwa [List.take_of_length_le (by omega)] at this
   clear hq
   have HR2:Hid (funR had ⟨nm,ps,0,rs,lc,cd⟩ = if rightR rs = false then 17 else if rightR (signO ⟨nm,ps,0,rs,lc,cd⟩) = false then 17 else if 2048 < cd.length then 3 else 0):=hid_of (by rw [HG.out,hall]; rfl)
   clear HG
   cases hrr:rightR rs
   ·rw [hrr] at hR
    have HV:Hid (funR had ⟨nm,ps,0,rs,lc,cd⟩ = 17):=hid_of (by rw [HR2.out,hrr]; rfl)
    clear HR2 hall hrr
    go_wp2_with fail
    refine (hR _).mono ?_
    rintro e w1 ⟨rfl,rfl⟩
    go_wp2
    go_ret
    exact ⟨(by rw [HV.out]; first | done | rfl),hb0 _⟩
   ·rw [hrr] at hR
    have hSg:Calls Tryz.prog 14 #[.agg #[.string (str nm),.slice va ps.length vc,.int .i64 0,.string (str rs),.int .i64 lc,.slice ka cd.length kc]] (w.alloc (.cells #[.string (str nm),.slice va ps.length vc,.int .i64 0,.string (str rs),.int .i64 lc,.slice ka cd.length kc] 54)) (TextB (signO ⟨nm,ps,0,rs,lc,cd⟩) (w.alloc (.cells #[.string (str nm),.slice va ps.length vc,.int .i64 0,.string (str rs),.int .i64 lc,.slice ka cd.length kc] 54))):=rSign F ⟨nm,ps,0,rs,lc,cd⟩ (.slice va ps.length vc) (.slice ka cd.length kc) _ ⟨HP.out.below (hb0 _) hF,hp2⟩ (fun g hg=>by have:=hF g hg; have:=(hb0 #[.string (str nm),.slice va ps.length vc,.int .i64 0,.string (str rs),.int .i64 lc,.slice ka cd.length kc]).size; omega) (by simp only; omega) (fun y hy=>by have:=rightR_len (List.all_eq_true.1 hall y hy); omega) (by have:=rightR_len hrr; simp only; omega)
    have hS:=fun u=>refRight (str (signO ⟨nm,ps,0,rs,lc,cd⟩)) u
    rw [str_data] at hS
    have HR3:Hid (funR had ⟨nm,ps,0,rs,lc,cd⟩ = if rightR (signO ⟨nm,ps,0,rs,lc,cd⟩) = false then 17 else if 2048 < cd.length then 3 else 0):=hid_of (by rw [HR2.out,hrr]; rfl)
    clear HR2 hall hrr
    have hN:=heap_alloc_new w (.cells #[.string (str nm),.slice va ps.length vc,.int .i64 0,.string (str rs),.int .i64 lc,.slice ka cd.length kc] 54)
    generalize signO ⟨nm,ps,0,rs,lc,cd⟩ = sg at *
    go_wp2_with fail
    refine (hR _).mono ?_
    rintro e w1 ⟨rfl,rfl⟩
    go_wp2_with fail
    refine hSg.mono ?_
    rintro e w1 ⟨rfl,hb1⟩
    have hC:=(hb1.block w.heap.size (by simp)).trans hN
    have q5:w1.cell? ⟨w.heap.size,5,none⟩ = some (.slice ka cd.length kc):=by rw [cell_of_row _ _ 5 _ _ _ hC]; rfl
    have hbw:=below_trans (hb0 _) hb1
    clear hC hN hb1
    cases hsr:rightR sg
    ·rw [hsr] at hS
     have HV:Hid (funR had ⟨nm,ps,0,rs,lc,cd⟩ = 17):=hid_of (by rw [HR3.out,hsr]; rfl)
     clear HR3 hsr
     go_wp2_with fail
     refine (hS _).mono ?_
     rintro e w2 ⟨rfl,rfl⟩
     go_wp2
     go_ret
     exact ⟨(by rw [HV.out]; first | done | rfl),hbw⟩
    ·rw [hsr] at hS
     have HR4:Hid (funR had ⟨nm,ps,0,rs,lc,cd⟩ = if 2048 < cd.length then 3 else 0):=hid_of (by rw [HR3.out,hsr]; rfl)
     clear HR3 hsr
     by_cases hcd:2048 < cd.length
     ·have HV:Hid (funR had ⟨nm,ps,0,rs,lc,cd⟩ = 3):=hid_of (by rw [HR4.out,if_pos hcd])
      have hcdi:(2048:Int) < (cd.length:Int):=by omega
      clear HR4 hcd
      go_wp2_with fail
      refine (hS _).mono ?_
      rintro e w2 ⟨rfl,rfl⟩
      go_wp2
      go_ret
      exact ⟨(by rw [HV.out]; first | done | rfl),hbw⟩
     ·have HV:Hid (funR had ⟨nm,ps,0,rs,lc,cd⟩ = 0):=hid_of (by rw [HR4.out,if_neg hcd])
      have hcdi:¬ (2048:Int) < (cd.length:Int):=by omega
      clear HR4 hcd
      go_wp2_with fail
      refine (hS _).mono ?_
      rintro e w2 ⟨rfl,rfl⟩
      go_wp2
      go_ret
      exact ⟨(by rw [HV.out]; first | done | rfl),hbw⟩
theorem rfun (F : Nat → Prop) (f : Fn) (pv kv hv : Value) (had : List (List UInt8)) (w : World) (hp : TxC F w pv f.params) (hkv : ∃ a c, kv = .slice a f.code.length c) (hF : ∀ g, F g → g < w.heap.size) (hok : FnOk f) (hh : StrRow w hv had) (hhl : had.length ≤ 8796093022208) :
  Calls Tryz.prog 89 #[fnv f pv kv,hv] w (NumB (funR had f) w):=by
 by_cases pn:f.name = []
 ·exact rfunN F f pv kv hv had w hp hkv hF hok hh hhl pn
 ·exact rfunV F f pv kv hv had w hp hkv hF hok hh hhl pn
end Go.Proofs.YtiiepfplommmfaaGreatDoor

namespace Go.Proofs.YtiiepfplommmfaaGreatDoor
open Go.RowKit

def it0:It:=⟨0,[],[],[]⟩
def FindE (l:List It) (q:List UInt8) (w:World) (e:Ending) (w':World):Prop:=∃ x cv,e = .returned (.tuple #[itv x cv,.bool (findI l q).isSome]) ∧ x = (findI l q).getD it0 ∧ CsR (Fr w w') w' cv x.cases ∧ Below w.heap.size w w'
theorem findI_at (l:List It) (q:List UInt8) (k:Nat) (h:k < l.length):findI (l.drop k) q = if l[k].name = q then some l[k] else findI (l.drop (k + 1)) q:=by
 rw [List.drop_eq_getElem_cons h,findI,List.find?_cons]
 by_cases e:l[k].name = q
 ·simp [e]
 ·simp [e,findI]
set_option maxHeartbeats 2000000 in
set_option maxRecDepth 1000000 in
theorem find7 (F : Nat → Prop) (m : List UInt8) (l : List It) (va : Option Addr) (vc : Nat) (q : List UInt8) (w : World) (h : ItR F w (.slice va l.length vc) l) (hF : ∀ g, F g → g < w.heap.size) (hok : ∀ x ∈ l, ItOk x) (hl : l.length ≤ 2199023255552) :
  Calls Tryz.prog 110 #[.agg #[.string (str m),.slice va l.length vc],.string (str q)] w (FindE l q w):=by
 have hb0:Below w.heap.size w ((w.alloc (.cells #[.string (str m),.slice va l.length vc] 56)).alloc (.cells #[.int .i64 0,.string ⟨#[]⟩,.string ⟨#[]⟩,.slice none 0 0] 77)):=((Below.refl _ _).alloc (Nat.le_refl _) _).alloc (by simp) _
 have hSz:∀ u,Below (w.heap.size + 2) ((w.alloc (.cells #[.string (str m),.slice va l.length vc] 56)).alloc (.cells #[.int .i64 0,.string ⟨#[]⟩,.string ⟨#[]⟩,.slice none 0 0] 77)) u → w.heap.size + 2 ≤ u.heap.size:=fun u hu=>by have:=hu.size; simpa using this
 have hN:∀ u,Below (w.heap.size + 2) ((w.alloc (.cells #[.string (str m),.slice va l.length vc] 56)).alloc (.cells #[.int .i64 0,.string ⟨#[]⟩,.string ⟨#[]⟩,.slice none 0 0] 77)) u → Below w.heap.size w u:=fun u hu=>hb0.trans (hu.mono (by omega))
 have hR:∀ u,Below (w.heap.size + 2) ((w.alloc (.cells #[.string (str m),.slice va l.length vc] 56)).alloc (.cells #[.int .i64 0,.string ⟨#[]⟩,.string ⟨#[]⟩,.slice none 0 0] 77)) u → u.heap[w.heap.size + 1]? = some (.cells #[.int .i64 0,.string ⟨#[]⟩,.string ⟨#[]⟩,.slice none 0 0] 77 (0,0)):=fun u hu=>(hu.block _ (by omega)).trans (by have:=World.alloc_heap_new (w.alloc (.cells #[.string (str m),.slice va l.length vc] 56)) (.cells #[.int .i64 0,.string ⟨#[]⟩,.string ⟨#[]⟩,.slice none 0 0] 77); simpa using this)
 have hI:∀ u,Below (w.heap.size + 2) ((w.alloc (.cells #[.string (str m),.slice va l.length vc] 56)).alloc (.cells #[.int .i64 0,.string ⟨#[]⟩,.string ⟨#[]⟩,.slice none 0 0] 77)) u → ItR F u (.slice va l.length vc) l:=fun u hu=>h.below (hN u hu) hF
 have hFu:∀ u,Below (w.heap.size + 2) ((w.alloc (.cells #[.string (str m),.slice va l.length vc] 56)).alloc (.cells #[.int .i64 0,.string ⟨#[]⟩,.string ⟨#[]⟩,.slice none 0 0] 77)) u → ∀ g,F g → g < u.heap.size:=fun u hu g hg=>by have:=hF g hg; have:=hSz u hu; omega
 have hnext:∀ u u',Below (w.heap.size + 2) ((w.alloc (.cells #[.string (str m),.slice va l.length vc] 56)).alloc (.cells #[.int .i64 0,.string ⟨#[]⟩,.string ⟨#[]⟩,.slice none 0 0] 77)) u → Below u.heap.size u u' → Below (w.heap.size + 2) ((w.alloc (.cells #[.string (str m),.slice va l.length vc] 56)).alloc (.cells #[.int .i64 0,.string ⟨#[]⟩,.string ⟨#[]⟩,.slice none 0 0] 77)) u':=fun u u' hu h=>hu.trans (h.mono (hSz u hu))
 have G0:Below (w.heap.size + 2) ((w.alloc (.cells #[.string (str m),.slice va l.length vc] 56)).alloc (.cells #[.int .i64 0,.string ⟨#[]⟩,.string ⟨#[]⟩,.slice none 0 0] 77)) ((w.alloc (.cells #[.string (str m),.slice va l.length vc] 56)).alloc (.cells #[.int .i64 0,.string ⟨#[]⟩,.string ⟨#[]⟩,.slice none 0 0] 77)):=Below.refl _ _
 clear h hb0
 go_enter Tryz.func110,Tryz.ntmps110
 go_wp2
 generalize hW:((w.alloc (.cells #[.string (str m),.slice va l.length vc] 56)).alloc (.cells #[.int .i64 0,.string ⟨#[]⟩,.string ⟨#[]⟩,.slice none 0 0] 77)) = W2 at *
 clear hW
 go_loopg [11] l.length (fun g i wr=>∃ (k:Nat),g + k = l.length ∧ i = .int .i64 (k:Int) ∧ Hid (findI l q = findI (l.drop k) q) ∧ Below (w.heap.size + 2) W2 wr)
 case atStart=>exact ⟨0,by simp,rfl,by simp [Hid],G0⟩
 case round =>
  obtain ⟨k,hg,rfl,hq,Gr⟩:=hrel
  by_cases hk:k < l.length
  ·obtain ⟨bk,o,c,cv,e1,hgF,hC,q0,q1,q2,q3⟩:=(hI _ Gr).at k hk
   simp only [Value.slice.injEq,true_and] at e1
   obtain ⟨rfl,rfl⟩:=e1
   obtain ⟨ca,cc,rfl⟩:=hC.shape
   have hki:(k:Int) < (l.length:Int):=by omega
   have hx:=hok _ (List.getElem_mem hk)
   have HQ:=hq.out
   rw [findI_at l q k hk] at HQ
   clear hq
   generalize l[k] = x at *
   obtain ⟨kd,nm,ty,cs⟩:=x
   simp only at hC q0 q1 q2 q3 HQ
   have he:=eq_is nm q
   have hba:Below wr.heap.size wr (wr.alloc (.cells #[.int .i64 kd,.string (str nm),.string (str ty),.slice ca cs.length cc] 77)):=(Below.refl _ _).alloc (Nat.le_refl _) _
   have Ga:=hnext _ _ Gr hba
   by_cases hn:nm = q
   ·rw [decide_eq_true hn] at he
    rw [if_pos hn] at HQ
    replace HQ:=hidden HQ
    have hcp:=copyItem F ⟨kd,nm,ty,cs⟩ (.slice ca cs.length cc) _ (hC.below hba (hFu _ Gr)) (hFu _ Ga) hx
    unfold itv at hcp
    simp only at hcp
    clear hn hI hok hx
    go_wp2_with fail
    refine hcp.mono ?_
    rintro e w3 ⟨cv',rfl,hC3,hb3⟩
    obtain ⟨da,dc,rfl⟩:=hC3.shape
    (try simp only at hC3)
    have G3:=hnext _ _ Ga hb3
    have hr:=hR _ G3
    have hsa:=hSz _ Ga
    have hbw:=(hN _ G3).trans ((setRow_below w3 (w.heap.size + 1) #[.int .i64 kd,.string (str nm),.string (str ty),.slice da cs.length dc]).mono (by omega))
    have hC4:CsR (Fr w (w3.setRow (w.heap.size + 1) #[.int .i64 kd,.string (str nm),.string (str ty),.slice da cs.length dc])) (w3.setRow (w.heap.size + 1) #[.int .i64 kd,.string (str nm),.string (str ty),.slice da cs.length dc]) (.slice da cs.length dc) cs:=hC3.frame fun g hg=>by
     have:=hg.1
     refine ⟨⟨by omega,by simpa [World.setRow] using hg.2⟩,?_⟩
     simp only [World.setRow]
     rw [Array.getElem?_modify,if_neg (by omega)]
    clear hcp hC3 hb3 G3 hsa
    go_wp2_with (refine wpList_store_row rfl 77 (.tmp 4) (.tmp 20) rfl (w.heap.size + 1) #[.int .i64 kd,.string (str nm),.string (str ty),.slice da cs.length dc] rfl rfl 77 #[.int .i64 0,.string ⟨#[]⟩,.string ⟨#[]⟩,.slice none 0 0] hr sizeIt rfl (by first | kernel_rfl | rfl | simp [Value.oneCell']) ?_)
    (try simp only [Exit.inBlock,Exit.then])
    refine bodyPost_ret (res7 rfl _ _ (w.heap.size + 1) 77 #[.int .i64 kd,.string (str nm),.string (str ty),.slice da cs.length dc] (0,0) _ rfl (setRow_heap w3 (w.heap.size + 1) _ _ 77 (0,0) hr) Tryz.underlying77 rfl sizeIt) rfl ?_
    exact ⟨⟨kd,nm,ty,cs⟩,_,by rw [HQ.out]; rfl,by rw [HQ.out]; rfl,hC4,hbw⟩
   ·rw [decide_eq_false hn] at he
    rw [if_neg hn] at HQ
    replace HQ:=hidden HQ
    clear hn hI hok hx
    go_wp2
    go_roundg (l.length - (k + 1))
    case measure=>omega
    case rel=>exact ⟨k + 1,by omega,by go_num,HQ,Ga⟩
  ·have hki:¬ (k:Int) < (l.length:Int):=by omega
   have HX:Hid (findI l q = none):=by
    rw [hid_iff,hq.out,List.drop_of_length_le (by omega)]
    rfl
   have hr:=hR _ Gr
   have hbw:=(hN _ Gr).trans ((setRow_below wr (w.heap.size + 1) #[.int .i64 0,.string ⟨#[]⟩,.string ⟨#[]⟩,.slice none 0 0]).mono (by omega))
   clear hq hI
   go_wp2_with (refine wpList_store_row rfl 77 (.tmp 4) (.tmp 22) rfl (w.heap.size + 1) #[.int .i64 0,.string ⟨#[]⟩,.string ⟨#[]⟩,.slice none 0 0] rfl rfl 77 #[.int .i64 0,.string ⟨#[]⟩,.string ⟨#[]⟩,.slice none 0 0] hr sizeIt rfl (by kernel_rfl) ?_)
   (try simp only [Exit.inBlock,Exit.then])
   refine bodyPost_ret (res7 rfl _ _ (w.heap.size + 1) 77 #[.int .i64 0,.string ⟨#[]⟩,.string ⟨#[]⟩,.slice none 0 0] (0,0) _ rfl (setRow_heap wr (w.heap.size + 1) _ _ 77 (0,0) hr) Tryz.underlying77 rfl sizeIt) rfl ?_
   exact ⟨it0,.slice none 0 0,by rw [HX.out]; rfl,by rw [HX.out]; rfl,CsR.nil _ _,hbw⟩
end Go.Proofs.YtiiepfplommmfaaGreatDoor

namespace Go.Proofs.YtiiepfplommmfaaGreatDoor
open Go.RowKit

def NamedN (o:Ob) (q:List UInt8) (w:World) (e:Ending) (w':World):Prop:=∃ x ca cn cc,e = .returned (.tuple #[itv x (.slice ca cn cc),.bool (ownO o q).isSome]) ∧ Below w.heap.size w w'
end Go.Proofs.YtiiepfplommmfaaGreatDoor

namespace Go.Proofs.YtiiepfplommmfaaGreatDoor
open Go.RowKit

def it00:It:=⟨0,[],[],[]⟩
def NamedO (o:Ob) (q:List UInt8) (w:World) (e:Ending) (w':World):Prop:=∃ x cv,e = .returned (.tuple #[itv x cv,.bool (ownO o q).isSome]) ∧ x = (ownO o q).getD it00 ∧ CsR (Fr w w') w' cv x.cases ∧ Below w.heap.size w w'
theorem find_at {α:Type} (p:α → Bool) (l:List α) (k:Nat) (h:k < l.length):(l.drop k).find? p = if p l[k] = true then some l[k] else (l.drop (k + 1)).find? p:=by
 rw [List.drop_eq_getElem_cons h,List.find?_cons]
 cases p l[k] <;> rfl
def ownG (o:Ob) (q:List UInt8) (k:Nat):Option It :=
 match (o.globals.drop k).find? (fun g=>decide (g.name = q)) with
 | some g=>some ⟨2,q,g.ty,[]⟩
 | none=>match o.funs.find? (fun f=>decide (f.name = q)) with
  | some f=>some ⟨3,q,signO f,[]⟩
  | none=>findI o.types q
def ownF (o:Ob) (q:List UInt8) (k:Nat):Option It :=
 match (o.funs.drop k).find? (fun f=>decide (f.name = q)) with
 | some f=>some ⟨3,q,signO f,[]⟩
 | none=>findI o.types q
theorem ownG_zero (o:Ob) (q:List UInt8) (hq:q ≠ []):ownO o q = ownG o q 0:=by rw [ownO,if_neg hq]; rfl
theorem ownG_yes (o:Ob) (q:List UInt8) (k:Nat) (h:k < o.globals.length) (hn:o.globals[k].name = q):ownG o q k = some ⟨2,q,o.globals[k].ty,[]⟩:=by
 rw [ownG,find_at _ _ k h,if_pos (decide_eq_true hn)]
theorem ownG_no (o:Ob) (q:List UInt8) (k:Nat) (h:k < o.globals.length) (hn:o.globals[k].name ≠ q):ownG o q k = ownG o q (k + 1):=by
 rw [ownG,find_at _ _ k h,if_neg (by simpa using hn)]
 rfl
theorem ownG_end (o:Ob) (q:List UInt8) (k:Nat) (h:¬ k < o.globals.length):ownG o q k = ownF o q 0:=by
 rw [ownG,List.drop_of_length_le (by omega)]
 rfl
theorem ownF_yes (o:Ob) (q:List UInt8) (k:Nat) (h:k < o.funs.length) (hn:o.funs[k].name = q):ownF o q k = some ⟨3,q,signO o.funs[k],[]⟩:=by
 rw [ownF,find_at _ _ k h,if_pos (decide_eq_true hn)]
theorem ownF_no (o:Ob) (q:List UInt8) (k:Nat) (h:k < o.funs.length) (hn:o.funs[k].name ≠ q):ownF o q k = ownF o q (k + 1):=by
 rw [ownF,find_at _ _ k h,if_neg (by simpa using hn)]
 rfl
theorem ownF_end (o:Ob) (q:List UInt8) (k:Nat) (h:¬ k < o.funs.length):ownF o q k = findI o.types q:=by
 rw [ownF,List.drop_of_length_le (by omega)]
 rfl
end Go.Proofs.YtiiepfplommmfaaGreatDoor

namespace Go.Proofs.YtiiepfplommmfaaGreatDoor

def hadT (o:Ob) (k:Nat):List (List UInt8):=(o.types.take k).map (·.name)
def hadG (o:Ob) (k:Nat):List (List UInt8):=hadT o o.types.length ++ (o.globals.take k).map (·.name)
def hadF (o:Ob) (k:Nat):List (List UInt8):=hadG o o.globals.length ++ ((o.funs.take k).map (·.name)).filter (fun x=>decide (x ≠ []))
def anyN (l:List (List UInt8)) (n:List UInt8):Bool:=l.any (fun x=>decide (x = n))
theorem anyN_map {α:Type} (f:α → List UInt8) (l:List α) (n:List UInt8):anyN (l.map f) n = l.any (fun d=>decide (f d = n)):=by
 unfold anyN
 rw [List.any_map]
 rfl
def typeQ (m:List UInt8) (had:List (List UInt8)) (x:It):Nat:=if rightI m [x] ≠ 0 then rightI m [x] else if x.kind ≠ 1 then 12 else if anyN had x.name = true then 15 else 0
def globalQ (nf:Int) (had:List (List UInt8)) (g:Gl):Nat:=if valueR g.name = false then 13 else if anyN had g.name = true then 15 else if rightR g.ty = false then 17 else if inO g.fn nf = false then 21 else 0
theorem typeQ_is (o:Ob) (k:Nat) (x:It):typeQ o.mod (hadT o k) x = typeO o.mod (o.types.take k) x:=by
 unfold typeQ typeO hadT
 rw [anyN_map]
theorem value_no_big {n:List UInt8} (h:valueR n = true):bigR n = false:=by
 unfold valueR at h
 unfold bigR
 simp only [Bool.and_eq_true,Bool.not_eq_true'] at h
 rw [h.2,Bool.and_false]
theorem value_ne {n:List UInt8} (h:valueR n = true):n ≠ []:=by
 rintro rfl
 cases h
theorem typeO_big {m:List UInt8} {ah:List It} {x:It} (h:typeO m ah x = 0):bigR x.name = true:=by
 unfold typeO at h
 by_cases h1:rightI m [x] ≠ 0
 ·rw [if_pos h1] at h
  exact absurd h h1
 rw [if_neg h1] at h
 by_cases h2:x.kind ≠ 1
 ·rw [if_pos h2] at h
  cases h
 have hk:x.kind = 1:=by omega
 have h3:rightI m [x] = 0:=by omega
 unfold rightI at h3
 by_cases h4:valueR m = false
 ·rw [if_pos h4] at h3
  cases h3
 rw [if_neg h4,if_neg (by simp)] at h3
 have h5:itemE none x = 0:=by
  rw [itemsE] at h3
  by_cases h6:itemE none x = 0
  ·exact h6
  ·rw [if_neg h6] at h3
   exact absurd h3 h6
 unfold itemE at h5
 by_cases h6:kindE x.kind = false
 ·rw [if_pos h6] at h5
  cases h5
 rw [if_neg h6] at h5
 by_cases h7:namedE x = false
 ·rw [if_pos h7] at h5
  cases h5
 have h8:namedE x = true:=by simpa using h7
 unfold namedE at h8
 rwa [if_pos hk] at h8
def BigT (o:Ob):Prop:=∀ x ∈ o.types,bigR x.name = true
theorem big_types {o:Ob} (h:(scanO (elemO o 0) 0 (lenO o 0)).1 = 0):BigT o:=by
 intro x hx
 obtain ⟨i,hi,rfl⟩:=List.getElem_of_mem hx
 have h1:=scanO_all _ _ h i (by omega) (by show i < 0 + o.types.length; omega)
 rw [elemO,List.getElem?_eq_getElem hi] at h1
 exact typeO_big h1
theorem hadT_no {o:Ob} (h:BigT o) (k:Nat) {n:List UInt8} (hn:bigR n = false):anyN (hadT o k) n = false:=by
 unfold hadT
 rw [anyN_map,List.any_eq_false]
 intro x hx e
 have h1:=h x (List.mem_of_mem_take hx)
 rw [of_decide_eq_true e,hn] at h1
 cases h1
theorem anyN_append (a b:List (List UInt8)) (n:List UInt8):anyN (a ++ b) n = (anyN a n || anyN b n):=by
 unfold anyN
 rw [List.any_append]
theorem globalQ_is {o:Ob} (h:BigT o) (nf:Int) (k:Nat) (g:Gl):globalQ nf (hadG o k) g = globalO nf (o.globals.take k) g:=by
 unfold globalQ globalO
 cases hv:valueR g.name
 ·rfl
 ·rw [hadG,anyN_append,hadT_no h _ (value_no_big hv),Bool.false_or,anyN_map]
theorem any_filter_ne (l:List (List UInt8)) {n:List UInt8} (hn:n ≠ []):anyN (l.filter (fun x=>decide (x ≠ []))) n = anyN l n:=by
 induction l with
 | nil=>rfl
 | cons a r ih =>
  by_cases ha:a = []
  ·subst ha
   have h1:decide (([]:List UInt8) = n) = false:=decide_eq_false (fun e=>hn e.symm)
   have h2:anyN ([] :: r) n = anyN r n:=by show (decide (([]:List UInt8) = n) || anyN r n) = anyN r n; rw [h1]; rfl
   rw [List.filter_cons_of_neg (by simp),h2]
   exact ih
  ·rw [List.filter_cons_of_pos (by simpa using ha)]
   show (decide (a = n) || _) = (decide (a = n) || _)
   exact congrArg _ ih
theorem funQ_is {o:Ob} (h:BigT o) (k:Nat) (f:Fn):funR (hadF o k) f = funO o.globals (o.funs.take k) f:=by
 have hown:ownFR f = if countsO f = false then 19 else if rightR f.res = false ∨ f.params.all rightR = false ∨ rightR (signO f) = false then 17 else if 2048 < f.code.length then 3 else 0:=by
  unfold ownFR
  cases countsO f <;> cases rightR f.res <;> cases f.params.all rightR <;> cases rightR (signO f) <;> simp
 by_cases hn:f.name = []
 ·unfold funR funO
  rw [if_pos hn,hown]
  simp only [hn,ne_eq,not_true_eq_false,false_and,if_false]
 ·cases hv:valueR f.name
  ·unfold funR funO
   rw [if_neg hn,if_pos hv,if_pos ⟨hn,hv⟩]
  ·have ha:(hadF o k).any (fun x=>decide (x = f.name)) = (o.globals.any (fun d=>decide (d.name = f.name)) || (o.funs.take k).any (fun d=>decide (d.name = f.name))):=by
    show anyN (hadF o k) f.name = _
    rw [hadF,anyN_append,any_filter_ne _ hn,hadG,anyN_append,hadT_no h _ (value_no_big hv),Bool.false_or,anyN_map,anyN_map,List.take_length]
   unfold funR funO
   rw [if_neg hn,ha,hown,hv]
   generalize o.globals.any (fun d=>decide (d.name = f.name)) = x
   generalize (o.funs.take k).any (fun d=>decide (d.name = f.name)) = y
   cases x <;> cases y <;> simp [hn]
def ownQ (o:Ob) (n:List UInt8):Option It :=
 match findI o.types n with
 | some x=>some x
 | none=>match o.globals.find? (fun g=>decide (g.name = n)) with
  | some g=>some ⟨2,n,g.ty,[]⟩
  | none=>if n = [] then none else match o.funs.find? (fun f=>decide (f.name = n)) with
   | some f=>some ⟨3,n,signO f,[]⟩
   | none=>none
structure NmOk (o:Ob):Prop where
 big:BigT o
 gl:∀ g ∈ o.globals,valueR g.name = true
 fn:∀ f ∈ o.funs,f.name ≠ [] → valueR f.name = true
theorem nm_ok {o:Ob} (h0:(scanO (elemO o 0) 0 (lenO o 0)).1 = 0) (h2:(scanO (elemO o 2) 0 (lenO o 2)).1 = 0) (h3:(scanO (elemO o 3) 0 (lenO o 3)).1 = 0):NmOk o:=by
 refine ⟨big_types h0,fun g hg=>?_,fun f hf hn=>?_⟩
 ·obtain ⟨i,hi,rfl⟩:=List.getElem_of_mem hg
  have h1:=scanO_all _ _ h2 i (by omega) (by show i < 0 + o.globals.length; omega)
  rw [elemO,List.getElem?_eq_getElem hi] at h1
  simp only [globalO] at h1
  cases hv:valueR o.globals[i].name
  ·rw [hv,if_pos rfl] at h1
   cases h1
  ·rfl
 ·obtain ⟨i,hi,rfl⟩:=List.getElem_of_mem hf
  have h1:=scanO_all _ _ h3 i (by omega) (by show i < 0 + o.funs.length; omega)
  rw [elemO,List.getElem?_eq_getElem hi] at h1
  simp only [funO] at h1
  cases hv:valueR o.funs[i].name
  ·rw [if_pos ⟨hn,hv⟩] at h1
   cases h1
  ·rfl
theorem findI_none {ts:List It} {n:List UInt8} (h:∀ x ∈ ts,bigR x.name = true) (hn:bigR n = false):findI ts n = none:=by
 unfold findI
 rw [List.find?_eq_none]
 intro x hx e
 have h1:=h x hx
 rw [of_decide_eq_true e,hn] at h1
 cases h1
theorem ownQ_is {o:Ob} (h:NmOk o) (n:List UInt8):ownQ o n = ownO o n:=by
 unfold ownQ ownO
 cases hb:bigR n
 ·rw [findI_none h.big hb]
  by_cases hn:n = []
  ·subst hn
   rw [if_pos rfl,if_pos rfl]
   have:o.globals.find? (fun g=>decide (g.name = [])) = none:=by
    rw [List.find?_eq_none]
    intro g hg e
    exact value_ne (h.gl g hg) (of_decide_eq_true e)
   rw [this]
  ·rw [if_neg hn,if_neg hn]
   rfl
 ·have hn:n ≠ []:=by rintro rfl; cases hb
  have hv:valueR n = false:=by
   cases hv:valueR n
   ·rfl
   ·rw [value_no_big hv] at hb
    cases hb
  have hg:o.globals.find? (fun g=>decide (g.name = n)) = none:=by
   rw [List.find?_eq_none]
   intro g hg e
   have:=h.gl g hg
   rw [of_decide_eq_true e,hv] at this
   cases this
  have hf:o.funs.find? (fun f=>decide (f.name = n)) = none:=by
   rw [List.find?_eq_none]
   intro f hf e
   have h1:=of_decide_eq_true e
   have:=h.fn f hf (by rw [h1]; exact hn)
   rw [h1,hv] at this
   cases this
  rw [hg,hf,if_neg hn,if_neg hn]
  cases findI o.types n <;> rfl
def ownFq (o:Ob) (q:List UInt8) (k:Nat):Option It:=if q = [] then none else match (o.funs.drop k).find? (fun f=>decide (f.name = q)) with
 | some f=>some ⟨3,q,signO f,[]⟩
 | none=>none
def ownGq (o:Ob) (q:List UInt8) (k:Nat):Option It:=match (o.globals.drop k).find? (fun g=>decide (g.name = q)) with
 | some g=>some ⟨2,q,g.ty,[]⟩
 | none=>ownFq o q 0
def ownTq (o:Ob) (q:List UInt8) (k:Nat):Option It:=match (o.types.drop k).find? (fun x=>decide (x.name = q)) with
 | some x=>some x
 | none=>ownGq o q 0
theorem ownTq_zero (o:Ob) (q:List UInt8):ownQ o q = ownTq o q 0:=rfl
theorem ownTq_yes (o:Ob) (q:List UInt8) (k:Nat) (h:k < o.types.length) (hn:o.types[k].name = q):ownTq o q k = some o.types[k]:=by
 rw [ownTq,find_at _ _ k h,if_pos (decide_eq_true hn)]
theorem ownTq_no (o:Ob) (q:List UInt8) (k:Nat) (h:k < o.types.length) (hn:o.types[k].name ≠ q):ownTq o q k = ownTq o q (k + 1):=by
 rw [ownTq,find_at _ _ k h,if_neg (by rw [decide_eq_false hn]; simp)]
 rfl
theorem ownTq_end (o:Ob) (q:List UInt8) (k:Nat) (h:¬ k < o.types.length):ownTq o q k = ownGq o q 0:=by
 rw [ownTq,List.drop_of_length_le (by omega)]
 rfl
theorem ownGq_yes (o:Ob) (q:List UInt8) (k:Nat) (h:k < o.globals.length) (hn:o.globals[k].name = q):ownGq o q k = some ⟨2,q,o.globals[k].ty,[]⟩:=by
 rw [ownGq,find_at _ _ k h,if_pos (decide_eq_true hn)]
theorem ownGq_no (o:Ob) (q:List UInt8) (k:Nat) (h:k < o.globals.length) (hn:o.globals[k].name ≠ q):ownGq o q k = ownGq o q (k + 1):=by
 rw [ownGq,find_at _ _ k h,if_neg (by rw [decide_eq_false hn]; simp)]
 rfl
theorem ownGq_end (o:Ob) (q:List UInt8) (k:Nat) (h:¬ k < o.globals.length):ownGq o q k = ownFq o q 0:=by
 rw [ownGq,List.drop_of_length_le (by omega)]
 rfl
theorem ownFq_yes (o:Ob) (q:List UInt8) (k:Nat) (h:k < o.funs.length) (hq:q ≠ []) (hn:o.funs[k].name = q):ownFq o q k = some ⟨3,q,signO o.funs[k],[]⟩:=by
 rw [ownFq,if_neg hq,find_at _ _ k h,if_pos (decide_eq_true hn)]
theorem ownFq_no (o:Ob) (q:List UInt8) (k:Nat) (h:k < o.funs.length) (hn:q = [] ∨ o.funs[k].name ≠ q):ownFq o q k = ownFq o q (k + 1):=by
 unfold ownFq
 by_cases hq:q = []
 ·rw [if_pos hq,if_pos hq]
 ·rcases hn with hn | hn
  ·exact absurd hn hq
  ·rw [if_neg hq,if_neg hq,find_at _ _ k h,if_neg (by rw [decide_eq_false hn]; simp)]
theorem ownFq_end (o:Ob) (q:List UInt8) (k:Nat) (h:¬ k < o.funs.length):ownFq o q k = none:=by
 unfold ownFq
 split
 ·rfl
 ·rw [List.drop_of_length_le (by omega)]
  rfl
end Go.Proofs.YtiiepfplommmfaaGreatDoor
