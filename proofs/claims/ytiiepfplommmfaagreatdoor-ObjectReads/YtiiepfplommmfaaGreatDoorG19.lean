/-
  The document's own objects: has, lists, Sign.
  And: The document's own objects: a function's sign.
-/
import Derived.Deep.LoopGhost
import Derived.Deep.CutRange
import Derived.Test.YtiiepfplommmfaaGreatDoorG16
import Derived.Test.YtiiepfplommmfaaGreatDoorG14
import Derived.Test.YtiiepfplommmfaaGreatDoorG13
namespace Go.Proofs.YtiiepfplommmfaaGreatDoor
open Go.RowKit

theorem any_next14 (xs:List (List UInt8)) (s:List UInt8) {k:Nat} (hk:k < xs.length) (h:(xs.take k).any (fun x=>decide (x = s)) = false) (he:xs[k] ≠ s):(xs.take (k + 1)).any (fun x=>decide (x = s)) = false:=by
 rw [List.take_succ_eq_append_getElem hk,List.any_append,h]
 simp [he]
theorem any_bad14 (xs:List (List UInt8)) (s:List UInt8) {k:Nat} (hk:k < xs.length) (he:xs[k] = s):xs.any (fun x=>decide (x = s)) = true:=by
 rw [List.any_eq_true]
 exact ⟨xs[k],List.getElem_mem hk,by simpa using he⟩
set_option maxHeartbeats 2000000 in
set_option maxRecDepth 1000000 in
theorem rhas (v:Value) (xs:List (List UInt8)) (s:List UInt8) (w:World) (h:StrRow w v xs) (_hl:xs.length ≤ 8796093022208):Calls Tryz.prog 87 #[v,.string (str s)] w (Pu (.bool (xs.any (fun x=>decide (x = s)))) w):=by
 obtain ⟨va,vc,hv⟩:=h.shape
 have h1:=hidden h
 clear h
 subst hv
 go_enter Tryz.func87,Tryz.ntmps87
 go_wp2
 go_loopg [5] xs.length (fun g i wr=>∃ (k:Nat),g + k = xs.length ∧ i = .int .i64 (k:Int) ∧ Hid ((xs.take k).any (fun x=>decide (x = s)) = false) ∧ wr = w)
 case atStart=>exact ⟨0,rfl,rfl,rfl,rfl⟩
 case round =>
  obtain ⟨k,hg,rfl,ht,rfl⟩:=hrel
  by_cases hk:k < xs.length
  ·obtain ⟨b1,o1,c1,e1,q1⟩:=h1.out.at k hk
   simp only [Value.slice.injEq,true_and] at e1
   obtain ⟨rfl,rfl⟩:=e1
   have hki:(k:Int) < (xs.length:Int):=by omega
   by_cases he:xs[k] = s
   ·have HE:Hid (xs.any (fun x=>decide (x = s)) = true):=any_bad14 xs s hk he
    rw [he] at q1
    clear he ht
    go_wp2
    go_ret
    exact ⟨by rw [HE.out]; rfl,rfl⟩
   ·have HT:Hid ((xs.take (k + 1)).any (fun x=>decide (x = s)) = false):=any_next14 xs s hk ht.out he
    have hne:((str xs[k]).toList == (str s).toList) = false:=by
     rw [beq_eq_false_iff_ne,Lib.toList_data,Lib.toList_data,str_data,str_data]
     exact he
    clear he ht
    generalize xs[k] = x at *
    go_wp2
    go_roundg (xs.length - (k + 1))
    case measure=>omega
    case rel=>exact ⟨k + 1,by omega,by go_num,HT,rfl⟩
  ·have HE:Hid (xs.any (fun x=>decide (x = s)) = false):=by
    have:=ht.out
    rwa [List.take_of_length_le (by omega)] at this
   have hki:¬ (k:Int) < (xs.length:Int):=by omega
   clear ht
   go_wp2
   go_ret
   exact ⟨by rw [HE.out]; rfl,rfl⟩
set_option maxHeartbeats 1000000 in
set_option maxRecDepth 1000000 in
theorem rlists (F:Nat → Prop) (u:ObV) (o:Ob) (w:World) (h:ObR F w u o):Calls Tryz.prog 35 #[obv u o.mod] w (BoolB (!manyO o) w):=by
 obtain ⟨m,ts,xs,gs,fs,es,ss,rs⟩:=o
 obtain ⟨tv,xv,gv,fv,ev,sv,rv⟩:=u
 obtain ⟨h1,h2,h3,h4,h5,h6,h7⟩:=h
 unfold obv
 simp only at *
 obtain ⟨a1,c1,rfl⟩:=h1.shape
 obtain ⟨a2,c2,rfl⟩:=h2.1.shape
 obtain ⟨a3,c3,rfl⟩:=h3.shape
 obtain ⟨a4,c4,rfl⟩:=h4.shape
 obtain ⟨a5,c5,rfl⟩:=h5.1.shape
 obtain ⟨a6,c6,rfl⟩:=h6.shape
 obtain ⟨a7,c7,rfl⟩:=h7.shape
 have hb0:Below w.heap.size w (w.alloc (.cells #[.string (str m),.slice a1 ts.length c1,.slice a2 xs.length c2,.slice a3 gs.length c3,.slice a4 fs.length c4,.slice a5 es.length c5,.slice a6 ss.length c6,.slice a7 rs.length c7] 35)):=(Below.refl _ _).alloc (Nat.le_refl _) _
 have HM:Hid (manyO ⟨m,ts,xs,gs,fs,es,ss,rs⟩ = (decide (32 < ts.length) || (decide (32 < xs.length) || (decide (32 < gs.length) || (decide (32 < es.length) || (decide (48 < fs.length) || (decide (96 < ss.length) || decide (384 < rs.length)))))))):=rfl
 clear h1 h2 h3 h4 h5 h6 h7
 generalize ts.length = n1 at *
 generalize xs.length = n2 at *
 generalize gs.length = n3 at *
 generalize fs.length = n4 at *
 generalize es.length = n5 at *
 generalize ss.length = n6 at *
 generalize rs.length = n7 at *
 go_enter Tryz.func35,Tryz.ntmps35
 by_cases pn1:32 < n1
 ·have pn1i:¬ (n1:Int) ≤ (32:Int):=by omega
  have HV:Hid (manyO ⟨m,ts,xs,gs,fs,es,ss,rs⟩ = true):=by rw [hid_iff,HM.out]; simp [pn1]
  clear HM  pn1
  go_wp2
  go_ret
  exact ⟨(by rw [HV.out]; first | done | rfl),hb0⟩
 have pn1i:(n1:Int) ≤ (32:Int):=by omega
 by_cases pn2:32 < n2
 ·have pn2i:¬ (n2:Int) ≤ (32:Int):=by omega
  have HV:Hid (manyO ⟨m,ts,xs,gs,fs,es,ss,rs⟩ = true):=by rw [hid_iff,HM.out]; simp [pn2]
  clear HM pn1 pn2
  go_wp2
  go_ret
  exact ⟨(by rw [HV.out]; first | done | rfl),hb0⟩
 have pn2i:(n2:Int) ≤ (32:Int):=by omega
 by_cases pn3:32 < n3
 ·have pn3i:¬ (n3:Int) ≤ (32:Int):=by omega
  have HV:Hid (manyO ⟨m,ts,xs,gs,fs,es,ss,rs⟩ = true):=by rw [hid_iff,HM.out]; simp [pn3]
  clear HM pn1 pn2 pn3
  go_wp2
  go_ret
  exact ⟨(by rw [HV.out]; first | done | rfl),hb0⟩
 have pn3i:(n3:Int) ≤ (32:Int):=by omega
 by_cases pn5:32 < n5
 ·have pn5i:¬ (n5:Int) ≤ (32:Int):=by omega
  have HV:Hid (manyO ⟨m,ts,xs,gs,fs,es,ss,rs⟩ = true):=by rw [hid_iff,HM.out]; simp [pn5]
  clear HM pn1 pn2 pn3 pn5
  go_wp2
  go_ret
  exact ⟨(by rw [HV.out]; first | done | rfl),hb0⟩
 have pn5i:(n5:Int) ≤ (32:Int):=by omega
 by_cases pn4:48 < n4
 ·have pn4i:¬ (n4:Int) ≤ (48:Int):=by omega
  have HV:Hid (manyO ⟨m,ts,xs,gs,fs,es,ss,rs⟩ = true):=by rw [hid_iff,HM.out]; simp [pn4]
  clear HM pn1 pn2 pn3 pn5 pn4
  go_wp2
  go_ret
  exact ⟨(by rw [HV.out]; first | done | rfl),hb0⟩
 have pn4i:(n4:Int) ≤ (48:Int):=by omega
 by_cases pn6:96 < n6
 ·have pn6i:¬ (n6:Int) ≤ (96:Int):=by omega
  have HV:Hid (manyO ⟨m,ts,xs,gs,fs,es,ss,rs⟩ = true):=by rw [hid_iff,HM.out]; simp [pn6]
  clear HM pn1 pn2 pn3 pn5 pn4 pn6
  go_wp2
  go_ret
  exact ⟨(by rw [HV.out]; first | done | rfl),hb0⟩
 have pn6i:(n6:Int) ≤ (96:Int):=by omega
 by_cases pn7:384 < n7
 ·have pn7i:¬ (n7:Int) ≤ (384:Int):=by omega
  have HV:Hid (manyO ⟨m,ts,xs,gs,fs,es,ss,rs⟩ = true):=by rw [hid_iff,HM.out]; simp [pn7]
  clear HM pn1 pn2 pn3 pn5 pn4 pn6 pn7
  go_wp2
  go_ret
  exact ⟨(by rw [HV.out]; first | done | rfl),hb0⟩
 have pn7i:(n7:Int) ≤ (384:Int):=by omega
 have HV:Hid (manyO ⟨m,ts,xs,gs,fs,es,ss,rs⟩ = false):=by rw [hid_iff,HM.out]; simp [pn1,pn2,pn3,pn5,pn4,pn6,pn7]
 clear HM pn1 pn2 pn3 pn5 pn4 pn6 pn7
 go_wp2
 go_ret
 exact ⟨(by rw [HV.out]; first | done | rfl),hb0⟩
end Go.Proofs.YtiiepfplommmfaaGreatDoor

namespace Go.Proofs.YtiiepfplommmfaaGreatDoor
open Go.RowKit

set_option maxHeartbeats 4000000 in
set_option maxRecDepth 1000000 in
theorem rSign (F : Nat → Prop) (f : Fn) (pv kv : Value) (w : World) (hp : TxC F w pv f.params) (hF : ∀ g, F g → g < w.heap.size) (hl : f.params.length ≤ 100000) (hj : ∀ y ∈ f.params, y.length ≤ 1000) (hr : f.res.length ≤ 1000) :
  Calls Tryz.prog 14 #[fnv f pv kv] w (TextB (signO f) w):=by
 obtain ⟨nm,ps,cp,rs,lc,cd⟩:=f
 obtain ⟨va,vc,rfl⟩:=hp.1.shape
 have hvc:ps.length ≤ vc:=hp.2 _ _ _ rfl
 unfold fnv
 simp only at *
 have hcut:cutO ⟨nm,ps,cp,rs,lc,cd⟩ = min (max cp 0).toNat ps.length:=rfl
 have HS:Hid (signO ⟨nm,ps,cp,rs,lc,cd⟩ = funcR (ps.drop (cutO ⟨nm,ps,cp,rs,lc,cd⟩)) rs):=rfl
 obtain ⟨k,hk⟩:∃ k:Nat,min (max cp 0) (ps.length:Int) = (k:Int):=⟨(min (max cp 0) (ps.length:Int)).toNat,by omega⟩
 have hkc:cutO ⟨nm,ps,cp,rs,lc,cd⟩ = k:=by rw [hcut]; omega
 rw [hkc] at HS
 clear hcut hkc
 have hkl:k ≤ ps.length:=by omega
 have hb0:∀ A,Below w.heap.size w (w.alloc (.cells A 54)):=fun A=>(Below.refl _ _).alloc (Nat.le_refl _) _
 have hS:∀ a' n' c',n' = ps.length - k → (ps.length - k = 0 ∨ a' = va.map (·.add k) ∧ c' = vc - k) → StrRow w (.slice a' n' c') (ps.drop k):=by
  rintro a' n' c' rfl ha
  by_cases h0:ps.length - k = 0
  ·exact .inl ⟨List.drop_of_length_le (by omega),a',c',by rw [h0]⟩
  ·rcases ha with h1 | ⟨rfl,rfl⟩
   ·exact absurd h1 h0
   ·rcases hp.1 with ⟨a,c0,e,rfl⟩ | ⟨g,o,cap,e,hg,hcell⟩
    ·exact absurd (by simp) h0
    ·simp only [Value.slice.injEq,true_and] at e
     obtain ⟨rfl,rfl⟩:=e
     refine .inr ⟨g,o + k,vc - k,by simp [addk],hF g hg,by simp; omega,fun j x hx=>?_⟩
     rw [List.getElem?_drop] at hx
     rw [Nat.add_assoc]
     exact hcell _ x hx
 have hT:∀ u a' n' c',Below w.heap.size w u → n' = ps.length - k → (ps.length - k = 0 ∨ a' = va.map (·.add k) ∧ c' = vc - k) → Calls Tryz.prog 51 #[.slice a' n' c',.string (str rs)] u (Pu (.string (str (funcR (ps.drop k) rs))) u):=by
  intro u a' n' c' hu h1 h2
  exact refFunc _ _ rs u ((hS a' n' c' h1 h2).below hu) (by simp; omega) (fun y hy=>hj y (List.mem_of_mem_drop hy)) hr
 have hva:va = none ∧ ps.length = 0 ∨ ∃ b o sp,va = some ⟨b,o,sp⟩:=by
  rcases va with _ | ⟨b,o,sp⟩
  ·left
   rcases hp.1 with ⟨a,c0,e,h⟩ | ⟨g,o,cap,e,hg,hcell⟩
   ·exact ⟨rfl,by rw [h]; rfl⟩
   ·simp at e
  ·exact .inr ⟨b,o,sp,rfl⟩
 have hz:va.map (·.add 0) = va:=by
  rcases va with _ | ⟨b,o,sp⟩ <;> rfl
 generalize funcR (ps.drop k) rs = res at *
 clear hS hj hr hp
 generalize ps.length = n at *
 by_cases c1:cp < 0
 ·obtain rfl:k = 0:=by omega
  have hT0:∀ u,Below w.heap.size w u → Calls Tryz.prog 51 #[.slice va n vc,.string (str rs)] u (Pu (.string (str res)) u):=fun u hu=>hT u va n vc hu rfl (.inr ⟨hz.symm,rfl⟩)
  clear hT hva hz hk
  go_enter Tryz.func14,Tryz.ntmps14
  go_wp2_with fail
  refine (hT0 _ (hb0 _)).mono ?_
  rintro e w2 ⟨rfl,rfl⟩
  go_wp2
  go_ret
  exact ⟨(by rw [HS.out]; first | done | rfl),hb0 _⟩
 by_cases c2:(n:Int) < cp
 ·obtain rfl:k = n:=by omega
  have hT0:∀ u,Below w.heap.size w u → Calls Tryz.prog 51 #[.slice none 0 0,.string (str rs)] u (Pu (.string (str res)) u):=fun u hu=>hT u none 0 0 hu (by omega) (.inl (by omega))
  clear hT hva hz hk
  go_enter Tryz.func14,Tryz.ntmps14
  go_wp2_with fail
  refine (hT0 _ (hb0 _)).mono ?_
  rintro e w2 ⟨rfl,rfl⟩
  go_wp2
  go_ret
  exact ⟨(by rw [HS.out]; first | done | rfl),hb0 _⟩
 obtain rfl:cp = (k:Int):=by omega
 have k0:(0:Int) ≤ (k:Int):=by omega
 have k1:(k:Int) ≤ (n:Int):=by omega
 have k2:(k:Int) ≤ (vc:Int):=by omega
 have k3:(n:Int) ≤ (vc:Int):=by omega
 clear hk hz c1
 rcases hva with ⟨rfl,h0⟩ | ⟨b,o,sp,rfl⟩
 ·subst h0
  by_cases hv:vc = k
  ·subst hv
   go_enter Tryz.func14,Tryz.ntmps14
   go_wp2_with fail
   go_region_with (go_at_call 51; refine (hT _ _ _ _ (by first | exact below_drew (hb0 _) | exact hb0 _) (by omega) (by first | exact .inl (by omega) | exact .inr ⟨rfl,rfl⟩)).mono ?_; rintro e w2 ⟨rfl,rfl⟩)
   all_goals (
    go_wp2
    go_ret
    exact ⟨(by rw [HS.out]; first | done | rfl),by first | exact hb0 _ | exact below_drew (hb0 _)⟩)
  ·have hvi:¬ (vc:Int) = (k:Int):=by omega
   go_enter Tryz.func14,Tryz.ntmps14
   go_wp2_with fail
   go_region_with (go_at_call 51; refine (hT _ _ _ _ (by first | exact below_drew (hb0 _) | exact hb0 _) (by omega) (by first | exact .inl (by omega) | exact .inr ⟨rfl,rfl⟩)).mono ?_; rintro e w2 ⟨rfl,rfl⟩)
   all_goals (
    go_wp2
    go_ret
    exact ⟨(by rw [HS.out]; first | done | rfl),by first | exact hb0 _ | exact below_drew (hb0 _)⟩)
 ·by_cases hv:vc = k
  ·subst hv
   go_enter Tryz.func14,Tryz.ntmps14
   go_wp2_with fail
   go_region_with (go_at_call 51; refine (hT _ _ _ _ (by first | exact below_drew (hb0 _) | exact hb0 _) (by omega) (by first | exact .inl (by omega) | exact .inr ⟨rfl,rfl⟩)).mono ?_; rintro e w2 ⟨rfl,rfl⟩)
   all_goals (
    go_wp2
    go_ret
    exact ⟨(by rw [HS.out]; first | done | rfl),by first | exact hb0 _ | exact below_drew (hb0 _)⟩)
  ·have hvi:¬ (vc:Int) = (k:Int):=by omega
   go_enter Tryz.func14,Tryz.ntmps14
   go_wp2_with fail
   go_region_with (go_at_call 51; refine (hT _ _ _ _ (by first | exact below_drew (hb0 _) | exact hb0 _) (by omega) (by first | exact .inl (by omega) | exact .inr ⟨rfl,rfl⟩)).mono ?_; rintro e w2 ⟨rfl,rfl⟩)
   all_goals (
    go_wp2
    go_ret
    exact ⟨(by rw [HS.out]; first | done | rfl),by first | exact hb0 _ | exact below_drew (hb0 _)⟩)
end Go.Proofs.YtiiepfplommmfaaGreatDoor
