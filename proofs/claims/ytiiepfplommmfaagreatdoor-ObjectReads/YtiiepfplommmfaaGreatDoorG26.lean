/-
  Object's reader: numbers, texts, lists of texts, cases.
-/
import Derived.Test.YtiiepfplommmfaaGreatDoorG12
import Derived.Test.YtiiepfplommmfaaGreatDoorG09
import Derived.Test.YtiiepfplommmfaaGreatDoorG07
namespace Go.Proofs.YtiiepfplommmfaaGreatDoor
open Go.RowKit

theorem rtx (most b g : Nat) (l : List Nat) (p y : Nat) (w : World) (hm : most ≤ 65535) (hl : l.length ≤ 140737488355328) (h256 : ∀ x ∈ l, x < 256) (hp : p ≤ l.length) (hr : Wire.RIs w b g l p y) :
  Calls Tryz.prog 163 #[.pointer (some ⟨b,0,none⟩),.int .i64 (most:Int)] w (TeE (txtR l most p y) l b g w):=by
 refine (Wire.rtext (most:Int) b g l p y w (by omega) (by omega) hl h256 hp hr).mono ?_
 rintro e w' ⟨R,rfl,rfl,h1,h2⟩
 rw [Int.toNat_natCast] at h1 ⊢
 exact ⟨by rw [Wire.toStr_eq]; rfl,h1,h2⟩
set_option maxHeartbeats 4000000 in
set_option maxRecDepth 1000000 in
theorem rnm (b g : Nat) (l : List Nat) (p y : Nat) (w : World) (hl : l.length ≤ 140737488355328) (h256 : ∀ x ∈ l, x < 256) (hp : p ≤ l.length) (hr : Wire.RIs w b g l p y) :
  Calls Tryz.prog 164 #[rdv b] w (NuE (Wire.rNum l p y 65535) l b g w):=by
 have kA:=wk_alloc w (.cells #[.pointer (some ⟨b,0,none⟩)] 115)
 have hrA:=hr.kept kA (fun h=>h) (fun h=>h)
 have h0:=Wire.rnumber b g l p y 65535 _ hl h256 hp (by decide) hrA
 have hmost:=Wire.rNum_most l p y 65535
 have HQ:Hid (∀ w',Wire.RIs w' b g l (Wire.rNum l p y 65535).2.1 (Wire.rNum l p y 65535).2.2 → Wire.Kept (fun k=>k = b) (w.alloc (.cells #[.pointer (some ⟨b,0,none⟩)] 115)) w' → NuE (Wire.rNum l p y 65535) l b g w (.returned (.int .i64 ((Wire.rNum l p y 65535).1:Int))) w'):=by
  rw [hid_iff]
  exact fun w' h1 h2=>⟨rfl,h1,kA.trans h2 (fun _ _ h=>h.elim) (fun _ _ h=>h)⟩
 generalize Wire.rNum l p y 65535 = R at *
 obtain ⟨n,p1,y1⟩:=R
 simp only at h0 hmost HQ
 have hci:IntKind.i64.wrap (n:Int) = (n:Int):=by rw [IntKind.wrap_i64]; omega
 unfold rdv
 clear kA hrA hr
 go_enter Tryz.func164,Tryz.ntmps164
 go_wp2_with fail
 generalize w.alloc (.cells #[.pointer (some ⟨b,0,none⟩)] 115) = wA at *
 refine h0.mono ?_
 rintro e w1 ⟨rfl,h1,h2⟩
 have hQ:=HQ.out _ h1 h2
 clear h0 h1 h2 HQ
 go_wp2
 go_ret
 exact hQ
set_option maxHeartbeats 4000000 in
set_option maxRecDepth 1000000 in
theorem rname (b g : Nat) (l : List Nat) (p y : Nat) (w : World) (hl : l.length ≤ 140737488355328) (h256 : ∀ x ∈ l, x < 256) (hp : p ≤ l.length) (hr : Wire.RIs w b g l p y) :
  Calls Tryz.prog 111 #[rdv b] w (TeE (txtR l 24 p y) l b g w):=by
 have kA:=wk_alloc w (.cells #[.pointer (some ⟨b,0,none⟩)] 115)
 have hrA:=hr.kept kA (fun h=>h) (fun h=>h)
 have h0:Calls Tryz.prog 163 #[.pointer (some ⟨b,0,none⟩),.int .i64 24] _ (TeE (txtR l 24 p y) l b g _):=rtx 24 b g l p y _ (by decide) hl h256 hp hrA
 have HQ:Hid (∀ w',Wire.RIs w' b g l (txtR l 24 p y).2.1 (txtR l 24 p y).2.2 → Wire.Kept (fun k=>k = b) (w.alloc (.cells #[.pointer (some ⟨b,0,none⟩)] 115)) w' → TeE (txtR l 24 p y) l b g w (.returned (.string (str (txtR l 24 p y).1))) w'):=by
  rw [hid_iff]
  exact fun w' h1 h2=>⟨rfl,h1,kA.trans h2 (fun _ _ h=>h.elim) (fun _ _ h=>h)⟩
 unfold TeE at h0
 generalize txtR l 24 p y = R at *
 obtain ⟨n,p1,y1⟩:=R
 simp only at h0 HQ
 unfold rdv
 clear kA hrA hr
 go_enter Tryz.func111,Tryz.ntmps111
 go_wp2_with fail
 generalize w.alloc (.cells #[.pointer (some ⟨b,0,none⟩)] 115) = wA at *
 refine h0.mono ?_
 rintro e w1 ⟨rfl,h1,h2⟩
 have hQ:=HQ.out _ h1 h2
 clear h0 h1 h2 HQ
 go_wp2
 go_ret
 exact hQ
set_option maxHeartbeats 4000000 in
set_option maxRecDepth 1000000 in
theorem rtype (b g : Nat) (l : List Nat) (p y : Nat) (w : World) (hl : l.length ≤ 140737488355328) (h256 : ∀ x ∈ l, x < 256) (hp : p ≤ l.length) (hr : Wire.RIs w b g l p y) :
  Calls Tryz.prog 115 #[rdv b] w (TeE (txtR l 200 p y) l b g w):=by
 have kA:=wk_alloc w (.cells #[.pointer (some ⟨b,0,none⟩)] 115)
 have hrA:=hr.kept kA (fun h=>h) (fun h=>h)
 have h0:Calls Tryz.prog 163 #[.pointer (some ⟨b,0,none⟩),.int .i64 200] _ (TeE (txtR l 200 p y) l b g _):=rtx 200 b g l p y _ (by decide) hl h256 hp hrA
 have HQ:Hid (∀ w',Wire.RIs w' b g l (txtR l 200 p y).2.1 (txtR l 200 p y).2.2 → Wire.Kept (fun k=>k = b) (w.alloc (.cells #[.pointer (some ⟨b,0,none⟩)] 115)) w' → TeE (txtR l 200 p y) l b g w (.returned (.string (str (txtR l 200 p y).1))) w'):=by
  rw [hid_iff]
  exact fun w' h1 h2=>⟨rfl,h1,kA.trans h2 (fun _ _ h=>h.elim) (fun _ _ h=>h)⟩
 unfold TeE at h0
 generalize txtR l 200 p y = R at *
 obtain ⟨n,p1,y1⟩:=R
 simp only at h0 HQ
 unfold rdv
 clear kA hrA hr
 go_enter Tryz.func115,Tryz.ntmps115
 go_wp2_with fail
 generalize w.alloc (.cells #[.pointer (some ⟨b,0,none⟩)] 115) = wA at *
 refine h0.mono ?_
 rintro e w1 ⟨rfl,h1,h2⟩
 have hQ:=HQ.out _ h1 h2
 clear h0 h1 h2 HQ
 go_wp2
 go_ret
 exact hQ
theorem rend_badO (l:List Nat) (p y:Nat):(((Wire.rEnd l p y).1:Int) != 0) = (badW y || (((Wire.rEnd l p y).1:Int) == 11)) ∧ ((((Wire.rEnd l p y).1:Int) != 0) = true → (((Wire.rEnd l p y).1:Int) != 11) = badW y):=by
 unfold Wire.rEnd badW
 by_cases h0:y = 0
 ·subst h0
  by_cases h1:p < l.length <;> simp [h1]
 ·by_cases h1:y = 11
  ·subst h1
   simp
  ·simp only [ne_eq,h0,not_false_eq_true,if_true,h1,decide_true,Bool.and_self,Bool.true_or]
   refine ⟨?_,fun _=>?_⟩ <;> (rw [bne_iff_ne]; omega)
theorem listF_atO {α:Type} (rd:Nat → Nat → α × Nat × Nat) (N k p y:Nat) (acc:List α) (h:k < N):listF rd (N - k) p y acc = if badW (rd p y).2.2 = true then ([],(rd p y).2.1,(rd p y).2.2) else listF rd (N - (k + 1)) (rd p y).2.1 (rd p y).2.2 (acc ++ [(rd p y).1]):=by
 rw [show N - k = (N - (k + 1)) + 1 by omega,listF]
theorem listF_endO {α:Type} (rd:Nat → Nat → α × Nat × Nat) (N k p y:Nat) (acc:List α) (h:¬ k < N):listF rd (N - k) p y acc = (acc,p,y):=by
 rw [show N - k = 0 by omega,listF]
set_option maxHeartbeats 4000000 in
set_option maxRecDepth 1000000 in
theorem rref (b g : Nat) (l : List Nat) (p y : Nat) (w : World) (hl : l.length ≤ 140737488355328) (hr : Wire.RIs w b g l p y) :
  Calls Tryz.prog 165 #[rdv b] w fun e w'=>e = .returned (.bool (badW y)) ∧ Wire.Kept (fun _=>False) w w':=by
 have kA:=wk_alloc w (.cells #[.pointer (some ⟨b,0,none⟩)] 115)
 have hrA:=hr.kept kA (fun h=>h) (fun h=>h)
 have h0:=Wire.rend b g l p y _ hl hrA
 obtain ⟨h1,h2⟩:=rend_badO l p y
 generalize badW y = bb at *
 generalize Wire.rEnd l p y = R at *
 obtain ⟨n,q⟩:=R
 simp only at h0 h1 h2
 unfold rdv
 clear hrA hr
 by_cases hn:n = 0
 ·subst hn
  have hbb:bb = false:=by
   cases bb
   ·rfl
   ·simp at h1
  subst hbb
  clear h1 h2
  go_enter Tryz.func165,Tryz.ntmps165
  go_wp2_with fail
  generalize w.alloc (.cells #[.pointer (some ⟨b,0,none⟩)] 115) = wA at *
  refine h0.mono ?_
  rintro e w1 ⟨rfl,k1⟩
  go_wp2
  go_ret
  exact ⟨rfl,kA.trans k1 (fun _ _ h=>h) (fun _ _ h=>h)⟩
 ·have hn0:((n:Int) != 0) = true:=by rw [bne_iff_ne]; omega
  have hn1:=h2 hn0
  clear h1 h2
  go_enter Tryz.func165,Tryz.ntmps165
  go_wp2_with fail
  generalize w.alloc (.cells #[.pointer (some ⟨b,0,none⟩)] 115) = wA at *
  refine h0.mono ?_
  rintro e w1 ⟨rfl,k1⟩
  go_wp2
  go_ret
  exact ⟨rfl,kA.trans k1 (fun _ _ h=>h) (fun _ _ h=>h)⟩
set_option maxHeartbeats 4000000 in
set_option maxRecDepth 1000000 in
theorem rlistT (b g : Nat) (l : List Nat) (p y : Nat) (w : World) (hl : l.length ≤ 140737488355328) (h256 : ∀ x ∈ l, x < 256) (hp : p ≤ l.length) (hr : Wire.RIs w b g l p y) :
  Calls Tryz.prog 114 #[rdv b,.func (.func 115) #[rdv b] #[]] w (RlE 1 cTx (listR l (txtR l 200) p y) l b g w):=by
 have hbl:=hr.lt
 have hgl:=hr.gt
 have kA:=wk_alloc w (.cells #[.pointer (some ⟨b,0,none⟩)] 115)
 have nA:=World.alloc_heap_new w (.cells #[.pointer (some ⟨b,0,none⟩)] 115)
 have zA:(w.alloc (.cells #[.pointer (some ⟨b,0,none⟩)] 115)).heap.size = w.heap.size + 1:=by simp
 have hrA:=hr.kept kA (fun h=>h) (fun h=>h)
 have hnum:=rnm b g l p y _ hl h256 hp hrA
 have hN:=Wire.rNum_most l p y 65535
 have hp1:=Wire.rNum_le l p y 65535 hp
 have HL:Hid (listR l (txtR l 200) p y = listF (txtR l 200) (Wire.rNum l p y 65535).1 (Wire.rNum l p y 65535).2.1 (Wire.rNum l p y 65535).2.2 []):=rfl
 unfold NuE at hnum
 generalize Wire.rNum l p y 65535 = R at *
 obtain ⟨N,p1,y1⟩:=R
 simp only at hnum hN hp1 HL
 generalize listR l (txtR l 200) p y = RES at *
 have hptr:∀ u,Wire.Kept (fun x=>x = b) (w.alloc (.cells #[.pointer (some ⟨b,0,none⟩)] 115)) u → u.cell? ⟨w.heap.size,0,none⟩ = some (.pointer (some ⟨b,0,none⟩)):=fun u hu=>by
  rw [cell_of_row u _ 0 _ _ _ ((hu.block w.heap.size (by omega) (by omega)).trans nA)]
  rfl
 have q0:=hptr _ (Wire.Kept.refl _ _)
 unfold rdv at *
 clear hr hrA nA
 go_enter Tryz.func114,Tryz.ntmps114
 go_wp2_with fail
 generalize w.alloc (.cells #[.pointer (some ⟨b,0,none⟩)] 115) = wA at *
 refine hnum.mono ?_
 rintro e w1 ⟨rfl,hr1,K1⟩
 clear hnum q0
 go_wp2
 go_loopg [5,9] N (fun gk lv i wr=>∃ (k pk yk:Nat) (acc:List (List UInt8)),gk + k = N ∧ i = .int .i64 (k:Int) ∧ Hid (RES = listF (txtR l 200) (N - k) pk yk acc) ∧ Hid (acc.length = k) ∧ pk ≤ l.length ∧ Wire.RIs wr b g l pk yk ∧ RowG cTx 9 1 (w.heap.size + 1) wr lv acc ∧ Wire.Kept (fun x=>x = b) wA wr)
 case atStart=>exact ⟨0,p1,y1,[],by omega,rfl,by simpa [Hid] using HL,rfl,hp1,hr1,RowG.nil _ _ _ _ _,K1⟩
 case round =>
  obtain ⟨k,pk,yk,acc,hg,rfl,hq,hak,hpk,hrr,hrow,Kr⟩:=hrel
  have hsr:=Kr.size
  by_cases hk:k < N
  ·have hki:(k:Int) < (N:Int):=by omega
   have hst:=listF_atO (txtR l 200) N k pk yk acc hk
   have hrd:=rtype b g l pk yk wr hl h256 hpk hrr
   have hple:=txt_le l 200 pk yk hpk
   have hal:acc.length ≤ 65535:=by have:=hak.out; omega
   have q1:=hptr _ Kr
   obtain ⟨la,lc,hlv⟩:=hrow.shape
   subst hlv
   have hob0:∀ z,(Value.slice la acc.length lc).ownBlock = some z → w.heap.size + 1 ≤ z ∧ z < wr.heap.size:=fun z hz=>hrow.block hz
   unfold TeE at hrd
   generalize (txtR l 200) pk yk = X at *
   obtain ⟨x,px,yx⟩:=X
   simp only at hst hrd hple
   unfold rdv at hrd
   go_wp2_with fail
   refine hrd.mono ?_
   rintro e w2 ⟨rfl,hr2,K2⟩
   have hrow2:=hrow.wk cTxK K2 (fun z hz e=>by omega)
   have K2':Wire.Kept (fun x=>x = b) wA w2:=Kr.trans K2 (fun _ _ h=>h) (fun _ _ h=>h)
   have q2:=hptr _ K2'
   have href:=rref b g l px yx w2 hl hr2
   have hs2:=K2'.size
   unfold rdv at href
   clear q1 hrow K2 hrr Kr
   by_cases hbad:badW yx = true
   ·rw [hbad] at href
    have HE:=hq.out
    rw [hst,if_pos hbad] at HE
    subst HE
    clear hst hq hbad hrow2
    go_wp2_with fail
    refine href.mono ?_
    rintro e w4 ⟨rfl,K4⟩
    have hr4:=hr2.kept K4 (fun h=>h) (fun h=>h)
    have K4':Wire.Kept (fun x=>x = b) w w4:=(kA.trans K2' (U:=fun x=>x = b) (fun _ _ h=>h.elim) (fun _ _ h=>h)).trans K4 (fun _ _ h=>h) (fun _ _ h=>h.elim)
    clear href K4 q2
    go_wp2
    go_ret
    exact ⟨_,rfl,.inl ⟨none,0,rfl,rfl⟩,by simp,hr4,K4'⟩
   ·have hbf:badW yx = false:=by simpa using hbad
    rw [hbf] at href
    have HE:Hid (RES = listF (txtR l 200) (N - (k + 1)) px yx (acc ++ [x])):=by rw [hid_iff,hq.out,hst,if_neg hbad]
    clear hst hq hbad hbf
    go_wp2_with fail
    refine href.mono ?_
    rintro e w4 ⟨rfl,K4⟩
    have hr4:=hr2.kept K4 (fun h=>h) (fun h=>h)
    have hrow4:=hrow2.wk cTxK K4 (fun _ _ h=>h)
    have K4':Wire.Kept (fun x=>x = b) wA w4:=K2'.trans K4 (fun _ _ h=>h) (fun _ _ h=>h.elim)
    have hs4:=K4'.size
    clear hrow2 K4 hr2 K2' q2 href hrd
    go_wp2_with (at_builtin; refine append_rowG (bytes:=16) cTxK rfl (.tmp 15) (.tmp 17) 23 rfl Tryz.underlying23 (by kernel_rfl) (by decide) _ acc rfl (hrow4.wk cTxK (wk_alloc _ _) (fun _ _ h=>h)) x [.string (str x)] _ _ rfl ?news rfl ?len ?hby ?hB ?next)
    case news=>first | exact cells_new _ _ _ | exact fun j u h=>h
    case len=>first | (unfold maxLen; omega) | (simp; omega)
    case hby=>omega
    case hB=>first | omega | (simp; omega)
    case next =>
     intro gq cap w5 j1 j2
     have K5:=((wk_alloc w4 (.cells #[.string (str x)] 9)).trans (U:=fun z=>(Value.slice la acc.length lc).ownBlock = some z) (wk_grown j2) (fun _ _ h=>h.elim) (fun _ _ h=>h))
     have hr5:=hr4.kept K5 (fun h=>by have:=(hob0 _ h).1; omega) (fun h=>by have:=(hob0 _ h).1; omega)
     have K5':Wire.Kept (fun x=>x = b) wA w5:=K4'.trans K5 (fun _ _ h=>h) (fun z hz h=>absurd (hob0 z h).1 (by omega))
     clear K5 K4' hr4 hrow4 j2
     go_wp2
     go_roundg (N - (k + 1))
     case measure=>omega
     case rel=>exact ⟨k + 1,px,yx,acc ++ [x],by omega,by go_num,HE,by have:=hak.out; rw [hid_iff,List.length_append,List.length_singleton,this],hple,hr5,by simpa using j1,K5'⟩
  ·have hki:¬ (k:Int) < (N:Int):=by omega
   have HE:=hq.out
   rw [listF_endO (txtR l 200) N k pk yk acc hk] at HE
   subst HE
   obtain ⟨va,vc,hlv⟩:=hrow.shape
   subst hlv
   have hal:acc.length ≤ 65535:=by have:=hak.out; omega
   have hR:RwR 1 cTx (Fr w wr) wr (.slice va acc.length vc) acc:=(hrow.rw cTxK).frame (stayK cTxK) (fun z hz=>⟨⟨by have:=hz.1; omega,hz.2⟩,rfl⟩)
   have KK:Wire.Kept (fun x=>x = b) w wr:=kA.trans Kr (U:=fun x=>x = b) (fun _ _ h=>h.elim) (fun _ _ h=>h)
   clear hrow Kr hq hak
   go_wp2
   go_ret
   exact ⟨_,rfl,hR,hal,hrr,KK⟩
set_option maxHeartbeats 4000000 in
set_option maxRecDepth 1000000 in
theorem rlistN (b g : Nat) (l : List Nat) (p y : Nat) (w : World) (hl : l.length ≤ 140737488355328) (h256 : ∀ x ∈ l, x < 256) (hp : p ≤ l.length) (hr : Wire.RIs w b g l p y) :
  Calls Tryz.prog 114 #[rdv b,.func (.func 111) #[rdv b] #[]] w (RlE 1 cTx (listR l (txtR l 24) p y) l b g w):=by
 have hbl:=hr.lt
 have hgl:=hr.gt
 have kA:=wk_alloc w (.cells #[.pointer (some ⟨b,0,none⟩)] 115)
 have nA:=World.alloc_heap_new w (.cells #[.pointer (some ⟨b,0,none⟩)] 115)
 have zA:(w.alloc (.cells #[.pointer (some ⟨b,0,none⟩)] 115)).heap.size = w.heap.size + 1:=by simp
 have hrA:=hr.kept kA (fun h=>h) (fun h=>h)
 have hnum:=rnm b g l p y _ hl h256 hp hrA
 have hN:=Wire.rNum_most l p y 65535
 have hp1:=Wire.rNum_le l p y 65535 hp
 have HL:Hid (listR l (txtR l 24) p y = listF (txtR l 24) (Wire.rNum l p y 65535).1 (Wire.rNum l p y 65535).2.1 (Wire.rNum l p y 65535).2.2 []):=rfl
 unfold NuE at hnum
 generalize Wire.rNum l p y 65535 = R at *
 obtain ⟨N,p1,y1⟩:=R
 simp only at hnum hN hp1 HL
 generalize listR l (txtR l 24) p y = RES at *
 have hptr:∀ u,Wire.Kept (fun x=>x = b) (w.alloc (.cells #[.pointer (some ⟨b,0,none⟩)] 115)) u → u.cell? ⟨w.heap.size,0,none⟩ = some (.pointer (some ⟨b,0,none⟩)):=fun u hu=>by
  rw [cell_of_row u _ 0 _ _ _ ((hu.block w.heap.size (by omega) (by omega)).trans nA)]
  rfl
 have q0:=hptr _ (Wire.Kept.refl _ _)
 unfold rdv at *
 clear hr hrA nA
 go_enter Tryz.func114,Tryz.ntmps114
 go_wp2_with fail
 generalize w.alloc (.cells #[.pointer (some ⟨b,0,none⟩)] 115) = wA at *
 refine hnum.mono ?_
 rintro e w1 ⟨rfl,hr1,K1⟩
 clear hnum q0
 go_wp2
 go_loopg [5,9] N (fun gk lv i wr=>∃ (k pk yk:Nat) (acc:List (List UInt8)),gk + k = N ∧ i = .int .i64 (k:Int) ∧ Hid (RES = listF (txtR l 24) (N - k) pk yk acc) ∧ Hid (acc.length = k) ∧ pk ≤ l.length ∧ Wire.RIs wr b g l pk yk ∧ RowG cTx 9 1 (w.heap.size + 1) wr lv acc ∧ Wire.Kept (fun x=>x = b) wA wr)
 case atStart=>exact ⟨0,p1,y1,[],by omega,rfl,by simpa [Hid] using HL,rfl,hp1,hr1,RowG.nil _ _ _ _ _,K1⟩
 case round =>
  obtain ⟨k,pk,yk,acc,hg,rfl,hq,hak,hpk,hrr,hrow,Kr⟩:=hrel
  have hsr:=Kr.size
  by_cases hk:k < N
  ·have hki:(k:Int) < (N:Int):=by omega
   have hst:=listF_atO (txtR l 24) N k pk yk acc hk
   have hrd:=rname b g l pk yk wr hl h256 hpk hrr
   have hple:=txt_le l 24 pk yk hpk
   have hal:acc.length ≤ 65535:=by have:=hak.out; omega
   have q1:=hptr _ Kr
   obtain ⟨la,lc,hlv⟩:=hrow.shape
   subst hlv
   have hob0:∀ z,(Value.slice la acc.length lc).ownBlock = some z → w.heap.size + 1 ≤ z ∧ z < wr.heap.size:=fun z hz=>hrow.block hz
   unfold TeE at hrd
   generalize (txtR l 24) pk yk = X at *
   obtain ⟨x,px,yx⟩:=X
   simp only at hst hrd hple
   unfold rdv at hrd
   go_wp2_with fail
   refine hrd.mono ?_
   rintro e w2 ⟨rfl,hr2,K2⟩
   have hrow2:=hrow.wk cTxK K2 (fun z hz e=>by omega)
   have K2':Wire.Kept (fun x=>x = b) wA w2:=Kr.trans K2 (fun _ _ h=>h) (fun _ _ h=>h)
   have q2:=hptr _ K2'
   have href:=rref b g l px yx w2 hl hr2
   have hs2:=K2'.size
   unfold rdv at href
   clear q1 hrow K2 hrr Kr
   by_cases hbad:badW yx = true
   ·rw [hbad] at href
    have HE:=hq.out
    rw [hst,if_pos hbad] at HE
    subst HE
    clear hst hq hbad hrow2
    go_wp2_with fail
    refine href.mono ?_
    rintro e w4 ⟨rfl,K4⟩
    have hr4:=hr2.kept K4 (fun h=>h) (fun h=>h)
    have K4':Wire.Kept (fun x=>x = b) w w4:=(kA.trans K2' (U:=fun x=>x = b) (fun _ _ h=>h.elim) (fun _ _ h=>h)).trans K4 (fun _ _ h=>h) (fun _ _ h=>h.elim)
    clear href K4 q2
    go_wp2
    go_ret
    exact ⟨_,rfl,.inl ⟨none,0,rfl,rfl⟩,by simp,hr4,K4'⟩
   ·have hbf:badW yx = false:=by simpa using hbad
    rw [hbf] at href
    have HE:Hid (RES = listF (txtR l 24) (N - (k + 1)) px yx (acc ++ [x])):=by rw [hid_iff,hq.out,hst,if_neg hbad]
    clear hst hq hbad hbf
    go_wp2_with fail
    refine href.mono ?_
    rintro e w4 ⟨rfl,K4⟩
    have hr4:=hr2.kept K4 (fun h=>h) (fun h=>h)
    have hrow4:=hrow2.wk cTxK K4 (fun _ _ h=>h)
    have K4':Wire.Kept (fun x=>x = b) wA w4:=K2'.trans K4 (fun _ _ h=>h) (fun _ _ h=>h.elim)
    have hs4:=K4'.size
    clear hrow2 K4 hr2 K2' q2 href hrd
    go_wp2_with (at_builtin; refine append_rowG (bytes:=16) cTxK rfl (.tmp 15) (.tmp 17) 23 rfl Tryz.underlying23 (by kernel_rfl) (by decide) _ acc rfl (hrow4.wk cTxK (wk_alloc _ _) (fun _ _ h=>h)) x [.string (str x)] _ _ rfl ?news rfl ?len ?hby ?hB ?next)
    case news=>first | exact cells_new _ _ _ | exact fun j u h=>h
    case len=>first | (unfold maxLen; omega) | (simp; omega)
    case hby=>omega
    case hB=>first | omega | (simp; omega)
    case next =>
     intro gq cap w5 j1 j2
     have K5:=((wk_alloc w4 (.cells #[.string (str x)] 9)).trans (U:=fun z=>(Value.slice la acc.length lc).ownBlock = some z) (wk_grown j2) (fun _ _ h=>h.elim) (fun _ _ h=>h))
     have hr5:=hr4.kept K5 (fun h=>by have:=(hob0 _ h).1; omega) (fun h=>by have:=(hob0 _ h).1; omega)
     have K5':Wire.Kept (fun x=>x = b) wA w5:=K4'.trans K5 (fun _ _ h=>h) (fun z hz h=>absurd (hob0 z h).1 (by omega))
     clear K5 K4' hr4 hrow4 j2
     go_wp2
     go_roundg (N - (k + 1))
     case measure=>omega
     case rel=>exact ⟨k + 1,px,yx,acc ++ [x],by omega,by go_num,HE,by have:=hak.out; rw [hid_iff,List.length_append,List.length_singleton,this],hple,hr5,by simpa using j1,K5'⟩
  ·have hki:¬ (k:Int) < (N:Int):=by omega
   have HE:=hq.out
   rw [listF_endO (txtR l 24) N k pk yk acc hk] at HE
   subst HE
   obtain ⟨va,vc,hlv⟩:=hrow.shape
   subst hlv
   have hal:acc.length ≤ 65535:=by have:=hak.out; omega
   have hR:RwR 1 cTx (Fr w wr) wr (.slice va acc.length vc) acc:=(hrow.rw cTxK).frame (stayK cTxK) (fun z hz=>⟨⟨by have:=hz.1; omega,hz.2⟩,rfl⟩)
   have KK:Wire.Kept (fun x=>x = b) w wr:=kA.trans Kr (U:=fun x=>x = b) (fun _ _ h=>h.elim) (fun _ _ h=>h)
   clear hrow Kr hq hak
   go_wp2
   go_ret
   exact ⟨_,rfl,hR,hal,hrr,KK⟩
theorem szCsO:(Tryz.prog.info? 203).map (·.size) = some 2:=by kernel_rfl
theorem szItO:(Tryz.prog.info? 77).map (·.size) = some 4:=by kernel_rfl
theorem szGlO:(Tryz.prog.info? 73).map (·.size) = some 3:=by kernel_rfl
theorem szRlO:(Tryz.prog.info? 82).map (·.size) = some 3:=by kernel_rfl
theorem szSyO:(Tryz.prog.info? 79).map (·.size) = some 5:=by kernel_rfl
theorem szFnO:(Tryz.prog.info? 52).map (·.size) = some 6:=by kernel_rfl
theorem szObO:(Tryz.prog.info? 29).map (·.size) = some 8:=by kernel_rfl
set_option maxHeartbeats 4000000 in
set_option maxRecDepth 1000000 in
theorem rcase (b g : Nat) (l : List Nat) (p y : Nat) (w : World) (hl : l.length ≤ 140737488355328) (h256 : ∀ x ∈ l, x < 256) (hp : p ≤ l.length) (hr : Wire.RIs w b g l p y) :
  Calls Tryz.prog 167 #[rdv b] w (RdE cCs (caseR l p y) l b g w):=by
 have F0:Fill b g l 115 203 #[.string ⟨#[]⟩,.slice none 0 0] w (((w.alloc (.cells #[.pointer (some ⟨b,0,none⟩)] 115)).alloc (.cells #[.string ⟨#[]⟩,.slice none 0 0] 203)).alloc (.cells #[.string ⟨#[]⟩,.slice none 0 0] 203)) #[.string ⟨#[]⟩,.slice none 0 0] p y:=Fill.start hr 115 203 #[.string ⟨#[]⟩,.slice none 0 0]
 unfold caseR
 try dsimp only
 have h0:=fun u (hu:Wire.RIs u b g l p y)=>rname b g l p y u hl h256 hp hu
 have le0:=txt_le l 24 p y hp
 unfold TeE at h0
 generalize txtR l 24 p y = X0 at *
 obtain ⟨nm,p0,y0⟩:=X0
 simp only at h0 le0 ⊢
 have h1:=fun u (hu:Wire.RIs u b g l p0 y0)=>rlistT b g l p0 y0 u hl h256 le0 hu
 have le1:=list_le (txt_le l 200) p0 y0 le0
 unfold RlE at h1
 generalize listR l (txtR l 200) p0 y0 = X1 at *
 obtain ⟨fs,p1,y1⟩:=X1
 simp only at h1 le1 ⊢
 have g0:=h0 _ F0.rd
 have q0:=F0.ptr
 unfold rdv at *
 go_enter Tryz.func167,Tryz.ntmps167
 go_wp2_with fail
 generalize (((w.alloc (.cells #[.pointer (some ⟨b,0,none⟩)] 115)).alloc (.cells #[.string ⟨#[]⟩,.slice none 0 0] 203)).alloc (.cells #[.string ⟨#[]⟩,.slice none 0 0] 203)) = v0 at *
 refine g0.mono ?_
 rintro e u0 ⟨rfl,r0,k0⟩
 have F0c:=F0.call k0 r0
 have c0_0:u0.cell? ⟨w.heap.size + 1 + 1,0,none⟩ = some (.string ⟨#[]⟩):=F0c.cell 0
 have f0_0:=F0c.frozen 0
 have F0s0:Fill b g l 115 203 #[.string ⟨#[]⟩,.slice none 0 0] w (u0.setCell ⟨w.heap.size + 1 + 1,0,none⟩ (.string (str nm))) #[.string (str nm),.slice none 0 0] p0 y0:=F0c.store 0 (.string (str nm))
 have F1:=F0s0
 have g1:=h1 _ F1.rd
 have q1:=F1.ptr
 clear h0 g0 F0 F0c r0 k0 q0 F0s0
 go_wp2_with fail
 generalize (u0.setCell ⟨w.heap.size + 1 + 1,0,none⟩ (.string (str nm))) = v1 at *
 refine g1.mono ?_
 rintro e u1 ⟨fv1,rfl,t1,n1,r1,k1⟩
 obtain ⟨fa1,fc1,rfl⟩:=t1.shape
 have F1c:=F1.call k1 r1
 have t1:RwR 1 cTx (fun z=>w.heap.size + 3 ≤ z ∧ z < u1.heap.size) u1 (.slice fa1 fs.length fc1) fs:=t1.frame (stayK cTxK) (Fill.take F1)
 have c1_1:u1.cell? ⟨w.heap.size + 1 + 1,1,none⟩ = some (.slice none 0 0):=F1c.cell 1
 have f1_1:=F1c.frozen 1
 have F1s1:Fill b g l 115 203 #[.string ⟨#[]⟩,.slice none 0 0] w (u1.setCell ⟨w.heap.size + 1 + 1,1,none⟩ (.slice fa1 fs.length fc1)) #[.string (str nm),.slice fa1 fs.length fc1] p1 y1:=F1c.store 1 (.slice fa1 fs.length fc1)
 have t1:RwR 1 cTx (fun z=>w.heap.size + 3 ≤ z ∧ z < (u1.setCell ⟨w.heap.size + 1 + 1,1,none⟩ (.slice fa1 fs.length fc1)).heap.size) (u1.setCell ⟨w.heap.size + 1 + 1,1,none⟩ (.slice fa1 fs.length fc1)) (.slice fa1 fs.length fc1) fs:=t1.frame (stayK cTxK) (F1c.carryS 1 (.slice fa1 fs.length fc1))
 have d0:(u1.setCell ⟨w.heap.size + 1 + 1,1,none⟩ (.slice fa1 fs.length fc1)).cell? ⟨w.heap.size + 1 + 1,0,none⟩ = some (.string (str nm)):=F1s1.cell 0
 have d1:(u1.setCell ⟨w.heap.size + 1 + 1,1,none⟩ (.slice fa1 fs.length fc1)).cell? ⟨w.heap.size + 1 + 1,1,none⟩ = some (.slice fa1 fs.length fc1):=F1s1.cell 1
 have hA:=F1s1.res
 obtain ⟨rE,kE,cE⟩:=F1s1.done #[.string (str nm),.slice fa1 fs.length fc1]
 have t1:=t1.frame (stayK cTxK) cE
 clear h1 g1 F1 F1c r1 k1 q1 F1s1 cE
 go_wp2_with (refine wpList_store_row rfl 203 (.tmp 2) (.tmp 12) rfl (w.heap.size + 1) #[.string (str nm),.slice fa1 fs.length fc1] rfl rfl 203 #[.string ⟨#[]⟩,.slice none 0 0] hA szCsO rfl (by kernel_rfl) ?_)
 (try simp only [Exit.inBlock,Exit.then])
 refine bodyPost_ret (results_cell_row rfl _ _ (w.heap.size + 1) 203 #[.string (str nm),.slice fa1 fs.length fc1] (0,0) _ rfl (setRow_heap _ (w.heap.size + 1) _ _ 203 (0,0) hA) Tryz.underlying203 rfl szCsO) rfl ?_
 exact ⟨[.string (str nm),.slice fa1 fs.length fc1],rfl,⟨_,rfl,(rw_txC t1).1⟩,rE,kE⟩
set_option maxHeartbeats 4000000 in
set_option maxRecDepth 1000000 in
theorem rlistC (b g : Nat) (l : List Nat) (p y : Nat) (w : World) (hl : l.length ≤ 140737488355328) (h256 : ∀ x ∈ l, x < 256) (hp : p ≤ l.length) (hr : Wire.RIs w b g l p y) :
  Calls Tryz.prog 166 #[rdv b,.func (.func 167) #[rdv b] #[]] w (RlE 2 cCs (listR l (caseR l) p y) l b g w):=by
 have hbl:=hr.lt
 have hgl:=hr.gt
 have kA:=wk_alloc w (.cells #[.pointer (some ⟨b,0,none⟩)] 115)
 have nA:=World.alloc_heap_new w (.cells #[.pointer (some ⟨b,0,none⟩)] 115)
 have zA:(w.alloc (.cells #[.pointer (some ⟨b,0,none⟩)] 115)).heap.size = w.heap.size + 1:=by simp
 have hrA:=hr.kept kA (fun h=>h) (fun h=>h)
 have hnum:=rnm b g l p y _ hl h256 hp hrA
 have hN:=Wire.rNum_most l p y 65535
 have hp1:=Wire.rNum_le l p y 65535 hp
 have HL:Hid (listR l (caseR l) p y = listF (caseR l) (Wire.rNum l p y 65535).1 (Wire.rNum l p y 65535).2.1 (Wire.rNum l p y 65535).2.2 []):=rfl
 unfold NuE at hnum
 generalize Wire.rNum l p y 65535 = R at *
 obtain ⟨N,p1,y1⟩:=R
 simp only at hnum hN hp1 HL
 generalize listR l (caseR l) p y = RES at *
 have hptr:∀ u,Wire.Kept (fun x=>x = b) (w.alloc (.cells #[.pointer (some ⟨b,0,none⟩)] 115)) u → u.cell? ⟨w.heap.size,0,none⟩ = some (.pointer (some ⟨b,0,none⟩)):=fun u hu=>by
  rw [cell_of_row u _ 0 _ _ _ ((hu.block w.heap.size (by omega) (by omega)).trans nA)]
  rfl
 have q0:=hptr _ (Wire.Kept.refl _ _)
 unfold rdv at *
 clear hr hrA nA
 go_enter Tryz.func166,Tryz.ntmps166
 go_wp2_with fail
 generalize w.alloc (.cells #[.pointer (some ⟨b,0,none⟩)] 115) = wA at *
 refine hnum.mono ?_
 rintro e w1 ⟨rfl,hr1,K1⟩
 clear hnum q0
 go_wp2
 go_loopg [5,9] N (fun gk lv i wr=>∃ (k pk yk:Nat) (acc:List (Cs)),gk + k = N ∧ i = .int .i64 (k:Int) ∧ Hid (RES = listF (caseR l) (N - k) pk yk acc) ∧ Hid (acc.length = k) ∧ pk ≤ l.length ∧ Wire.RIs wr b g l pk yk ∧ RowG cCs 203 2 (w.heap.size + 1) wr lv acc ∧ Wire.Kept (fun x=>x = b) wA wr)
 case atStart=>exact ⟨0,p1,y1,[],by omega,rfl,by simpa [Hid] using HL,rfl,hp1,hr1,RowG.nil _ _ _ _ _,K1⟩
 case round =>
  obtain ⟨k,pk,yk,acc,hg,rfl,hq,hak,hpk,hrr,hrow,Kr⟩:=hrel
  have hsr:=Kr.size
  by_cases hk:k < N
  ·have hki:(k:Int) < (N:Int):=by omega
   have hst:=listF_atO (caseR l) N k pk yk acc hk
   have hrd:=rcase b g l pk yk wr hl h256 hpk hrr
   have hple:=case_le l pk yk hpk
   have hal:acc.length ≤ 65535:=by have:=hak.out; omega
   have q1:=hptr _ Kr
   obtain ⟨la,lc,hlv⟩:=hrow.shape
   subst hlv
   have hob0:∀ z,(Value.slice la acc.length lc).ownBlock = some z → w.heap.size + 1 ≤ z ∧ z < wr.heap.size:=fun z hz=>hrow.block hz
   unfold RdE at hrd
   generalize (caseR l) pk yk = X at *
   obtain ⟨x,px,yx⟩:=X
   simp only at hst hrd hple
   unfold rdv at hrd
   go_wp2_with fail
   refine hrd.mono ?_
   rintro e w2 ⟨cs,rfl,hC2,hr2,K2⟩
   have hlen:=cCsK.len hC2
   obtain ⟨fv,rfl,hT2⟩:=hC2
   obtain ⟨fa,fc,rfl⟩:=hT2.shape
   have hC2:cCs (Fr wr w2) w2 x [.string (str x.1),.slice fa x.2.length fc]:=⟨_,rfl,hT2⟩
   clear hT2
   have K3:=wk_alloc w2 (.cells #[.string (str x.1),.slice fa x.2.length fc] 203)
   have hN3:=World.alloc_heap_new w2 (.cells #[.string (str x.1),.slice fa x.2.length fc] 203)
   have hr3:=hr2.kept K3 (fun h=>h) (fun h=>h)
   have hs2:=K2.size
   have hrow3:=(hrow.wk cCsK K2 (fun z hz e=>by omega)).wk cCsK K3 (fun _ _ h=>h)
   have K3':Wire.Kept (fun x=>x = b) wA (w2.alloc (.cells #[.string (str x.1),.slice fa x.2.length fc] 203)):=(Kr.trans K2 (fun _ _ h=>h) (fun _ _ h=>h)).trans K3 (fun _ _ h=>h) (fun _ _ h=>h.elim)
   have hC3:cCs (fun z=>w.heap.size + 1 ≤ z ∧ z < (w2.alloc (.cells #[.string (str x.1),.slice fa x.2.length fc] 203)).heap.size ∧ some z ≠ (Value.slice la acc.length lc).ownBlock) (w2.alloc (.cells #[.string (str x.1),.slice fa x.2.length fc] 203)) x [.string (str x.1),.slice fa x.2.length fc]:=cCsK.frame (fun z hz=>⟨⟨by have:=hz.1; omega,by have:=hz.2; simp; omega,fun e=>by have:=(hob0 z e.symm).2; have:=hz.1; omega⟩,Below.heap_alloc _ _ _ hz.2⟩) hC2
   have q2:=hptr _ K3'
   have href:=rref b g l px yx _ hl hr3
   unfold rdv at href
   clear q1 hrow K2 hrr Kr hC2 hr2 hlen K3
   by_cases hbad:badW yx = true
   ·rw [hbad] at href
    have HE:=hq.out
    rw [hst,if_pos hbad] at HE
    subst HE
    clear hst hq hbad hrow3 hC3 hN3
    go_wp2_with fail
    generalize w2.alloc (.cells #[.string (str x.1),.slice fa x.2.length fc] 203) = W3 at *
    refine href.mono ?_
    rintro e w4 ⟨rfl,K4⟩
    have hr4:=hr3.kept K4 (fun h=>h) (fun h=>h)
    have K4':Wire.Kept (fun x=>x = b) w w4:=(kA.trans K3' (U:=fun x=>x = b) (fun _ _ h=>h.elim) (fun _ _ h=>h)).trans K4 (fun _ _ h=>h) (fun _ _ h=>h.elim)
    clear href K4 q2 K3' hr3
    go_wp2
    go_ret
    exact ⟨_,rfl,.inl ⟨none,0,rfl,rfl⟩,by simp,hr4,K4'⟩
   ·have hbf:badW yx = false:=by simpa using hbad
    rw [hbf] at href
    have HE:Hid (RES = listF (caseR l) (N - (k + 1)) px yx (acc ++ [x])):=by rw [hid_iff,hq.out,hst,if_neg hbad]
    clear hst hq hbad hbf
    go_wp2_with fail
    generalize hW3:w2.alloc (.cells #[.string (str x.1),.slice fa x.2.length fc] 203) = W3 at *
    clear hW3
    refine href.mono ?_
    rintro e w4 ⟨rfl,K4⟩
    have hlt3:w2.heap.size < W3.heap.size:=(Array.getElem?_eq_some_iff.1 hN3).1
    have hr4:=hr3.kept K4 (fun h=>h) (fun h=>h)
    have hrow4:=hrow3.wk cCsK K4 (fun _ _ h=>h)
    have hN4:=(K4.block w2.heap.size hlt3 (fun h=>h)).trans hN3
    have K4':Wire.Kept (fun x=>x = b) wA w4:=K3'.trans K4 (fun _ _ h=>h) (fun _ _ h=>h.elim)
    have hC4:cCs (fun z=>w.heap.size + 1 ≤ z ∧ z < (w4.alloc (.cells #[.string (str x.1),.slice fa x.2.length fc] 203)).heap.size ∧ some z ≠ (Value.slice la acc.length lc).ownBlock) (w4.alloc (.cells #[.string (str x.1),.slice fa x.2.length fc] 203)) x [.string (str x.1),.slice fa x.2.length fc]:=cCsK.frame (fun z hz=>⟨⟨hz.1,by have:=hz.2.1; have:=K4.size; simp; omega,hz.2.2⟩,(Below.heap_alloc _ _ _ (by have:=hz.2.1; have:=K4.size; omega)).trans (K4.block z hz.2.1 (fun h=>h))⟩) hC3
    have hs4:=K4'.size
    have n0:w4.cell? ⟨w2.heap.size,0,none⟩ = some (.string (str x.1)):=by rw [cell_of_row _ _ 0 _ _ _ hN4]; rfl
    have n1:w4.cell? ⟨w2.heap.size,1,none⟩ = some (.slice fa x.2.length fc):=by rw [cell_of_row _ _ 1 _ _ _ hN4]; rfl
    clear hrow3 K4 hr3 K3' hN3 hC3 href hrd q2 hN4
    go_wp2_with (at_builtin; refine append_rowG (bytes:=40) cCsK rfl (.tmp 15) (.tmp 17) 75 rfl Tryz.underlying75 (by kernel_rfl) (by decide) _ acc rfl (hrow4.wk cCsK (wk_alloc _ _) (fun _ _ h=>h)) x [.string (str x.1),.slice fa x.2.length fc] _ _ rfl ?news hC4 ?len ?hby ?hB ?next)
    case news=>first | exact cells_new _ _ _ | exact fun j u h=>h
    case len=>first | (unfold maxLen; omega) | (simp; omega)
    case hby=>omega
    case hB=>first | omega | (simp; omega)
    case next =>
     intro gq cap w5 j1 j2
     have K5:=((wk_alloc w4 (.cells #[.string (str x.1),.slice fa x.2.length fc] 203)).trans (U:=fun z=>(Value.slice la acc.length lc).ownBlock = some z) (wk_grown j2) (fun _ _ h=>h.elim) (fun _ _ h=>h))
     have hr5:=hr4.kept K5 (fun h=>by have:=(hob0 _ h).1; omega) (fun h=>by have:=(hob0 _ h).1; omega)
     have K5':Wire.Kept (fun x=>x = b) wA w5:=K4'.trans K5 (fun _ _ h=>h) (fun z hz h=>absurd (hob0 z h).1 (by omega))
     clear K5 K4' hr4 hrow4 j2
     go_wp2
     go_roundg (N - (k + 1))
     case measure=>omega
     case rel=>exact ⟨k + 1,px,yx,acc ++ [x],by omega,by go_num,HE,by have:=hak.out; rw [hid_iff,List.length_append,List.length_singleton,this],hple,hr5,by simpa using j1,K5'⟩
  ·have hki:¬ (k:Int) < (N:Int):=by omega
   have HE:=hq.out
   rw [listF_endO (caseR l) N k pk yk acc hk] at HE
   subst HE
   obtain ⟨va,vc,hlv⟩:=hrow.shape
   subst hlv
   have hal:acc.length ≤ 65535:=by have:=hak.out; omega
   have hR:RwR 2 cCs (Fr w wr) wr (.slice va acc.length vc) acc:=(hrow.rw cCsK).frame (stayK cCsK) (fun z hz=>⟨⟨by have:=hz.1; omega,hz.2⟩,rfl⟩)
   have KK:Wire.Kept (fun x=>x = b) w wr:=kA.trans Kr (U:=fun x=>x = b) (fun _ _ h=>h.elim) (fun _ _ h=>h)
   clear hrow Kr hq hak
   go_wp2
   go_ret
   exact ⟨_,rfl,hR,hal,hrr,KK⟩
end Go.Proofs.YtiiepfplommmfaaGreatDoor
