/-
  The document's own objects: names.
-/
import Derived.Deep.DeepCutAuto
import Derived.Test.YtiiepfplommmfaaGreatDoorG23
import Derived.Test.YtiiepfplommmfaaGreatDoorG16
namespace Go.Proofs.YtiiepfplommmfaaGreatDoor
open Go.RowKit

def fromO (o:Ob) (j k m:Nat):Nat × Nat:=if (scanO (elemO o j) k (lenO o j - k)).1 = 0 then listsO o (j + 1) m else scanO (elemO o j) k (lenO o j - k)
theorem from_zero (o:Ob) (j m:Nat):listsO o j (m + 1) = fromO o j 0 m:=rfl
theorem from_bad {o:Ob} {j k m:Nat} (h:k < lenO o j) (hb:elemO o j k ≠ 0):fromO o j k m = (elemO o j k,k):=by
 unfold fromO
 obtain ⟨n,hn⟩:∃ n,lenO o j - k = n + 1:=⟨lenO o j - k - 1,by omega⟩
 rw [hn,scanO,if_neg hb,if_neg hb]
theorem from_next {o:Ob} {j k m:Nat} (h:k < lenO o j) (hb:elemO o j k = 0):fromO o j k m = fromO o j (k + 1) m:=by
 unfold fromO
 obtain ⟨n,hn⟩:∃ n,lenO o j - k = n + 1:=⟨lenO o j - k - 1,by omega⟩
 rw [hn,scanO,if_pos hb,show lenO o j - (k + 1) = n by omega]
theorem from_end {o:Ob} {j k m:Nat} (h:¬ k < lenO o j):fromO o j k m = listsO o (j + 1) m:=by
 unfold fromO
 rw [show lenO o j - k = 0 by omega,scanO,if_pos rfl]
theorem big_upto {o:Ob} (h:∀ i,i < o.types.length → elemO o 0 i = 0):BigT o:=by
 intro x hx
 obtain ⟨i,hi,rfl⟩:=List.getElem_of_mem hx
 have h1:=h i hi
 rw [elemO,List.getElem?_eq_getElem hi] at h1
 exact typeO_big h1
theorem upto_next {f:Nat → Nat} {k:Nat} (h:∀ i,i < k → f i = 0) (hk:f k = 0):∀ i,i < k + 1 → f i = 0:=by
 intro i hi
 by_cases e:i = k
 ·rw [e]; exact hk
 ·exact h i (by omega)
theorem hadT_next {o:Ob} {k:Nat} (h:k < o.types.length):hadT o (k + 1) = hadT o k ++ [o.types[k].name]:=by
 rw [hadT,List.take_succ_eq_append_getElem h,List.map_append]
 rfl
theorem hadG_next {o:Ob} {k:Nat} (h:k < o.globals.length):hadG o (k + 1) = hadG o k ++ [o.globals[k].name]:=by
 rw [hadG,List.take_succ_eq_append_getElem h,List.map_append, ← List.append_assoc]
 rfl
theorem hadF_yes {o:Ob} {k:Nat} (h:k < o.funs.length) (hn:o.funs[k].name ≠ []):hadF o (k + 1) = hadF o k ++ [o.funs[k].name]:=by
 rw [hadF,List.take_succ_eq_append_getElem h,List.map_append,List.filter_append,List.map_singleton,List.filter_cons_of_pos (by simpa using hn),List.filter_nil, ← List.append_assoc]
 rfl
theorem hadF_no {o:Ob} {k:Nat} (h:k < o.funs.length) (hn:o.funs[k].name = []):hadF o (k + 1) = hadF o k:=by
 rw [hadF,List.take_succ_eq_append_getElem h,List.map_append,List.filter_append,List.map_singleton,List.filter_cons_of_neg (by simp [hn]),List.filter_nil,List.append_nil]
 rfl
theorem had_len (o:Ob) (k:Nat):(hadT o k).length ≤ o.types.length ∧ (hadG o k).length ≤ o.types.length + o.globals.length ∧ (hadF o k).length ≤ o.types.length + o.globals.length + o.funs.length:=by
 have h1:∀ k,(hadT o k).length ≤ o.types.length:=fun k=>by
  rw [hadT,List.length_map,List.length_take]
  omega
 have h2:∀ k,(hadG o k).length ≤ o.types.length + o.globals.length:=fun k=>by
  have:=h1 o.types.length
  rw [hadG,List.length_append,List.length_map,List.length_take]
  omega
 refine ⟨h1 k,h2 k,?_⟩
 have h3:=h2 o.globals.length
 have h4:=List.length_filter_le (fun x:List UInt8=>decide (x ≠ [])) ((o.funs.take k).map (·.name))
 rw [List.length_map,List.length_take] at h4
 rw [hadF,List.length_append]
 omega
theorem elem0_at {o:Ob} {k:Nat} (h:k < o.types.length):elemO o 0 k = typeQ o.mod (hadT o k) o.types[k]:=by
 rw [elemO,List.getElem?_eq_getElem h,typeQ_is]
theorem elem1_at {o:Ob} {k:Nat} (h:k < o.texts.length):elemO o 1 k = if rightR o.texts[k] = true then 0 else 17:=by
 rw [elemO,List.getElem?_eq_getElem h]
 rfl
theorem elem2_at {o:Ob} {k:Nat} (hb:BigT o) (h:k < o.globals.length):elemO o 2 k = globalQ o.funs.length (hadG o k) o.globals[k]:=by
 rw [elemO,List.getElem?_eq_getElem h,globalQ_is hb]
theorem elem3_at {o:Ob} {k:Nat} (hb:BigT o) (h:k < o.funs.length):elemO o 3 k = funR (hadF o k) o.funs[k]:=by
 rw [elemO,List.getElem?_eq_getElem h,funQ_is hb]
theorem it_one {F:Nat → Prop} {w:World} {g of cap:Nat} {ts:List It} (h:ItR F w (.slice (some ⟨g,of,none⟩) ts.length cap) ts) (k:Nat) (hk:k < ts.length) (c:Nat) (hc:1 ≤ c):ItR F w (.slice (some ⟨g,of + k * 4,none⟩) 1 c) [ts[k]]:=by
 obtain ⟨g',of',cap',cv,e1,hg,hcv,q0,q1,q2,q3⟩:=h.at k hk
 simp only [Value.slice.injEq,Option.some.injEq,Addr.mk.injEq,true_and,and_true] at e1
 obtain ⟨⟨rfl,rfl⟩,rfl⟩:=e1
 refine .inr ⟨g,of + k * 4,c,rfl,hc,hg,fun j x hx=>?_⟩
 rcases j with _ | j
 ·simp only [List.getElem?_cons_zero,Option.some.injEq] at hx
  subst hx
  exact ⟨cv,hcv,q0,q1,q2,q3⟩
 ·simp at hx
theorem cells3 {w:World} {b:Nat} {z0 z1 z2:Value} {e:TypeId} (h:w.heap[b]? = some (.cells #[z0,z1,z2] e (0,0))):w.cell? ⟨b,0,none⟩ = some z0 ∧ w.cell? ⟨b,1,none⟩ = some z1 ∧ w.cell? ⟨b,2,none⟩ = some z2 :=
 ⟨by rw [cell_of_row w _ 0 _ _ _ h]; rfl,by rw [cell_of_row w _ 1 _ _ _ h]; rfl,by rw [cell_of_row w _ 2 _ _ _ h]; rfl⟩
set_option maxHeartbeats 16000000 in
set_option maxRecDepth 1000000 in
theorem rnames (F:Nat → Prop) (u:ObV) (o:Ob) (w:World) (h:ObR F w u o) (hF:∀ g,F g → g < w.heap.size) (hok:ObOk o) (hmn:manyO o = false):Calls Tryz.prog 36 #[obv u o.mod] w (TwoB (listsO o 0 4) w):=by
 have hr0:=hidden (from_zero o 0 3)
 have hl:=fun k=>had_len o k
 generalize hR:listsO o 0 4 = r at *
 clear hR
 have hlo:o.types.length ≤ 32 ∧ o.texts.length ≤ 32 ∧ o.globals.length ≤ 32 ∧ o.funs.length ≤ 48:=by
  simp only [manyO,Bool.or_eq_false_iff,decide_eq_false_iff_not] at hmn
  omega
 have HTy:=hidden h.types
 have HTx:=hidden h.texts
 have HGl:=hidden h.globals
 have HFn:=hidden h.funs
 have HOK:=hidden hok
 have htyc:∀ a n c,u.t = .slice a n c → n ≠ 0 → n ≤ c:=by
  intro a n c e hn0
  rcases h.types with ⟨_,_,e',_⟩ | ⟨g,o',cap,e',hc,_⟩
  ·rw [e'] at e
   cases e
   exact absurd rfl hn0
  ·rw [e'] at e
   cases e
   exact hc
 obtain ⟨a1,c1,e1⟩:=h.types.shape
 obtain ⟨a2,c2,e2⟩:=h.texts.1.shape
 obtain ⟨a3,c3,e3⟩:=h.globals.shape
 obtain ⟨a4,c4,e4⟩:=h.funs.shape
 obtain ⟨a5,c5,e5⟩:=h.exports.1.shape
 obtain ⟨a6,c6,e6⟩:=h.symbols.shape
 obtain ⟨a7,c7,e7⟩:=h.relocs.shape
 clear h hok hmn
 obtain ⟨tv,xv,gv,fv,ev,sv,rv⟩:=u
 unfold obv
 simp only at *
 subst e1 e2 e3 e4 e5 e6 e7
 generalize hn1:o.types.length = n1 at *
 generalize hn2:o.texts.length = n2 at *
 generalize hn3:o.globals.length = n3 at *
 generalize hn4:o.funs.length = n4 at *
 generalize o.exports.length = n5 at *
 generalize o.symbols.length = n6 at *
 generalize o.relocs.length = n7 at *
 generalize hm:o.mod = m at *
 obtain ⟨hl1,hl2,hl3,hl4⟩:=hlo
 generalize hW:w.alloc (.cells #[.string (str m),.slice a1 n1 c1,.slice a2 n2 c2,.slice a3 n3 c3,.slice a4 n4 c4,.slice a5 n5 c5,.slice a6 n6 c6,.slice a7 n7 c7] 35) = W0 at *
 have hb0:Below w.heap.size w W0:=by rw [← hW]; exact (Below.refl _ _).alloc (Nat.le_refl _) _
 have hs0:W0.heap.size = w.heap.size + 1:=by rw [← hW]; simp
 have hN0:=heap_alloc_new w (.cells #[.string (str m),.slice a1 n1 c1,.slice a2 n2 c2,.slice a3 n3 c3,.slice a4 n4 c4,.slice a5 n5 c5,.slice a6 n6 c6,.slice a7 n7 c7] 35)
 rw [hW] at hN0
 have HCh:Hid (∀ u,Below W0.heap.size W0 u → u.cell? ⟨w.heap.size,0,none⟩ = some (.string (str m)) ∧ u.cell? ⟨w.heap.size,1,none⟩ = some (.slice a1 n1 c1) ∧ u.cell? ⟨w.heap.size,2,none⟩ = some (.slice a2 n2 c2) ∧ u.cell? ⟨w.heap.size,3,none⟩ = some (.slice a3 n3 c3) ∧ u.cell? ⟨w.heap.size,4,none⟩ = some (.slice a4 n4 c4) ∧ Below w.heap.size w u):=by
  intro u hu
  have n0:=(hu.block w.heap.size (by omega)).trans hN0
  exact ⟨by rw [cell_of_row u _ 0 _ _ _ n0]; rfl,by rw [cell_of_row u _ 1 _ _ _ n0]; rfl,by rw [cell_of_row u _ 2 _ _ _ n0]; rfl,by rw [cell_of_row u _ 3 _ _ _ n0]; rfl,by rw [cell_of_row u _ 4 _ _ _ n0]; rfl,below_trans hb0 hu⟩
 clear hN0
 go_enter Tryz.func36,Tryz.ntmps36
 go_wp2_with fail
 go_loopg [4,5] n1 (fun g v i wr=>∃ (k:Nat),g + k = n1 ∧ i = .int .i64 (k:Int) ∧ wr.ownsRow W0.heap.size 9 1 v (hadT o k).length (sc (hadT o k)) ∧ Hid (r = fromO o 0 k 3) ∧ Hid (∀ i,i < k → elemO o 0 i = 0) ∧ Below W0.heap.size W0 wr)
 case atStart=>exact ⟨0,by omega,rfl,World.ownsRow_nil _ _ _ _,hr0,fun i hi=>absurd hi (Nat.not_lt_zero i),Below.refl _ _⟩
 case round =>
  obtain ⟨k,hgk,rfl,hown,hr,hup,hbl⟩:=hrel
  obtain ⟨y0,y1,y2,y3,y4,hwr⟩:=HCh.out wr hbl
  have hsl:=hbl.size
  by_cases hk:k < n1
  ·have hkt:k < o.types.length:=by omega
   have hItw:=HTy.out.below hwr hF
   obtain ⟨g,of,cap,cv,e1,hgF,hcv,q0,q1,q2,q3⟩:=hItw.at k hkt
   simp only [Value.slice.injEq] at e1
   obtain ⟨rfl,e1,rfl⟩:=e1
   have hcc:=htyc _ _ _ rfl (by omega)
   rw [← hn1] at hItw
   have hOne:=it_one hItw k hkt (c1 - k) (by omega)
   have hRg0:=fun v (hv:Below wr.heap.size wr v)=>refRightW F o.mod (.slice (some ⟨g,of + k * 4,none⟩) 1 (c1 - k)) [o.types[k]] v (hOne.below hv (fun g hg=>Nat.lt_of_lt_of_le (hF g hg) hwr.size)) (fun g hg=>Nat.lt_of_lt_of_le (hF g hg) (Nat.le_trans hwr.size hv.size)) HOK.out.mod (fun x hx=>by rw [List.mem_singleton.1 hx]; exact HOK.out.types _ (List.getElem_mem hkt))
   have hE:Hid (elemO o 0 k = typeQ o.mod (hadT o k) o.types[k]):=elem0_at hkt
   have hHd:=hidden (hadT_next hkt)
   have hlk:=(hl k).1
   have hki:(k:Int) < (n1:Int):=by omega
   have hk1:(k:Int) + 1 ≤ (n1:Int):=by omega
   have hk2:(k:Int) + 1 ≤ (c1:Int):=by omega
   have hkw:IntKind.i64.wrap ((k:Int) + 1) = (k:Int) + 1:=by rw [IntKind.wrap_i64]; omega
   have hk7:(k:Int) < (c1:Int):=by omega
   have hk8:(k:Int) ≤ (k:Int) + 1:=by omega
   have hk3:¬ (c1:Int) = (k:Int):=by omega
   have hk4:(0:Int) ≤ (k:Int):=by omega
   have hk5:¬ c1 = k:=by omega
   have hk6:¬ c1 - k = 0:=by omega
   unfold typeQ at hE
   rw [hm] at hE hRg0
   have hRg:∀ v a' n' c',Below wr.heap.size wr v → n' = 1 → a' = some ⟨g,of + k * 4,none⟩ → c' = c1 - k → Calls Tryz.prog 86 #[.agg #[.string (str m),.slice a' n' c']] v (NumB (rightI m [o.types[k]]) v):=by
    rintro v a' n' c' hv rfl rfl rfl
    exact hRg0 v hv
   clear hRg0
   generalize rightI m [o.types[k]] = ri at *
   generalize hkd:o.types[k].kind = kd at *
   generalize hnm:o.types[k].name = nm at *
   generalize hadT o k = had at *
   have hsw:=hidden hown
   clear e1 hItw hOne hcv htyc
   go_wp2_with fail
   go_region_with (go_at_call 86; refine (hRg _ _ _ _ (by first | exact Below.refl _ _ | exact below_drew (Below.refl _ _)) (by omega) (by first | rfl | simp) (by omega)).mono ?_; rintro e w2 ⟨rfl,hb2⟩)
   all_goals (
    have hbw2:Below W0.heap.size W0 w2:=below_trans hbl (by first | exact hb2 | exact below_undrew hb2)
    have ho2:=owns_below hown (by first | exact hb2 | exact below_undrew hb2)
    obtain ⟨y0,y1,y2,y3,y4,hw2⟩:=HCh.out w2 hbw2
    have HBW:Hid (Below w.heap.size w w2):=hw2
    obtain ⟨g',of',cap',cv',e1,hgF',hcv',q0,q1,q2,q3⟩:=(HTy.out.below hw2 hF).at k hkt
    simp only [Value.slice.injEq,Option.some.injEq,Addr.mk.injEq,and_true] at e1
    obtain ⟨⟨rfl,rfl⟩,e1,rfl⟩:=e1
    rw [hkd] at q0
    rw [hnm] at q1
    have hHs:=fun u hu=>rhas u4 had nm u hu (by omega)
    clear e1 q2 q3 hcv' hb2 hRg hbl hwr hsl hown hsw
    by_cases p1:ri = 0
    case neg =>
     replace hE:Hid (elemO o 0 k = ri):=by rw [hid_iff,hE.out,if_pos p1]
     have hX:Hid (r = (ri,k)):=by rw [hid_iff,hr.out,from_bad (by show k < o.types.length; omega) (by rw [hE.out]; exact p1),hE.out]
     have p1i:((ri:Int) == 0) = false:=by simp [p1]
     clear hr hE p1 hHs
     go_wp2
     go_ret2
     exact ⟨(by rw [hX.out]; first | done | rfl),HBW.out⟩
    replace hE:Hid (elemO o 0 k = if kd ≠ 1 then 12 else if anyN had nm = true then 15 else 0):=by rw [hid_iff,hE.out,if_neg (by simp [p1])]
    subst p1
    by_cases p2:kd = 1
    case neg =>
     replace hE:Hid (elemO o 0 k = 12):=by rw [hid_iff,hE.out,if_pos p2]
     have hX:Hid (r = (12,k)):=by rw [hid_iff,hr.out,from_bad (by show k < o.types.length; omega) (by rw [hE.out]; simp),hE.out]
     have p2i:(kd == 1) = false:=by simp [p2]
     clear hr hE p2 hHs
     go_wp2
     go_ret2
     exact ⟨(by rw [hX.out]; first | done | rfl),HBW.out⟩
    have p2i:(kd == 1) = true:=by simp [p2]
    replace hE:Hid (elemO o 0 k = if anyN had nm = true then 15 else 0):=by rw [hid_iff,hE.out,if_neg (by simp [p2])]
    have hHs1:=hHs w2 (strRow_own ho2)
    unfold Pu at hHs1
    change Calls _ _ _ _ (fun e w'=>e = .returned (.bool (anyN had nm)) ∧ w' = w2) at hHs1
    clear p2 hHs
    cases hany:anyN had nm
    case true =>
     rw [hany] at hHs1
     replace hE:Hid (elemO o 0 k = 15):=by rw [hid_iff,hE.out,if_pos hany]
     have hX:Hid (r = (15,k)):=by rw [hid_iff,hr.out,from_bad (by show k < o.types.length; omega) (by rw [hE.out]; simp),hE.out]
     clear hr hE hany ho2
     go_wp2_with fail
     refine hHs1.mono ?_
     rintro e w3 ⟨rfl,rfl⟩
     go_wp2
     go_ret2
     exact ⟨(by rw [hX.out]; first | done | rfl),HBW.out⟩
    rw [hany] at hHs1
    replace hE:Hid (elemO o 0 k = 0):=by rw [hid_iff,hE.out,if_neg (by rw [hany]; simp)]
    have HN:Hid (r = fromO o 0 (k + 1) 3):=by rw [hid_iff,hr.out,from_next (by show k < o.types.length; omega) hE.out]
    have HUP:Hid (∀ i,i < k + 1 → elemO o 0 i = 0):=upto_next hup.out hE.out
    have hB2:=hbw2.size
    have hB3:=hidden hbw2
    clear hr hE hany hup
    go_wp2_with fail
    refine hHs1.mono ?_
    rintro e w3 ⟨rfl,hw3⟩
    obtain rfl:=hw3.symm
    clear hHs1
    go_wp2_with (at_builtin; refine append_textN rfl (.tmp 56) (.tmp 63) rfl W0.heap.size _ had rfl (ho2.alloc _) _ _ nm rfl ?src ?len ?hB ?next)
    case src=>first | exact cells_new _ _ _ | exact fun j u h=>h
    case len=>omega
    case hB=>first | omega | (simp; omega)
    case next =>
     intro ad c' w' k1 k2
     have k3:=below_grown (ho2.alloc _) (by simp; omega) (hB3.out.alloc hB2 _) k2
     clear k2 ho2 hbw2
     go_wp2
     go_roundg (n1 - (k + 1))
     case measure=>omega
     case rel=>exact ⟨k + 1,by omega,by go_num,by rw [hHd.out,hs0]; simpa using k1,HN,HUP,k3⟩)
  ·have hBig:Hid (BigT o):=big_upto fun i hi=>hup.out i (by omega)
   have hr1:Hid (r = fromO o 1 0 2):=by rw [hid_iff,hr.out,from_end (by show ¬ k < o.types.length; omega)]; rfl
   have hki:¬ (k:Int) < (n1:Int):=by omega
   have hkk:k = n1:=by omega
   subst hkk
   have hbl0:=hbl
   clear hr hup htyc
   go_wp2_with fail
   go_loopg [7] n2 (fun g i wr'=>∃ (k:Nat),g + k = n2 ∧ i = .int .i64 (k:Int) ∧ Hid (r = fromO o 1 k 2) ∧ wr' = wr)
   case atStart=>exact ⟨0,by omega,rfl,hr1,rfl⟩
   case round =>
    obtain ⟨k2,hgk,rfl,hr,hww⟩:=hrel
    obtain rfl:=hww.symm
    have HBW:=hidden hwr
    by_cases hk:k2 < n2
    ·have hkt:k2 < o.texts.length:=by omega
     obtain ⟨g,of,cap,e1,hgF,q0⟩:=(HTx.out.1.below hwr hF).at k2 hkt
     simp only [Value.slice.injEq] at e1
     obtain ⟨rfl,e1,rfl⟩:=e1
     have hE:Hid (elemO o 1 k2 = if rightR o.texts[k2] = true then 0 else 17):=elem1_at hkt
     have hT:=refRight (str o.texts[k2]) wr
     rw [str_data] at hT
     have hki2:(k2:Int) < (n2:Int):=by omega
     generalize o.texts[k2] = tx at *
     clear e1
     cases hrr:rightR tx
     ·rw [hrr] at hT
      replace hE:Hid (elemO o 1 k2 = 17):=by rw [hid_iff,hE.out,if_neg (by rw [hrr]; simp)]
      have hX:Hid (r = (17,k2)):=by rw [hid_iff,hr.out,from_bad (by show k2 < o.texts.length; omega) (by rw [hE.out]; simp),hE.out]
      clear hr hE hrr hr1
      go_wp2_with fail
      refine hT.mono ?_
      rintro e w3 ⟨rfl,rfl⟩
      go_wp2
      go_ret2
      exact ⟨(by rw [hX.out]; first | done | rfl),HBW.out⟩
     ·rw [hrr] at hT
      replace hE:Hid (elemO o 1 k2 = 0):=by rw [hid_iff,hE.out,if_pos hrr]
      have HN:Hid (r = fromO o 1 (k2 + 1) 2):=by rw [hid_iff,hr.out,from_next (by show k2 < o.texts.length; omega) hE.out]
      clear hr hE hrr hr1
      go_wp2_with fail
      refine hT.mono ?_
      rintro e w3 ⟨rfl,rfl⟩
      go_wp2
      go_roundg (n2 - (k2 + 1))
      case measure=>omega
      case rel=>exact ⟨k2 + 1,by omega,by go_num,HN,rfl⟩
    ·have hr2:Hid (r = fromO o 2 0 1):=by rw [hid_iff,hr.out,from_end (by show ¬ k2 < o.texts.length; omega)]; rfl
     have hki2:¬ (k2:Int) < (n2:Int):=by omega
     have hkk2:k2 = n2:=by omega
     have hh0:hadT o k = hadG o 0:=by rw [hadG,hn1]; simp
     rw [hh0] at hown
     subst hkk2
     clear hr hr1 hh0
     go_wp2_with fail
     go_loopg [4,8] n3 (fun g v i wr'=>∃ (k:Nat),g + k = n3 ∧ i = .int .i64 (k:Int) ∧ wr'.ownsRow W0.heap.size 9 1 v (hadG o k).length (sc (hadG o k)) ∧ Hid (r = fromO o 2 k 1) ∧ Below W0.heap.size W0 wr')
     case atStart=>exact ⟨0,by omega,rfl,hown,hr2,hbl0⟩
     case round =>
      clear hown hbl0 hbl hwr hr2 y0 y1 y2 y3 y4 HBW hsl
      obtain ⟨k3,hgk,rfl,hown,hr,hbl⟩:=hrel
      rename World=>wg
      obtain ⟨y0,y1,y2,y3,y4,hwr⟩:=HCh.out wg hbl
      have hsl:=hbl.size
      have HBW:=hidden hwr
      by_cases hk:k3 < n3
      ·have hkt:k3 < o.globals.length:=by omega
       obtain ⟨g,of,cap,cs,e1,_,hgF,hC,hcell⟩:=(HGl.out.below cGl_stay hwr hF).at k3 hkt
       simp only [Value.slice.injEq] at e1
       obtain ⟨rfl,e1,rfl⟩:=e1
       unfold cGl at hC
       subst hC
       have q0:=hcell 0 _ rfl
       have q1:=hcell 1 _ rfl
       have q2:=hcell 2 _ rfl
       simp only [Nat.add_zero] at q0
       have hE:Hid (elemO o 2 k3 = globalQ o.funs.length (hadG o k3) o.globals[k3]):=elem2_at hBig.out hkt
       have hHd:=hidden (hadG_next hkt)
       have hlk:=(hl k3).2.1
       have hgo:=HOK.out.globals _ (List.getElem_mem hkt)
       have hki3:(k3:Int) < (n3:Int):=by omega
       unfold globalQ at hE
       rw [hn4] at hE
       have hV:=refValue (str o.globals[k3].name)
       have hT:=refRight (str o.globals[k3].ty)
       rw [str_data] at hV hT
       have hsz:(str o.globals[k3].name).size ≤ 9223372036854775806:=by rw [str_size]; have:=hgo.1; unfold Tk at this; omega
       generalize o.globals[k3].name = nm at *
       generalize o.globals[k3].ty = ty at *
       generalize o.globals[k3].fn = fn at *
       generalize hadG o k3 = had at *
       generalize hWs:wg.alloc (.cells #[.string (str nm),.string (str ty),.int .i64 fn] 74) = ws at *
       have hbs:Below wg.heap.size wg ws:=by rw [← hWs]; exact (Below.refl _ _).alloc (Nat.le_refl _) _
       have hNs:=heap_alloc_new wg (.cells #[.string (str nm),.string (str ty),.int .i64 fn] 74)
       rw [hWs] at hNs
       obtain ⟨x0,x1,x2⟩:=cells3 hNs
       have hbws:=below_trans hbl hbs
       have ho2:=owns_below hown hbs
       obtain ⟨z0,z1,z2,z3,z4,hw2⟩:=HCh.out ws hbws
       have HBW2:Hid (Below w.heap.size w ws):=hw2
       have hV1:=fun u=>hV u hsz
       have hHs1:=rhas _ had nm ws (strRow_own ho2) (by omega)
       unfold Pu at hHs1
       change Calls _ _ _ _ (fun e w'=>e = .returned (.bool (anyN had nm)) ∧ w' = ws) at hHs1
       clear e1 hcell hNs hown hV hsz hgo hw2
       cases hv:valueR nm
       ·rw [hv] at hV1
        replace hE:Hid (elemO o 2 k3 = 13):=by rw [hid_iff,hE.out,if_pos hv]
        have hX:Hid (r = (13,k3)):=by rw [hid_iff,hr.out,from_bad (by show k3 < o.globals.length; omega) (by rw [hE.out]; simp),hE.out]
        clear hr hE hv hHs1 hT
        go_wp2_with fail
        refine (hV1 _).mono ?_
        rintro e w3 ⟨rfl,rfl⟩
        go_wp2
        go_ret2
        exact ⟨(by rw [hX.out]; first | done | rfl),HBW2.out⟩
       rw [hv] at hV1
       replace hE:Hid (elemO o 2 k3 = if anyN had nm = true then 15 else if rightR ty = false then 17 else if inO fn n4 = false then 21 else 0):=by rw [hid_iff,hE.out,if_neg (by rw [hv]; simp)]
       clear hv
       cases hany:anyN had nm
       case true =>
        rw [hany] at hHs1
        replace hE:Hid (elemO o 2 k3 = 15):=by rw [hid_iff,hE.out,if_pos hany]
        have hX:Hid (r = (15,k3)):=by rw [hid_iff,hr.out,from_bad (by show k3 < o.globals.length; omega) (by rw [hE.out]; simp),hE.out]
        clear hr hE hany ho2 hT
        go_wp2_with fail
        refine (hV1 _).mono ?_
        rintro e w3 ⟨rfl,hw3⟩
        obtain rfl:=hw3.symm
        go_wp2_with fail
        refine hHs1.mono ?_
        rintro e w4 ⟨rfl,rfl⟩
        go_wp2
        go_ret2
        exact ⟨(by rw [hX.out]; first | done | rfl),HBW2.out⟩
       rw [hany] at hHs1
       replace hE:Hid (elemO o 2 k3 = if rightR ty = false then 17 else if inO fn n4 = false then 21 else 0):=by rw [hid_iff,hE.out,if_neg (by rw [hany]; simp)]
       clear hany
       cases hrr:rightR ty
       ·rw [hrr] at hT
        replace hE:Hid (elemO o 2 k3 = 17):=by rw [hid_iff,hE.out,if_pos hrr]
        have hX:Hid (r = (17,k3)):=by rw [hid_iff,hr.out,from_bad (by show k3 < o.globals.length; omega) (by rw [hE.out]; simp),hE.out]
        clear hr hE hrr ho2
        go_wp2_with fail
        refine (hV1 _).mono ?_
        rintro e w3 ⟨rfl,hw3⟩
        obtain rfl:=hw3.symm
        go_wp2_with fail
        refine hHs1.mono ?_
        rintro e w4 ⟨rfl,hw4⟩
        obtain rfl:=hw4.symm
        go_wp2_with fail
        refine (hT _).mono ?_
        rintro e w5 ⟨rfl,rfl⟩
        go_wp2
        go_ret2
        exact ⟨(by rw [hX.out]; first | done | rfl),HBW2.out⟩
       rw [hrr] at hT
       replace hE:Hid (elemO o 2 k3 = if inO fn n4 = false then 21 else 0):=by rw [hid_iff,hE.out,if_neg (by rw [hrr]; simp)]
       clear hrr
       by_cases hin:0 ≤ fn ∧ fn < n4
       case neg =>
        replace hE:Hid (elemO o 2 k3 = 21):=by
         rw [hid_iff,hE.out,if_pos (by cases hi:inO fn n4; rfl; exfalso; simp only [inO,Bool.and_eq_true,decide_eq_true_eq] at hi; exact hin hi)]
        have hX:Hid (r = (21,k3)):=by rw [hid_iff,hr.out,from_bad (by show k3 < o.globals.length; omega) (by rw [hE.out]; simp),hE.out]
        clear hr hE ho2
        by_cases hi0:fn < 0
        ·clear hin
         go_wp2_with fail
         refine (hV1 _).mono ?_
         rintro e w3 ⟨rfl,hw3⟩
         obtain rfl:=hw3.symm
         go_wp2_with fail
         refine hHs1.mono ?_
         rintro e w4 ⟨rfl,hw4⟩
         obtain rfl:=hw4.symm
         go_wp2_with fail
         refine (hT _).mono ?_
         rintro e w5 ⟨rfl,rfl⟩
         go_wp2
         go_ret2
         exact ⟨(by rw [hX.out]; first | done | rfl),HBW2.out⟩
        ·have hi1:(n4:Int) ≤ fn:=by omega
         clear hin
         go_wp2_with fail
         refine (hV1 _).mono ?_
         rintro e w3 ⟨rfl,hw3⟩
         obtain rfl:=hw3.symm
         go_wp2_with fail
         refine hHs1.mono ?_
         rintro e w4 ⟨rfl,hw4⟩
         obtain rfl:=hw4.symm
         go_wp2_with fail
         refine (hT _).mono ?_
         rintro e w5 ⟨rfl,rfl⟩
         go_wp2
         go_ret2
         exact ⟨(by rw [hX.out]; first | done | rfl),HBW2.out⟩
       obtain ⟨hi0,hi1⟩:=hin
       replace hE:Hid (elemO o 2 k3 = 0):=by rw [hid_iff,hE.out,if_neg (by rw [inO,decide_eq_true hi0,decide_eq_true hi1]; simp)]
       have HN:Hid (r = fromO o 2 (k3 + 1) 1):=by rw [hid_iff,hr.out,from_next (by show k3 < o.globals.length; omega) hE.out]
       have hi0':¬ fn < 0:=by omega
       have hi1':¬ (n4:Int) ≤ fn:=by omega
       have hB2:=hbws.size
       have hB3:=hidden hbws
       clear hr hE hbws hi0 hi1
       go_wp2_with fail
       refine (hV1 _).mono ?_
       rintro e w3 ⟨rfl,hw3⟩
       obtain rfl:=hw3.symm
       go_wp2_with fail
       refine hHs1.mono ?_
       rintro e w4 ⟨rfl,hw4⟩
       obtain rfl:=hw4.symm
       go_wp2_with fail
       refine (hT _).mono ?_
       rintro e w5 ⟨rfl,hw5⟩
       obtain rfl:=hw5.symm
       clear hV1 hHs1 hT
       go_wp2_with (at_builtin; refine append_textN rfl (.tmp 123) (.tmp 126) rfl W0.heap.size _ had rfl (ho2.alloc _) _ _ nm rfl ?src ?len ?hB ?next)
       case src=>first | exact cells_new _ _ _ | exact fun j u h=>h
       case len=>omega
       case hB=>first | omega | (simp; omega)
       case next =>
        intro ad c' w' k1 k2
        have k4:=below_grown (ho2.alloc _) (by simp; omega) (hB3.out.alloc hB2 _) k2
        clear k2 ho2
        go_wp2
        go_roundg (n3 - (k3 + 1))
        case measure=>omega
        case rel=>exact ⟨k3 + 1,by omega,by go_num,by rw [hHd.out,hs0]; simpa using k1,HN,k4⟩
      ·have hr3:Hid (r = fromO o 3 0 0):=by rw [hid_iff,hr.out,from_end (by show ¬ k3 < o.globals.length; omega)]; rfl
       have hki3:¬ (k3:Int) < (n3:Int):=by omega
       have hkk3:k3 = n3:=by omega
       have hh0:hadG o k3 = hadF o 0:=by rw [hadF,hn3,hkk3]; simp
       rw [hh0] at hown
       subst hkk3
       clear hr hh0
       go_wp2_with fail
       go_loopg [4,10] n4 (fun g v i wr'=>∃ (k:Nat),g + k = n4 ∧ i = .int .i64 (k:Int) ∧ wr'.ownsRow W0.heap.size 9 1 v (hadF o k).length (sc (hadF o k)) ∧ Hid (r = fromO o 3 k 0) ∧ Below W0.heap.size W0 wr')
       case atStart=>exact ⟨0,by omega,rfl,hown,hr3,hbl⟩
       case round =>
        clear hown hbl hwr hr3 y0 y1 y2 y3 y4 HBW hsl
        obtain ⟨k4,hgk,rfl,hown,hr,hbl⟩:=hrel
        rename World=>wf
        obtain ⟨y0,y1,y2,y3,y4,hwr⟩:=HCh.out wf hbl
        have hsl:=hbl.size
        have HBW:=hidden hwr
        by_cases hk:k4 < n4
        ·have hkt:k4 < o.funs.length:=by omega
         obtain ⟨g,of,cap,cs,e1,_,hgF,hC,hcell⟩:=(HFn.out.below cFn_stay hwr hF).at k4 hkt
         simp only [Value.slice.injEq] at e1
         obtain ⟨rfl,e1,rfl⟩:=e1
         obtain ⟨pv,kv,rfl,hpv,hkv⟩:=hC
         have q0:=hcell 0 _ rfl
         have q1:=hcell 1 _ rfl
         have q2:=hcell 2 _ rfl
         have q3:=hcell 3 _ rfl
         have q4:=hcell 4 _ rfl
         have q5:=hcell 5 _ rfl
         simp only [Nat.add_zero] at q0
         have hE:Hid (elemO o 3 k4 = funR (hadF o k4) o.funs[k4]):=elem3_at hBig.out hkt
         have hHy:=hidden (hadF_yes hkt)
         have hHn:=hidden (hadF_no hkt)
         have hlk:=(hl k4).2.2
         have hfo:=HOK.out.funs _ (List.getElem_mem hkt)
         have hki4:(k4:Int) < (n4:Int):=by omega
         obtain ⟨pa,pc,rfl⟩:=hpv.1.shape
         obtain ⟨ka,kc,rfl⟩:=hkv.shape
         have hFu:=rfun F o.funs[k4] (.slice pa o.funs[k4].params.length pc) (.slice ka o.funs[k4].code.length kc) _ (hadF o k4) wf hpv ⟨_,_,rfl⟩ (fun g hg=>Nat.lt_of_lt_of_le (hF g hg) hwr.size) hfo (strRow_own hown) (by omega)
         unfold fnv NumB at hFu
         have hne:=nil_text o.funs[k4].name
         generalize funR (hadF o k4) o.funs[k4] = fr at *
         generalize hnm:o.funs[k4].name = nm at *
         generalize o.funs[k4].caps = xp at *
         generalize o.funs[k4].res = xt at *
         generalize o.funs[k4].locals = xl at *
         generalize o.funs[k4].params.length = np at *
         generalize o.funs[k4].code.length = nc at *
         generalize hadF o k4 = had at *
         have Hown:=hidden hown
         clear e1 hcell hpv hkv hfo hown
         by_cases p1:fr = 0
         case neg =>
          have hX:Hid (r = (fr,k4)):=by rw [hid_iff,hr.out,from_bad (by show k4 < o.funs.length; omega) (by rw [hE.out]; exact p1),hE.out]
          have p1i:((fr:Int) == 0) = false:=by simp [p1]
          clear hr hE p1
          go_wp2_with fail
          refine hFu.mono ?_
          rintro e w3 ⟨rfl,hb3⟩
          have HB3:=hidden hb3
          clear hb3
          go_wp2
          go_ret2
          exact ⟨(by rw [hX.out]; first | done | rfl),below_trans HBW.out HB3.out⟩
         subst p1
         have HN:Hid (r = fromO o 3 (k4 + 1) 0):=by rw [hid_iff,hr.out,from_next (by show k4 < o.funs.length; omega) hE.out]
         clear hr hE
         go_wp2_with fail
         refine hFu.mono ?_
         rintro e w3 ⟨rfl,hb3⟩
         have hb03:=below_trans hbl hb3
         have ho3:=owns_below Hown.out hb3
         clear hbl hwr y0 y1 y2 y3 y4 q0 q1 q2 q3 q4 q5 hFu hsl HBW
         obtain ⟨y0,y1,y2,y3,y4,hwr⟩:=HCh.out w3 hb03
         obtain ⟨g',of',cap',cs',e1,_,hgF',hC',hcell'⟩:=(HFn.out.below cFn_stay hwr hF).at k4 hkt
         simp only [Value.slice.injEq,Option.some.injEq,Addr.mk.injEq,and_true] at e1
         obtain ⟨⟨rfl,rfl⟩,e1,rfl⟩:=e1
         obtain ⟨pv',kv',rfl,_,_⟩:=hC'
         have q0:=hcell' 0 _ rfl
         simp only [Nat.add_zero] at q0
         rw [hnm] at q0
         have hsl:=hb03.size
         have hB3:=hidden hb03
         clear e1 hcell' hb3
         by_cases hnn:nm = []
         ·have HNo:=hidden (hHn.out hnn)
          rw [decide_eq_true hnn] at hne
          have hne4:(str nm).toList = []:=by rw [← List.isEmpty_iff]; exact hne
          clear hnn hnm
          go_wp2
          go_roundg (n4 - (k4 + 1))
          case measure=>omega
          case rel=>exact ⟨k4 + 1,by omega,by go_num,by rw [HNo.out]; exact ho3,HN,hB3.out⟩
         ·have HYes:=hidden (hHy.out hnn)
          rw [decide_eq_false hnn] at hne
          have hne4:¬ (str nm).toList = []:=by
           intro hh
           rw [hh] at hne
           cases hne
          clear hnn hHy hHn
          clear hnm hb03
          go_wp2_with (at_builtin; refine append_textN rfl (.tmp 153) (.tmp 160) rfl W0.heap.size _ had rfl (ho3.alloc _) _ _ nm rfl ?src ?len ?hB ?next)
          case src=>first | exact cells_new _ _ _ | exact fun j u h=>h
          case len=>omega
          case hB=>first | omega | (simp; omega)
          case next =>
           intro ad c' w' k1 k5
           have k6:=below_grown (ho3.alloc _) (by simp; omega) (hB3.out.alloc hsl _) k5
           clear k5 ho3
           go_wp2
           go_roundg (n4 - (k4 + 1))
           case measure=>omega
           case rel=>exact ⟨k4 + 1,by omega,by go_num,by rw [HYes.out,hs0]; simpa using k1,HN,k6⟩
        ·have hX:Hid (r = (0,0)):=by rw [hid_iff,hr.out,from_end (by show ¬ k4 < o.funs.length; omega)]; rfl
         have hki4:¬ (k4:Int) < (n4:Int):=by omega
         clear hr
         go_wp2
         go_ret2
         exact ⟨(by rw [hX.out]; first | done | rfl),HBW.out⟩
end Go.Proofs.YtiiepfplommmfaaGreatDoor
