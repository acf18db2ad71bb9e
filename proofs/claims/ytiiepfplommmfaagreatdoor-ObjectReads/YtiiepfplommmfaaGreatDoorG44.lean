/-
  The law ObjectReads: its walk, lifted to whatever memory it is handed.
-/
import Derived.Test.YtiiepfplommmfaaGreatDoorG04
import Derived.Test.YtiiepfplommmfaaGreatDoorG05
import Derived.Test.YtiiepfplommmfaaGreatDoorG43
namespace Go.Proofs.YtiiepfplommmfaaGreatDoor
open Go.ChangeShapes Go.WideShapes Go.ChangeAt Go.RowKit Go.Deep

set_option maxRecDepth 100000 in
theorem bytesC14 {H : Type} {enc : TypeId × Value → H} {W : World} {fuel : Nat} {a0 : Option Addr} {len0 cap0 : Nat} {x : DataW H × List MemPlace} (hf : DataW.trod enc Tryz.prog W 0 (fun _ => true) true fuel 42 (Value.slice a0 len0 cap0).cells.toList = some x) (hw : WOk 42 x.1) :
  ∃ b0 l,Wire.Rd W b0 (.slice a0 len0 cap0) l ∧ (∀ y ∈ l,y < 256) ∧ l.length ≤ 140737488351232 ∧ len0 ≤ cap0 ∧ cap0 ≤ maxLen:=by
 rcases open_ints Tryz.underlying42 Tryz.underlying5 (by kernel_rfl) hf with ⟨hcs,hx⟩ | ⟨a,ln,c,zs,hcs,_,hl,hm,hz,hx,hcell,hwz⟩
 ·simp [Value.cells] at hcs
  obtain ⟨rfl,rfl,rfl⟩:=hcs
  exact ⟨0,[],.inl ⟨rfl,rfl⟩,by simp,by simp,by omega,by simp⟩
 ·simp [Value.cells] at hcs
  obtain ⟨rfl,rfl,rfl⟩:=hcs
  simp at hz
  have hwf:∀ z ∈ zs,0 ≤ z ∧ z ≤ 255:=fun z hz=>bounds_u8 (hwz z hz)
  rw [hx] at hw
  obtain ⟨w1,w2⟩:=w_slice Tryz.underlying42 hw
  have hbytes:len0 ≤ 140737488351232:=by
   have hb:Tryz.prog.bytesOf 5 = 1:=by kernel_rfl
   rw [hb,reach_is] at w1
   simp only [lits,List.length_map,List.length_take,List.length_drop] at w1
   omega
  refine ⟨a.block,(zs.take len0).map Int.toNat,?_,?_,by simp; omega,hl,hm⟩
  ·right
   refine ⟨a,cap0,by simp; omega,rfl,fun j u hu=>?_⟩
   have hj:j < len0:=by
    have:=(List.getElem?_eq_some_iff.1 hu).1
    rw [Wire.bs_length] at this
    simp at this
    omega
   rw [hcell j (by omega)]
   rw [Wire.bs,List.getElem?_map,List.getElem?_map,List.getElem?_take,if_pos hj,List.getElem?_eq_getElem (show j < zs.length by omega)] at hu
   rw [← hu]
   have hw:=hwf zs[j] (List.getElem_mem (show j < zs.length by omega))
   simp [List.getD,show j < zs.length by omega]
   omega
  ·intro y hy
   obtain ⟨z,hz1,rfl⟩:=List.mem_map.1 hy
   have:=hwf z (List.mem_of_mem_take hz1)
   omega
set_option maxRecDepth 100000 in
theorem objectReads_lifted (os : Os) (started : os.Started) (H : Type) (enc : TypeId × Value → H) :
  ReturnsInHanded {} Tryz.checked os 4 .any (fun w args=>(Rows.objectReadsSpec.pre enc Tryz.prog Tryz.f4 [] false w args ∧ laidMetH Tryz.prog laid3 w) ∧ sizedMet enc Tryz.prog Tryz.f4 (OpenSpec.ofChange Rows.objectReadsSpec) false w args)
   (Rows.objectReadsSpec.post enc Tryz.prog Tryz.f4 false true false false):=by
 refine returnsInHanded_of_change_and (C:=Tryz.checked) (X:=fun w _=>laidMetH Tryz.prog laid3 w) (fun _ _ _ hh h=>h.of_heap hh) own started (by kernel_rfl) Tryz.func4
  (ChangeSpec.witness_shaped (enc:=enc) (C:=Tryz.checked) (os:=os) (X:=fun w _=>laidMetH Tryz.prog laid3 w) false (World.doorLaid Tryz.prog 400 os) #[.slice none 0 0,.agg #[.string ByteArray.empty,.slice none 0 0,.slice none 0 0,.slice none 0 0,.slice none 0 0,.slice none 0 0,.slice none 0 0,.slice none 0 0],.int .i64 0,.int .u8 0] 8 rfl (World.shaped_of_RefB (by kernel_rfl) (by kernel_rfl)) (by kernel_rfl) (by kernel_rfl) (by kernel_rfl) (door_met os _)) ?_
 intro W base args ds gs before hval0 hW hcnd hsz0 hL _
 have hval:∀ (j:Nat) t v,Tryz.f4.params[j]? = some t → args[j]? = some v → Value.okWide Tryz.prog W .any base t v:=hval0
 have hsz:(DataW.weightsEach Tryz.prog (Tryz.f4.params.toList ++ Rows.objectReadsSpec.plain.varTypes Tryz.prog) (ds ++ gs)).all (· ≤ reachBytes) = true:=hsz0
 have hW':=hW
 obtain ⟨p,q,hA0,hV,rfl,hfz,hnd⟩:=hW
 have hA:DataW.TrodAll enc Tryz.prog W 0 (fun _=>true) true Tryz.f4.params.toList args.toList ds p:=hA0
 rw [Tryz.params4] at hA hval hsz
 obtain ⟨v0,vs0,d0,ds0,p0,q0,hargs,rfl,rfl,h0,r0⟩:=trodAll_cons hA
 obtain ⟨v1,vs1,d1,ds1,p1,q1,rfl,rfl,rfl,h1,r1⟩:=trodAll_cons r0
 obtain ⟨v2,vs2,d2,ds2,p2,q2,rfl,rfl,rfl,h2,r2⟩:=trodAll_cons r1
 obtain ⟨v3,vs3,d3,ds3,p3,q3,rfl,rfl,rfl,h3,r3⟩:=trodAll_cons r2
 obtain ⟨rfl,rfl,rfl⟩:=trodAll_nil r3
 obtain rfl:args = #[v0,v1,v2,v3]:=by cases args; simp_all
 obtain ⟨rfl,rfl⟩:=trodVars_none hV
 have hw0:WOk 42 d0:=fun n hn=>by simpa using List.all_eq_true.1 hsz _ (DataW.weights_mem_each (j:=0) (t:=42) (d:=d0) rfl rfl n hn)
 have hw1:WOk 29 d1:=fun n hn=>by simpa using List.all_eq_true.1 hsz _ (DataW.weights_mem_each (j:=1) (t:=29) (d:=d1) rfl rfl n hn)
 have k0:=h0
 have k1:=h1
 have lt0:∀ x ∈ p0,x.block < W.heap.size:=by obtain ⟨m,hm⟩:=k0; exact DataW.trod_lt m _ _ _ hm
 have lt1:∀ x ∈ p1,x.block < W.heap.size:=by obtain ⟨m,hm⟩:=k1; exact DataW.trod_lt m _ _ _ hm
 obtain ⟨a0,len0,cap0,rfl⟩:=okWide_slice Tryz.underlying42 (hval 0 42 v0 rfl rfl)
 obtain ⟨f0,hf0⟩:=h0
 obtain ⟨b0,bl,y1,y2,y3,y4,y5⟩:=bytesC14 (by simpa [Value.cells] using hf0) hw0
 obtain ⟨o,u,rfl,hO,hok,l1,l2,l3,l4⟩:=object_openL (hval 1 29 v1 rfl rfl) h1 hw1
 obtain ⟨n,rfl,rfl,rfl,w2⟩:=open_int Tryz.underlying3 (hval 2 3 v2 rfl rfl) h2
 have c2:=bounds_i64 w2
 obtain ⟨t,rfl,rfl,rfl,w3⟩:=open_int Tryz.underlying5 (hval 3 5 v3 rfl rfl) h3
 have c3:=bounds_u8 w3
 obtain ⟨tt,rfl⟩:∃ tt:Nat,t = (tt:Int):=⟨t.toNat,by omega⟩
 clear hA0 hval0
 simp only [List.append_nil] at hW'
 have hwalk:=reads_walk14 (fun g=>g < W.heap.size) u o _ b0 bl n tt W hO y1 (fun g hg=>hg) hok l1 l2 l3 l4 y3 y2 ⟨a0,len0,cap0,rfl,y4,y5⟩ c2.1 c2.2 (by omega)
 refine hwalk.mono fun e W' ⟨he,bel⟩=>?_
 subst he
 exact ⟨_,rfl,_,_,_,[],_,[],hW',trodAll_mk1 (shut_bool Tryz.underlying4 _),(trodAll_cons_mk (Below.trod laidO (by kernel_rfl) (of_decide_eq_true (by kernel_rfl)) k0 bel lt0) (trodAll_cons_mk (Below.trod laidO (by kernel_rfl) (of_decide_eq_true (by kernel_rfl)) k1 bel lt1) (trodAll_cons_mk (shut_int Tryz.underlying3 w2) (trodAll_cons_mk (shut_int Tryz.underlying5 w3) trodAll_mk0)))),rfl,bel.frame _,fun h=>by cases h⟩
end Go.Proofs.YtiiepfplommmfaaGreatDoor
