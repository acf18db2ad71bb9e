/-
  The package's copies: of texts, of cases.
  And: Rows of cases and of items that a reader makes, one put behind the others. The package's small readers: a type's text; is the reader refused? The package's readList, at texts. The Writer beside blocks that stay; the package's writeItem. The package's isKind, isNamed, allTypes, hasCase, isFunction, rightValue. The package's rightCase.
-/
import Derived.Deep.CutRange
import Derived.Deep.RegionHeld3
import Derived.Deep.LoopGhost
import Derived.Deep.AppendLies
import Derived.Test.YtiiepfplommmfaaGreatDoorG07
import Derived.Test.YtiiepfplommmfaaGreatDoorG06
import Derived.Test.YtiiepfplommmfaaGreatDoorG04
import Derived.Deep.RegionLaw
import Derived.Test.YtiiepfplommmfaaGreatDoorG02
import Derived.Deep.RegionWith
namespace Go.Proofs.YtiiepfplommmfaaGreatDoor
open Go.RowKit

def Fr (w w':World) (g:Nat):Prop:=w.heap.size ≤ g ∧ g < w'.heap.size
theorem tx_own {w:World} {B e:Nat} {v:Value} {xs:List (List UInt8)} (h:w.ownsRow B e 1 v xs.length (sc xs)):TxR (fun g=>B ≤ g ∧ g < w.heap.size) w v xs:=by
 rcases h.2 with ⟨rfl,hn⟩ | ⟨g,cap,cur,rfl,hb,hg,h1,_⟩
 ·exact .inl ⟨none,0,rfl,List.eq_nil_of_length_eq_zero hn⟩
 ·refine .inr ⟨g,0,cap,rfl,⟨hb,(Array.getElem?_eq_some_iff.1 hg).1⟩,fun j x hj=>?_⟩
  obtain ⟨hlt,rfl⟩:=List.getElem?_eq_some_iff.1 hj
  rw [Nat.zero_add,h.cellAt j (by omega)]
  simp [sc,hlt]
set_option maxHeartbeats 1000000 in
set_option maxRecDepth 1000000 in
theorem copyTexts (F : Nat → Prop) (v : Value) (xs : List (List UInt8)) (w : World) (h : TxR F w v xs) (hF : ∀ g, F g → g < w.heap.size) (hl : xs.length ≤ 8796093022208) (htk : ∀ x ∈ xs, Tk x) :
  Calls Tryz.prog 205 #[v] w fun e w'=>∃ v',e = .returned v' ∧ TxR (Fr w w') w' v' xs ∧ Below w.heap.size w w':=by
 obtain ⟨va,vc,rfl⟩:=h.shape
 have hh:=hidden h
 clear h
 go_enter Tryz.func205,Tryz.ntmps205
 go_wp2_with fail
 go_loopg [3,8] xs.length (fun g x i wr=>∃ (k:Nat),g + k = xs.length ∧ i = .int .i64 (k:Int) ∧ wr.ownsRow w.heap.size 9 1 x (xs.take k).length (sc (xs.take k)) ∧ Below w.heap.size w wr)
 case atStart=>exact ⟨0,by simp,rfl,by simpa [sc] using World.ownsRow_nil _ _ _ _,Below.refl _ _⟩
 case round =>
  obtain ⟨k,hg,rfl,hown,hbr⟩:=hrel
  by_cases hk:k < xs.length
  ·obtain ⟨bk,o,c,e1,hgF,qx⟩:=(hh.out.below hbr hF).at k hk
   simp only [Value.slice.injEq,true_and] at e1
   obtain ⟨rfl,rfl⟩:=e1
   have hki:(k:Int) < (xs.length:Int):=by omega
   have hx:=htk _ (List.getElem_mem hk)
   have HX:Hid (xs.take (k + 1) = xs.take k ++ [xs[k]]):=List.take_succ_eq_append_getElem hk
   have hal:(xs.take k).length ≤ k:=by simp; omega
   have hB6:w.heap.size ≤ wr.heap.size:=hbr.size
   clear hh
   generalize xs[k] = x at *
   generalize xs.take k = acc at *
   go_wp2_with fail
   refine (sCloneT x _ hx).mono ?_
   rintro e w9 ⟨rfl,hb9⟩
   have ho9:=owns_below hown hb9
   have hb90:Below w.heap.size w w9:=hbr.trans (hb9.mono hB6)
   have hB9:w.heap.size ≤ w9.heap.size:=hb90.size
   clear hown hbr hb9 hB6
   go_wp2_with (at_builtin; refine append_textN rfl (.tmp 12) (.tmp 15) rfl w.heap.size _ acc rfl (ho9.alloc _) _ _ x rfl ?src ?len ?hB ?next)
   case src=>first | exact cells_new _ _ _ | exact fun j u h=>h
   case len=>first | omega | (simp; omega)
   case hB=>first | omega | (simp; omega)
   case next =>
    intro ad c' w' k1 k2
    have k3:=below_grown (ho9.alloc _) (by simp; omega) (hb90.alloc hB9 _) k2
    clear k2 ho9 hb90
    go_wp2
    go_roundg (xs.length - (k + 1))
    case measure=>omega
    case rel=>exact ⟨k + 1,by omega,by go_num,by rw [HX.out,List.length_append,List.length_singleton]; exact k1,k3⟩
  ·have hki:¬ (k:Int) < (xs.length:Int):=by omega
   rw [List.take_of_length_le (by omega)] at hown
   clear hh
   go_wp2
   go_ret
   exact ⟨_,rfl,tx_own hown,hbr⟩
def rowK (ps:List (Cs × Value)):List Value:=ps.flatMap fun p=>[.string (str p.1.1),p.2]
theorem rowK_snoc (ps:List (Cs × Value)) (p:Cs × Value):rowK (ps ++ [p]) = rowK ps ++ [.string (str p.1.1),p.2]:=by simp [rowK]
def CsI (B:Nat) (w:World) (v:Value) (cs:List Cs):Prop:=∃ ps:List (Cs × Value),ps.map (·.1) = cs ∧ w.ownsRow B 203 2 v cs.length (rowK ps) ∧ ∀ p ∈ ps,TxR (fun g=>B ≤ g ∧ g < w.heap.size ∧ some g ≠ v.ownBlock) w p.2 p.1.2
theorem CsI.nil (B:Nat) (w:World):CsI B w (.slice none 0 0) []:=⟨[],rfl,World.ownsRow_nil _ _ _ _,by simp⟩
theorem CsI.below {B:Nat} {w w':World} {v:Value} {cs:List Cs} (h:CsI B w v cs) (hb:Below w.heap.size w w'):CsI B w' v cs:=by
 obtain ⟨ps,h1,h2,h3⟩:=h
 exact ⟨ps,h1,owns_below h2 hb,fun p hp=>(h3 p hp).frame fun g hg=>⟨⟨hg.1,Nat.lt_of_lt_of_le hg.2.1 hb.size,hg.2.2⟩,hb.block g hg.2.1⟩⟩
theorem owns_block {w:World} {B e sz n:Nat} {v:Value} {xs:List Value} (h:w.ownsRow B e sz v n xs) {g:Nat} (hg:v.ownBlock = some g):B ≤ g ∧ g < w.heap.size:=by
 rcases h.2 with ⟨rfl,_⟩ | ⟨g',cap,cur,rfl,hb,hk,_⟩
 ·simp [Value.ownBlock] at hg
 ·simp only [Value.ownBlock,Option.some.injEq] at hg
  subst hg
  exact ⟨hb,(Array.getElem?_eq_some_iff.1 hk).1⟩
theorem CsI.block {B:Nat} {w:World} {v:Value} {cs:List Cs} (h:CsI B w v cs) {g:Nat} (hg:v.ownBlock = some g):B ≤ g ∧ g < w.heap.size:=by
 obtain ⟨ps,h1,h2,h3⟩:=h
 exact owns_block h2 hg
theorem CsI.shape {B:Nat} {w:World} {v:Value} {cs:List Cs} (h:CsI B w v cs):∃ a c,v = .slice a cs.length c:=by
 obtain ⟨ps,h1,h2,h3⟩:=h
 rcases h2.2 with ⟨rfl,hn⟩ | ⟨g,cap,cur,rfl,_⟩
 ·exact ⟨none,0,by rw [hn]⟩
 ·exact ⟨_,_,rfl⟩
theorem rowK_at:∀ (ps:List (Cs × Value)) (j:Nat) (h:j < ps.length) (i:Nat),i < 2 → (rowK ps)[j * 2 + i]? = ([.string (str ps[j].1.1),ps[j].2]:List Value)[i]?
 | p :: r,0,_,i,hi=>by
  rw [Nat.zero_mul,Nat.zero_add,rowK,List.flatMap_cons,List.getElem?_append_left (by simpa using hi)]
  rfl
 | p :: r,j + 1,h,i,hi=>by
  have:=rowK_at r j (by simpa using h) i hi
  rw [rowK,List.flatMap_cons,List.getElem?_append_right (by simp; omega)]
  simpa [rowK,Nat.add_mul,Nat.add_right_comm] using this
theorem CsI.row {B:Nat} {w:World} {v:Value} {cs:List Cs} (h:CsI B w v cs):CsR (fun g=>B ≤ g ∧ g < w.heap.size) w v cs:=by
 obtain ⟨ps,rfl,h2,h3⟩:=h
 rcases h2.2 with ⟨rfl,hn⟩ | ⟨g,cap,cur,rfl,hb,hg,hl,_⟩
 ·exact .inl ⟨none,0,rfl,List.eq_nil_of_length_eq_zero hn⟩
 ·refine .inr ⟨g,0,cap,rfl,hl,⟨hb,(Array.getElem?_eq_some_iff.1 hg).1⟩,fun j x hj=>?_⟩
  rw [List.getElem?_map] at hj
  obtain ⟨p,hp,rfl⟩:=Option.map_eq_some_iff.1 hj
  obtain ⟨hlt,rfl⟩:=List.getElem?_eq_some_iff.1 hp
  refine ⟨ps[j].2,(h3 _ (List.getElem_mem hlt)).frame fun g' hg'=>⟨⟨hg'.1,hg'.2.1⟩,rfl⟩,?_,?_⟩
  ·have e0:=rowK_at ps j hlt 0 (by omega)
   rw [Nat.add_zero] at e0
   rw [Nat.zero_add,h2.cellAt (j * 2) (by simp; omega),e0]
   rfl
  ·rw [Nat.zero_add,h2.cellAt (j * 2 + 1) (by simp; omega),rowK_at ps j hlt 1 (by omega)]
   rfl
theorem infoC:(Tryz.prog.info? 203).map (fun i=>(i.zero.map (fun z=>z.cells.size),i.size,i.bytes)) = some (some 2,2,40):=by kernel_rfl
theorem TxR.one {F:Nat → Prop} {w:World} {v:Value} {xs:List (List UInt8)} (h:TxR F w v xs):v.oneCell' = true:=by
 obtain ⟨a,c,rfl⟩:=h.shape
 rfl
theorem step_case {w : World} {ops : Array Oper} {o : Oper} {a : Act} {K : Act → World → Prop} {Q : Exit → Act → World → Prop} {E : Prop} (hgd : o.guard = none) (s x : Operand)
  (ho:o.op = .call { callee := .builtin .append,args:=#[s,x],argTypes:=#[75,75] })
  (B:Nat) (v:Value) (cs:List Cs) (hs:a.eval s = v) (hI:CsI B w v cs) (c:Cs) (fv:Value) (ad:Addr) (cp:Nat) (hx:a.eval x = .slice (some ad) 1 cp)
  (hnews:∀ j u,([.string (str c.1),fv]:List Value)[j]? = some u → w.cell? (ad.add j) = some u) (hT:TxR (fun g=>B ≤ g ∧ g < w.heap.size ∧ some g ≠ v.ownBlock) w fv c.2) (hlen:cs.length + 1 ≤ 3518437208883) (hB:B ≤ w.heap.size)
  (h:∀ g cap w',CsI B w' (.slice (some ⟨g,0,none⟩) (cs.length + 1) cap) (cs ++ [c]) → (∀ w0,Below B w0 w → Below B w0 w') → (∀ b,b < w.heap.size → v.ownBlock ≠ some b → w'.heap[b]? = w.heap[b]?) → K (a.put o.dst (.slice (some ⟨g,0,none⟩) (cs.length + 1) cap)) w') :
  if Region.wanted o (yielded ops a.tmps) = true then Oper.wp Tryz.prog o a w K Q else E:=by
 obtain ⟨i,z,hi,hz,h1,h2,h3⟩:=info_z infoC
 obtain ⟨ps,rfl,p2,p3⟩:=hI
 refine step_append_lies w hgd s x 75 ho B 203 i z 2 40 Tryz.underlying75 hi hz h1 h2 h3 (by decide) v _ (rowK ps) hs p2 ad 1 cp [.string (str c.1),fv] hx rfl hnews (fun u hu=>?_) (by decide) (by unfold maxLen; omega) (by omega) hB w.heap.size rfl ?_
 ·simp only [List.mem_cons,List.not_mem_nil,or_false] at hu
  rcases hu with rfl | rfl
  ·rfl
  ·exact hT.one
 ·intro g cap w' q1 q2 q3 q4
  refine h g cap w' ⟨ps ++ [(c,fv)],by simp,by rw [rowK_snoc]; simpa using q1,fun p hp=>?_⟩ (fun w0 hw0=>hw0.grown q2 hB (fun k hk=>(owns_block p2 hk).1)) (fun b hb hn=>q2.block b hb (fun e=>hn e.symm))
  have key:∀ fv' (xs:List (List UInt8)),TxR (fun g=>B ≤ g ∧ g < w.heap.size ∧ some g ≠ v.ownBlock) w fv' xs → TxR (fun g'=>B ≤ g' ∧ g' < w'.heap.size ∧ some g' ≠ (Value.slice (some ⟨g,0,none⟩) ((ps.map (·.1)).length + 1) cap).ownBlock) w' fv' xs:=fun fv' xs ht=>ht.frame fun g' hg'=>by
   refine ⟨⟨hg'.1,Nat.lt_of_lt_of_le hg'.2.1 q2.size,fun e=>?_⟩,q2.block g' hg'.2.1 hg'.2.2⟩
   simp only [Value.ownBlock,Option.some.injEq] at e
   subst e
   rcases q3 with q3 | q3
   ·exact hg'.2.2 q3.symm
   ·have:=hg'.2.1
    omega
  rcases List.mem_append.1 hp with hp | hp
  ·exact key _ _ (p3 p hp)
  ·rw [List.mem_singleton.1 hp]
   exact key _ _ hT
theorem tx_more {n:Nat} {u u':World} {v:Value} {xs:List (List UInt8)} (h:TxR (fun g=>n ≤ g ∧ g < u.heap.size) u v xs) (hb:Below u.heap.size u u'):TxR (fun g=>n ≤ g ∧ g < u'.heap.size) u' v xs :=
 h.frame fun g hg=>⟨⟨hg.1,Nat.lt_of_lt_of_le hg.2 hb.size⟩,hb.block g hg.2⟩
set_option maxHeartbeats 1000000 in
set_option maxRecDepth 1000000 in
theorem copyCases (F : Nat → Prop) (v : Value) (cs : List Cs) (w : World) (h : CsR F w v cs) (hF : ∀ g, F g → g < w.heap.size) (hl : cs.length ≤ 3518437208883) (hok : ∀ c ∈ cs, CsOk c) :
  Calls Tryz.prog 191 #[v] w fun e w'=>∃ v',e = .returned v' ∧ CsR (Fr w w') w' v' cs ∧ Below w.heap.size w w':=by
 obtain ⟨va,vc,rfl⟩:=h.shape
 have hh:=hidden h
 clear h
 go_enter Tryz.func191,Tryz.ntmps191
 go_wp2_with fail
 go_loopg [3,8] cs.length (fun g x i wr=>∃ (k:Nat),g + k = cs.length ∧ i = .int .i64 (k:Int) ∧ CsI w.heap.size wr x (cs.take k) ∧ Below w.heap.size w wr)
 case atStart=>exact ⟨0,by simp,rfl,CsI.nil _ _,Below.refl _ _⟩
 case round =>
  obtain ⟨k,hg,rfl,hI,hbr⟩:=hrel
  by_cases hk:k < cs.length
  ·obtain ⟨bk,o,c,fv,e1,hcl,hgF,hTx,q1,q2⟩:=(hh.out.below hbr hF).at k hk
   simp only [Value.slice.injEq,true_and] at e1
   obtain ⟨rfl,rfl⟩:=e1
   obtain ⟨fa,fc,rfl⟩:=hTx.shape
   have hki:(k:Int) < (cs.length:Int):=by omega
   have hx:=hok _ (List.getElem_mem hk)
   have HX:Hid (cs.take (k + 1) = cs.take k ++ [cs[k]]):=List.take_succ_eq_append_getElem hk
   have hal:(cs.take k).length + 1 ≤ 3518437208883:=by simp; omega
   have hB6:w.heap.size ≤ wr.heap.size:=hbr.size
   clear hh
   generalize cs[k] = cx at *
   generalize cs.take k = acc at *
   obtain ⟨n,fs⟩:=cx
   simp only at hTx q1 q2 hki
   have hn:Tk n:=hx.1
   have hb0:Below wr.heap.size wr (wr.alloc (.cells #[.string (str n),.slice fa fs.length fc] 203)):=(Below.refl _ _).alloc (Nat.le_refl _) _
   have hS:∀ u,Below (wr.heap.size + 1) (wr.alloc (.cells #[.string (str n),.slice fa fs.length fc] 203)) u → u.cell? ⟨wr.heap.size,0,none⟩ = some (.string (str n)) ∧ u.cell? ⟨wr.heap.size,1,none⟩ = some (.slice fa fs.length fc):=fun u hu=>by
    have k1:u.heap[wr.heap.size]? = some (.cells #[.string (str n),.slice fa fs.length fc] 203 (0,0)):=(hu.block _ (by omega)).trans (World.alloc_heap_new wr _)
    exact ⟨by rw [cell_of_row u _ 0 _ _ _ k1]; rfl,by rw [cell_of_row u _ 1 _ _ _ k1]; rfl⟩
   have hSz:∀ u,Below (wr.heap.size + 1) (wr.alloc (.cells #[.string (str n),.slice fa fs.length fc] 203)) u → wr.heap.size + 1 ≤ u.heap.size:=fun u hu=>by have:=hu.size; simpa using this
   have hBw:∀ u,Below (wr.heap.size + 1) (wr.alloc (.cells #[.string (str n),.slice fa fs.length fc] 203)) u → Below wr.heap.size wr u:=fun u hu=>hb0.trans (hu.mono (by omega))
   have hCT:∀ u,Below (wr.heap.size + 1) (wr.alloc (.cells #[.string (str n),.slice fa fs.length fc] 203)) u → Calls Tryz.prog 205 #[.slice fa fs.length fc] u fun e w'=>∃ v',e = .returned v' ∧ TxR (Fr u w') w' v' fs ∧ Below u.heap.size u w':=fun u hu =>
    copyTexts F _ fs u (hTx.below (hBw u hu) (fun g hg=>by have:=hF g hg; omega)) (fun g hg=>by have:=hF g hg; have:=hSz u hu; omega) hx.2.1 hx.2.2
   have hnext:∀ u u',Below (wr.heap.size + 1) (wr.alloc (.cells #[.string (str n),.slice fa fs.length fc] 203)) u → Below u.heap.size u u' → Below (wr.heap.size + 1) (wr.alloc (.cells #[.string (str n),.slice fa fs.length fc] 203)) u':=fun u u' hu h=>hu.trans (h.mono (hSz u hu))
   have hAl:∀ u (O:Obj),Below (wr.heap.size + 1) (wr.alloc (.cells #[.string (str n),.slice fa fs.length fc] 203)) u → Below (wr.heap.size + 1) (wr.alloc (.cells #[.string (str n),.slice fa fs.length fc] 203)) (u.alloc O):=fun u O hu=>hu.alloc (hSz u hu) O
   have hCI:∀ u,Below (wr.heap.size + 1) (wr.alloc (.cells #[.string (str n),.slice fa fs.length fc] 203)) u → CsI w.heap.size u _ acc:=fun u hu=>hI.below (hBw u hu)
   have hTm:∀ u w' v',Below (wr.heap.size + 1) (wr.alloc (.cells #[.string (str n),.slice fa fs.length fc] 203)) u → TxR (Fr u w') w' v' fs → TxR (fun g=>wr.heap.size + 1 ≤ g ∧ g < w'.heap.size) w' v' fs:=fun u w' v' hu ht=>ht.frame fun g hg=>⟨⟨by have:=hSz u hu; have:=hg.1; omega,hg.2⟩,rfl⟩
   have hTo:∀ (u:World) (O:Obj) v',TxR (fun g=>wr.heap.size + 1 ≤ g ∧ g < u.heap.size) u v' fs → TxR (fun g=>w.heap.size ≤ g ∧ g < (u.alloc O).heap.size ∧ some g ≠ Value.ownBlock _) (u.alloc O) v' fs:=fun u O v' ht=>ht.frame fun g hg=>⟨⟨by have:=hg.1; omega,by have:=hg.2; simp; omega,fun e=>by have:=hI.block e.symm; have:=hg.1; omega⟩,Below.heap_alloc _ _ _ hg.2⟩
   have hSB:∀ u (O:Obj),Below (wr.heap.size + 1) (wr.alloc (.cells #[.string (str n),.slice fa fs.length fc] 203)) u → w.heap.size ≤ (u.alloc O).heap.size:=fun u O hu=>by have:=hSz u hu; simp; omega
   have hFin:∀ u (O:Obj),Below (wr.heap.size + 1) (wr.alloc (.cells #[.string (str n),.slice fa fs.length fc] 203)) u → Below w.heap.size w (u.alloc O):=fun u O hu=>hbr.trans ((hBw _ (hAl u O hu)).mono hB6)
   have hS7:∀ u (O:Obj) (w7:World),Below (wr.heap.size + 1) (wr.alloc (.cells #[.string (str n),.slice fa fs.length fc] 203)) u → (∀ b,b < (u.alloc O).heap.size → Value.ownBlock _ ≠ some b → w7.heap[b]? = (u.alloc O).heap[b]?) → w7.cell? ⟨wr.heap.size,0,none⟩ = some (.string (str n)) ∧ w7.cell? ⟨wr.heap.size,1,none⟩ = some (.slice fa fs.length fc):=fun u O w7 hu hk=>by
    obtain ⟨c0,c1⟩:=hS _ (hAl u O hu)
    have hq:=hk wr.heap.size (by have:=hSz u hu; simp; omega) (fun e=>by have:=hI.block e; omega)
    exact ⟨(World.cell?_of_block (a:=⟨wr.heap.size,0,none⟩) hq).trans c0,(World.cell?_of_block (a:=⟨wr.heap.size,1,none⟩) hq).trans c1⟩
   have G0:Below (wr.heap.size + 1) (wr.alloc (.cells #[.string (str n),.slice fa fs.length fc] 203)) (wr.alloc (.cells #[.string (str n),.slice fa fs.length fc] 203)).drew:=(Below.refl _ _).drew
   obtain ⟨xa,xc,hxv⟩:=hI.shape
   subst hxv
   clear hI hTx hx hok hBw hb0
   go_wp2_with fail
   obtain ⟨d0,d1⟩:=hS _ G0
   generalize hW:wr.alloc (.cells #[.string (str n),.slice fa fs.length fc] 203) = W at *
   clear hW q1 q2
   go_region_held3 (fun u=>u.cell? ⟨wr.heap.size,0,none⟩ = some (.string (str n)) ∧ u.cell? ⟨wr.heap.size,1,none⟩ = some (.slice fa fs.length fc)) (first | go_keep | exact hS _ (by assumption) | assumption) (first
    | (go_at_call 46; refine (sCloneT n _ hn).mono ?_; rintro e wa ⟨rfl,hba⟩; have Ga:=hnext _ _ (by assumption) hba; obtain ⟨d0,d1⟩:=hS _ Ga; try (have hT5:=tx_more hT5 hba); clear hba)
    | (go_at_call 205; refine (hCT _ (by assumption)).mono ?_; rintro e wb ⟨v5,rfl,hT4,hbb⟩; have hT5:=hTm _ _ _ (by assumption) hT4; obtain ⟨ga,gc,rfl⟩:=hT5.shape; have Gb:=hnext _ _ (by assumption) hbb; obtain ⟨d0,d1⟩:=hS _ Gb; clear hbb hT4)
    | (refine step_case (by rfl) (.tmp 12) (.tmp 20) (by rfl) w.heap.size _ acc (by rfl) (hCI _ (hAl _ _ (by assumption))) (n,fs) _ _ 1 (by rfl) (cells_new _ _ _) (hTo _ _ _ (by assumption)) hal (hSB _ _ (by assumption)) ?_; intro gq cap w7 hI7 hf7 hk7; have hb7:=hf7 _ (hFin _ _ (by assumption)); have S7:=hS7 _ _ _ (by assumption) hk7))
   all_goals (
    clear hS hS7 hSz hCT hnext hAl hCI hTm hTo hSB hFin G0
    go_wp2
    go_roundg (cs.length - (k + 1))
    case measure=>omega
    case rel=>exact ⟨k + 1,by omega,by go_num,by rw [HX.out]; exact hI7,hb7⟩)
  ·have hki:¬ (k:Int) < (cs.length:Int):=by omega
   rw [List.take_of_length_le (by omega)] at hI
   clear hh
   go_wp2
   go_ret
   exact ⟨_,rfl,hI.row,hbr⟩
end Go.Proofs.YtiiepfplommmfaaGreatDoor

namespace Go.Proofs.YtiiepfplommmfaaGreatDoor
open Go.RowKit

theorem append_case {w : World} {ops : Array Oper} {rest : List Oper} {o : Oper} {a : Act} {Q : Exit → Act → World → Prop} (hgd : o.guard = none) (s x : Operand)
  (ho:o.op = .call { callee := .builtin .append,args:=#[s,x],argTypes:=#[75,75] })
  (B:Nat) (v:Value) (cs:List Cs) (hs:a.eval s = v) (hI:CsI B w v cs) (c:Cs) (fv:Value) (ad:Addr) (cp:Nat) (hx:a.eval x = .slice (some ad) 1 cp)
  (hnews:∀ j u,([.string (str c.1),fv]:List Value)[j]? = some u → w.cell? (ad.add j) = some u) (hT:TxR (fun g=>B ≤ g ∧ g < w.heap.size ∧ some g ≠ v.ownBlock) w fv c.2) (hlen:cs.length + 1 ≤ 3518437208883) (hB:B ≤ w.heap.size)
  (h:∀ g cap w',CsI B w' (.slice (some ⟨g,0,none⟩) (cs.length + 1) cap) (cs ++ [c]) → w.grownBy w' v.ownBlock → wpList Tryz.prog ops Q rest (a.put o.dst (.slice (some ⟨g,0,none⟩) (cs.length + 1) cap)) w') :
  wpList Tryz.prog ops Q (o :: rest) a w:=by
 obtain ⟨i,z,hi,hz,h1,h2,h3⟩:=info_z infoC
 obtain ⟨ps,rfl,p2,p3⟩:=hI
 refine wpList_append_lies w hgd s x 75 ho B 203 i z 2 40 Tryz.underlying75 hi hz h1 h2 h3 (by decide) v _ (rowK ps) hs p2 ad 1 cp [.string (str c.1),fv] hx rfl hnews (fun u hu=>?_) (by decide) (by unfold maxLen; omega) (by omega) hB w.heap.size rfl ?_
 ·simp only [List.mem_cons,List.not_mem_nil,or_false] at hu
  rcases hu with rfl | rfl
  ·rfl
  ·exact hT.one
 ·intro g cap w' q1 q2 q3 q4
  refine h g cap w' ⟨ps ++ [(c,fv)],by simp,by rw [rowK_snoc]; simpa using q1,fun p hp=>?_⟩ q2
  have key:∀ fv' (xs:List (List UInt8)),TxR (fun g=>B ≤ g ∧ g < w.heap.size ∧ some g ≠ v.ownBlock) w fv' xs → TxR (fun g'=>B ≤ g' ∧ g' < w'.heap.size ∧ some g' ≠ (Value.slice (some ⟨g,0,none⟩) ((ps.map (·.1)).length + 1) cap).ownBlock) w' fv' xs:=fun fv' xs ht=>ht.frame fun g' hg'=>by
   refine ⟨⟨hg'.1,Nat.lt_of_lt_of_le hg'.2.1 q2.size,fun e=>?_⟩,q2.block g' hg'.2.1 hg'.2.2⟩
   simp only [Value.ownBlock,Option.some.injEq] at e
   subst e
   rcases q3 with q3 | q3
   ·exact hg'.2.2 q3.symm
   ·have:=hg'.2.1
    omega
  rcases List.mem_append.1 hp with hp | hp
  ·exact key _ _ (p3 p hp)
  ·rw [List.mem_singleton.1 hp]
   exact key _ _ hT
theorem owns_wkept {S:Nat → Prop} {w w':World} {B e sz n:Nat} {v:Value} {xs:List Value} (h:w.ownsRow B e sz v n xs) (k:Wire.Kept S w w') (hS:∀ b,B ≤ b → ¬ S b):w'.ownsRow B e sz v n xs:=by
 refine ⟨h.1,?_⟩
 rcases h.2 with hn | ⟨g,cap,cur,rfl,h2,h3,h4⟩
 ·exact .inl hn
 ·exact .inr ⟨g,cap,cur,rfl,h2,(k.block g (Array.getElem?_eq_some_iff.1 h3).1 (hS g h2)).trans h3,h4⟩
theorem CsI.wkept {S:Nat → Prop} {w w':World} {B:Nat} {v:Value} {cs:List Cs} (h:CsI B w v cs) (k:Wire.Kept S w w') (hS:∀ b,B ≤ b → ¬ S b):CsI B w' v cs:=by
 obtain ⟨ps,h1,h2,h3⟩:=h
 exact ⟨ps,h1,owns_wkept h2 k hS,fun p hp=>(h3 p hp).frame fun g hg=>⟨⟨hg.1,Nat.lt_of_lt_of_le hg.2.1 k.size,hg.2.2⟩,k.block g hg.2.1 (hS g hg.1)⟩⟩
theorem wkept_grown {w w':World} {row:Option Nat} (h:w.grownBy w' row):Wire.Kept (fun b=>row = some b) w w':=⟨h.os,h.tape,h.output,h.size,fun b hb hn=>h.block b hb (fun e=>hn e.symm)⟩
theorem wkept_below {w w':World} (h:Below w.heap.size w w'):Wire.Kept (fun _=>False) w w':=⟨h.os,h.tape,h.output,h.size,fun k hk _=>h.block k hk⟩
theorem wkept_alloc (w:World) (o:Obj):Wire.Kept (fun _=>False) w (w.alloc o):=wkept_below ((Below.refl _ _).alloc (Nat.le_refl _) _)
end Go.Proofs.YtiiepfplommmfaaGreatDoor

namespace Go.Proofs.YtiiepfplommmfaaGreatDoor
open Go.RowKit

end Go.Proofs.YtiiepfplommmfaaGreatDoor

namespace Go.Proofs.YtiiepfplommmfaaGreatDoor
open Go.RowKit

end Go.Proofs.YtiiepfplommmfaaGreatDoor

namespace Go.Proofs.YtiiepfplommmfaaGreatDoor
open Go.RowKit

theorem keep_of {S:Nat → Prop} {w w':World} (h:Wire.Kept S w w'):Kept S w w':=⟨h.os,h.tape,h.output,h.size,h.block⟩
def WB (D:Nat → Prop) (w:World) (b:Nat) (l:List Nat):Prop:=∃ g,Wire.WIs w b g l ∧ ¬ D b ∧ ¬ D g
def WP (D:Nat → Prop) (w:World) (b:Nat) (l:List Nat) (e:Ending) (w':World):Prop:=e = .returned (.tuple #[]) ∧ WB D w' b l ∧ Kept (fun k=>¬ D k) w w'
theorem WB.of {D:Nat → Prop} {w w':World} {b g g':Nat} {l:List Nat} (hD:∀ k,D k → k < w.heap.size) (hb:¬ D b) (hg:¬ D g) (h:Wire.WIs w' b g' l) (hg':g' = g ∨ w.heap.size ≤ g') (hk:Wire.Kept (fun k=>k = b ∨ k = g) w w'):WP D w b l (.returned (.tuple #[])) w':=by
 refine ⟨rfl,⟨g',h,hb,fun hd=>?_⟩,(keep_of hk).mono (fun x _ hx=>?_)⟩
 ·rcases hg' with rfl | hg'
  ·exact hg hd
  ·have:=hD g' hd
   omega
 ·rcases hx with rfl | rfl
  ·exact hb
  ·exact hg
theorem wText7 (D : Nat → Prop) (x : List UInt8) (b : Nat) (l : List Nat) (w : World) (hD : ∀ k, D k → k < w.heap.size) (hl : l.length + x.length + 10 ≤ 140737488355328) (hw : WB D w b l) :
  Calls Tryz.prog 91 #[.pointer (some ⟨b,0,none⟩),.string (str x)] w (WP D w b (l ++ txtB x)):=by
 obtain ⟨g,h,hb,hg⟩:=hw
 refine (Wire.wtext (str x) b g l w (by rw [str_size]; exact hl) h).mono ?_
 rintro e w' ⟨rfl,g',h1,h2,h3⟩
 rw [str_size,str_data,List.append_assoc] at h1
 exact WB.of hD hb hg h1 h2 h3
theorem wNum7 (D : Nat → Prop) (n : Nat) (b : Nat) (l : List Nat) (w : World) (hD : ∀ k, D k → k < w.heap.size) (hn : n < 18446744073709551616) (hl : l.length + 10 ≤ 140737488355328) (hw : WB D w b l) :
  Calls Tryz.prog 143 #[.pointer (some ⟨b,0,none⟩),.int .u64 n] w (WP D w b (l ++ Wire.enc n)):=by
 obtain ⟨g,h,hb,hg⟩:=hw
 refine (Wire.wnumber n b g l w hn hl h).mono ?_
 rintro e w' ⟨rfl,g',h1,h2,h3⟩
 exact WB.of hD hb hg h1 h2 h3
def Dx (D:Nat → Prop) (d k:Nat):Prop:=D k ∨ k = d
theorem WB.new {D:Nat → Prop} {w:World} {b:Nat} {l:List Nat} (h:WB D w b l) (o:Obj):WB (Dx D w.heap.size) (w.alloc o) b l:=by
 obtain ⟨g,h1,hb,hg⟩:=h
 have l1:=h1.lt
 have l2:=h1.gt
 exact ⟨g,h1.kept ((Wire.Kept.refl (fun _=>False) w).alloc o) (fun h=>h) (fun h=>h),fun h=>by rcases h with h | h; exact hb h; omega,fun h=>by rcases h with h | h; exact hg h; omega⟩
theorem WB.less {D E:Nat → Prop} {w:World} {b:Nat} {l:List Nat} (h:WB D w b l) (hE:∀ k,E k → D k):WB E w b l:=by
 obtain ⟨g,h1,hb,hg⟩:=h
 exact ⟨g,h1,fun h=>hb (hE _ h),fun h=>hg (hE _ h)⟩
theorem Dx.lt {D:Nat → Prop} {w:World} (hD:∀ k,D k → k < w.heap.size) (o:Obj):∀ k,Dx D w.heap.size k → k < (w.alloc o).heap.size:=by
 intro k hk
 simp
 rcases hk with h | h
 ·have:=hD k h
  omega
 ·omega
theorem Dx.kept {D:Nat → Prop} {w w':World} {o:Obj} (h:Kept (fun k=>¬ Dx D w.heap.size k) (w.alloc o) w') (hD:∀ k,D k → k < w.heap.size):Kept (fun k=>¬ D k) w w':=by
 refine ⟨h.os,h.tape,h.output,by have:=h.size; simp at this; omega,fun k hk hn=>?_⟩
 have hd:D k:=Classical.not_not.1 hn
 rw [h.block k (by simp; omega) (fun hh=>hh (.inl hd)),Below.heap_alloc _ _ _ (hD k hd)]
theorem keep_trans {D:Nat → Prop} {a b c:World} (h:Kept (fun k=>¬ D k) a b) (k:Kept (fun k=>¬ D k) b c):Kept (fun k=>¬ D k) a c:=h.trans k (fun _ _ h=>h) (fun _ _ h=>h)
theorem keep_blk {D:Nat → Prop} {w w':World} (h:Kept (fun k=>¬ D k) w w') {d:Nat} (hd:D d) (hl:d < w.heap.size):w'.heap[d]? = w.heap[d]?:=h.block d hl (fun hn=>hn hd)
theorem keep_lt {D:Nat → Prop} {w w':World} (k:Kept (fun k=>¬ D k) w w') (hD:∀ g,D g → g < w.heap.size):∀ g,D g → g < w'.heap.size:=fun g hg=>Nat.lt_of_lt_of_le (hD g hg) k.size
theorem u64_small (n:Nat) (h:n < 18446744073709551616):IntKind.u64.wrap (n:Int) = (n:Int):=by rw [IntKind.wrap_u64]; omega
end Go.Proofs.YtiiepfplommmfaaGreatDoor

namespace Go.Proofs.YtiiepfplommmfaaGreatDoor
open Go.RowKit

set_option maxRecDepth 1000000 in
theorem isKind (k:Int) (w:World):Calls Tryz.prog 169 #[.int .i64 k] w (Pu (.bool (kindE k)) w):=by
 unfold kindE
 by_cases h1:k = 1
 ·subst h1
  go_enter Tryz.func169,Tryz.ntmps169
  go_wp2
  go_ret
  exact ⟨rfl,rfl⟩
 ·by_cases h2:k = 2
  ·subst h2
   go_enter Tryz.func169,Tryz.ntmps169
   go_wp2
   go_ret
   exact ⟨rfl,rfl⟩
  ·have e1:(k == 1) = false:=by rw [beq_eq_false_iff_ne]; exact h1
   have e2:(k == 2) = false:=by rw [beq_eq_false_iff_ne]; exact h2
   rw [decide_eq_false h1,decide_eq_false h2,Bool.false_or,Bool.false_or]
   by_cases h3:k = 3
   ·subst h3
    go_enter Tryz.func169,Tryz.ntmps169
    go_wp2
    go_ret
    exact ⟨rfl,rfl⟩
   ·have e3:(k == 3) = false:=by rw [beq_eq_false_iff_ne]; exact h3
    rw [decide_eq_false h3]
    clear h1 h2 h3
    go_enter Tryz.func169,Tryz.ntmps169
    go_wp2
    go_ret
    exact ⟨rfl,rfl⟩
set_option maxHeartbeats 1000000 in
set_option maxRecDepth 1000000 in
theorem isNamed (x:It) (cv:Value) (w:World) (hn:Tk x.name):Calls Tryz.prog 170 #[itv x cv] w (BoolB (namedE x) w):=by
 obtain ⟨k,n,t,c⟩:=x
 unfold itv namedE
 unfold Tk at hn
 simp only at hn ⊢
 have hb0:Below w.heap.size w (w.alloc (.cells #[.int .i64 k,.string (str n),.string (str t),cv] 77)):=(Below.refl _ _).alloc (Nat.le_refl _) _
 have hB:=fun u=>big (str n) u (by rw [str_size]; omega)
 have hV:=fun u=>value (str n) u (by rw [str_size]; omega)
 rw [str_data] at hB hV
 by_cases h1:k = 1
 ·subst h1
  rw [if_pos rfl]
  generalize bigR n = r at *
  clear hV hn
  go_enter Tryz.func170,Tryz.ntmps170
  go_wp2_with fail
  refine (hB _).mono ?_
  rintro e w1 ⟨rfl,rfl⟩
  go_wp2
  go_ret
  exact ⟨rfl,hb0⟩
 ·have e1:(k == 1) = false:=by rw [beq_eq_false_iff_ne]; exact h1
  rw [if_neg h1]
  generalize valueR n = r at *
  clear hB hn h1
  go_enter Tryz.func170,Tryz.ntmps170
  go_wp2_with fail
  refine (hV _).mono ?_
  rintro e w1 ⟨rfl,rfl⟩
  go_wp2
  go_ret
  exact ⟨rfl,hb0⟩
theorem all_next {xs:List (List UInt8)} {k:Nat} (hk:k < xs.length) (h:(xs.take k).all rightR = true) (hr:rightR xs[k] = true):(xs.take (k + 1)).all rightR = true:=by
 rw [List.take_succ_eq_append_getElem hk,List.all_append,h,List.all_cons,hr]
 rfl
theorem all_not {xs:List (List UInt8)} {k:Nat} (hk:k < xs.length) (hr:rightR xs[k] = false):xs.all rightR = false:=by
 rw [Bool.eq_false_iff]
 intro h
 have:=List.all_eq_true.1 h _ (List.getElem_mem hk)
 rw [hr] at this
 cases this
set_option maxHeartbeats 2000000 in
set_option maxRecDepth 1000000 in
theorem allTypes (F:Nat → Prop) (v:Value) (xs:List (List UInt8)) (w:World) (h:TxR F w v xs) (hF:∀ g,F g → g < w.heap.size) (hl:xs.length ≤ 8796093022208):Calls Tryz.prog 197 #[v] w (BoolB (xs.all rightR) w):=by
 obtain ⟨va,vc,rfl⟩:=h.shape
 have H:=hidden h
 clear h
 go_enter Tryz.func197,Tryz.ntmps197
 go_wp2
 go_loopg [7] xs.length (fun g i wr=>∃ (k:Nat),g + k = xs.length ∧ i = .int .i64 (k:Int) ∧ Hid ((xs.take k).all rightR = true) ∧ Below w.heap.size w wr)
 case atStart=>exact ⟨0,by omega,rfl,by rw [hid_iff]; rfl,Below.refl _ _⟩
 case round =>
  obtain ⟨k,hg,rfl,hq,hbl⟩:=hrel
  by_cases hk:k < xs.length
  ·obtain ⟨g,o,cap,e1,hFg,q⟩:=(H.out.below hbl hF).at k hk
   simp only [Value.slice.injEq,true_and] at e1
   obtain ⟨rfl,rfl⟩:=e1
   have hki:(k:Int) < (xs.length:Int):=by omega
   have hr:=fun u=>right (str xs[k]) u
   rw [str_data] at hr
   cases hb:rightR xs[k]
   ·rw [hb] at hr
    have HF:Hid (xs.all rightR = false):=all_not hk hb
    generalize xs[k] = x at *
    clear hq hb
    go_wp2_with fail
    refine (hr _).mono ?_
    rintro e w1 ⟨rfl,hb1⟩
    go_wp2
    go_ret
    exact ⟨(by rw [HF.out]; first | done | rfl),below_trans hbl hb1⟩
   ·rw [hb] at hr
    have HQ:Hid ((xs.take (k + 1)).all rightR = true):=all_next hk hq.out hb
    generalize xs[k] = x at *
    clear hq hb
    go_wp2_with fail
    refine (hr _).mono ?_
    rintro e w1 ⟨rfl,hb1⟩
    have hb2:=below_trans hbl hb1
    go_wp2
    go_roundg (xs.length - (k + 1))
    case measure=>omega
    case rel=>exact ⟨k + 1,by omega,by go_num,HQ,hb2⟩
  ·have hki:¬ (k:Int) < (xs.length:Int):=by omega
   have HA:Hid (xs.all rightR = true):=by
    have:=hq.out
    rwa [List.take_of_length_le (by omega)] at this
   clear hq
   go_wp2
   go_ret
   exact ⟨(by rw [HA.out]; first | done | rfl),hbl⟩
set_option maxHeartbeats 1000000 in
set_option maxRecDepth 1000000 in
theorem hasCase1 (c:Cs) (fv:Value) (b:Nat) (n:List UInt8) (w:World) (hb:w.cell? ⟨b,0,none⟩ = some (.string (str n))):Calls Tryz.prog 211 #[csv c fv,.pointer (some ⟨b,0,none⟩)] w (BoolB (decide (c.1 = n)) w):=by
 obtain ⟨x,fs⟩:=c
 unfold csv
 simp only
 have hbl:=World.block_lt_of_cell? w _ hb
 have hb0:Below w.heap.size w (w.alloc (.cells #[.string (str x),fv] 203)):=(Below.refl _ _).alloc (Nat.le_refl _) _
 have he:=eq_is x n
 generalize decide (x = n) = r at *
 have hlt:b < w.heap.size:=hbl
 clear hbl
 go_enter Tryz.func211,Tryz.ntmps211
 go_wp2
 go_ret
 exact ⟨rfl,hb0⟩
def IdxB (r:Bool) (w:World) (e:Ending) (w':World):Prop:=∃ i:Int,e = .returned (.int .i64 i) ∧ decide (0 ≤ i) = r ∧ -1 ≤ i ∧ i ≤ 9223372036854775807 ∧ Below w.heap.size w w'
set_option maxHeartbeats 2000000 in
set_option maxRecDepth 1000000 in
theorem indexFunc (F : Nat → Prop) (v : Value) (cs : List Cs) (b : Nat) (n : List UInt8) (w : World) (h : CsR F w v cs) (hF : ∀ g, F g → g < w.heap.size) (hl : cs.length ≤ 3518437208883) (hb : w.cell? ⟨b, 0, none⟩ = some (.string (str n))) :
  Calls Tryz.prog 218 #[v,.func (.func 211) #[] #[.pointer (some ⟨b,0,none⟩)]] w (IdxB (cs.any (fun d=>decide (d.1 = n))) w):=by
 obtain ⟨va,vc,rfl⟩:=h.shape
 have H:=hidden h
 have HB:=hidden hb
 have hbl:b < w.heap.size:=World.block_lt_of_cell? w _ hb
 clear h hb
 go_enter Tryz.func218,Tryz.ntmps218
 go_wp2
 go_loopg [8] cs.length (fun g i wr=>∃ (k:Nat),g + k = cs.length ∧ i = .int .i64 (k:Int) ∧ Hid ((cs.take k).any (fun d=>decide (d.1 = n)) = false) ∧ Below w.heap.size w wr)
 case atStart=>exact ⟨0,by omega,rfl,by rw [hid_iff]; rfl,Below.refl _ _⟩
 case round =>
  obtain ⟨k,hg,rfl,hq,hbw⟩:=hrel
  by_cases hk:k < cs.length
  ·obtain ⟨g,o,cap,fv,e1,_,hFg,_,q0,q1⟩:=(H.out.below hbw hF).at k hk
   simp only [Value.slice.injEq,true_and] at e1
   obtain ⟨rfl,rfl⟩:=e1
   have hki:(k:Int) < (cs.length:Int):=by omega
   have hc:=hasCase1 cs[k] fv b n wr ((World.cell?_of_block (a:=⟨b,0,none⟩) (hbw.block b hbl)).trans HB.out)
   unfold csv at hc
   by_cases hx:cs[k].1 = n
   ·rw [decide_eq_true hx] at hc
    have HA:Hid (cs.any (fun d=>decide (d.1 = n)) = true):=by
     rw [hid_iff,List.any_eq_true]
     exact ⟨_,List.getElem_mem hk,decide_eq_true hx⟩
    generalize cs[k].1 = x at *
    clear hq hx
    go_wp2_with fail
    refine hc.mono ?_
    rintro e w1 ⟨rfl,hb1⟩
    have hb2:=below_trans hbw hb1
    go_wp2
    go_ret
    exact ⟨(k:Int),rfl,by rw [HA.out]; exact decide_eq_true (by omega),by omega,by omega,hb2⟩
   ·rw [decide_eq_false hx] at hc
    have HQ:Hid ((cs.take (k + 1)).any (fun d=>decide (d.1 = n)) = false):=by
     rw [hid_iff,List.take_succ_eq_append_getElem hk,List.any_append,hq.out,List.any_cons,decide_eq_false hx]
     rfl
    generalize cs[k].1 = x at *
    clear hq hx
    go_wp2_with fail
    refine hc.mono ?_
    rintro e w1 ⟨rfl,hb1⟩
    have hb2:=below_trans hbw hb1
    go_wp2
    go_roundg (cs.length - (k + 1))
    case measure=>omega
    case rel=>exact ⟨k + 1,by omega,by go_num,HQ,hb2⟩
  ·have hki:¬ (k:Int) < (cs.length:Int):=by omega
   have HA:Hid (cs.any (fun d=>decide (d.1 = n)) = false):=by
    have:=hq.out
    rwa [List.take_of_length_le (by omega)] at this
   clear hq
   go_wp2
   go_ret
   exact ⟨-1,rfl,(by rw [HA.out]; first | done | rfl),by omega,by omega,hbw⟩
set_option maxHeartbeats 1000000 in
set_option maxRecDepth 1000000 in
theorem containsFunc (F : Nat → Prop) (v : Value) (cs : List Cs) (b : Nat) (n : List UInt8) (w : World) (h : CsR F w v cs) (hF : ∀ g, F g → g < w.heap.size) (hl : cs.length ≤ 3518437208883) (hb : w.cell? ⟨b, 0, none⟩ = some (.string (str n))) :
  Calls Tryz.prog 210 #[v,.func (.func 211) #[] #[.pointer (some ⟨b,0,none⟩)]] w (BoolB (cs.any (fun d=>decide (d.1 = n))) w):=by
 have hi:=indexFunc F v cs b n w h hF hl hb
 obtain ⟨va,vc,rfl⟩:=h.shape
 generalize cs.any (fun d=>decide (d.1 = n)) = r at *
 clear h hF hb
 go_enter Tryz.func210,Tryz.ntmps210
 go_wp2_with fail
 refine hi.mono ?_
 rintro e w1 ⟨i,rfl,hr,hi1,hi2,hb1⟩
 go_wp2
 go_ret
 exact ⟨(by rw [← hr]; first | done | rfl),hb1⟩
set_option maxHeartbeats 1000000 in
set_option maxRecDepth 1000000 in
theorem hasCase (F : Nat → Prop) (v : Value) (cs : List Cs) (n : List UInt8) (w : World) (h : CsR F w v cs) (hF : ∀ g, F g → g < w.heap.size) (hl : cs.length ≤ 3518437208883) :
  Calls Tryz.prog 196 #[v,.string (str n)] w (BoolB (cs.any (fun d=>decide (d.1 = n))) w):=by
 have hb0:Below w.heap.size w (w.alloc (.cells #[.string (str n)] 9)):=(Below.refl _ _).alloc (Nat.le_refl _) _
 have hc:=cells_new w [.string (str n)] 9 0 _ rfl
 rw [add_at] at hc
 have hi:=containsFunc F v cs w.heap.size n _ (h.below hb0 hF) (fun g hg=>by have:=hF g hg; simp; omega) hl hc
 obtain ⟨va,vc,rfl⟩:=h.shape
 generalize cs.any (fun d=>decide (d.1 = n)) = r at *
 clear h hF hc
 go_enter Tryz.func196,Tryz.ntmps196
 go_wp2_with fail
 refine hi.mono ?_
 rintro e w1 ⟨rfl,hb1⟩
 have hb2:=below_trans hb0 hb1
 go_wp2
 go_ret
 exact ⟨rfl,hb2⟩
set_option maxHeartbeats 1000000 in
set_option maxRecDepth 1000000 in
theorem isFunction (s:List UInt8) (w:World):Calls Tryz.prog 195 #[.string (str s)] w (BoolB (isFnT s) w):=by
 have hp:=partsOf (str s) w
 unfold PartsE at hp
 rw [str_data] at hp
 go_enter Tryz.func195,Tryz.ntmps195
 go_wp2_with fail
 refine hp.mono ?_
 rintro e w1 ⟨⟨h1,v,rfl,hv⟩ | ⟨h1,rfl⟩,hb⟩
 ·obtain ⟨va,vc,rfl⟩:=hv.shape
  have H1:Hid (isFnT s = true):=h1
  clear h1 hv hp
  go_wp2
  go_ret
  exact ⟨(by rw [H1.out]; first | done | rfl),hb⟩
 ·have H1:Hid (isFnT s = false):=h1
  clear h1 hp
  go_wp2
  go_ret
  exact ⟨(by rw [H1.out]; first | done | rfl),hb⟩
set_option maxHeartbeats 2000000 in
set_option maxRecDepth 1000000 in
theorem rightValue (F:Nat → Prop) (x:It) (cv:Value) (w:World) (h:CsR F w cv x.cases) (ht:Tk x.ty):Calls Tryz.prog 171 #[itv x cv] w (NumB (valueE x) w):=by
 obtain ⟨k,n,t,c⟩:=x
 obtain ⟨va,vc,rfl⟩:=h.shape
 unfold itv valueE
 simp only at ht ⊢
 have hb0:Below w.heap.size w (w.alloc (.cells #[.int .i64 k,.string (str n),.string (str t),.slice va c.length vc] 77)):=(Below.refl _ _).alloc (Nat.le_refl _) _
 have hR:=fun u=>right (str t) u
 have hI:=fun u=>isFunction t u
 rw [str_data] at hR
 clear h ht
 by_cases hc:0 < c.length
 ·rw [if_pos hc]
  have hci:(0:Int) < (c.length:Int):=by omega
  clear hR hI
  go_enter Tryz.func171,Tryz.ntmps171
  go_wp2
  go_ret
  exact ⟨rfl,hb0⟩
 ·rw [if_neg hc]
  have hci:¬ (0:Int) < (c.length:Int):=by omega
  cases hr:rightR t
  ·rw [hr] at hR
   rw [if_pos rfl]
   clear hI hr
   go_enter Tryz.func171,Tryz.ntmps171
   go_wp2_with fail
   refine (hR _).mono ?_
   rintro e w1 ⟨rfl,hb1⟩
   have hb2:=below_trans hb0 hb1
   go_wp2
   go_ret
   exact ⟨rfl,hb2⟩
  ·rw [hr] at hR
   rw [if_neg (by simp)]
   have q0:∀ u,Below (w.alloc (.cells #[.int .i64 k,.string (str n),.string (str t),.slice va c.length vc] 77)).heap.size (w.alloc (.cells #[.int .i64 k,.string (str n),.string (str t),.slice va c.length vc] 77)) u → u.cell? ⟨w.heap.size,0,none⟩ = some (.int .i64 k) ∧ u.cell? ⟨w.heap.size,2,none⟩ = some (.string (str t)):=by
    intro u hu
    have hn:=(hu.block w.heap.size (by simp)).trans (heap_alloc_new w (.cells #[.int .i64 k,.string (str n),.string (str t),.slice va c.length vc] 77))
    exact ⟨by rw [cell_of_row u _ 0 _ _ _ hn]; rfl,by rw [cell_of_row u _ 2 _ _ _ hn]; rfl⟩
   clear hr
   by_cases hk:k = 3
   ·subst hk
    cases hf:isFnT t
    ·rw [hf] at hI
     rw [if_pos ⟨rfl,rfl⟩]
     clear hf
     go_enter Tryz.func171,Tryz.ntmps171
     go_wp2_with fail
     refine (hR _).mono ?_
     rintro e w1 ⟨rfl,hb1⟩
     obtain ⟨y0,y2⟩:=q0 w1 hb1
     have hb2:=below_trans hb0 hb1
     go_wp2_with fail
     refine (hI _).mono ?_
     rintro e w3 ⟨rfl,hb3⟩
     have hb4:=below_trans hb2 hb3
     go_wp2
     go_ret
     exact ⟨rfl,hb4⟩
    ·rw [hf] at hI
     rw [if_neg (by simp)]
     clear hf
     go_enter Tryz.func171,Tryz.ntmps171
     go_wp2_with fail
     refine (hR _).mono ?_
     rintro e w1 ⟨rfl,hb1⟩
     obtain ⟨y0,y2⟩:=q0 w1 hb1
     have hb2:=below_trans hb0 hb1
     go_wp2_with fail
     refine (hI _).mono ?_
     rintro e w3 ⟨rfl,hb3⟩
     have hb4:=below_trans hb2 hb3
     go_wp2
     go_ret
     exact ⟨rfl,hb4⟩
   ·have ek:(k == 3) = false:=by rw [beq_eq_false_iff_ne]; exact hk
    rw [if_neg (fun h=>hk h.1)]
    clear hk hI
    go_enter Tryz.func171,Tryz.ntmps171
    go_wp2_with fail
    refine (hR _).mono ?_
    rintro e w1 ⟨rfl,hb1⟩
    obtain ⟨y0,y2⟩:=q0 w1 hb1
    have hb2:=below_trans hb0 hb1
    go_wp2
    go_ret
    exact ⟨rfl,hb2⟩
end Go.Proofs.YtiiepfplommmfaaGreatDoor

namespace Go.Proofs.YtiiepfplommmfaaGreatDoor
open Go.RowKit

theorem below_drew {H:Nat} {w w1:World} (h:Below H w w1):Below H w w1.drew:=⟨h.os,h.tape,h.output,h.size,h.block⟩
theorem below_undrew {w w1:World} (h:Below w.drew.heap.size w.drew w1):Below w.heap.size w w1:=⟨h.os,h.tape,h.output,h.size,h.block⟩
set_option maxHeartbeats 4000000 in
set_option maxRecDepth 1000000 in
theorem rightCase (F : Nat → Prop) (v : Value) (cs : List Cs) (i : Nat) (w : World) (h : CsR F w v cs) (hF : ∀ g, F g → g < w.heap.size) (hl : cs.length ≤ 3518437208883) (hok : ∀ c ∈ cs, CsOk c) (hi : i < cs.length) :
  Calls Tryz.prog 172 #[v,.int .i64 (i:Int)] w (NumB (caseE (cs.take i) cs[i]) w):=by
 obtain ⟨g,o,cap,fv,rfl,hcap,hFg,hT,q0,q1⟩:=h.at i hi
 have hc:=hok _ (List.getElem_mem hi)
 obtain ⟨hc1,hc2,hc3⟩:=hc
 obtain ⟨fa,fc,rfl⟩:=hT.shape
 have hHT:=CsR.take h hFg hcap i (by omega)
 have hlt:(cs.take i).length ≤ 3518437208883:=by rw [List.length_take]; omega
 have i0:(0:Int) ≤ (i:Int):=by omega
 have i1:(i:Int) < (cs.length:Int):=by omega
 have i2:(i:Int) ≤ (cap:Int):=by omega
 have i3:(i:Int) ≤ (cs.length:Int):=by omega
 generalize hn:cs[i].1 = n at *
 generalize hfs:cs[i].2 = fs at *
 have HE:Hid (caseE (cs.take i) cs[i] = if bigR n = false then 13 else if (cs.take i).any (fun d=>decide (d.1 = n)) = true then 13 else if 4 < fs.length then 19 else if fs.all rightR = true then 0 else 17):=by
  rw [hid_iff, ← hn, ← hfs]
  rfl
 have hb0:Below w.heap.size w (w.alloc (.cells #[.string (str n),.slice fa fs.length fc] 203)):=(Below.refl _ _).alloc (Nat.le_refl _) _
 have hN:=heap_alloc_new w (.cells #[.string (str n),.slice fa fs.length fc] 203)
 have hB:=fun u=>big (str n) u (by rw [str_size]; unfold Tk at hc1; omega)
 rw [str_data] at hB
 have hH:∀ u,Below w.heap.size w u → Calls Tryz.prog 196 #[.slice (some ⟨g,o,none⟩) i cap,.string (str n)] u (BoolB ((cs.take i).any (fun d=>decide (d.1 = n))) u):=fun u hu =>
  hasCase F _ (cs.take i) n u (hHT.below hu hF) (fun g hg=>Nat.lt_of_lt_of_le (hF g hg) hu.size) hlt
 have hA:∀ u,Below w.heap.size w u → Calls Tryz.prog 197 #[.slice fa fs.length fc] u (BoolB (fs.all rightR) u):=fun u hu =>
  allTypes F _ fs u (hT.below hu hF) (fun g hg=>Nat.lt_of_lt_of_le (hF g hg) hu.size) hc2
 generalize (cs.take i).any (fun d=>decide (d.1 = n)) = an at *
 generalize fs.all rightR = al at *
 have hQ:∀ u,Below (w.alloc (.cells #[.string (str n),.slice fa fs.length fc] 203)).heap.size (w.alloc (.cells #[.string (str n),.slice fa fs.length fc] 203)) u → u.cell? ⟨w.heap.size,1,none⟩ = some (.slice fa fs.length fc):=fun u hu=>by
  have hn:=(hu.block w.heap.size (by simp)).trans hN
  rw [cell_of_row u _ 1 _ _ _ hn]
  rfl
 clear h hT hHT hok hc1 hc3 hlt hn hfs hN
 cases hbg:bigR n
 ·rw [hbg] at hB
  have HV:Hid (caseE (cs.take i) cs[i] = 13):=by rw [hid_iff,HE.out,if_pos hbg]
  clear hH hA hQ hbg HE
  go_enter Tryz.func172,Tryz.ntmps172
  go_wp2_with fail
  refine (hB _).mono ?_
  rintro e w1 ⟨rfl,hw1⟩
  obtain rfl:=hw1.symm
  go_wp2
  go_ret
  exact ⟨(by rw [HV.out]; rfl),hb0⟩
 ·rw [hbg] at hB
  have HE2:=HE.out
  rw [if_neg (by rw [hbg]; simp)] at HE2
  have HE3:=hidden HE2
  clear hbg HE HE2
  go_enter Tryz.func172,Tryz.ntmps172
  go_wp2_with fail
  refine (hB _).mono ?_
  rintro e w1 ⟨rfl,hw1⟩
  obtain rfl:=hw1.symm
  go_wp2_with fail
  go_cut [10] from 15 to 20 (fun c wx=>c = .bool an ∧ Below (w.alloc (.cells #[.string (str n),.slice fa fs.length fc] 203)).heap.size (w.alloc (.cells #[.string (str n),.slice fa fs.length fc] 203)) wx)
  case first =>
   go_region_with (go_at_call 196; refine (hH _ (by first | exact below_drew hb0 | exact hb0)).mono ?_; rintro e w2 ⟨rfl,hb2⟩)
   all_goals (
    go_wp2_with fail
    go_meet
    exact ⟨rfl,below_undrew hb2⟩)
  case rest =>
   obtain ⟨rfl,hb3⟩:=hcut
   have hb4:=below_trans hb0 hb3
   have y1:=hQ _ hb3
   clear hb3 hQ hB hH
   cases an
   ·by_cases h4:4 < fs.length
    ·have HV:Hid (caseE (cs.take i) cs[i] = 19):=by rw [hid_iff,HE3.out,if_neg (by simp),if_pos h4]
     have h4i:(4:Int) < (fs.length:Int):=by omega
     clear hA HE3
     go_wp2
     go_ret
     exact ⟨(by rw [HV.out]; rfl),hb4⟩
    ·have h4i:¬ (4:Int) < (fs.length:Int):=by omega
     have hA2:=hA _ hb4
     clear hA
     go_wp2_with fail
     refine hA2.mono ?_
     rintro e w5 ⟨rfl,hb5⟩
     have hb6:=below_trans hb4 hb5
     clear hA2
     cases al
     ·have HV:Hid (caseE (cs.take i) cs[i] = 17):=by rw [hid_iff,HE3.out,if_neg (by simp),if_neg h4,if_neg (by simp)]
      clear HE3
      go_wp2
      go_ret
      exact ⟨(by rw [HV.out]; rfl),hb6⟩
     ·have HV:Hid (caseE (cs.take i) cs[i] = 0):=by rw [hid_iff,HE3.out,if_neg (by simp),if_neg h4,if_pos rfl]
      clear HE3
      go_wp2
      go_ret
      exact ⟨(by rw [HV.out]; rfl),hb6⟩
   ·have HV:Hid (caseE (cs.take i) cs[i] = 13):=by rw [hid_iff,HE3.out,if_pos rfl]
    clear hA HE3
    go_wp2
    go_ret
    exact ⟨(by rw [HV.out]; rfl),hb4⟩
end Go.Proofs.YtiiepfplommmfaaGreatDoor
