/-
  Interfaces in memory: cases, items; what they are as values.
  And: Interfaces and texts that are handed in: what they are in memory; how long they can be. The listed tables: a start that fits; whole numbers that are handed in. Chapter 14 as functions: objects, what is refused of them first, and its number. No program in it. Objects in memory: globals, functions, symbols, relocations in rows; what they are as values.
-/
import Derived.Test.YtiiepfplommmfaaGreatDoorG01
import Derived.Test.YtiiepfplommmfaaGreatDoorG03
import Derived.ProofKit
import Derived.OpenShut
import Derived.SliceStrings
import Derived.Deep.Slices
import Derived.Lib.SmallJoins
import Derived.SizedLaws
import Derived.ChangeArms
import Derived.Test.YtiiepfplommmfaaGreatDoorRows
import Derived.Test.YtiiepfplommmfaaGreatDoorCards
import Derived.Test.YtiiepfplommmfaaGreatDoorTie
import Derived.LaidMore
import Derived.Stop.Joined
import Derived.Stop.LaidErr
import Derived.Lib.LaidTab
import Derived.MakeChecks
import Derived.ChangeShapes
import Derived.WideShapes
import Derived.Lib.ItoaNum
namespace Go.Proofs.YtiiepfplommmfaaGreatDoor
open Go.RowKit

def Tk (x:List UInt8):Prop:=x.length ≤ 140737488355328
def CsOk (c:Cs):Prop:=Tk c.1 ∧ c.2.length ≤ 8796093022208 ∧ ∀ f ∈ c.2,Tk f
def ItOk (x:It):Prop := -9223372036854775808 ≤ x.kind ∧ x.kind ≤ 9223372036854775807 ∧ Tk x.name ∧ Tk x.ty ∧ x.cases.length ≤ 3518437208883 ∧ ∀ c ∈ x.cases,CsOk c
def CsR (F:Nat → Prop) (w:World) (v:Value) (cs:List Cs):Prop :=
 (∃ a c,v = .slice a 0 c ∧ cs = []) ∨ ∃ g o cap,v = .slice (some ⟨g,o,none⟩) cs.length cap ∧ cs.length ≤ cap ∧ F g ∧ ∀ (j:Nat) x,cs[j]? = some x → ∃ fv,TxR F w fv x.2 ∧ w.cell? ⟨g,o + j * 2,none⟩ = some (.string (str x.1)) ∧ w.cell? ⟨g,o + j * 2 + 1,none⟩ = some fv
theorem CsR.frame {F G:Nat → Prop} {w w':World} (hF:∀ g,F g → G g ∧ w'.heap[g]? = w.heap[g]?) {v:Value} {cs:List Cs} (h:CsR F w v cs):CsR G w' v cs:=by
 rcases h with h | ⟨g,o,cap,h1,h1',h2,h3⟩
 ·exact .inl h
 ·refine .inr ⟨g,o,cap,h1,h1',(hF g h2).1,fun j x hj=>?_⟩
  obtain ⟨fv,h4,h5,h6⟩:=h3 j x hj
  exact ⟨fv,h4.frame hF,by rw [World.cell?_of_block (w:=w) (hF g h2).2]; exact h5,by rw [World.cell?_of_block (w:=w) (hF g h2).2]; exact h6⟩
theorem CsR.shape {F:Nat → Prop} {w:World} {v:Value} {cs:List Cs} (h:CsR F w v cs):∃ a c,v = .slice a cs.length c:=by
 rcases h with ⟨a,c,rfl,rfl⟩ | ⟨g,o,cap,rfl,_⟩
 ·exact ⟨a,c,rfl⟩
 ·exact ⟨_,_,rfl⟩
theorem CsR.nil (F:Nat → Prop) (w:World):CsR F w (.slice none 0 0) [] := .inl ⟨none,0,rfl,rfl⟩
theorem CsR.at {F:Nat → Prop} {w:World} {v:Value} {cs:List Cs} (h:CsR F w v cs) (i:Nat) (hi:i < cs.length):∃ g o cap fv,v = .slice (some ⟨g,o,none⟩) cs.length cap ∧ cs.length ≤ cap ∧ F g ∧ TxR F w fv cs[i].2 ∧ w.cell? ⟨g,o + i * 2,none⟩ = some (.string (str cs[i].1)) ∧ w.cell? ⟨g,o + i * 2 + 1,none⟩ = some fv:=by
 rcases h with ⟨a,c,rfl,rfl⟩ | ⟨g,o,cap,rfl,hc,hg,h⟩
 ·simp at hi
 ·obtain ⟨fv,h1,h2,h3⟩:=h i _ (List.getElem?_eq_getElem hi)
  exact ⟨g,o,cap,fv,rfl,hc,hg,h1,h2,h3⟩
theorem CsR.take {F:Nat → Prop} {w:World} {g o cap:Nat} {cs:List Cs} (h:CsR F w (.slice (some ⟨g,o,none⟩) cs.length cap) cs) (_hF:F g) (_hc:cs.length ≤ cap) (n:Nat) (hn:n ≤ cs.length):CsR F w (.slice (some ⟨g,o,none⟩) n cap) (cs.take n):=by
 rcases h with ⟨a,c,h1,rfl⟩ | ⟨g',o',cap',h1,h1',h2,h3⟩
 ·simp at hn
  subst hn
  exact .inl ⟨_,cap,rfl,rfl⟩
 ·simp only [Value.slice.injEq,Option.some.injEq,Addr.mk.injEq,and_true,true_and] at h1
  obtain ⟨⟨rfl,rfl⟩,rfl⟩:=h1
  refine .inr ⟨g,o,cap,by rw [List.length_take,Nat.min_eq_left hn],by rw [List.length_take,Nat.min_eq_left hn]; omega,h2,fun j x hj=>h3 j x ?_⟩
  rw [List.getElem?_take] at hj
  split at hj
  ·exact hj
  ·cases hj
def ItR (F:Nat → Prop) (w:World) (v:Value) (l:List It):Prop :=
 (∃ a c,v = .slice a 0 c ∧ l = []) ∨ ∃ g o cap,v = .slice (some ⟨g,o,none⟩) l.length cap ∧ l.length ≤ cap ∧ F g ∧ ∀ (j:Nat) x,l[j]? = some x → ∃ cv,CsR F w cv x.cases ∧ w.cell? ⟨g,o + j * 4,none⟩ = some (.int .i64 x.kind) ∧ w.cell? ⟨g,o + j * 4 + 1,none⟩ = some (.string (str x.name)) ∧ w.cell? ⟨g,o + j * 4 + 2,none⟩ = some (.string (str x.ty)) ∧ w.cell? ⟨g,o + j * 4 + 3,none⟩ = some cv
theorem ItR.frame {F G:Nat → Prop} {w w':World} (hF:∀ g,F g → G g ∧ w'.heap[g]? = w.heap[g]?) {v:Value} {l:List It} (h:ItR F w v l):ItR G w' v l:=by
 rcases h with h | ⟨g,o,cap,h1,h1',h2,h3⟩
 ·exact .inl h
 ·refine .inr ⟨g,o,cap,h1,h1',(hF g h2).1,fun j x hj=>?_⟩
  obtain ⟨cv,h4,h5,h6,h7,h8⟩:=h3 j x hj
  have hb:=(hF g h2).2
  exact ⟨cv,h4.frame hF,(World.cell?_of_block (a:=⟨g,o + j * 4,none⟩) hb).trans h5,(World.cell?_of_block (a:=⟨g,o + j * 4 + 1,none⟩) hb).trans h6,(World.cell?_of_block (a:=⟨g,o + j * 4 + 2,none⟩) hb).trans h7,(World.cell?_of_block (a:=⟨g,o + j * 4 + 3,none⟩) hb).trans h8⟩
theorem ItR.shape {F:Nat → Prop} {w:World} {v:Value} {l:List It} (h:ItR F w v l):∃ a c,v = .slice a l.length c:=by
 rcases h with ⟨a,c,rfl,rfl⟩ | ⟨g,o,cap,rfl,_⟩
 ·exact ⟨a,c,rfl⟩
 ·exact ⟨_,_,rfl⟩
theorem ItR.nil (F:Nat → Prop) (w:World):ItR F w (.slice none 0 0) [] := .inl ⟨none,0,rfl,rfl⟩
theorem ItR.at {F:Nat → Prop} {w:World} {v:Value} {l:List It} (h:ItR F w v l) (i:Nat) (hi:i < l.length):∃ g o cap cv,v = .slice (some ⟨g,o,none⟩) l.length cap ∧ F g ∧ CsR F w cv l[i].cases ∧ w.cell? ⟨g,o + i * 4,none⟩ = some (.int .i64 l[i].kind) ∧ w.cell? ⟨g,o + i * 4 + 1,none⟩ = some (.string (str l[i].name)) ∧ w.cell? ⟨g,o + i * 4 + 2,none⟩ = some (.string (str l[i].ty)) ∧ w.cell? ⟨g,o + i * 4 + 3,none⟩ = some cv:=by
 rcases h with ⟨a,c,rfl,rfl⟩ | ⟨g,o,cap,rfl,_,hg,h⟩
 ·simp at hi
 ·obtain ⟨cv,h1,h2⟩:=h i _ (List.getElem?_eq_getElem hi)
  exact ⟨g,o,cap,cv,rfl,hg,h1,h2⟩
theorem TxR.below {F:Nat → Prop} {H:Nat} {w w':World} {v:Value} {xs:List (List UInt8)} (h:TxR F w v xs) (hb:Below H w w') (hF:∀ g,F g → g < H):TxR F w' v xs:=h.frame fun g hg=>⟨hg,hb.block g (hF g hg)⟩
theorem CsR.below {F:Nat → Prop} {H:Nat} {w w':World} {v:Value} {xs:List Cs} (h:CsR F w v xs) (hb:Below H w w') (hF:∀ g,F g → g < H):CsR F w' v xs:=h.frame fun g hg=>⟨hg,hb.block g (hF g hg)⟩
theorem ItR.below {F:Nat → Prop} {H:Nat} {w w':World} {v:Value} {xs:List It} (h:ItR F w v xs) (hb:Below H w w') (hF:∀ g,F g → g < H):ItR F w' v xs:=h.frame fun g hg=>⟨hg,hb.block g (hF g hg)⟩
theorem TxR.at {F:Nat → Prop} {w:World} {v:Value} {xs:List (List UInt8)} (h:TxR F w v xs) (i:Nat) (hi:i < xs.length):∃ g o cap,v = .slice (some ⟨g,o,none⟩) xs.length cap ∧ F g ∧ w.cell? ⟨g,o + i,none⟩ = some (.string (str xs[i])):=by
 rcases h with ⟨a,c,rfl,rfl⟩ | ⟨g,o,cap,rfl,hg,h⟩
 ·simp at hi
 ·exact ⟨g,o,cap,rfl,hg,h i _ (List.getElem?_eq_getElem hi)⟩
theorem cell_more {w:World} {a:Addr} {v:Value} (h:w.cell? a = some v) (o:Obj):(w.alloc o).cell? a = some v:=(World.cell?_of_block (Below.heap_alloc _ _ _ (World.block_lt_of_cell? w a h))).trans h
def csv (c:Cs) (fv:Value):Value := .agg #[.string (str c.1),fv]
def itv (x:It) (cv:Value):Value := .agg #[.int .i64 x.kind,.string (str x.name),.string (str x.ty),cv]
def NumB (n:Nat) (w:World) (e:Ending) (w':World):Prop:=e = .returned (.int .i64 (n:Int)) ∧ Below w.heap.size w w'
end Go.Proofs.YtiiepfplommmfaaGreatDoor

namespace Go.Proofs.YtiiepfplommmfaaGreatDoor
open Go.ChangeShapes Go.WideShapes Go.ChangeAt Go.RowKit Go.Deep

def WOk {H:Type} (t:TypeId) (d:DataW H):Prop:=∀ n ∈ d.weights Tryz.prog t,n ≤ reachBytes
theorem reach_is:reachBytes = 140737488351232:=by decide
theorem w_all {H:Type} {e:TypeId}:∀ {l:List (DataW H)} {d:DataW H},d ∈ l → ∀ n ∈ d.weights Tryz.prog e,n ∈ DataW.weightsAll Tryz.prog e l
 | d0 :: r,d,hd,n,hn=>by
  rw [DataW.weightsAll,List.mem_append]
  rcases List.mem_cons.1 hd with rfl | hd
  ·exact .inl hn
  ·exact .inr (w_all hd n hn)
theorem w_slice {H:Type} {t e:TypeId} {elems spare:List (DataW H)} (hu:Tryz.prog.underlying t = some (.slice e)) (h:WOk t (.slice elems spare)):(elems.length + spare.length) * Tryz.prog.bytesOf e ≤ reachBytes ∧ ∀ d ∈ elems,WOk e d:=by
 unfold WOk at h
 simp only [DataW.weights,hu] at h
 exact ⟨h _ (List.mem_cons_self ..),fun d hd n hn=>h n (List.mem_cons_of_mem _ (List.mem_append_left _ (w_all hd n hn)))⟩
theorem w_two {H:Type} {t:TypeId} {f0 f1:Field} {d0 d1:DataW H} (hu:Tryz.prog.underlying t = some (.struct #[f0,f1])) (h:WOk t (.agg [d0,d1])):WOk f0.type d0 ∧ WOk f1.type d1:=by
 unfold WOk at h
 simp only [DataW.weights,hu,List.map_cons,List.map_nil,DataW.weightsEach,List.append_nil,List.mem_append] at h
 exact ⟨fun n hn=>h n (.inl hn),fun n hn=>h n (.inr hn)⟩
theorem w_four {H:Type} {t:TypeId} {f0 f1 f2 f3:Field} {d0 d1 d2 d3:DataW H} (hu:Tryz.prog.underlying t = some (.struct #[f0,f1,f2,f3])) (h:WOk t (.agg [d0,d1,d2,d3])):WOk f1.type d1 ∧ WOk f2.type d2 ∧ WOk f3.type d3:=by
 unfold WOk at h
 simp only [DataW.weights,hu,List.map_cons,List.map_nil,DataW.weightsEach,List.append_nil,List.mem_append] at h
 exact ⟨fun n hn=>h n (.inr (.inl hn)),fun n hn=>h n (.inr (.inr (.inl hn))),fun n hn=>h n (.inr (.inr (.inr hn)))⟩
theorem w_str {H:Type} {t:TypeId} {b:List UInt8} (h:WOk (H:=H) t (.lit (.string b))):Tk b:=by
 have:=h b.length (by simp [DataW.weights])
 rw [reach_is] at this
 unfold Tk
 omega
theorem add_none (ab ao j:Nat):(⟨ab,ao,none⟩:Addr).add j = ⟨ab,ao + j,none⟩:=by
 by_cases h0:j = 0
 ·subst h0; simp [Addr.add]
 ·simp [Addr.add,h0]
theorem str_list (s:ByteArray):str s.data.toList = s:=by
 cases s
 simp [str]
theorem spot_none {W:World} {ab ao:Nat} {asp} {v:Value} (h:W.cell? ((⟨ab,ao,asp⟩:Addr).add 0) = some v):asp = none:=by
 simpa [Addr.add] using World.cell?_spot h
theorem texts_open {H : Type} {enc : TypeId × Value → H} {W : World} {fuel : Nat} {a0 : Option Addr} {len0 cap0 : Nat} {x : DataW H × List MemPlace} (hf : DataW.trod enc Tryz.prog W 0 (fun _ => true) true fuel 23 [.slice a0 len0 cap0] = some x) (hw : WOk 23 x.1) :
  ∃ xs:List (List UInt8),xs.length = len0 ∧ TxR (fun g=>g < W.heap.size) W (.slice a0 len0 cap0) xs ∧ xs.length ≤ 8796093022208 ∧ ∀ y ∈ xs,Tk y:=by
 rcases open_slice1 Tryz.underlying23 (by kernel_rfl) hf with ⟨hcs,_⟩ | ⟨a,len,cap,m,n,V,D,Pl,hcs,hb,hl,hm,hmm,rfl,hx⟩
 ·simp only [List.cons.injEq,Value.slice.injEq,and_true] at hcs
  obtain ⟨rfl,rfl,rfl⟩:=hcs
  exact ⟨[],rfl,.inl ⟨_,_,rfl,rfl⟩,by simp,by simp⟩
 ·simp only [List.cons.injEq,Value.slice.injEq,and_true] at hcs
  obtain ⟨rfl,rfl,rfl⟩:=hcs
  simp only [if_true] at hmm
  obtain ⟨w1,w2⟩:=w_slice Tryz.underlying23 hw
  have key:∀ i,i < len0 → ∃ s:ByteArray,W.cell? (a.add i) = some (.string s) ∧ D i = .lit (.string s.data.toList):=fun i hi=>by
   obtain ⟨h1,h2⟩:=hx i (by omega)
   obtain ⟨s,hs,hd,_⟩:=DataW.trod_string Tryz.underlying9 h2
   simp only [List.cons.injEq,and_true] at hs
   simp only [Prod.mk.injEq] at hd
   exact ⟨s,by rw [h1,hs],hd.1⟩
  obtain ⟨S,hS⟩:=choose_lt key
  refine ⟨(List.range len0).map (fun i=>(S i).data.toList),by simp,?_,?_,?_⟩
  ·by_cases h0:len0 = 0
   ·subst h0
    exact .inl ⟨_,_,rfl,rfl⟩
   ·obtain ⟨ab,ao,asp⟩:=a
    obtain rfl:=spot_none (hS 0 (by omega)).1
    have h00:=(hS 0 (by omega)).1
    rw [add_none] at h00
    refine .inr ⟨ab,ao,cap0,by simp,World.block_lt_of_cell? W _ h00,fun j y hj=>?_⟩
    obtain ⟨hj1,rfl⟩:=List.getElem?_eq_some_iff.1 hj
    simp only [List.length_map,List.length_range] at hj1
    rw [← add_none,(hS j hj1).1]
    simp [str_list]
  ·have hby:Tryz.prog.bytesOf 9 = 16:=by kernel_rfl
   rw [hby,reach_is] at w1
   simp only [List.length_map,List.length_range] at w1 ⊢
   omega
  ·intro y hy
   obtain ⟨i,hi,rfl⟩:=List.mem_map.1 hy
   have:=w2 (D i) (List.mem_map.2 ⟨i,hi,rfl⟩)
   rw [(hS i (List.mem_range.1 hi)).2] at this
   exact w_str this
theorem cases_open {H : Type} {enc : TypeId × Value → H} {W : World} {fuel : Nat} {a0 : Option Addr} {len0 cap0 : Nat} {x : DataW H × List MemPlace} (hf : DataW.trod enc Tryz.prog W 0 (fun _ => true) true fuel 75 [.slice a0 len0 cap0] = some x) (hw : WOk 75 x.1) :
  ∃ cs:List Cs,cs.length = len0 ∧ CsR (fun g=>g < W.heap.size) W (.slice a0 len0 cap0) cs ∧ cs.length ≤ 3518437208883 ∧ ∀ c ∈ cs,CsOk c:=by
 have hc2:Tryz.prog.cellsOf 203 = 2:=by kernel_rfl
 have hc1:Tryz.prog.cellsOf 9 = 1:=by kernel_rfl
 have hc1':Tryz.prog.cellsOf 23 = 1:=by kernel_rfl
 rcases open_slice Tryz.underlying75 hf with ⟨hcs,_⟩ | ⟨a,len,cap,m,n,D,Pl,hcs,hb,hl,hm,hmm,rfl,hx⟩
 ·simp only [List.cons.injEq,Value.slice.injEq,and_true] at hcs
  obtain ⟨rfl,rfl,rfl⟩:=hcs
  exact ⟨[],rfl,.inl ⟨_,_,rfl,rfl⟩,by simp,by simp⟩
 ·simp only [List.cons.injEq,Value.slice.injEq,and_true] at hcs
  obtain ⟨rfl,rfl,rfl⟩:=hcs
  simp only [if_true] at hmm
  obtain ⟨w1,w2⟩:=w_slice Tryz.underlying75 hw
  rw [hc2] at hx
  have key:∀ i,i < len0 → ∃ c:Cs × Value,W.cell? (a.add (i * 2)) = some (.string (str c.1.1)) ∧ W.cell? ((a.add (i * 2)).add 1) = some c.2 ∧ TxR (fun g=>g < W.heap.size) W c.2 c.1.2 ∧ CsOk c.1:=fun i hi=>by
   obtain ⟨cs',h1,h2⟩:=hx i (by omega)
   obtain ⟨_,hl2,hcell⟩:=World.cells?_some h1
   obtain ⟨c0,c1,rfl⟩:∃ c0 c1,cs' = [c0,c1]:=by
    match cs',hl2 with
    | [c0,c1],_=>exact ⟨c0,c1,rfl⟩
   obtain ⟨y0,y1,n',hxx,_,t0,t1⟩:=trod_struct2 Tryz.underlying203 h2
   have t0':DataW.trod enc Tryz.prog W 0 (fun _=>true) true n' 9 [c0] = some y0:=by simpa [hc1] using t0
   have t1':DataW.trod enc Tryz.prog W 0 (fun _=>true) true n' 23 [c1] = some y1:=by simpa [hc1'] using t1
   obtain ⟨s,hs,hd,_⟩:=DataW.trod_string Tryz.underlying9 t0'
   simp only [List.cons.injEq,and_true] at hs
   obtain ⟨fa,fl,fc,hfc⟩:=Go.Joins.slice_form Tryz.underlying23 t1'
   simp only [List.cons.injEq,and_true] at hfc
   subst hs hfc
   simp only [Prod.mk.injEq] at hxx
   have wi:=w2 (D i) (List.mem_map.2 ⟨i,List.mem_range.2 hi,rfl⟩)
   rw [hxx.1] at wi
   obtain ⟨v0,v1⟩:=w_two Tryz.underlying203 wi
   rw [hd] at v0
   obtain ⟨xs,g1,g2,g3,g4⟩:=texts_open t1' v1
   have e0:=hcell 0 (by omega)
   have e1:=hcell 1 (by omega)
   refine ⟨((s.data.toList,xs),.slice fa fl fc),?_,by simpa using e1,g2,w_str v0,g3,g4⟩
   rw [str_list]
   have:(a.add (i * 2)).add 0 = a.add (i * 2):=by simp [Addr.add]
   rw [this] at e0
   simpa using e0
  obtain ⟨S,hS⟩:=choose_lt key
  refine ⟨(List.range len0).map (fun i=>(S i).1),by simp,?_,?_,?_⟩
  ·by_cases h0:len0 = 0
   ·subst h0
    exact .inl ⟨_,_,rfl,rfl⟩
   ·obtain ⟨ab,ao,asp⟩:=a
    obtain rfl:=spot_none (by simpa using (hS 0 (by omega)).1)
    have h00:=(hS 0 (by omega)).1
    rw [add_none] at h00
    refine .inr ⟨ab,ao,cap0,by simp,by simpa using hl,World.block_lt_of_cell? W _ h00,fun j y hj=>?_⟩
    obtain ⟨hj1,rfl⟩:=List.getElem?_eq_some_iff.1 hj
    simp only [List.length_map,List.length_range] at hj1
    obtain ⟨k0,k1,k2,_⟩:=hS j hj1
    rw [add_none] at k0 k1
    rw [add_none] at k1
    refine ⟨(S j).2,by simpa using k2,by simpa using k0,by simpa using k1⟩
  ·have hby:Tryz.prog.bytesOf 203 = 40:=by kernel_rfl
   rw [hby,reach_is] at w1
   simp only [List.length_map,List.length_range] at w1 ⊢
   omega
  ·intro y hy
   obtain ⟨i,hi,rfl⟩:=List.mem_map.1 hy
   exact (hS i (List.mem_range.1 hi)).2.2.2
theorem items_open {H : Type} {enc : TypeId × Value → H} {W : World} {fuel : Nat} {a0 : Option Addr} {len0 cap0 : Nat} {x : DataW H × List MemPlace} (hf : DataW.trod enc Tryz.prog W 0 (fun _ => true) true fuel 22 [.slice a0 len0 cap0] = some x) (hw : WOk 22 x.1) :
  ∃ l:List It,l.length = len0 ∧ ItR (fun g=>g < W.heap.size) W (.slice a0 len0 cap0) l ∧ l.length ≤ 2199023255552 ∧ ∀ c ∈ l,ItOk c:=by
 haveI:Inhabited It:=⟨⟨0,[],[],[]⟩⟩
 have hc4:Tryz.prog.cellsOf 77 = 4:=by kernel_rfl
 have hc0:Tryz.prog.cellsOf 3 = 1:=by kernel_rfl
 have hc1:Tryz.prog.cellsOf 9 = 1:=by kernel_rfl
 have hc1':Tryz.prog.cellsOf 75 = 1:=by kernel_rfl
 rcases open_slice Tryz.underlying22 hf with ⟨hcs,_⟩ | ⟨a,len,cap,m,n,D,Pl,hcs,hb,hl,hm,hmm,rfl,hx⟩
 ·simp only [List.cons.injEq,Value.slice.injEq,and_true] at hcs
  obtain ⟨rfl,rfl,rfl⟩:=hcs
  exact ⟨[],rfl,.inl ⟨_,_,rfl,rfl⟩,by simp,by simp⟩
 ·simp only [List.cons.injEq,Value.slice.injEq,and_true] at hcs
  obtain ⟨rfl,rfl,rfl⟩:=hcs
  simp only [if_true] at hmm
  obtain ⟨w1,w2⟩:=w_slice Tryz.underlying22 hw
  rw [hc4] at hx
  have key:∀ i,i < len0 → ∃ c:It × Value,W.cell? (a.add (i * 4)) = some (.int .i64 c.1.kind) ∧ W.cell? ((a.add (i * 4)).add 1) = some (.string (str c.1.name)) ∧ W.cell? ((a.add (i * 4)).add 2) = some (.string (str c.1.ty)) ∧ W.cell? ((a.add (i * 4)).add 3) = some c.2 ∧ CsR (fun g=>g < W.heap.size) W c.2 c.1.cases ∧ ItOk c.1:=fun i hi=>by
   obtain ⟨cs',h1,h2⟩:=hx i (by omega)
   obtain ⟨_,hl2,hcell⟩:=World.cells?_some h1
   obtain ⟨c0,c1,c2,c3,rfl⟩:∃ c0 c1 c2 c3,cs' = [c0,c1,c2,c3]:=by
    match cs',hl2 with
    | [c0,c1,c2,c3],_=>exact ⟨c0,c1,c2,c3,rfl⟩
   obtain ⟨y0,y1,y2,y3,n',hxx,_,t0,t1,t2,t3⟩:=Go.Joins.trod_struct4 Tryz.underlying77 h2
   have t0':DataW.trod enc Tryz.prog W 0 (fun _=>true) true n' 3 [c0] = some y0:=by simpa [hc0] using t0
   have t1':DataW.trod enc Tryz.prog W 0 (fun _=>true) true n' 9 [c1] = some y1:=by simpa [hc1] using t1
   have t2':DataW.trod enc Tryz.prog W 0 (fun _=>true) true n' 9 [c2] = some y2:=by simpa [hc1] using t2
   have t3':DataW.trod enc Tryz.prog W 0 (fun _=>true) true n' 75 [c3] = some y3:=by simpa [hc1'] using t3
   obtain ⟨k,hk,_,hkw⟩:=DataW.trod_int Tryz.underlying3 t0'
   obtain ⟨s,hs,hd,_⟩:=DataW.trod_string Tryz.underlying9 t1'
   obtain ⟨s2,hs2,hd2,_⟩:=DataW.trod_string Tryz.underlying9 t2'
   obtain ⟨fa,fl,fc,hfc⟩:=Go.Joins.slice_form Tryz.underlying75 t3'
   simp only [List.cons.injEq,and_true] at hk hs hs2 hfc
   subst hk hs hs2 hfc
   simp only [Prod.mk.injEq] at hxx
   have wi:=w2 (D i) (List.mem_map.2 ⟨i,List.mem_range.2 hi,rfl⟩)
   rw [hxx.1] at wi
   obtain ⟨v1,v2,v3⟩:=w_four Tryz.underlying77 wi
   rw [hd] at v1
   rw [hd2] at v2
   obtain ⟨cs,g1,g2,g3,g4⟩:=cases_open t3' v3
   have e0:=hcell 0 (by omega)
   have e1:=hcell 1 (by omega)
   have e2:=hcell 2 (by omega)
   have e3:=hcell 3 (by omega)
   have hbk:=bounds_i64 hkw
   refine ⟨(⟨k,s.data.toList,s2.data.toList,cs⟩,.slice fa fl fc),?_,by simpa [str_list] using e1,by simpa [str_list] using e2,by simpa using e3,g2,by simp only; omega,by simp only; omega,w_str v1,w_str v2,g3,g4⟩
   have:(a.add (i * 4)).add 0 = a.add (i * 4):=by simp [Addr.add]
   rw [this] at e0
   simpa using e0
  obtain ⟨S,hS⟩:=choose_lt key
  refine ⟨(List.range len0).map (fun i=>(S i).1),by simp,?_,?_,?_⟩
  ·by_cases h0:len0 = 0
   ·subst h0
    exact .inl ⟨_,_,rfl,rfl⟩
   ·obtain ⟨ab,ao,asp⟩:=a
    obtain rfl:=spot_none (by simpa using (hS 0 (by omega)).1)
    have h00:=(hS 0 (by omega)).1
    rw [add_none] at h00
    refine .inr ⟨ab,ao,cap0,by simp,by simpa using hl,World.block_lt_of_cell? W _ h00,fun j y hj=>?_⟩
    obtain ⟨hj1,rfl⟩:=List.getElem?_eq_some_iff.1 hj
    simp only [List.length_map,List.length_range] at hj1
    obtain ⟨k0,k1,k2,k3,k4,_⟩:=hS j hj1
    rw [add_none] at k0
    rw [add_none,add_none] at k1 k2 k3
    refine ⟨(S j).2,by simpa using k4,by simpa using k0,by simpa using k1,by simpa using k2,by simpa using k3⟩
  ·have hby:Tryz.prog.bytesOf 77 = 64:=by kernel_rfl
   rw [hby,reach_is] at w1
   simp only [List.length_map,List.length_range] at w1 ⊢
   omega
  ·intro y hy
   obtain ⟨i,hi,rfl⟩:=List.mem_map.1 hy
   exact (hS i (List.mem_range.1 hi)).2.2.2.2.2
end Go.Proofs.YtiiepfplommmfaaGreatDoor

namespace Go.Proofs.YtiiepfplommmfaaGreatDoor
open Go.ChangeShapes Go.WideShapes Go.ChangeAt Go.RowKit Go.Deep

def laid3 : List (String × DataW Unit) := [("math/bits.deBruijn32tab", Rows.laid_math_bits_deBruijn32tab), ("math/bits.deBruijn64tab", Rows.laid_math_bits_deBruijn64tab), ("internal/strconv.uint64pow10", Rows.laid_internal_strconv_uint64pow10)]
theorem own:ownKnob Tryz.prog.godebug = none:=by kernel_rfl
theorem door_met (os:Os) (args:Array Value):laidMetH Tryz.prog laid3 ((World.doorLaid Tryz.prog 400 os).forCall (fun _ _=>0) ⟨#[],args,[]⟩).memory :=
 laidMetH_of_parts3 (fuel:=8) (laidMet_of_run' 8 (by kernel_rfl) (by kernel_rfl)) (by kernel_rfl) (by kernel_rfl)
theorem laidO:laidOutB Tryz.prog = true:=by kernel_rfl
end Go.Proofs.YtiiepfplommmfaaGreatDoor

namespace Go.Proofs.YtiiepfplommmfaaGreatDoor

structure Gl where
 name:List UInt8
 ty:List UInt8
 fn:Int
structure Fn where
 name:List UInt8
 params:List (List UInt8)
 caps:Int
 res:List UInt8
 locals:Int
 code:List UInt8
structure Sy where
 mod:List UInt8
 item:It
structure Rl where
 fn:Int
 place:Int
 sym:Int
structure Ob where
 mod:List UInt8
 types:List It
 texts:List (List UInt8)
 globals:List Gl
 funs:List Fn
 exports:List (List UInt8)
 symbols:List Sy
 relocs:List Rl
def cutO (f:Fn):Nat:=min (max f.caps 0).toNat f.params.length
def signO (f:Fn):List UInt8:=funcR (f.params.drop (cutO f)) f.res
def inO (n:Int) (c:Int):Bool:=decide (0 ≤ n) && decide (n < c)
def typeO (m:List UInt8) (ah:List It) (x:It):Nat :=
 if rightI m [x] ≠ 0 then rightI m [x] else if x.kind ≠ 1 then 12 else if ah.any (fun d=>decide (d.name = x.name)) = true then 15 else 0
def textO (t:List UInt8):Nat:=if rightR t = true then 0 else 17
def globalO (nf:Int) (ah:List Gl) (g:Gl):Nat :=
 if valueR g.name = false then 13 else if ah.any (fun d=>decide (d.name = g.name)) = true then 15 else if rightR g.ty = false then 17 else if inO g.fn nf = false then 21 else 0
def countsO (f:Fn):Bool :=
 decide (0 ≤ f.caps) && (decide (f.caps ≤ f.params.length) && (decide (f.params.length - f.caps ≤ 6) && (decide (f.params.length ≤ f.locals) && (decide (f.locals ≤ 24) && (decide (f.name = []) || decide (f.caps = 0))))))
def funO (gs:List Gl) (ah:List Fn) (f:Fn):Nat :=
 if f.name ≠ [] ∧ valueR f.name = false then 13
 else if f.name ≠ [] ∧ (ah.any (fun d=>decide (d.name = f.name)) = true ∨ gs.any (fun d=>decide (d.name = f.name)) = true) then 15
 else if countsO f = false then 19
 else if rightR f.res = false ∨ f.params.all rightR = false ∨ rightR (signO f) = false then 17
 else if 2048 < f.code.length then 3 else 0
def ownO (o:Ob) (n:List UInt8):Option It :=
 if n = [] then none else
 match o.globals.find? (fun g=>decide (g.name = n)) with
 | some g=>some ⟨2,n,g.ty,[]⟩
 | none=>match o.funs.find? (fun f=>decide (f.name = n)) with
  | some f=>some ⟨3,n,signO f,[]⟩
  | none=>findI o.types n
def exportO (o:Ob) (prev:Option (List UInt8)) (n:List UInt8):Nat :=
 if (ownO o n).isSome = false then 16 else if prev.any (fun p=>decide (n ≤ p)) = true then 15 else 0
def numO (n:Nat):List UInt8:=Lib.decDigits n
def unnamedO (fs:List Fn) (t:List UInt8):Bool :=
 match (List.range fs.length).find? (fun n=>decide (numO n = t)) with
 | some n=>match fs[n]? with
  | some f=>decide (f.name = [])
  | none=>false
 | none=>false
def itemO (m:List UInt8) (fs:List Fn) (s:Sy):Nat :=
 if s.mod ≠ m ∨ s.item.kind ≠ 3 ∨ s.item.name ≠ [] then rightI s.mod [s.item]
 else if 0 < s.item.cases.length then 12 else if unnamedO fs s.item.ty = false then 21 else 0
def sameSy (s t:Sy):Bool :=
 decide (s.mod = t.mod) && (decide (s.item.kind = t.item.kind) && (decide (s.item.name = t.item.name) && (decide (s.item.name ≠ []) || decide (s.item.ty = t.item.ty))))
def symbolO (m:List UInt8) (fs:List Fn) (ah:List Sy) (s:Sy):Nat :=
 if valueR s.mod = false then 13 else if itemO m fs s ≠ 0 then itemO m fs s else if ah.any (fun t=>sameSy s t) = true then 15 else 0
def codeAt (fs:List Fn) (n:Int):Int:=match fs[n.toNat]? with | some f=>f.code.length | none=>0
def aheadO (a b:Rl):Bool:=decide (a.fn < b.fn) || (decide (a.fn = b.fn) && decide (a.place < b.place))
def relocO (fs:List Fn) (ns:Int) (prev:Option Rl) (r:Rl):Nat :=
 if inO r.fn fs.length = false ∨ inO r.place (codeAt fs r.fn - 1) = false ∨ inO r.sym ns = false then 21
 else if prev.any (fun p => !aheadO p r) = true then 12 else 0
def elemO (o:Ob) (n k:Nat):Nat :=
 match n with
 | 0=>match o.types[k]? with | some x=>typeO o.mod (o.types.take k) x | none=>0
 | 1=>match o.texts[k]? with | some x=>textO x | none=>0
 | 2=>match o.globals[k]? with | some x=>globalO o.funs.length (o.globals.take k) x | none=>0
 | 3=>match o.funs[k]? with | some x=>funO o.globals (o.funs.take k) x | none=>0
 | 4=>match o.exports[k]? with | some x=>exportO o (if k = 0 then none else o.exports[k - 1]?) x | none=>0
 | 5=>match o.symbols[k]? with | some x=>symbolO o.mod o.funs (o.symbols.take k) x | none=>0
 | 6=>match o.relocs[k]? with | some x=>relocO o.funs o.symbols.length (if k = 0 then none else o.relocs[k - 1]?) x | none=>0
 | _=>0
def lenO (o:Ob) (n:Nat):Nat :=
 match n with
 | 0=>o.types.length
 | 1=>o.texts.length
 | 2=>o.globals.length
 | 3=>o.funs.length
 | 4=>o.exports.length
 | 5=>o.symbols.length
 | 6=>o.relocs.length
 | _=>0
def scanO (f:Nat → Nat):Nat → Nat → Nat × Nat
 | _,0=>(0,0)
 | k,n + 1=>if f k = 0 then scanO f (k + 1) n else (f k,k)
def listsO (o:Ob):Nat → Nat → Nat × Nat
 | _,0=>(0,0)
 | j,n + 1=>if (scanO (elemO o j) 0 (lenO o j)).1 = 0 then listsO o (j + 1) n else scanO (elemO o j) 0 (lenO o j)
def manyO (o:Ob):Bool :=
 decide (32 < o.types.length) || (decide (32 < o.texts.length) || (decide (32 < o.globals.length) || (decide (32 < o.exports.length) || (decide (48 < o.funs.length) || (decide (96 < o.symbols.length) || decide (384 < o.relocs.length))))))
def rightO (o:Ob):Nat × Nat :=
 if valueR o.mod = false then (13,0) else if manyO o = true then (4,0) else listsO o 0 7
theorem scanO_all {f:Nat → Nat}:∀ (n k:Nat),(scanO f k n).1 = 0 → ∀ i,k ≤ i → i < k + n → f i = 0
 | 0,_,_,i,h1,h2=>by omega
 | n + 1,k,h,i,h1,h2=>by
  rw [scanO] at h
  by_cases hf:f k = 0
  ·rw [if_pos hf] at h
   by_cases hi:i = k
   ·rw [hi]; exact hf
   ·exact scanO_all n (k + 1) h i (by omega) (by omega)
  ·rw [if_neg hf] at h
   exact absurd h hf
theorem listsO_all (o:Ob):∀ (n j:Nat),(listsO o j n).1 = 0 → ∀ i,j ≤ i → i < j + n → (scanO (elemO o i) 0 (lenO o i)).1 = 0
 | 0,_,_,i,h1,h2=>by omega
 | n + 1,j,h,i,h1,h2=>by
  rw [listsO] at h
  by_cases hf:(scanO (elemO o j) 0 (lenO o j)).1 = 0
  ·rw [if_pos hf] at h
   by_cases hi:i = j
   ·rw [hi]; exact hf
   ·exact listsO_all o n (j + 1) h i (by omega) (by omega)
  ·rw [if_neg hf] at h
   exact absurd h hf
end Go.Proofs.YtiiepfplommmfaaGreatDoor

namespace Go.Proofs.YtiiepfplommmfaaGreatDoor
open Go.RowKit

def RwR {α:Type} (sz:Nat) (C:(Nat → Prop) → World → α → List Value → Prop) (F:Nat → Prop) (w:World) (v:Value) (l:List α):Prop :=
 (∃ a c,v = .slice a 0 c ∧ l = []) ∨ ∃ g o cap,v = .slice (some ⟨g,o,none⟩) l.length cap ∧ l.length ≤ cap ∧ F g ∧ ∀ (j:Nat) x,l[j]? = some x → ∃ cs,C F w x cs ∧ ∀ (i:Nat) y,cs[i]? = some y → w.cell? ⟨g,o + j * sz + i,none⟩ = some y
def Stay {α:Type} (C:(Nat → Prop) → World → α → List Value → Prop):Prop:=∀ (F G:Nat → Prop) (w w':World) (x:α) (cs:List Value),(∀ g,F g → G g ∧ w'.heap[g]? = w.heap[g]?) → C F w x cs → C G w' x cs
theorem RwR.frame {α:Type} {sz:Nat} {C:(Nat → Prop) → World → α → List Value → Prop} (hC:Stay C) {F G:Nat → Prop} {w w':World} (hF:∀ g,F g → G g ∧ w'.heap[g]? = w.heap[g]?) {v:Value} {l:List α} (h:RwR sz C F w v l):RwR sz C G w' v l:=by
 rcases h with h | ⟨g,o,cap,h1,h1',h2,h3⟩
 ·exact .inl h
 ·refine .inr ⟨g,o,cap,h1,h1',(hF g h2).1,fun j x hj=>?_⟩
  obtain ⟨cs,h4,h5⟩:=h3 j x hj
  exact ⟨cs,hC _ _ _ _ _ _ hF h4,fun i y hy=>by rw [World.cell?_of_block (w:=w) (hF g h2).2]; exact h5 i y hy⟩
theorem RwR.shape {α:Type} {sz:Nat} {C:(Nat → Prop) → World → α → List Value → Prop} {F:Nat → Prop} {w:World} {v:Value} {l:List α} (h:RwR sz C F w v l):∃ a c,v = .slice a l.length c:=by
 rcases h with ⟨a,c,rfl,rfl⟩ | ⟨g,o,cap,rfl,_⟩
 ·exact ⟨a,c,rfl⟩
 ·exact ⟨_,_,rfl⟩
theorem RwR.nil {α:Type} (sz:Nat) (C:(Nat → Prop) → World → α → List Value → Prop) (F:Nat → Prop) (w:World):RwR sz C F w (.slice none 0 0) [] := .inl ⟨none,0,rfl,rfl⟩
theorem RwR.at {α:Type} {sz:Nat} {C:(Nat → Prop) → World → α → List Value → Prop} {F:Nat → Prop} {w:World} {v:Value} {l:List α} (h:RwR sz C F w v l) (k:Nat) (hk:k < l.length):∃ g o cap cs,v = .slice (some ⟨g,o,none⟩) l.length cap ∧ l.length ≤ cap ∧ F g ∧ C F w l[k] cs ∧ ∀ (i:Nat) y,cs[i]? = some y → w.cell? ⟨g,o + k * sz + i,none⟩ = some y:=by
 rcases h with ⟨a,c,rfl,rfl⟩ | ⟨g,o,cap,rfl,hc,hg,h⟩
 ·simp at hk
 ·obtain ⟨cs,h1,h2⟩:=h k _ (List.getElem?_eq_getElem hk)
  exact ⟨g,o,cap,cs,rfl,hc,hg,h1,h2⟩
theorem RwR.below {α:Type} {sz:Nat} {C:(Nat → Prop) → World → α → List Value → Prop} (hC:Stay C) {F:Nat → Prop} {H:Nat} {w w':World} {v:Value} {l:List α} (h:RwR sz C F w v l) (hb:Below H w w') (hF:∀ g,F g → g < H):RwR sz C F w' v l:=h.frame hC fun g hg=>⟨hg,hb.block g (hF g hg)⟩
theorem RwR.take {α:Type} {sz:Nat} {C:(Nat → Prop) → World → α → List Value → Prop} {F:Nat → Prop} {w:World} {a:Option Addr} {cap:Nat} {l:List α} (h:RwR sz C F w (.slice a l.length cap) l) (n:Nat) (hn:n ≤ l.length):RwR sz C F w (.slice a n cap) (l.take n):=by
 rcases h with ⟨a',c,h1,rfl⟩ | ⟨g',o',cap',h1,h1',h2,h3⟩
 ·simp at hn
  subst hn
  exact .inl ⟨_,cap,rfl,rfl⟩
 ·simp only [Value.slice.injEq,true_and] at h1
  obtain ⟨rfl,rfl⟩:=h1
  refine .inr ⟨g',o',cap,by rw [List.length_take,Nat.min_eq_left hn],by rw [List.length_take,Nat.min_eq_left hn]; omega,h2,fun j x hj=>h3 j x ?_⟩
  rw [List.getElem?_take] at hj
  split at hj
  ·exact hj
  ·cases hj
def TxC (F:Nat → Prop) (w:World) (v:Value) (xs:List (List UInt8)):Prop:=TxR F w v xs ∧ ∀ a n c,v = .slice a n c → n ≤ c
def ByR (F:Nat → Prop) (w:World) (v:Value) (l:List UInt8):Prop :=
 (∃ a c,v = .slice a 0 c ∧ l = []) ∨ ∃ g o cap,v = .slice (some ⟨g,o,none⟩) l.length cap ∧ l.length ≤ cap ∧ F g ∧ ∀ (j:Nat) x,l[j]? = some x → w.cell? ⟨g,o + j,none⟩ = some (.int .u8 (x.toNat:Int))
theorem ByR.frame {F G:Nat → Prop} {w w':World} (hF:∀ g,F g → G g ∧ w'.heap[g]? = w.heap[g]?) {v:Value} {l:List UInt8} (h:ByR F w v l):ByR G w' v l:=by
 rcases h with h | ⟨g,o,cap,h1,h1',h2,h3⟩
 ·exact .inl h
 ·exact .inr ⟨g,o,cap,h1,h1',(hF g h2).1,fun j x hj=>by rw [World.cell?_of_block (w:=w) (hF g h2).2]; exact h3 j x hj⟩
theorem ByR.shape {F:Nat → Prop} {w:World} {v:Value} {l:List UInt8} (h:ByR F w v l):∃ a c,v = .slice a l.length c:=by
 rcases h with ⟨a,c,rfl,rfl⟩ | ⟨g,o,cap,rfl,_⟩
 ·exact ⟨a,c,rfl⟩
 ·exact ⟨_,_,rfl⟩
theorem TxC.frame {F G:Nat → Prop} {w w':World} (hF:∀ g,F g → G g ∧ w'.heap[g]? = w.heap[g]?) {v:Value} {xs:List (List UInt8)} (h:TxC F w v xs):TxC G w' v xs:=⟨h.1.frame hF,h.2⟩
def cGl (_:Nat → Prop) (_:World) (x:Gl) (cs:List Value):Prop:=cs = [.string (str x.name),.string (str x.ty),.int .i64 x.fn]
def cFn (F:Nat → Prop) (w:World) (x:Fn) (cs:List Value):Prop:=∃ pv kv,cs = [.string (str x.name),pv,.int .i64 x.caps,.string (str x.res),.int .i64 x.locals,kv] ∧ TxC F w pv x.params ∧ ByR F w kv x.code
def cSy (F:Nat → Prop) (w:World) (x:Sy) (cs:List Value):Prop:=∃ cv,cs = [.string (str x.mod),.int .i64 x.item.kind,.string (str x.item.name),.string (str x.item.ty),cv] ∧ CsR F w cv x.item.cases
def cRl (_:Nat → Prop) (_:World) (x:Rl) (cs:List Value):Prop:=cs = [.int .i64 x.fn,.int .i64 x.place,.int .i64 x.sym]
theorem cGl_stay:Stay cGl:=fun _ _ _ _ _ _ _ h=>h
theorem cRl_stay:Stay cRl:=fun _ _ _ _ _ _ _ h=>h
theorem cFn_stay:Stay cFn:=fun _ _ _ _ _ _ hF ⟨pv,kv,h1,h2,h3⟩=>⟨pv,kv,h1,h2.frame hF,h3.frame hF⟩
theorem cSy_stay:Stay cSy:=fun _ _ _ _ _ _ hF ⟨cv,h1,h2⟩=>⟨cv,h1,h2.frame hF⟩
abbrev GlR:=RwR 3 cGl
abbrev FnR:=RwR 6 cFn
abbrev SyR:=RwR 5 cSy
abbrev RlR:=RwR 3 cRl
def i64 (n:Int):Prop := -9223372036854775808 ≤ n ∧ n ≤ 9223372036854775807
def GlOk (x:Gl):Prop:=Tk x.name ∧ Tk x.ty ∧ i64 x.fn
def FnOk (x:Fn):Prop:=Tk x.name ∧ x.params.length ≤ 8796093022208 ∧ (∀ p ∈ x.params,Tk p) ∧ i64 x.caps ∧ Tk x.res ∧ i64 x.locals ∧ x.code.length ≤ 140737488355328
def SyOk (x:Sy):Prop:=Tk x.mod ∧ ItOk x.item
def RlOk (x:Rl):Prop:=i64 x.fn ∧ i64 x.place ∧ i64 x.sym
structure ObOk (o:Ob):Prop where
 mod:Tk o.mod
 nt:o.types.length ≤ 3518437208883
 types:∀ x ∈ o.types,ItOk x
 nx:o.texts.length ≤ 8796093022208
 texts:∀ x ∈ o.texts,Tk x
 ng:o.globals.length ≤ 3518437208883
 globals:∀ x ∈ o.globals,GlOk x
 nf:o.funs.length ≤ 3518437208883
 funs:∀ x ∈ o.funs,FnOk x
 ne:o.exports.length ≤ 8796093022208
 exports:∀ x ∈ o.exports,Tk x
 ns:o.symbols.length ≤ 3518437208883
 symbols:∀ x ∈ o.symbols,SyOk x
 nr:o.relocs.length ≤ 8796093022208
 relocs:∀ x ∈ o.relocs,RlOk x
structure ObV where
 t:Value
 x:Value
 g:Value
 f:Value
 e:Value
 s:Value
 r:Value
def ObV.cells (v:ObV) (m:List UInt8):List Value:=[.string (str m),v.t,v.x,v.g,v.f,v.e,v.s,v.r]
structure ObR (F:Nat → Prop) (w:World) (v:ObV) (o:Ob):Prop where
 types:ItR F w v.t o.types
 texts:TxC F w v.x o.texts
 globals:GlR F w v.g o.globals
 funs:FnR F w v.f o.funs
 exports:TxC F w v.e o.exports
 symbols:SyR F w v.s o.symbols
 relocs:RlR F w v.r o.relocs
theorem ObR.frame {F G:Nat → Prop} {w w':World} (hF:∀ g,F g → G g ∧ w'.heap[g]? = w.heap[g]?) {v:ObV} {o:Ob} (h:ObR F w v o):ObR G w' v o :=
 ⟨h.types.frame hF,h.texts.frame hF,h.globals.frame cGl_stay hF,h.funs.frame cFn_stay hF,h.exports.frame hF,h.symbols.frame cSy_stay hF,h.relocs.frame cRl_stay hF⟩
theorem ObR.below {F:Nat → Prop} {H:Nat} {w w':World} {v:ObV} {o:Ob} (h:ObR F w v o) (hb:Below H w w') (hF:∀ g,F g → g < H):ObR F w' v o:=h.frame fun g hg=>⟨hg,hb.block g (hF g hg)⟩
theorem cells8 {w:World} {b:Nat} {z0 z1 z2 z3 z4 z5 z6 z7:Value} {e:TypeId} (h:w.heap[b]? = some (.cells #[z0,z1,z2,z3,z4,z5,z6,z7] e (0,0))):w.cell? ⟨b,0,none⟩ = some z0 ∧ w.cell? ⟨b,1,none⟩ = some z1 ∧ w.cell? ⟨b,2,none⟩ = some z2 ∧ w.cell? ⟨b,3,none⟩ = some z3 ∧ w.cell? ⟨b,4,none⟩ = some z4 ∧ w.cell? ⟨b,5,none⟩ = some z5 ∧ w.cell? ⟨b,6,none⟩ = some z6 ∧ w.cell? ⟨b,7,none⟩ = some z7 :=
 ⟨by rw [cell_of_row w _ 0 _ _ _ h]; rfl,by rw [cell_of_row w _ 1 _ _ _ h]; rfl,by rw [cell_of_row w _ 2 _ _ _ h]; rfl,by rw [cell_of_row w _ 3 _ _ _ h]; rfl,by rw [cell_of_row w _ 4 _ _ _ h]; rfl,by rw [cell_of_row w _ 5 _ _ _ h]; rfl,by rw [cell_of_row w _ 6 _ _ _ h]; rfl,by rw [cell_of_row w _ 7 _ _ _ h]; rfl⟩
theorem cells6 {w:World} {b:Nat} {z0 z1 z2 z3 z4 z5:Value} {e:TypeId} (h:w.heap[b]? = some (.cells #[z0,z1,z2,z3,z4,z5] e (0,0))):w.cell? ⟨b,0,none⟩ = some z0 ∧ w.cell? ⟨b,1,none⟩ = some z1 ∧ w.cell? ⟨b,2,none⟩ = some z2 ∧ w.cell? ⟨b,3,none⟩ = some z3 ∧ w.cell? ⟨b,4,none⟩ = some z4 ∧ w.cell? ⟨b,5,none⟩ = some z5 :=
 ⟨by rw [cell_of_row w _ 0 _ _ _ h]; rfl,by rw [cell_of_row w _ 1 _ _ _ h]; rfl,by rw [cell_of_row w _ 2 _ _ _ h]; rfl,by rw [cell_of_row w _ 3 _ _ _ h]; rfl,by rw [cell_of_row w _ 4 _ _ _ h]; rfl,by rw [cell_of_row w _ 5 _ _ _ h]; rfl⟩
end Go.Proofs.YtiiepfplommmfaaGreatDoor
