/-
  The package's end: its walk, from label to label.
  And: The package's Right, Elem, Named, Array, Func. The package's Parts: its walk. What follows from the chapter's functions on trees: what is printed is parted into the tree's own tokens; how long a print is. No program in it. Trees in memory: cells of a tree, rows of trees that can be read (TL), rows of the call's own that grow (OwnK), the stack of open brackets (StkM); what each step of memory leaves of them. Texts, and pairs of texts, in a row in memory. The package's Names: its walk. How texts compare. No program in it.
-/
import Derived.Test.YtiiepfplommmfaaGreatDoorG01
import Derived.Test.YtiiepfplommmfaaGreatDoorG02
import Derived.Deep.AppendLies
import Derived.OneCell
import Derived.Sort.Walk0
namespace Go.Proofs.YtiiepfplommmfaaGreatDoor
open Go.RowKit

def ic (l:List Nat):List Value:=l.map fun (n:Nat)=>Value.int .i64 (n:Int)
theorem ic_length (l:List Nat):(ic l).length = l.length:=by simp [ic]
theorem ic_append (a b:List Nat):ic (a ++ b) = ic a ++ ic b:=by simp [ic]
theorem infoI:(Tryz.prog.info? 3).map (fun i=>(i.zero.map (fun z=>z.cells.size),i.size,i.bytes)) = some (some 1,1,8):=by kernel_rfl
theorem append_nat {w : World} {ops : Array Oper} {rest : List Oper} {o : Oper} {a : Act} {Q : Exit → Act → World → Prop} (hgd : o.guard = none) (s x : Operand)
  (ho:o.op = .call { callee := .builtin .append,args:=#[s,x],argTypes:=#[165,165] })
  (B:Nat) (v:Value) (acc:List Nat) (hs:a.eval s = v) (hown:w.ownsRow B 3 1 v acc.length (ic acc))
  (ad:Addr) (c:Nat) (n:Nat) (hx:a.eval x = .slice (some ad) 1 c) (hnews:∀ j u,(ic [n])[j]? = some u → w.cell? (ad.add j) = some u)
  (hlen:acc.length + 1 ≤ 8193) (hB:B ≤ w.heap.size)
  (h:∀ ad' c' w',w'.ownsRow B 3 1 (.slice (some ad') (acc.length + 1) c') (acc ++ [n]).length (ic (acc ++ [n])) → w.grownBy w' v.ownBlock → wpList Tryz.prog ops Q rest (a.put o.dst (.slice (some ad') (acc.length + 1) c')) w') :
  wpList Tryz.prog ops Q (o :: rest) a w:=by
 obtain ⟨i,z,hi,hz,h1,h2,h3⟩:=info_z infoI
 refine wpList_append_own w hgd s x 165 ho B 3 i z 1 8 Tryz.underlying165 hi hz h1 h2 h3 (by decide) v acc.length (ic acc) hs hown ad 1 c (ic [n]) hx rfl hnews (fun u hu=>?_) (by unfold maxLen; omega) (by omega) hB ?_
 ·obtain ⟨_,_,rfl⟩:=List.mem_map.1 hu
  rfl
 intro v' w' k1 k2 k3
 rcases k1.2 with ⟨rfl,hz⟩ | ⟨g,cap,cur,rfl,_⟩
 ·omega
 ·rw [← ic_append] at k1
  exact h ⟨g,0,none⟩ cap w' (by simpa using k1) k2
theorem frame127 (a:Act) (h:a.tmps.size = 127) (hd:a.defers = []):∃ f:Nat → Value,a = { tmps:=#[f 0,f 1,f 2,f 3,f 4,f 5,f 6,f 7,f 8,f 9,f 10,f 11,f 12,f 13,f 14,f 15,f 16,f 17,f 18,f 19,f 20,f 21,f 22,f 23,f 24,f 25,f 26,f 27,f 28,f 29,f 30,f 31,f 32,f 33,f 34,f 35,f 36,f 37,f 38,f 39,f 40,f 41,f 42,f 43,f 44,f 45,f 46,f 47,f 48,f 49,f 50,f 51,f 52,f 53,f 54,f 55,f 56,f 57,f 58,f 59,f 60,f 61,f 62,f 63,f 64,f 65,f 66,f 67,f 68,f 69,f 70,f 71,f 72,f 73,f 74,f 75,f 76,f 77,f 78,f 79,f 80,f 81,f 82,f 83,f 84,f 85,f 86,f 87,f 88,f 89,f 90,f 91,f 92,f 93,f 94,f 95,f 96,f 97,f 98,f 99,f 100,f 101,f 102,f 103,f 104,f 105,f 106,f 107,f 108,f 109,f 110,f 111,f 112,f 113,f 114,f 115,f 116,f 117,f 118,f 119,f 120,f 121,f 122,f 123,f 124,f 125,f 126],defers:=[] }:=by
 refine ⟨fun k=>a.tmps.getD k undef,?_⟩
 obtain ⟨t,d⟩:=a
 simp only at h hd
 subst hd
 have e:=arr_map t
 rw [h] at e
 simp only [Act.mk.injEq,and_true]
 exact e
def EndE (r:Int) (w:World) (e:Ending) (w':World):Prop:=e = .returned (.int .i64 r) ∧ Below w.heap.size w w'
theorem endE_no {L:List UInt8} {fr:Nat} {w w':World} {z:Int} (h:one (L.drop fr) = none) (hz:z = -1) (hb:Below w.heap.size w w'):EndE (endI L fr) w (.returned (.int .i64 z)) w':=by
 subst hz
 exact ⟨by rw [endI,h],hb⟩
theorem endE_yes {L:List UInt8} {fr p:Nat} {w w':World} {z:Int} (h:one (L.drop fr) = some (L.drop p)) (hz:z = (p:Int)) (hp:p ≤ L.length) (hb:Below w.heap.size w w'):EndE (endI L fr) w (.returned (.int .i64 z)) w':=by
 subst hz
 refine ⟨?_,hb⟩
 rw [endI,h]
 simp
 omega
def edJ (s:ByteArray) (R:Option (List UInt8)) (w0:World) (l:Nat) (a:Act) (w:World):Prop :=
 ∃ (p:Nat) (st:List Nat) (v:Value),a.tmps.size = 127 ∧ a.defers = [] ∧ a.tmps.getD 0 undef = .string s ∧ a.tmps.getD 5 undef = v ∧ a.tmps.getD 7 undef = .int .i64 (p:Int) ∧
  p ≤ s.size ∧ st.length ≤ p ∧ (∀ k ∈ st,k ≤ 6) ∧ w.ownsRow w0.heap.size 3 1 v st.length (ic st.reverse) ∧ Below w0.heap.size w0 w ∧
  ((l = 0 ∧ Hid (begS st (s.data.toList.drop p) = R)) ∨ (l = 1 ∧ Hid (behS st (s.data.toList.drop p) = R)))
def edM (s:ByteArray) (l:Nat) (a:Act) (_:World):Nat :=
 match l with
 | 0=>2 * (s.size - (intOf (a.tmps.getD 7 undef)).toNat) + 1
 | _=>2 * (s.size - (intOf (a.tmps.getD 7 undef)).toNat) + 2
theorem pre2_yes (c d:UInt8) (r:List UInt8) (h1:c.toNat = 40) (h2:d.toNat = 41):Lib.hasPrefix (c :: d :: r) [40,41] = true:=by
 have e1:c = 40:=UInt8.toNat_inj.1 h1
 have e2:d = 41:=UInt8.toNat_inj.1 h2
 subst e1 e2
 simp [Lib.hasPrefix]
theorem pre2_no (l:List UInt8) (h:∀ c d r,l = c :: d :: r → c.toNat = 40 → d.toNat ≠ 41):Lib.hasPrefix l [40,41] = false:=by
 match l with
 | []=>rfl
 | [c]=>simp [Lib.hasPrefix,List.isPrefixOf]
 | c :: d :: r =>
  have:=h c d r rfl
  rw [Bool.eq_false_iff]
  intro hp
  simp only [Lib.hasPrefix,List.isPrefixOf_cons_cons,Bool.and_eq_true,beq_iff_eq] at hp
  exact this (by rw [← hp.1]; rfl) (by rw [← hp.2.1]; rfl)
theorem ext_data (s:ByteArray) (p:Nat):(s.extract p s.size).data.toList = s.data.toList.drop p:=by rw [str_drop,str_data]
theorem ext_size (s:ByteArray) (p:Nat):(s.extract p s.size).size ≤ s.size:=by rw [str_drop,str_size,List.length_drop,size_len]; omega
set_option maxHeartbeats 4000000 in
set_option maxRecDepth 1000000 in
theorem endAt (s:ByteArray) (fr:Nat) (w:World) (hs:s.size ≤ 200) (hfr:fr ≤ s.size):Calls Tryz.prog 132 #[.string s,.int .i64 (fr:Int)] w (EndE (endI s.data.toList fr) w):=by
 go_enter Tryz.func132,Tryz.ntmps132
 go_wp2
 refine wp_scope_fall (edJ s (one (s.data.toList.drop fr)) w) (edM s) ?_ ?_
 ·intro hp
  replace hp:=hidden hp
  refine wp_seq ?_
  go_wp2
  rename_i hK
  refine wp_label (hK _ _ (hp.out 0 _ _ _ rfl ⟨fr,[],_,rfl,rfl,rfl,rfl,rfl,hfr,by simp,by simp,World.ownsRow_nil _ _ _ _,Below.refl _ _,.inl ⟨rfl,by rw [hid_iff,begS,show behS [] = some from funext behS_end]; simp⟩⟩))
 ·rintro l a w1 ⟨p,st,v,ha1,ha2,ha3,ha4,ha5,hp1,hst,hk6,hown,hbl,hl⟩ hfall
  replace hfall:=hidden hfall
  obtain ⟨f,rfl⟩:=frame127 a ha1 ha2
  replace ha3:f 0 = .string s:=ha3
  replace ha4:f 5 = v:=ha4
  replace ha5:f 7 = .int .i64 (p:Int):=ha5
  rw [ha3,ha4,ha5] at hfall ⊢
  clear ha1 ha2 ha3 ha4 ha5
  have hown':w1.ownsRow w.heap.size 3 1 v st.reverse.length (ic st.reverse):=by rw [List.length_reverse]; exact hown
  have hB:w.heap.size ≤ w1.heap.size:=hbl.size
  rcases hl with ⟨rfl,hq⟩ | ⟨rfl,hq⟩
  ·refine ⟨_,rfl,?_⟩
   by_cases hp:p < s.size
   ·have hps:(p:Int) ≤ (s.size:Int):=by omega
    have hpe:((p:Int) == (s.size:Int)) = false:=by rw [beq_eq_false_iff_ne]; omega
    have hd:=drop_at s p hp
    by_cases c1:s[p].toNat = 91
    ·have HQ:Hid (begS (0 :: st) (s.data.toList.drop (p + 1)) = one (s.data.toList.drop fr)):=by
      rw [hid_iff, ← hq.out,hd,begS_arr st _ c1]
     have c1':((s[p].toNat:Int) == 91) = true:=by rw [beq_iff_eq]; omega
     clear c1 hq hd
     go_wp2_with (at_builtin; refine append_nat rfl (.tmp 19) (.tmp 20) rfl w.heap.size v st.reverse rfl (hown'.alloc _) _ _ 0 rfl ?src ?len ?hB ?next)
     case src=>first | exact cells_new _ _ _ | exact fun j u h=>h
     case len=>first | omega | (simp; omega)
     case hB=>first | omega | (simp; omega)
     case next =>
      intro ad c' w' k1 k2
      have k3:=below_grown (hown.alloc _) (by simp; omega) (hbl.alloc hB _) k2
      clear k2 hown hbl
      go_wp2
      refine wp_goto ⟨⟨p + 1,0 :: st,_,rfl,rfl,rfl,rfl,by go_num,by omega,by simp; omega,?k6,by simpa using k1,k3,.inl ⟨rfl,HQ⟩⟩,?_⟩
      case k6=>intro k hk; simp at hk; rcases hk with rfl | hk; exact Nat.zero_le _; exact hk6 k hk
      simp [edM,intOf]
      omega
    ·have c1':((s[p].toNat:Int) == 91) = false:=by rw [beq_eq_false_iff_ne]; omega
     have hpx:=fun u=>Tryz.strings_HasPrefix (s.extract p s.size) ⟨#[40,41]⟩ u
     rw [ext_data] at hpx
     by_cases c2:s[p].toNat = 40 ∧ ∃ h:p + 1 < s.size,s[p + 1].toNat = 41
     ·obtain ⟨c2,hp2,c3⟩:=c2
      have hd2:=drop_at s (p + 1) hp2
      have HQ:Hid (begS st (s.data.toList.drop (p + 2)) = one (s.data.toList.drop fr)):=by
       rw [hid_iff, ← hq.out,hd,hd2,begS_fn0 st _ c2 c3]
      have hpt:Lib.hasPrefix (s.data.toList.drop p) [40,41] = true:=by rw [hd,hd2]; exact pre2_yes _ _ _ c2 c3
      rw [hpt] at hpx
      clear c1 c2 c3 hq hd hd2 hpt
      go_wp2_with fail
      refine (hpx _).mono ?_
      rintro e w2 ⟨rfl,rfl⟩
      go_wp2
      refine wp_goto ⟨⟨p + 2,st,_,rfl,rfl,rfl,rfl,by go_num,by omega,by omega,hk6,hown,hbl,.inl ⟨rfl,HQ⟩⟩,?_⟩
      simp [edM,intOf]
      omega
     ·have hpf:Lib.hasPrefix (s.data.toList.drop p) [40,41] = false:=by
       refine pre2_no _ (fun c d r he h1 h2=>c2 ?_)
       rw [hd] at he
       simp only [List.cons.injEq] at he
       refine ⟨by rw [he.1]; exact h1,?_⟩
       have hlt:p + 1 < s.size:=by
        rcases Nat.lt_or_ge (p + 1) s.size with h | h
        ·exact h
        ·rw [drop_end s (p + 1) h] at he
         simp at he
       refine ⟨hlt,?_⟩
       have:=drop_at s (p + 1) hlt
       rw [this] at he
       simp only [List.cons.injEq] at he
       rw [he.2.1]
       exact h2
      rw [hpf] at hpx
      by_cases c3:s[p].toNat = 40
      ·have HQ:Hid (begS (1 :: st) (s.data.toList.drop (p + 1)) = one (s.data.toList.drop fr)):=by
        rw [hid_iff, ← hq.out,hd,begS_fn st _ c3 (fun d y he h2=>c2 ⟨c3,?_⟩)]
        have hlt:p + 1 < s.size:=by
         rcases Nat.lt_or_ge (p + 1) s.size with h | h
         ·exact h
         ·rw [drop_end s (p + 1) h] at he
          simp at he
        refine ⟨hlt,?_⟩
        rw [drop_at s (p + 1) hlt] at he
        simp only [List.cons.injEq] at he
        rw [he.1]
        exact h2
       have c3':((s[p].toNat:Int) == 40) = true:=by rw [beq_iff_eq]; omega
       clear c1 c2 c3 hq hd hpf
       go_wp2_with fail
       refine (hpx _).mono ?_
       rintro e w2 ⟨rfl,rfl⟩
       go_wp2_with (at_builtin; refine append_nat rfl (.tmp 36) (.tmp 37) rfl w.heap.size v st.reverse rfl (hown'.alloc _) _ _ 1 rfl ?src ?len ?hB ?next)
       case src=>first | exact cells_new _ _ _ | exact fun j u h=>h
       case len=>first | omega | (simp; omega)
       case hB=>first | omega | (simp; omega)
       case next =>
        intro ad c' w' k1 k2
        have k3:=below_grown (hown.alloc _) (by simp; omega) (hbl.alloc hB _) k2
        clear k2 hown hbl
        go_wp2
        refine wp_goto ⟨⟨p + 1,1 :: st,_,rfl,rfl,rfl,rfl,by go_num,by omega,by simp; omega,?k6,by simpa using k1,k3,.inl ⟨rfl,HQ⟩⟩,?_⟩
        case k6=>intro k hk; simp at hk; rcases hk with rfl | hk; omega; exact hk6 k hk
        simp [edM,intOf]
        omega
      ·have c3':((s[p].toNat:Int) == 40) = false:=by rw [beq_eq_false_iff_ne]; omega
       have hwd:=fun u=>word (s.extract p s.size) u (by have:=ext_size s p; omega)
       rw [ext_data] at hwd
       have hwl:=word_le (s.data.toList.drop p)
       rw [List.length_drop,size_len] at hwl
       have hrw:=fun u=>rightWord (str (wordR (s.data.toList.drop p))) u (by rw [str_size]; omega)
       rw [str_data] at hrw
       cases hok:wordOk (wordR (s.data.toList.drop p))
       ·have HR:Hid (one (s.data.toList.drop fr) = none):=by
         rw [hid_iff, ← hq.out,hd]
         rw [hd] at hok
         exact begS_bad st _ c1 c3 hok
        rw [hok] at hrw
        clear c1 c2 c3 hq hd hpf hok
        generalize wordR (s.data.toList.drop p) = x at *
        go_wp2_with fail
        refine (hpx _).mono ?_
        rintro e w2 ⟨rfl,rfl⟩
        go_wp2_with fail
        refine (hwd _).mono ?_
        rintro e w2 ⟨rfl,hb2⟩
        go_wp2_with fail
        refine (hrw _).mono ?_
        rintro e w3 ⟨rfl,n,rfl⟩
        have hb3:=below_drewN (hbl.trans ⟨hb2.os,hb2.tape,hb2.output,hb2.size,fun k hk=>hb2.block k (by omega)⟩) n
        clear hb2
        generalize w2.drewN n = w3 at *
        go_wp2
        go_ret
        exact endE_no HR.out rfl hb3
       ·have hpos:=wordOk_pos hok
        have HQ:Hid (behS st (s.data.toList.drop (p + (wordR (s.data.toList.drop p)).length)) = one (s.data.toList.drop fr)):=by
         rw [hid_iff, ← hq.out, ← List.drop_drop,hd]
         rw [hd] at hok
         exact (begS_word st _ c1 c3 hok).symm
        rw [hok] at hrw
        clear c1 c2 c3 hq hd hpf hok
        generalize wordR (s.data.toList.drop p) = x at *
        have hxs:(str x).size = x.length:=rfl
        go_wp2_with fail
        refine (hpx _).mono ?_
        rintro e w2 ⟨rfl,rfl⟩
        go_wp2_with fail
        refine (hwd _).mono ?_
        rintro e w2 ⟨rfl,hb2⟩
        have ho2:=owns_below hown hb2
        have hb3:Below w.heap.size w w2:=hbl.trans ⟨hb2.os,hb2.tape,hb2.output,hb2.size,fun k hk=>hb2.block k (by omega)⟩
        clear hb2 hbl hown
        go_wp2_with fail
        refine (hrw _).mono ?_
        rintro e w3 ⟨rfl,n,rfl⟩
        have ho4:(w2.drewN n).ownsRow w.heap.size 3 1 v st.length (ic st.reverse):=ho2
        have hb4:=below_drewN hb3 n
        clear ho2 hb3
        generalize w2.drewN n = w4 at *
        go_wp2_with fail
        refine (hwd _).mono ?_
        rintro e w5 ⟨rfl,hb5⟩
        have hB4:w.heap.size ≤ w4.heap.size:=hb4.size
        have ho6:=owns_below ho4 hb5
        have hb6:Below w.heap.size w w5:=hb4.trans ⟨hb5.os,hb5.tape,hb5.output,hb5.size,fun k hk=>hb5.block k (by omega)⟩
        clear ho4 hb4 hb5
        go_wp2
        rename_i hK
        refine wp_label (hK _ _ (hfall.out 1 _ _ _ rfl ⟨p + x.length,st,_,rfl,rfl,rfl,rfl,by go_num,by omega,by omega,hk6,ho6,hb6,.inr ⟨rfl,HQ⟩⟩ ?_))
        simp [edM,intOf]
        omega
   ·have hpe:p = s.size:=by omega
    have HR:Hid (one (s.data.toList.drop fr) = none):=by
     rw [hid_iff, ← hq.out,drop_end s p (by omega)]
     exact begS_nil st
    subst hpe
    clear hq
    go_wp2
    go_ret
    exact endE_no HR.out rfl hbl
  ·refine ⟨_,rfl,?_⟩
   clear hown'
   cases st with
   | nil =>
    have HR:Hid (one (s.data.toList.drop fr) = some (s.data.toList.drop p)):=by rw [hid_iff, ← hq.out,behS_end]
    obtain ⟨ao,cap,rfl⟩:∃ ao cap,v = .slice ao 0 cap:=by
     rcases owns_shape hown with ⟨rfl,hn⟩ | ⟨g,cap,rfl,_⟩
     ·exact ⟨none,0,rfl⟩
     ·exact ⟨_,_,rfl⟩
    clear hq hown hfall
    go_wp2
    go_ret
    exact endE_yes HR.out rfl (by rw [size_len]; exact hp1) hbl
   | cons k st =>
    have hk7:=hk6 k (by simp)
    have hk8:∀ x ∈ st,x ≤ 6:=fun x hx=>hk6 x (by simp [hx])
    rw [List.reverse_cons,ic_append] at hown
    simp only [List.length_cons] at hown hst
    obtain ⟨g,cap,rfl,hcap,hg⟩:∃ g cap,v = .slice (some ⟨g,0,none⟩) (st.length + 1) cap ∧ st.length + 1 ≤ cap ∧ w.heap.size ≤ g:=by
     rcases hown.2 with ⟨_,h0⟩ | ⟨g,cap,cur,hv,hb,hg,h1,h2,_⟩
     ·omega
     ·exact ⟨g,cap,hv,h1,hb⟩
    have hcell:w1.cell? ⟨g,st.length,none⟩ = some (.int .i64 (k:Int)):=by
     rw [hown.cellAt _ (by omega),List.getElem?_append_right (by rw [ic_length,List.length_reverse]; omega)]
     simp [ic]
    have hfz:=hown.frozenAt st.length
    have hpop:=ownsRow_pop (by rw [ic_length,List.length_reverse,Nat.mul_one]) hown
    have hset:=hown.stored st.length (.int .i64 ((k + 1:Nat):Int))
    rw [List.set_append_right _ _ (by rw [ic_length,List.length_reverse]; omega)] at hset
    simp only [ic_length,List.length_reverse,Nat.sub_self] at hset
    have hset1:(w1.setCell ⟨g,st.length,none⟩ (.int .i64 ((k + 1:Nat):Int))).ownsRow w.heap.size 3 1 (.slice (some ⟨g,0,none⟩) (st.length + 1) cap) (((k + 1) :: st).length) (ic ((k + 1) :: st).reverse):=by
     rw [List.reverse_cons,ic_append]
     exact hset.1
    have hset2:=below_grown hown hB hbl hset.2
    have hn1:(0:Int) ≤ (st.length:Int):=by omega
    have hn2:(st.length:Int) ≤ (cap:Int):=by omega
    clear hown hset
    by_cases hp:p < s.size
    ·have hd:=drop_at s p hp
     have hpe:((p:Int) == (s.size:Int)) = false:=by rw [beq_eq_false_iff_ne]; omega
     cases k with
     | zero =>
      by_cases c1:s[p].toNat = 93
      ·have HQ:Hid (behS st (s.data.toList.drop (p + 1)) = one (s.data.toList.drop fr)):=by
        rw [hid_iff, ← hq.out,hd,behS_arr st _ c1]
       have c1':((s[p].toNat:Int) == 93) = true:=by rw [beq_iff_eq]; omega
       clear c1 hq hd hset1 hset2 hfall
       go_wp2
       refine wp_goto ⟨⟨p + 1,st,_,rfl,rfl,rfl,rfl,by go_num,by omega,by omega,hk8,hpop,hbl,.inr ⟨rfl,HQ⟩⟩,?_⟩
       simp [edM,intOf]
       omega
      ·have HR:Hid (one (s.data.toList.drop fr) = none):=by
        rw [hid_iff, ← hq.out,hd,behS_arr_bad st _ c1]
       have c1':((s[p].toNat:Int) == 93) = false:=by rw [beq_eq_false_iff_ne]; omega
       clear c1 hq hd hset1 hset2 hfall hpop
       go_wp2
       go_ret
       exact endE_no HR.out rfl hbl
     | succ j =>
      generalize hkj:j + 1 = k at *
      have k0:((k:Int) == 0) = false:=by rw [beq_eq_false_iff_ne]; omega
      have k1:(0:Int) < (k:Int):=by omega
      by_cases c1:s[p].toNat = 41
      ·have HQ:Hid (begS st (s.data.toList.drop (p + 1)) = one (s.data.toList.drop fr)):=by
        rw [hid_iff, ← hq.out,hd, ← hkj,behS_close j st _ c1]
       have c1':((s[p].toNat:Int) == 41) = true:=by rw [beq_iff_eq]; omega
       clear c1 hq hd hset1 hset2 hfall hkj
       go_wp2
       refine wp_goto ⟨⟨p + 1,st,_,rfl,rfl,rfl,rfl,by go_num,by omega,by omega,hk8,hpop,hbl,.inl ⟨rfl,HQ⟩⟩,?_⟩
       simp [edM,intOf]
       omega
      ·have c1':((s[p].toNat:Int) == 41) = false:=by rw [beq_eq_false_iff_ne]; omega
       by_cases c2:k < 6
       ·have c2':(k:Int) < 6:=by omega
        by_cases c3:s[p].toNat = 44
        ·have HQ:Hid (begS ((k + 1) :: st) (s.data.toList.drop (p + 1)) = one (s.data.toList.drop fr)):=by
          rw [hid_iff, ← hq.out,hd, ← hkj,behS_comma j st _ c3 (by omega)]
         have c3':((s[p].toNat:Int) == 44) = true:=by rw [beq_iff_eq]; omega
         rw [show (((k + 1:Nat)):Int) = (k:Int) + 1 from rfl] at hset1 hset2
         clear c1 c3 hq hd hfall hkj hpop
         go_wp2
         refine wp_goto ⟨⟨p + 1,(k + 1) :: st,_,rfl,rfl,rfl,rfl,by go_num,by omega,by simp; omega,?k6,hset1,hset2,.inl ⟨rfl,HQ⟩⟩,?_⟩
         case k6=>intro x hx; simp at hx; rcases hx with rfl | hx; omega; exact hk8 x hx
         simp [edM,intOf]
         omega
        ·have HR:Hid (one (s.data.toList.drop fr) = none):=by
          rw [hid_iff, ← hq.out,hd, ← hkj,behS_bad j st _ c1 (fun h=>c3 h.1)]
         have c3':((s[p].toNat:Int) == 44) = false:=by rw [beq_eq_false_iff_ne]; omega
         clear c1 c2 c3 hq hd hset1 hset2 hfall hkj hpop
         go_wp2
         go_ret
         exact endE_no HR.out rfl hbl
       ·have c2':¬ (k:Int) < 6:=by omega
        have HR:Hid (one (s.data.toList.drop fr) = none):=by
         rw [hid_iff, ← hq.out,hd, ← hkj,behS_bad j st _ c1 (fun h=>c2 (by omega))]
        clear c1 c2 hq hd hset1 hset2 hfall hkj hpop
        go_wp2
        go_ret
        exact endE_no HR.out rfl hbl
    ·have hpe:p = s.size:=by omega
     have HR:Hid (one (s.data.toList.drop fr) = none):=by
      rw [hid_iff, ← hq.out,drop_end s p (by omega)]
      exact behS_nil k st
     subst hpe
     clear hq hset1 hset2 hfall hpop
     go_wp2
     go_ret
     exact endE_no HR.out rfl hbl
end Go.Proofs.YtiiepfplommmfaaGreatDoor

namespace Go.Proofs.YtiiepfplommmfaaGreatDoor
open Go.RowKit

def BoolB (b:Bool) (w:World) (e:Ending) (w':World):Prop:=e = .returned (.bool b) ∧ Below w.heap.size w w'
theorem end_len (L:List UInt8):((endI L 0 == (L.length:Int)) = true) ↔ one L = some []:=by
 rw [beq_iff_eq,endI,List.drop_zero]
 cases h:one L with
 | none=>simp
 | some r =>
  simp only [Option.some.injEq]
  constructor
  ·intro e
   exact List.eq_nil_of_length_eq_zero (by omega)
  ·rintro rfl
   simp
set_option maxHeartbeats 1000000 in
set_option maxRecDepth 1000000 in
theorem right (s:ByteArray) (w:World):Calls Tryz.prog 74 #[.string s] w (BoolB (rightR s.data.toList) w):=by
 by_cases hs:s.size ≤ 200
 ·have he:=fun u=>endAt s 0 u hs (by omega)
  have HR:Hid (rightR s.data.toList = (endI s.data.toList 0 == (s.size:Int))):=by
   rw [hid_iff,rightR,decide_eq_true (by rw [size_len]; exact hs),Bool.true_and,Bool.eq_iff_iff,decide_eq_true_iff, ← size_len,end_len]
  have hs':(s.size:Int) ≤ 200:=by omega
  generalize endI s.data.toList 0 = r at *
  go_enter Tryz.func74,Tryz.ntmps74
  go_wp2_with (go_at_call 132; refine (he _).mono ?_; rintro e w1 ⟨rfl,hb⟩)
  go_ret
  exact ⟨by rw [HR.out]; rfl,hb⟩
 ·have HR:Hid (rightR s.data.toList = false):=by
   rw [hid_iff,rightR,decide_eq_false (by rw [size_len]; exact hs)]; rfl
  have hs':¬ (s.size:Int) ≤ 200:=by omega
  clear hs
  go_enter Tryz.func74,Tryz.ntmps74
  go_wp2_with fail
  go_ret
  exact ⟨by rw [HR.out]; rfl,Below.refl _ _⟩
theorem rightR_len {l:List UInt8} (h:rightR l = true):l.length ≤ 200:=by
 rw [rightR,Bool.and_eq_true,decide_eq_true_iff] at h
 exact h.1
theorem rightR_one {l:List UInt8} (h:rightR l = true):one l = some []:=by
 rw [rightR,Bool.and_eq_true,decide_eq_true_iff,decide_eq_true_iff] at h
 exact h.2
theorem rightR_pos {l:List UInt8} (h:rightR l = true):0 < l.length:=by
 have:=one_len (rightR_one h)
 simpa using this
def isFn (l:List UInt8):Bool:=rightR l && isHead 40 l
theorem isHead_at (s:ByteArray) (n:Nat) (h:0 < s.size):isHead n s.data.toList = decide (s[0].toNat = n):=by
 have:=drop_at s 0 h
 rw [List.drop_zero] at this
 rw [this,isHead_cons]
theorem below_trans {w w1 w2:World} (h1:Below w.heap.size w w1) (h2:Below w1.heap.size w1 w2):Below w.heap.size w w2 :=
 h1.trans ⟨h2.os,h2.tape,h2.output,h2.size,fun k hk=>h2.block k (Nat.lt_of_lt_of_le hk h1.size)⟩
def StrRow (w:World) (v:Value) (xs:List (List UInt8)):Prop :=
 (xs = [] ∧ ∃ a c,v = .slice a 0 c) ∨ ∃ bk o c,v = .slice (some ⟨bk,o,none⟩) xs.length c ∧ bk < w.heap.size ∧ xs.length ≤ c ∧ ∀ (j:Nat) x,xs[j]? = some x → w.cell? ⟨bk,o + j,none⟩ = some (.string (str x))
theorem StrRow.below {w w':World} {v:Value} {xs:List (List UInt8)} (h:StrRow w v xs) (hb:Below w.heap.size w w'):StrRow w' v xs:=by
 rcases h with h | ⟨bk,o,c,rfl,h1,h2,h3⟩
 ·exact .inl h
 ·exact .inr ⟨bk,o,c,rfl,Nat.lt_of_lt_of_le h1 hb.size,h2,fun j x hj=>by
   have:=h3 j x hj
   unfold World.cell? at this ⊢
   rw [hb.block bk h1]
   exact this⟩
theorem StrRow.shape {w:World} {v:Value} {xs:List (List UInt8)} (h:StrRow w v xs):∃ a c,v = .slice a xs.length c:=by
 rcases h with ⟨rfl,a,c,rfl⟩ | ⟨bk,o,c,rfl,_⟩
 ·exact ⟨a,c,rfl⟩
 ·exact ⟨_,c,rfl⟩
def sc (l:List (List UInt8)):List Value:=l.map fun x=>Value.string (str x)
theorem sc_append (a b:List (List UInt8)):sc (a ++ b) = sc a ++ sc b:=by simp [sc]
theorem strRow_own {w:World} {B e:Nat} {v:Value} {xs:List (List UInt8)} (h:w.ownsRow B e 1 v xs.length (sc xs)):StrRow w v xs:=by
 rcases h.2 with ⟨rfl,hn⟩ | ⟨g,cap,cur,rfl,hb,hg,h1,_⟩
 ·exact .inl ⟨List.eq_nil_of_length_eq_zero hn,none,0,rfl⟩
 ·refine .inr ⟨g,0,cap,rfl,(Array.getElem?_eq_some_iff.1 hg).1,h1,fun j x hj=>?_⟩
  have hlt:=(List.getElem?_eq_some_iff.1 hj).1
  rw [Nat.zero_add,h.cellAt j (by omega)]
  simp [sc,hj]
theorem map_data (xs:List (List UInt8)):(xs.map str).map (·.data.toList) = xs:=by
 rw [List.map_map]
 conv=>rhs; rw [← List.map_id xs]
 rfl
set_option maxHeartbeats 1000000 in
set_option maxRecDepth 1000000 in
theorem func (v : Value) (ps : List (List UInt8)) (r : List UInt8) (w : World) (hv : StrRow w v ps) (hn : ps.length ≤ 1000000) (hj : (joinR ps).length ≤ 1000000000) (hr : r.length ≤ 1000000000) :
  Calls Tryz.prog 50 #[v,.string (str r)] w (TextB (funcR ps r) w):=by
 have hjo:Calls Tryz.prog 109 #[v,.string ⟨#[44]⟩] w (TextB (joinR ps) w):=by
  rcases hv with ⟨rfl,a,c,rfl⟩ | ⟨bk,o,c,rfl,h1,h2,h3⟩
  ·refine (Tryz.strings_Join_none a c ⟨#[44]⟩ w).mono ?_
   rintro e w1 ⟨rfl,rfl⟩
   exact ⟨rfl,Below.refl _ _⟩
  ·have:=Tryz.strings_Join bk o c (ps.map str) ⟨#[44]⟩ w (fun j x hx=>?_) h1 (by simp; omega) (by simpa using h2) (by rw [map_data]; exact Nat.le_trans hj (by omega))
   ·rw [map_data,List.length_map] at this
    exact this.mono fun e w1 h=>h
   ·rw [List.getElem?_map] at hx
    obtain ⟨y,hy,rfl⟩:=Option.map_eq_some_iff.1 hx
    exact h3 j y hy
 clear hv
 have hxs:(str (joinR ps)).size = (joinR ps).length:=rfl
 have hrs:(str r).size = r.length:=rfl
 have HE:Hid ((⟨#[40]⟩:ByteArray) ++ str (joinR ps) ++ ⟨#[41]⟩ ++ str r = str (funcR ps r)):=by
  rw [hid_iff,show (⟨#[40]⟩:ByteArray) = str [40] from rfl,show (⟨#[41]⟩:ByteArray) = str [41] from rfl,str_append,str_append,str_append,funcR]
  simp
 generalize joinR ps = x at *
 go_enter Tryz.func50,Tryz.ntmps50
 go_wp2_with (go_at_call 109; refine hjo.mono ?_; rintro e w1 ⟨rfl,hb⟩)
 go_ret
 exact ⟨by rw [← HE.out]; rfl,hb⟩
end Go.Proofs.YtiiepfplommmfaaGreatDoor

namespace Go.Proofs.YtiiepfplommmfaaGreatDoor
open Go.RowKit

theorem infoS:(Tryz.prog.info? 9).map (fun i=>(i.zero.map (fun z=>z.cells.size),i.size,i.bytes)) = some (some 1,1,16):=by kernel_rfl
theorem append_text {w : World} {ops : Array Oper} {rest : List Oper} {o : Oper} {a : Act} {Q : Exit → Act → World → Prop} (hgd : o.guard = none) (s x : Operand)
  (ho:o.op = .call { callee := .builtin .append,args:=#[s,x],argTypes:=#[23,23] })
  (B:Nat) (v:Value) (acc:List (List UInt8)) (hs:a.eval s = v) (hown:w.ownsRow B 9 1 v acc.length (sc acc))
  (ad:Addr) (c:Nat) (n:List UInt8) (hx:a.eval x = .slice (some ad) 1 c) (hnews:∀ j u,(sc [n])[j]? = some u → w.cell? (ad.add j) = some u)
  (hlen:acc.length + 1 ≤ 8193) (hB:B ≤ w.heap.size)
  (h:∀ ad' c' w',w'.ownsRow B 9 1 (.slice (some ad') (acc.length + 1) c') (acc ++ [n]).length (sc (acc ++ [n])) → w.grownBy w' v.ownBlock → wpList Tryz.prog ops Q rest (a.put o.dst (.slice (some ad') (acc.length + 1) c')) w') :
  wpList Tryz.prog ops Q (o :: rest) a w:=by
 obtain ⟨i,z,hi,hz,h1,h2,h3⟩:=info_z infoS
 refine wpList_append_own w hgd s x 23 ho B 9 i z 1 16 Tryz.underlying23 hi hz h1 h2 h3 (by decide) v acc.length (sc acc) hs hown ad 1 c (sc [n]) hx rfl hnews (fun u hu=>?_) (by unfold maxLen; omega) (by omega) hB ?_
 ·obtain ⟨_,_,rfl⟩:=List.mem_map.1 hu
  rfl
 intro v' w' k1 k2 k3
 rcases k1.2 with ⟨rfl,hz⟩ | ⟨g,cap,cur,rfl,_⟩
 ·omega
 ·rw [← sc_append] at k1
  exact h ⟨g,0,none⟩ cap w' (by simpa using k1) k2
theorem frame44 (a:Act) (h:a.tmps.size = 44) (hd:a.defers = []):∃ f:Nat → Value,a = { tmps:=#[f 0,f 1,f 2,f 3,f 4,f 5,f 6,f 7,f 8,f 9,f 10,f 11,f 12,f 13,f 14,f 15,f 16,f 17,f 18,f 19,f 20,f 21,f 22,f 23,f 24,f 25,f 26,f 27,f 28,f 29,f 30,f 31,f 32,f 33,f 34,f 35,f 36,f 37,f 38,f 39,f 40,f 41,f 42,f 43],defers:=[] }:=by
 refine ⟨fun k=>a.tmps.getD k undef,?_⟩
 obtain ⟨t,d⟩:=a
 simp only at h hd
 subst hd
 have e:=arr_map t
 rw [h] at e
 simp only [Act.mk.injEq,and_true]
 exact e
def PartsE (l:List UInt8) (w:World) (e:Ending) (w':World):Prop :=
 ((isFn l = true ∧ ∃ v,e = .returned (.tuple #[v,.string (str (partsR l).2),.bool true]) ∧ StrRow w' v (partsR l).1) ∨ (isFn l = false ∧ e = .returned (.tuple #[.slice none 0 0,.string (str []),.bool false]))) ∧ Below w.heap.size w w'
theorem param_at {L:List UInt8} {p:Nat} {c:UInt8} {r:List UInt8} (h:one (L.drop p) = some (c :: r)):∃ q,p < q ∧ q < L.length ∧ endI L p = (q:Int) ∧ L.drop q = c :: r ∧ (L.drop p).take ((L.drop p).length - (r.length + 1)) = (L.drop p).take (q - p) ∧ L.drop (q + 1) = r:=by
 obtain ⟨x,hx,e⟩:=one_suffix h
 have hl:=congrArg List.length e
 simp only [List.length_drop,List.length_append,List.length_cons] at hl
 have hx':0 < x.length:=List.length_pos_iff.2 hx
 have hq:L.drop (p + x.length) = c :: r:=by rw [← List.drop_drop,e]; simp
 refine ⟨p + x.length,by omega,by omega,?_,hq,?_,drop_cons hq⟩
 ·rw [endI,h]
  simp
  omega
 ·rw [List.length_drop]
  congr 1
  omega
def ptJ (s:ByteArray) (w0:World) (lp lc l:Nat) (a:Act) (w:World):Prop :=
 ∃ (p:Nat) (acc:List (List UInt8)) (v:Value),a.tmps.size = 44 ∧ a.defers = [] ∧ a.tmps.getD 0 undef = .string s ∧ a.tmps.getD 5 undef = v ∧ a.tmps.getD 7 undef = .int .i64 (p:Int) ∧
  p < s.size ∧ acc.length ≤ 6 ∧ w.ownsRow w0.heap.size 9 1 v acc.length (sc acc) ∧ Below w0.heap.size w0 w ∧
  ((l = lp ∧ acc.length < 6 ∧ Hid (Goes acc.length (s.data.toList.drop p)) ∧ Hid (partsR s.data.toList = (acc ++ (psQ (s.data.toList.drop p)).1,(psQ (s.data.toList.drop p)).2))) ∨
   (l = lc ∧ Hid (partsR s.data.toList = (acc,s.data.toList.drop (p + 1)))))
def ptM (s:ByteArray) (lp l:Nat) (a:Act) (_:World):Nat :=
 if l = lp then (s.size - (intOf (a.tmps.getD 7 undef)).toNat) + 1 else 0
set_option maxHeartbeats 2000000 in
set_option maxRecDepth 1000000 in
theorem parts_fn (s:ByteArray) (w:World) (hr:rightR s.data.toList = true) (hh:isHead 40 s.data.toList = true):Calls Tryz.prog 209 #[.string s] w (PartsE s.data.toList w):=by
 have hl:=rightR_len hr
 have h1:=rightR_one hr
 have HF:Hid (isFn s.data.toList = true):=by rw [hid_iff,isFn,hr,hh]; rfl
 have hrt:=right s
 rw [hr] at hrt
 rw [size_len] at hl
 have hp0:0 < s.size:=by have:=rightR_pos hr; rw [size_len] at this; exact this
 have hd0:=drop_at s 0 hp0
 rw [List.drop_zero] at hd0
 rw [isHead_at s 40 hp0] at hh
 have c0:=of_decide_eq_true hh
 have hp1:1 < s.size:=by
  rw [hd0] at h1
  rcases Nat.lt_or_ge 1 s.size with h | h
  ·exact h
  ·rw [drop_end s (0 + 1) (by omega)] at h1
   rw [one_fn [] c0 (by simp),one_nil] at h1
   cases h1
 have hd1:=drop_at s 1 hp1
 have c0':((s[0].toNat:Int) != 40) = false:=by simp; omega
 have hpz:(0:Int) < (s.size:Int):=by omega
 have hpo:(1:Int) < (s.size:Int):=by omega
 have hti:s.data.toList.tail = s.data.toList.drop 1:=by rw [hd0]; simp
 have HP1:s[1].toNat = 41 → Hid (partsR s.data.toList = ([],s.data.toList.drop (1 + 1))):=by
  intro h
  rw [hid_iff,partsR,hti,hd1,isHead_cons,decide_eq_true h]
  simp
 have HP2:s[1].toNat ≠ 41 → Hid (partsR s.data.toList = ([] ++ (psQ (s.data.toList.drop 1)).1,(psQ (s.data.toList.drop 1)).2)):=by
  intro h
  rw [hid_iff,partsR,hti,show isHead 41 (s.data.toList.drop 1) = false from by rw [hd1,isHead_cons,decide_eq_false h]]
  rfl
 have HP3:s[1].toNat ≠ 41 → Hid (Goes 0 (s.data.toList.drop 1)):=by
  intro h
  rw [hd0] at h1
  exact goes_first c0 h1 (by rw [hd1,isHead_cons,decide_eq_false h])
 clear hr hh h1 hd0 hd1 c0 hti
 go_enter Tryz.func209,Tryz.ntmps209
 go_wp2_with fail
 refine wp_scope_fall (ptJ s w 1 0) (ptM s 1) ?_ ?_
 ·intro hp
  replace hp:=hidden hp
  by_cases c1:s[1].toNat = 41
  ·have c1':((s[1].toNat:Int) == 41) = true:=by rw [beq_iff_eq]; omega
   have HQ:=HP1 c1
   clear HP1 HP2 HP3 c1
   go_wp2_with (go_at_call 74; refine (hrt _).mono ?_; rintro e w0 ⟨rfl,hb0⟩)
   refine wp_goto ⟨1,[],_,rfl,rfl,rfl,rfl,rfl,hp1,by simp,World.ownsRow_nil _ _ _ _,hb0,.inr ⟨rfl,HQ⟩⟩
  ·have c1':((s[1].toNat:Int) == 41) = false:=by rw [beq_eq_false_iff_ne]; omega
   have HQ:=HP2 c1
   have HG:=HP3 c1
   clear HP1 HP2 HP3 c1
   go_wp2_with (go_at_call 74; refine (hrt _).mono ?_; rintro e w0 ⟨rfl,hb0⟩)
   rename_i hK
   refine wp_label (hK _ _ (hp.out 1 _ _ _ rfl ⟨1,[],_,rfl,rfl,rfl,rfl,rfl,hp1,by simp,World.ownsRow_nil _ _ _ _,hb0,.inl ⟨rfl,by simp,HG,HQ⟩⟩))
 ·rintro l a w1 ⟨p,acc,v,ha1,ha2,ha3,ha4,ha5,hps,hacc,hown,hbl,hl'⟩ hfall
  replace hfall:=hidden hfall
  obtain ⟨f,rfl⟩:=frame44 a ha1 ha2
  replace ha3:f 0 = .string s:=ha3
  replace ha4:f 5 = v:=ha4
  replace ha5:f 7 = .int .i64 (p:Int):=ha5
  rw [ha3,ha4,ha5] at hfall ⊢
  clear ha1 ha2 ha3 ha4 ha5 HP1 HP2 HP3
  have hB:w.heap.size ≤ w1.heap.size:=hbl.size
  rcases hl' with ⟨rfl,hac6,hg,hq⟩ | ⟨rfl,hq⟩
  ·refine ⟨_,rfl,?_⟩
   obtain ⟨c,r,h1,h2⟩:=goes_next hg.out
   obtain ⟨q,hq1,hq2,hq3,hq4,hq5,hq6⟩:=param_at h1
   rw [size_len] at hq2
   have hqq:=psQ_some h1
   rw [hq5] at hqq
   have he:=fun u=>endAt s p u hl (by omega)
   rw [hq3] at he
   have hcx:s[q] = c:=by
    have:=drop_at s q hq2
    rw [hq4] at this
    simp only [List.cons.injEq] at this
    exact this.1.symm
   have hcl:=fun u=>sClone (s.extract p q) u (by simp; omega)
   have hex:s.extract p q = str ((s.data.toList.drop p).take (q - p)):=extract_str s p q
   rw [hex] at hcl
   have hpq:(p:Int) ≤ (q:Int):=by omega
   have hqs:(q:Int) ≤ (s.size:Int):=by omega
   have hqs':(q:Int) < (s.size:Int):=by omega
   rcases h2 with ⟨hc,hone⟩ | ⟨hc,hk6,hgo⟩
   ·rw [if_neg (by omega)] at hqq
    have HQ:Hid (partsR s.data.toList = (acc ++ [(s.data.toList.drop p).take (q - p)],s.data.toList.drop (q + 1))):=by
     rw [hid_iff,hq.out,hqq,hq6]
    have c1':((s[q].toNat:Int) == 44) = false:=by rw [beq_eq_false_iff_ne,hcx]; omega
    generalize (s.data.toList.drop p).take (q - p) = x at *
    clear hg hq h1 hq3 hq4 hq5 hq6 hqq hcx hc hone
    go_wp2_with fail
    refine (he _).mono ?_
    rintro e w2 ⟨rfl,hb2⟩
    have ho2:=owns_below hown hb2
    have hb3:Below w.heap.size w w2:=hbl.trans ⟨hb2.os,hb2.tape,hb2.output,hb2.size,fun k hk=>hb2.block k (by omega)⟩
    clear hb2 hbl hown
    go_wp2_with fail
    refine (hcl _).mono ?_
    rintro e w3 ⟨rfl,hb4⟩
    have hB2:w.heap.size ≤ w2.heap.size:=hb3.size
    have ho4:=owns_below ho2 hb4
    have hb5:Below w.heap.size w w3:=hb3.trans ⟨hb4.os,hb4.tape,hb4.output,hb4.size,fun k hk=>hb4.block k (by omega)⟩
    have hB3:w.heap.size ≤ w3.heap.size:=hb5.size
    clear hb3 hb4 ho2
    go_wp2_with (at_builtin; refine append_text rfl (.tmp 24) (.tmp 30) rfl w.heap.size v acc rfl (ho4.alloc _) _ _ x rfl ?src ?len ?hB ?next)
    case src=>first | exact cells_new _ _ _ | exact fun j u h=>h
    case len=>first | omega | (simp; omega)
    case hB=>first | omega | (simp; omega)
    case next =>
     intro ad c' w' k1 k2
     have k3:=below_grown (ho4.alloc _) (by simp; omega) (hb5.alloc hB3 _) k2
     clear k2 ho4 hb5
     go_wp2
     rename_i hK
     refine wp_label (hK _ _ (hfall.out 0 _ _ _ rfl ⟨q,acc ++ [x],_,rfl,rfl,rfl,rfl,rfl,hq2,by simp; omega,by simpa using k1,k3,.inr ⟨rfl,HQ⟩⟩ ?_))
     simp [ptM]
   ·rw [if_pos hc] at hqq
    have HQ:Hid (partsR s.data.toList = ((acc ++ [(s.data.toList.drop p).take (q - p)]) ++ (psQ (s.data.toList.drop (q + 1))).1,(psQ (s.data.toList.drop (q + 1))).2)):=by
     rw [hid_iff,hq.out,hqq,hq6]; simp
    have HG:Hid (Goes (acc ++ [(s.data.toList.drop p).take (q - p)]).length (s.data.toList.drop (q + 1))):=by
     rw [hid_iff,hq6,List.length_append]; exact hgo
    have hqe:q + 1 < s.size:=by
     obtain ⟨c',r',h3,_⟩:=goes_next HG.out
     have:=one_len h3
     rw [List.length_drop,size_len] at this
     omega
    have c1':((s[q].toNat:Int) == 44) = true:=by rw [beq_iff_eq,hcx]; omega
    generalize (s.data.toList.drop p).take (q - p) = x at *
    clear hg hq h1 hq3 hq4 hq5 hq6 hqq hcx hc hgo hfall
    go_wp2_with fail
    refine (he _).mono ?_
    rintro e w2 ⟨rfl,hb2⟩
    have ho2:=owns_below hown hb2
    have hb3:Below w.heap.size w w2:=hbl.trans ⟨hb2.os,hb2.tape,hb2.output,hb2.size,fun k hk=>hb2.block k (by omega)⟩
    clear hb2 hbl hown
    go_wp2_with fail
    refine (hcl _).mono ?_
    rintro e w3 ⟨rfl,hb4⟩
    have hB2:w.heap.size ≤ w2.heap.size:=hb3.size
    have ho4:=owns_below ho2 hb4
    have hb5:Below w.heap.size w w3:=hb3.trans ⟨hb4.os,hb4.tape,hb4.output,hb4.size,fun k hk=>hb4.block k (by omega)⟩
    have hB3:w.heap.size ≤ w3.heap.size:=hb5.size
    clear hb3 hb4 ho2
    go_wp2_with (at_builtin; refine append_text rfl (.tmp 24) (.tmp 30) rfl w.heap.size v acc rfl (ho4.alloc _) _ _ x rfl ?src ?len ?hB ?next)
    case src=>first | exact cells_new _ _ _ | exact fun j u h=>h
    case len=>first | omega | (simp; omega)
    case hB=>first | omega | (simp; omega)
    case next =>
     intro ad c' w' k1 k2
     have k3:=below_grown (ho4.alloc _) (by simp; omega) (hb5.alloc hB3 _) k2
     clear k2 ho4 hb5
     go_wp2
     refine wp_goto ⟨⟨q + 1,acc ++ [x],_,rfl,rfl,rfl,rfl,by go_num,hqe,by simp; omega,by simpa using k1,k3,.inl ⟨rfl,by simp; omega,HG,HQ⟩⟩,?_⟩
     simp [ptM,intOf]
     omega
  ·refine ⟨_,rfl,?_⟩
   have hcl:=fun u=>sClone (s.extract (p + 1) s.size) u (by have:=ext_size s (p + 1); omega)
   have HX:Hid (s.extract (p + 1) s.size = str (s.data.toList.drop (p + 1))):=str_drop s (p + 1)
   have hp2:(p:Int) + 1 ≤ (s.size:Int):=by omega
   clear hfall
   go_wp2_with fail
   refine (hcl _).mono ?_
   rintro e w2 ⟨rfl,hb2⟩
   have ho2:=owns_below hown hb2
   have hb3:Below w.heap.size w w2:=hbl.trans ⟨hb2.os,hb2.tape,hb2.output,hb2.size,fun k hk=>hb2.block k (by omega)⟩
   go_wp2
   go_ret3
   refine ⟨.inl ⟨HF.out,v,?_,?_⟩,hb3⟩
   ·rw [hq.out, ← HX.out]; rfl
   ·rw [hq.out]; exact strRow_own ho2
set_option maxHeartbeats 1000000 in
set_option maxRecDepth 1000000 in
theorem partsOf (s:ByteArray) (w:World):Calls Tryz.prog 209 #[.string s] w (PartsE s.data.toList w):=by
 have hrt:=right s
 cases h0:rightR s.data.toList
 ·have HF:Hid (isFn s.data.toList = false):=by rw [hid_iff,isFn,h0]; rfl
  rw [h0] at hrt
  clear h0
  go_enter Tryz.func209,Tryz.ntmps209
  go_wp2_with fail
  refine wp_scope_labels (fun _ _ _=>False) (fun _ _ _=>0) ?_ (fun _ _ _ h=>h.elim)
  intro hz
  clear hz
  go_wp2_with (go_at_call 74; refine (hrt _).mono ?_; rintro e w0 ⟨rfl,hb0⟩)
  show bodyPost Tryz.prog Tryz.f209 (PartsE s.data.toList w) Exit.ret _ _
  go_ret3
  exact ⟨.inr ⟨HF.out,rfl⟩,hb0⟩
 ·cases h1:isHead 40 s.data.toList
  ·have HF:Hid (isFn s.data.toList = false):=by rw [hid_iff,isFn,h0,h1]; rfl
   have hp0:0 < s.size:=by have:=rightR_pos h0; rw [size_len] at this; exact this
   rw [isHead_at s 40 hp0] at h1
   have c0':((s[0].toNat:Int) != 40) = true:=by have:=of_decide_eq_false h1; simp; omega
   have hpz:(0:Int) < (s.size:Int):=by omega
   rw [h0] at hrt
   clear h0 h1
   go_enter Tryz.func209,Tryz.ntmps209
   go_wp2_with fail
   refine wp_scope_labels (fun _ _ _=>False) (fun _ _ _=>0) ?_ (fun _ _ _ h=>h.elim)
   intro hz
   clear hz
   go_wp2_with (go_at_call 74; refine (hrt _).mono ?_; rintro e w0 ⟨rfl,hb0⟩)
   show bodyPost Tryz.prog Tryz.f209 (PartsE s.data.toList w) Exit.ret _ _
   go_ret3
   exact ⟨.inr ⟨HF.out,rfl⟩,hb0⟩
  ·exact parts_fn s w h0 h1
end Go.Proofs.YtiiepfplommmfaaGreatDoor

namespace Go.Proofs.YtiiepfplommmfaaGreatDoor

end Go.Proofs.YtiiepfplommmfaaGreatDoor

namespace Go.Proofs.YtiiepfplommmfaaGreatDoor
open Go.RowKit

structure Kept (S:Nat → Prop) (w w':World):Prop where
 os:w'.os = w.os
 tape:w'.tape = w.tape
 output:w'.output = w.output
 size:w.heap.size ≤ w'.heap.size
 block:∀ k,k < w.heap.size → ¬ S k → w'.heap[k]? = w.heap[k]?
theorem Kept.refl (S:Nat → Prop) (w:World):Kept S w w:=⟨rfl,rfl,rfl,Nat.le_refl _,fun _ _ _=>rfl⟩
theorem Kept.trans {S T U:Nat → Prop} {a b c:World} (h:Kept S a b) (k:Kept T b c) (hS:∀ x,x < a.heap.size → S x → U x) (hT:∀ x,x < a.heap.size → T x → U x):Kept U a c :=
 ⟨k.os.trans h.os,k.tape.trans h.tape,k.output.trans h.output,Nat.le_trans h.size k.size,fun i hi hu=>(k.block i (Nat.lt_of_lt_of_le hi h.size) (fun e=>hu (hT i hi e))).trans (h.block i hi (fun e=>hu (hS i hi e)))⟩
theorem Kept.mono {S T:Nat → Prop} {a b:World} (h:Kept S a b) (hS:∀ x,x < a.heap.size → S x → T x):Kept T a b :=
 ⟨h.os,h.tape,h.output,h.size,fun i hi hu=>h.block i hi (fun e=>hu (hS i hi e))⟩
theorem Kept.alloc {S:Nat → Prop} {a w:World} (h:Kept S a w) (o:Obj):Kept S a (w.alloc o) :=
 ⟨h.os,h.tape,h.output,Nat.le_trans h.size (by simp),fun i hi hu=>(Below.heap_alloc _ _ _ (Nat.lt_of_lt_of_le hi h.size)).trans (h.block i hi hu)⟩
theorem Kept.drew {S:Nat → Prop} {a w:World} (h:Kept S a w):Kept S a w.drew:=⟨h.os,h.tape,h.output,h.size,h.block⟩
theorem Kept.setCell {S:Nat → Prop} {a w:World} (h:Kept S a w) {p:Addr} (hp:p.block < a.heap.size → S p.block) (u:Value):Kept S a (w.setCell p u) :=
 ⟨h.os,h.tape,h.output,by simpa [World.setCell] using h.size,fun i hi hu=>(Below.heap_setCell _ _ _ _ (fun e=>hu (by subst e; exact hp hi))).trans (h.block i hi hu)⟩
theorem Kept.grown {S:Nat → Prop} {a w w':World} {row:Option Nat} (h:Kept S a w) (hg:w.grownBy w' row) (hr:∀ k,row = some k → k < a.heap.size → S k):Kept S a w' :=
 ⟨hg.os.trans h.os,hg.tape.trans h.tape,hg.output.trans h.output,Nat.le_trans h.size hg.size,fun i hi hu=>(hg.block i (Nat.lt_of_lt_of_le hi h.size) (fun e=>hu (hr i e.symm hi))).trans (h.block i hi hu)⟩
theorem Kept.below {S:Nat → Prop} {a w:World} {B:Nat} (h:Kept S a w) (hB:B ≤ a.heap.size) (hS:∀ x,x < B → ¬ S x):Below B a w :=
 ⟨h.os,h.tape,h.output,h.size,fun k hk=>h.block k (by omega) (hS k hk)⟩
theorem Kept.cell {S:Nat → Prop} {a w:World} (h:Kept S a w) {p:Addr} {v:Value} (hc:a.cell? p = some v) (hp:¬ S p.block):w.cell? p = some v :=
 (World.cell?_of_block (h.block p.block (World.block_lt_of_cell? a p hc) hp)).trans hc
theorem Kept.own {S:Nat → Prop} {w w':World} {B e size n:Nat} {v:Value} {xs:List Value} (k:Kept S w w') (h:w.ownsRow B e size v n xs) (hg:∀ g,v.ownBlock = some g → ¬ S g):w'.ownsRow B e size v n xs:=by
 refine ⟨h.1,?_⟩
 rcases h.2 with hn | ⟨g,cap,cur,rfl,hb,hgg,rest⟩
 ·exact .inl hn
 ·exact .inr ⟨g,cap,cur,rfl,hb,(k.block g (Array.getElem?_eq_some_iff.1 hgg).1 (hg g rfl)).trans hgg,rest⟩
end Go.Proofs.YtiiepfplommmfaaGreatDoor

namespace Go.Proofs.YtiiepfplommmfaaGreatDoor
open Go.RowKit

def TxR (F:Nat → Prop) (w:World) (v:Value) (xs:List (List UInt8)):Prop :=
 (∃ a c,v = .slice a 0 c ∧ xs = []) ∨ ∃ g o cap,v = .slice (some ⟨g,o,none⟩) xs.length cap ∧ F g ∧ ∀ (j:Nat) x,xs[j]? = some x → w.cell? ⟨g,o + j,none⟩ = some (.string (str x))
theorem TxR.frame {F G:Nat → Prop} {w w':World} (hF:∀ g,F g → G g ∧ w'.heap[g]? = w.heap[g]?) {v:Value} {xs:List (List UInt8)} (h:TxR F w v xs):TxR G w' v xs:=by
 rcases h with h | ⟨g,o,cap,h1,h2,h3⟩
 ·exact .inl h
 ·refine .inr ⟨g,o,cap,h1,(hF g h2).1,fun j x hj=>?_⟩
  rw [World.cell?_of_block (w:=w) (hF g h2).2]
  exact h3 j x hj
theorem TxR.shape {F:Nat → Prop} {w:World} {v:Value} {xs:List (List UInt8)} (h:TxR F w v xs):∃ a c,v = .slice a xs.length c:=by
 rcases h with ⟨a,c,rfl,rfl⟩ | ⟨g,o,cap,rfl,_⟩
 ·exact ⟨a,c,rfl⟩
 ·exact ⟨_,_,rfl⟩
theorem TxR.nil (F:Nat → Prop) (w:World):TxR F w (.slice none 0 0) [] := .inl ⟨none,0,rfl,rfl⟩
end Go.Proofs.YtiiepfplommmfaaGreatDoor

namespace Go.Proofs.YtiiepfplommmfaaGreatDoor
open Go.RowKit Go.Sort

end Go.Proofs.YtiiepfplommmfaaGreatDoor

namespace Go.Proofs.YtiiepfplommmfaaGreatDoor
open Go.RowKit

theorem less_is (a b:List UInt8):Op.bytesLess (str a).toList (str b).toList = decide (a < b):=by
 rw [Lib.toList_data,Lib.toList_data,str_data,str_data,bytesLess_eq]
theorem geq_is (a b:List UInt8):(!Op.bytesLess (str a).toList (str b).toList) = decide (b ≤ a):=by
 rw [less_is, ← decide_not,Bool.eq_iff_iff,decide_eq_true_iff,decide_eq_true_iff,List.not_lt]
theorem neq_is (a b:List UInt8):((str a).toList != (str b).toList) = decide (a ≠ b):=by
 rw [Lib.toList_data,Lib.toList_data,str_data,str_data,Bool.eq_iff_iff,bne_iff_ne,decide_eq_true_iff]
theorem eq_is (a b:List UInt8):((str a).toList == (str b).toList) = decide (a = b):=by
 rw [Lib.toList_data,Lib.toList_data,str_data,str_data,Bool.eq_iff_iff,beq_iff_eq,decide_eq_true_iff]
end Go.Proofs.YtiiepfplommmfaaGreatDoor
