/-
  The document's own Name, Value, Big: their walks.
  And: The statements' Same at texts. What the document's own reader of types takes: the type with which a text begins, whatever comes behind it; how that hangs together with the chapter's. No program in it. The document's own tests of letters, and what its reader of types answers.
-/
import Derived.Test.YtiiepfplommmfaaGreatDoorG02
import Derived.Deep.LoopGhost
import Derived.Test.YtiiepfplommmfaaGreatDoorG01
import Derived.Test.YtiiepfplommmfaaGreatDoorG03
namespace Go.Proofs.YtiiepfplommmfaaGreatDoor
open Go.RowKit

def fstOk (l:List UInt8):Prop:=∀ c r,l = c :: r → isDigit c = false
theorem fstOk_of (s:ByteArray) (h:0 < s.size) (hd:isDigit s[0] = false):fstOk s.data.toList:=by
 intro c r e
 have:=head_s s h
 rw [e] at this
 cases this
 exact hd
theorem digit_of (s:ByteArray) (h:0 < s.size) (hf:fstOk s.data.toList):isDigit s[0] = false:=by
 have:=drop_at s 0 h
 rw [List.drop_zero] at this
 exact hf _ _ this
set_option maxHeartbeats 4000000 in
set_option maxRecDepth 1000000 in
theorem refName (s:ByteArray) (w:World) (hs:s.size ≤ 9223372036854775806):Calls Tryz.prog 84 #[.string s] w (Pu (.bool (nameR s.data.toList)) w):=by
 go_enter Tryz.func84,Tryz.ntmps84
 go_wp2
 go_loopg [3] s.size (fun g i wr=>∃ (k:Nat),g + k = s.size ∧ i = .int .i64 k ∧ Hid ((s.data.toList.take k).all isLetter = true) ∧ Hid (0 < k → fstOk s.data.toList) ∧ w = wr)
 case atStart=>exact ⟨0,rfl,rfl,rfl,fun h=>absurd h (by omega),rfl⟩
 case round =>
  obtain ⟨k,hg,rfl,hall,hfst,rfl⟩:=hrel
  by_cases hk:k < s.size
  ·have h256:s[k].toNat < 256:=s[k].toNat_lt
   by_cases a1:97 ≤ s[k].toNat
   ·have a1':(97:Int) ≤ (s[k].toNat:Int):=by omega
    by_cases a2:s[k].toNat ≤ 122
    ·have a2':(s[k].toNat:Int) ≤ 122:=by omega
     have HA:Hid ((s.data.toList.take (k + 1)).all isLetter = true):=take_all s k hk hall.out (by simp [isLetter,isSmall,a1,a2])
     have HD:Hid (0 < k + 1 → fstOk s.data.toList):=fun _=>(by
      rcases Nat.eq_zero_or_pos k with h0 | h0
      ·subst h0
       exact fstOk_of s hk (by simp [isDigit]; omega)
      ·exact hfst.out h0)
     clear hall hfst
     clear a1 a2
     go_wp2
     go_roundg (s.size - (k + 1))
     case measure=>omega
     case rel=>exact ⟨k + 1,by omega,by go_num,HA,HD,rfl⟩
    ·have a2':¬ (s[k].toNat:Int) ≤ 122:=by omega
     have b1':(65:Int) ≤ (s[k].toNat:Int):=by omega
     have b2':¬ (s[k].toNat:Int) ≤ 90:=by omega
     have c':((s[k].toNat:Int) == 95) = false:=by rw [beq_eq_false_iff_ne]; omega
     have d1':(48:Int) ≤ (s[k].toNat:Int):=by omega
     have d2':¬ (s[k].toNat:Int) ≤ 57:=by omega
     have HN:Hid (nameR s.data.toList = false):=by
      have:=not_all s k hk (by simp [isLetter,isSmall,isLarge,isDigit]; omega)
      simp [Hid,nameR,this]
     clear a1 a2 hall hfst
     go_wp2
     go_ret
     exact ⟨by rw [HN.out]; rfl,rfl⟩
   have a1':¬ (97:Int) ≤ (s[k].toNat:Int):=by omega
   by_cases b1:65 ≤ s[k].toNat
   ·have b1':(65:Int) ≤ (s[k].toNat:Int):=by omega
    by_cases b2:s[k].toNat ≤ 90
    ·have b2':(s[k].toNat:Int) ≤ 90:=by omega
     have HA:Hid ((s.data.toList.take (k + 1)).all isLetter = true):=take_all s k hk hall.out (by simp [isLetter,isLarge,b1,b2])
     have HD:Hid (0 < k + 1 → fstOk s.data.toList):=fun _=>(by
      rcases Nat.eq_zero_or_pos k with h0 | h0
      ·subst h0
       exact fstOk_of s hk (by simp [isDigit]; omega)
      ·exact hfst.out h0)
     clear hall hfst
     clear a1 b1 b2
     go_wp2
     go_roundg (s.size - (k + 1))
     case measure=>omega
     case rel=>exact ⟨k + 1,by omega,by go_num,HA,HD,rfl⟩
    ·have b2':¬ (s[k].toNat:Int) ≤ 90:=by omega
     by_cases c:s[k].toNat = 95
     ·have c':((s[k].toNat:Int) == 95) = true:=by rw [beq_iff_eq]; omega
      have HA:Hid ((s.data.toList.take (k + 1)).all isLetter = true):=take_all s k hk hall.out (by simp [isLetter,c])
      have HD:Hid (0 < k + 1 → fstOk s.data.toList):=fun _=>(by
       rcases Nat.eq_zero_or_pos k with h0 | h0
       ·subst h0
        exact fstOk_of s hk (by simp [isDigit]; omega)
       ·exact hfst.out h0)
      clear hall hfst
      clear a1 b1 b2 c
      go_wp2
      go_roundg (s.size - (k + 1))
      case measure=>omega
      case rel=>exact ⟨k + 1,by omega,by go_num,HA,HD,rfl⟩
     ·have c':((s[k].toNat:Int) == 95) = false:=by rw [beq_eq_false_iff_ne]; omega
      have d1':(48:Int) ≤ (s[k].toNat:Int):=by omega
      have d2':¬ (s[k].toNat:Int) ≤ 57:=by omega
      have HN:Hid (nameR s.data.toList = false):=by
       have:=not_all s k hk (by simp [isLetter,isSmall,isLarge,isDigit]; omega)
       simp [Hid,nameR,this]
      clear a1 b1 b2 c hall hfst
      go_wp2
      go_ret
      exact ⟨by rw [HN.out]; rfl,rfl⟩
   have b1':¬ (65:Int) ≤ (s[k].toNat:Int):=by omega
   have c':((s[k].toNat:Int) == 95) = false:=by rw [beq_eq_false_iff_ne]; omega
   by_cases d1:48 ≤ s[k].toNat
   ·have d1':(48:Int) ≤ (s[k].toNat:Int):=by omega
    by_cases d2:s[k].toNat ≤ 57
    ·have d2':(s[k].toNat:Int) ≤ 57:=by omega
     by_cases k0:0 < k
     ·have k0':(0:Int) < (k:Int):=by omega
      have HA:Hid ((s.data.toList.take (k + 1)).all isLetter = true):=take_all s k hk hall.out (by simp [isLetter,isDigit,d1,d2])
      have HD:Hid (0 < k + 1 → fstOk s.data.toList):=fun _=>hfst.out k0
      clear hall hfst
      clear a1 b1 d1 d2
      go_wp2
      go_roundg (s.size - (k + 1))
      case measure=>omega
      case rel=>exact ⟨k + 1,by omega,by go_num,HA,HD,rfl⟩
     ·have k0':¬ (0:Int) < (k:Int):=by omega
      have HN:Hid (nameR s.data.toList = false):=by
       have e0:k = 0:=by omega
       subst e0
       exact nameR_digit s hk (by simp [isDigit]; omega)
      clear a1 b1 d1 d2 hall hfst
      go_wp2
      go_ret
      exact ⟨by rw [HN.out]; rfl,rfl⟩
    ·have d2':¬ (s[k].toNat:Int) ≤ 57:=by omega
     have HN:Hid (nameR s.data.toList = false):=by
      have:=not_all s k hk (by simp [isLetter,isSmall,isLarge,isDigit]; omega)
      simp [Hid,nameR,this]
     clear a1 b1 d1 d2 hall hfst
     go_wp2
     go_ret
     exact ⟨by rw [HN.out]; rfl,rfl⟩
   have d1':¬ (48:Int) ≤ (s[k].toNat:Int):=by omega
   have HN:Hid (nameR s.data.toList = false):=by
    have:=not_all s k hk (by simp [isLetter,isSmall,isLarge,isDigit]; omega)
    simp [Hid,nameR,this]
   clear a1 b1 d1 hall hfst
   go_wp2
   go_ret
   exact ⟨by rw [HN.out]; rfl,rfl⟩
  ·have hk':k = s.size:=by omega
   subst hk'
   have hal:=all_all s hall.out
   by_cases h1:1 ≤ s.size
   ·have h1':(1:Int) ≤ (s.size:Int):=by omega
    have hdg:=digit_of s h1 (hfst.out h1)
    by_cases h2:s.size ≤ 24
    ·have h2':(s.size:Int) ≤ 24:=by omega
     have HN:Hid (nameR s.data.toList = true):=by rw [nameR_some s h1 h2 hdg]; exact hal
     clear hall hfst hal hdg
     go_wp2
     go_ret
     exact ⟨by rw [HN.out]; rfl,rfl⟩
    ·have h2':¬ (s.size:Int) ≤ 24:=by omega
     have HN:Hid (nameR s.data.toList = false):=nameR_long s (by omega)
     clear hall hfst hal hdg
     go_wp2
     go_ret
     exact ⟨by rw [HN.out]; rfl,rfl⟩
   ·have h1':¬ (1:Int) ≤ (s.size:Int):=by omega
    have HN:Hid (nameR s.data.toList = false):=nameR_empty s (by omega)
    clear hall hfst hal
    go_wp2
    go_ret
    exact ⟨by rw [HN.out]; rfl,rfl⟩
set_option maxHeartbeats 800000 in
set_option maxRecDepth 1000000 in
theorem refBig (s:ByteArray) (w:World) (hs:s.size ≤ 9223372036854775806):Calls Tryz.prog 85 #[.string s] w (Pu (.bool (bigR s.data.toList)) w):=by
 have hn:=fun w=>refName s w hs
 rcases (by cases nameR s.data.toList <;> simp:nameR s.data.toList = true ∨ nameR s.data.toList = false) with h | h
 ·have hp:=nameR_pos s h
  have hp':(0:Int) < (s.size:Int):=by omega
  rw [bigR_yes s h hp]
  rw [h] at hn
  clear h
  by_cases a1:65 ≤ s[0].toNat
  ·have a1':(65:Int) ≤ (s[0].toNat:Int):=by omega
   by_cases a2:s[0].toNat ≤ 90
   ·have a2':(s[0].toNat:Int) ≤ 90:=by omega
    rw [show isLarge s[0] = true from by simp [isLarge,a1,a2]]
    clear a1 a2
    go_enter Tryz.func85,Tryz.ntmps85
    go_wp2_with fail
    refine (hn _).mono ?_
    rintro e w1 ⟨rfl,rfl⟩
    go_wp2
    go_ret
    exact ⟨rfl,rfl⟩
   ·have a2':¬ (s[0].toNat:Int) ≤ 90:=by omega
    rw [show isLarge s[0] = false from by simp [isLarge,a1,a2]]
    clear a1 a2
    go_enter Tryz.func85,Tryz.ntmps85
    go_wp2_with fail
    refine (hn _).mono ?_
    rintro e w1 ⟨rfl,rfl⟩
    go_wp2
    go_ret
    refine ⟨?_,rfl⟩
    show Ending.returned (Value.bool (decide ((s[0].toNat:Int) ≤ 90))) = _
    rw [decide_eq_false (by omega)]
  ·have a1':¬ (65:Int) ≤ (s[0].toNat:Int):=by omega
   rw [show isLarge s[0] = false from by simp [isLarge,a1]]
   clear a1
   go_enter Tryz.func85,Tryz.ntmps85
   go_wp2_with fail
   refine (hn _).mono ?_
   rintro e w1 ⟨rfl,rfl⟩
   go_wp2
   go_ret
   exact ⟨rfl,rfl⟩
 ·rw [bigR_no s h]
  rw [h] at hn
  clear h
  go_enter Tryz.func85,Tryz.ntmps85
  go_wp2_with fail
  refine (hn _).mono ?_
  rintro e w1 ⟨rfl,rfl⟩
  go_wp2
  go_ret
  exact ⟨rfl,rfl⟩
set_option maxHeartbeats 800000 in
set_option maxRecDepth 1000000 in
theorem refValue (s:ByteArray) (w:World) (hs:s.size ≤ 9223372036854775806):Calls Tryz.prog 34 #[.string s] w (Pu (.bool (valueR s.data.toList)) w):=by
 have hn:=fun w=>refName s w hs
 have hb:=fun w=>refBig s w hs
 rcases (by cases nameR s.data.toList <;> simp:nameR s.data.toList = true ∨ nameR s.data.toList = false) with h | h
 ·have hp:=nameR_pos s h
  rw [valueR_yes s h hp]
  rw [bigR_yes s h hp] at hb
  rw [h] at hn
  generalize isLarge s[0] = b at *
  clear h
  go_enter Tryz.func34,Tryz.ntmps34
  go_wp2_with fail
  refine (hn _).mono ?_
  rintro e w1 ⟨rfl,rfl⟩
  go_wp2_with fail
  refine (hb _).mono ?_
  rintro e w1 ⟨rfl,rfl⟩
  go_wp2
  go_ret
  exact ⟨rfl,rfl⟩
 ·rw [valueR_no s h]
  rw [h] at hn
  clear h
  go_enter Tryz.func34,Tryz.ntmps34
  go_wp2_with fail
  refine (hn _).mono ?_
  rintro e w1 ⟨rfl,rfl⟩
  go_wp2
  go_ret
  exact ⟨rfl,rfl⟩
end Go.Proofs.YtiiepfplommmfaaGreatDoor

namespace Go.Proofs.YtiiepfplommmfaaGreatDoor
open Go.RowKit

theorem StrRow.at {w:World} {v:Value} {xs:List (List UInt8)} (h:StrRow w v xs) (i:Nat) (hi:i < xs.length):∃ bk o c,v = .slice (some ⟨bk,o,none⟩) xs.length c ∧ w.cell? ⟨bk,o + i,none⟩ = some (.string (str xs[i])):=by
 rcases h with ⟨rfl,_⟩ | ⟨bk,o,c,rfl,_,_,h3⟩
 ·simp at hi
 ·exact ⟨bk,o,c,rfl,h3 i _ (List.getElem?_eq_getElem hi)⟩
end Go.Proofs.YtiiepfplommmfaaGreatDoor

namespace Go.Proofs.YtiiepfplommmfaaGreatDoor

def goesR (l:List UInt8):Bool:=l.head?.any (fun c=>isLetter c || decide (c.toNat = 46))
def letR (l:List UInt8):List UInt8:=l.takeWhile isLetter
def nmR (l:List UInt8):Option (List UInt8) :=
 if valueR (letR l) = true then
  if isHead 46 (l.drop (letR l).length) = true then
   if bigR (letR (l.drop ((letR l).length + 1))) = true then some ((l.drop ((letR l).length + 1)).drop (letR (l.drop ((letR l).length + 1))).length) else none
  else none
 else none
def isNum (l:List UInt8):Bool:=decide (l.take 3 = numL) && !goesR (l.drop 3)
def isByt (l:List UInt8):Bool:=decide (l.take 5 = bytesL) && !goesR (l.drop 5)
def wpR (l:List UInt8):Option (List UInt8):=if isNum l = true then some (l.drop 3) else if isByt l = true then some (l.drop 5) else nmR l
def rF:Nat → Nat → List UInt8 → Option (List UInt8)
 | 0,_,_=>none
 | _ + 1,0,[]=>none
 | f + 1,0,c :: r =>
  if c.toNat = 91 then (rF f 0 r).bind (fun x=>match x with | []=>none | d :: y=>if d.toNat = 93 then some y else none)
  else if c.toNat = 40 then
   if isHead 41 r then rF f 0 r.tail else (rF f 0 r).bind (fun x=>(rF f 1 x).bind (rF f 0))
  else wpR (c :: r)
 | _ + 1,_ + 1,[]=>none
 | f + 1,k + 1,c :: r=>if c.toNat = 44 then (rF f 0 r).bind (rF f (k + 2)) else if c.toNat = 41 ∧ k + 1 ≤ 6 then some r else none
theorem bigR_nil:bigR [] = false:=by decide
theorem nmR_len {l r:List UInt8} (h:nmR l = some r):r.length < l.length:=by
 unfold nmR at h
 split at h
 ·rename_i h1
  split at h
  ·rename_i h2
   split at h
   ·cases h
    obtain ⟨d,y,e,_⟩:=isHead_pos h2
    have:=congrArg List.length e
    simp at this ⊢
    omega
   ·cases h
  ·cases h
 ·cases h
theorem take_len {l y:List UInt8} {n:Nat} (h:l.take n = y) (hn:y.length = n) (_hp:0 < n):n ≤ l.length:=by
 have:=congrArg List.length h
 rw [List.length_take,hn] at this
 omega
theorem wpR_len {l r:List UInt8} (h:wpR l = some r):r.length < l.length:=by
 unfold wpR at h
 split at h
 ·rename_i h1
  rw [isNum,Bool.and_eq_true,decide_eq_true_iff] at h1
  have:=take_len h1.1 rfl (by decide)
  cases h
  simp; omega
 ·split at h
  ·rename_i h1
   rw [isByt,Bool.and_eq_true,decide_eq_true_iff] at h1
   have:=take_len h1.1 rfl (by decide)
   cases h
   simp; omega
  ·exact nmR_len h
theorem rF_len:∀ (f k:Nat) (l r:List UInt8),rF f k l = some r → r.length < l.length
 | 0,_,_,_,h=>by simp [rF] at h
 | f + 1,0,[],_,h=>by simp [rF] at h
 | f + 1,0,c :: l,r,h=>by
  rw [rF] at h
  split at h
  ·obtain ⟨x,h1,h2⟩:=Option.bind_eq_some_iff.1 h
   have:=rF_len f 0 l x h1
   split at h2
   ·cases h2
   ·rename_i d y
    split at h2
    ·cases h2; simp at this ⊢; omega
    ·cases h2
  ·split at h
   ·split at h
    ·rename_i hh
     obtain ⟨d,y,rfl,_⟩:=isHead_pos hh
     have:=rF_len f 0 y r h
     simp at this ⊢; omega
    ·obtain ⟨x,h1,h2⟩:=Option.bind_eq_some_iff.1 h
     obtain ⟨z,h3,h4⟩:=Option.bind_eq_some_iff.1 h2
     have a1:=rF_len f 0 _ x h1
     have a2:=rF_len f 1 x z h3
     have a3:=rF_len f 0 z r h4
     simp; omega
   ·exact wpR_len h
 | f + 1,k + 1,[],_,h=>by simp [rF] at h
 | f + 1,k + 1,c :: l,r,h=>by
  rw [rF] at h
  split at h
  ·obtain ⟨x,h1,h2⟩:=Option.bind_eq_some_iff.1 h
   have a1:=rF_len f 0 l x h1
   have a2:=rF_len f (k + 2) x r h2
   simp; omega
  ·split at h
   ·cases h; simp
   ·cases h
theorem rF_fuel:∀ (f g k:Nat) (l:List UInt8),l.length < f → l.length < g → rF f k l = rF g k l
 | 0,_,_,_,h,_=>by omega
 | _ + 1,0,_,_,_,h=>by omega
 | f + 1,g + 1,0,[],_,_=>by simp [rF]
 | f + 1,g + 1,k + 1,[],_,_=>by simp [rF]
 | f + 1,g + 1,0,c :: l,hf,hg=>by
  simp only [List.length_cons] at hf hg
  have e:rF f 0 l = rF g 0 l:=rF_fuel f g 0 l (by omega) (by omega)
  rw [rF,rF,e]
  split
  ·rfl
  ·split
   ·split
    ·exact rF_fuel f g 0 _ (by simp; omega) (by simp; omega)
    ·refine bind_same (fun x hx=>?_)
     have a1:=rF_len g 0 _ x hx
     rw [rF_fuel f g 1 x (by omega) (by omega)]
     refine bind_same (fun z hz=>?_)
     have a2:=rF_len g 1 x z hz
     exact rF_fuel f g 0 z (by omega) (by omega)
   ·rfl
 | f + 1,g + 1,k + 1,c :: l,hf,hg=>by
  simp only [List.length_cons] at hf hg
  rw [rF,rF]
  split
  ·rw [rF_fuel f g 0 l (by omega) (by omega)]
   refine bind_same (fun x hx=>?_)
   have a1:=rF_len g 0 _ x hx
   exact rF_fuel f g (k + 2) x (by omega) (by omega)
  ·rfl
def rOne (l:List UInt8):Option (List UInt8):=rF (l.length + 1) 0 l
def rTl (k:Nat) (l:List UInt8):Option (List UInt8):=rF (l.length + 1) (k + 1) l
theorem rOne_len {l r:List UInt8} (h:rOne l = some r):r.length < l.length:=rF_len _ _ _ _ h
theorem rOne_nil:rOne [] = none:=by simp [rOne,rF]
theorem rOne_arr {c:UInt8} (r:List UInt8) (h:c.toNat = 91):rOne (c :: r) = (rOne r).bind (fun x=>match x with | []=>none | d :: y=>if d.toNat = 93 then some y else none):=by
 simp only [rOne,List.length_cons]
 rw [rF,if_pos h]
def fnHd (k:Nat) (l:List UInt8):Option (List UInt8):=if k = 0 ∧ isHead 41 l = true then rOne l.tail else (rOne l).bind (fun x=>(rTl k x).bind rOne)
theorem rOne_fn {c:UInt8} (r:List UInt8) (h:c.toNat = 40):rOne (c :: r) = fnHd 0 r:=by
 simp only [rOne,fnHd,List.length_cons,true_and]
 rw [rF,if_neg (by omega),if_pos h]
 split
 ·exact rF_fuel _ _ _ _ (by simp; omega) (by simp)
 ·refine bind_same (fun x hx=>?_)
  have a1:=rF_len _ 0 _ x hx
  rw [rTl,rF_fuel (r.length + 1) (x.length + 1) 1 x (by omega) (by omega)]
  refine bind_same (fun z hz=>?_)
  have a2:=rF_len _ 1 x z hz
  exact rF_fuel _ _ 0 z (by omega) (by omega)
theorem rOne_word {c:UInt8} (r:List UInt8) (h:c.toNat ≠ 91) (h2:c.toNat ≠ 40):rOne (c :: r) = wpR (c :: r):=by
 simp only [rOne,List.length_cons]
 rw [rF,if_neg h,if_neg h2]
theorem rTl_nil (k:Nat):rTl k [] = none:=by simp [rTl,rF]
theorem rTl_comma {c:UInt8} (k:Nat) (r:List UInt8) (h:c.toNat = 44):rTl k (c :: r) = (rOne r).bind (rTl (k + 1)):=by
 simp only [rTl,rOne,List.length_cons]
 rw [rF,if_pos h]
 refine bind_same (fun x hx=>?_)
 have a1:=rF_len _ 0 _ x hx
 exact rF_fuel _ _ _ x (by omega) (by omega)
theorem rTl_close {c:UInt8} (k:Nat) (r:List UInt8) (h:c.toNat = 41) (hk:k + 1 ≤ 6):rTl k (c :: r) = some r:=by
 simp only [rTl,List.length_cons]
 rw [rF,if_neg (by omega),if_pos ⟨h,hk⟩]
theorem rTl_bad {c:UInt8} (k:Nat) (r:List UInt8) (h:c.toNat ≠ 44) (h2:¬ (c.toNat = 41 ∧ k + 1 ≤ 6)):rTl k (c :: r) = none:=by
 simp only [rTl,List.length_cons]
 rw [rF,if_neg h,if_neg h2]
theorem fnHd_next {k:Nat} {l y:List UInt8} {c:UInt8} (h0:¬ (k = 0 ∧ isHead 41 l = true)) (h:rOne l = some (c :: y)) (hc:c.toNat = 44):fnHd k l = fnHd (k + 1) y:=by
 rw [fnHd,if_neg h0,h,Option.bind_some,rTl_comma k y hc,fnHd,if_neg (by omega),Option.bind_assoc]
/-! Words. -/
theorem letter_sign {c:UInt8} (h:isLetter c = true):notSign c = true:=by
 simp only [isLetter,isSmall,isLarge,isDigit,notSign,isSign,Bool.or_eq_true,Bool.and_eq_true,decide_eq_true_eq,Bool.not_eq_true',Bool.or_eq_false_iff,decide_eq_false_iff_not] at h ⊢
 omega
theorem letter_dot {c:UInt8} (h:isLetter c = true):notDot c = true:=by
 simp only [isLetter,isSmall,isLarge,isDigit,notDot,Bool.or_eq_true,Bool.and_eq_true,decide_eq_true_eq,Bool.not_eq_true',decide_eq_false_iff_not] at h ⊢
 omega
theorem sign_letter {c:UInt8} (h:isSign c = true):isLetter c = false:=by
 rw [Bool.eq_false_iff]
 intro h2
 have:=letter_sign h2
 rw [notSign,h] at this
 cases this
theorem sign_dot {c:UInt8} (h:isSign c = true):c.toNat ≠ 46:=by
 simp only [isSign,Bool.or_eq_true,decide_eq_true_eq] at h
 omega
theorem value_all {l:List UInt8} (h:valueR l = true):∀ c ∈ l,isLetter c = true:=by
 simp only [valueR,nameR,Bool.and_eq_true] at h
 exact List.all_eq_true.1 h.1.2
theorem big_all {l:List UInt8} (h:bigR l = true):∀ c ∈ l,isLetter c = true:=by
 simp only [bigR,nameR,Bool.and_eq_true] at h
 exact List.all_eq_true.1 h.1.2
theorem value_len {l:List UInt8} (h:valueR l = true):l.length ≤ 24:=by
 simp only [valueR,nameR,Bool.and_eq_true,decide_eq_true_eq] at h
 exact h.1.1.1.2
theorem big_len {l:List UInt8} (h:bigR l = true):l.length ≤ 24:=by
 simp only [bigR,nameR,Bool.and_eq_true,decide_eq_true_eq] at h
 exact h.1.1.1.2
theorem goes_ok {t:List UInt8} (h:okB t):goesR t = false:=by
 rcases h with rfl | ⟨c,r,rfl,hc⟩
 ·rfl
 ·simp [goesR,sign_letter hc,sign_dot hc]
theorem word_rest (l:List UInt8):okB (l.drop (wordR l).length):=by
 induction l with
 | nil=>exact .inl rfl
 | cons c l ih =>
  by_cases h:notSign c = true
  ·have e:wordR (c :: l) = c :: wordR l:=by simp [wordR,h]
   rw [e]
   simpa using ih
  ·have e:wordR (c :: l) = []:=by simp [wordR,h]
   rw [e]
   refine .inr ⟨c,l,rfl,?_⟩
   simp only [notSign,Bool.not_eq_true,Bool.not_eq_false'] at h
   exact h
theorem word_split (l:List UInt8):l = wordR l ++ l.drop (wordR l).length:=by
 have h1:wordR l <+: l:=List.takeWhile_prefix _
 obtain ⟨t,e⟩:=h1
 have h2:=List.drop_left (l₁:=wordR l) (l₂:=t)
 rw [e] at h2
 rw [h2]
 exact e.symm
theorem named_split {x:List UInt8} (h:namedR x = true):∃ a b,x = a ++ 46 :: b ∧ valueR a = true ∧ bigR b = true ∧ aheadR x = a ∧ behindR x = b:=by
 simp only [namedR,Bool.and_eq_true] at h
 refine ⟨aheadR x,behindR x,?_,h.1,h.2,rfl,rfl⟩
 have hb:behindR x ≠ []:=by intro e; rw [e,bigR_nil] at h; cases h.2
 have hlen:(aheadR x).length + 1 < x.length:=by
  rcases Nat.lt_or_ge ((aheadR x).length + 1) x.length with h2 | h2
  ·exact h2
  ·exact absurd (List.drop_eq_nil_of_le h2) hb
 have h1:aheadR x <+: x:=List.takeWhile_prefix _
 obtain ⟨t,e⟩:=h1
 have ht:x.drop (aheadR x).length = t:=by
  have h2:=List.drop_left (l₁:=aheadR x) (l₂:=t)
  rwa [e] at h2
 have hd:behindR x = t.tail:=by
  rw [behindR, ← List.drop_drop,ht,List.drop_one]
 cases t with
 | nil=>rw [List.append_nil] at e; have:=congrArg List.length e; omega
 | cons d t =>
  have:notDot d = false:=by
   have:=List.head?_dropWhile_not notDot x
   have e2:x.dropWhile notDot = d :: t:=by
    have h3:=List.takeWhile_append_dropWhile (p:=notDot) (l:=x)
    have h4:aheadR x ++ x.dropWhile notDot = aheadR x ++ d :: t:=by rw [e]; exact h3
    exact List.append_cancel_left h4
   rw [e2] at this
   simpa using this
  simp only [notDot,Bool.not_eq_false',decide_eq_true_eq] at this
  rw [hd,List.tail_cons]
  have hd46:d = 46:=UInt8.toNat_inj.1 this
  rw [← hd46]
  exact e.symm
theorem named_of {a b:List UInt8} (ha:valueR a = true) (hb:bigR b = true):namedR (a ++ 46 :: b) = true:=by
 have e:aheadR (a ++ 46 :: b) = a:=by
  rw [aheadR,List.takeWhile_append_of_pos (fun c hc=>letter_dot (value_all ha c hc))]
  simp [notDot]
 rw [namedR,behindR,e,ha]
 simpa using hb
theorem let_stop {a t:List UInt8} (h:∀ c ∈ a,isLetter c = true) (ht:∀ d y,t = d :: y → isLetter d = false):letR (a ++ t) = a:=by
 rw [letR,List.takeWhile_append_of_pos h]
 cases t with
 | nil=>simp
 | cons d y=>simp [ht d y rfl]
theorem nmR_of {a b t:List UInt8} (ha:valueR a = true) (hb:bigR b = true) (ht:∀ d y,t = d :: y → isLetter d = false):nmR (a ++ 46 :: (b ++ t)) = some t:=by
 have e1:letR (a ++ 46 :: (b ++ t)) = a:=let_stop (value_all ha) (fun d y e=>by cases e; rfl)
 have e2:(a ++ 46 :: (b ++ t)).drop (a.length + 1) = b ++ t:=by simp
 have e3:letR (b ++ t) = b:=let_stop (big_all hb) ht
 rw [nmR,e1,if_pos ha,e2,e3,if_pos hb,if_pos (by simp; rfl)]
 simp
theorem nmR_split {l r:List UInt8} (h:nmR l = some r):∃ a b,l = a ++ 46 :: (b ++ r) ∧ valueR a = true ∧ bigR b = true:=by
 unfold nmR at h
 split at h
 ·rename_i h1
  split at h
  ·rename_i h2
   split at h
   ·rename_i h3
    refine ⟨letR l,letR (l.drop ((letR l).length + 1)),?_,h1,h3⟩
    obtain ⟨d,y,e,hd⟩:=isHead_pos h2
    have hd46:d = 46:=UInt8.toNat_inj.1 hd
    have ey:l.drop ((letR l).length + 1) = y:=by rw [← List.drop_drop,e]; rfl
    rw [ey] at h ⊢
    simp only [Option.some.injEq] at h
    have e1:letR y ++ r = y:=by
     rw [← h,letR]
     conv=>rhs; rw [← List.take_append_drop (y.takeWhile isLetter).length y]
     rw [take_tw]
    rw [e1, ← hd46, ← e]
    have:=List.take_append_drop (letR l).length l
    rw [letR,take_tw] at this
    exact this.symm
   ·cases h
  ·cases h
 ·cases h
theorem goes_in:∀ (a y z:List UInt8),(∀ c ∈ a,isLetter c = true) → (∀ c ∈ y,isLetter c = true) → (a ++ 46 :: z).take y.length = y → goesR ((a ++ 46 :: z).drop y.length) = true
 | [],[],z,_,_,_=>rfl
 | [],d :: y,z,_,hy,h=>by
  simp only [List.nil_append,List.length_cons,List.take_succ_cons,List.cons.injEq] at h
  have:=hy d (by simp)
  rw [← h.1] at this
  cases this
 | c :: a,[],z,ha,_,_=>by
  simp [goesR,ha c (by simp)]
 | c :: a,d :: y,z,ha,hy,h=>by
  simp only [List.cons_append,List.length_cons,List.take_succ_cons,List.cons.injEq] at h
  have:=goes_in a y z (fun x hx=>ha x (by simp [hx])) (fun x hx=>hy x (by simp [hx])) h.2
  simpa using this
theorem not_num {a z:List UInt8} (ha:∀ c ∈ a,isLetter c = true):isNum (a ++ 46 :: z) = false:=by
 rw [Bool.eq_false_iff]
 intro h
 rw [isNum,Bool.and_eq_true,decide_eq_true_iff] at h
 have:=goes_in a numL z ha (by decide) h.1
 rw [show numL.length = 3 from rfl] at this
 rw [this] at h
 cases h.2
theorem not_byt {a z:List UInt8} (ha:∀ c ∈ a,isLetter c = true):isByt (a ++ 46 :: z) = false:=by
 rw [Bool.eq_false_iff]
 intro h
 rw [isByt,Bool.and_eq_true,decide_eq_true_iff] at h
 have:=goes_in a bytesL z ha (by decide) h.1
 rw [show bytesL.length = 5 from rfl] at this
 rw [this] at h
 cases h.2
theorem okB_letter {t:List UInt8} (h:okB t):∀ d y,t = d :: y → isLetter d = false:=by
 intro d y e
 rcases h with rfl | ⟨c,r,rfl,hc⟩
 ·cases e
 ·cases e; exact sign_letter hc
theorem wp_named {a b t:List UInt8} (ha:valueR a = true) (hb:bigR b = true) (ht:∀ d y,t = d :: y → isLetter d = false):wpR (a ++ 46 :: (b ++ t)) = some t:=by
 rw [wpR,not_num (value_all ha),not_byt (value_all ha)]
 exact nmR_of ha hb ht
theorem isNum_of {t:List UInt8} (h:okB t):isNum (numL ++ t) = true:=by
 rw [isNum,Bool.and_eq_true,decide_eq_true_iff]
 refine ⟨by simp [numL],?_⟩
 rw [show (numL ++ t).drop 3 = t from rfl,goes_ok h]
 rfl
theorem isByt_of {t:List UInt8} (h:okB t):isNum (bytesL ++ t) = false ∧ isByt (bytesL ++ t) = true:=by
 refine ⟨by rw [isNum,Bool.and_eq_false_iff]; exact .inl (by simp [bytesL,numL]),?_⟩
 rw [isByt,Bool.and_eq_true,decide_eq_true_iff]
 refine ⟨by simp [bytesL],?_⟩
 rw [show (bytesL ++ t).drop 5 = t from rfl,goes_ok h]
 rfl
theorem wp_word {l:List UInt8} (h:wordOk (wordR l) = true):wpR l = some (l.drop (wordR l).length):=by
 have hr:=word_rest l
 have hs:=word_split l
 generalize l.drop (wordR l).length = t at *
 generalize wordR l = x at *
 subst hs
 simp only [wordOk,Bool.or_eq_true,decide_eq_true_eq] at h
 rcases h with (h | rfl) | rfl
 ·obtain ⟨a,b,rfl,ha,hb,_,_⟩:=named_split h
  rw [List.append_assoc,List.cons_append]
  exact wp_named ha hb (okB_letter hr)
 ·rw [wpR,if_pos (isNum_of hr)]; rfl
 ·obtain ⟨h1,h2⟩:=isByt_of hr
  rw [wpR,h1,if_neg (by decide),if_pos h2]; rfl
theorem wp_ok {l r:List UInt8} (h:wpR l = some r) (hr:okB r):wordOk (wordR l) = true ∧ l.drop (wordR l).length = r:=by
 unfold wpR at h
 split at h
 ·rename_i h1
  rw [isNum,Bool.and_eq_true,decide_eq_true_iff] at h1
  have e:=List.take_append_drop 3 l
  simp only [Option.some.injEq] at h
  rw [h1.1,h] at e
  have hw:wordR l = numL:=by rw [← e]; exact word_stop (by decide) hr
  rw [hw]
  exact ⟨by decide,h⟩
 ·split at h
  ·rename_i h1
   rw [isByt,Bool.and_eq_true,decide_eq_true_iff] at h1
   have e:=List.take_append_drop 5 l
   simp only [Option.some.injEq] at h
   rw [h1.1,h] at e
   have hw:wordR l = bytesL:=by rw [← e]; exact word_stop (by decide) hr
   rw [hw]
   exact ⟨by decide,h⟩
  ·obtain ⟨a,b,rfl,ha,hb⟩:=nmR_split h
   have hw:wordR (a ++ 46 :: (b ++ r)) = a ++ 46 :: b:=by
    rw [show a ++ 46 :: (b ++ r) = (a ++ 46 :: b) ++ r from by simp]
    refine word_stop ?_ hr
    intro c hc
    simp only [List.mem_append,List.mem_cons] at hc
    rcases hc with hc | rfl | hc
    ·exact letter_sign (value_all ha c hc)
    ·rfl
    ·exact letter_sign (big_all hb c hc)
   rw [hw]
   refine ⟨by simp [wordOk,named_of ha hb],by rw [show a ++ 46 :: (b ++ r) = (a ++ 46 :: b) ++ r from by simp]; simp⟩
theorem rF_many:∀ (f k:Nat) (l:List UInt8),6 < k + 1 → rF f (k + 1) l = none
 | 0,_,_,_=>by simp [rF]
 | f + 1,k,[],_=>by simp [rF]
 | f + 1,k,c :: l,h=>by
  rw [rF,if_neg (fun hh:c.toNat = 41 ∧ k + 1 ≤ 6=>by omega)]
  split
  ·cases rF f 0 l with
   | none=>rfl
   | some x=>exact rF_many f (k + 1) x (by omega)
  ·rfl
theorem rF_sign {f k:Nat} {l r:List UInt8} (h:rF f (k + 1) l = some r):okB l:=by
 cases f with
 | zero=>simp [rF] at h
 | succ f =>
  cases l with
  | nil=>simp [rF] at h
  | cons c l =>
   refine .inr ⟨c,l,rfl,?_⟩
   rw [rF] at h
   split at h
   ·rename_i hc; exact sign_of (by omega)
   ·split at h
    ·rename_i hc; exact sign_of (by omega)
    ·cases h
theorem g_r:∀ f,(∀ l r,gF f 0 l = some r → rF f 0 l = some r) ∧ (∀ l r,rF f 0 l = some r → okB r → gF f 0 l = some r) ∧ (∀ k l r,k + 1 ≤ 6 → (gF f (k + 1) l = some r ↔ rF f (k + 1) l = some r))
 | 0=>by simp [gF,rF]
 | f + 1=>by
  obtain ⟨i1,i2,i3⟩:=g_r f
  refine ⟨?_,?_,?_⟩
  ·intro l r h
   cases l with
   | nil=>simp [gF] at h
   | cons c l =>
    rw [gF] at h
    rw [rF]
    split at h
    ·rename_i hc
     rw [if_pos hc]
     obtain ⟨x,h1,h2⟩:=Option.bind_eq_some_iff.1 h
     rw [i1 _ _ h1]
     exact h2
    ·rename_i hc
     rw [if_neg hc]
     split at h
     ·rename_i hc2
      rw [if_pos hc2]
      split at h
      ·rename_i hh
       rw [if_pos hh]
       exact i1 _ _ h
      ·rename_i hh
       rw [if_neg hh]
       obtain ⟨x,h1,h2⟩:=Option.bind_eq_some_iff.1 h
       obtain ⟨z,h3,h4⟩:=Option.bind_eq_some_iff.1 h2
       rw [i1 _ _ h1,Option.bind_some,(i3 0 _ _ (by omega)).1 h3,Option.bind_some]
       exact i1 _ _ h4
     ·rename_i hc2
      rw [if_neg hc2]
      split at h
      ·rename_i hw
       rw [wp_word hw]
       exact h
      ·cases h
  ·intro l r h hr
   cases l with
   | nil=>simp [rF] at h
   | cons c l =>
    rw [rF] at h
    rw [gF]
    split at h
    ·rename_i hc
     rw [if_pos hc]
     obtain ⟨x,h1,h2⟩:=Option.bind_eq_some_iff.1 h
     split at h2
     ·cases h2
     ·rename_i d y
      split at h2
      ·rename_i hd
       rw [i2 _ _ h1 (.inr ⟨d,y,rfl,sign_of (by omega)⟩)]
       simp only [Option.bind_some,if_pos hd]
       exact h2
      ·cases h2
    ·rename_i hc
     rw [if_neg hc]
     split at h
     ·rename_i hc2
      rw [if_pos hc2]
      split at h
      ·rename_i hh
       rw [if_pos hh]
       exact i2 _ _ h hr
      ·rename_i hh
       rw [if_neg hh]
       obtain ⟨x,h1,h2⟩:=Option.bind_eq_some_iff.1 h
       obtain ⟨z,h3,h4⟩:=Option.bind_eq_some_iff.1 h2
       rw [i2 _ _ h1 (rF_sign h3),Option.bind_some,(i3 0 _ _ (by omega)).2 h3,Option.bind_some]
       exact i2 _ _ h4 hr
     ·rename_i hc2
      rw [if_neg hc2]
      obtain ⟨hw,e⟩:=wp_ok h hr
      rw [if_pos hw,e]
  ·intro k l r hk
   cases l with
   | nil=>simp [gF,rF]
   | cons c l =>
    rw [gF,rF]
    by_cases h44:c.toNat = 44
    ·rw [if_neg (by omega),if_pos h44]
     constructor
     ·intro h
      split at h
      ·obtain ⟨x,h1,h2⟩:=Option.bind_eq_some_iff.1 h
       rw [i1 _ _ h1,Option.bind_some]
       exact (i3 _ _ _ (by omega)).1 h2
      ·cases h
     ·intro h
      obtain ⟨x,h1,h2⟩:=Option.bind_eq_some_iff.1 h
      rcases Nat.lt_or_ge (k + 1) 6 with h6 | h6
      ·rw [if_pos ⟨h44,h6⟩,i2 _ _ h1 (rF_sign h2),Option.bind_some]
       exact (i3 _ _ _ (by omega)).2 h2
      ·rw [rF_many f (k + 1) x (by omega)] at h2
       cases h2
    ·rw [if_neg h44]
     by_cases h41:c.toNat = 41
     ·rw [if_pos h41,if_pos ⟨h41,hk⟩]
     ·rw [if_neg h41,if_neg (fun h=>h44 h.1),if_neg (fun h=>h41 h.1)]
theorem rOne_of {l r:List UInt8} (h:one l = some r):rOne l = some r:=(g_r _).1 _ _ h
theorem one_of {l r:List UInt8} (h:rOne l = some r) (hr:okB r):one l = some r:=(g_r _).2.1 _ _ h hr
theorem right_is (l:List UInt8):rightR l = (decide (l.length ≤ 200) && decide (rOne l = some [])):=by
 rw [rightR]
 congr 1
 rw [Bool.eq_iff_iff,decide_eq_true_iff,decide_eq_true_iff]
 exact ⟨rOne_of,fun h=>one_of h (.inl rfl)⟩
def kindR (l:List UInt8):Nat:=if isHead 91 l = true then 2 else if isHead 40 l = true then 3 else if isNum l = true ∨ isByt l = true then 1 else 4
theorem wpR_suffix {l r:List UInt8} (h:wpR l = some r):r <:+ l:=by
 unfold wpR at h
 split at h
 ·cases h; exact List.drop_suffix _ _
 ·split at h
  ·cases h; exact List.drop_suffix _ _
  ·obtain ⟨a,b,rfl,_,_⟩:=nmR_split h
   exact ⟨a ++ 46 :: b,by simp⟩
theorem rF_suffix:∀ (f k:Nat) (l r:List UInt8),rF f k l = some r → r <:+ l
 | 0,_,_,_,h=>by simp [rF] at h
 | f + 1,0,[],_,h=>by simp [rF] at h
 | f + 1,0,c :: l,r,h=>by
  rw [rF] at h
  split at h
  ·obtain ⟨x,h1,h2⟩:=Option.bind_eq_some_iff.1 h
   have:=rF_suffix f 0 l x h1
   split at h2
   ·cases h2
   ·rename_i d y
    split at h2
    ·cases h2
     exact ((List.suffix_cons d r).trans this).trans (List.suffix_cons c l)
    ·cases h2
  ·split at h
   ·split at h
    ·rename_i hh
     obtain ⟨d,y,rfl,_⟩:=isHead_pos hh
     have:=rF_suffix f 0 y r h
     exact (this.trans (List.suffix_cons d y)).trans (List.suffix_cons c _)
    ·obtain ⟨x,h1,h2⟩:=Option.bind_eq_some_iff.1 h
     obtain ⟨z,h3,h4⟩:=Option.bind_eq_some_iff.1 h2
     exact (((rF_suffix f 0 z r h4).trans (rF_suffix f 1 x z h3)).trans (rF_suffix f 0 _ x h1)).trans (List.suffix_cons c _)
   ·exact wpR_suffix h
 | f + 1,k + 1,[],_,h=>by simp [rF] at h
 | f + 1,k + 1,c :: l,r,h=>by
  rw [rF] at h
  split at h
  ·obtain ⟨x,h1,h2⟩:=Option.bind_eq_some_iff.1 h
   exact ((rF_suffix f (k + 2) x r h2).trans (rF_suffix f 0 l x h1)).trans (List.suffix_cons c _)
  ·split at h
   ·cases h; exact List.suffix_cons _ _
   ·cases h
def oneN (l:List UInt8):Nat:=match rOne l with | none=>0 | some r=>l.length - r.length
theorem oneN_none {l:List UInt8} (h:rOne l = none):oneN l = 0:=by rw [oneN,h]
theorem oneN_some {l r:List UInt8} (h:rOne l = some r):0 < oneN l ∧ oneN l ≤ l.length ∧ r = l.drop (oneN l):=by
 have h1:=rOne_len h
 have h2:r <:+ l:=rF_suffix _ _ _ _ h
 rw [oneN,h]
 exact ⟨by simp only; omega,by simp only; omega,List.suffix_iff_eq_drop.1 h2⟩
theorem oneN_at {l:List UInt8} {n:Nat} (h:rOne l = some (l.drop n)) (hn:n ≤ l.length):oneN l = n:=by
 rw [oneN,h]
 simp
 omega
def funN (l:List UInt8):Nat:=match fnHd 0 (l.drop 1) with | none=>0 | some r=>l.length - r.length
theorem funN_none {l:List UInt8} (h:fnHd 0 (l.drop 1) = none):funN l = 0:=by rw [funN,h]
theorem funN_at {l:List UInt8} {n:Nat} (h:fnHd 0 (l.drop 1) = some (l.drop n)) (hn:n ≤ l.length):funN l = n:=by
 rw [funN,h]
 simp
 omega
theorem let_at {l:List UInt8} {k:Nat} (h:(l.take k).all isLetter = true) (hs:∀ d y,l.drop k = d :: y → isLetter d = false):letR l = l.take k:=by
 conv=>lhs; rw [← List.take_append_drop k l]
 exact let_stop (List.all_eq_true.1 h) hs
theorem num_head {l:List UInt8} (h:isNum l = true):rOne l = some (l.drop 3) ∧ kindR l = 1 ∧ 3 ≤ l.length:=by
 have h':=h
 rw [isNum,Bool.and_eq_true,decide_eq_true_iff] at h
 have e:=List.take_append_drop 3 l
 rw [h.1] at e
 have hl:3 ≤ l.length:=take_len h.1 rfl (by decide)
 generalize l.drop 3 = r at *
 subst e
 refine ⟨?_,?_,hl⟩
 ·have:=rOne_word (c:=110) (117 :: 109 :: r) (by decide) (by decide)
  rw [show numL ++ r = 110 :: 117 :: 109 :: r from rfl] at h' ⊢
  rw [this,wpR,if_pos h']; rfl
 ·rw [kindR,if_neg (by simp [numL,isHead]),if_neg (by simp [numL,isHead]),if_pos (.inl h')]
theorem byt_head {l:List UInt8} (hn:isNum l = false) (h:isByt l = true):rOne l = some (l.drop 5) ∧ kindR l = 1 ∧ 5 ≤ l.length:=by
 have h':=h
 rw [isByt,Bool.and_eq_true,decide_eq_true_iff] at h
 have e:=List.take_append_drop 5 l
 rw [h.1] at e
 have hl:5 ≤ l.length:=take_len h.1 rfl (by decide)
 generalize l.drop 5 = r at *
 subst e
 refine ⟨?_,?_,hl⟩
 ·have:=rOne_word (c:=98) (121 :: 116 :: 101 :: 115 :: r) (by decide) (by decide)
  rw [show bytesL ++ r = 98 :: 121 :: 116 :: 101 :: 115 :: r from rfl] at h' hn ⊢
  rw [this,wpR,hn,if_neg (by decide),if_pos h']; rfl
 ·rw [kindR,if_neg (by simp [bytesL,isHead]),if_neg (by simp [bytesL,isHead]),if_pos (.inr h')]
theorem nm_head {l:List UInt8} {c:UInt8} {r:List UInt8} (e:l = c :: r) (h1:c.toNat ≠ 91) (h2:c.toNat ≠ 40) (hn:isNum l = false) (hb:isByt l = false):rOne l = nmR l ∧ kindR l = 4:=by
 subst e
 refine ⟨by rw [rOne_word r h1 h2,wpR,hn,hb]; rfl,?_⟩
 rw [kindR,isHead_cons,isHead_cons,decide_eq_false h1,decide_eq_false h2,hn,hb]
 rfl
theorem nmR_no1 {l:List UInt8} {k:Nat} (e:letR l = l.take k) (h:valueR (l.take k) = false):nmR l = none:=by
 rw [nmR,e,if_neg (by rw [h]; decide)]
theorem nmR_no2 {l:List UInt8} {k:Nat} (hk:k ≤ l.length) (e:letR l = l.take k) (h:isHead 46 (l.drop k) = false):nmR l = none:=by
 rw [nmR,e,List.length_take,Nat.min_eq_left hk,h]
 simp
theorem nmR_no3 {l:List UInt8} {k j:Nat} (hk:k ≤ l.length) (e:letR l = l.take k) (e2:letR (l.drop (k + 1)) = (l.drop (k + 1)).take j) (h:bigR ((l.drop (k + 1)).take j) = false):nmR l = none:=by
 rw [nmR,e,List.length_take,Nat.min_eq_left hk,e2,h]
 simp
theorem nmR_yes {l:List UInt8} {k j:Nat} (hk:k ≤ l.length) (e:letR l = l.take k) (h1:valueR (l.take k) = true) (h2:isHead 46 (l.drop k) = true) (hj:k + 1 + j ≤ l.length) (e2:letR (l.drop (k + 1)) = (l.drop (k + 1)).take j) (h:bigR ((l.drop (k + 1)).take j) = true):nmR l = some (l.drop (k + 1 + j)):=by
 rw [nmR,e,List.length_take,Nat.min_eq_left hk,e2,h,h1,h2,List.length_take,List.length_drop,Nat.min_eq_left (by omega),List.drop_drop]
 simp
end Go.Proofs.YtiiepfplommmfaaGreatDoor

namespace Go.Proofs.YtiiepfplommmfaaGreatDoor
open Go.RowKit

set_option maxHeartbeats 2000000 in
set_option maxRecDepth 1000000 in
theorem letter5 (c:UInt8) (w:World):Calls Tryz.prog 182 #[.int .u8 c.toNat] w (Pu (.bool (isLetter c)) w):=by
 have h256:c.toNat < 256:=c.toNat_lt
 by_cases h0:97 ≤ c.toNat ∧ c.toNat ≤ 122
 ·have f1:(97:Int) ≤ (c.toNat:Int):=by omega
  have f2:(c.toNat:Int) ≤ 122:=by omega
  rw [show isLetter c = true from by simp [isLetter,isSmall,isLarge,isDigit]; omega]
  generalize (c.toNat:Int) = x at *
  go_enter Tryz.func182,Tryz.ntmps182
  go_wp2
  go_ret
  exact ⟨rfl,rfl⟩
 by_cases h1:97 ≤ c.toNat
 ·have f1:(97:Int) ≤ (c.toNat:Int):=by omega
  have f2:¬ (c.toNat:Int) ≤ 122:=by omega
  have f3:(65:Int) ≤ (c.toNat:Int):=by omega
  have f4:¬ (c.toNat:Int) ≤ 90:=by omega
  have f5:((c.toNat:Int) == 95) = false:=by rw [beq_eq_false_iff_ne]; omega
  have f6:(48:Int) ≤ (c.toNat:Int):=by omega
  have f7:¬ (c.toNat:Int) ≤ 57:=by omega
  rw [show isLetter c = false from by simp [isLetter,isSmall,isLarge,isDigit]; omega]
  generalize (c.toNat:Int) = x at *
  go_enter Tryz.func182,Tryz.ntmps182
  go_wp2
  go_ret
  exact ⟨rfl,rfl⟩
 by_cases h2:65 ≤ c.toNat ∧ c.toNat ≤ 90
 ·have f1:¬ (97:Int) ≤ (c.toNat:Int):=by omega
  have f3:(65:Int) ≤ (c.toNat:Int):=by omega
  have f4:(c.toNat:Int) ≤ 90:=by omega
  rw [show isLetter c = true from by simp [isLetter,isSmall,isLarge,isDigit]; omega]
  generalize (c.toNat:Int) = x at *
  go_enter Tryz.func182,Tryz.ntmps182
  go_wp2
  go_ret
  exact ⟨rfl,rfl⟩
 by_cases h3:c.toNat = 95
 ·have f1:¬ (97:Int) ≤ (c.toNat:Int):=by omega
  have f3:(65:Int) ≤ (c.toNat:Int):=by omega
  have f4:¬ (c.toNat:Int) ≤ 90:=by omega
  have f5:((c.toNat:Int) == 95) = true:=by rw [beq_iff_eq]; omega
  rw [show isLetter c = true from by simp [isLetter,isSmall,isLarge,isDigit]; omega]
  generalize (c.toNat:Int) = x at *
  go_enter Tryz.func182,Tryz.ntmps182
  go_wp2
  go_ret
  exact ⟨rfl,rfl⟩
 by_cases h4:65 ≤ c.toNat
 ·have f1:¬ (97:Int) ≤ (c.toNat:Int):=by omega
  have f3:(65:Int) ≤ (c.toNat:Int):=by omega
  have f4:¬ (c.toNat:Int) ≤ 90:=by omega
  have f5:((c.toNat:Int) == 95) = false:=by rw [beq_eq_false_iff_ne]; omega
  have f6:(48:Int) ≤ (c.toNat:Int):=by omega
  have f7:¬ (c.toNat:Int) ≤ 57:=by omega
  rw [show isLetter c = false from by simp [isLetter,isSmall,isLarge,isDigit]; omega]
  generalize (c.toNat:Int) = x at *
  go_enter Tryz.func182,Tryz.ntmps182
  go_wp2
  go_ret
  exact ⟨rfl,rfl⟩
 by_cases h5:48 ≤ c.toNat ∧ c.toNat ≤ 57
 ·have f1:¬ (97:Int) ≤ (c.toNat:Int):=by omega
  have f3:¬ (65:Int) ≤ (c.toNat:Int):=by omega
  have f5:((c.toNat:Int) == 95) = false:=by rw [beq_eq_false_iff_ne]; omega
  have f6:(48:Int) ≤ (c.toNat:Int):=by omega
  have f7:(c.toNat:Int) ≤ 57:=by omega
  rw [show isLetter c = true from by simp [isLetter,isSmall,isLarge,isDigit]; omega]
  generalize (c.toNat:Int) = x at *
  go_enter Tryz.func182,Tryz.ntmps182
  go_wp2
  go_ret
  exact ⟨rfl,rfl⟩
 by_cases h6:48 ≤ c.toNat
 ·have f1:¬ (97:Int) ≤ (c.toNat:Int):=by omega
  have f3:¬ (65:Int) ≤ (c.toNat:Int):=by omega
  have f5:((c.toNat:Int) == 95) = false:=by rw [beq_eq_false_iff_ne]; omega
  have f6:(48:Int) ≤ (c.toNat:Int):=by omega
  have f7:¬ (c.toNat:Int) ≤ 57:=by omega
  rw [show isLetter c = false from by simp [isLetter,isSmall,isLarge,isDigit]; omega]
  generalize (c.toNat:Int) = x at *
  go_enter Tryz.func182,Tryz.ntmps182
  go_wp2
  go_ret
  exact ⟨rfl,rfl⟩
 have f1:¬ (97:Int) ≤ (c.toNat:Int):=by omega
 have f3:¬ (65:Int) ≤ (c.toNat:Int):=by omega
 have f5:((c.toNat:Int) == 95) = false:=by rw [beq_eq_false_iff_ne]; omega
 have f6:¬ (48:Int) ≤ (c.toNat:Int):=by omega
 rw [show isLetter c = false from by simp [isLetter,isSmall,isLarge,isDigit]; omega]
 generalize (c.toNat:Int) = x at *
 go_enter Tryz.func182,Tryz.ntmps182
 go_wp2
 go_ret
 exact ⟨rfl,rfl⟩
def NE (z:Int) (w:World) (e:Ending) (w':World):Prop:=∃ k:Nat,e = .returned (.tuple #[.int .i64 z,.int .i64 (k:Int)]) ∧ w' = w
def OneE (l:List UInt8) (w:World) (e:Ending) (w':World):Prop:=∃ k:Nat,e = .returned (.tuple #[.int .i64 (oneN l:Int),.int .i64 (k:Int)]) ∧ (rOne l ≠ none → k = kindR l) ∧ w' = w
def OneAll (n:Nat):Prop:=∀ s:ByteArray,s.size < n → ∀ u,Calls Tryz.prog 141 #[.string s] u (OneE s.data.toList u)
theorem oneAt {s:ByteArray} (h:OneAll s.size) (p:Nat) (hp:0 < p) (hps:p ≤ s.size) (_h0:0 < s.size):∀ u,Calls Tryz.prog 141 #[.string (s.extract p s.size)] u (NE (oneN (s.data.toList.drop p):Int) u):=by
 intro u
 have:=h (s.extract p s.size) (by rw [str_drop,str_size,List.length_drop,size_len]; omega) u
 rw [ext_data] at this
 refine this.mono ?_
 rintro e w1 ⟨k,rfl,_,rfl⟩
 exact ⟨k,rfl,rfl⟩
set_option maxHeartbeats 2000000 in
set_option maxRecDepth 1000000 in
theorem goes5 (s:ByteArray) (k:Nat) (w:World) (_hk:k ≤ 1000):Calls Tryz.prog 180 #[.string s,.int .i64 (k:Int)] w (Pu (.bool (goesR (s.data.toList.drop k))) w):=by
 by_cases h:k < s.size
 ·have hl:=letter5 s[k]
  have hki:(k:Int) < (s.size:Int):=by omega
  rw [drop_at s k h]
  cases hb:isLetter s[k]
  ·rw [hb] at hl
   by_cases hd:s[k].toNat = 46
   ·have hd':((s[k].toNat:Int) == 46) = true:=by rw [beq_iff_eq]; omega
    rw [show goesR (s[k] :: s.data.toList.drop (k + 1)) = true from by simp [goesR,hb,hd]]
    clear hd hb
    go_enter Tryz.func180,Tryz.ntmps180
    go_wp2_with (go_at_call 182; refine (hl _).mono ?_; rintro e w1 ⟨rfl,rfl⟩)
    go_ret
    exact ⟨rfl,rfl⟩
   ·have hd':((s[k].toNat:Int) == 46) = false:=by rw [beq_eq_false_iff_ne]; omega
    rw [show goesR (s[k] :: s.data.toList.drop (k + 1)) = false from by simp [goesR,hb,hd]]
    clear hd hb
    go_enter Tryz.func180,Tryz.ntmps180
    go_wp2_with (go_at_call 182; refine (hl _).mono ?_; rintro e w1 ⟨rfl,rfl⟩)
    go_ret
    exact ⟨rfl,rfl⟩
  ·rw [hb] at hl
   rw [show goesR (s[k] :: s.data.toList.drop (k + 1)) = true from by simp [goesR,hb]]
   clear hb
   go_enter Tryz.func180,Tryz.ntmps180
   go_wp2_with (go_at_call 182; refine (hl _).mono ?_; rintro e w1 ⟨rfl,rfl⟩)
   go_ret
   exact ⟨rfl,rfl⟩
 ·have hki:¬ (k:Int) < (s.size:Int):=by omega
  rw [List.drop_eq_nil_of_le (by rw [size_len]; omega),show goesR [] = false from rfl]
  go_enter Tryz.func180,Tryz.ntmps180
  go_wp2
  go_ret
  exact ⟨rfl,rfl⟩
end Go.Proofs.YtiiepfplommmfaaGreatDoor
