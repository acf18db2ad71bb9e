/-
  Names: the package's Name, Value, Big, and the document's own.
  And: Runes that are no ASCII ones, in bytes: how far one goes; none is a sign. strings.IndexAny at the signs of a type, in any bytes. strings.IndexRune of a rune that is no ASCII one, in ASCII bytes. The words of a type's text: strings.IndexAny at any bytes, strings.Cut at a point; the package's word, cut, rightWord.
-/
import Derived.Deep.Upon
import Derived.Deep.LoopGhost
import Derived.Test.YtiiepfplommmfaaGreatDoorG01
import Derived.Laws.RangeAny
import Derived.Laws.Runes
import Derived.Lib.IndexAny
import Derived.BigQuiet
import Derived.Lib.OthersKept
namespace Go.Proofs.YtiiepfplommmfaaGreatDoor
open Go.RowKit

theorem take_all (s:ByteArray) (k:Nat) (hk:k < s.size) (h:(s.data.toList.take k).all isLetter = true) (hc:isLetter s[k] = true):(s.data.toList.take (k + 1)).all isLetter = true:=by
 have hk':k < s.data.toList.length:=by rw [size_len]; exact hk
 have e:s.data.toList.take (k + 1) = s.data.toList.take k ++ [s[k]]:=by
  rw [List.take_succ_eq_append_getElem hk']
  rfl
 rw [e,List.all_append,h]
 simp [hc]
theorem not_all (s:ByteArray) (k:Nat) (hk:k < s.size) (hc:isLetter s[k] = false):s.data.toList.all isLetter = false:=by
 refine Bool.eq_false_iff.2 (fun h=>?_)
 rw [List.all_eq_true] at h
 have hk':k < s.data.toList.length:=by rw [size_len]; exact hk
 have:=h s[k] (by
  have e:s[k] = s.data.toList[k]:=rfl
  rw [e]
  exact List.getElem_mem hk')
 rw [hc] at this
 cases this
theorem all_all (s:ByteArray) (h:(s.data.toList.take s.size).all isLetter = true):s.data.toList.all isLetter = true:=by
 rwa [List.take_of_length_le (by rw [size_len]; exact Nat.le_refl _)] at h
theorem head_s (s:ByteArray) (h:0 < s.size):s.data.toList.head? = some s[0]:=by
 have:=drop_at s 0 h
 rw [List.drop_zero] at this
 rw [this]
 rfl
theorem not_nil (s:ByteArray) (h:0 < s.size):s.data.toList.isEmpty = false:=by
 have:=drop_at s 0 h
 rw [List.drop_zero] at this
 rw [this]
 rfl
theorem nameR_some (s:ByteArray) (h:0 < s.size) (h2:s.size ≤ 24) (h3:isDigit s[0] = false):nameR s.data.toList = s.data.toList.all isLetter:=by
 unfold nameR
 rw [head_s s h,not_nil s h,size_len]
 simp [h2,h3]
theorem nameR_empty (s:ByteArray) (h:s.size = 0):nameR s.data.toList = false:=by
 have:s.data.toList = []:=List.eq_nil_of_length_eq_zero (by rw [size_len]; exact h)
 rw [this]
 rfl
theorem nameR_long (s:ByteArray) (h:24 < s.size):nameR s.data.toList = false:=by
 unfold nameR
 rw [size_len]
 simp
 omega
theorem nameR_digit (s:ByteArray) (h:0 < s.size) (h3:isDigit s[0] = true):nameR s.data.toList = false:=by
 unfold nameR
 rw [head_s s h]
 simp [h3]
theorem nameR_pos (s:ByteArray) (h:nameR s.data.toList = true):0 < s.size:=by
 rcases Nat.eq_zero_or_pos s.size with h0 | h0
 ·rw [nameR_empty s h0] at h
  cases h
 ·exact h0
set_option maxHeartbeats 1600000 in
set_option maxRecDepth 1000000 in
theorem name (s:ByteArray) (w:World) (hs:s.size ≤ 9223372036854775806):Calls Tryz.prog 69 #[.string s] w (Pu (.bool (nameR s.data.toList)) w):=by
 by_cases h0:s.size = 0
 ·rw [nameR_empty s h0]
  have h0':((s.size:Int) == 0) = true:=by rw [beq_iff_eq]; omega
  clear h0
  go_enter Tryz.func69,Tryz.ntmps69
  go_wp2
  go_ret
  exact ⟨rfl,rfl⟩
 have h0':((s.size:Int) == 0) = false:=by rw [beq_eq_false_iff_ne]; omega
 have hp:0 < s.size:=by omega
 have hp':(0:Int) < (s.size:Int):=by omega
 clear h0
 by_cases h1:24 < s.size
 ·rw [nameR_long s h1]
  have h1':(24:Int) < (s.size:Int):=by omega
  clear h1
  go_enter Tryz.func69,Tryz.ntmps69
  go_wp2
  go_ret
  exact ⟨rfl,rfl⟩
 have h1':¬ (24:Int) < (s.size:Int):=by omega
 have hd0:=digit s[0]
 rcases (by cases isDigit s[0] <;> simp:isDigit s[0] = true ∨ isDigit s[0] = false) with h2 | h2
 ·rw [nameR_digit s hp h2]
  rw [h2] at hd0
  clear h1 h2
  go_enter Tryz.func69,Tryz.ntmps69
  go_wp2_with fail
  refine (hd0 _).mono ?_
  rintro e w1 ⟨rfl,rfl⟩
  go_wp2
  go_ret
  exact ⟨rfl,rfl⟩
 rw [nameR_some s hp (by omega) h2]
 rw [h2] at hd0
 clear h1 h2
 go_enter Tryz.func69,Tryz.ntmps69
 go_wp2_with fail
 refine (hd0 _).mono ?_
 rintro e w1 ⟨rfl,rfl⟩
 go_wp2
 go_loopg [19] s.size (fun g i wr=>∃ (k:Nat),g + k = s.size ∧ i = .int .i64 k ∧ Hid ((s.data.toList.take k).all isLetter = true) ∧ wr = w1)
 case atStart=>exact ⟨0,rfl,rfl,rfl,rfl⟩
 case round =>
  obtain ⟨k,hg,rfl,hall,rfl⟩:=hrel
  by_cases hk:k < s.size
  ·have hS:=small s[k]
   have hL:=large s[k]
   have hD:=digit s[k]
   clear hd0
   rcases (by cases isSmall s[k] <;> simp:isSmall s[k] = true ∨ isSmall s[k] = false) with d0 | d0
   ·have HA:Hid ((s.data.toList.take (k + 1)).all isLetter = true):=take_all s k hk hall.out (by simp [isLetter,d0])
    rw [d0] at hS
    clear d0 hall
    go_wp2_with fail
    refine (hS _).mono ?_
    rintro e w2 ⟨rfl,rfl⟩
    go_wp2
    go_roundg (s.size - (k + 1))
    case measure=>omega
    case rel=>exact ⟨k + 1,by omega,by go_num,HA,rfl⟩
   rw [d0] at hS
   rcases (by cases isLarge s[k] <;> simp:isLarge s[k] = true ∨ isLarge s[k] = false) with d1 | d1
   ·have HA:Hid ((s.data.toList.take (k + 1)).all isLetter = true):=take_all s k hk hall.out (by simp [isLetter,d1])
    rw [d1] at hL
    clear d0 d1 hall
    go_wp2_with fail
    refine (hS _).mono ?_
    rintro e w2 ⟨rfl,rfl⟩
    go_wp2_with fail
    refine (hL _).mono ?_
    rintro e w2 ⟨rfl,rfl⟩
    go_wp2
    go_roundg (s.size - (k + 1))
    case measure=>omega
    case rel=>exact ⟨k + 1,by omega,by go_num,HA,rfl⟩
   rw [d1] at hL
   rcases (by cases isDigit s[k] <;> simp:isDigit s[k] = true ∨ isDigit s[k] = false) with d2 | d2
   ·have HA:Hid ((s.data.toList.take (k + 1)).all isLetter = true):=take_all s k hk hall.out (by simp [isLetter,d2])
    rw [d2] at hD
    clear d0 d1 d2 hall
    go_wp2_with fail
    refine (hS _).mono ?_
    rintro e w2 ⟨rfl,rfl⟩
    go_wp2_with fail
    refine (hL _).mono ?_
    rintro e w2 ⟨rfl,rfl⟩
    go_wp2_with fail
    refine (hD _).mono ?_
    rintro e w2 ⟨rfl,rfl⟩
    go_wp2
    go_roundg (s.size - (k + 1))
    case measure=>omega
    case rel=>exact ⟨k + 1,by omega,by go_num,HA,rfl⟩
   rw [d2] at hD
   by_cases d3:s[k].toNat = 95
   ·have HA:Hid ((s.data.toList.take (k + 1)).all isLetter = true):=take_all s k hk hall.out (by simp [isLetter,d3])
    have d3':((s[k].toNat:Int) != 95) = false:=by rw [bne_eq_false_iff_eq]; omega
    clear d0 d1 d2 d3 hall
    go_wp2_with fail
    refine (hS _).mono ?_
    rintro e w2 ⟨rfl,rfl⟩
    go_wp2_with fail
    refine (hL _).mono ?_
    rintro e w2 ⟨rfl,rfl⟩
    go_wp2_with fail
    refine (hD _).mono ?_
    rintro e w2 ⟨rfl,rfl⟩
    go_wp2
    go_roundg (s.size - (k + 1))
    case measure=>omega
    case rel=>exact ⟨k + 1,by omega,by go_num,HA,rfl⟩
   have d3':((s[k].toNat:Int) != 95) = true:=by rw [bne_iff_ne]; omega
   rw [not_all s k hk (by simp [isLetter,d0,d1,d2,d3])]
   clear d0 d1 d2 d3 hall
   go_wp2_with fail
   refine (hS _).mono ?_
   rintro e w2 ⟨rfl,rfl⟩
   go_wp2_with fail
   refine (hL _).mono ?_
   rintro e w2 ⟨rfl,rfl⟩
   go_wp2_with fail
   refine (hD _).mono ?_
   rintro e w2 ⟨rfl,rfl⟩
   go_wp2
   go_ret
   exact ⟨rfl,rfl⟩
  ·have hk':k = s.size:=by omega
   subst hk'
   have HA:Hid (s.data.toList.all isLetter = true):=all_all s hall.out
   clear hall hd0
   go_wp2
   go_ret
   exact ⟨by rw [HA.out]; rfl,rfl⟩
theorem bigR_no (s:ByteArray) (h:nameR s.data.toList = false):bigR s.data.toList = false:=by simp [bigR,h]
theorem valueR_no (s:ByteArray) (h:nameR s.data.toList = false):valueR s.data.toList = false:=by simp [valueR,h]
theorem bigR_yes (s:ByteArray) (h:nameR s.data.toList = true) (hp:0 < s.size):bigR s.data.toList = isLarge s[0]:=by simp [bigR,h,head_s s hp]
theorem valueR_yes (s:ByteArray) (h:nameR s.data.toList = true) (hp:0 < s.size):valueR s.data.toList = !isLarge s[0]:=by simp [valueR,h,head_s s hp]
set_option maxHeartbeats 400000 in
set_option maxRecDepth 1000000 in
theorem big (s:ByteArray) (w:World) (hs:s.size ≤ 9223372036854775806):Calls Tryz.prog 194 #[.string s] w (Pu (.bool (bigR s.data.toList)) w):=by
 have hn:=fun w=>name s w hs
 rcases (by cases nameR s.data.toList <;> simp:nameR s.data.toList = true ∨ nameR s.data.toList = false) with h | h
 ·have hp:=nameR_pos s h
  have hp':(0:Int) < (s.size:Int):=by omega
  rw [bigR_yes s h hp]
  rw [h] at hn
  have hl:=large s[0]
  generalize isLarge s[0] = b at *
  clear h
  go_enter Tryz.func194,Tryz.ntmps194
  go_wp2_with fail
  refine (hn _).mono ?_
  rintro e w1 ⟨rfl,rfl⟩
  go_wp2_with fail
  refine (hl _).mono ?_
  rintro e w1 ⟨rfl,rfl⟩
  go_wp2
  go_ret
  exact ⟨rfl,rfl⟩
 ·rw [bigR_no s h]
  rw [h] at hn
  clear h
  go_enter Tryz.func194,Tryz.ntmps194
  go_wp2_with fail
  refine (hn _).mono ?_
  rintro e w1 ⟨rfl,rfl⟩
  go_wp2
  go_ret
  exact ⟨rfl,rfl⟩
set_option maxHeartbeats 400000 in
set_option maxRecDepth 1000000 in
theorem value (s:ByteArray) (w:World) (hs:s.size ≤ 9223372036854775806):Calls Tryz.prog 25 #[.string s] w (Pu (.bool (valueR s.data.toList)) w):=by
 have hn:=fun w=>name s w hs
 rcases (by cases nameR s.data.toList <;> simp:nameR s.data.toList = true ∨ nameR s.data.toList = false) with h | h
 ·have hp:=nameR_pos s h
  have hp':(0:Int) < (s.size:Int):=by omega
  rw [valueR_yes s h hp]
  rw [h] at hn
  have hl:=large s[0]
  generalize isLarge s[0] = b at *
  clear h
  go_enter Tryz.func25,Tryz.ntmps25
  go_wp2_with fail
  refine (hn _).mono ?_
  rintro e w1 ⟨rfl,rfl⟩
  go_wp2_with fail
  refine (hl _).mono ?_
  rintro e w1 ⟨rfl,rfl⟩
  go_wp2
  go_ret
  exact ⟨rfl,rfl⟩
 ·rw [valueR_no s h]
  rw [h] at hn
  clear h
  go_enter Tryz.func25,Tryz.ntmps25
  go_wp2_with fail
  refine (hn _).mono ?_
  rintro e w1 ⟨rfl,rfl⟩
  go_wp2
  go_ret
  exact ⟨rfl,rfl⟩
end Go.Proofs.YtiiepfplommmfaaGreatDoor

namespace Go.Proofs.YtiiepfplommmfaaGreatDoor
open Go.RowKit Go.Lib

theorem below_drewN {H:Nat} {w w1:World} (h:Below H w w1) (n:Nat):Below H w (w1.drewN n):=⟨h.os,h.tape,h.output,h.size,h.block⟩
theorem get_nat (s:ByteArray) (p:Nat) (h:p < s.size):s.get! p = s[p]:=get_at s p h
theorem decode_wide (s:ByteArray) (pos:Nat) (h:pos < s.size) (ha:128 ≤ (s[pos]'h).toNat):pos + (Utf8.decode s pos).2 ≤ s.size ∧ ∀ j (hj:j < s.size),pos ≤ j → j < pos + (Utf8.decode s pos).2 → 128 ≤ (s[j]'hj).toNat:=by
 have hn:¬ (s[pos]'h).toNat < 128:=by omega
 have one:pos + 1 ≤ s.size ∧ ∀ j (hj:j < s.size),pos ≤ j → j < pos + 1 → 128 ≤ (s[j]'hj).toNat:=by
  refine ⟨by omega,fun j hj h1 h2=>?_⟩
  obtain rfl:j = pos:=by omega
  exact ha
 have c:∀ k,(decide (pos + k < s.size) && (s.get! (pos + k)).toNat / 64 == 2) = true → ∀ hj:pos + k < s.size,128 ≤ (s[pos + k]'hj).toNat:=by
  intro k hk hj
  rw [Bool.and_eq_true,beq_iff_eq,get_nat s _ hj] at hk
  omega
 have c':∀ k,(decide (pos + k < s.size) && (s.get! (pos + k)).toNat / 64 == 2) = true → pos + k < s.size:=by
  intro k hk
  rw [Bool.and_eq_true] at hk
  exact of_decide_eq_true hk.1
 simp only [Utf8.decode,get_at s pos h,hn,if_false]
 split
 ·rename_i h2
  rw [Bool.and_eq_true] at h2
  split
  ·refine ⟨by have:=c' 1 h2.2; omega,fun j hj h3 h4=>?_⟩
   rcases (by omega:j = pos ∨ j = pos + 1) with rfl | rfl
   ·exact ha
   ·exact c 1 h2.2 hj
  ·exact one
 ·split
  ·rename_i h2
   simp only [Bool.and_eq_true] at h2
   have q1:=c 1 (by simp only [Bool.and_eq_true]; exact h2.1.2)
   have q2:=c 2 (by simp only [Bool.and_eq_true]; exact h2.2)
   have q3:=c' 2 (by simp only [Bool.and_eq_true]; exact h2.2)
   split
   ·refine ⟨by omega,fun j hj h3 h4=>?_⟩
    rcases (by omega:j = pos ∨ j = pos + 1 ∨ j = pos + 2) with rfl | rfl | rfl
    ·exact ha
    ·exact q1 hj
    ·exact q2 hj
   ·exact one
  ·split
   ·rename_i h2
    simp only [Bool.and_eq_true] at h2
    have q1:=c 1 (by simp only [Bool.and_eq_true]; exact h2.1.1.2)
    have q2:=c 2 (by simp only [Bool.and_eq_true]; exact h2.1.2)
    have q3:=c 3 (by simp only [Bool.and_eq_true]; exact h2.2)
    have q4:=c' 3 (by simp only [Bool.and_eq_true]; exact h2.2)
    split
    ·refine ⟨by omega,fun j hj h3 h4=>?_⟩
     rcases (by omega:j = pos ∨ j = pos + 1 ∨ j = pos + 2 ∨ j = pos + 3) with rfl | rfl | rfl | rfl
     ·exact ha
     ·exact q1 hj
     ·exact q2 hj
     ·exact q3 hj
    ·exact one
   ·exact one
def sgn:ByteArray:=⟨#[91,93,40,41,44]⟩
theorem sgn_low:∀ i (h:i < sgn.size),(sgn[i]'h).toNat < 128:=by decide
theorem indexByte_high:∀ (l:List UInt8) (c:UInt8),128 ≤ c.toNat → (∀ b ∈ l,b.toNat < 128) → indexByte l c = -1
 | [],_,_,_=>rfl
 | b :: l,c,h,hl=>by
  have h1:b ≠ c:=by rintro rfl; have:=hl b (by simp); omega
  rw [indexByte,if_neg (by simpa using h1),indexByte_high l c h (fun x hx=>hl x (by simp [hx]))]
  rfl
theorem low_mem (s:ByteArray) (hs:∀ i (h:i < s.size),(s[i]'h).toNat < 128):∀ b ∈ s.data.toList,b.toNat < 128:=by
 intro b hb
 obtain ⟨i,hi,rfl⟩:=List.getElem_of_mem hb
 exact hs i (by rw [← size_len]; exact hi)
theorem valid_of (r:Int) (h:Lib.validRune r = true):Utf8.valid r = true:=by /- 213 -/
 simp only [Lib.validRune,decide_eq_true_eq] at h
 simp only [Utf8.valid,Bool.or_eq_true,Bool.and_eq_true,decide_eq_true_eq]
 omega
end Go.Proofs.YtiiepfplommmfaaGreatDoor

namespace Go.Proofs.YtiiepfplommmfaaGreatDoor
open Go.RowKit Go.Lib

set_option maxHeartbeats 4000000 in
set_option maxRecDepth 1000000 in
theorem idxRune_err (s : ByteArray) (hlow : ∀ i (h : i < s.size), (s[i]'h).toNat < 128) (w : World) :
  Calls Tryz.prog 213 #[.string s,.int .i32 65533] w fun e w'=>e = .returned (.int .i64 (-1)) ∧ Below w.heap.size w w':=by
 have HL:Hid (∀ i (h:i < s.size),(s[i]'h).toNat < 128):=hlow
 clear hlow
 go_enter Tryz.func213,Tryz.ntmps213
 go_wp2
 go_loopg [5,6] s.size (fun g _ _ wx=>∃ i:Nat,i + g = s.size ∧ wx = w.iter s i)
 case atStart=>exact ⟨0,by omega,rfl⟩
 case round =>
  obtain ⟨i,hig,rfl⟩:=hrel
  cases gk with
  | zero =>
   obtain rfl:i = s.size:=by omega
   have hnx:=run_next_end (P:=Tryz.prog) w s s.size
   go_wp2
   refine bodyPost_ret (results_tmp (fn:=Tryz.f213) (t:=4) rfl _ _ _) rfl ?_
   exact ⟨rfl,(Below.refl _ _).alloc (Nat.le_refl _) _⟩
  | succ g =>
   have hi:i < s.size:=by omega
   have hx:=HL.out i hi
   have hnx:=fun ty=>run_next_ascii (P:=Tryz.prog) w s i ty hi hx
   have hne:((s[i].toNat:Int) == 65533) = false:=by rw [beq_eq_false_iff_ne]; omega
   go_wp2
   go_roundg g
   case measure=>omega
   case rel=>exact ⟨i + 1,by omega,rfl⟩
end Go.Proofs.YtiiepfplommmfaaGreatDoor

namespace Go.Proofs.YtiiepfplommmfaaGreatDoor
open Go.RowKit Go.Lib

set_option maxHeartbeats 4000000 in
set_option maxRecDepth 1000000 in
theorem idxRune_bad (s : ByteArray) (r : Nat) (w : World) (h0 : 128 ≤ r) (he : r ≠ 65533) (hv : Lib.validRune (r : Int) = false) :
  Calls Tryz.prog 213 #[.string s,.int .i32 (r:Int)] w fun e w'=>e = .returned (.int .i64 (-1)) ∧ Below w.heap.size w w':=by
 have g0:¬ (r:Int) < 128:=by omega
 have he':((r:Int) == 65533) = false:=by rw [beq_eq_false_iff_ne]; omega
 clear he
 go_enter Tryz.func213,Tryz.ntmps213
 go_wp2_with (go_at_call 221; refine (Tryz.utf8_ValidRune _ _).mono ?_; rintro e w' ⟨rfl,hw⟩; rw [hw,hv])
 go_ret
 exact ⟨rfl,Below.refl _ _⟩
set_option maxHeartbeats 4000000 in
set_option maxRecDepth 1000000 in
theorem idxRune_far (s : ByteArray) (hlow : ∀ i (h : i < s.size), (s[i]'h).toNat < 128) (h5 : s.size = 5) (r : Nat) (w : World) (h0 : 128 ≤ r) (he : r ≠ 65533) (hv : Lib.validRune (r : Int) = true) :
  Calls Tryz.prog 213 #[.string s,.int .i32 (r:Int)] w fun e w'=>e = .returned (.int .i64 (-1)) ∧ Below w.heap.size w w':=by
 have HL:Hid (∀ i (h:i < s.size),(s[i]'h).toNat < 128):=hlow
 clear hlow
 have g0:¬ (r:Int) < 128:=by omega
 have he':((r:Int) == 65533) = false:=by rw [beq_eq_false_iff_ne]; omega
 clear he
 obtain ⟨e1,e2,e3⟩:=encode_facts (r:Int) (valid_of _ hv) (by omega)
 generalize hE:Utf8.encode (r:Int) = x at *
 have hxs:x.size - 1 < x.size:=by omega
 have hx:=e3 hxs
 clear e3
 have hc:(x.size:Int) - 1 = ((x.size - 1:Nat):Int):=by omega
 generalize hm:x.size - 1 = m at *
 have hm5:m < s.size:=by omega
 have hsm:=HL.out m hm5
 have hlm:(m:Int) < (s.size:Int):=by omega
 have hne:((s[m].toNat:Int) != (x[m].toNat:Int)) = true:=by simp; omega
 have hib:indexByte (s.extract (m + 1) s.size).data.toList x[m] = -1:=by
  refine indexByte_high _ _ hx (fun b hb=>?_)
  rw [extract_data] at hb
  exact low_mem s HL.out b (List.mem_of_mem_drop (List.mem_of_mem_take hb))
 have hb2:(m:Int) + 1 ≤ (s.size:Int):=by omega
 have hcv:∀ w,(convert 21 9 (.int .i32 (r:Int))).run Tryz.prog w = .ok (.string x) w:=fun w=>by
  rw [run_convert_int_string w 21 9 .i32 (r:Int) (by simp [Tryz.underlying21]) Tryz.underlying9,hE]
 clear hE
 go_enter Tryz.func213,Tryz.ntmps213
 go_wp2_with (go_at_call 221; refine (Tryz.utf8_ValidRune _ _).mono ?_; rintro e w' ⟨rfl,hw⟩; rw [hw,hv])
 refine wp_scope_labels (fun _ _ _=>False) (fun _ _ _=>0) ?_ (fun _ _ _ h=>h.elim)
 intro hz
 clear hz
 go_wp2
 go_loopg [9] 0 (fun _ i wx=>i = .int .i64 (m:Int) ∧ wx = w)
 case atStart=>exact ⟨rfl,rfl⟩
 case round =>
  obtain ⟨rfl,rfl⟩:=hrel
  have hm9:m < 5:=by omega
  clear h5 e1 e2 hm hc hv
  rw [extract_data] at hib
  go_wp2
  refine wp_scope_labels (fun _ _ _=>False) (fun _ _ _=>0) ?_ (fun _ _ _ h=>h.elim)
  intro hz
  clear hz
  have k1:IntKind.i64.wrap ((m:Int) + 1) = (m:Int) + 1:=by rw [IntKind.wrap_i64]; omega
  have k2:(0:Int) ≤ (m:Int) + 1:=by omega
  have k3:((m:Int) + 1).toNat = m + 1:=by omega
  have k4:(x[m].toNat:Int).toNat.toUInt8 = x[m]:=by simp
  go_wp2
  go_region
  go_wp2
  go_region_with (first
   | (go_at_call 220; refine (Tryz.strings_IndexByte _ _ _).mono ?_; rintro e w' ⟨rfl,rfl⟩))
  go_wp2
  show bodyPost Tryz.prog Tryz.f213 (fun e w'=>e = Ending.returned (Value.int IntKind.i64 (-1)) ∧ Below wr.heap.size wr w') Exit.ret _ _
  refine bodyPost_ret (results_tmp (fn:=Tryz.f213) (t:=4) rfl _ _ _) rfl ?_
  exact ⟨rfl,below_drewN (Below.refl _ _) 2⟩
theorem idxRune (s : ByteArray) (hlow : ∀ i (h : i < s.size), (s[i]'h).toNat < 128) (h5 : s.size = 5) (r : Nat) (w : World) (h0 : 128 ≤ r) :
  Calls Tryz.prog 213 #[.string s,.int .i32 (r:Int)] w fun e w'=>e = .returned (.int .i64 (-1)) ∧ Below w.heap.size w w':=by
 by_cases he:r = 65533
 ·subst he
  exact idxRune_err s hlow w
 ·rcases (by cases Lib.validRune (r:Int) <;> simp:Lib.validRune (r:Int) = false ∨ Lib.validRune (r:Int) = true) with hv | hv
  ·exact idxRune_bad s r w h0 he hv
  ·exact idxRune_far s hlow h5 r w h0 he hv
end Go.Proofs.YtiiepfplommmfaaGreatDoor

namespace Go.Proofs.YtiiepfplommmfaaGreatDoor
open Go.RowKit Go.Lib

theorem hid_iff (p:Prop):Hid p = p:=rfl
theorem noAny_far {s chars:List UInt8} {i n:Nat} (h:NoAny s chars i) (hw:∀ j b,i ≤ j → j < n → s[j]? = some b → chars.contains b = false):NoAny s chars n:=by
 intro j b hj hb
 rcases Nat.lt_or_ge j i with h1 | h1
 ·exact h j b h1 hb
 ·exact hw j b h1 hj hb
theorem sgn_high (b:UInt8) (h:128 ≤ b.toNat):([91,93,40,41,44]:List UInt8).contains b = false:=by
 rw [Bool.eq_false_iff]
 intro hc
 rw [List.contains_iff_mem] at hc
 simp only [List.mem_cons,List.not_mem_nil,or_false] at hc
 rcases hc with rfl | rfl | rfl | rfl | rfl <;> simp at h
set_option maxHeartbeats 4000000 in
set_option maxRecDepth 1000000 in
theorem idxAny_short (s : ByteArray) (w : World) (h8 : s.size ≤ 8) :
  Calls Tryz.prog 200 #[.string s,.string ⟨#[91,93,40,41,44]⟩] w fun e w'=>e = .returned (.int .i64 (indexAny s.data.toList [91,93,40,41,44])) ∧ Below w.heap.size w w':=by
 have h8z:decide ((8:Int) < (s.size:Int)) = false:=decide_eq_false (by omega)
 go_enter Tryz.func200,Tryz.ntmps200
 go_wp2_with (go_at_call 214; refine (Tryz.strings_shouldUseASCIISet _ _).mono ?_; rintro e w' ⟨rfl,hw⟩; rw [hw,h8z])
 clear hw
 go_loopg [9,10] s.size (fun g _ _ wx=>∃ i:Nat,i + g = s.size ∧ Hid (NoAny s.data.toList [91,93,40,41,44] i) ∧ wx.heap[w.heap.size]? = some (.stringIter s i) ∧ Below w.heap.size w wx)
 case atStart=>exact ⟨0,by omega,NoAny.zero _ _,World.iter_heap _ _ _,(Below.refl _ _).alloc (Nat.le_refl _) _⟩
 case round =>
  obtain ⟨i,hig,hno,hk,hbl⟩:=hrel
  by_cases hi:i < s.size
  ·by_cases hx:(s[i]'hi).toNat < 128
   ·have hnx:=fun ty=>run_next_ascii_at (P:=Tryz.prog) wr w.heap.size s i ty hk hi hx
    have hk2:=iterAt_heap wr w.heap.size s i (i + 1) hk
    have hb2:=below_iterAt hbl (Nat.le_refl _) s (i + 1)
    obtain ⟨x,hxe⟩:∃ x:UInt8,s[i]'hi = x:=⟨_,rfl⟩
    have Hx:Hid (s.data.toList[i]? = some x):=by
     rw [← hxe]; exact Lib.data_getElem? s i hi
    rw [hxe] at hnx hx
    clear hxe hk
    have hcon:=Lib.contains_iff_indexByte [91,93,40,41,44] x
    have hback:((x.toNat:Int)).toNat.toUInt8 = x:=by simp
    have hir:=fun v=>Tryz.strings_IndexRune_ascii ⟨#[91,93,40,41,44]⟩ (x.toNat:Int) v (by omega) (by omega)
    rw [hback] at hir
    generalize wr.iterAt w.heap.size s (i + 1) = wq at *
    cases hin:([91,93,40,41,44]:List UInt8).contains x
    ·rw [hin] at hcon
     have HN:Hid (NoAny s.data.toList [91,93,40,41,44] (i + 1)):=hno.out.succ Hx.out hin
     have hlt:¬ ((0:Int) ≤ Lib.indexByte [91,93,40,41,44] x):=of_decide_eq_false hcon.symm
     clear hcon hin hno Hx
     generalize Lib.indexByte [91,93,40,41,44] x = y at *
     go_wp2_with (go_at_call 213; refine (hir _).mono ?_; rintro e w' ⟨rfl,hw⟩; rw [hw])
     go_roundg (s.size - (i + 1))
     case measure=>omega
     case rel=>exact ⟨i + 1,by omega,HN,hk2,hb2⟩
    ·rw [hin] at hcon
     have hge:(0:Int) ≤ Lib.indexByte [91,93,40,41,44] x:=of_decide_eq_true hcon.symm
     have HN:Hid (Lib.indexAny s.data.toList [91,93,40,41,44] = (i:Int)):=Lib.indexAny_hit hno.out Hx.out hin
     clear hcon hin hno Hx
     generalize Lib.indexByte [91,93,40,41,44] x = y at *
     go_wp2_with (go_at_call 213; refine (hir _).mono ?_; rintro e w' ⟨rfl,hw⟩; rw [hw])
     go_ret
     exact ⟨by rw [HN.out]; rfl,hb2⟩
   ·have hh:=decode_high s i hi (by omega)
    have hwd:=decode_wide s i hi (by omega)
    have hnx:=fun ty=>run_next_any_at (P:=Tryz.prog) wr w.heap.size s i ty hk hi
    generalize Utf8.decode s i = dr at *
    obtain ⟨r,n⟩:=dr
    simp only at hh hwd hnx
    have hk2:=iterAt_heap wr w.heap.size s i (i + n) hk
    have hb2:=below_iterAt hbl (Nat.le_refl _) s (i + n)
    have HN:Hid (NoAny s.data.toList [91,93,40,41,44] (i + n)):=by
     refine noAny_far hno.out (fun j b h1 h2 hb=>sgn_high b ?_)
     obtain ⟨h3,rfl⟩:=List.getElem?_eq_some_iff.1 hb
     exact hwd.2 j (by rw [← size_len]; exact h3) h1 h2
    have hir:=fun v=>idxRune ⟨#[91,93,40,41,44]⟩ sgn_low rfl r v hh.1
    have hn1:=hh.2
    have hn2:=hwd.1
    clear hk hno hh hwd
    have hws:w.heap.size < (wr.iterAt w.heap.size s (i + n)).heap.size:=(Array.getElem?_eq_some_iff.1 hk2).1
    generalize wr.iterAt w.heap.size s (i + n) = wq at *
    go_wp2_with fail
    refine (hir _).mono ?_
    rintro e w1 ⟨rfl,hb1⟩
    have hk3:w1.heap[w.heap.size]? = some (.stringIter s (i + n)):=(hb1.block _ hws).trans hk2
    have hb3:Below w.heap.size w w1:=hb2.trans ⟨hb1.os,hb1.tape,hb1.output,hb1.size,fun k hk=>hb1.block k (by omega)⟩
    clear hir hk2 hb2 hb1
    go_wp2
    go_roundg (s.size - (i + n))
    case measure=>omega
    case rel=>exact ⟨i + n,by omega,HN,hk3,hb3⟩
  ·have hnx:=fun ty=>run_next_end_at (P:=Tryz.prog) wr w.heap.size s i ty hk hi
   have HN:Hid (Lib.indexAny s.data.toList [91,93,40,41,44] = -1):=by
    refine Lib.indexAny_none ?_
    rw [size_len]
    have:=hno.out
    rwa [show i = s.size from by omega] at this
   clear hno
   go_wp2
   go_ret
   exact ⟨by rw [HN.out]; rfl,hbl⟩
theorem info256:(Tryz.prog.info? 259).map (fun i=>(i.zero,i.size)) = some (some (.agg (Array.replicate 256 (.bool false))),256):=by kernel_rfl
set_option maxRecDepth 100000 in
theorem idxAny (s : ByteArray) (w : World) (hs : s.size ≤ 8192) :
  Calls Tryz.prog 200 #[.string s,.string ⟨#[91,93,40,41,44]⟩] w fun e w'=>e = .returned (.int .i64 (indexAny s.data.toList [91,93,40,41,44])) ∧ Below w.heap.size w w':=by
 by_cases h8:s.size ≤ 8
 ·exact idxAny_short s w h8
 ·refine (Tryz.strings_IndexAny_long (zero_of_info info256).1 s ⟨#[91,93,40,41,44]⟩ w (by decide) (by omega) (by omega) (by decide) (fun j b hb=>low_mem sgn sgn_low b (List.mem_of_getElem? hb))).mono ?_
  rintro e w' ⟨h1,rfl⟩
  exact ⟨h1,((Below.refl _ _).alloc (Nat.le_refl _) _).alloc (by simp) _⟩
theorem find_tw (f:UInt8 → Bool) (g:List UInt8 → Int) (h0:g [] = -1) (h1:∀ b l,g (b :: l) = if f b then (if g l == -1 then -1 else g l + 1) else 0):∀ l:List UInt8,(g l = -1 ∧ l.takeWhile f = l) ∨ (g l = ((l.takeWhile f).length:Int) ∧ (l.takeWhile f).length < l.length)
 | [] => .inl ⟨h0,rfl⟩
 | b :: l=>by
  have ih:=find_tw f g h0 h1 l
  rw [h1]
  by_cases hb:f b = true
  ·rw [List.takeWhile_cons_of_pos hb,if_pos hb]
   rcases ih with ⟨e1,e2⟩ | ⟨e1,e2⟩
   ·exact .inl ⟨by rw [e1]; rfl,by rw [e2]⟩
   ·right
    rw [e1,if_neg (by rw [beq_iff_eq]; omega)]
    exact ⟨by simp,by simpa using e2⟩
  ·rw [List.takeWhile_cons_of_neg hb,if_neg hb]
   exact .inr ⟨rfl,by simp⟩
set_option maxRecDepth 100000 in
theorem sgn_sign (b:UInt8):([91,93,40,41,44]:List UInt8).contains b = isSign b:=by
 have key:∀ n:Fin 256,([91,93,40,41,44]:List UInt8).contains (UInt8.ofNat n.val) = isSign (UInt8.ofNat n.val):=by decide
 have:=key ⟨b.toNat,b.toNat_lt⟩
 simpa using this
theorem idx_word (l:List UInt8):(indexAny l [91,93,40,41,44] = -1 ∧ wordR l = l) ∨ (indexAny l [91,93,40,41,44] = ((wordR l).length:Int) ∧ (wordR l).length < l.length):=by
 refine find_tw notSign (fun l=>indexAny l [91,93,40,41,44]) rfl (fun b l=>?_) l
 show indexAny (b :: l) _ = _
 rw [indexAny,sgn_sign,notSign]
 cases isSign b <;> simp
theorem idx_dot (l:List UInt8):(indexByte l 46 = -1 ∧ aheadR l = l) ∨ (indexByte l 46 = ((aheadR l).length:Int) ∧ (aheadR l).length < l.length):=by
 refine find_tw notDot (fun l=>indexByte l 46) rfl (fun b l=>?_) l
 show indexByte (b :: l) _ = _
 have hb:(b == 46) = decide (b.toNat = 46):=by
  rw [Bool.eq_iff_iff,beq_iff_eq,decide_eq_true_iff]
  exact ⟨fun h=>by rw [h]; rfl,fun h=>UInt8.toNat_inj.1 (by rw [h]; rfl)⟩
 rw [indexByte,hb,notDot]
 cases decide (b.toNat = 46) <;> simp
theorem str_take (s:ByteArray) (n:Nat):s.extract 0 n = str (s.data.toList.take n):=by rw [extract_str]; simp
theorem str_drop (s:ByteArray) (n:Nat):s.extract n s.size = str (s.data.toList.drop n):=by
 rw [extract_str,List.take_of_length_le (by rw [List.length_drop,size_len]; omega)]
theorem word_take (l:List UInt8):l.take (wordR l).length = wordR l:=take_tw _ _
theorem ahead_take (l:List UInt8):l.take (aheadR l).length = aheadR l:=take_tw _ _
theorem word_le (l:List UInt8):(wordR l).length ≤ l.length:=(List.takeWhile_prefix _).length_le
def TextB (l:List UInt8) (w:World) (e:Ending) (w':World):Prop:=e = .returned (.string (str l)) ∧ Below w.heap.size w w'
set_option maxHeartbeats 1000000 in
set_option maxRecDepth 1000000 in
theorem word (s:ByteArray) (w:World) (hs:s.size ≤ 8192):Calls Tryz.prog 175 #[.string s] w (TextB (wordR s.data.toList) w):=by
 have hc:=idxAny s
 rcases idx_word s.data.toList with ⟨e1,e2⟩ | ⟨e1,e2⟩
 ·have HR:Hid (wordR s.data.toList = s.data.toList):=e2
  rw [e1] at hc
  clear e1 e2
  go_enter Tryz.func175,Tryz.ntmps175
  go_wp2_with (go_at_call 200; refine (hc _ hs).mono ?_; rintro e w1 ⟨rfl,hb⟩)
  go_ret
  exact ⟨by rw [HR.out,str_toList]; rfl,hb⟩
 ·rw [e1] at hc
  rw [size_len] at e2
  have k1:((wordR s.data.toList).length:Int) ≤ (s.size:Int):=by omega
  have HR:Hid (s.extract 0 (wordR s.data.toList).length = str (wordR s.data.toList)):=by
   rw [hid_iff,str_take,word_take]
  generalize wordR s.data.toList = x at *
  clear e1
  go_enter Tryz.func175,Tryz.ntmps175
  go_wp2_with (go_at_call 200; refine (hc _ hs).mono ?_; rintro e w1 ⟨rfl,hb⟩)
  go_ret
  exact ⟨by rw [← HR.out]; rfl,hb⟩
def CutS (l:List UInt8) (w:World) (e:Ending) (w':World):Prop:=∃ b n,e = .returned (.tuple #[.string (str (aheadR l)),.string (str (behindR l)),.bool b]) ∧ w' = w.drewN n
set_option maxHeartbeats 1000000 in
set_option maxRecDepth 1000000 in
theorem cutLite (s:ByteArray) (w:World) (hs:s.size ≤ 9223372036854775806):Calls Tryz.prog 219 #[.string s,.string ⟨#[46]⟩] w (CutS s.data.toList w):=by
 have hc:=fun v=>Tryz.stringslite_Index_one s 46 v
 rcases idx_dot s.data.toList with ⟨e1,e2⟩ | ⟨e1,e2⟩
 ·have HR:Hid (str (aheadR s.data.toList) = s):=by rw [hid_iff,e2,str_toList]
  have HB:Hid (behindR s.data.toList = []):=by
   rw [hid_iff,behindR,e2]; simp
  rw [e1] at hc
  clear e1 e2
  go_enter Tryz.func219,Tryz.ntmps219
  go_wp2_with (go_at_call 228; refine (hc _).mono ?_; rintro e w1 ⟨rfl,rfl⟩)
  go_ret3
  exact ⟨false,0,by rw [HR.out,HB.out]; rfl,rfl⟩
 ·rw [e1] at hc
  rw [size_len] at e2
  have k1:((aheadR s.data.toList).length:Int) ≤ (s.size:Int):=by omega
  have k2:((aheadR s.data.toList).length:Int) + 1 ≤ (s.size:Int):=by omega
  have HR:Hid (s.extract 0 (aheadR s.data.toList).length = str (aheadR s.data.toList)):=by
   rw [hid_iff,str_take,ahead_take]
  have HB:Hid (s.extract ((aheadR s.data.toList).length + 1) s.size = str (behindR s.data.toList)):=by
   rw [hid_iff,str_drop,behindR]
  generalize hyg:behindR s.data.toList = y at *
  generalize hxg:aheadR s.data.toList = x at *
  have HX:Hid (aheadR s.data.toList = x):=hxg
  have HY:Hid (behindR s.data.toList = y):=hyg
  clear e1 hxg hyg
  have k3:IntKind.i64.wrap ((x.length:Int) + 1) = (x.length:Int) + 1:=by rw [IntKind.wrap_i64]; omega
  have k4:(0:Int) ≤ (x.length:Int) + 1:=by omega
  have k5:((x.length:Int) + 1).toNat = x.length + 1:=by omega
  go_enter Tryz.func219,Tryz.ntmps219
  go_wp2_with (go_at_call 228; refine (hc _).mono ?_; rintro e w1 ⟨rfl,rfl⟩)
  go_region
  go_wp2
  go_ret3
  exact ⟨true,1,by rw [HX.out,HY.out, ← HR.out, ← HB.out]; rfl,rfl⟩
set_option maxHeartbeats 1000000 in
set_option maxRecDepth 1000000 in
theorem cutDot (s:ByteArray) (w:World) (hs:s.size ≤ 9223372036854775806):Calls Tryz.prog 212 #[.string s,.string ⟨#[46]⟩] w (CutS s.data.toList w):=by
 go_enter Tryz.func212,Tryz.ntmps212
 go_wp2_with (go_at_call 219; refine (cutLite s _ hs).mono ?_; rintro e w1 ⟨b,n,rfl,rfl⟩)
 go_ret3
 exact ⟨b,n,rfl,rfl⟩
def CutE (l:List UInt8) (w:World) (e:Ending) (w':World):Prop :=
 e = .returned (if namedR l = true then .tuple #[.string (str (aheadR l)),.string (str (behindR l)),.bool true] else .tuple #[.string (str []),.string (str []),.bool false]) ∧ ∃ n,w' = w.drewN n
theorem cutE_yes {l:List UInt8} {w:World} {x y:List UInt8} (h:namedR l = true) (hx:aheadR l = x) (hy:behindR l = y) (n:Nat):CutE l w (.returned (.tuple #[.string (str x),.string (str y),.bool true])) (w.drewN n):=by
 subst hx hy
 exact ⟨by rw [if_pos h],n,rfl⟩
theorem cutE_no {l:List UInt8} {w:World} {x y:ByteArray} (h:namedR l = false) (hx:x = str []) (hy:y = str []) (n:Nat):CutE l w (.returned (.tuple #[.string x,.string y,.bool false])) (w.drewN n):=by
 subst hx hy
 exact ⟨by rw [if_neg (by rw [h]; decide)],n,rfl⟩
set_option maxHeartbeats 1000000 in
set_option maxRecDepth 1000000 in
theorem cut (s:ByteArray) (w:World) (hs:s.size ≤ 9223372036854775806):Calls Tryz.prog 199 #[.string s] w (CutE s.data.toList w):=by
 have hc:=cutDot s w hs
 unfold CutS at hc
 have hl1:(aheadR s.data.toList).length ≤ 9223372036854775806:=by
  have:=(List.takeWhile_prefix (l:=s.data.toList) notDot).length_le
  rw [size_len] at this
  exact Nat.le_trans this hs
 have hl2:(behindR s.data.toList).length ≤ 9223372036854775806:=by
  have:(behindR s.data.toList).length ≤ s.size:=by rw [behindR,List.length_drop,size_len]; omega
  omega
 have HN:Hid (namedR s.data.toList = (valueR (aheadR s.data.toList) && bigR (behindR s.data.toList))):=rfl
 generalize hyg:behindR s.data.toList = y at *
 generalize hxg:aheadR s.data.toList = x at *
 have HX:Hid (aheadR s.data.toList = x):=hxg
 have HY:Hid (behindR s.data.toList = y):=hyg
 clear hxg hyg
 have hv:=fun v=>value (str x) v hl1
 have hb:=fun v=>big (str y) v hl2
 rw [str_data] at hv hb
 cases hvx:valueR x
 ·rw [hvx] at hv HN
  go_enter Tryz.func199,Tryz.ntmps199
  go_wp2_with (go_at_call 212; refine hc.mono ?_; rintro e w1 ⟨b,n,rfl,rfl⟩)
  refine (hv _).mono ?_
  rintro e w1 ⟨rfl,rfl⟩
  go_wp2
  go_ret3
  exact cutE_no HN.out rfl rfl n
 ·cases hby:bigR y
  ·rw [hvx] at hv HN
   rw [hby] at hb HN
   go_enter Tryz.func199,Tryz.ntmps199
   go_wp2_with (go_at_call 212; refine hc.mono ?_; rintro e w1 ⟨b,n,rfl,rfl⟩)
   refine (hv _).mono ?_
   rintro e w1 ⟨rfl,rfl⟩
   go_wp2_with fail
   refine (hb _).mono ?_
   rintro e w1 ⟨rfl,rfl⟩
   go_wp2
   go_ret3
   exact cutE_no HN.out rfl rfl n
  ·rw [hvx] at hv HN
   rw [hby] at hb HN
   go_enter Tryz.func199,Tryz.ntmps199
   go_wp2_with (go_at_call 212; refine hc.mono ?_; rintro e w1 ⟨b,n,rfl,rfl⟩)
   refine (hv _).mono ?_
   rintro e w1 ⟨rfl,rfl⟩
   go_wp2_with fail
   refine (hb _).mono ?_
   rintro e w1 ⟨rfl,rfl⟩
   go_wp2
   go_ret3
   exact cutE_yes HN.out HX.out HY.out n
def BoolE (b:Bool) (w:World) (e:Ending) (w':World):Prop:=e = .returned (.bool b) ∧ ∃ n,w' = w.drewN n
theorem wordOk_named {l:List UInt8} (h:namedR l = true):wordOk l = true:=by simp [wordOk,h]
theorem wordOk_other {l:List UInt8} (h:namedR l = false):wordOk l = (decide (l = numL) || decide (l = bytesL)):=by simp [wordOk,h]
theorem str_eq_iff (s:ByteArray) (l:List UInt8):s = str l ↔ s.data.toList = l:=by
 constructor
 ·rintro rfl; rfl
 ·intro h; rw [← h,str_toList]
set_option maxHeartbeats 1000000 in
set_option maxRecDepth 1000000 in
theorem rightWord (s:ByteArray) (w:World) (hs:s.size ≤ 9223372036854775806):Calls Tryz.prog 174 #[.string s] w (BoolE (wordOk s.data.toList) w):=by
 have hc:=cut s w hs
 unfold CutE at hc
 cases hn:namedR s.data.toList
 ·simp only [hn,Bool.false_eq_true,if_false] at hc
  have HN:Hid (wordOk s.data.toList = (decide (s.data.toList = numL) || decide (s.data.toList = bytesL))):=wordOk_other hn
  clear hn
  by_cases h1:s = ⟨#[110,117,109]⟩
  ·have HO:Hid (wordOk s.data.toList = true):=by rw [hid_iff,HN.out,(str_eq_iff s numL).1 h1]; rfl
   clear HN
   subst h1
   go_enter Tryz.func174,Tryz.ntmps174
   go_wp2_with (go_at_call 199; refine hc.mono ?_; rintro e w1 ⟨rfl,n,rfl⟩)
   go_ret
   exact ⟨by rw [HO.out]; rfl,n,rfl⟩
  ·by_cases h2:s = ⟨#[98,121,116,101,115]⟩
   ·have HO:Hid (wordOk s.data.toList = true):=by rw [hid_iff,HN.out,(str_eq_iff s bytesL).1 h2]; rfl
    clear HN h1
    subst h2
    go_enter Tryz.func174,Tryz.ntmps174
    go_wp2_with (go_at_call 199; refine hc.mono ?_; rintro e w1 ⟨rfl,n,rfl⟩)
    go_ret
    exact ⟨by rw [HO.out]; rfl,n,rfl⟩
   ·have HO:Hid (wordOk s.data.toList = false):=by
     rw [hid_iff,HN.out,decide_eq_false (fun h=>h1 ((str_eq_iff s numL).2 h)),decide_eq_false (fun h=>h2 ((str_eq_iff s bytesL).2 h))]; rfl
    have g1:(s.toList == [110,117,109]) = false:=by
     rw [beq_eq_false_iff_ne,Lib.toList_data]
     exact fun h=>h1 ((str_eq_iff s numL).2 h)
    have g2:(s.toList == [98,121,116,101,115]) = false:=by
     rw [beq_eq_false_iff_ne,Lib.toList_data]
     exact fun h=>h2 ((str_eq_iff s bytesL).2 h)
    clear HN h1 h2
    go_enter Tryz.func174,Tryz.ntmps174
    go_wp2_with (go_at_call 199; refine hc.mono ?_; rintro e w1 ⟨rfl,n,rfl⟩)
    go_ret
    exact ⟨by rw [HO.out]; rfl,n,rfl⟩
 ·simp only [hn,if_true] at hc
  generalize aheadR s.data.toList = x at *
  generalize behindR s.data.toList = y at *
  have HO:Hid (wordOk s.data.toList = true):=wordOk_named hn
  clear hn
  go_enter Tryz.func174,Tryz.ntmps174
  go_wp2_with (go_at_call 199; refine hc.mono ?_; rintro e w1 ⟨rfl,n,rfl⟩)
  go_ret
  exact ⟨by rw [HO.out]; rfl,n,rfl⟩
end Go.Proofs.YtiiepfplommmfaaGreatDoor
