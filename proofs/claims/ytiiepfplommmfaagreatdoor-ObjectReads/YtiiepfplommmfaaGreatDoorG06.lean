/-
  An interface as bytes: what is written; how long it is. No program in it.
  And: 'number', the inner reader of one number: what the call answers. The Writer's methods: what each call does. The Reader's methods: what each call does.
-/
import Derived.Test.YtiiepfplommmfaaGreatDoorG01
import Derived.Test.YtiiepfplommmfaaGreatDoorG05
import Derived.Test.YtiiepfplommmfaaGreatDoorChecked
import Derived.Lib.SliceRun
import Derived.Deep.QuietTactic
import Derived.BigQuiet
namespace Go.Proofs.YtiiepfplommmfaaGreatDoor

def txtB (x:List UInt8):List Nat:=Wire.enc x.length ++ x.map UInt8.toNat
def fieldsB:List (List UInt8) → List Nat
 | []=>[]
 | f :: r=>txtB f ++ fieldsB r
def caseB (c:Cs):List Nat:=txtB c.1 ++ (Wire.enc c.2.length ++ fieldsB c.2)
def casesB:List Cs → List Nat
 | []=>[]
 | c :: r=>caseB c ++ casesB r
def itemB (x:It):List Nat:=Wire.enc x.kind.toNat ++ (txtB x.name ++ (if x.kind = 1 then Wire.enc x.cases.length ++ casesB x.cases else txtB x.ty))
def itemsB:List It → List Nat
 | []=>[]
 | x :: r=>itemB x ++ itemsB r
def ifaceB (m:List UInt8) (l:List It):List Nat:=txtB m ++ (Wire.enc l.length ++ itemsB l)
theorem fieldsB_append:∀ (a b:List (List UInt8)),fieldsB (a ++ b) = fieldsB a ++ fieldsB b
 | [],b=>rfl
 | x :: r,b=>by rw [List.cons_append,fieldsB,fieldsB_append r b,fieldsB,List.append_assoc]
theorem casesB_append:∀ (a b:List Cs),casesB (a ++ b) = casesB a ++ casesB b
 | [],b=>rfl
 | x :: r,b=>by rw [List.cons_append,casesB,casesB_append r b,casesB,List.append_assoc]
theorem fieldsB_at (fs:List (List UInt8)) (k:Nat) (h:k < fs.length):fieldsB (fs.take (k + 1)) = fieldsB (fs.take k) ++ txtB fs[k]:=by
 rw [List.take_succ_eq_append_getElem h,fieldsB_append]
 simp [fieldsB]
theorem casesB_at (fs:List Cs) (k:Nat) (h:k < fs.length):casesB (fs.take (k + 1)) = casesB (fs.take k) ++ caseB fs[k]:=by
 rw [List.take_succ_eq_append_getElem h,casesB_append]
 simp [casesB]
theorem fieldsB_le (fs:List (List UInt8)) (k:Nat):(fieldsB (fs.take k)).length ≤ (fieldsB fs).length:=by
 have:=congrArg List.length (fieldsB_append (fs.take k) (fs.drop k))
 rw [List.take_append_drop,List.length_append] at this
 omega
theorem casesB_le (fs:List Cs) (k:Nat):(casesB (fs.take k)).length ≤ (casesB fs).length:=by
 have:=congrArg List.length (casesB_append (fs.take k) (fs.drop k))
 rw [List.take_append_drop,List.length_append] at this
 omega
theorem txtB_len (x:List UInt8) (h:x.length < 18446744073709551616):(txtB x).length ≤ x.length + 10:=by
 have:=Wire.enc_ten x.length h
 simp [txtB]
 omega
theorem fields_len:∀ (fs:List (List UInt8)),(∀ f ∈ fs,f.length ≤ 200) → (fieldsB fs).length ≤ 210 * fs.length
 | [],_=>by simp [fieldsB]
 | f :: r,h=>by
  have h1:=fields_len r (fun x hx=>h x (by simp [hx]))
  have h2:=h f (by simp)
  have h3:=txtB_len f (by omega)
  simp only [fieldsB,List.length_append,List.length_cons]
  omega
theorem name_len {x:List UInt8} (h:nameR x = true):x.length ≤ 24:=by
 unfold nameR at h
 simp only [Bool.and_eq_true,decide_eq_true_eq] at h
 exact h.1.1.2
theorem big_len {x:List UInt8} (h:bigR x = true):x.length ≤ 24:=by
 unfold bigR at h
 rw [Bool.and_eq_true] at h
 exact name_len h.1
theorem value_len {x:List UInt8} (h:valueR x = true):x.length ≤ 24:=by
 unfold valueR at h
 rw [Bool.and_eq_true] at h
 exact name_len h.1
theorem right_len {x:List UInt8} (h:rightR x = true):x.length ≤ 200:=by
 unfold rightR at h
 simp only [Bool.and_eq_true,decide_eq_true_eq] at h
 exact h.1
theorem case_len {ah:List Cs} {c:Cs} (h:caseE ah c = 0):(caseB c).length ≤ 1000:=by
 unfold caseE at h
 split at h
 ·cases h
 ·split at h
  ·cases h
  ·split at h
   ·cases h
   ·split at h
    ·rename_i h1 _ h3 h4
     have h5:=big_len (x:=c.1) (by simpa using h1)
     have h6:=txtB_len c.1 (by omega)
     have h7:=fields_len c.2 (fun f hf=>right_len (List.all_eq_true.1 h4 f hf))
     have h8:=Wire.enc_ten c.2.length (by omega)
     simp only [caseB,List.length_append]
     omega
    ·cases h
theorem cases_len:∀ (cs ah:List Cs),casesE ah cs = 0 → (casesB cs).length ≤ 1000 * cs.length
 | [],_,_=>by simp [casesB]
 | c :: r,ah,h=>by
  rw [casesE] at h
  split at h
  ·rename_i h0
   have h1:=case_len h0
   have h2:=cases_len r _ h
   simp only [casesB,List.length_append,List.length_cons]
   omega
  ·rename_i h0
   exact absurd h h0
theorem item_kind {p:Option (List UInt8)} {x:It} (h:itemE p x = 0):kindE x.kind = true ∧ namedE x = true:=by
 unfold itemE at h
 split at h
 ·cases h
 ·split at h
  ·cases h
  ·rename_i h1 h2
   exact ⟨by simpa using h1,by simpa using h2⟩
theorem kind_three {k:Int} (h:kindE k = true):1 ≤ k ∧ k ≤ 3:=by
 simp only [kindE,Bool.or_eq_true,decide_eq_true_eq] at h
 omega
theorem item_len {p:Option (List UInt8)} {x:It} (h:itemE p x = 0):(itemB x).length ≤ 7000:=by
 obtain ⟨h1,h2⟩:=item_kind h
 have h3:=kind_three h1
 have h4:=Wire.enc_ten x.kind.toNat (by omega)
 have h5:x.name.length ≤ 24:=by
  unfold namedE at h2
  split at h2
  ·exact big_len h2
  ·exact value_len h2
 have h6:=txtB_len x.name (by omega)
 unfold itemE at h
 split at h
 ·cases h
 ·split at h
  ·cases h
  ·split at h
   ·cases h
   ·split at h
    ·rename_i hk
     unfold valueE at h
     split at h
     ·cases h
     ·split at h
      ·cases h
      ·rename_i hr
       have h7:=right_len (x:=x.ty) (by simpa using hr)
       have h8:=txtB_len x.ty (by omega)
       simp only [itemB,if_neg hk,List.length_append]
       omega
    ·rename_i hk
     have hk1:x.kind = 1:=Classical.not_not.1 hk
     unfold typeE at h
     split at h
     ·cases h
     ·split at h
      ·cases h
      ·split at h
       ·cases h
       ·rename_i h6'
        have h7:=cases_len x.cases [] h
        have h8:=Wire.enc_ten x.cases.length (by omega)
        simp only [itemB,if_pos hk1,List.length_append]
        omega
theorem items_len:∀ (l:List It) (p:Option (List UInt8)),itemsE p l = 0 → (itemsB l).length ≤ 7000 * l.length ∧ ∀ x ∈ l,∃ q,itemE q x = 0
 | [],_,_=>⟨by simp [itemsB],fun x hx=>by simp at hx⟩
 | x :: r,p,h=>by
  rw [itemsE] at h
  split at h
  ·rename_i h0
   have h1:=item_len h0
   obtain ⟨h2,h3⟩:=items_len r _ h
   refine ⟨?_,fun y hy=>?_⟩
   ·simp only [itemsB,List.length_append,List.length_cons]
    omega
   ·rcases List.mem_cons.1 hy with rfl | hy
    ·exact ⟨p,h0⟩
    ·exact h3 y hy
  ·rename_i h0
   exact absurd h h0
theorem right_short {m:List UInt8} {l:List It} (h:rightI m l = 0):(ifaceB m l).length ≤ 300000 ∧ m.length ≤ 24 ∧ l.length ≤ 32 ∧ ∀ x ∈ l,∃ q,itemE q x = 0:=by
 unfold rightI at h
 split at h
 ·cases h
 ·split at h
  ·cases h
  ·rename_i h1 h2
   obtain ⟨h3,h4⟩:=items_len l none h
   have h5:=value_len (x:=m) (by simpa using h1)
   have h6:=txtB_len m (by omega)
   have h7:=Wire.enc_ten l.length (by omega)
   refine ⟨?_,h5,by omega,h4⟩
   simp only [ifaceB,List.length_append]
   omega
end Go.Proofs.YtiiepfplommmfaaGreatDoor

namespace Go.Proofs.YtiiepfplommmfaaGreatDoor.Wire
open Go.RowKit

def decF (l:List Nat):Nat → Nat → Nat → Nat × Nat × Nat
 | 0,_,_=>(0,0,12)
 | f + 1,k,acc=>match l[k]? with
  | none=>(0,0,10)
  | some x=>if 128 ≤ x then decF l f (k + 1) (acc + x % 128 * 2 ^ (7 * k)) else if (x = 0 ∧ 0 < k) ∨ (1 < x ∧ k = 9) then (0,0,12) else (acc + x * 2 ^ (7 * k),k + 1,0)
def dec (l:List Nat) (k acc:Nat):Nat × Nat × Nat:=decF l (10 - k) k acc
theorem dec_end {l:List Nat} {k acc:Nat} (hk:10 ≤ k):dec l k acc = (0,0,12):=by
 rw [dec,show 10 - k = 0 by omega,decF]
theorem dec_none {l:List Nat} {k acc:Nat} (hk:k < 10) (hx:l[k]? = none):dec l k acc = (0,0,10):=by
 rw [dec,show 10 - k = (10 - (k + 1)) + 1 by omega,decF,hx]
theorem dec_on {l:List Nat} {k acc x:Nat} (hk:k < 10) (hx:l[k]? = some x) (h:128 ≤ x):dec l k acc = dec l (k + 1) (acc + x % 128 * 2 ^ (7 * k)):=by
 rw [dec,show 10 - k = (10 - (k + 1)) + 1 by omega,decF,hx]
 simp only [if_pos h]
 rfl
theorem dec_bad {l:List Nat} {k acc x:Nat} (hk:k < 10) (hx:l[k]? = some x) (h:x < 128) (hb:(x = 0 ∧ 0 < k) ∨ (1 < x ∧ k = 9)):dec l k acc = (0,0,12):=by
 rw [dec,show 10 - k = (10 - (k + 1)) + 1 by omega,decF,hx]
 simp only [if_neg (show ¬ 128 ≤ x by omega),if_pos hb]
theorem dec_ok {l:List Nat} {k acc x:Nat} (hk:k < 10) (hx:l[k]? = some x) (h:x < 128) (hb:¬ ((x = 0 ∧ 0 < k) ∨ (1 < x ∧ k = 9))):dec l k acc = (acc + x * 2 ^ (7 * k),k + 1,0):=by
 rw [dec,show 10 - k = (10 - (k + 1)) + 1 by omega,decF,hx]
 simp only [if_neg (show ¬ 128 ≤ x by omega),if_neg hb]
theorem or_val {k acc x : Nat} (hk : k < 9 ∨ (k = 9 ∧ x ≤ 1)) (hacc : acc < 2 ^ (7 * k)) :
  bits .or .u64 (acc:Int) (IntKind.u64.wrap ((x:Int) % 128 * 2 ^ (7 * k))) = ((acc + x % 128 * 2 ^ (7 * k):Nat):Int) ∧ acc + x % 128 * 2 ^ (7 * k) < 2 ^ (7 * (k + 1)):=by
 have hm:x % 128 < 128:=Nat.mod_lt _ (by omega)
 have hp:x % 128 * 2 ^ (7 * k) < 18446744073709551616:=by
  rcases hk with h | ⟨rfl,h⟩
  ·have h1:2 ^ (7 * k) ≤ 2 ^ 56:=Nat.pow_le_pow_right (by omega) (by omega)
   have h2:x % 128 * 2 ^ (7 * k) ≤ 127 * 2 ^ 56:=Nat.mul_le_mul (by omega) h1
   exact Nat.lt_of_le_of_lt h2 (by decide)
  ·have h1:x % 128 ≤ 1:=by omega
   have h2:x % 128 * 2 ^ (7 * 9) ≤ 1 * 2 ^ (7 * 9):=Nat.mul_le_mul_right _ h1
   exact Nat.lt_of_le_of_lt h2 (by decide)
 have e1:(x:Int) % 128 * 2 ^ (7 * k) = ((x % 128 * 2 ^ (7 * k):Nat):Int):=by
  rw [Int.natCast_mul,Int.natCast_pow]; rfl
 have hlt:acc + x % 128 * 2 ^ (7 * k) < 2 ^ (7 * (k + 1)):=by
  have e2:2 ^ (7 * (k + 1)) = 128 * 2 ^ (7 * k):=by rw [Nat.mul_add,Nat.pow_add]; omega
  have h4:x % 128 * 2 ^ (7 * k) ≤ 127 * 2 ^ (7 * k):=Nat.mul_le_mul_right _ (by omega)
  omega
 refine ⟨?_,hlt⟩
 have ha:acc < 18446744073709551616:=by
  have h1:2 ^ (7 * k) ≤ 2 ^ 63:=Nat.pow_le_pow_right (by omega) (by omega)
  exact Nat.lt_of_lt_of_le hacc (Nat.le_trans h1 (by decide))
 rw [e1,IntKind.wrap_u64,Int.emod_eq_of_lt (by omega) (by omega),u64_or_nat _ _ ha hp,Nat.or_comm,nat_join (7 * k) _ acc (by simp) hacc,Nat.add_comm]
theorem top_bit (x:Nat) (hx:x < 256):bits .andNot .u8 (x:Int) 128 = ((x % 128:Nat):Int) ∧ bits .and .u8 (x:Int) 128 = if 128 ≤ x then 128 else 0:=by
 have h1:bits .andNot .u8 (x:Int) 128 = ((x &&& 127:Nat):Int):=u8_andNot_nat x 128 hx (by omega)
 have h2:bits .and .u8 (x:Int) 128 = ((x &&& 128:Nat):Int):=u8_and_nat x 128 hx (by omega)
 have h3:x &&& 127 = x % 128:=Nat.and_two_pow_sub_one_eq_mod x 7
 have h4:x &&& 128 = x / 128 % 2 * 128:=nat_bit 7 x
 rw [h1,h2,h3,h4]
 refine ⟨rfl,?_⟩
 split <;> omega
theorem dec_bounds (l:List Nat):∀ (f k acc:Nat),10 - k ≤ f → acc < 2 ^ (7 * k) → ((dec l k acc).2.2 = 0 ∧ 0 < (dec l k acc).2.1 ∧ (dec l k acc).2.1 ≤ l.length ∧ (dec l k acc).2.1 ≤ 10 ∧ (dec l k acc).1 < 18446744073709551616) ∨ dec l k acc = (0,0,10) ∨ dec l k acc = (0,0,12)
 | 0,k,acc,hf,ha=>by
  right; right
  exact dec_end (by omega)
 | f + 1,k,acc,hf,ha=>by
  by_cases hk:k < 10
  ·cases hx:l[k]? with
   | none=>right; left; exact dec_none hk hx
   | some x =>
    have hlt:k < l.length:=(List.getElem?_eq_some_iff.1 hx).1
    by_cases h1:128 ≤ x
    ·rw [dec_on hk hx h1]
     refine dec_bounds l f (k + 1) _ (by omega) ?_
     have hm:x % 128 < 128:=Nat.mod_lt _ (by omega)
     have e2:2 ^ (7 * (k + 1)) = 128 * 2 ^ (7 * k):=by rw [Nat.mul_add,Nat.pow_add]; omega
     have h4:x % 128 * 2 ^ (7 * k) ≤ 127 * 2 ^ (7 * k):=Nat.mul_le_mul_right _ (by omega)
     omega
    ·by_cases h2:(x = 0 ∧ 0 < k) ∨ (1 < x ∧ k = 9)
     ·right; right; exact dec_bad hk hx (by omega) h2
     ·left
      rw [dec_ok hk hx (by omega) h2]
      refine ⟨rfl,Nat.succ_pos k,hlt,hk,?_⟩
      have hm:x % 128 = x:=by omega
      have hv:=(or_val (k:=k) (acc:=acc) (x:=x) (by omega) ha).1
      rw [hm] at hv
      show acc + x * 2 ^ (7 * k) < 18446744073709551616
      have hw:∀ a b:Int,0 ≤ bits .or .u64 a b ∧ bits .or .u64 a b < 18446744073709551616:=by
       intro a b
       have:bits .or .u64 a b = IntKind.u64.wrap ((BitVec.ofInt 64 a ||| BitVec.ofInt 64 b).toNat:Int):=rfl
       rw [this,IntKind.wrap_u64]
       omega
      have:=hw acc (IntKind.u64.wrap ((x:Int) % 128 * 2 ^ (7 * k)))
      omega
  ·right; right
   exact dec_end (by omega)
def Sl (w:World) (v:Value) (l:List Nat):Prop :=
 (l = [] ∧ ∃ ao cap,v = .slice ao 0 cap) ∨ ∃ b off cap,v = .slice (some ⟨b,off,none⟩) l.length cap ∧ ∀ j,j < l.length → w.cell? ⟨b,off + j,none⟩ = some (.int .u8 ((l.getD j 0:Nat):Int))
set_option maxHeartbeats 400000 in
set_option maxRecDepth 1000000 in
theorem number_any (v : Value) (l : List Nat) (w : World) (hl : l.length ≤ 140737488355328) (h256 : ∀ x ∈ l, x < 256) (hv : Sl w v l) :
  Calls Tryz.prog 207 #[v] w fun e w'=>e = .returned (.tuple #[.int .u64 (dec l 0 0).1,.int .i64 (dec l 0 0).2.1,.int .i64 (dec l 0 0).2.2]) ∧ w' = w:=by
 obtain ⟨ao,cap,rfl⟩:∃ ao cap,v = .slice ao l.length cap:=by
  rcases hv with ⟨rfl,ao,cap,rfl⟩ | ⟨b,off,cap,rfl,_⟩
  ·exact ⟨ao,cap,rfl⟩
  ·exact ⟨_,cap,rfl⟩
 go_enter Tryz.func207,Tryz.ntmps207
 go_wp2
 refine wp_scope_via 0 (fun a' w'=>w' = w ∧ ∃ (k acc:Nat) (n:Int) (u5 u6 u7 u8 u9 u10 u11 u12 u13 u14 u15 u16 u17 u18 u19 u20 u21 u22 u23 u24 u25 u26 u27 u28:Value),a' = { tmps:=#[.slice ao l.length cap,undef,.int .u64 n,.int .i64 k,.int .i64 0,u5,u6,u7,u8,u9,u10,u11,u12,u13,u14,u15,u16,u17,u18,u19,u20,u21,u22,u23,u24,u25,u26,u27,u28,undef,undef,undef,undef,undef,undef,undef,undef,undef,undef,undef,undef,undef,undef,undef,undef],defers:=[] } ∧ k ≤ 10 ∧ k ≤ l.length ∧ dec l k acc = dec l 0 0 ∧ (k < 10 → n = acc ∧ acc < 2 ^ (7 * k))) (fun a' _=>10 - (intOf (a'.tmps.getD 3 undef)).toNat) rfl ?_ ?_
 ·intro hp
  go_wp2
  rename_i K hK
  exact wp_label (hK _ _ (hp _ _ ⟨rfl,0,0,0,_,_,_,_,_,_,_,_,_,_,_,_,_,_,_,_,_,_,_,_,_,_,_,_,rfl,by omega,by omega,rfl,fun _=>⟨rfl,by decide⟩⟩))
 ·rintro a' w' ⟨rfl,k,acc,n,u5,u6,u7,u8,u9,u10,u11,u12,u13,u14,u15,u16,u17,u18,u19,u20,u21,u22,u23,u24,u25,u26,u27,u28,rfl,hk,hkl,hd,hn⟩
  have HD:Hid (dec l k acc = dec l 0 0):=hd
  clear hd
  by_cases h10:k = 10
  ·subst h10
   go_wp2
   simp only [Exit.jump]
   go_ret3
   rw [← HD.out,dec_end (by omega)]
   exact ⟨rfl,rfl⟩
  ·obtain ⟨rfl,hacc⟩:=hn (by omega)
   clear hn
   by_cases hkn:k = l.length
   ·go_wp2
    simp only [Exit.jump]
    go_ret3
    rw [← HD.out,dec_none (by omega) (List.getElem?_eq_none (by omega))]
    exact ⟨rfl,rfl⟩
   ·have hlt:k < l.length:=by omega
    obtain ⟨b,off,rfl,hc⟩:∃ b off,ao = some ⟨b,off,none⟩ ∧ w'.cell? ⟨b,off + k,none⟩ = some (.int .u8 ((l.getD k 0:Nat):Int)):=by
     rcases hv with ⟨rfl,_⟩ | ⟨b,off,cap',h,hc⟩
     ·simp at hlt
     ·simp only [Value.slice.injEq] at h
      exact ⟨b,off,h.1,hc k hlt⟩
    have hx:l.getD k 0 < 256:=h256 _ (by simp [hlt])
    have hxe:l[k]? = some (l.getD k 0):=by simp [hlt]
    generalize l.getD k 0 = x at hc hx hxe
    obtain ⟨ha,hb⟩:=top_bit x hx
    by_cases h128:128 ≤ x
    ·rw [if_pos h128] at hb
     go_wp2
     refine wp_goto ⟨rfl,⟨rfl,k + 1,acc + x % 128 * 2 ^ (7 * k),_,_,_,_,_,_,_,_,_,_,_,_,_,_,_,_,_,_,_,_,_,_,_,_,_,rfl,by omega,by omega,?_,?_⟩,?_⟩
     ·rw [← HD.out,dec_on (by omega) hxe h128]
     ·intro h9
      exact or_val (by omega) hacc
     ·simp [intOf]; omega
    ·rw [if_neg h128] at hb
     by_cases hbad:(x = 0 ∧ 0 < k) ∨ (1 < x ∧ k = 9)
     ·have hdec:=dec_bad (acc:=acc) (show k < 10 by omega) hxe (by omega) hbad
      have HB:Hid (dec l k acc = (0,0,12)):=hdec
      clear hdec
      have hbad':(x ≤ 0 ∧ 0 < k) ∨ (1 < x ∧ 9 ≤ k):=by omega
      clear hbad
      rcases hbad' with ⟨h0,h1⟩ | ⟨h0,h1⟩
      ·go_wp2
       simp only [Exit.jump]
       go_ret3
       rw [← HD.out,HB.out]
       exact ⟨rfl,rfl⟩
      ·go_wp2
       simp only [Exit.jump]
       go_ret3
       rw [← HD.out,HB.out]
       exact ⟨rfl,rfl⟩
     ·have HB:Hid (dec l k acc = (acc + x * 2 ^ (7 * k),k + 1,0)):=dec_ok (acc:=acc) (show k < 10 by omega) hxe (by omega) hbad
      have HV:Hid (bits .or .u64 (acc:Int) (IntKind.u64.wrap ((x:Int) % 128 * 2 ^ (7 * k))) = ((acc + x % 128 * 2 ^ (7 * k):Nat):Int)):=(or_val (x:=x) (by omega) hacc).1
      have hxm:x % 128 = x:=by omega
      have HX:Hid (x % 128 = x):=hxm
      clear hxm
      by_cases h0:x ≤ 0
      ·have hk0:k ≤ 0:=by omega
       have HB0:Hid (dec l k acc = (acc,k + 1,0)):=by
        have e:x = 0:=by omega
        have h:=HB.out
        rw [e,Nat.zero_mul,Nat.add_zero] at h
        exact h
       have HV0:Hid (bits .or .u64 (acc:Int) 0 = (acc:Int)):=by
        have hk0':k = 0:=by omega
        subst hk0'
        have h:=u64_or_nat acc 0 (by omega) (by omega)
        rw [Nat.or_zero] at h
        exact h
       clear hbad HB HV
       go_wp2
       simp only [Exit.jump]
       go_ret3
       rw [← HD.out,HB0.out,HV0.out]
       exact ⟨rfl,rfl⟩
      ·have h0':0 < x:=by omega
       by_cases h1:1 < x
       ·have hk9:k < 9:=by omega
        go_wp2
        simp only [Exit.jump]
        go_ret3
        rw [← HD.out,HB.out,HV.out,HX.out]
        exact ⟨rfl,rfl⟩
       ·go_wp2
        simp only [Exit.jump]
        go_ret3
        rw [← HD.out,HB.out,HV.out,HX.out]
        exact ⟨rfl,rfl⟩
end Go.Proofs.YtiiepfplommmfaaGreatDoor.Wire

namespace Go.Proofs.YtiiepfplommmfaaGreatDoor.Wire
open Go.RowKit
theorem Tryz.info5:(Tryz.prog.info? 5).map (fun i=>(i.zero,i.size,i.bytes)) = some (some (.int .u8 0),1,1):=by kernel_rfl
set_option maxHeartbeats 400000 in
set_option maxRecDepth 1000000 in
theorem wnumber (n b g : Nat) (l : List Nat) (w : World) (hn : n < 18446744073709551616) (hl : l.length + 10 ≤ 140737488355328) (hw : WIs w b g l) :
  Calls Tryz.prog 143 #[.pointer (some ⟨b,0,none⟩),.int .u64 n] w fun e w'=>e = .returned (.tuple #[]) ∧ ∃ g',WIs w' b g' (l ++ enc n) ∧ (g' = g ∨ w.heap.size ≤ g') ∧ Kept (fun k=>k = b ∨ k = g) w w':=by
 go_enter Tryz.func143,Tryz.ntmps143
 refine wp_scope_via 0 (fun a' w'=>∃ (m g':Nat) (l':List Nat) (u4 u5 u6 u7 u8 u9 u10 u11 u12 u13 u14 u15 u16 u17 u18 u19:Value),a' = { tmps:=#[.pointer (some ⟨b,0,none⟩),.int .u64 m,undef,undef,u4,u5,u6,u7,u8,u9,u10,u11,u12,u13,u14,u15,u16,u17,u18,u19,undef,undef,undef,undef,undef,undef,undef,undef,undef,undef,undef],defers:=[] } ∧ m ≤ n ∧ l' ++ enc m = l ++ enc n ∧ WIs w' b g' l' ∧ (g' = g ∨ w.heap.size ≤ g') ∧ Kept (fun k=>k = b ∨ k = g) w w') (fun a' _=>(intOf (a'.tmps.getD 1 undef)).toNat) rfl ?_ ?_
 ·intro hp
  exact wp_seq (wp_label (hp _ _ ⟨n,g,l,_,_,_,_,_,_,_,_,_,_,_,_,_,_,_,_,rfl,Nat.le_refl _,rfl,hw,Or.inl rfl,Kept.refl _ _⟩))
 ·rintro a' w' ⟨m,g',l',u4,u5,u6,u7,u8,u9,u10,u11,u12,u13,u14,u15,u16,u17,u18,u19,rfl,hm,he,⟨v,hb,hv,hvb,hgs⟩,hg,hk⟩
  have hc0:=hb.cell 0
  have hf0:=hb.frozen 0
  simp only [List.getElem?_toArray,List.getElem?_cons_zero] at hc0
  have hll:l'.length + 1 ≤ 140737488355328:=by
   have e1:=congrArg List.length he
   have e2:=enc_pos m
   have e3:=enc_ten n hn
   simp only [List.length_append] at e1
   omega
  have HE:Hid (l' ++ enc m = l ++ enc n):=he
  clear he
  by_cases hlt:128 ≤ m
  ·go_wp2_with (at_builtin; refine wpList_append_row _ rfl (.tmp 10) (.tmp 14) 42 42 rfl Tryz.underlying42 Tryz.info5 v g' l' rfl (hv.alloc _) _ 1 [m % 128 + 128] rfl ?src ?len ?next)
   case src =>
    refine Src.ofSlice _ Tryz.underlying42 _ 1 1 _ rfl ?_ (bs_one _)
    simp only [bs,List.map_cons,List.map_nil, ← low_byte]
    exact cell_one_new _ _ _
   case len=>simpa using hll
   case next =>
    intro v' w1 g1 hv' hg1 hat hgr hnil
    obtain ⟨hb1,hw2,hg2,hk2⟩:=WIs.step (hb.alloc _) (hv.alloc _) hvb (by simp; omega) hgr hv' (by simpa using hat) (by simpa using hg1) hg (hk.alloc _)
    have hc1:=hb1.cell 0
    have hf1:=hb1.frozen 0
    simp only [List.getElem?_toArray,List.getElem?_cons_zero] at hc1
    obtain ⟨cap,rfl⟩:∃ cap,v' = .slice (some ⟨g1,0,none⟩) (l'.length + 1) cap:=by
     rcases hv'.shape with ⟨h,_⟩ | ⟨cap,h,_⟩
     ·exact absurd h hnil
     ·exact ⟨cap,by simpa using h⟩
    clear hnil hat hgr
    go_wp2
    rw [show (m:Int) / 128 = ((m / 128:Nat):Int) from by omega]
    refine wp_goto ⟨rfl,⟨m / 128,g1,_,_,_,_,_,_,_,_,_,_,_,_,_,_,_,_,_,rfl,by omega,?_,hw2,hg2,hk2⟩,?_⟩
    ·rw [← HE.out,enc_big hlt,List.append_assoc]; rfl
    ·simp [intOf]; omega
  ·go_wp2_with (at_builtin; refine wpList_append_row _ rfl (.tmp 24) (.tmp 27) 42 42 rfl Tryz.underlying42 Tryz.info5 v g' l' rfl (hv.alloc _) _ 1 [m] rfl ?src ?len ?next)
   case src =>
    refine Src.ofSlice _ Tryz.underlying42 _ 1 1 _ rfl ?_ (bs_one _)
    simp only [bs,List.map_cons,List.map_nil]
    exact cell_one_new _ _ _
   case len=>simpa using hll
   case next =>
    intro v' w1 g1 hv' hg1 hat hgr hnil
    obtain ⟨hb1,hw2,hg2,hk2⟩:=WIs.step (hb.alloc _) (hv.alloc _) hvb (by simp; omega) hgr hv' (by simpa using hat) (by simpa using hg1) hg (hk.alloc _)
    have hc1:=hb1.cell 0
    have hf1:=hb1.frozen 0
    simp only [List.getElem?_toArray,List.getElem?_cons_zero] at hc1
    obtain ⟨cap,rfl⟩:∃ cap,v' = .slice (some ⟨g1,0,none⟩) (l'.length + 1) cap:=by
     rcases hv'.shape with ⟨h,_⟩ | ⟨cap,h,_⟩
     ·exact absurd h hnil
     ·exact ⟨cap,by simpa using h⟩
    clear hnil hat hgr
    go_wp2
    simp only [Exit.jump]
    go_end0
    refine ⟨rfl,g1,?_,hg2,hk2⟩
    rw [← HE.out,enc_small (by omega)]
    exact hw2
theorem newwriter (w:World):Calls Tryz.prog 39 #[] w fun e w'=>∃ b,e = .returned (.pointer (some ⟨b,0,none⟩)) ∧ WIs w' b b [] ∧ w.heap.size ≤ b ∧ Kept (fun _=>False) w w':=by
 go_enter Tryz.func39,Tryz.ntmps39
 go_wp2
 go_ret
 exact ⟨w.heap.size,rfl,⟨.slice none 0 0,⟨149,heap_alloc_new w _⟩,Row.nil _ _,by simp [Value.ownBlock],by simp⟩,Nat.le_refl _,(Kept.refl _ w).alloc _⟩
set_option maxHeartbeats 400000 in
set_option maxRecDepth 1000000 in
theorem clone (v : Value) (b : Nat) (l : List Nat) (w : World) (hl : l.length ≤ 140737488355328) (hv : Rd w b v l) :
  Calls Tryz.prog 103 #[v] w fun e w'=>∃ v' g,e = .returned v' ∧ Row w' g v' l ∧ w.heap.size ≤ g ∧ Kept (fun _=>False) w w':=by
 have q24:∀ (w:World) (a:Option Addr) (n c n' c':Nat),(binOp .eql 42 (.slice a n c) (.slice none n' c')).run Tryz.prog w = .ok (.bool a.isNone) w:=fun w a n c n' c'=>Lib.run_eql_slice_nil w 42 5 a n c n' c' Tryz.underlying42
 rcases hv with ⟨rfl,rfl⟩ | ⟨a,cap,rfl,h2,h3⟩
 ·go_enter Tryz.func103,Tryz.ntmps103
  go_wp2
  go_ret
  exact ⟨_,w.heap.size,rfl,Row.nil _ _,Nat.le_refl _,Kept.refl _ _⟩
 ·have hrow:=Row.lit w [] (by simp)
  go_enter Tryz.func103,Tryz.ntmps103
  go_wp2_with (at_builtin; refine wpList_append_row _ rfl (.tmp 5) (.tmp 6) 42 42 rfl Tryz.underlying42 Tryz.info5 _ _ [] rfl hrow _ l.length l rfl ?src ?len ?next)
  case src=>exact (Rd.alloc (.inr ⟨a,cap,rfl,h2,h3⟩) _).src Tryz.underlying42
  case len=>simpa using hl
  case next =>
   intro v' w1 g1 hv' hg1 hat hgr hnil
   have hk:Kept (fun _=>False) w w1:=((Kept.refl _ w).alloc _).grown hgr (by intro k hk h; simp [Value.ownBlock] at hk; omega)
   obtain ⟨cap',rfl⟩:∃ cap',v' = .slice (some ⟨g1,0,none⟩) l.length cap':=by
    rcases hv'.shape with ⟨h,_⟩ | ⟨cap',h,_⟩
    ·exact absurd h hnil
    ·exact ⟨cap',h⟩
   clear hnil hat hgr
   go_wp2
   go_ret
   exact ⟨_,g1,rfl,hv',by omega,hk⟩
set_option maxHeartbeats 400000 in
set_option maxRecDepth 1000000 in
theorem wdone (b g : Nat) (l : List Nat) (w : World) (hl : l.length ≤ 140737488355328) (hw : WIs w b g l) :
  Calls Tryz.prog 41 #[.pointer (some ⟨b,0,none⟩)] w fun e w'=>∃ v' g',e = .returned v' ∧ Row w' g' v' l ∧ w.heap.size ≤ g' ∧ Kept (fun _=>False) w w':=by
 obtain ⟨v,hb,hv,hvb,hgs⟩:=hw
 have hc0:=hb.cell 0
 simp only [List.getElem?_toArray,List.getElem?_cons_zero] at hc0
 go_enter Tryz.func41,Tryz.ntmps41
 go_wp2_with fail
 refine (clone v g l _ hl hv.rd).mono ?_
 rintro e w' ⟨v',g',rfl,h1,h2,h3⟩
 obtain ⟨a',c',rfl⟩:=h1.rd.shape
 go_wp2
 go_ret
 exact ⟨_,g',rfl,h1,h2,h3⟩
set_option maxHeartbeats 400000 in
set_option maxRecDepth 1000000 in
theorem wtext (s : ByteArray) (b g : Nat) (l : List Nat) (w : World) (hl : l.length + s.size + 10 ≤ 140737488355328) (hw : WIs w b g l) :
  Calls Tryz.prog 91 #[.pointer (some ⟨b,0,none⟩),.string s] w fun e w'=>e = .returned (.tuple #[]) ∧ ∃ g',WIs w' b g' (l ++ enc s.size ++ s.data.toList.map UInt8.toNat) ∧ (g' = g ∨ w.heap.size ≤ g') ∧ Kept (fun k=>k = b ∨ k = g) w w':=by
 have hsz:s.size ≤ 140737488355328:=by omega
 have hten:=enc_ten s.size (by omega)
 go_enter Tryz.func91,Tryz.ntmps91
 go_wp2_with fail
 refine (wnumber s.size b g l _ (by omega) (by omega) hw).mono ?_
 rintro e w1 ⟨rfl,g1,⟨v,hb,hv,hvb,hgs⟩,hg1,hk1⟩
 have hc0:=hb.cell 0
 simp only [List.getElem?_toArray,List.getElem?_cons_zero] at hc0
 go_wp2_with (at_builtin; refine wpList_append_row _ rfl (.tmp 13) (.tmp 14) 42 9 rfl Tryz.underlying42 Tryz.info5 v g1 (l ++ enc s.size) rfl hv _ s.size (s.data.toList.map UInt8.toNat) rfl ?src ?len ?next)
 case src =>
  have e:bs (s.data.toList.map UInt8.toNat) = byteCells s:=by simp [bs,byteCells]
  rw [e]
  exact Src.ofString w1 Tryz.underlying9 s
 case len=>simp; have:s.data.size = s.size:=rfl; omega
 case next =>
  intro v' w2 g2 hv' hg2 hat hgr hnil
  obtain ⟨hb1,hw2,hg3,hk2⟩:=WIs.step hb hv hvb hgs hgr hv' hat hg2 hg1 hk1
  have hc1:=hb1.cell 0
  have hf1:=hb1.frozen 0
  simp only [List.getElem?_toArray,List.getElem?_cons_zero] at hc1
  obtain ⟨a',n',c',rfl⟩:∃ a n c,v' = .slice a n c:=by
   obtain ⟨a,c,h⟩:=hv'.rd.shape
   exact ⟨a,_,c,h⟩
  clear hnil hat hgr
  go_wp2
  go_end0
  rw [List.append_assoc]
  exact ⟨rfl,g2,hw2,hg3,hk2⟩
end Go.Proofs.YtiiepfplommmfaaGreatDoor.Wire

namespace Go.Proofs.YtiiepfplommmfaaGreatDoor.Wire
open Go.RowKit

def RIs (w:World) (b g:Nat) (l:List Nat) (p why:Nat):Prop:=∃ v,Box w b #[v,.int .i64 p,.int .i64 why] ∧ Row w g v l ∧ v.ownBlock ≠ some b ∧ g < w.heap.size
theorem RIs.kept {S:Nat → Prop} {w w':World} {b g:Nat} {l:List Nat} {p why:Nat} (h:RIs w b g l p why) (k:Kept S w w') (hb:¬ S b) (hg:¬ S g):RIs w' b g l p why:=by
 obtain ⟨v,h1,h2,h3,h4⟩:=h
 exact ⟨v,h1.kept k hb,h2.kept k (fun _=>hg),h3,Nat.lt_of_lt_of_le h4 k.size⟩
theorem RIs.gt {w:World} {b g:Nat} {l:List Nat} {p why:Nat} (h:RIs w b g l p why):g < w.heap.size:=by
 obtain ⟨v,_,_,_,h1⟩:=h
 exact h1
theorem RIs.lt {w:World} {b g:Nat} {l:List Nat} {p why:Nat} (h:RIs w b g l p why):b < w.heap.size:=by
 obtain ⟨v,h1,_⟩:=h
 exact h1.lt
theorem Row.set {w:World} {b g:Nat} {v:Value} {l:List Nat} (h:Row w g v l) (hb:v.ownBlock ≠ some b) (o:Nat) (u:Value):Row (w.setCell ⟨b,o,none⟩ u) g v l :=
 h.kept (S:=fun k=>k = b) ((Kept.refl (fun k=>k = b) w).setCell (p:=⟨b,o,none⟩) (fun _=>rfl) u) (fun e h=>by subst h; exact hb e)
theorem kept_set (w:World) (b o:Nat) (u:Value):Kept (fun k=>k = b) w (w.setCell ⟨b,o,none⟩ u):=(Kept.refl (fun k=>k = b) w).setCell (p:=⟨b,o,none⟩) (fun _=>rfl) u
theorem kept_drewN (w:World) (n:Nat):Kept (fun _=>False) w (w.drewN n):=⟨rfl,rfl,rfl,Nat.le_refl _,fun _ _ _=>rfl⟩
theorem newreader (v : Value) (b0 : Nat) (l : List Nat) (w : World) (hl : l.length ≤ 140737488355328) (hv : Rd w b0 v l) :
  Calls Tryz.prog 55 #[v] w fun e w'=>∃ b g,e = .returned (.pointer (some ⟨b,0,none⟩)) ∧ RIs w' b g l 0 0 ∧ w.heap.size ≤ b ∧ w.heap.size ≤ g ∧ Kept (fun _=>False) w w':=by
 go_enter Tryz.func55,Tryz.ntmps55
 go_wp2_with fail
 refine (clone v b0 l _ hl hv).mono ?_
 rintro e w1 ⟨v',g',rfl,h1,h2,h3⟩
 have hs:=h3.size
 have hne:v'.ownBlock ≠ some w1.heap.size:=by
  intro e
  have:=h1.lt e
  omega
 have hg:∃ g,Row w1 g v' l ∧ w.heap.size ≤ g ∧ g < w1.heap.size + 1:=by
  rcases h1.shape with ⟨rfl,rfl⟩ | ⟨cap,rfl,_⟩
  ·exact ⟨w1.heap.size,Row.nil _ _,hs,by omega⟩
  ·have:=h1.lt (k:=g') rfl
   exact ⟨g',h1,h2,by omega⟩
 obtain ⟨g,k1,k2,k3⟩:=hg
 obtain ⟨a',c',rfl⟩:=h1.rd.shape
 go_wp2
 go_ret
 exact ⟨w1.heap.size,g,rfl,⟨_,⟨_,heap_alloc_new w1 _⟩,k1.alloc _,hne,by simpa using k3⟩,hs,k2,h3.alloc _⟩
set_option maxHeartbeats 400000 in
theorem rfail (y : Nat) (b g : Nat) (l : List Nat) (p why : Nat) (w : World) (hr : RIs w b g l p why) :
  Calls Tryz.prog 208 #[.pointer (some ⟨b,0,none⟩),.int .i64 y] w fun e w'=>e = .returned (.tuple #[]) ∧ RIs w' b g l p (if why = 0 then y else why) ∧ Kept (fun k=>k = b) w w':=by
 obtain ⟨v,hb,hv,hvb,hgs⟩:=hr
 have hc2:=hb.cell 2
 have hf2:=hb.frozen 2
 simp only [List.getElem?_toArray,List.getElem?_cons_succ,List.getElem?_cons_zero] at hc2
 by_cases h0:why = 0
 ·subst h0
  go_enter Tryz.func208,Tryz.ntmps208
  go_wp2
  go_end0
  exact ⟨rfl,⟨v,hb.set 2 _,hv.set hvb 2 _,hvb,set_size hgs _ _⟩,kept_set w b 2 _⟩
 ·go_enter Tryz.func208,Tryz.ntmps208
  go_wp2
  go_end0
  exact ⟨rfl,⟨v,hb,hv,hvb,hgs⟩,Kept.refl _ _⟩
def rEnd (l:List Nat) (p why:Nat):Nat × Nat:=if why ≠ 0 then (why,p) else if p < l.length then (11,p) else (0,0)
set_option maxHeartbeats 400000 in
theorem rend (b g : Nat) (l : List Nat) (p why : Nat) (w : World) (_hl : l.length ≤ 140737488355328) (hr : RIs w b g l p why) :
  Calls Tryz.prog 57 #[.pointer (some ⟨b,0,none⟩)] w fun e w'=>e = .returned (.tuple #[.int .i64 (rEnd l p why).1,.int .i64 (rEnd l p why).2]) ∧ Kept (fun _=>False) w w':=by
 obtain ⟨v,hb,hv,hvb,hgs⟩:=hr
 have hc0:=hb.cell 0
 have hc1:=hb.cell 1
 have hc2:=hb.cell 2
 simp only [List.getElem?_toArray,List.getElem?_cons_succ,List.getElem?_cons_zero] at hc0 hc1 hc2
 obtain ⟨a,c,rfl⟩:=hv.rd.shape
 by_cases h0:why = 0
 ·subst h0
  by_cases h1:p < l.length
  ·have HE:Hid (rEnd l p 0 = (11,p)):=by simp [Hid,rEnd,h1]
   go_enter Tryz.func57,Tryz.ntmps57
   go_wp2
   go_quiet (fail)
   go_wp2
   go_quiet (fail)
   go_wp2
   go_ret2
   rw [HE.out]
   exact ⟨rfl,((kept_drewN _ _).trans (kept_drewN _ _) (fun _ _ h=>h) (fun _ _ h=>h))⟩
  ·have HE:Hid (rEnd l p 0 = (0,0)):=by simp [Hid,rEnd,h1]
   go_enter Tryz.func57,Tryz.ntmps57
   go_wp2
   go_quiet (fail)
   go_wp2
   go_ret2
   rw [HE.out]
   exact ⟨rfl,kept_drewN _ _⟩
 ·have HE:Hid (rEnd l p why = (why,p)):=by simp [Hid,rEnd,h0]
  go_enter Tryz.func57,Tryz.ntmps57
  go_wp2
  go_quiet (fail)
  go_wp2
  go_ret2
  rw [HE.out]
  exact ⟨rfl,kept_drewN _ _⟩
set_option maxHeartbeats 400000 in
theorem rshort (b g : Nat) (l : List Nat) (p : Nat) (w : World) (_hl : l.length ≤ 140737488355328) (hr : RIs w b g l p 0) :
  Calls Tryz.prog 206 #[.pointer (some ⟨b,0,none⟩)] w fun e w'=>e = .returned (.tuple #[]) ∧ RIs w' b g l l.length 10 ∧ Kept (fun k=>k = b) w w':=by
 obtain ⟨v,hb,hv,hvb,hgs⟩:=hr
 have hc0:=hb.cell 0
 have hc1:=hb.cell 1
 have hf1:=hb.frozen 1
 simp only [List.getElem?_toArray,List.getElem?_cons_succ,List.getElem?_cons_zero] at hc0 hc1
 obtain ⟨a,c,rfl⟩:=hv.rd.shape
 go_enter Tryz.func206,Tryz.ntmps206
 go_wp2_with fail
 have hr1:RIs (w.setCell ⟨b,1,none⟩ (.int .i64 l.length)) b g l l.length 0:=⟨_,hb.set 1 _,hv.set hvb 1 _,hvb,set_size hgs _ _⟩
 refine (rfail 10 b g l l.length 0 _ hr1).mono ?_
 rintro e w' ⟨rfl,h1,h2⟩
 go_wp2
 go_end0
 exact ⟨rfl,h1,(kept_set w b 1 _).trans h2 (fun _ _ h=>h) (fun _ _ h=>h)⟩
def rNum (l:List Nat) (p why most:Nat):Nat × Nat × Nat :=
 if why ≠ 0 then (0,p,why) else
 if (dec (l.drop p) 0 0).2.2 = 10 then (0,l.length,10) else
 if (dec (l.drop p) 0 0).2.2 ≠ 0 then (0,p,(dec (l.drop p) 0 0).2.2) else
 if most < (dec (l.drop p) 0 0).1 then (0,p,3) else ((dec (l.drop p) 0 0).1,p + (dec (l.drop p) 0 0).2.1,0)
theorem rn_slice {w : World} {g : Nat} {v : Value} {l : List Nat} (p : Nat) (hp : p ≤ l.length) (hv : Row w g v l) :
  ∃ ao cap',Sl w (.slice ao (l.length - p) cap') (l.drop p) ∧ (v = .slice none 0 0 → ao = none ∧ cap' = 0) ∧ ∀ cap,v = .slice (some ⟨g,0,none⟩) l.length cap → ao = (if cap = p then some ⟨g,0,none⟩ else some ⟨g,p,none⟩) ∧ cap' = cap - p:=by
 rcases hv.shape with ⟨rfl,rfl⟩ | ⟨cap,rfl,hcap,_⟩
 ·exact ⟨none,0,.inl ⟨by simp,none,0,by simp⟩,fun _=>⟨rfl,rfl⟩,fun cap h=>by simp at h⟩
 ·refine ⟨if cap = p then some ⟨g,0,none⟩ else some ⟨g,p,none⟩,cap - p,?_,fun h=>by simp at h,fun cap' h=>by simp at h; subst h; exact ⟨rfl,rfl⟩⟩
  by_cases e:p = l.length
  ·left
   refine ⟨by simp [e],_,cap - p,by rw [e,Nat.sub_self]⟩
  ·right
   refine ⟨g,p,cap - p,by rw [if_neg (by omega),List.length_drop],fun j hj=>?_⟩
   simp only [List.length_drop] at hj
   rw [hv.cell (p + j) (by omega)]
   simp [List.getD,List.getElem?_drop]
set_option maxHeartbeats 800000 in
theorem rn_short (b g : Nat) (l : List Nat) (p most dn ds dw : Nat) (w : World) (hp : p ≤ l.length) (_hm : most < 18446744073709551616) (hnum : ∀ (v' : Value), Sl w v' (l.drop p) → ∀ n, Calls Tryz.prog 207 #[v'] (w.drewN n) fun e w' => e = .returned (.tuple #[.int .u64 dn, .int .i64 ds, .int .i64 dw]) ∧ w' = w.drewN n)
  (h10:dw = 10) (hl:l.length ≤ 140737488355328) (hr:RIs w b g l p 0) :
  Calls Tryz.prog 193 #[.pointer (some ⟨b,0,none⟩),.int .u64 most] w fun e w'=>e = .returned (.int .u64 (((0,l.length,10):Nat × Nat × Nat)).1) ∧ RIs w' b g l (((0,l.length,10):Nat × Nat × Nat)).2.1 (((0,l.length,10):Nat × Nat × Nat)).2.2 ∧ Kept (fun k=>k = b) w w':=by
 obtain ⟨v,hb,hv,hvb,hgs⟩:=hr
 have hc0:=hb.cell 0
 have hc1:=hb.cell 1
 have hc2:=hb.cell 2
 simp only [List.getElem?_toArray,List.getElem?_cons_succ,List.getElem?_cons_zero] at hc0 hc1 hc2
 obtain ⟨ao,cap',hsl,hs1,hs2⟩:=rn_slice p hp hv
 have hnum':=hnum _ hsl
 clear hnum
 subst h10
 rcases hv.shape with ⟨rfl,rfl⟩ | ⟨cap,rfl,hcap,_⟩
 ·obtain ⟨rfl,rfl⟩:=hs1 rfl
  obtain rfl:p = 0:=by simpa using hp
  simp only [List.length_nil,Nat.sub_zero] at hnum'
  clear hs1 hs2 hsl
  go_enter Tryz.func193,Tryz.ntmps193
  go_wp2
  go_quiet ((go_at_call 207; exact Calls.quiet_of_same (hnum' _)))
  go_wp2_with fail
  refine (rshort b g [] 0 _ (by simp) (RIs.kept (l:=[]) (p:=0) (why:=0) ⟨Value.slice none 0 0,hb,hv,hvb,hgs⟩ (kept_drewN w _) (fun h=>h) (fun h=>h))).mono ?_
  rintro e w' ⟨rfl,h1,h2⟩
  go_wp2
  go_ret
  exact ⟨rfl,h1,(kept_drewN _ _).trans h2 (fun _ _ h=>h.elim) (fun _ _ h=>h)⟩
 ·obtain ⟨rfl,rfl⟩:=hs2 cap rfl
  by_cases hcp:cap = p
  ·obtain rfl:p = l.length:=by omega
   subst hcp
   rw [if_pos rfl] at hnum'
   simp only [Nat.sub_self] at hnum'
   clear hs1 hs2 hsl
   go_enter Tryz.func193,Tryz.ntmps193
   go_wp2
   go_quiet ((go_at_call 207; exact Calls.quiet_of_same (hnum' _)))
   go_wp2_with fail
   refine (rshort b g l _ _ hl (RIs.kept (l:=l) (why:=0) ⟨_,hb,hv,hvb,hgs⟩ (kept_drewN w _) (fun h=>h) (fun h=>h))).mono ?_
   rintro e w' ⟨rfl,h1,h2⟩
   go_wp2
   go_ret
   exact ⟨rfl,h1,(kept_drewN _ _).trans h2 (fun _ _ h=>h.elim) (fun _ _ h=>h)⟩
  ·rw [if_neg hcp] at hnum'
   have hcp':p < cap:=by omega
   clear hs1 hs2 hsl
   go_enter Tryz.func193,Tryz.ntmps193
   go_wp2
   go_quiet ((go_at_call 207; exact Calls.quiet_of_same (hnum' _)))
   go_wp2_with fail
   refine (rshort b g l _ _ hl (RIs.kept (l:=l) (why:=0) ⟨_,hb,hv,hvb,hgs⟩ (kept_drewN w _) (fun h=>h) (fun h=>h))).mono ?_
   rintro e w' ⟨rfl,h1,h2⟩
   go_wp2
   go_ret
   exact ⟨rfl,h1,(kept_drewN _ _).trans h2 (fun _ _ h=>h.elim) (fun _ _ h=>h)⟩
set_option maxHeartbeats 800000 in
theorem rn_form (b g : Nat) (l : List Nat) (p most dn ds dw : Nat) (w : World) (hp : p ≤ l.length) (_hm : most < 18446744073709551616) (hnum : ∀ (v' : Value), Sl w v' (l.drop p) → ∀ n, Calls Tryz.prog 207 #[v'] (w.drewN n) fun e w' => e = .returned (.tuple #[.int .u64 dn, .int .i64 ds, .int .i64 dw]) ∧ w' = w.drewN n)
  (h12:dw = 12) (hr:RIs w b g l p 0) :
  Calls Tryz.prog 193 #[.pointer (some ⟨b,0,none⟩),.int .u64 most] w fun e w'=>e = .returned (.int .u64 (((0,p,12):Nat × Nat × Nat)).1) ∧ RIs w' b g l (((0,p,12):Nat × Nat × Nat)).2.1 (((0,p,12):Nat × Nat × Nat)).2.2 ∧ Kept (fun k=>k = b) w w':=by
 obtain ⟨v,hb,hv,hvb,hgs⟩:=hr
 have hc0:=hb.cell 0
 have hc1:=hb.cell 1
 have hc2:=hb.cell 2
 simp only [List.getElem?_toArray,List.getElem?_cons_succ,List.getElem?_cons_zero] at hc0 hc1 hc2
 obtain ⟨ao,cap',hsl,hs1,hs2⟩:=rn_slice p hp hv
 have hnum':=hnum _ hsl
 clear hnum
 subst h12
 rcases hv.shape with ⟨rfl,rfl⟩ | ⟨cap,rfl,hcap,_⟩
 ·obtain ⟨rfl,rfl⟩:=hs1 rfl
  obtain rfl:p = 0:=by simpa using hp
  simp only [List.length_nil,Nat.sub_zero] at hnum'
  clear hs1 hs2 hsl
  go_enter Tryz.func193,Tryz.ntmps193
  go_wp2
  go_quiet ((go_at_call 207; exact Calls.quiet_of_same (hnum' _)))
  go_wp2_with fail
  refine (rfail 12 b g [] 0 0 _ (RIs.kept (l:=[]) (p:=0) (why:=0) ⟨Value.slice none 0 0,hb,hv,hvb,hgs⟩ (kept_drewN w _) (fun h=>h) (fun h=>h))).mono ?_
  rintro e w' ⟨rfl,h1,h2⟩
  go_wp2
  go_ret
  exact ⟨rfl,h1,(kept_drewN _ _).trans h2 (fun _ _ h=>h.elim) (fun _ _ h=>h)⟩
 ·obtain ⟨rfl,rfl⟩:=hs2 cap rfl
  by_cases hcp:cap = p
  ·obtain rfl:p = l.length:=by omega
   subst hcp
   rw [if_pos rfl] at hnum'
   simp only [Nat.sub_self] at hnum'
   clear hs1 hs2 hsl
   go_enter Tryz.func193,Tryz.ntmps193
   go_wp2
   go_quiet ((go_at_call 207; exact Calls.quiet_of_same (hnum' _)))
   go_wp2_with fail
   refine (rfail 12 b g l _ 0 _ (RIs.kept (l:=l) (why:=0) ⟨_,hb,hv,hvb,hgs⟩ (kept_drewN w _) (fun h=>h) (fun h=>h))).mono ?_
   rintro e w' ⟨rfl,h1,h2⟩
   go_wp2
   go_ret
   exact ⟨rfl,h1,(kept_drewN _ _).trans h2 (fun _ _ h=>h.elim) (fun _ _ h=>h)⟩
  ·rw [if_neg hcp] at hnum'
   have hcp':p < cap:=by omega
   clear hs1 hs2 hsl
   go_enter Tryz.func193,Tryz.ntmps193
   go_wp2
   go_quiet ((go_at_call 207; exact Calls.quiet_of_same (hnum' _)))
   go_wp2_with fail
   refine (rfail 12 b g l _ 0 _ (RIs.kept (l:=l) (why:=0) ⟨_,hb,hv,hvb,hgs⟩ (kept_drewN w _) (fun h=>h) (fun h=>h))).mono ?_
   rintro e w' ⟨rfl,h1,h2⟩
   go_wp2
   go_ret
   exact ⟨rfl,h1,(kept_drewN _ _).trans h2 (fun _ _ h=>h.elim) (fun _ _ h=>h)⟩
set_option maxHeartbeats 800000 in
theorem rn_long (b g : Nat) (l : List Nat) (p most dn ds dw : Nat) (w : World) (hp : p ≤ l.length) (_hm : most < 18446744073709551616) (hnum : ∀ (v' : Value), Sl w v' (l.drop p) → ∀ n, Calls Tryz.prog 207 #[v'] (w.drewN n) fun e w' => e = .returned (.tuple #[.int .u64 dn, .int .i64 ds, .int .i64 dw]) ∧ w' = w.drewN n)
  (h0:dw = 0) (hmd:most < dn) (hr:RIs w b g l p 0) :
  Calls Tryz.prog 193 #[.pointer (some ⟨b,0,none⟩),.int .u64 most] w fun e w'=>e = .returned (.int .u64 (((0,p,3):Nat × Nat × Nat)).1) ∧ RIs w' b g l (((0,p,3):Nat × Nat × Nat)).2.1 (((0,p,3):Nat × Nat × Nat)).2.2 ∧ Kept (fun k=>k = b) w w':=by
 obtain ⟨v,hb,hv,hvb,hgs⟩:=hr
 have hc0:=hb.cell 0
 have hc1:=hb.cell 1
 have hc2:=hb.cell 2
 simp only [List.getElem?_toArray,List.getElem?_cons_succ,List.getElem?_cons_zero] at hc0 hc1 hc2
 obtain ⟨ao,cap',hsl,hs1,hs2⟩:=rn_slice p hp hv
 have hnum':=hnum _ hsl
 clear hnum
 subst h0
 rcases hv.shape with ⟨rfl,rfl⟩ | ⟨cap,rfl,hcap,_⟩
 ·obtain ⟨rfl,rfl⟩:=hs1 rfl
  obtain rfl:p = 0:=by simpa using hp
  simp only [List.length_nil,Nat.sub_zero] at hnum'
  clear hs1 hs2 hsl
  go_enter Tryz.func193,Tryz.ntmps193
  go_wp2
  go_quiet ((go_at_call 207; exact Calls.quiet_of_same (hnum' _)))
  go_wp2_with fail
  refine (rfail 3 b g [] 0 0 _ (RIs.kept (l:=[]) (p:=0) (why:=0) ⟨Value.slice none 0 0,hb,hv,hvb,hgs⟩ (kept_drewN w _) (fun h=>h) (fun h=>h))).mono ?_
  rintro e w' ⟨rfl,h1,h2⟩
  go_wp2
  go_ret
  exact ⟨rfl,h1,(kept_drewN _ _).trans h2 (fun _ _ h=>h.elim) (fun _ _ h=>h)⟩
 ·obtain ⟨rfl,rfl⟩:=hs2 cap rfl
  by_cases hcp:cap = p
  ·obtain rfl:p = l.length:=by omega
   subst hcp
   rw [if_pos rfl] at hnum'
   simp only [Nat.sub_self] at hnum'
   clear hs1 hs2 hsl
   go_enter Tryz.func193,Tryz.ntmps193
   go_wp2
   go_quiet ((go_at_call 207; exact Calls.quiet_of_same (hnum' _)))
   go_wp2_with fail
   refine (rfail 3 b g l _ 0 _ (RIs.kept (l:=l) (why:=0) ⟨_,hb,hv,hvb,hgs⟩ (kept_drewN w _) (fun h=>h) (fun h=>h))).mono ?_
   rintro e w' ⟨rfl,h1,h2⟩
   go_wp2
   go_ret
   exact ⟨rfl,h1,(kept_drewN _ _).trans h2 (fun _ _ h=>h.elim) (fun _ _ h=>h)⟩
  ·rw [if_neg hcp] at hnum'
   have hcp':p < cap:=by omega
   clear hs1 hs2 hsl
   go_enter Tryz.func193,Tryz.ntmps193
   go_wp2
   go_quiet ((go_at_call 207; exact Calls.quiet_of_same (hnum' _)))
   go_wp2_with fail
   refine (rfail 3 b g l _ 0 _ (RIs.kept (l:=l) (why:=0) ⟨_,hb,hv,hvb,hgs⟩ (kept_drewN w _) (fun h=>h) (fun h=>h))).mono ?_
   rintro e w' ⟨rfl,h1,h2⟩
   go_wp2
   go_ret
   exact ⟨rfl,h1,(kept_drewN _ _).trans h2 (fun _ _ h=>h.elim) (fun _ _ h=>h)⟩
set_option maxHeartbeats 800000 in
theorem rn_ok (b g : Nat) (l : List Nat) (p most dn ds dw : Nat) (w : World) (hp : p ≤ l.length) (_hm : most < 18446744073709551616) (hnum : ∀ (v' : Value), Sl w v' (l.drop p) → ∀ n, Calls Tryz.prog 207 #[v'] (w.drewN n) fun e w' => e = .returned (.tuple #[.int .u64 dn, .int .i64 ds, .int .i64 dw]) ∧ w' = w.drewN n)
  (h0:dw = 0) (hmd:dn ≤ most) (hyp:0 < ds ∧ ds ≤ l.length - p) (hl:l.length ≤ 140737488355328) (hr:RIs w b g l p 0) :
  Calls Tryz.prog 193 #[.pointer (some ⟨b,0,none⟩),.int .u64 most] w fun e w'=>e = .returned (.int .u64 (((dn,p + ds,0):Nat × Nat × Nat)).1) ∧ RIs w' b g l (((dn,p + ds,0):Nat × Nat × Nat)).2.1 (((dn,p + ds,0):Nat × Nat × Nat)).2.2 ∧ Kept (fun k=>k = b) w w':=by
 obtain ⟨v,hb,hv,hvb,hgs⟩:=hr
 have hc0:=hb.cell 0
 have hc1:=hb.cell 1
 have hc2:=hb.cell 2
 simp only [List.getElem?_toArray,List.getElem?_cons_succ,List.getElem?_cons_zero] at hc0 hc1 hc2
 obtain ⟨ao,cap',hsl,hs1,hs2⟩:=rn_slice p hp hv
 have hnum':=hnum _ hsl
 clear hnum
 subst h0
 have hf1:=hb.frozen 1
 rcases hv.shape with ⟨rfl,rfl⟩ | ⟨cap,rfl,hcap,_⟩
 ·exfalso; simp at hyp; omega
 ·obtain ⟨rfl,rfl⟩:=hs2 cap rfl
  by_cases hcp:cap = p
  ·exfalso; omega
  ·rw [if_neg hcp] at hnum'
   have hcp':p < cap:=by omega
   clear hs1 hs2 hsl
   go_enter Tryz.func193,Tryz.ntmps193
   go_wp2
   go_quiet ((go_at_call 207; exact Calls.quiet_of_same (hnum' _)))
   go_wp2
   go_ret
   exact ⟨rfl,⟨_,Box.set (w:=w.drewN nq) hb 1 _,Row.set (w:=w.drewN nq) hv hvb 1 _,hvb,set_size (w:=w.drewN nq) hgs _ _⟩,(kept_drewN w nq).trans (kept_set (w.drewN nq) b 1 _) (fun _ _ h=>h.elim) (fun _ _ h=>h)⟩
theorem rnumber (b g : Nat) (l : List Nat) (p why most : Nat) (w : World) (hl : l.length ≤ 140737488355328) (h256 : ∀ x ∈ l, x < 256) (hp : p ≤ l.length) (hm : most < 18446744073709551616) (hr : RIs w b g l p why) :
  Calls Tryz.prog 193 #[.pointer (some ⟨b,0,none⟩),.int .u64 most] w fun e w'=>e = .returned (.int .u64 (rNum l p why most).1) ∧ RIs w' b g l (rNum l p why most).2.1 (rNum l p why most).2.2 ∧ Kept (fun k=>k = b) w w':=by
 by_cases h0:why = 0
 ·subst h0
  obtain ⟨dn,ds,dw,hd⟩:∃ dn ds dw,dec (l.drop p) 0 0 = (dn,ds,dw):=⟨_,_,_,rfl⟩
  have hbd:=dec_bounds (l.drop p) 10 0 0 (by omega) (by decide)
  have HE:rNum l p 0 most = if dw = 10 then (0,l.length,10) else if dw ≠ 0 then (0,p,dw) else if most < dn then (0,p,3) else (dn,p + ds,0):=by simp [rNum,hd]
  rw [hd] at hbd
  simp only [List.length_drop,Prod.mk.injEq] at hbd
  have hnum:∀ (v':Value),Sl w v' (l.drop p) → ∀ n,Calls Tryz.prog 207 #[v'] (w.drewN n) fun e w'=>e = .returned (.tuple #[.int .u64 dn,.int .i64 ds,.int .i64 dw]) ∧ w' = w.drewN n:=by
   intro v' hsl n
   have h:=number_any v' (l.drop p) (w.drewN n) (by simp; omega) (fun x hx=>h256 x (List.mem_of_mem_drop hx)) hsl
   rw [hd] at h
   exact h
  rcases hbd with ⟨h0,hds0,hds,hds1,hdn⟩ | ⟨h1,h2,h3⟩ | ⟨h1,h2,h3⟩
  ·by_cases hmd:most < dn
   ·rw [HE,if_neg (by omega),if_neg (by omega),if_pos hmd]
    exact rn_long b g l p most dn ds dw w hp hm hnum h0 hmd hr
   ·rw [HE,if_neg (by omega),if_neg (by omega),if_neg hmd]
    exact rn_ok b g l p most dn ds dw w hp hm hnum h0 (by omega) ⟨hds0,hds⟩ hl hr
  ·rw [HE,if_pos h3]
   exact rn_short b g l p most dn ds dw w hp hm hnum h3 hl hr
  ·rw [HE,if_neg (by omega),if_pos (by omega),h3]
   exact rn_form b g l p most dn ds 12 w hp hm (h3 ▸ hnum) rfl hr
 ·obtain ⟨v,hb,hv,hvb,hgs⟩:=hr
  have hc2:=hb.cell 2
  simp only [List.getElem?_toArray,List.getElem?_cons_succ,List.getElem?_cons_zero] at hc2
  have HE:Hid (rNum l p why most = (0,p,why)):=by simp [Hid,rNum,h0]
  go_enter Tryz.func193,Tryz.ntmps193
  go_wp2
  go_ret
  rw [HE.out]
  exact ⟨rfl,⟨v,hb,hv,hvb,hgs⟩,Kept.refl _ _⟩
end Go.Proofs.YtiiepfplommmfaaGreatDoor.Wire
