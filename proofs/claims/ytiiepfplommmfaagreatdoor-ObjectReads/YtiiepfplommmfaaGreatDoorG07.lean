/-
  Bytes as a text.
  And: The Reader's other methods. 'known', the law's own run of the chapter's examples: it answers true. Plain facts on writing and reading: what is written is read. Reading an interface of bytes, as functions; what is written is read, what is read is written. No program in it. Reading an interface as the document's own reader does it (what is refused keeps what was read so far), as functions; it tells the same. No program in it. Nothing of its own. Texts in order, each once, in a list of its own. slices.Backward over items; the package's places: where each name is found first. The package's Same, and what it calls. The package's Breaks.
-/
import Derived.Test.YtiiepfplommmfaaGreatDoorG06
import Derived.Laws.DeepNot64
import Derived.Test.YtiiepfplommmfaaGreatDoorShelf
import Derived.Test.YtiiepfplommmfaaGreatDoorG04
import Derived.RangeFuncNested
import Derived.RangeFuncBound
import Derived.RangeFuncCalls
import Derived.RangeFuncLeaves
import Derived.RangeFuncBox
import Derived.Shelf.Abstract
import Derived.Shelf.RegionOpen
import Derived.WalkKit
import Derived.WalkArith
import Derived.OwnWalkIn
import Derived.TacticsInMore
import Derived.LoopNIn
import Derived.LoopIn
import Derived.Maps.OwnIn
import Derived.Maps.OwnSet
import Derived.Deep.Slices
import Derived.StringKeys
import Derived.Deep.LoopGhost
import Derived.Deep.CutRange
import Derived.Deep.RegionHeld3
import Derived.Deep.RegionWith
import Derived.Maps.OwnOps
import Derived.Test.YtiiepfplommmfaaGreatDoorG01
namespace Go.Proofs.YtiiepfplommmfaaGreatDoor.Wire
open Go.RowKit

def toStr (l:List Nat):ByteArray:=(l.map Int.ofNat).foldl (fun r n=>r.push (UInt8.ofNat n.toNat)) ByteArray.empty
theorem Rd.string {w:World} {b:Nat} {v:Value} {l:List Nat} (h:Rd w b v l):(convert 42 9 v).run Tryz.prog w = .ok (.string (toStr l)) w:=by
 rcases h with ⟨rfl,rfl⟩ | ⟨a,cap,rfl,h2,h3⟩
 ·rw [run_convert_bytes_string w 42 9 5 none 0 0 Tryz.underlying42 Tryz.underlying5 Tryz.underlying9]
  simp [Conv.bytesToString,toStr]
 ·rw [run_convert_bytes_string w 42 9 5 _ _ _ Tryz.underlying42 Tryz.underlying5 Tryz.underlying9]
  refine run_bytesToString w a l.length cap (l.map Int.ofNat) ?_
  have:=run_loadCells_list (P:=Tryz.prog) w a (bs l) h3
  rw [bs_length] at this
  rw [this]
  simp [bs,Function.comp_def]
theorem toStr_push (l:List Nat):∀ (s:ByteArray),(l.map Int.ofNat).foldl (fun r n=>r.push (UInt8.ofNat n.toNat)) s = ⟨s.data ++ (l.map UInt8.ofNat).toArray⟩:=by
 induction l with
 | nil=>intro s; simp
 | cons a r ih =>
  intro s
  rw [List.map_cons,List.foldl_cons,ih]
  congr 1
  apply Array.ext'
  simp [ByteArray.push]
theorem toStr_eq (l:List Nat):toStr l = ⟨(l.map UInt8.ofNat).toArray⟩:=by
 unfold toStr
 rw [toStr_push,show ByteArray.empty.data = #[] from rfl,Array.empty_append]
end Go.Proofs.YtiiepfplommmfaaGreatDoor.Wire

namespace Go.Proofs.YtiiepfplommmfaaGreatDoor.Wire
open Go.RowKit

theorem rNum_lt (l:List Nat) (p why most:Nat):(rNum l p why most).1 < 18446744073709551616:=by
 have hbd:=dec_bounds (l.drop p) 10 0 0 (by omega) (by decide)
 unfold rNum
 split
 ·simp
 ·split
  ·simp
  ·split
   ·simp
   ·split
    ·simp
    ·rcases hbd with h | h | h
     ·exact h.2.2.2.2
     ·rw [h]; simp
     ·rw [h]; simp
theorem rNum_most (l:List Nat) (p why most:Nat):(rNum l p why most).1 ≤ most:=by
 unfold rNum
 split
 ·simp
 ·split
  ·simp
  ·split
   ·simp
   ·split
    ·simp
    ·omega
theorem rNum_le (l:List Nat) (p why most:Nat) (hp:p ≤ l.length):(rNum l p why most).2.1 ≤ l.length:=by
 have hbd:=dec_bounds (l.drop p) 10 0 0 (by omega) (by decide)
 simp only [List.length_drop] at hbd
 unfold rNum
 split
 ·exact hp
 ·split
  ·exact Nat.le_refl _
  ·split
   ·exact hp
   ·split
    ·exact hp
    ·rcases hbd with h | h | h
     ·show p + _ ≤ _
      omega
     ·rw [h]; exact hp
     ·rw [h]; exact hp
def rTake (l:List Nat) (p why:Nat) (n:Int):List Nat × Nat × Nat :=
 if why ≠ 0 ∨ n ≤ 0 then ([],p,why) else if ((l.length - p:Nat):Int) < n then ([],l.length,10) else ((l.drop p).take n.toNat,p + n.toNat,0)
theorem Row.sub {w:World} {g cap:Nat} {l:List Nat} (hv:Row w g (.slice (some ⟨g,0,none⟩) l.length cap) l) (p n c:Nat) (h:p + n ≤ l.length):Rd w g (.slice (some ⟨g,p,none⟩) n c) ((l.drop p).take n):=by
 have hlen:((l.drop p).take n).length = n:=by simp; omega
 refine .inr ⟨⟨g,p,none⟩,c,by rw [hlen],rfl,fun j u hu=>?_⟩
 have hj:j < n:=by
  have:=(List.getElem?_eq_some_iff.1 hu).1
  rw [bs_length,hlen] at this
  exact this
 have e:(⟨g,p,none⟩:Addr).add j = ⟨g,p + j,none⟩:=by unfold Addr.add; split <;> simp_all
 rw [e,hv.cell (p + j) (by omega)]
 rw [bs,List.getElem?_map,List.getElem?_take,if_pos hj,List.getElem?_drop] at hu
 rw [← hu]
 simp [List.getD,show p + j < l.length by omega]
set_option maxHeartbeats 800000 in
set_option maxRecDepth 1000000 in
theorem rtake (n : Int) (b g : Nat) (l : List Nat) (p why : Nat) (w : World) (hn : n < 9223372036854775808) (hl : l.length ≤ 140737488355328) (hp : p ≤ l.length) (hr : RIs w b g l p why) :
  Calls Tryz.prog 192 #[.pointer (some ⟨b,0,none⟩),.int .i64 n] w fun e w'=>∃ v',e = .returned v' ∧ Rd w' g v' (rTake l p why n).1 ∧ RIs w' b g l (rTake l p why n).2.1 (rTake l p why n).2.2 ∧ Kept (fun k=>k = b) w w':=by
 obtain ⟨v,hb,hv,hvb,hgs⟩:=hr
 have hc0:=hb.cell 0
 have hc1:=hb.cell 1
 have hc2:=hb.cell 2
 simp only [List.getElem?_toArray,List.getElem?_cons_succ,List.getElem?_cons_zero] at hc0 hc1 hc2
 by_cases h0:why = 0
 ·subst h0
  by_cases hn0:n ≤ 0
  ·have HE:Hid (rTake l p 0 n = ([],p,0)):=by simp [Hid,rTake,hn0]
   go_enter Tryz.func192,Tryz.ntmps192
   go_wp2
   go_ret
   rw [HE.out]
   exact ⟨_,rfl,.inl ⟨rfl,rfl⟩,⟨v,hb,hv,hvb,hgs⟩,Kept.refl _ _⟩
  ·have hn1:0 < n:=by omega
   clear hn0
   by_cases hlt:(l.length:Int) - p < n
   ·have HE:Hid (rTake l p 0 n = ([],l.length,10)):=by
     rw [Hid,rTake,if_neg (by omega),if_pos (by omega)]
    obtain ⟨a,c,rfl⟩:=hv.rd.shape
    go_enter Tryz.func192,Tryz.ntmps192
    go_wp2
    go_quiet (fail)
    go_wp2_with fail
    refine (rshort b g l _ _ hl (RIs.kept (l:=l) (why:=0) ⟨_,hb,hv,hvb,hgs⟩ (kept_drewN w _) (fun h=>h) (fun h=>h))).mono ?_
    rintro e w' ⟨rfl,h1,h2⟩
    go_wp2
    go_ret
    rw [HE.out]
    exact ⟨_,rfl,.inl ⟨rfl,rfl⟩,h1,(kept_drewN _ _).trans h2 (fun _ _ h=>h.elim) (fun _ _ h=>h)⟩
   ·have HE:Hid (rTake l p 0 n = ((l.drop p).take n.toNat,p + n.toNat,0)):=by
     rw [Hid,rTake,if_neg (by omega),if_neg (by omega)]
    rcases hv.shape with ⟨rfl,rfl⟩ | ⟨cap,rfl,hcap,_⟩
    ·exfalso; simp at hlt; omega
    ·have hf1:=hb.frozen 1
     have hpc:p < cap:=by omega
     have hpm:(p:Int) + n ≤ l.length:=by omega
     go_enter Tryz.func192,Tryz.ntmps192
     go_wp2
     go_quiet (fail)
     go_wp2
     have hb1:Box ((w.drewN nq).setCell ⟨b,1,none⟩ (.int .i64 (p + n))) b #[.slice (some ⟨g,0,none⟩) l.length cap,.int .i64 (p + n),.int .i64 0]:=Box.set (w:=w.drewN nq) hb 1 (.int .i64 (p + n))
     have hv1:Row ((w.drewN nq).setCell ⟨b,1,none⟩ (.int .i64 (p + n))) g (.slice (some ⟨g,0,none⟩) l.length cap) l:=Row.set (w:=w.drewN nq) hv hvb 1 _
     have hk1:Kept (fun k=>k = b) w ((w.drewN nq).setCell ⟨b,1,none⟩ (.int .i64 (p + n))):=(kept_drewN w nq).trans (kept_set (w.drewN nq) b 1 _) (fun _ _ h=>h.elim) (fun _ _ h=>h)
     have hgs1:g < ((w.drewN nq).setCell ⟨b,1,none⟩ (.int .i64 (p + n))).heap.size:=set_size (w:=w.drewN nq) hgs _ _
     have k0:=hb1.cell 0
     have k1:=hb1.cell 1
     simp only [List.getElem?_toArray,List.getElem?_cons_succ,List.getElem?_cons_zero] at k0 k1
     clear hc0 hc1 hc2 hf1 hb hv
     generalize (w.drewN nq).setCell ⟨b,1,none⟩ (.int .i64 (p + n)) = w1 at hb1 hv1 hk1 hgs1 k0 k1 ⊢
     go_quiet (fail)
     go_wp2
     go_ret
     refine ⟨.slice (some ⟨g,p,none⟩) (((p:Int) + n).toNat - p) (cap - p),rfl,?_,?_,hk1.trans (kept_drewN w1 nq) (fun _ _ h=>h) (fun _ _ h=>h.elim)⟩
     ·rw [HE.out,show ((p:Int) + n).toNat - p = n.toNat by omega]
      exact Row.sub (w:=w1.drewN nq) hv1 p n.toNat _ (by omega)
     ·rw [HE.out]
      have e:(p:Int) + n = ((p + n.toNat:Nat):Int):=by omega
      rw [e] at hb1
      exact ⟨_,hb1,hv1,hvb,hgs1⟩
 ·have HE:Hid (rTake l p why n = ([],p,why)):=by simp [Hid,rTake,h0]
  go_enter Tryz.func192,Tryz.ntmps192
  go_wp2
  go_ret
  rw [HE.out]
  exact ⟨_,rfl,.inl ⟨rfl,rfl⟩,⟨v,hb,hv,hvb,hgs⟩,Kept.refl _ _⟩
set_option maxHeartbeats 400000 in
set_option maxRecDepth 1000000 in
theorem rraw (n : Int) (b g : Nat) (l : List Nat) (p why : Nat) (w : World) (hn : n < 9223372036854775808) (hl : l.length ≤ 140737488355328) (hp : p ≤ l.length) (hr : RIs w b g l p why) :
  Calls Tryz.prog 168 #[.pointer (some ⟨b,0,none⟩),.int .i64 n] w fun e w'=>∃ v' g',e = .returned v' ∧ Row w' g' v' (rTake l p why n).1 ∧ w.heap.size ≤ g' ∧ RIs w' b g l (rTake l p why n).2.1 (rTake l p why n).2.2 ∧ Kept (fun k=>k = b) w w':=by
 have hlen:(rTake l p why n).1.length ≤ l.length:=by
  unfold rTake
  split
  ·simp
  ·split <;> simp; omega
 go_enter Tryz.func168,Tryz.ntmps168
 go_wp2_with fail
 refine (rtake n b g l p why _ hn hl hp hr).mono ?_
 rintro e w1 ⟨v1,rfl,h1,h2,h3⟩
 obtain ⟨a',c',rfl⟩:=h1.shape
 go_wp2_with fail
 refine (clone _ g _ _ (by omega) h1).mono ?_
 rintro e w2 ⟨v2,g2,rfl,k1,k2,k3⟩
 obtain ⟨a2,c2,rfl⟩:=k1.rd.shape
 go_wp2
 go_ret
 have:=h3.size
 exact ⟨_,g2,rfl,k1,by omega,h2.kept k3 (fun h=>h) (fun h=>h),h3.trans k3 (fun _ _ h=>h) (fun _ _ h=>h.elim)⟩
set_option maxHeartbeats 1600000 in
set_option maxRecDepth 1000000 in
theorem rtext (most : Int) (b g : Nat) (l : List Nat) (p why : Nat) (w : World) (h0 : -9223372036854775808 ≤ most) (h1 : most < 9223372036854775808) (hl : l.length ≤ 140737488355328) (h256 : ∀ x ∈ l, x < 256) (hp : p ≤ l.length) (hr : RIs w b g l p why) :
  Calls Tryz.prog 163 #[.pointer (some ⟨b,0,none⟩),.int .i64 most] w fun e w'=>∃ R,R = rNum l p why most.toNat ∧ e = .returned (.string (toStr (rTake l R.2.1 R.2.2 R.1).1)) ∧ RIs w' b g l (rTake l R.2.1 R.2.2 R.1).2.1 (rTake l R.2.1 R.2.2 R.1).2.2 ∧ Kept (fun k=>k = b) w w':=by
 have hcall:=rnumber b g l p why most.toNat w hl h256 hp (by omega) hr
 have hlt:=rNum_lt l p why most.toNat
 have hmost:=rNum_most l p why most.toNat
 have hple:=rNum_le l p why most.toNat hp
 obtain ⟨R,HR⟩:∃ R,Hid (R = rNum l p why most.toNat):=⟨_,rfl⟩
 rw [← HR.out] at hcall hlt hmost hple
 obtain ⟨n,p',why'⟩:=R
 simp only at hcall hlt hmost hple
 by_cases hm:most < 0
 ·have e:((most.toNat:Nat):Int) = 0:=by omega
  rw [e] at hcall
  have hn0:n < 9223372036854775808:=by omega
  clear e hmost
  go_enter Tryz.func163,Tryz.ntmps163
  go_wp2_with fail
  try rw [show max most 0 = (0:Int) by omega]
  refine hcall.mono ?_
  rintro e w1 ⟨rfl,k1,k2⟩
  go_wp2_with fail
  refine (rtake n b g l p' why' _ (by omega) hl hple k1).mono ?_
  rintro e w2 ⟨v2,rfl,j1,j2,j3⟩
  have hcv:=j1.string
  obtain ⟨a2,c2,rfl⟩:=j1.shape
  go_wp2
  go_ret
  exact ⟨_,HR.out,rfl,j2,k2.trans j3 (fun _ _ h=>h) (fun _ _ h=>h)⟩
 ·have e:((most.toNat:Nat):Int) = most:=by omega
  rw [e] at hcall
  have hn0:n < 9223372036854775808:=by omega
  have hm':0 ≤ most:=by omega
  clear e hmost hm
  go_enter Tryz.func163,Tryz.ntmps163
  go_wp2_with fail
  try rw [show max most 0 = most by omega]
  refine hcall.mono ?_
  rintro e w1 ⟨rfl,k1,k2⟩
  go_wp2_with fail
  refine (rtake n b g l p' why' _ (by omega) hl hple k1).mono ?_
  rintro e w2 ⟨v2,rfl,j1,j2,j3⟩
  have hcv:=j1.string
  obtain ⟨a2,c2,rfl⟩:=j1.shape
  go_wp2
  go_ret
  exact ⟨_,HR.out,rfl,j2,k2.trans j3 (fun _ _ h=>h) (fun _ _ h=>h)⟩
end Go.Proofs.YtiiepfplommmfaaGreatDoor.Wire

namespace Go.Proofs.YtiiepfplommmfaaGreatDoor.Wire
open Go.RowKit

end Go.Proofs.YtiiepfplommmfaaGreatDoor.Wire

namespace Go.Proofs.YtiiepfplommmfaaGreatDoor.Wire
open Go.RowKit

theorem pow_step (k:Nat):2 ^ (7 * (k + 1)) = 128 * 2 ^ (7 * k):=by rw [Nat.mul_add,Nat.pow_add]; omega
theorem pow_ten (k:Nat) (h:10 ≤ k):18446744073709551616 ≤ 2 ^ (7 * k):=Nat.le_trans (by decide) (Nat.pow_le_pow_right (by omega:0 < 2) (show 64 ≤ 7 * k by omega))
theorem dec_enc:∀ (f m k acc:Nat) (L rest:List Nat),m < f → L.drop k = enc m ++ rest → k ≤ L.length → m * 2 ^ (7 * k) < 18446744073709551616 → (k = 0 ∨ 0 < m) → dec L k acc = (acc + m * 2 ^ (7 * k),k + (enc m).length,0)
 | 0,m,k,acc,L,rest,hf,hL,hkl,hlt,hk=>by omega
 | f + 1,m,k,acc,L,rest,hf,hL,hkl,hlt,hk=>by
  by_cases h1:128 ≤ m
  ·have hk9:k < 10:=by
    rcases Nat.lt_or_ge k 10 with h | h
    ·exact h
    ·have h2:=pow_ten k h
     have h3:128 * 2 ^ (7 * k) ≤ m * 2 ^ (7 * k):=Nat.mul_le_mul_right _ h1
     omega
   rw [enc_big h1,List.cons_append] at hL
   have hx:L[k]? = some (m % 128 + 128):=by
    have:=congrArg (fun l=>l[0]?) hL
    simpa using this
   have hd:L.drop (k + 1) = enc (m / 128) ++ rest:=by
    have:=congrArg List.tail hL
    simpa using this
   have hkl':k + 1 ≤ L.length:=(List.getElem?_eq_some_iff.1 hx).1
   rw [dec_on hk9 hx (by omega)]
   have hp:m / 128 * 2 ^ (7 * (k + 1)) + m % 128 * 2 ^ (7 * k) = m * 2 ^ (7 * k):=by
    rw [pow_step, ← Nat.mul_assoc, ← Nat.add_mul,Nat.div_add_mod']
   rw [dec_enc f (m / 128) (k + 1) _ L rest (by omega) hd hkl' (by omega) (by omega),enc_big h1]
   have e1:(m % 128 + 128) % 128 = m % 128:=by omega
   rw [e1]
   simp only [List.length_cons,Prod.mk.injEq,and_true]
   omega
  ·rw [enc_small (by omega),List.cons_append] at hL
   have hx:L[k]? = some m:=by
    have:=congrArg (fun l=>l[0]?) hL
    simpa using this
   have hk10:k < 10 ∧ ¬ (1 < m ∧ k = 9):=by
    constructor
    ·rcases Nat.lt_or_ge k 10 with h | h
     ·exact h
     ·have h2:=pow_ten k h
      have h3:1 * 2 ^ (7 * k) ≤ m * 2 ^ (7 * k):=Nat.mul_le_mul_right _ (by omega)
      omega
    ·rintro ⟨h2,rfl⟩
     have h3:2 * 2 ^ (7 * 9) ≤ m * 2 ^ (7 * 9):=Nat.mul_le_mul_right _ h2
     have h4:2 * 2 ^ (7 * 9) = 18446744073709551616:=by decide
     omega
   rw [dec_ok hk10.1 hx (by omega) (by omega),enc_small (by omega)]
   rfl
theorem dec_written (n:Nat) (rest:List Nat) (h:n < 18446744073709551616):dec (enc n ++ rest) 0 0 = (n,(enc n).length,0):=by
 have:=dec_enc (n + 1) n 0 0 (enc n ++ rest) rest (Nat.lt_succ_self _) rfl (Nat.zero_le _) (by simpa using h) (Or.inl rfl)
 simpa using this
theorem enc_dec:∀ (f k acc:Nat) (L:List Nat),10 - k ≤ f → (∀ x ∈ L,x < 256) → acc < 2 ^ (7 * k) → (dec L k acc).2.2 = 0 → ∃ m,dec L k acc = (acc + m * 2 ^ (7 * k),k + (enc m).length,0) ∧ (L.drop k).take (enc m).length = enc m ∧ (k = 0 ∨ 0 < m)
 | 0,k,acc,L,hf,h256,ha,h=>by rw [dec_end (by omega)] at h; simp at h
 | f + 1,k,acc,L,hf,h256,ha,h=>by
  by_cases hk:k < 10
  ·cases hx:L[k]? with
   | none=>rw [dec_none hk hx] at h; simp at h
   | some x =>
    have hlt:k < L.length:=(List.getElem?_eq_some_iff.1 hx).1
    have hd:L.drop k = x :: L.drop (k + 1):=by
     rw [List.drop_eq_getElem_cons hlt]
     have e:=(List.getElem?_eq_some_iff.1 hx).2
     rw [e]
    have hx2:x < 256:=h256 x (List.mem_of_getElem? hx)
    by_cases h1:128 ≤ x
    ·rw [dec_on hk hx h1] at h ⊢
     have hm:x % 128 < 128:=Nat.mod_lt _ (by omega)
     have h4:x % 128 * 2 ^ (7 * k) ≤ 127 * 2 ^ (7 * k):=Nat.mul_le_mul_right _ (by omega)
     have e2:=pow_step k
     obtain ⟨m,e,ht,hp⟩:=enc_dec f (k + 1) _ L (by omega) h256 (by omega) h
     have hm0:0 < m:=by omega
     have e3:enc (x % 128 + 128 * m) = x :: enc m:=by
      rw [enc_big (by omega),show (x % 128 + 128 * m) % 128 + 128 = x by omega,show (x % 128 + 128 * m) / 128 = m by omega]
     refine ⟨x % 128 + 128 * m,?_,?_,by omega⟩
     ·rw [e,e3]
      have e5:(x % 128 + 128 * m) * 2 ^ (7 * k) = x % 128 * 2 ^ (7 * k) + m * 2 ^ (7 * (k + 1)):=by
       rw [pow_step,Nat.add_mul,Nat.mul_comm 128 m,Nat.mul_assoc]
      rw [e5]
      simp only [List.length_cons,Prod.mk.injEq,and_true]
      omega
     ·rw [e3,hd]
      simpa using ht
    ·by_cases h2:(x = 0 ∧ 0 < k) ∨ (1 < x ∧ k = 9)
     ·rw [dec_bad hk hx (by omega) h2] at h; simp at h
     ·refine ⟨x,?_,?_,by omega⟩
      ·rw [dec_ok hk hx (by omega) h2,enc_small (by omega)]; rfl
      ·rw [enc_small (by omega),hd]; rfl
  ·rw [dec_end (by omega)] at h; simp at h
theorem enc_256':∀ (f n:Nat),n < f → ∀ x ∈ enc n,x < 256
 | 0,n,hf,x,hx=>by omega
 | f + 1,n,hf,x,hx=>by
  by_cases h:128 ≤ n
  ·rw [enc_big h] at hx
   rcases List.mem_cons.1 hx with rfl | hx
   ·omega
   ·exact enc_256' f (n / 128) (by omega) x hx
  ·rw [enc_small (by omega)] at hx
   simp at hx
   omega
theorem enc_256 (n:Nat):∀ x ∈ enc n,x < 256:=enc_256' (n + 1) n (Nat.lt_succ_self _)
end Go.Proofs.YtiiepfplommmfaaGreatDoor.Wire

namespace Go.Proofs.YtiiepfplommmfaaGreatDoor
open Wire (rNum rTake rEnd enc)

def txtR (l:List Nat) (most p y:Nat):List UInt8 × Nat × Nat :=
 ((rTake l (rNum l p y most).2.1 (rNum l p y most).2.2 (rNum l p y most).1).1.map UInt8.ofNat,(rTake l (rNum l p y most).2.1 (rNum l p y most).2.2 (rNum l p y most).1).2.1,(rTake l (rNum l p y most).2.1 (rNum l p y most).2.2 (rNum l p y most).1).2.2)
def badW (y:Nat):Bool:=decide (y ≠ 0) && decide (y ≠ 11)
def listF {α:Type} (rd:Nat → Nat → α × Nat × Nat):Nat → Nat → Nat → List α → List α × Nat × Nat
 | 0,p,y,acc=>(acc,p,y)
 | n + 1,p,y,acc=>if badW (rd p y).2.2 = true then ([],(rd p y).2.1,(rd p y).2.2) else listF rd n (rd p y).2.1 (rd p y).2.2 (acc ++ [(rd p y).1])
def listR {α:Type} (l:List Nat) (rd:Nat → Nat → α × Nat × Nat) (p y:Nat):List α × Nat × Nat:=listF rd (rNum l p y 65535).1 (rNum l p y 65535).2.1 (rNum l p y 65535).2.2 []
def caseR (l:List Nat) (p y:Nat):Cs × Nat × Nat :=
 (((txtR l 24 p y).1,(listR l (txtR l 200) (txtR l 24 p y).2.1 (txtR l 24 p y).2.2).1),(listR l (txtR l 200) (txtR l 24 p y).2.1 (txtR l 24 p y).2.2).2)
def itemT (l:List Nat) (k:Nat) (nm:List UInt8) (p y:Nat):It × Nat × Nat :=
 if k = 1 then (⟨(k:Int),nm,[],(listR l (caseR l) p y).1⟩,(listR l (caseR l) p y).2) else (⟨(k:Int),nm,(txtR l 200 p y).1,[]⟩,(txtR l 200 p y).2)
def itemN (l:List Nat) (k p y:Nat):It × Nat × Nat:=itemT l k (txtR l 24 p y).1 (txtR l 24 p y).2.1 (txtR l 24 p y).2.2
def itemR (l:List Nat) (p y:Nat):It × Nat × Nat:=itemN l (rNum l p y 65535).1 (rNum l p y 65535).2.1 (rNum l p y 65535).2.2
theorem take_le (l:List Nat) (p y n:Nat) (hp:p ≤ l.length):(rTake l p y (n:Int)).2.1 ≤ l.length:=by
 unfold rTake
 split
 ·exact hp
 ·split
  ·simp
  ·simp
   omega
theorem txt_le (l:List Nat) (most p y:Nat) (hp:p ≤ l.length):(txtR l most p y).2.1 ≤ l.length:=take_le l _ _ _ (Wire.rNum_le l p y most hp)
theorem num_stick (l:List Nat) (most p y:Nat) (h:y ≠ 0):rNum l p y most = (0,p,y):=by simp [rNum,h]
theorem take_stick (l:List Nat) (p y:Nat) (n:Int) (h:y ≠ 0):rTake l p y n = ([],p,y):=by simp [rTake,h]
theorem txt_stick (l:List Nat) (most p y:Nat) (h:y ≠ 0):(txtR l most p y).2.2 = y:=by
 unfold txtR
 rw [num_stick l most p y h,take_stick l p y _ h]
theorem listF_le {α:Type} {l:List Nat} {rd:Nat → Nat → α × Nat × Nat} (hrd:∀ p y,p ≤ l.length → (rd p y).2.1 ≤ l.length):∀ (n p y:Nat) (acc:List α),p ≤ l.length → (listF rd n p y acc).2.1 ≤ l.length
 | 0,p,y,acc,h=>h
 | n + 1,p,y,acc,h=>by
  rw [listF]
  split
  ·exact hrd p y h
  ·exact listF_le hrd n _ _ _ (hrd p y h)
theorem list_le {α:Type} {l:List Nat} {rd:Nat → Nat → α × Nat × Nat} (hrd:∀ p y,p ≤ l.length → (rd p y).2.1 ≤ l.length) (p y:Nat) (h:p ≤ l.length):(listR l rd p y).2.1 ≤ l.length:=listF_le hrd _ _ _ _ (Wire.rNum_le l p y 65535 h)
theorem list_stick {α:Type} (l:List Nat) (rd:Nat → Nat → α × Nat × Nat) (p y:Nat) (h:y ≠ 0):(listR l rd p y).2.2 = y:=by
 unfold listR
 rw [num_stick l 65535 p y h]
 rfl
theorem case_le (l:List Nat) (p y:Nat) (h:p ≤ l.length):(caseR l p y).2.1 ≤ l.length:=list_le (txt_le l 200) _ _ (txt_le l 24 p y h)
theorem case_stick (l:List Nat) (p y:Nat) (h:y ≠ 0):(caseR l p y).2.2 = y:=by
 unfold caseR
 have e:=txt_stick l 24 p y h
 show (listR l (txtR l 200) (txtR l 24 p y).2.1 (txtR l 24 p y).2.2).2.2 = y
 rw [list_stick _ _ _ _ (by rw [e]; exact h),e]
theorem itemT_le (l:List Nat) (k:Nat) (nm:List UInt8) (p y:Nat) (h:p ≤ l.length):(itemT l k nm p y).2.1 ≤ l.length:=by
 unfold itemT
 split
 ·exact list_le (case_le l) _ _ h
 ·exact txt_le l 200 p y h
theorem item_le (l:List Nat) (p y:Nat) (h:p ≤ l.length):(itemR l p y).2.1 ≤ l.length:=itemT_le l _ _ _ _ (txt_le l 24 _ _ (Wire.rNum_le l p y 65535 h))
theorem itemT_stick (l:List Nat) (k:Nat) (nm:List UInt8) (p y:Nat) (h:y ≠ 0):(itemT l k nm p y).2.2 = y:=by
 unfold itemT
 split
 ·exact list_stick _ _ _ _ h
 ·exact txt_stick l 200 p y h
theorem item_stick (l:List Nat) (p y:Nat) (h:y ≠ 0):(itemR l p y).2.2 = y:=by
 unfold itemR
 rw [num_stick l 65535 p y h]
 show (itemT l 0 (txtR l 24 p y).1 (txtR l 24 p y).2.1 (txtR l 24 p y).2.2).2.2 = y
 have e:=txt_stick l 24 p y h
 rw [itemT_stick _ _ _ _ _ (by rw [e]; exact h),e]
theorem num_back (l:List Nat) (h256:∀ x ∈ l,x < 256) (most p n p':Nat) (hp:p ≤ l.length) (h:rNum l p 0 most = (n,p',0)):l.drop p = enc n ++ l.drop p' ∧ n ≤ most ∧ p' ≤ l.length ∧ p ≤ p':=by
 have hle:=Wire.rNum_le l p 0 most hp
 rw [h] at hle
 unfold rNum at h
 rw [if_neg (by simp)] at h
 split at h
 ·simp at h
 ·split at h
  ·rename_i h1 h2
   simp only [Prod.mk.injEq] at h
   exact absurd h.2.2 h2
  ·rename_i h1 h2
   split at h
   ·simp at h
   ·rename_i h3
    obtain ⟨m,e,ht,_⟩:=Wire.enc_dec 10 0 0 (l.drop p) (by omega) (fun x hx=>h256 x (List.mem_of_mem_drop hx)) (by decide) (Classical.not_not.1 h2)
    rw [e] at h h3
    simp only [Nat.zero_add,Nat.mul_zero,Nat.pow_zero,Nat.mul_one,Prod.mk.injEq,and_true] at h h3
    obtain ⟨rfl,rfl⟩:=h
    refine ⟨?_,by omega,hle,by omega⟩
    rw [List.drop_zero] at ht
    have e2:=List.take_append_drop (enc m).length (l.drop p)
    rw [ht,List.drop_drop] at e2
    exact e2.symm
theorem ofNat_toNat (x:List Nat) (h:∀ n ∈ x,n < 256):(x.map UInt8.ofNat).map UInt8.toNat = x:=by
 rw [List.map_map]
 conv=>rhs; rw [← List.map_id x]
 refine List.map_congr_left fun n hn=>?_
 have:=h n hn
 simp [Nat.mod_eq_of_lt this]
theorem txt_back (l:List Nat) (h256:∀ x ∈ l,x < 256) (most p:Nat) (hp:p ≤ l.length) (x:List UInt8) (p':Nat) (h:txtR l most p 0 = (x,p',0)):l.drop p = txtB x ++ l.drop p' ∧ p' ≤ l.length:=by
 have hy:(rNum l p 0 most).2.2 = 0:=by
  by_cases e:(rNum l p 0 most).2.2 = 0
  ·exact e
  ·unfold txtR at h
   rw [take_stick _ _ _ _ e] at h
   simp only [Prod.mk.injEq] at h
   exact absurd h.2.2 e
 obtain ⟨n,p1,y1,hr⟩:∃ n p1 y1,rNum l p 0 most = (n,p1,y1):=⟨_,_,_,rfl⟩
 rw [hr] at hy
 simp only at hy
 subst hy
 obtain ⟨h1,h2,h3,h4⟩:=num_back l h256 most p n p1 hp hr
 unfold txtR at h
 rw [hr] at h
 simp only at h
 unfold rTake at h
 split at h
 ·rename_i h5
  simp only [ne_eq,not_true_eq_false,false_or] at h5
  have hn0:n = 0:=by omega
  subst hn0
  simp only [List.map_nil,Prod.mk.injEq,and_true] at h
  obtain ⟨rfl,rfl⟩:=h
  exact ⟨by rw [h1]; rfl,h3⟩
 ·rename_i h5
  split at h
  ·simp at h
  ·rename_i h6
   simp only [Int.toNat_natCast,Prod.mk.injEq,and_true] at h
   obtain ⟨rfl,rfl⟩:=h
   have h7:p1 + n ≤ l.length:=by omega
   refine ⟨?_,h7⟩
   unfold txtB
   have hlen:((l.drop p1).take n).length = n:=by simp; omega
   rw [List.length_map,hlen,ofNat_toNat _ (fun m hm=>h256 m (List.mem_of_mem_drop (List.mem_of_mem_take hm))),h1,List.append_assoc]
   congr 1
   rw [← List.drop_drop,List.take_append_drop]
theorem listF_back {α : Type} {l : List Nat} {rd : Nat → Nat → α × Nat × Nat} (E : α → List Nat) (hst : ∀ p y, y ≠ 0 → (rd p y).2.2 = y) (hbk : ∀ p, p ≤ l.length → ∀ x p', rd p 0 = (x, p', 0) → l.drop p = E x ++ l.drop p' ∧ p' ≤ l.length) :
  ∀ (n p:Nat) (acc xs:List α) (p':Nat),p ≤ l.length → listF rd n p 0 acc = (xs,p',0) → ∃ ys,xs = acc ++ ys ∧ ys.length = n ∧ l.drop p = ys.flatMap E ++ l.drop p' ∧ p' ≤ l.length
 | 0,p,acc,xs,p',hp,h=>by
  simp only [listF,Prod.mk.injEq,and_true] at h
  obtain ⟨rfl,rfl⟩:=h
  exact ⟨[],by simp,rfl,by simp,hp⟩
 | n + 1,p,acc,xs,p',hp,h=>by
  rw [listF] at h
  obtain ⟨x,q,y,hr⟩:∃ x q y,rd p 0 = (x,q,y):=⟨_,_,_,rfl⟩
  rw [hr] at h
  simp only at h
  split at h
  ·rename_i hb
   simp only [Prod.mk.injEq] at h
   rw [h.2.2] at hb
   simp [badW] at hb
  ·have hy:y = 0:=by
    refine Classical.byContradiction fun hy=>?_
    have:∀ (n q:Nat) (acc:List α),(listF rd n q y acc).2.2 ≠ 0:=by
     intro n
     induction n with
     | zero=>intro q acc; exact hy
     | succ n ih =>
      intro q acc
      rw [listF]
      have e:=hst q y hy
      split
      ·rw [e]; exact hy
      ·rw [e]; exact ih _ _
    exact this n q (acc ++ [x]) (by rw [h])
   subst hy
   obtain ⟨h1,h2⟩:=hbk p hp x q hr
   obtain ⟨ys,rfl,h3,h4,h5⟩:=listF_back E hst hbk n q (acc ++ [x]) xs p' h2 h
   exact ⟨x :: ys,by simp,by simp [h3],by rw [h1,h4,List.flatMap_cons,List.append_assoc],h5⟩
theorem list_back {α : Type} {l : List Nat} (h256 : ∀ x ∈ l, x < 256) {rd : Nat → Nat → α × Nat × Nat} (E : α → List Nat) (hst : ∀ p y, y ≠ 0 → (rd p y).2.2 = y) (hbk : ∀ p, p ≤ l.length → ∀ x p', rd p 0 = (x, p', 0) → l.drop p = E x ++ l.drop p' ∧ p' ≤ l.length)
  (p:Nat) (hp:p ≤ l.length) (xs:List α) (p':Nat) (h:listR l rd p 0 = (xs,p',0)):l.drop p = (enc xs.length ++ xs.flatMap E) ++ l.drop p' ∧ p' ≤ l.length:=by
 unfold listR at h
 obtain ⟨n,q,y,hr⟩:∃ n q y,rNum l p 0 65535 = (n,q,y):=⟨_,_,_,rfl⟩
 rw [hr] at h
 simp only at h
 by_cases hy:y = 0
 ·subst hy
  obtain ⟨h1,_,h3,_⟩:=num_back l h256 65535 p n q hp hr
  obtain ⟨ys,rfl,h4,h5,h6⟩:=listF_back E hst hbk n q [] xs p' h3 h
  refine ⟨?_,h6⟩
  rw [h4,h1,h5,List.append_assoc]
 ·exfalso
  have hn:n = 0:=by
   have:=hr
   unfold rNum at this
   rw [if_neg (by simp)] at this
   split at this
   ·simp only [Prod.mk.injEq] at this; exact this.1.symm
   ·split at this
    ·simp only [Prod.mk.injEq] at this; exact this.1.symm
    ·split at this
     ·simp only [Prod.mk.injEq] at this; exact this.1.symm
     ·simp only [Prod.mk.injEq] at this; exact absurd this.2.2.symm hy
  subst hn
  simp only [listF,Prod.mk.injEq] at h
  exact hy h.2.2
theorem fieldsB_flat:∀ fs:List (List UInt8),fieldsB fs = fs.flatMap txtB
 | []=>rfl
 | f :: r=>by rw [fieldsB,fieldsB_flat r,List.flatMap_cons]
theorem casesB_flat:∀ fs:List Cs,casesB fs = fs.flatMap caseB
 | []=>rfl
 | f :: r=>by rw [casesB,casesB_flat r,List.flatMap_cons]
theorem case_back (l:List Nat) (h256:∀ x ∈ l,x < 256) (p:Nat) (hp:p ≤ l.length) (c:Cs) (p':Nat) (h:caseR l p 0 = (c,p',0)):l.drop p = caseB c ++ l.drop p' ∧ p' ≤ l.length:=by
 unfold caseR at h
 obtain ⟨n,q,y,hr⟩:∃ n q y,txtR l 24 p 0 = (n,q,y):=⟨_,_,_,rfl⟩
 rw [hr] at h
 simp only at h
 obtain ⟨fs,q2,y2,hr2⟩:∃ n q' y',listR l (txtR l 200) q y = (n,q',y'):=⟨_,_,_,rfl⟩
 rw [hr2] at h
 simp only [Prod.mk.injEq] at h
 obtain ⟨rfl,rfl,rfl⟩:=h
 have hy:y = 0:=by
  refine Classical.byContradiction fun hy=>?_
  have:=list_stick l (txtR l 200) q y hy
  rw [hr2] at this
  exact hy this.symm
 subst hy
 obtain ⟨h1,h2⟩:=txt_back l h256 24 p hp n q hr
 obtain ⟨h3,h4⟩:=list_back h256 txtB (txt_stick l 200) (fun p hp=>txt_back l h256 200 p hp) q h2 fs q2 hr2
 refine ⟨?_,h4⟩
 rw [h1,h3,caseB,fieldsB_flat]
 simp only [List.append_assoc]
theorem item_back (l:List Nat) (h256:∀ x ∈ l,x < 256) (p:Nat) (hp:p ≤ l.length) (x:It) (p':Nat) (h:itemR l p 0 = (x,p',0)):l.drop p = itemB x ++ l.drop p' ∧ p' ≤ l.length:=by
 unfold itemR itemN at h
 obtain ⟨k,q,y,hr⟩:∃ n q y,rNum l p 0 65535 = (n,q,y):=⟨_,_,_,rfl⟩
 rw [hr] at h
 simp only at h
 obtain ⟨nm,q1,y1,hr1⟩:∃ n q' y',txtR l 24 q y = (n,q',y'):=⟨_,_,_,rfl⟩
 rw [hr1] at h
 simp only at h
 have hy1:y1 = 0:=by
  refine Classical.byContradiction fun hy=>?_
  have:=itemT_stick l k nm q1 y1 hy
  rw [h] at this
  exact hy this.symm
 subst hy1
 have hy:y = 0:=by
  refine Classical.byContradiction fun hy=>?_
  have:=txt_stick l 24 q y hy
  rw [hr1] at this
  exact hy this.symm
 subst hy
 obtain ⟨h1,_,h3,_⟩:=num_back l h256 65535 p k q hp hr
 obtain ⟨h4,h5⟩:=txt_back l h256 24 q h3 nm q1 hr1
 unfold itemT at h
 split at h
 ·rename_i hk
  subst hk
  obtain ⟨cs,q2,y2,hr2⟩:∃ n q' y',listR l (caseR l) q1 0 = (n,q',y'):=⟨_,_,_,rfl⟩
  rw [hr2] at h
  simp only [Prod.mk.injEq] at h
  obtain ⟨rfl,rfl,rfl⟩:=h
  obtain ⟨h6,h7⟩:=list_back h256 caseB (case_stick l) (fun p hp=>case_back l h256 p hp) q1 h5 cs q2 hr2
  refine ⟨?_,h7⟩
  rw [h1,h4,h6,itemB,if_pos (show ((1:Nat):Int) = 1 from rfl),casesB_flat]
  simp only [List.append_assoc,Int.toNat_natCast]
 ·rename_i hk
  obtain ⟨ty,q2,y2,hr2⟩:∃ n q' y',txtR l 200 q1 0 = (n,q',y'):=⟨_,_,_,rfl⟩
  rw [hr2] at h
  simp only [Prod.mk.injEq] at h
  obtain ⟨rfl,rfl,rfl⟩:=h
  obtain ⟨h6,h7⟩:=txt_back l h256 200 q1 h5 ty q2 hr2
  refine ⟨?_,h7⟩
  rw [h1,h4,h6,itemB,if_neg (show ¬ ((k:Int) = 1) by omega)]
  simp only [List.append_assoc,Int.toNat_natCast]
theorem num_forth (l:List Nat) (most p n:Nat) (rest:List Nat) (hn:n ≤ most) (hm:most < 18446744073709551616) (h:l.drop p = enc n ++ rest):rNum l p 0 most = (n,p + (enc n).length,0):=by
 unfold rNum
 rw [if_neg (by simp),h,Wire.dec_written n rest (by omega)]
 simp
 omega
theorem drop_more {l a rest:List Nat} {p:Nat} (h:l.drop p = a ++ rest):l.drop (p + a.length) = rest:=by
 rw [← List.drop_drop,h,List.drop_left]
theorem drop_len {l a rest:List Nat} {p:Nat} (hp:p ≤ l.length) (h:l.drop p = a ++ rest):p + a.length + rest.length = l.length:=by
 have:=congrArg List.length h
 simp at this
 omega
theorem toNat_ofNat (x:List UInt8):(x.map UInt8.toNat).map UInt8.ofNat = x:=by
 rw [List.map_map]
 conv=>rhs; rw [← List.map_id x]
 exact List.map_congr_left fun n _=>by simp
theorem txt_forth (l:List Nat) (most p:Nat) (x:List UInt8) (rest:List Nat) (hp:p ≤ l.length) (hx:x.length ≤ most) (hm:most < 18446744073709551616) (h:l.drop p = txtB x ++ rest):txtR l most p 0 = (x,p + (txtB x).length,0):=by
 unfold txtB at h
 rw [List.append_assoc] at h
 have h1:=num_forth l most p x.length _ hx hm h
 have h2:=drop_more h
 have h3:=drop_len hp h
 simp only [List.length_append,List.length_map] at h3
 unfold txtR
 rw [h1]
 simp only
 unfold rTake
 by_cases h0:x = []
 ·subst h0
  simp [txtB]
 ·have:0 < x.length:=List.length_pos_iff.2 h0
  rw [if_neg (by omega),if_neg (by omega),h2]
  simp only [Int.toNat_natCast]
  rw [List.take_left' (by simp),toNat_ofNat]
  simp [txtB]
  omega
theorem listF_forth {α : Type} {l : List Nat} {rd : Nat → Nat → α × Nat × Nat} (E : α → List Nat) (ok : α → Prop) (hf : ∀ p x rest, p ≤ l.length → ok x → l.drop p = E x ++ rest → rd p 0 = (x, p + (E x).length, 0)) :
  ∀ (ys:List α) (p:Nat) (acc:List α) (rest:List Nat),p ≤ l.length → (∀ x ∈ ys,ok x) → l.drop p = ys.flatMap E ++ rest → listF rd ys.length p 0 acc = (acc ++ ys,p + (ys.flatMap E).length,0)
 | [],p,acc,rest,hp,hok,h=>by simp [listF]
 | x :: ys,p,acc,rest,hp,hok,h=>by
  rw [List.flatMap_cons,List.append_assoc] at h
  have h1:=hf p x _ hp (hok x (by simp)) h
  have h2:=drop_len hp h
  rw [List.length_cons,listF,h1]
  simp only
  rw [if_neg (by simp [badW]),listF_forth E ok hf ys (p + (E x).length) (acc ++ [x]) rest (by omega) (fun y hy=>hok y (by simp [hy])) (drop_more h)]
  simp [List.flatMap_cons]
  omega
theorem list_forth {α : Type} {l : List Nat} {rd : Nat → Nat → α × Nat × Nat} (E : α → List Nat) (ok : α → Prop) (hf : ∀ p x rest, p ≤ l.length → ok x → l.drop p = E x ++ rest → rd p 0 = (x, p + (E x).length, 0))
  (ys:List α) (p:Nat) (rest:List Nat) (hp:p ≤ l.length) (hn:ys.length ≤ 65535) (hok:∀ x ∈ ys,ok x) (h:l.drop p = (enc ys.length ++ ys.flatMap E) ++ rest):listR l rd p 0 = (ys,p + (enc ys.length ++ ys.flatMap E).length,0):=by
 rw [List.append_assoc] at h
 unfold listR
 rw [num_forth l 65535 p ys.length _ hn (by decide) h]
 simp only
 have h2:=drop_len hp h
 rw [listF_forth E ok hf ys _ [] rest (by omega) hok (drop_more h)]
 simp
 omega
def CsS (c:Cs):Prop:=c.1.length ≤ 24 ∧ c.2.length ≤ 4 ∧ ∀ f ∈ c.2,f.length ≤ 200
theorem case_forth (l:List Nat) (p:Nat) (c:Cs) (rest:List Nat) (hp:p ≤ l.length) (hc:CsS c) (h:l.drop p = caseB c ++ rest):caseR l p 0 = (c,p + (caseB c).length,0):=by
 unfold caseB at h
 rw [List.append_assoc] at h
 have h1:=txt_forth l 24 p c.1 _ hp hc.1 (by decide) h
 have h2:=drop_len hp h
 have h3:=list_forth txtB (fun f=>f.length ≤ 200) (fun p x rest hp hx h=>txt_forth l 200 p x rest hp hx (by decide) h) c.2 (p + (txtB c.1).length) rest (by omega) (by have:=hc.2.1; omega) hc.2.2 (by rw [drop_more h,fieldsB_flat])
 unfold caseR
 rw [h1]
 simp only
 rw [h3]
 simp [caseB,fieldsB_flat]
 omega
structure ItS (x:It):Prop where
 kind:1 ≤ x.kind ∧ x.kind ≤ 3
 name:x.name.length ≤ 24
 cases1:x.kind = 1 → x.ty = [] ∧ x.cases.length ≤ 6 ∧ ∀ c ∈ x.cases,CsS c
 ty1:x.kind ≠ 1 → x.cases = [] ∧ x.ty.length ≤ 200
theorem item_forth (l:List Nat) (p:Nat) (x:It) (rest:List Nat) (hp:p ≤ l.length) (hx:ItS x) (h:l.drop p = itemB x ++ rest):itemR l p 0 = (x,p + (itemB x).length,0):=by
 have hk:=hx.kind
 obtain ⟨k,nm,ty,cs⟩:=x
 obtain ⟨kn,rfl⟩:∃ kn:Nat,k = (kn:Int):=⟨k.toNat,by simp only at hk; omega⟩
 simp only at hk
 unfold itemB at h
 simp only [Int.toNat_natCast,List.append_assoc] at h
 have h1:=num_forth l 65535 p kn _ (by omega) (by decide) h
 have h2:=drop_len hp h
 have h3:=drop_more h
 have h4:=txt_forth l 24 (p + (enc kn).length) nm _ (by omega) hx.name (by decide) h3
 have h5:=drop_len (by omega) h3
 have h6:=drop_more h3
 unfold itemR itemN
 rw [h1]
 simp only
 rw [h4]
 simp only
 unfold itemT
 by_cases h7:kn = 1
 ·subst h7
  obtain ⟨h8,h9,h10⟩:=hx.cases1 rfl
  simp only at h8 h9 h10
  subst h8
  rw [if_pos (by rfl)] at h6
  have h11:=list_forth caseB CsS (fun p x rest hp hx h=>case_forth l p x rest hp hx h) cs (p + (enc 1).length + (txtB nm).length) rest (by omega) (by omega) h10 (by rw [h6,casesB_flat])
  rw [if_pos rfl,h11]
  simp [itemB,casesB_flat]
  omega
 ·have hk1:¬ ((kn:Int) = 1):=by omega
  obtain ⟨h8,h9⟩:=hx.ty1 hk1
  simp only at h8 h9
  subst h8
  rw [if_neg hk1] at h6
  have h11:=txt_forth l 200 (p + (enc kn).length + (txtB nm).length) ty rest (by omega) h9 (by decide) h6
  rw [if_neg h7,h11]
  simp [itemB,hk1]
  omega
theorem case_short {ah:List Cs} {c:Cs} (h:caseE ah c = 0):CsS c:=by
 unfold caseE at h
 split at h
 ·cases h
 ·split at h
  ·cases h
  ·split at h
   ·cases h
   ·split at h
    ·rename_i h1 _ h3 h4
     exact ⟨big_len (by simpa using h1),by omega,fun f hf=>right_len (List.all_eq_true.1 h4 f hf)⟩
    ·cases h
theorem cases_short:∀ (cs ah:List Cs),casesE ah cs = 0 → ∀ c ∈ cs,CsS c
 | [],_,_=>by simp
 | c :: r,ah,h=>by
  rw [casesE] at h
  split at h
  ·rename_i h0
   intro d hd
   rcases List.mem_cons.1 hd with rfl | hd
   ·exact case_short h0
   ·exact cases_short r _ h d hd
  ·rename_i h0
   exact absurd h h0
theorem item_short {q:Option (List UInt8)} {x:It} (h:itemE q x = 0):ItS x:=by
 obtain ⟨h1,h2⟩:=item_kind h
 have h3:=kind_three h1
 have h5:x.name.length ≤ 24:=by
  unfold namedE at h2
  split at h2
  ·exact big_len h2
  ·exact value_len h2
 unfold itemE at h
 split at h
 ·cases h
 ·split at h
  ·cases h
  ·split at h
   ·cases h
   ·split at h
    ·rename_i hk
     unfold valueE at h
     split at h
     ·cases h
     ·rename_i hc
      split at h
      ·cases h
      ·rename_i hr
       exact ⟨h3,h5,fun e=>absurd e hk,fun _=>⟨List.eq_nil_of_length_eq_zero (by omega),right_len (by simpa using hr)⟩⟩
    ·rename_i hk
     have hk1:x.kind = 1:=Classical.not_not.1 hk
     unfold typeE at h
     split at h
     ·cases h
     ·rename_i hty
      split at h
      ·cases h
      ·split at h
       ·cases h
       ·exact ⟨h3,h5,fun _=>⟨Classical.not_not.1 hty,by omega,cases_short x.cases [] h⟩,fun e=>absurd hk1 e⟩
end Go.Proofs.YtiiepfplommmfaaGreatDoor

namespace Go.Proofs.YtiiepfplommmfaaGreatDoor
open Wire (rNum rTake rEnd enc)

def refF {α:Type} (rd:Nat → Nat → α × Nat × Nat):Nat → Nat → Nat → List α → List α × Nat × Nat
 | 0,p,y,acc=>(acc,p,y)
 | n + 1,p,y,acc=>if y ≠ 0 then (acc,p,y) else refF rd n (rd p y).2.1 (rd p y).2.2 (acc ++ [(rd p y).1])
def refL {α:Type} (l:List Nat) (rd:Nat → Nat → α × Nat × Nat) (p y:Nat):List α × Nat × Nat:=refF rd (rNum l p y 65535).1 (rNum l p y 65535).2.1 (rNum l p y 65535).2.2 []
def caseQ (l:List Nat) (p y:Nat):Cs × Nat × Nat :=
 (((txtR l 24 p y).1,(refL l (txtR l 200) (txtR l 24 p y).2.1 (txtR l 24 p y).2.2).1),(refL l (txtR l 200) (txtR l 24 p y).2.1 (txtR l 24 p y).2.2).2)
def itemQT (l:List Nat) (k:Nat) (nm:List UInt8) (p y:Nat):It × Nat × Nat :=
 if k = 1 then (⟨(k:Int),nm,[],(refL l (caseQ l) p y).1⟩,(refL l (caseQ l) p y).2) else (⟨(k:Int),nm,(txtR l 200 p y).1,[]⟩,(txtR l 200 p y).2)
def itemQN (l:List Nat) (k p y:Nat):It × Nat × Nat:=itemQT l k (txtR l 24 p y).1 (txtR l 24 p y).2.1 (txtR l 24 p y).2.2
def itemQ (l:List Nat) (p y:Nat):It × Nat × Nat:=itemQN l (rNum l p y 65535).1 (rNum l p y 65535).2.1 (rNum l p y 65535).2.2
theorem refF_stop {α:Type} (rd:Nat → Nat → α × Nat × Nat) (n p y:Nat) (acc:List α) (h:n = 0 ∨ y ≠ 0):refF rd n p y acc = (acc,p,y):=by
 cases n with
 | zero=>rfl
 | succ n=>rw [refF,if_pos (h.resolve_left (by omega))]
theorem refF_go {α:Type} (rd:Nat → Nat → α × Nat × Nat) (n p:Nat) (acc:List α) (h:0 < n):refF rd n p 0 acc = refF rd (n - 1) (rd p 0).2.1 (rd p 0).2.2 (acc ++ [(rd p 0).1]):=by
 cases n with
 | zero=>omega
 | succ n=>rw [refF,if_neg (by simp)]; rfl
theorem listF_stuck {α:Type} {rd:Nat → Nat → α × Nat × Nat} (hst:∀ p y,y ≠ 0 → (rd p y).2 = (p,y)):∀ (n p y:Nat) (acc:List α),y ≠ 0 → (listF rd n p y acc).2 = (p,y)
 | 0,p,y,acc,h=>rfl
 | n + 1,p,y,acc,h=>by
  rw [listF,hst p y h]
  split
  ·rfl
  ·exact listF_stuck hst n p y _ h
theorem ref_list {α : Type} {rd rd' : Nat → Nat → α × Nat × Nat} (h2 : ∀ p y, (rd' p y).2 = (rd p y).2) (h1 : ∀ p y, (rd p y).2.2 = 0 → rd' p y = rd p y) (hst : ∀ p y, y ≠ 0 → (rd p y).2 = (p, y)) :
  ∀ (n p y:Nat) (acc:List α),(refF rd' n p y acc).2 = (listF rd n p y acc).2 ∧ ((listF rd n p y acc).2.2 = 0 → refF rd' n p y acc = listF rd n p y acc)
 | 0,p,y,acc=>⟨rfl,fun _=>rfl⟩
 | n + 1,p,y,acc=>by
  by_cases hy:y = 0
  ·subst hy
   rw [refF,if_neg (by simp)]
   by_cases hr:(rd p 0).2.2 = 0
   ·rw [h1 p 0 hr,listF,if_neg (by rw [hr]; decide)]
    exact ref_list h2 h1 hst n _ _ _
   ·rw [h2 p 0,refF_stop _ _ _ _ _ (.inr hr)]
    have hL:(listF rd (n + 1) p 0 acc).2 = (rd p 0).2:=by
     rw [listF]
     split
     ·rfl
     ·exact listF_stuck hst n _ _ _ hr
    rw [hL]
    exact ⟨rfl,fun e=>absurd e hr⟩
  ·rw [refF_stop _ _ _ _ _ (.inr hy),listF_stuck hst (n + 1) p y acc hy]
   exact ⟨rfl,fun e=>absurd e hy⟩
theorem txt_stuck (l:List Nat) (most p y:Nat) (h:y ≠ 0):(txtR l most p y).2 = (p,y):=by
 unfold txtR
 rw [num_stick l most p y h,take_stick l p y _ h]
theorem list_stuck {α:Type} (l:List Nat) (rd:Nat → Nat → α × Nat × Nat) (p y:Nat) (h:y ≠ 0):(listR l rd p y).2 = (p,y):=by
 unfold listR
 rw [num_stick l 65535 p y h]
 rfl
theorem case_stuck (l:List Nat) (p y:Nat) (h:y ≠ 0):(caseR l p y).2 = (p,y):=by
 show (listR l (txtR l 200) (txtR l 24 p y).2.1 (txtR l 24 p y).2.2).2 = (p,y)
 rw [txt_stuck l 24 p y h,list_stuck _ _ _ _ h]
theorem item_stuck (l:List Nat) (p y:Nat) (h:y ≠ 0):(itemR l p y).2 = (p,y):=by
 unfold itemR
 rw [num_stick l 65535 p y h]
 show (itemT l 0 (txtR l 24 p y).1 (txtR l 24 p y).2.1 (txtR l 24 p y).2.2).2 = (p,y)
 rw [txt_stuck l 24 p y h]
 exact txt_stuck l 200 p y h
theorem refL_list {α : Type} (l : List Nat) {rd rd' : Nat → Nat → α × Nat × Nat} (h2 : ∀ p y, (rd' p y).2 = (rd p y).2) (h1 : ∀ p y, (rd p y).2.2 = 0 → rd' p y = rd p y) (hst : ∀ p y, y ≠ 0 → (rd p y).2 = (p, y)) (p y : Nat) :
  (refL l rd' p y).2 = (listR l rd p y).2 ∧ ((listR l rd p y).2.2 = 0 → refL l rd' p y = listR l rd p y):=ref_list h2 h1 hst _ _ _ _
theorem case_ref (l:List Nat) (p y:Nat):(caseQ l p y).2 = (caseR l p y).2 ∧ ((caseR l p y).2.2 = 0 → caseQ l p y = caseR l p y):=by
 have h:=refL_list l (rd:=txtR l 200) (rd':=txtR l 200) (fun _ _=>rfl) (fun _ _ _=>rfl) (txt_stuck l 200) (txtR l 24 p y).2.1 (txtR l 24 p y).2.2
 refine ⟨h.1,fun e=>?_⟩
 unfold caseQ caseR
 rw [h.2 e]
theorem itemT_ref (l:List Nat) (k:Nat) (nm:List UInt8) (p y:Nat):(itemQT l k nm p y).2 = (itemT l k nm p y).2 ∧ ((itemT l k nm p y).2.2 = 0 → itemQT l k nm p y = itemT l k nm p y):=by
 have h:=refL_list l (rd:=caseR l) (rd':=caseQ l) (fun p y=>(case_ref l p y).1) (fun p y=>(case_ref l p y).2) (case_stuck l) p y
 unfold itemQT itemT
 split
 ·exact ⟨h.1,fun e=>by rw [h.2 e]⟩
 ·exact ⟨rfl,fun _=>rfl⟩
theorem item_ref (l:List Nat) (p y:Nat):(itemQ l p y).2 = (itemR l p y).2 ∧ ((itemR l p y).2.2 = 0 → itemQ l p y = itemR l p y):=itemT_ref l _ _ _ _
theorem refF_le {α:Type} {l:List Nat} {rd:Nat → Nat → α × Nat × Nat} (hrd:∀ p y,p ≤ l.length → (rd p y).2.1 ≤ l.length):∀ (n p y:Nat) (acc:List α),p ≤ l.length → (refF rd n p y acc).2.1 ≤ l.length
 | 0,p,y,acc,h=>h
 | n + 1,p,y,acc,h=>by
  rw [refF]
  split
  ·exact h
  ·exact refF_le hrd n _ _ _ (hrd p y h)
theorem refL_le {α:Type} {l:List Nat} {rd:Nat → Nat → α × Nat × Nat} (hrd:∀ p y,p ≤ l.length → (rd p y).2.1 ≤ l.length) (p y:Nat) (h:p ≤ l.length):(refL l rd p y).2.1 ≤ l.length:=refF_le hrd _ _ _ _ (Wire.rNum_le l p y 65535 h)
end Go.Proofs.YtiiepfplommmfaaGreatDoor



namespace Go.Proofs.YtiiepfplommmfaaGreatDoor
open Go.RowKit Go.Sort

theorem sCloneT (x:List UInt8) (w:World) (h:Tk x):Calls Tryz.prog 46 #[.string (str x)] w fun e w'=>e = .returned (.string (str x)) ∧ Below w.heap.size w w':=by
 unfold Tk at h
 go_enter Tryz.func46,Tryz.ntmps46
 go_wp2_with fail
 refine (Tryz.stringslite_Clone (str x) _ (by rw [str_size]; omega)).mono ?_
 rintro e w1 ⟨rfl,hb⟩
 go_wp2
 go_ret
 exact ⟨rfl,hb⟩
end Go.Proofs.YtiiepfplommmfaaGreatDoor

namespace Go.Proofs.YtiiepfplommmfaaGreatDoor
open Go.RowKit Go.Shelf
attribute [local go_sem] Oper.semAt_some

end Go.Proofs.YtiiepfplommmfaaGreatDoor

namespace Go.Proofs.YtiiepfplommmfaaGreatDoor
open Go.RowKit

end Go.Proofs.YtiiepfplommmfaaGreatDoor

namespace Go.Proofs.YtiiepfplommmfaaGreatDoor
open Go.RowKit Go.Maps

theorem append_textN {w : World} {ops : Array Oper} {rest : List Oper} {o : Oper} {a : Act} {Q : Exit → Act → World → Prop} (hgd : o.guard = none) (s x : Operand)
  (ho:o.op = .call { callee := .builtin .append,args:=#[s,x],argTypes:=#[23,23] })
  (B:Nat) (v:Value) (acc:List (List UInt8)) (hs:a.eval s = v) (hown:w.ownsRow B 9 1 v acc.length (sc acc))
  (ad:Addr) (c:Nat) (n:List UInt8) (hx:a.eval x = .slice (some ad) 1 c) (hnews:∀ j u,(sc [n])[j]? = some u → w.cell? (ad.add j) = some u)
  (hlen:acc.length + 1 ≤ 8796093022208) (hB:B ≤ w.heap.size)
  (h:∀ ad' c' w',w'.ownsRow B 9 1 (.slice (some ad') (acc.length + 1) c') (acc ++ [n]).length (sc (acc ++ [n])) → w.grownBy w' v.ownBlock → wpList Tryz.prog ops Q rest (a.put o.dst (.slice (some ad') (acc.length + 1) c')) w') :
  wpList Tryz.prog ops Q (o :: rest) a w:=by
 obtain ⟨i,z,hi,hz,h1,h2,h3⟩:=info_z infoS
 refine wpList_append_own w hgd s x 23 ho B 9 i z 1 16 Tryz.underlying23 hi hz h1 h2 h3 (by decide) v acc.length (sc acc) hs hown ad 1 c (sc [n]) hx rfl hnews (fun u hu=>?_) (by unfold maxLen; omega) (by omega) hB ?_
 ·obtain ⟨_,_,rfl⟩:=List.mem_map.1 hu
  rfl
 intro v' w' k1 k2 k3
 rcases k1.2 with ⟨rfl,hz⟩ | ⟨g,cap,cur,rfl,_⟩
 ·omega
 ·rw [← sc_append] at k1
  exact h ⟨g,0,none⟩ cap w' (by simpa using k1) k2
end Go.Proofs.YtiiepfplommmfaaGreatDoor
