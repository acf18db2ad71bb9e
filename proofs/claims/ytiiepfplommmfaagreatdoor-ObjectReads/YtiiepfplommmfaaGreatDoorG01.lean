/-
  What the chapter on signs of a text says, as functions over lists of bytes: the reading of a Quoted, the parting of a text, the quoting, the names. No program in it.
  And: What follows from the chapter's functions: where tokens stand; what a remark behind and blanks ahead change; what is quoted is read as itself. No program in it. What is quoted is read as itself; a remark behind, and blanks ahead, change no token but its place. No program in it. What the chapter on brackets says, as functions over tokens: trees, their print, the stack that reads them. No program in it. What the chapter on types says, as functions over lists of bytes: the words, the type with which a text begins, what stands behind it; the named types in it. No program in it. What follows of the chapter on types: a type is read alike whatever comes behind it; its parts; what is made of types is one. No program in it. Texts in order, each once: what sorting and compacting come to, and what putting one text among others does. No program in it. Chapter 7 as functions. No program in it. The package's small functions: tests of bytes, escapes. A scope in which the run jumps to several labels; tokens and bytes in memory. A scope with several labels, where the run may also come to a label from the rows ahead of it. Appends of bytes and of tokens to a row of the call's own; a row of bytes as a string. The package's readQuoted: its walk, from label to label. The package's Split: its walk, from label to label. Nothing of its own.
-/
import Derived.Lib.IndexBytes
import Derived.Lib.Join
import Derived.Lib.SlicesCompact
import Derived.WalkKit
import Derived.WalkSpells
import Derived.WalkLawsBesides
import Derived.WalkMore
import Derived.BigQuiet
import Derived.Test.YtiiepfplommmfaaGreatDoorChecked
import Derived.Test.YtiiepfplommmfaaGreatDoorShelf
import Derived.ScopeJumps
import Derived.Laws.AppendOwn
import Derived.OwnWalk
import Derived.Laws.OwnMore
import Derived.Laws.BytesString
import Derived.WalkSmall
namespace Go.Proofs.YtiiepfplommmfaaGreatDoor

def isPlain (c:UInt8):Bool:=decide (32 ≤ c.toNat) && decide (c.toNat ≤ 126)
def isParts (c:UInt8):Bool:=decide (c.toNat = 9) || decide (c.toNat = 10) || decide (c.toNat = 13) || decide (c.toNat = 32)
def isAtom (c:UInt8):Bool:=isPlain c && !decide (c.toNat = 32) && !decide (c.toNat = 59) && !decide (c.toNat = 40) && !decide (c.toNat = 41) && !decide (c.toNat = 34)
def notNl (c:UInt8):Bool := !decide (c.toNat = 10)
def hexOf (c:UInt8):Option Nat :=
 if 48 ≤ c.toNat ∧ c.toNat ≤ 57 then some (c.toNat - 48) else if 97 ≤ c.toNat ∧ c.toNat ≤ 102 then some (c.toNat - 87) else none
def esc:List UInt8 → Option (UInt8 × Nat)
 | []=>none
 | c :: r =>
  if c.toNat = 34 ∨ c.toNat = 92 then some (c,2)
  else if c.toNat = 110 then some (10,2)
  else if c.toNat = 120 then
   match r with
   | a :: b :: _ =>
    match hexOf a,hexOf b with
    | some x,some y=>some (UInt8.ofNat (16 * x + y),4)
    | _,_=>none
   | _=>none
  else none
abbrev QR:Type:=Except (Nat × Nat) (List UInt8 × Nat)
def qF:Nat → List UInt8 → Nat → Nat → List UInt8 → QR
 | 0,_,_,fr,_ => .error (10,fr)
 | _ + 1,[],_,fr,_ => .error (10,fr)
 | f + 1,c :: r,p,fr,acc =>
  if c.toNat = 34 then (if 200 < acc.length then .error (3,fr) else .ok (acc,p + 1))
  else if c.toNat = 92 then
   match esc r with
   | none => .error (12,p)
   | some (b,k)=>qF f (r.drop (k - 1)) (p + k) fr (acc ++ [b])
  else if isPlain c then qF f r (p + 1) fr (acc ++ [c])
  else .error (12,p)
def q (l:List UInt8) (p fr:Nat) (acc:List UInt8):QR:=qF l.length l p fr acc
structure Tok where
 kind:Nat
 place:Nat
 text:List UInt8
abbrev SR:Type:=Except (Nat × Nat) (List Tok)
def sF:Nat → List UInt8 → Nat → List Tok → SR
 | 0,_,_,acc => .ok acc
 | _ + 1,[],_,acc => .ok acc
 | f + 1,c :: r,p,acc =>
  if isAtom c then sF f (r.drop (r.takeWhile isAtom).length) (p + 1 + (r.takeWhile isAtom).length) (acc ++ [⟨3,p,c :: r.takeWhile isAtom⟩])
  else if c.toNat = 34 then
   match q r (p + 1) p [] with
   | .error (w,b) => .error (w,b)
   | .ok (t,nx)=>sF f (r.drop (nx - (p + 1))) nx (acc ++ [⟨4,p,t⟩])
  else if c.toNat = 59 then sF f (r.drop (r.takeWhile notNl).length) (p + 1 + (r.takeWhile notNl).length) acc
  else if c.toNat = 40 then sF f r (p + 1) (acc ++ [⟨1,p,[]⟩])
  else if c.toNat = 41 then sF f r (p + 1) (acc ++ [⟨2,p,[]⟩])
  else if isParts c then sF f r (p + 1) acc
  else .error (12,p)
def sp (l:List UInt8) (p:Nat) (acc:List Tok):SR:=sF l.length l p acc
theorem take_tw {α:Type} (f:α → Bool):∀ (l:List α),l.take (l.takeWhile f).length = l.takeWhile f
 | []=>rfl
 | x :: r=>by
  by_cases h:f x = true
  ·rw [List.takeWhile_cons_of_pos h,List.length_cons,List.take_succ_cons,take_tw f r]
  ·rw [List.takeWhile_cons_of_neg h]; rfl
theorem drop_cons {L:List UInt8} {p:Nat} {c:UInt8} {r:List UInt8} (h:L.drop p = c :: r):L.drop (p + 1) = r:=by
 rw [← List.drop_drop,h]; rfl
def str (l:List UInt8):ByteArray:=⟨l.toArray⟩
theorem str_toList (s:ByteArray):str s.data.toList = s:=by
 obtain ⟨⟨l⟩⟩:=s
 rfl
theorem str_data (l:List UInt8):(str l).data.toList = l:=rfl
theorem str_size (l:List UInt8):(str l).size = l.length:=rfl
theorem str_append (a b:List UInt8):str a ++ str b = str (a ++ b):=by
 apply ByteArray.ext
 simp [str]
theorem extract_str (s:ByteArray) (a b:Nat):s.extract a b = str ((s.data.toList.drop a).take (b - a)):=by
 rw [← str_toList (s.extract a b),Lib.extract_data]
theorem size_len (s:ByteArray):s.data.toList.length = s.size:=by rw [Array.length_toList]; rfl
theorem drop_at (s:ByteArray) (k:Nat) (hk:k < s.size):s.data.toList.drop k = s[k] :: s.data.toList.drop (k + 1):=by
 have hk':k < s.data.toList.length:=by rw [size_len]; exact hk
 rw [List.drop_eq_getElem_cons hk']
 rfl
theorem drop_end (s:ByteArray) (k:Nat) (hk:s.size ≤ k):s.data.toList.drop k = []:=List.drop_eq_nil_of_le (by rw [size_len]; exact hk)
def hexSet:List UInt8:=[48,49,50,51,52,53,54,55,56,57,97,98,99,100,101,102]
def qByte (c:UInt8):List UInt8 :=
 if c.toNat = 34 ∨ c.toNat = 92 then [92,c]
 else if c.toNat = 10 then [92,110]
 else if isPlain c then [c]
 else [92,120,(hexSet.getD (c.toNat / 16) 0),(hexSet.getD (c.toNat % 16) 0)]
def quoteR (l:List UInt8):List UInt8:=34 :: (l.flatMap qByte ++ [34])
def isSmall (c:UInt8):Bool:=decide (97 ≤ c.toNat) && decide (c.toNat ≤ 122)
def isLarge (c:UInt8):Bool:=decide (65 ≤ c.toNat) && decide (c.toNat ≤ 90)
def isDigit (c:UInt8):Bool:=decide (48 ≤ c.toNat) && decide (c.toNat ≤ 57)
def isLetter (c:UInt8):Bool:=isSmall c || isLarge c || isDigit c || decide (c.toNat = 95)
def nameR (l:List UInt8):Bool := !l.isEmpty && decide (l.length ≤ 24) && !(l.head?.any isDigit) && l.all isLetter
def bigR (l:List UInt8):Bool:=nameR l && l.head?.any isLarge
def valueR (l:List UInt8):Bool:=nameR l && !l.head?.any isLarge
end Go.Proofs.YtiiepfplommmfaaGreatDoor

namespace Go.Proofs.YtiiepfplommmfaaGreatDoor

end Go.Proofs.YtiiepfplommmfaaGreatDoor

namespace Go.Proofs.YtiiepfplommmfaaGreatDoor

end Go.Proofs.YtiiepfplommmfaaGreatDoor

namespace Go.Proofs.YtiiepfplommmfaaGreatDoor

structure Tr where
 kind:Nat
 place:Nat
 text:List UInt8
 kids:List Tr
 shut:Tok
def seps:Bool → List (List UInt8) → List UInt8
 | _,[]=>[]
 | b,x :: r=>(if b then [32] else []) ++ x ++ seps true r
def pr:Tr → List UInt8
 | ⟨k,_,x,l,_⟩=>if k = 3 then x else if k = 4 then quoteR x else if k = 1 then 40 :: (seps false (l.map pr) ++ [41]) else []
/-! The reading, by a stack: the top first. -/
def addKid (t k:Tr):Tr:=⟨t.kind,t.place,t.text,t.kids ++ [k],t.shut⟩
def shutBy (t:Tr) (e:Tok):Tr:=⟨t.kind,t.place,t.text,t.kids,e⟩
def leaf (t:Tok):Tr:=⟨t.kind,t.place,t.text,[],t⟩
def refu (ts:List Tr) (t:Tok):Nat :=
 if t.kind = 1 ∧ ts.length = 41 then 14 else if t.kind = 2 ∧ ts.length = 1 then 12 else if ts.length = 1 ∧ (ts.getLast?.map (fun x=>x.kids.length)).getD 0 ≠ 0 then 11 else 0
def put:List Tr → Tok → List Tr
 | [],_=>[]
 | x :: r,t=>if t.kind = 1 then leaf t :: x :: r else if t.kind = 2 then (match r with | []=>[] | y :: r'=>addKid y (shutBy x t) :: r') else addKid x (leaf t) :: r
def run (n:Nat):List Tr → List Tok → Except (Nat × Nat) Tr
 | ts,[]=>if 1 < ts.length then .error (10,n) else match ts with | [] => .error (0,0) | b :: _=>match b.kids with | [] => .error (0,0) | k :: _ => .ok k
 | ts,t :: r=>if refu ts t = 0 then run n (put ts t) r else .error (refu ts t,t.place)
end Go.Proofs.YtiiepfplommmfaaGreatDoor

namespace Go.Proofs.YtiiepfplommmfaaGreatDoor

def isSign (c:UInt8):Bool:=decide (c.toNat = 91) || decide (c.toNat = 93) || decide (c.toNat = 40) || decide (c.toNat = 41) || decide (c.toNat = 44)
def notSign (c:UInt8):Bool := !isSign c
def wordR (l:List UInt8):List UInt8:=l.takeWhile notSign
def notDot (c:UInt8):Bool := !decide (c.toNat = 46)
def aheadR (l:List UInt8):List UInt8:=l.takeWhile notDot
def behindR (l:List UInt8):List UInt8:=l.drop ((aheadR l).length + 1)
def namedR (l:List UInt8):Bool:=valueR (aheadR l) && bigR (behindR l)
def numL:List UInt8:=[110,117,109]
def bytesL:List UInt8:=[98,121,116,101,115]
def wordOk (l:List UInt8):Bool:=namedR l || decide (l = numL) || decide (l = bytesL)
def isHead (n:Nat) (l:List UInt8):Bool:=l.head?.any (fun d=>decide (d.toNat = n))
theorem isHead_cons (n:Nat) (d:UInt8) (y:List UInt8):isHead n (d :: y) = decide (d.toNat = n):=rfl
theorem isHead_pos {n:Nat} {l:List UInt8} (h:isHead n l = true):∃ d y,l = d :: y ∧ d.toNat = n:=by
 cases l with
 | nil=>cases h
 | cons d y=>exact ⟨d,y,rfl,by rw [isHead_cons] at h; exact of_decide_eq_true h⟩
def gF:Nat → Nat → List UInt8 → Option (List UInt8)
 | 0,_,_=>none
 | _ + 1,0,[]=>none
 | f + 1,0,c :: r =>
  if c.toNat = 91 then (gF f 0 r).bind (fun x=>match x with | []=>none | d :: y=>if d.toNat = 93 then some y else none)
  else if c.toNat = 40 then
   if isHead 41 r then gF f 0 r.tail else (gF f 0 r).bind (fun x=>(gF f 1 x).bind (gF f 0))
  else if wordOk (wordR (c :: r)) then some ((c :: r).drop (wordR (c :: r)).length) else none
 | _ + 1,_ + 1,[]=>none
 | f + 1,k + 1,c :: r=>if c.toNat = 41 then some r else if c.toNat = 44 ∧ k + 1 < 6 then (gF f 0 r).bind (gF f (k + 2)) else none
theorem wordOk_nil:wordOk [] = false:=by decide
theorem wordOk_pos {l:List UInt8} (h:wordOk l = true):0 < l.length:=by
 cases l with
 | nil=>rw [wordOk_nil] at h; cases h
 | cons=>simp
theorem gF_len:∀ (f k:Nat) (l r:List UInt8),gF f k l = some r → r.length < l.length
 | 0,_,_,_,h=>by simp [gF] at h
 | f + 1,0,[],_,h=>by simp [gF] at h
 | f + 1,0,c :: l,r,h=>by
  rw [gF] at h
  split at h
  ·obtain ⟨x,h1,h2⟩:=Option.bind_eq_some_iff.1 h
   have:=gF_len f 0 l x h1
   split at h2
   ·cases h2
   ·rename_i d y
    split at h2
    ·cases h2; simp at this ⊢; omega
    ·cases h2
  ·split at h
   ·split at h
    ·rename_i hh
     obtain ⟨d,y,rfl,_⟩:=isHead_pos hh
     have:=gF_len f 0 y r h
     simp at this ⊢; omega
    ·obtain ⟨x,h1,h2⟩:=Option.bind_eq_some_iff.1 h
     obtain ⟨z,h3,h4⟩:=Option.bind_eq_some_iff.1 h2
     have a1:=gF_len f 0 _ x h1
     have a2:=gF_len f 1 x z h3
     have a3:=gF_len f 0 z r h4
     simp; omega
   ·split at h
    ·rename_i hw
     have:=wordOk_pos hw
     cases h
     simp at this ⊢
     omega
    ·cases h
 | f + 1,k + 1,[],_,h=>by simp [gF] at h
 | f + 1,k + 1,c :: l,r,h=>by
  rw [gF] at h
  split at h
  ·cases h; simp
  ·split at h
   ·obtain ⟨x,h1,h2⟩:=Option.bind_eq_some_iff.1 h
    have a1:=gF_len f 0 l x h1
    have a2:=gF_len f (k + 2) x r h2
    simp; omega
   ·cases h
theorem bind_same {α β:Type} {a:Option α} {f g:α → Option β} (h:∀ x,a = some x → f x = g x):a.bind f = a.bind g:=by
 cases a with
 | none=>rfl
 | some x=>exact h x rfl
theorem gF_fuel:∀ (f g k:Nat) (l:List UInt8),l.length < f → l.length < g → gF f k l = gF g k l
 | 0,_,_,_,h,_=>by omega
 | _ + 1,0,_,_,_,h=>by omega
 | f + 1,g + 1,0,[],_,_=>by simp [gF]
 | f + 1,g + 1,k + 1,[],_,_=>by simp [gF]
 | f + 1,g + 1,0,c :: l,hf,hg=>by
  simp only [List.length_cons] at hf hg
  have e:gF f 0 l = gF g 0 l:=gF_fuel f g 0 l (by omega) (by omega)
  rw [gF,gF,e]
  split
  ·rfl
  ·split
   ·split
    ·exact gF_fuel f g 0 _ (by simp; omega) (by simp; omega)
    ·refine bind_same (fun x hx=>?_)
     have a1:=gF_len g 0 _ x hx
     rw [gF_fuel f g 1 x (by omega) (by omega)]
     refine bind_same (fun z hz=>?_)
     have a2:=gF_len g 1 x z hz
     exact gF_fuel f g 0 z (by omega) (by omega)
   ·rfl
 | f + 1,g + 1,k + 1,c :: l,hf,hg=>by
  simp only [List.length_cons] at hf hg
  rw [gF,gF]
  split
  ·rfl
  ·split
   ·rw [gF_fuel f g 0 l (by omega) (by omega)]
    refine bind_same (fun x hx=>?_)
    have a1:=gF_len g 0 _ x hx
    exact gF_fuel f g (k + 2) x (by omega) (by omega)
   ·rfl
def one (l:List UInt8):Option (List UInt8):=gF (l.length + 1) 0 l
def tl (k:Nat) (l:List UInt8):Option (List UInt8):=gF (l.length + 1) (k + 1) l
theorem one_len {l r:List UInt8} (h:one l = some r):r.length < l.length:=gF_len _ _ _ _ h
theorem one_nil:one [] = none:=by simp [one,gF]
theorem one_arr {c:UInt8} (r:List UInt8) (h:c.toNat = 91):one (c :: r) = (one r).bind (fun x=>match x with | []=>none | d :: y=>if d.toNat = 93 then some y else none):=by
 simp only [one,List.length_cons]
 rw [gF,if_pos h]
theorem one_fn0 {c d:UInt8} (r:List UInt8) (h:c.toNat = 40) (hd:d.toNat = 41):one (c :: d :: r) = one r:=by
 simp only [one,List.length_cons]
 rw [gF,if_neg (by omega),if_pos h,if_pos (by rw [isHead_cons]; exact decide_eq_true hd)]
 exact gF_fuel _ _ _ _ (by simp) (by simp)
theorem one_fn {c:UInt8} (r:List UInt8) (h:c.toNat = 40) (hd:∀ d y,r = d :: y → d.toNat ≠ 41):one (c :: r) = (one r).bind (fun x=>(tl 0 x).bind one):=by
 simp only [one,List.length_cons]
 rw [gF,if_neg (by omega),if_pos h,if_neg (by
  intro hh
  obtain ⟨d,y,e,h1⟩:=isHead_pos hh
  exact hd d y e h1)]
 refine bind_same (fun x hx=>?_)
 have a1:=gF_len _ 0 _ x hx
 rw [tl,gF_fuel (r.length + 1) (x.length + 1) 1 x (by omega) (by omega)]
 refine bind_same (fun z hz=>?_)
 have a2:=gF_len _ 1 x z hz
 exact gF_fuel _ _ 0 z (by omega) (by omega)
theorem one_word {c:UInt8} (r:List UInt8) (h:c.toNat ≠ 91) (h2:c.toNat ≠ 40):one (c :: r) = if wordOk (wordR (c :: r)) then some ((c :: r).drop (wordR (c :: r)).length) else none:=by
 simp only [one,List.length_cons]
 rw [gF,if_neg h,if_neg h2]
theorem tl_nil (k:Nat):tl k [] = none:=by simp [tl,gF]
theorem tl_close {c:UInt8} (k:Nat) (r:List UInt8) (h:c.toNat = 41):tl k (c :: r) = some r:=by
 simp only [tl,List.length_cons]
 rw [gF,if_pos h]
theorem tl_comma {c:UInt8} (k:Nat) (r:List UInt8) (h:c.toNat = 44) (hk:k + 1 < 6):tl k (c :: r) = (one r).bind (tl (k + 1)):=by
 simp only [tl,one,List.length_cons]
 rw [gF,if_neg (by omega),if_pos ⟨h,hk⟩]
 refine bind_same (fun x hx=>?_)
 have a1:=gF_len _ 0 _ x hx
 exact gF_fuel _ _ _ x (by omega) (by omega)
theorem tl_bad {c:UInt8} (k:Nat) (r:List UInt8) (h:c.toNat ≠ 41) (h2:¬ (c.toNat = 44 ∧ k + 1 < 6)):tl k (c :: r) = none:=by
 simp only [tl,List.length_cons]
 rw [gF,if_neg h,if_neg h2]
/-! By a stack: of each open bracket its parameters so far, 0 if it is an array's; the top first. -/
def behS:List Nat → List UInt8 → Option (List UInt8)
 | [],l=>some l
 | 0 :: st,l=>(match l with | []=>none | d :: y=>if d.toNat = 93 then some y else none).bind (behS st)
 | (k + 1) :: st,l=>(tl k l).bind (fun r=>(one r).bind (behS st))
def begS (st:List Nat) (l:List UInt8):Option (List UInt8):=(one l).bind (behS st)
theorem begS_nil (st:List Nat):begS st [] = none:=by rw [begS,one_nil]; rfl
theorem begS_arr {c:UInt8} (st:List Nat) (r:List UInt8) (h:c.toNat = 91):begS st (c :: r) = begS (0 :: st) r:=by
 rw [begS,one_arr r h,Option.bind_assoc]; rfl
theorem begS_fn0 {c d:UInt8} (st:List Nat) (r:List UInt8) (h:c.toNat = 40) (hd:d.toNat = 41):begS st (c :: d :: r) = begS st r:=by
 rw [begS,one_fn0 r h hd]; rfl
theorem begS_fn {c:UInt8} (st:List Nat) (r:List UInt8) (h:c.toNat = 40) (hd:∀ d y,r = d :: y → d.toNat ≠ 41):begS st (c :: r) = begS (1 :: st) r:=by
 rw [begS,one_fn r h hd,Option.bind_assoc,begS]
 refine bind_same (fun x _=>?_)
 rw [Option.bind_assoc]; rfl
theorem begS_word {c:UInt8} (st:List Nat) (r:List UInt8) (h:c.toNat ≠ 91) (h2:c.toNat ≠ 40) (hw:wordOk (wordR (c :: r)) = true):begS st (c :: r) = behS st ((c :: r).drop (wordR (c :: r)).length):=by
 rw [begS,one_word r h h2,if_pos hw]; rfl
theorem begS_bad {c:UInt8} (st:List Nat) (r:List UInt8) (h:c.toNat ≠ 91) (h2:c.toNat ≠ 40) (hw:wordOk (wordR (c :: r)) = false):begS st (c :: r) = none:=by
 rw [begS,one_word r h h2,if_neg (by rw [hw]; decide)]; rfl
theorem behS_end (l:List UInt8):behS [] l = some l:=rfl
theorem behS_nil (k:Nat) (st:List Nat):behS (k :: st) [] = none:=by
 cases k with
 | zero=>rfl
 | succ k=>rw [behS,tl_nil]; rfl
theorem behS_arr {d:UInt8} (st:List Nat) (y:List UInt8) (h:d.toNat = 93):behS (0 :: st) (d :: y) = behS st y:=by
 simp [behS,h]
theorem behS_arr_bad {d:UInt8} (st:List Nat) (y:List UInt8) (h:d.toNat ≠ 93):behS (0 :: st) (d :: y) = none:=by
 simp [behS,h]
theorem behS_close {d:UInt8} (k:Nat) (st:List Nat) (y:List UInt8) (h:d.toNat = 41):behS ((k + 1) :: st) (d :: y) = begS st y:=by
 rw [behS,tl_close k y h]; rfl
theorem behS_comma {d:UInt8} (k:Nat) (st:List Nat) (y:List UInt8) (h:d.toNat = 44) (hk:k + 1 < 6):behS ((k + 1) :: st) (d :: y) = begS ((k + 2) :: st) y:=by
 rw [behS,tl_comma k y h hk,Option.bind_assoc]; rfl
theorem behS_bad {d:UInt8} (k:Nat) (st:List Nat) (y:List UInt8) (h:d.toNat ≠ 41) (h2:¬ (d.toNat = 44 ∧ k + 1 < 6)):behS ((k + 1) :: st) (d :: y) = none:=by
 rw [behS,tl_bad k y h h2]; rfl
def endI (L:List UInt8) (p:Nat):Int :=
 match one (L.drop p) with
 | none => -1
 | some r=>(L.length:Int) - (r.length:Int)
def rightR (l:List UInt8):Bool:=decide (l.length ≤ 200) && decide (one l = some [])
end Go.Proofs.YtiiepfplommmfaaGreatDoor

namespace Go.Proofs.YtiiepfplommmfaaGreatDoor

def okB (l:List UInt8):Prop:=l = [] ∨ ∃ c r,l = c :: r ∧ isSign c = true
theorem gF_suffix:∀ (f k:Nat) (l r:List UInt8),gF f k l = some r → ∃ x,x ≠ [] ∧ l = x ++ r
 | 0,_,_,_,h=>by simp [gF] at h
 | f + 1,0,[],_,h=>by simp [gF] at h
 | f + 1,0,c :: l,r,h=>by
  rw [gF] at h
  split at h
  ·obtain ⟨x,h1,h2⟩:=Option.bind_eq_some_iff.1 h
   obtain ⟨z,_,e⟩:=gF_suffix f 0 l x h1
   split at h2
   ·cases h2
   ·rename_i d y
    split at h2
    ·cases h2
     exact ⟨c :: (z ++ [d]),by simp,by simp [e]⟩
    ·cases h2
  ·split at h
   ·split at h
    ·rename_i hh
     obtain ⟨d,y,rfl,_⟩:=isHead_pos hh
     obtain ⟨z,_,e⟩:=gF_suffix f 0 y r h
     exact ⟨c :: d :: z,by simp,by simp [e]⟩
    ·obtain ⟨x,h1,h2⟩:=Option.bind_eq_some_iff.1 h
     obtain ⟨y,h3,h4⟩:=Option.bind_eq_some_iff.1 h2
     obtain ⟨z1,_,e1⟩:=gF_suffix f 0 _ x h1
     obtain ⟨z2,_,e2⟩:=gF_suffix f 1 x y h3
     obtain ⟨z3,_,e3⟩:=gF_suffix f 0 y r h4
     exact ⟨c :: (z1 ++ z2 ++ z3),by simp,by simp [e1,e2,e3]⟩
   ·split at h
    ·rename_i hw
     have:=wordOk_pos hw
     cases h
     exact ⟨wordR (c :: l),fun e=>by rw [e] at this; simp at this,by
      conv=>lhs; rw [← List.take_append_drop (wordR (c :: l)).length (c :: l)]
      rw [wordR,take_tw]⟩
    ·cases h
 | f + 1,k + 1,[],_,h=>by simp [gF] at h
 | f + 1,k + 1,c :: l,r,h=>by
  rw [gF] at h
  split at h
  ·cases h; exact ⟨[c],by simp,rfl⟩
  ·split at h
   ·obtain ⟨x,h1,h2⟩:=Option.bind_eq_some_iff.1 h
    obtain ⟨z1,_,e1⟩:=gF_suffix f 0 l x h1
    obtain ⟨z2,_,e2⟩:=gF_suffix f (k + 2) x r h2
    exact ⟨c :: (z1 ++ z2),by simp,by simp [e1,e2]⟩
   ·cases h
theorem one_suffix {l r:List UInt8} (h:one l = some r):∃ x,x ≠ [] ∧ l = x ++ r:=gF_suffix _ _ _ _ h
theorem word_stop {x r:List UInt8} (h:∀ c ∈ x,notSign c = true) (hr:okB r):wordR (x ++ r) = x:=by
 rw [wordR,List.takeWhile_append_of_pos h]
 rcases hr with rfl | ⟨c,r,rfl,hc⟩
 ·simp
 ·simp [notSign,hc]
theorem sign_of {c:UInt8} (h:c.toNat = 91 ∨ c.toNat = 93 ∨ c.toNat = 40 ∨ c.toNat = 41 ∨ c.toNat = 44):isSign c = true:=by
 rcases h with h | h | h | h | h <;> simp [isSign,h]
def joinR (ps:List (List UInt8)):List UInt8:=Lib.join ps [44]
def funcR (ps:List (List UInt8)) (r:List UInt8):List UInt8:=40 :: (joinR ps ++ 41 :: r)
theorem joinR_nil:joinR [] = []:=rfl
theorem joinR_one (x:List UInt8):joinR [x] = x:=Lib.join_one x [44]
theorem joinR_two (x y:List UInt8) (r:List (List UInt8)):joinR (x :: y :: r) = x ++ 44 :: joinR (y :: r):=by
 rw [joinR,joinR,Lib.join_cons,Lib.join_cons]
 simp [Lib.joinTail]
def psF:Nat → List UInt8 → List (List UInt8) × List UInt8
 | 0,_=>([],[])
 | f + 1,l =>
  match one l with
  | none=>([],[])
  | some []=>([],[])
  | some (c :: r)=>if c.toNat = 44 then (l.take (l.length - (r.length + 1)) :: (psF f r).1,(psF f r).2) else ([l.take (l.length - (r.length + 1))],r)
theorem psF_fuel:∀ (f g:Nat) (l:List UInt8),l.length < f → l.length < g → psF f l = psF g l
 | 0,_,_,h,_=>by omega
 | _ + 1,0,_,_,h=>by omega
 | f + 1,g + 1,l,hf,hg=>by
  rw [psF,psF]
  split
  ·rfl
  ·rfl
  ·rename_i c r h
   have:=one_len h
   simp only [List.length_cons] at this
   rw [psF_fuel f g r (by omega) (by omega)]
def psQ (l:List UInt8):List (List UInt8) × List UInt8:=psF (l.length + 1) l
theorem psQ_some {l r:List UInt8} {c:UInt8} (h:one l = some (c :: r)):psQ l = if c.toNat = 44 then (l.take (l.length - (r.length + 1)) :: (psQ r).1,(psQ r).2) else ([l.take (l.length - (r.length + 1))],r):=by
 have hl:=one_len h
 simp only [List.length_cons] at hl
 rw [psQ,psF,h]
 simp only
 rw [psF_fuel l.length (r.length + 1) r (by omega) (by omega)]
 rfl
def partsR (l:List UInt8):List (List UInt8) × List UInt8:=if isHead 41 l.tail then ([],l.tail.tail) else psQ l.tail
def Goes (k:Nat) (l:List UInt8):Prop:=(one l).bind (fun x=>(tl k x).bind one) = some []
theorem goes_next {k:Nat} {l:List UInt8} (h:Goes k l):∃ c r,one l = some (c :: r) ∧ ((c.toNat = 41 ∧ one r = some []) ∨ (c.toNat = 44 ∧ k + 1 < 6 ∧ Goes (k + 1) r)):=by
 obtain ⟨x,h1,h2⟩:=Option.bind_eq_some_iff.1 h
 obtain ⟨y,h3,h4⟩:=Option.bind_eq_some_iff.1 h2
 cases x with
 | nil=>rw [tl_nil] at h3; cases h3
 | cons c r =>
  refine ⟨c,r,h1,?_⟩
  by_cases c1:c.toNat = 41
  ·rw [tl_close k r c1] at h3
   simp only [Option.some.injEq] at h3
   subst h3
   exact .inl ⟨c1,h4⟩
  ·by_cases c2:c.toNat = 44 ∧ k + 1 < 6
   ·rw [tl_comma k r c2.1 c2.2] at h3
    refine .inr ⟨c2.1,c2.2,?_⟩
    obtain ⟨z,h5,h6⟩:=Option.bind_eq_some_iff.1 h3
    unfold Goes
    rw [h5]
    simp only [Option.bind_some]
    rw [h6]
    exact h4
   ·rw [tl_bad k r c1 c2] at h3
    cases h3
theorem goes_first {c:UInt8} {l:List UInt8} (hc:c.toNat = 40) (h:one (c :: l) = some []) (hn:isHead 41 l = false):Goes 0 l:=by
 rw [one_fn l hc (by rintro d y rfl hd; rw [isHead_cons,decide_eq_true hd] at hn; cases hn)] at h
 exact h
end Go.Proofs.YtiiepfplommmfaaGreatDoor

namespace Go.Proofs.YtiiepfplommmfaaGreatDoor
open Go.Lib

abbrev Str:Type:=List UInt8
theorem str_le_anti {a b:Str} (h:a ≤ b) (k:b ≤ a):a = b:=List.le_antisymm h k
theorem str_lt_iff {a b:Str}:a < b ↔ a ≤ b ∧ a ≠ b:=by
 constructor
 ·intro h
  exact ⟨List.le_of_lt h,fun e=>by subst e; exact List.lt_irrefl _ h⟩
 ·rintro ⟨h,hn⟩
  exact Classical.byContradiction fun hl=>hn (str_le_anti h (List.not_lt.1 hl))
end Go.Proofs.YtiiepfplommmfaaGreatDoor

namespace Go.Proofs.YtiiepfplommmfaaGreatDoor

abbrev Cs:Type:=List UInt8 × List (List UInt8)
structure It where
 kind:Int
 name:List UInt8
 ty:List UInt8
 cases:List Cs
def caseE (ah:List Cs) (c:Cs):Nat :=
 if bigR c.1 = false then 13 else if ah.any (fun d=>decide (d.1 = c.1)) = true then 13 else if 4 < c.2.length then 19 else if c.2.all rightR = true then 0 else 17
def casesE:List Cs → List Cs → Nat
 | _,[]=>0
 | ah,c :: r=>if caseE ah c = 0 then casesE (ah ++ [c]) r else caseE ah c
def isFnT (t:List UInt8):Bool:=rightR t && isHead 40 t
def valueE (x:It):Nat:=if 0 < x.cases.length then 12 else if rightR x.ty = false then 17 else if x.kind = 3 ∧ isFnT x.ty = false then 17 else 0
def namedE (x:It):Bool:=if x.kind = 1 then bigR x.name else valueR x.name
def kindE (k:Int):Bool:=decide (k = 1) || (decide (k = 2) || decide (k = 3))
def typeE (x:It):Nat:=if x.ty ≠ [] then 12 else if x.cases.length = 0 then 12 else if 6 < x.cases.length then 12 else casesE [] x.cases
def itemE (prev:Option (List UInt8)) (x:It):Nat :=
 if kindE x.kind = false then 12
 else if namedE x = false then 13
 else if prev.any (fun p=>decide (x.name ≤ p)) = true then 13
 else if x.kind ≠ 1 then valueE x
 else typeE x
def itemsE:Option (List UInt8) → List It → Nat
 | _,[]=>0
 | p,x :: r=>if itemE p x = 0 then itemsE (some x.name) r else itemE p x
def rightI (m:List UInt8) (l:List It):Nat:=if valueR m = false then 13 else if 32 < l.length then 4 else itemsE none l
def findI (l:List It) (n:List UInt8):Option It:=l.find? (fun x=>decide (x.name = n))
theorem casesE_at (cs:List Cs) (k:Nat) (h:k < cs.length):casesE (cs.take k) (cs.drop k) = if caseE (cs.take k) cs[k] = 0 then casesE (cs.take (k + 1)) (cs.drop (k + 1)) else caseE (cs.take k) cs[k]:=by
 rw [List.drop_eq_getElem_cons h,casesE,List.take_succ_eq_append_getElem h]
def prevI (l:List It) (k:Nat):Option (List UInt8):=if k = 0 then none else (l[k - 1]?).map (·.name)
theorem itemsE_at (l:List It) (k:Nat) (h:k < l.length):itemsE (prevI l k) (l.drop k) = if itemE (prevI l k) l[k] = 0 then itemsE (prevI l (k + 1)) (l.drop (k + 1)) else itemE (prevI l k) l[k]:=by
 rw [List.drop_eq_getElem_cons h,itemsE]
 have:prevI l (k + 1) = some l[k].name:=by simp [prevI,h]
 rw [this]
end Go.Proofs.YtiiepfplommmfaaGreatDoor

namespace Go.Proofs.YtiiepfplommmfaaGreatDoor
open Go.RowKit

def Pu (v:Value) (w:World) (e:Ending) (w':World):Prop:=e = .returned v ∧ w' = w
set_option maxRecDepth 1000000 in
theorem small (c:UInt8) (w:World):Calls Tryz.prog 129 #[.int .u8 c.toNat] w (Pu (.bool (isSmall c)) w):=by
 by_cases h1:97 ≤ c.toNat
 ·have h1':(97:Int) ≤ (c.toNat:Int):=by omega
  by_cases h2:c.toNat ≤ 122
  ·have h2':(c.toNat:Int) ≤ 122:=by omega
   go_enter Tryz.func129,Tryz.ntmps129
   go_wp2
   go_ret
   exact ⟨by simp [isSmall,h1,h2],rfl⟩
  ·have h2':¬ (c.toNat:Int) ≤ 122:=by omega
   go_enter Tryz.func129,Tryz.ntmps129
   go_wp2
   go_ret
   exact ⟨by simp [isSmall,h1,h2],rfl⟩
 ·have h1':¬ (97:Int) ≤ (c.toNat:Int):=by omega
  go_enter Tryz.func129,Tryz.ntmps129
  go_wp2
  go_ret
  exact ⟨by simp [isSmall,h1],rfl⟩
set_option maxRecDepth 1000000 in
theorem large (c:UInt8) (w:World):Calls Tryz.prog 70 #[.int .u8 c.toNat] w (Pu (.bool (isLarge c)) w):=by
 by_cases h1:65 ≤ c.toNat
 ·have h1':(65:Int) ≤ (c.toNat:Int):=by omega
  by_cases h2:c.toNat ≤ 90
  ·have h2':(c.toNat:Int) ≤ 90:=by omega
   go_enter Tryz.func70,Tryz.ntmps70
   go_wp2
   go_ret
   exact ⟨by simp [isLarge,h1,h2],rfl⟩
  ·have h2':¬ (c.toNat:Int) ≤ 90:=by omega
   go_enter Tryz.func70,Tryz.ntmps70
   go_wp2
   go_ret
   exact ⟨by simp [isLarge,h1,h2],rfl⟩
 ·have h1':¬ (65:Int) ≤ (c.toNat:Int):=by omega
  go_enter Tryz.func70,Tryz.ntmps70
  go_wp2
  go_ret
  exact ⟨by simp [isLarge,h1],rfl⟩
set_option maxRecDepth 1000000 in
theorem digit (c:UInt8) (w:World):Calls Tryz.prog 128 #[.int .u8 c.toNat] w (Pu (.bool (isDigit c)) w):=by
 by_cases h1:48 ≤ c.toNat
 ·have h1':(48:Int) ≤ (c.toNat:Int):=by omega
  by_cases h2:c.toNat ≤ 57
  ·have h2':(c.toNat:Int) ≤ 57:=by omega
   go_enter Tryz.func128,Tryz.ntmps128
   go_wp2
   go_ret
   exact ⟨by simp [isDigit,h1,h2],rfl⟩
  ·have h2':¬ (c.toNat:Int) ≤ 57:=by omega
   go_enter Tryz.func128,Tryz.ntmps128
   go_wp2
   go_ret
   exact ⟨by simp [isDigit,h1,h2],rfl⟩
 ·have h1':¬ (48:Int) ≤ (c.toNat:Int):=by omega
  go_enter Tryz.func128,Tryz.ntmps128
  go_wp2
  go_ret
  exact ⟨by simp [isDigit,h1],rfl⟩
end Go.Proofs.YtiiepfplommmfaaGreatDoor

namespace Go.Proofs.YtiiepfplommmfaaGreatDoor
open Go.RowKit

def jumps (J:Nat → Act → World → Prop) (Q:Exit → Act → World → Prop):Exit → Act → World → Prop
 | .goto l,a,w=>J l a w
 | e,a,w=>Q e a w
theorem wp_scope_labels {P : Program} {a : Act} {w : World} {Q : Exit → Act → World → Prop} {c : Code} (J : Nat → Act → World → Prop) (m : Nat → Act → World → Nat)
  (first:(∀ l rest a w,findLabel c l = some (Code.skip.seq rest) → J l a w → rest.wp P (jumps J Q) a w) → c.wp P (jumps J Q) a w)
  (pass:∀ l a w,J l a w → ∃ rest,findLabel c l = some (Code.skip.seq rest) ∧ rest.wp P (jumps (fun l' a' w'=>J l' a' w' ∧ m l' a' w' < m l a w) Q) a w):(Code.scope c).wp P Q a w:=by
 intro b k cs
 have key:∀ n l a w rest,m l a w = n → J l a w → findLabel c l = some rest → ∃ e a' w',Q e a' w' ∧ Arrives P (lone (b.at a (.code rest :: .inScope c :: k)) cs w) b k cs e a' w':=by
  intro n
  induction n using Nat.strongRecOn with
  | _ n ih =>
   intro l a w rest hn hJ hf
   obtain ⟨r,hr,hp⟩:=pass l a w hJ
   rw [hr] at hf
   cases hf
   obtain ⟨e,a1,w1,hq,harr⟩:=wp_seq (wp_skip hp) b (.inScope c :: k) cs
   cases e with
   | normal=>exact ⟨.normal,a1,w1,hq,Steps.trans harr (.one step_inScope)⟩
   | exit id=>exact ⟨.exit id,a1,w1,hq,fun k' hk=>harr k' (by simp [exitTo,hk])⟩
   | goto l' =>
    obtain ⟨hJ',hlt⟩:=hq
    obtain ⟨r',hr',_⟩:=pass l' a1 w1 hJ'
    have hg:gotoIn l' (.inScope c :: k) = some (.code (Code.skip.seq r') :: .inScope c :: k):=by simp [gotoIn,hr']
    obtain ⟨e2,a2,w2,hq2,harr2⟩:=ih _ (by omega) l' a1 w1 _ rfl hJ' hr'
    exact ⟨e2,a2,w2,hq2,.of_steps (harr _ hg) harr2⟩
   | ret=>exact ⟨_,a1,w1,hq,harr⟩
   | panic ch=>exact ⟨_,a1,w1,hq,harr⟩
   | outgrown=>exact ⟨_,a1,w1,hq,harr⟩
 have hfirst:c.wp P (jumps J Q) a w:=by
  refine first (fun l rest a w hf hJ=>?_)
  obtain ⟨r,hr,hp⟩:=pass l a w hJ
  rw [hr] at hf
  cases hf
  refine wp_mono hp ?_
  intro e a' w' hq
  cases e <;> first | exact hq | exact hq.1
 obtain ⟨e,a1,w1,hq,harr⟩:=hfirst b (.inScope c :: k) cs
 cases e with
 | normal=>exact ⟨.normal,a1,w1,hq,.head step_scope (Steps.trans harr (.one step_inScope))⟩
 | exit id=>exact ⟨.exit id,a1,w1,hq,fun k' hk => .head step_scope (harr k' (by simp [exitTo,hk]))⟩
 | goto l' =>
  obtain ⟨r',hr',_⟩:=pass l' a1 w1 hq
  have hg:gotoIn l' (.inScope c :: k) = some (.code (Code.skip.seq r') :: .inScope c :: k):=by simp [gotoIn,hr']
  obtain ⟨e2,a2,w2,hq2,harr2⟩:=key _ l' a1 w1 _ rfl hq hr'
  exact ⟨e2,a2,w2,hq2,.of_steps (.head step_scope (harr _ hg)) harr2⟩
 | ret=>exact ⟨_,a1,w1,hq,.of_steps (.one step_scope) harr⟩
 | panic ch=>exact ⟨_,a1,w1,hq,.of_steps (.one step_scope) harr⟩
 | outgrown=>exact ⟨_,a1,w1,hq,.of_steps (.one step_scope) harr⟩
def bc (l:List UInt8):List Value:=l.map fun c=>Value.int .u8 (c.toNat:Int)
theorem owns_below {w w':World} {B e size n:Nat} {v:Value} {xs:List Value} (h:w.ownsRow B e size v n xs) (k:Below w.heap.size w w'):w'.ownsRow B e size v n xs:=by
 refine ⟨h.1,?_⟩
 rcases h.2 with hn | ⟨g,cap,cur,rfl,hb,hg,rest⟩
 ·exact .inl hn
 ·exact .inr ⟨g,cap,cur,rfl,hb,(k.block g (Array.getElem?_eq_some_iff.1 hg).1).trans hg,rest⟩
theorem below_grown {w0 w w':World} {B e size n:Nat} {v:Value} {xs:List Value} (h:w.ownsRow B e size v n xs) (hB:B ≤ w.heap.size) (hw:Below B w0 w) (hg:w.grownBy w' v.ownBlock):Below B w0 w':=by
 refine hw.grown hg hB (fun k hk=>?_)
 rcases h.2 with ⟨rfl,_⟩ | ⟨g,cap,cur,rfl,hb,_⟩
 ·simp [Value.ownBlock] at hk
 ·simp [Value.ownBlock] at hk; omega
end Go.Proofs.YtiiepfplommmfaaGreatDoor

namespace Go.Proofs.YtiiepfplommmfaaGreatDoor
open Go.RowKit

theorem wp_scope_fall {P : Program} {a : Act} {w : World} {Q : Exit → Act → World → Prop} {c : Code} (J : Nat → Act → World → Prop) (m : Nat → Act → World → Nat)
  (first:(∀ l rest a w,findLabel c l = some (Code.skip.seq rest) → J l a w → rest.wp P (jumps J Q) a w) → c.wp P (jumps J Q) a w)
  (pass:∀ l a w,J l a w → (∀ l' rest' a' w',findLabel c l' = some (Code.skip.seq rest') → J l' a' w' → m l' a' w' < m l a w → rest'.wp P (jumps (fun l'' a'' w''=>J l'' a'' w'' ∧ m l'' a'' w'' < m l a w) Q) a' w') →
   ∃ rest,findLabel c l = some (Code.skip.seq rest) ∧ rest.wp P (jumps (fun l' a' w'=>J l' a' w' ∧ m l' a' w' < m l a w) Q) a w):(Code.scope c).wp P Q a w:=by
 refine wp_scope_labels J m first ?_
 have key:∀ n l a w,m l a w = n → J l a w → ∃ rest,findLabel c l = some (Code.skip.seq rest) ∧ rest.wp P (jumps (fun l' a' w'=>J l' a' w' ∧ m l' a' w' < m l a w) Q) a w:=by
  intro n
  induction n using Nat.strongRecOn with
  | _ n ih =>
   intro l a w hn hJ
   refine pass l a w hJ (fun l' rest' a' w' hf hJ' hlt=>?_)
   obtain ⟨r,hr,hp⟩:=ih _ (by omega) l' a' w' rfl hJ'
   rw [hr] at hf
   cases hf
   refine wp_mono hp ?_
   intro e a2 w2 hq
   cases e <;> first | exact hq | exact ⟨hq.1,Nat.lt_trans hq.2 hlt⟩
 exact fun l a w hJ=>key _ l a w rfl hJ
end Go.Proofs.YtiiepfplommmfaaGreatDoor

namespace Go.Proofs.YtiiepfplommmfaaGreatDoor
open Go.RowKit

theorem info_z {P : Program} {e : TypeId} {n size bytes : Nat} (h : (P.info? e).map (fun i => (i.zero.map (fun z => z.cells.size), i.size, i.bytes)) = some (some n, size, bytes)) :
  ∃ i z,P.info? e = some i ∧ i.zero = some z ∧ i.size = size ∧ i.bytes = bytes ∧ z.cells.size = n:=by
 obtain ⟨i,hi,hzz⟩:=Option.map_eq_some_iff.1 h
 simp only [Prod.mk.injEq] at hzz
 obtain ⟨z,hz,hn⟩:=Option.map_eq_some_iff.1 hzz.1
 exact ⟨i,z,hi,hz,hzz.2.1,hzz.2.2,hn⟩
theorem add_at (g j:Nat):(⟨g,0,none⟩:Addr).add j = ⟨g,j,none⟩:=by
 unfold Addr.add
 split
 ·rename_i h
  subst h
  rfl
 ·simp
theorem cells_new (w:World) (xs:List Value) (t:TypeId):∀ j u,xs[j]? = some u → (w.alloc (.cells xs.toArray t)).cell? ((⟨w.heap.size,0,none⟩:Addr).add j) = some u:=by
 intro j u hj
 rw [add_at]
 simpa using hj
theorem owns_shape {w:World} {B e size n:Nat} {v:Value} {xs:List Value} (h:w.ownsRow B e size v n xs):(v = .slice none 0 0 ∧ n = 0) ∨ ∃ g cap,v = .slice (some ⟨g,0,none⟩) n cap ∧ B ≤ g ∧ g < w.heap.size ∧ ∀ j u,xs[j]? = some u → w.cell? ((⟨g,0,none⟩:Addr).add j) = some u:=by
 rcases h.2 with ⟨rfl,hn⟩ | ⟨g,cap,cur,rfl,hb,hg,_⟩
 ·exact .inl ⟨rfl,hn⟩
 ·refine .inr ⟨g,cap,rfl,hb,(Array.getElem?_eq_some_iff.1 hg).1,fun j u hj=>?_⟩
  have hlt:j < n * size:=by rw [← h.1]; exact (List.getElem?_eq_some_iff.1 hj).1
  have:=h.cellAt j hlt
  rw [hj] at this
  rw [add_at]
  exact this
end Go.Proofs.YtiiepfplommmfaaGreatDoor

namespace Go.Proofs.YtiiepfplommmfaaGreatDoor
open Go.RowKit

theorem hidden {p:Prop} (h:p):Hid p:=h
end Go.Proofs.YtiiepfplommmfaaGreatDoor

namespace Go.Proofs.YtiiepfplommmfaaGreatDoor
open Go.RowKit

set_option maxRecDepth 1000000 in
theorem sClone (s:ByteArray) (w:World) (h:s.size ≤ 8192):Calls Tryz.prog 46 #[.string s] w fun e w'=>e = .returned (.string s) ∧ Below w.heap.size w w':=by
 go_enter Tryz.func46,Tryz.ntmps46
 go_wp2_with fail
 refine (Tryz.stringslite_Clone s _ (by omega)).mono ?_
 rintro e w1 ⟨rfl,hb⟩
 go_wp2
 go_ret
 exact ⟨rfl,hb⟩
theorem arr_map (t:Array Value):t = ((List.range t.size).map fun k=>t.getD k undef).toArray:=by
 apply Array.ext
 ·simp
 ·intro i h1 h2
  simp [Array.getD,h1]
end Go.Proofs.YtiiepfplommmfaaGreatDoor


