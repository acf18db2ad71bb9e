/-
  What Encode and Right answer of an object that has a name alone; the law's known.
  And: hawserbook.Within from 0 on. The book's Roomy, Same and Intact at bytes: what each call does.
-/
import Derived.Test.YtiiepfplommmfaaGreatDoorG23
import Derived.Test.YtiiepfplommmfaaGreatDoorG08
import Derived.Test.YtiiepfplommmfaaGreatDoorG09
import Derived.Test.YtiiepfplommmfaaGreatDoorG07
import Derived.Test.YtiiepfplommmfaaGreatDoorG01
import Derived.Test.YtiiepfplommmfaaGreatDoorG10
import Derived.Laws.IdiomCopy
import Derived.Deep.OwnRows
namespace Go.Proofs.YtiiepfplommmfaaGreatDoor
open Go.RowKit

def wrv (b:Nat):Value := .agg #[.pointer (some ⟨b,0,none⟩)]
theorem box1 {w:World} {d:Nat} {x0:Value} {T:Nat} (h:w.heap[d]? = some (.cells #[x0] T (0,0))):w.cell? ⟨d,0,none⟩ = some x0:=by rw [cell_of_row w d 0 _ _ _ h]; rfl
set_option maxHeartbeats 1000000 in
set_option maxRecDepth 1000000 in
theorem onum (D : Nat → Prop) (n : Nat) (b : Nat) (l : List Nat) (w : World) (hD : ∀ k, D k → k < w.heap.size) (hn : n < 9223372036854775808) (hl : l.length + 10 ≤ 140737488355328) (hw : WB D w b l) :
  Calls Tryz.prog 144 #[wrv b,.int .i64 (n:Int)] w (WP D w b (l ++ Wire.enc n)):=by
 unfold wrv
 have hwA:=hw.new (.cells #[.pointer (some ⟨b,0,none⟩)] 96)
 have hDA:=Dx.lt hD (.cells #[.pointer (some ⟨b,0,none⟩)] 96)
 have hn1:=wNum7 (Dx D w.heap.size) n b l _ hDA (by omega) hl hwA
 have HK:Hid (∀ w',WB (Dx D w.heap.size) w' b (l ++ Wire.enc n) → Kept (fun k=>¬ Dx D w.heap.size k) (w.alloc (.cells #[.pointer (some ⟨b,0,none⟩)] 96)) w' → WP D w b (l ++ Wire.enc n) (.returned (.tuple #[])) w'):=by
  rw [hid_iff]
  rintro w' h1 h2
  exact ⟨rfl,h1.less (fun k hk => .inl hk),Dx.kept h2 hD⟩
 have hku:IntKind.u64.wrap (n:Int) = (n:Int):=u64_small n (by omega)
 clear hwA hDA hw
 go_enter Tryz.func144,Tryz.ntmps144
 go_wp2_with fail
 refine hn1.mono ?_
 rintro e w1 ⟨rfl,h1,k1⟩
 have hQ:=HK.out _ h1 k1
 clear hn1 h1 k1 HK
 go_wp2
 go_end0
 exact hQ
set_option maxHeartbeats 1000000 in
set_option maxRecDepth 1000000 in
theorem olistI (D : Nat → Prop) (fv : Value) (b : Nat) (l : List Nat) (w : World) (hD : ∀ k, D k → k < w.heap.size) (hl : l.length + 10 ≤ 140737488355328) (hw : WB D w b l) :
  Calls Tryz.prog 92 #[wrv b,.slice none 0 0,fv] w (WP D w b (l ++ Wire.enc 0)):=by
 have hwA:=hw.new (.cells #[.pointer (some ⟨b,0,none⟩)] 96)
 have hDA:=Dx.lt hD (.cells #[.pointer (some ⟨b,0,none⟩)] 96)
 have hn1:=onum (Dx D w.heap.size) 0 b l _ hDA (by omega) hl hwA
 unfold wrv at *
 have HK:Hid (∀ w',WB (Dx D w.heap.size) w' b (l ++ Wire.enc 0) → Kept (fun k=>¬ Dx D w.heap.size k) (w.alloc (.cells #[.pointer (some ⟨b,0,none⟩)] 96)) w' → WP D w b (l ++ Wire.enc 0) (.returned (.tuple #[])) w'):=by
  rw [hid_iff]
  rintro w' h1 h2
  exact ⟨rfl,h1.less (fun k hk => .inl hk),Dx.kept h2 hD⟩
 clear hwA hDA hw
 go_enter Tryz.func92,Tryz.ntmps92
 go_wp2_with fail
 refine hn1.mono ?_
 rintro e w1 ⟨rfl,h1,k1⟩
 have hQ:=HK.out _ h1 k1
 clear hn1 h1 k1 HK
 go_wp2
 go_loopg [14] 0 (fun g i wr=>g = 0 ∧ i = .int .i64 0 ∧ wr = w1)
 case atStart=>exact ⟨rfl,rfl,rfl⟩
 case round =>
  obtain ⟨rfl,rfl,rfl⟩:=hrel
  go_wp2
  go_end0
  exact hQ
set_option maxHeartbeats 1000000 in
set_option maxRecDepth 1000000 in
theorem olistT (D : Nat → Prop) (fv : Value) (b : Nat) (l : List Nat) (w : World) (hD : ∀ k, D k → k < w.heap.size) (hl : l.length + 10 ≤ 140737488355328) (hw : WB D w b l) :
  Calls Tryz.prog 94 #[wrv b,.slice none 0 0,fv] w (WP D w b (l ++ Wire.enc 0)):=by
 have hwA:=hw.new (.cells #[.pointer (some ⟨b,0,none⟩)] 96)
 have hDA:=Dx.lt hD (.cells #[.pointer (some ⟨b,0,none⟩)] 96)
 have hn1:=onum (Dx D w.heap.size) 0 b l _ hDA (by omega) hl hwA
 unfold wrv at *
 have HK:Hid (∀ w',WB (Dx D w.heap.size) w' b (l ++ Wire.enc 0) → Kept (fun k=>¬ Dx D w.heap.size k) (w.alloc (.cells #[.pointer (some ⟨b,0,none⟩)] 96)) w' → WP D w b (l ++ Wire.enc 0) (.returned (.tuple #[])) w'):=by
  rw [hid_iff]
  rintro w' h1 h2
  exact ⟨rfl,h1.less (fun k hk => .inl hk),Dx.kept h2 hD⟩
 clear hwA hDA hw
 go_enter Tryz.func94,Tryz.ntmps94
 go_wp2_with fail
 refine hn1.mono ?_
 rintro e w1 ⟨rfl,h1,k1⟩
 have hQ:=HK.out _ h1 k1
 clear hn1 h1 k1 HK
 go_wp2
 go_loopg [14] 0 (fun g i wr=>g = 0 ∧ i = .int .i64 0 ∧ wr = w1)
 case atStart=>exact ⟨rfl,rfl,rfl⟩
 case round =>
  obtain ⟨rfl,rfl,rfl⟩:=hrel
  go_wp2
  go_end0
  exact hQ
set_option maxHeartbeats 1000000 in
set_option maxRecDepth 1000000 in
theorem olistG (D : Nat → Prop) (fv : Value) (b : Nat) (l : List Nat) (w : World) (hD : ∀ k, D k → k < w.heap.size) (hl : l.length + 10 ≤ 140737488355328) (hw : WB D w b l) :
  Calls Tryz.prog 95 #[wrv b,.slice none 0 0,fv] w (WP D w b (l ++ Wire.enc 0)):=by
 have hwA:=hw.new (.cells #[.pointer (some ⟨b,0,none⟩)] 96)
 have hDA:=Dx.lt hD (.cells #[.pointer (some ⟨b,0,none⟩)] 96)
 have hn1:=onum (Dx D w.heap.size) 0 b l _ hDA (by omega) hl hwA
 unfold wrv at *
 have HK:Hid (∀ w',WB (Dx D w.heap.size) w' b (l ++ Wire.enc 0) → Kept (fun k=>¬ Dx D w.heap.size k) (w.alloc (.cells #[.pointer (some ⟨b,0,none⟩)] 96)) w' → WP D w b (l ++ Wire.enc 0) (.returned (.tuple #[])) w'):=by
  rw [hid_iff]
  rintro w' h1 h2
  exact ⟨rfl,h1.less (fun k hk => .inl hk),Dx.kept h2 hD⟩
 clear hwA hDA hw
 go_enter Tryz.func95,Tryz.ntmps95
 go_wp2_with fail
 refine hn1.mono ?_
 rintro e w1 ⟨rfl,h1,k1⟩
 have hQ:=HK.out _ h1 k1
 clear hn1 h1 k1 HK
 go_wp2
 go_loopg [14] 0 (fun g i wr=>g = 0 ∧ i = .int .i64 0 ∧ wr = w1)
 case atStart=>exact ⟨rfl,rfl,rfl⟩
 case round =>
  obtain ⟨rfl,rfl,rfl⟩:=hrel
  go_wp2
  go_end0
  exact hQ
set_option maxHeartbeats 1000000 in
set_option maxRecDepth 1000000 in
theorem olistF (D : Nat → Prop) (fv : Value) (b : Nat) (l : List Nat) (w : World) (hD : ∀ k, D k → k < w.heap.size) (hl : l.length + 10 ≤ 140737488355328) (hw : WB D w b l) :
  Calls Tryz.prog 97 #[wrv b,.slice none 0 0,fv] w (WP D w b (l ++ Wire.enc 0)):=by
 have hwA:=hw.new (.cells #[.pointer (some ⟨b,0,none⟩)] 96)
 have hDA:=Dx.lt hD (.cells #[.pointer (some ⟨b,0,none⟩)] 96)
 have hn1:=onum (Dx D w.heap.size) 0 b l _ hDA (by omega) hl hwA
 unfold wrv at *
 have HK:Hid (∀ w',WB (Dx D w.heap.size) w' b (l ++ Wire.enc 0) → Kept (fun k=>¬ Dx D w.heap.size k) (w.alloc (.cells #[.pointer (some ⟨b,0,none⟩)] 96)) w' → WP D w b (l ++ Wire.enc 0) (.returned (.tuple #[])) w'):=by
  rw [hid_iff]
  rintro w' h1 h2
  exact ⟨rfl,h1.less (fun k hk => .inl hk),Dx.kept h2 hD⟩
 clear hwA hDA hw
 go_enter Tryz.func97,Tryz.ntmps97
 go_wp2_with fail
 refine hn1.mono ?_
 rintro e w1 ⟨rfl,h1,k1⟩
 have hQ:=HK.out _ h1 k1
 clear hn1 h1 k1 HK
 go_wp2
 go_loopg [14] 0 (fun g i wr=>g = 0 ∧ i = .int .i64 0 ∧ wr = w1)
 case atStart=>exact ⟨rfl,rfl,rfl⟩
 case round =>
  obtain ⟨rfl,rfl,rfl⟩:=hrel
  go_wp2
  go_end0
  exact hQ
set_option maxHeartbeats 1000000 in
set_option maxRecDepth 1000000 in
theorem olistS (D : Nat → Prop) (fv : Value) (b : Nat) (l : List Nat) (w : World) (hD : ∀ k, D k → k < w.heap.size) (hl : l.length + 10 ≤ 140737488355328) (hw : WB D w b l) :
  Calls Tryz.prog 99 #[wrv b,.slice none 0 0,fv] w (WP D w b (l ++ Wire.enc 0)):=by
 have hwA:=hw.new (.cells #[.pointer (some ⟨b,0,none⟩)] 96)
 have hDA:=Dx.lt hD (.cells #[.pointer (some ⟨b,0,none⟩)] 96)
 have hn1:=onum (Dx D w.heap.size) 0 b l _ hDA (by omega) hl hwA
 unfold wrv at *
 have HK:Hid (∀ w',WB (Dx D w.heap.size) w' b (l ++ Wire.enc 0) → Kept (fun k=>¬ Dx D w.heap.size k) (w.alloc (.cells #[.pointer (some ⟨b,0,none⟩)] 96)) w' → WP D w b (l ++ Wire.enc 0) (.returned (.tuple #[])) w'):=by
  rw [hid_iff]
  rintro w' h1 h2
  exact ⟨rfl,h1.less (fun k hk => .inl hk),Dx.kept h2 hD⟩
 clear hwA hDA hw
 go_enter Tryz.func99,Tryz.ntmps99
 go_wp2_with fail
 refine hn1.mono ?_
 rintro e w1 ⟨rfl,h1,k1⟩
 have hQ:=HK.out _ h1 k1
 clear hn1 h1 k1 HK
 go_wp2
 go_loopg [14] 0 (fun g i wr=>g = 0 ∧ i = .int .i64 0 ∧ wr = w1)
 case atStart=>exact ⟨rfl,rfl,rfl⟩
 case round =>
  obtain ⟨rfl,rfl,rfl⟩:=hrel
  go_wp2
  go_end0
  exact hQ
set_option maxHeartbeats 1000000 in
set_option maxRecDepth 1000000 in
theorem olistR (D : Nat → Prop) (fv : Value) (b : Nat) (l : List Nat) (w : World) (hD : ∀ k, D k → k < w.heap.size) (hl : l.length + 10 ≤ 140737488355328) (hw : WB D w b l) :
  Calls Tryz.prog 101 #[wrv b,.slice none 0 0,fv] w (WP D w b (l ++ Wire.enc 0)):=by
 have hwA:=hw.new (.cells #[.pointer (some ⟨b,0,none⟩)] 96)
 have hDA:=Dx.lt hD (.cells #[.pointer (some ⟨b,0,none⟩)] 96)
 have hn1:=onum (Dx D w.heap.size) 0 b l _ hDA (by omega) hl hwA
 unfold wrv at *
 have HK:Hid (∀ w',WB (Dx D w.heap.size) w' b (l ++ Wire.enc 0) → Kept (fun k=>¬ Dx D w.heap.size k) (w.alloc (.cells #[.pointer (some ⟨b,0,none⟩)] 96)) w' → WP D w b (l ++ Wire.enc 0) (.returned (.tuple #[])) w'):=by
  rw [hid_iff]
  rintro w' h1 h2
  exact ⟨rfl,h1.less (fun k hk => .inl hk),Dx.kept h2 hD⟩
 clear hwA hDA hw
 go_enter Tryz.func101,Tryz.ntmps101
 go_wp2_with fail
 refine hn1.mono ?_
 rintro e w1 ⟨rfl,h1,k1⟩
 have hQ:=HK.out _ h1 k1
 clear hn1 h1 k1 HK
 go_wp2
 go_loopg [14] 0 (fun g i wr=>g = 0 ∧ i = .int .i64 0 ∧ wr = w1)
 case atStart=>exact ⟨rfl,rfl,rfl⟩
 case round =>
  obtain ⟨rfl,rfl,rfl⟩:=hrel
  go_wp2
  go_end0
  exact hQ
set_option maxHeartbeats 4000000 in
set_option maxRecDepth 1000000 in
theorem oobj0 (D : Nat → Prop) (m : List UInt8) (b : Nat) (w : World) (hD : ∀ k, D k → k < w.heap.size) (hm : m.length ≤ 1000) (hw : WB D w b []) :
  Calls Tryz.prog 40 #[wrv b,.agg #[.string (str m),.slice none 0 0,.slice none 0 0,.slice none 0 0,.slice none 0 0,.slice none 0 0,.slice none 0 0,.slice none 0 0]] w (WP D w b (txtB m ++ [0,0,0,0,0,0,0])):=by
 have hwA:=hw.new (.cells #[.pointer (some ⟨b,0,none⟩)] 96)
 have hDA:=Dx.lt hD (.cells #[.pointer (some ⟨b,0,none⟩)] 96)
 have hNA:=heap_alloc_new w (.cells #[.pointer (some ⟨b,0,none⟩)] 96)
 have hKA:∀ w',Kept (fun k=>¬ Dx D w.heap.size k) (w.alloc (.cells #[.pointer (some ⟨b,0,none⟩)] 96)) w' → Kept (fun k=>¬ D k) w w':=fun w' h=>Dx.kept h hD
 generalize hWA:w.alloc (.cells #[.pointer (some ⟨b,0,none⟩)] 96) = wA at *
 have hsA:wA.heap.size = w.heap.size + 1:=by rw [← hWA]; simp
 have hwB:=hwA.new (.cells #[.string (str m),.slice none 0 0,.slice none 0 0,.slice none 0 0,.slice none 0 0,.slice none 0 0,.slice none 0 0,.slice none 0 0] 29)
 have hDB:=Dx.lt hDA (.cells #[.string (str m),.slice none 0 0,.slice none 0 0,.slice none 0 0,.slice none 0 0,.slice none 0 0,.slice none 0 0,.slice none 0 0] 29)
 have hNB:=heap_alloc_new wA (.cells #[.string (str m),.slice none 0 0,.slice none 0 0,.slice none 0 0,.slice none 0 0,.slice none 0 0,.slice none 0 0,.slice none 0 0] 29)
 have hKB:∀ w',Kept (fun k=>¬ Dx (Dx D w.heap.size) wA.heap.size k) (wA.alloc (.cells #[.string (str m),.slice none 0 0,.slice none 0 0,.slice none 0 0,.slice none 0 0,.slice none 0 0,.slice none 0 0,.slice none 0 0] 29)) w' → Kept (fun k=>¬ D k) w w':=fun w' h=>hKA w' (Dx.kept h hDA)
 have hNA':(wA.alloc (.cells #[.string (str m),.slice none 0 0,.slice none 0 0,.slice none 0 0,.slice none 0 0,.slice none 0 0,.slice none 0 0,.slice none 0 0] 29)).heap[w.heap.size]? = some (.cells #[.pointer (some ⟨b,0,none⟩)] 96 (0,0)):=(Below.heap_alloc _ _ _ (by omega)).trans hNA
 have hle:∀ k,Dx (Dx D w.heap.size) wA.heap.size k → Dx (Dx D w.heap.size) wA.heap.size k:=fun _ h=>h
 generalize hWB:wA.alloc (.cells #[.string (str m),.slice none 0 0,.slice none 0 0,.slice none 0 0,.slice none 0 0,.slice none 0 0,.slice none 0 0,.slice none 0 0] 29) = wB at *
 have hsB:wB.heap.size = w.heap.size + 2:=by rw [← hWB]; simp; omega
 rw [hsA] at hNB
 have e1:Dx (Dx D w.heap.size) wA.heap.size w.heap.size := .inl (.inr rfl)
 have e2:Dx (Dx D w.heap.size) wA.heap.size (w.heap.size + 1) := .inr hsA.symm
 have hless:∀ w' l,WB (Dx (Dx D w.heap.size) wA.heap.size) w' b l → WB D w' b l:=fun w' l h=>h.less (fun k hk => .inl (.inl hk))
 generalize Dx (Dx D w.heap.size) wA.heap.size = E at *
 have HB:Hid (∀ u,Kept (fun k=>¬ E k) wB u → (∀ k,E k → k < u.heap.size) ∧ u.cell? ⟨w.heap.size,0,none⟩ = some (.pointer (some ⟨b,0,none⟩)) ∧ u.cell? ⟨w.heap.size + 1,0,none⟩ = some (.string (str m)) ∧ u.cell? ⟨w.heap.size + 1,1,none⟩ = some (.slice none 0 0) ∧ u.cell? ⟨w.heap.size + 1,2,none⟩ = some (.slice none 0 0) ∧ u.cell? ⟨w.heap.size + 1,3,none⟩ = some (.slice none 0 0) ∧ u.cell? ⟨w.heap.size + 1,4,none⟩ = some (.slice none 0 0) ∧ u.cell? ⟨w.heap.size + 1,5,none⟩ = some (.slice none 0 0) ∧ u.cell? ⟨w.heap.size + 1,6,none⟩ = some (.slice none 0 0) ∧ u.cell? ⟨w.heap.size + 1,7,none⟩ = some (.slice none 0 0)):=by
  rw [hid_iff]
  intro u hu
  have n0:=(keep_blk hu e1 (by omega)).trans hNA'
  have n1:=(keep_blk hu e2 (by omega)).trans hNB
  exact ⟨keep_lt hu hDB,by rw [cell_of_row u _ 0 _ _ _ n0]; rfl,by rw [cell_of_row u _ 0 _ _ _ n1]; rfl,by rw [cell_of_row u _ 1 _ _ _ n1]; rfl,by rw [cell_of_row u _ 2 _ _ _ n1]; rfl,by rw [cell_of_row u _ 3 _ _ _ n1]; rfl,by rw [cell_of_row u _ 4 _ _ _ n1]; rfl,by rw [cell_of_row u _ 5 _ _ _ n1]; rfl,by rw [cell_of_row u _ 6 _ _ _ n1]; rfl,by rw [cell_of_row u _ 7 _ _ _ n1]; rfl⟩
 have hz:Wire.enc 0 = [0]:=rfl
 have tl:(txtB m).length ≤ 1010:=Nat.le_trans (txtB_len m (by omega)) (by omega)
 have k0:Kept (fun k=>¬ E k) wB wB:=Kept.refl _ _
 obtain ⟨hD0,p0,q0, -, -, -, -, -, -, -⟩:=HB.out _ k0
 have h1:=wText7 E m b [] wB hD0 (by simp; omega) hwB
 have HKB:=hidden hKB
 have HLS:=hidden hless
 clear hKA hKB hless hle hNA hNA' hNB hwA hwB hDA hDB hw
 unfold wrv at *
 go_enter Tryz.func40,Tryz.ntmps40
 go_wp2_with fail
 refine h1.mono ?_
 rintro e v1 ⟨rfl,w1,k1⟩
 rw [List.nil_append] at w1
 clear h1 p0 q0
 obtain ⟨hD1,p1, -, q1, -, -, -, -, -, -⟩:=HB.out _ k1
 have g1:=fun fv=>olistI E fv b (txtB m) v1 hD1 (by (try simp only [List.length_append,List.length_cons,List.length_nil]); omega) w1
 unfold wrv at g1
 go_wp2_with fail
 refine (g1 _).mono ?_
 rintro e u1 ⟨rfl,x1,y1'⟩
 have y1:=keep_trans k1 y1'
 rw [hz] at x1
 clear g1 p1 q1 w1 k1 y1'
 obtain ⟨hD2,p2, -, -, q2, -, -, -, -, -⟩:=HB.out _ y1
 have g2:=fun fv=>olistT E fv b ((txtB m) ++ [0]) u1 hD2 (by (try simp only [List.length_append,List.length_cons,List.length_nil]); omega) x1
 unfold wrv at g2
 go_wp2_with fail
 refine (g2 _).mono ?_
 rintro e u2 ⟨rfl,x2,y2'⟩
 have y2:=keep_trans y1 y2'
 rw [hz] at x2
 clear g2 p2 q2 x1 y1 y2'
 obtain ⟨hD3,p3, -, -, -, q3, -, -, -, -⟩:=HB.out _ y2
 have g3:=fun fv=>olistG E fv b ((txtB m) ++ [0] ++ [0]) u2 hD3 (by (try simp only [List.length_append,List.length_cons,List.length_nil]); omega) x2
 unfold wrv at g3
 go_wp2_with fail
 refine (g3 _).mono ?_
 rintro e u3 ⟨rfl,x3,y3'⟩
 have y3:=keep_trans y2 y3'
 rw [hz] at x3
 clear g3 p3 q3 x2 y2 y3'
 obtain ⟨hD4,p4, -, -, -, -, q4, -, -, -⟩:=HB.out _ y3
 have g4:=fun fv=>olistF E fv b ((txtB m) ++ [0] ++ [0] ++ [0]) u3 hD4 (by (try simp only [List.length_append,List.length_cons,List.length_nil]); omega) x3
 unfold wrv at g4
 go_wp2_with fail
 refine (g4 _).mono ?_
 rintro e u4 ⟨rfl,x4,y4'⟩
 have y4:=keep_trans y3 y4'
 rw [hz] at x4
 clear g4 p4 q4 x3 y3 y4'
 obtain ⟨hD5,p5, -, -, -, -, -, q5, -, -⟩:=HB.out _ y4
 have g5:=fun fv=>olistT E fv b ((txtB m) ++ [0] ++ [0] ++ [0] ++ [0]) u4 hD5 (by (try simp only [List.length_append,List.length_cons,List.length_nil]); omega) x4
 unfold wrv at g5
 go_wp2_with fail
 refine (g5 _).mono ?_
 rintro e u5 ⟨rfl,x5,y5'⟩
 have y5:=keep_trans y4 y5'
 rw [hz] at x5
 clear g5 p5 q5 x4 y4 y5'
 obtain ⟨hD6,p6, -, -, -, -, -, -, q6, -⟩:=HB.out _ y5
 have g6:=fun fv=>olistS E fv b ((txtB m) ++ [0] ++ [0] ++ [0] ++ [0] ++ [0]) u5 hD6 (by (try simp only [List.length_append,List.length_cons,List.length_nil]); omega) x5
 unfold wrv at g6
 go_wp2_with fail
 refine (g6 _).mono ?_
 rintro e u6 ⟨rfl,x6,y6'⟩
 have y6:=keep_trans y5 y6'
 rw [hz] at x6
 clear g6 p6 q6 x5 y5 y6'
 obtain ⟨hD7,p7, -, -, -, -, -, -, -, q7⟩:=HB.out _ y6
 have g7:=fun fv=>olistR E fv b ((txtB m) ++ [0] ++ [0] ++ [0] ++ [0] ++ [0] ++ [0]) u6 hD7 (by (try simp only [List.length_append,List.length_cons,List.length_nil]); omega) x6
 unfold wrv at g7
 go_wp2_with fail
 refine (g7 _).mono ?_
 rintro e u7 ⟨rfl,x7,y7'⟩
 have y7:=keep_trans y6 y7'
 rw [hz] at x7
 clear g7 p7 q7 x6 y6 y7'
 have hK:=HKB.out _ y7
 have hW:=HLS.out _ _ x7
 simp only [List.append_assoc,List.cons_append,List.nil_append] at hW
 clear x7 y7 HKB HLS HB
 go_wp2
 go_end0
 exact ⟨rfl,hW,hK⟩
def ob0 (m:List UInt8):Ob:=⟨m,[],[],[],[],[],[],[]⟩
def obV0:ObV:=⟨.slice none 0 0,.slice none 0 0,.slice none 0 0,.slice none 0 0,.slice none 0 0,.slice none 0 0,.slice none 0 0⟩
theorem obR0 (F:Nat → Prop) (m:List UInt8) (w:World):ObR F w obV0 (ob0 m) :=
 ⟨ItR.nil _ _,⟨TxR.nil _ _,by rintro a n c h; simp only [obV0,Value.slice.injEq] at h; omega⟩,RwR.nil _ _ _ _,RwR.nil _ _ _ _,⟨TxR.nil _ _,by rintro a n c h; simp only [obV0,Value.slice.injEq] at h; omega⟩,RwR.nil _ _ _ _,RwR.nil _ _ _ _⟩
theorem elO0 (m:List UInt8) (w:World):ElO obV0 (ob0 m) w:=by
 intro j k hj hk
 rcases j with _ | _ | _ | _ | _ | _ | _ | j <;> simp [lenO,ob0] at hk
theorem right0 (m:List UInt8) (w:World) (hm:Tk m):Calls Tryz.prog 6 #[obv obV0 m] w (TwoB (rightO (ob0 m)) w):=rightOb (fun _=>False) obV0 (ob0 m) w (obR0 _ _ _) (fun _ h=>h.elim) hm (fun _ _=>elO0 m w)
theorem rightO_m:rightO (ob0 [109]) = (0,0):=by decide
theorem rightO_M:rightO (ob0 [77]) = (13,0):=by decide
set_option maxHeartbeats 2000000 in
set_option maxRecDepth 1000000 in
theorem oenc0 (m:List UInt8) (w:World) (hm:m.length ≤ 1000) (hr:rightO (ob0 m) = (0,0)):Calls Tryz.prog 8 #[obv obV0 m] w fun e w'=>∃ v g,e = .returned (.tuple #[v,.int .i64 0]) ∧ Wire.Row w' g v (txtB m ++ [0,0,0,0,0,0,0]) ∧ w.heap.size ≤ g ∧ Below w.heap.size w w':=by
 have hR:=fun u=>right0 m u (by unfold Tk; omega)
 rw [hr] at hR
 unfold TwoB at hR
 unfold obv obV0 at *
 simp only at hR ⊢
 generalize hW:w.alloc (.cells #[.string (str m),.slice none 0 0,.slice none 0 0,.slice none 0 0,.slice none 0 0,.slice none 0 0,.slice none 0 0,.slice none 0 0] 29) = w0 at *
 have hb0:Below w.heap.size w w0:=by rw [← hW]; exact (Below.refl _ _).alloc (Nat.le_refl _) _
 have hs0:w0.heap.size = w.heap.size + 1:=by rw [← hW]; simp
 have hN:=heap_alloc_new w (.cells #[.string (str m),.slice none 0 0,.slice none 0 0,.slice none 0 0,.slice none 0 0,.slice none 0 0,.slice none 0 0,.slice none 0 0] 29)
 rw [hW] at hN
 have HC:∀ u:World,u.heap[w.heap.size]? = w0.heap[w.heap.size]? → u.cell? ⟨w.heap.size,0,none⟩ = some (.string (str m)) ∧ u.cell? ⟨w.heap.size,1,none⟩ = some (.slice none 0 0) ∧ u.cell? ⟨w.heap.size,2,none⟩ = some (.slice none 0 0) ∧ u.cell? ⟨w.heap.size,3,none⟩ = some (.slice none 0 0) ∧ u.cell? ⟨w.heap.size,4,none⟩ = some (.slice none 0 0) ∧ u.cell? ⟨w.heap.size,5,none⟩ = some (.slice none 0 0) ∧ u.cell? ⟨w.heap.size,6,none⟩ = some (.slice none 0 0) ∧ u.cell? ⟨w.heap.size,7,none⟩ = some (.slice none 0 0):=by
  intro u hu
  have n1:=hu.trans hN
  exact ⟨by rw [cell_of_row u _ 0 _ _ _ n1]; rfl,by rw [cell_of_row u _ 1 _ _ _ n1]; rfl,by rw [cell_of_row u _ 2 _ _ _ n1]; rfl,by rw [cell_of_row u _ 3 _ _ _ n1]; rfl,by rw [cell_of_row u _ 4 _ _ _ n1]; rfl,by rw [cell_of_row u _ 5 _ _ _ n1]; rfl,by rw [cell_of_row u _ 6 _ _ _ n1]; rfl,by rw [cell_of_row u _ 7 _ _ _ n1]; rfl⟩
 have HCh:=hidden HC
 obtain ⟨z0,z1,z2,z3,z4,z5,z6,z7⟩:=HC w0 rfl
 clear HC
 go_enter Tryz.func8,Tryz.ntmps8
 go_wp2_with fail
 refine (hR _).mono ?_
 rintro e w1 ⟨rfl,hb1⟩
 have hs1:=hb1.size
 clear z0 z1 z2 z3 z4 z5 z6 z7
 go_wp2_with fail
 refine (Wire.newwriter w1).mono ?_
 rintro e w2 ⟨b,rfl,hW2,hbb,hk2⟩
 have hk2':=keep_of hk2
 have hw2:WB (fun k=>k < w1.heap.size) w2 b []:=⟨b,hW2,by omega,by omega⟩
 have hD2:∀ k,k < w1.heap.size → k < w2.heap.size:=fun k hk=>Nat.lt_of_lt_of_le hk hk2'.size
 have hB2:Kept (fun k=>¬ k < w1.heap.size) w1 w2:=hk2'.mono (fun _ _ h=>h.elim)
 have hw3:=hw2.new (.cells #[.pointer (some ⟨b,0,none⟩)] 96)
 have hD3:=Dx.lt hD2 (.cells #[.pointer (some ⟨b,0,none⟩)] 96)
 have hN3:=heap_alloc_new w2 (.cells #[.pointer (some ⟨b,0,none⟩)] 96)
 have hK3:∀ w',Kept (fun k=>¬ Dx (fun k=>k < w1.heap.size) w2.heap.size k) (w2.alloc (.cells #[.pointer (some ⟨b,0,none⟩)] 96)) w' → Kept (fun k=>¬ k < w1.heap.size) w2 w':=fun w' h=>Dx.kept h hD2
 have hO3:=oobj0 (Dx (fun k=>k < w1.heap.size) w2.heap.size) m b _ hD3 hm hw3
 unfold wrv at hO3
 have hob3:(w2.alloc (.cells #[.pointer (some ⟨b,0,none⟩)] 96)).heap[w.heap.size]? = w0.heap[w.heap.size]?:=(Below.heap_alloc _ _ _ (by have:=hD2 w.heap.size (by omega); omega)).trans ((hB2.block _ (by omega) (fun h=>h (by omega))).trans (hb1.block _ (by omega)))
 obtain ⟨z0,z1,z2,z3,z4,z5,z6,z7⟩:=HCh.out _ hob3
 have p3:=box1 hN3
 generalize hW3:w2.alloc (.cells #[.pointer (some ⟨b,0,none⟩)] 96) = w3 at *
 have hs3:w3.heap.size = w2.heap.size + 1:=by rw [← hW3]; simp
 clear hw2 hw3 hD3 hW2 hk2 hk2' hob3
 go_wp2_with fail
 refine hO3.mono ?_
 rintro e w4 ⟨rfl,hw4,k4⟩
 have hN4:=(keep_blk k4 (show Dx (fun k=>k < w1.heap.size) w2.heap.size w2.heap.size from .inr rfl) (by omega)).trans hN3
 have p4:=box1 hN4
 have k5:=hK3 _ k4
 have hbo:Below w.heap.size w w4:=by
  have k:Kept (fun k=>¬ k < w1.heap.size) w1 w4:=keep_trans hB2 k5
  exact (below_trans hb0 hb1).trans (k.below (by omega) (fun x hx h=>h (by omega)))
 obtain ⟨g,hWj,hbj,hgj⟩:=hw4
 have tl:(txtB m).length ≤ 1010:=Nat.le_trans (txtB_len m (by omega)) (by omega)
 have hd:=Wire.wdone b g _ w4 (by simp only [List.length_append,List.length_cons,List.length_nil]; omega) hWj
 clear z0 z1 z2 z3 z4 z5 z6 z7 p3 hO3 hWj k4 k5 hK3
 go_wp2_with fail
 refine hd.mono ?_
 rintro e w5 ⟨v',g',rfl,hr5,hg5,hk5⟩
 have hb6:Below w.heap.size w w5:=hbo.trans ((keep_of hk5).below (by have:=hbo.size; omega) (fun _ _ h=>h))
 have hsz5:=hbo.size
 have hlen:(txtB m ++ [0,0,0,0,0,0,0]).length ≤ 1017:=by simp only [List.length_append,List.length_cons,List.length_nil]; omega
 have HQ:Hid (∃ v g,Ending.returned (.tuple #[v',.int .i64 0]) = .returned (.tuple #[v,.int .i64 0]) ∧ Wire.Row w5 g v (txtB m ++ [0,0,0,0,0,0,0]) ∧ w.heap.size ≤ g ∧ Below w.heap.size w w5):=⟨v',g',rfl,hr5,by omega,hb6⟩
 obtain ⟨va',vc',hv'⟩:∃ a c,v' = .slice a (txtB m ++ [0,0,0,0,0,0,0]).length c:=by
  rcases hr5.shape with ⟨rfl,h⟩ | ⟨cap,rfl,_⟩
  ·exact ⟨none,0,by rw [h]; rfl⟩
  ·exact ⟨_,_,rfl⟩
 subst hv'
 generalize (txtB m ++ [0,0,0,0,0,0,0]).length = nb at *
 have hni:¬ (8192:Int) < (nb:Int):=by omega
 clear hd hr5 hk5 hb6 p4
 go_wp2
 go_ret2
 exact HQ.out
theorem k14_bytes:txtB [109] ++ [0,0,0,0,0,0,0] = [1,109,0,0,0,0,0,0,0]:=rfl
theorem k14_str:Wire.toStr [1,109,0,0,0,0,0,0,0] = ⟨#[1,109,0,0,0,0,0,0,0]⟩:=by rw [Wire.toStr_eq]; rfl
set_option maxHeartbeats 2000000 in
set_option maxRecDepth 1000000 in
theorem known14 (w:World):Calls Tryz.prog 16 #[] w (BoolB true w):=by
 have he:=oenc0 [109] w (by simp) rightO_m
 rw [k14_bytes] at he
 have hM:=fun u=>right0 [77] u (by unfold Tk; simp)
 rw [rightO_M] at hM
 unfold TwoB at hM
 unfold obv obV0 at *
 simp only at he hM
 go_enter Tryz.func16,Tryz.ntmps16
 go_wp2_with fail
 refine he.mono ?_
 rintro e w1 ⟨v,g,rfl,hr1,hg1,hb1⟩
 clear he
 obtain ⟨cap,rfl⟩:∃ cap,v = .slice (some ⟨g,0,none⟩) 9 cap:=by
  rcases hr1.shape with ⟨_,h⟩ | ⟨cap,h,_⟩
  ·cases h
  ·exact ⟨cap,h⟩
 have hgl:g < w1.heap.size:=hr1.lt (k:=g) rfl
 go_wp2_with fail
 refine (hM _).mono ?_
 rintro e w3 ⟨rfl,hb4⟩
 have hr3:Wire.Row w3 g (.slice (some ⟨g,0,none⟩) 9 cap) [1,109,0,0,0,0,0,0,0]:=hr1.kept (S:=fun k=>w1.heap.size ≤ k) ⟨hb4.os,hb4.tape,hb4.output,hb4.size,fun k hk hn=>hb4.block k hk⟩ (fun _ h=>by omega)
 have hst:=hr3.rd.string
 rw [k14_str] at hst
 have hb5:=below_trans hb1 hb4
 clear hr1 hr3 hb1 hb4 hgl hM
 go_wp2
 go_ret
 exact ⟨rfl,hb5⟩
end Go.Proofs.YtiiepfplommmfaaGreatDoor

namespace Go.Proofs.YtiiepfplommmfaaGreatDoor
open Go.RowKit

theorem tmodQ (n m:Int) (hm:0 < m):(0 ≤ n.tmod m ∧ n.tmod m = n % m) ∨ (n.tmod m < 0 ∧ n.tmod m + m = n % m):=by
 have h:=Int.tmod_eq_emod (a:=n) (b:=m)
 have h1:=Int.emod_nonneg n (show m ≠ 0 by omega)
 have h2:=Int.emod_lt_of_pos n hm
 by_cases hc:0 ≤ n ∨ m ∣ n
 ·rw [if_pos hc] at h
  left
  omega
 ·rw [if_neg hc] at h
  right
  omega
set_option maxRecDepth 1000000 in
theorem withinQ (n:Int) (hi:Nat) (_h0 : -9223372036854775808 ≤ n) (_h1:n ≤ 9223372036854775807) (hh:hi ≤ 1000000000) (w:World):Calls Tryz.prog 19 #[.int .i64 n,.int .i64 0,.int .i64 hi] w (Pu (.int .i64 (n % ((hi:Int) + 1))) w):=by
 have hb:=Int.emod_lt_of_pos n (show 0 < (hi:Int) + 1 by omega)
 have hb0:=Int.emod_nonneg n (show (hi:Int) + 1 ≠ 0 by omega)
 have hne:¬ ((hi:Int) + 1 = 0):=by omega
 have hpos:(0:Int) < (hi:Int) + 1:=by omega
 rcases tmodQ n (hi + 1) (by omega) with ⟨h2,h3⟩ | ⟨h2,h3⟩
 ·rw [← h3] at hb hb0 ⊢
  generalize hz:n.tmod ((hi:Int) + 1) = z at *
  clear h3
  go_enter Tryz.func19,Tryz.ntmps19
  go_wp2
  go_ret
  exact ⟨rfl,rfl⟩
 ·rw [← h3] at hb hb0 ⊢
  generalize hz:n.tmod ((hi:Int) + 1) = z at *
  clear h3
  rw [← Int.add_assoc]
  go_enter Tryz.func19,Tryz.ntmps19
  go_wp2
  go_ret
  exact ⟨rfl,rfl⟩
end Go.Proofs.YtiiepfplommmfaaGreatDoor

namespace Go.Proofs.YtiiepfplommmfaaGreatDoor.Wire
open Go.RowKit

theorem wpList_copy_run {P : Program} (w : World) {ops : Array Oper} {rest : List Oper} {o : Oper} {a : Act} {Q : Exit → Act → World → Prop} (hgd : o.guard = none) (d s : Operand) (dT sT : TypeId)
  (ho:o.op = .call { callee := .builtin .copy,args:=#[d,s],argTypes:=#[dT,sT] }) (dv sv:Value) (hd:a.eval d = dv) (hs:a.eval s = sv) (r:Value) (w':World) (hr:∀ ty,(Builtin.copy_ #[dT,sT] ty #[dv,sv]).run P w = .ok r w')
  (h:wpList P ops Q rest (a.put o.dst r) w'):wpList P ops Q (o :: rest) a w:=by
 refine wpList_plain hgd fun K hK=>?_
 unfold Oper.wp execOp
 simp only [ho,resolve,invoke,builtin,Sem.run_bind,Sem.run_pure,Result.andThen_ok,List.map_toArray,List.map_cons,List.map_nil,hd,hs,hr]
 exact hK _ _ h
theorem Row.store {w:World} {g c:Nat} {L:List Nat} (h:Row w g (.slice (some ⟨g,0,none⟩) L.length c) L) (j x:Nat):Row (w.setCell ⟨g,j,none⟩ (.int .u8 x)) g (.slice (some ⟨g,0,none⟩) L.length c) (L.set j x):=by
 have h1:=(h.1.stored j (.int .u8 x)).1
 refine ⟨?_,Or.inr rfl⟩
 have e:(bs L).set j (.int .u8 x) = bs (L.set j x):=by simp [bs,List.map_set]
 rw [e] at h1
 simpa using h1
theorem Rd.at {w:World} {b off c:Nat} {l:List Nat} (h:Rd w b (.slice (some ⟨b,off,none⟩) l.length c) l) (j:Nat) (hj:j < l.length):w.cell? ⟨b,off + j,none⟩ = some (.int .u8 ((l.getD j 0:Nat):Int)):=by
 rcases h with ⟨h,_⟩ | ⟨a,cap,h,_,hc⟩
 ·simp at h
 ·simp at h
  obtain ⟨rfl,rfl⟩:=h
  have:=hc j (.int .u8 ((l.getD j 0:Nat):Int)) (by simp [bs,hj])
  have e:(⟨b,off,none⟩:Addr).add j = ⟨b,off + j,none⟩:=by unfold Addr.add; split <;> simp_all
  rw [e] at this
  exact this
def RoomE (w:World) (l:List Nat) (e:Ending) (w':World):Prop :=
 ∃ c g,e = .returned (.slice (some ⟨g,0,none⟩) (l.length + 80) c) ∧ Row w' g (.slice (some ⟨g,0,none⟩) (l.length + 80) c) (l ++ List.replicate 80 165) ∧ w.heap.size ≤ g ∧ l.length + 80 ≤ c ∧ c ≤ maxLen ∧ Kept (fun _=>False) w w'
theorem fill_step (l:List Nat) (k:Nat) (hk:k < 80):(l ++ List.replicate k 165 ++ List.replicate (80 - k) 0).set (l.length + k) 165 = l ++ List.replicate (k + 1) 165 ++ List.replicate (80 - (k + 1)) 0:=by
 obtain ⟨m,hm⟩:∃ m,80 - k = m + 1:=⟨80 - k - 1,by omega⟩
 rw [hm,show 80 - (k + 1) = m by omega,List.set_append_right _ _ (by simp),List.replicate_succ]
 simp [List.replicate_succ',List.append_assoc]
set_option maxHeartbeats 1600000 in
set_option maxRecDepth 1000000 in
theorem roomy (v : Value) (b0 : Nat) (l : List Nat) (w : World) (hl : l.length ≤ 140737488351232) (hrd : Rd w b0 v l) :
  Calls Tryz.prog 20 #[v,.int .u8 165] w (RoomE w l):=by
 obtain ⟨a0,c0,hsh⟩:=hrd.shape
 subst hsh
 have hmk:∀ u:World,(Instr.makeSlice 42 (.int .i64 ((l.length:Int) + 80)) (.int .i64 ((l.length:Int) + 80))).run Tryz.prog u = .ok (.slice (some ⟨u.heap.size,0,none⟩) (l.length + 80) (l.length + 80)) (u.alloc (.cells (madeCells #[.int .u8 0] (l.length + 80)) 5)):=by
  intro u
  have h:=run_make_row' (P:=Tryz.prog) 42 5 (.int .u8 0) 1 Tryz.underlying42 Tryz.info5 rfl .i64 .i64 (l.length + 80) (by omega) (by omega) u
  rw [show ((l.length + 80:Nat):Int) = (l.length:Int) + 80 by omega] at h
  exact h
 have hcells:(w.alloc (.cells (madeCells #[.int .u8 0] (l.length + 80)) 5)).heap[w.heap.size]? = some (.cells (madeCells #[.int .u8 0] (l.length + 80)) 5):=heap_alloc_new w _
 have hmt:(madeCells #[Value.int .u8 0] (l.length + 80)).toList = List.replicate (l.length + 80) (.int .u8 0):=toList_madeCells_one _ _
 obtain ⟨r, wc, hcopy, hrow, hkc⟩ : ∃ r wc, (∀ ty, (Builtin.copy_ #[42, 42] ty #[.slice (some ⟨w.heap.size, 0, none⟩) (l.length + 80) (l.length + 80), .slice a0 l.length c0]).run Tryz.prog (w.alloc (.cells (madeCells #[.int .u8 0] (l.length + 80)) 5)) = .ok r wc) ∧
   Row wc w.heap.size (.slice (some ⟨w.heap.size,0,none⟩) (l.length + 80) (l.length + 80)) (l ++ List.replicate 80 0) ∧ Kept (fun _=>False) w wc:=by
  have hsize:(Tryz.prog.info? 5).map (·.size) = some 1:=by kernel_rfl
  have hlen:(l ++ List.replicate 80 0).length = l.length + 80:=by simp
  rcases hrd with ⟨h,rfl⟩ | ⟨a,cap,h,rfl,hc⟩
  ·simp at h
   obtain ⟨rfl,rfl⟩:=h
   refine ⟨_,_,fun ty=>run_copy_none _ 42 42 ty 5 _ _ _ _ _ _ Tryz.underlying42 hsize (by simp),?_,(Kept.refl _ w).alloc _⟩
   refine ⟨⟨by simp [bs],.inr ⟨w.heap.size,80,_,by simp,Nat.zero_le _,hcells,by simp,by simp [maxLen],by simp [madeCells],?_⟩⟩,Or.inr rfl⟩
   simp only [List.length_nil,Nat.zero_add] at hmt
   simp only [List.length_nil,Nat.zero_add,List.nil_append,List.length_replicate]
   rw [hmt]
   simp [bs]
  ·simp at h
   obtain ⟨rfl,rfl⟩:=h
   have hrun:=fun ty=>run_copy_cells (P:=Tryz.prog) (w.alloc (.cells (madeCells #[.int .u8 0] (l.length + 80)) 5)) 42 42 ty 5 w.heap.size 0 (l.length + 80) (l.length + 80) a l.length c0 (bs l) Tryz.underlying42 hsize
    (by rw [bs_length]; simp) (fun j u hu=>((Kept.refl (fun _=>False) w).alloc _).cell (hc j u hu) (fun h=>h))
    (fun j hj=>by rw [cell_of_row _ _ _ _ _ _ hcells]; simp [madeCells]; rw [bs_length] at hj; omega) (fun j hj=>frozen_of_row _ _ _ _ _ hcells) (bs_one l)
   refine ⟨_,_,hrun,?_,?_⟩
   ·have hh:=setCells_heap 5 (0,0) w.heap.size (bs l) 0 _ _ hcells (by simp [bs_length,madeCells])
    refine ⟨⟨by simp [bs],.inr ⟨w.heap.size,l.length + 80,_,by rw [hlen],Nat.zero_le _,hh,by rw [hlen]; omega,by unfold maxLen; omega,?_,?_⟩⟩,Or.inr rfl⟩
    ·simp [bs_length,madeCells]
    ·rw [hmt,hlen]
     simp only [List.take_zero,List.nil_append,Nat.zero_add,bs_length,List.drop_replicate,Nat.mul_one]
     rw [show l.length + 80 - l.length = 80 by omega,bs_append,show bs (List.replicate 80 0) = List.replicate 80 (.int .u8 0) by simp [bs]]
     exact List.take_of_length_le (by simp [bs_length])
   ·have:Kept (fun k=>k = w.heap.size) w ((w.alloc (.cells (madeCells #[.int .u8 0] (l.length + 80)) 5)).setCells w.heap.size 0 (bs l)):=by
     have hst:∀ (vs:List Value) (o:Nat) (u:World),Kept (fun k=>k = w.heap.size) w u → Kept (fun k=>k = w.heap.size) w (u.setCells w.heap.size o vs):=by
      intro vs
      induction vs with
      | nil=>intro o u h; exact h
      | cons x r ih=>intro o u h; exact ih _ _ (h.setCell (p:=⟨w.heap.size,o,none⟩) (fun _=>rfl) x)
     exact hst _ _ _ ((Kept.refl _ w).alloc _)
    exact this.mono (fun x hx h=>by omega)
 clear hcells hmt hrd
 go_enter Tryz.func20,Tryz.ntmps20
 go_wp2_with (refine wpList_copy_run _ rfl (.tmp 11) (.tmp 12) 42 42 rfl _ _ rfl rfl r wc hcopy ?_)
 clear hcopy hmk
 go_loopg [6] 80 (fun gk i wr=>∃ m k:Nat,gk + k = 80 ∧ m = l.length + k ∧ i = .int .i64 m ∧ Row wr w.heap.size (.slice (some ⟨w.heap.size,0,none⟩) (l.length + 80) (l.length + 80)) (l ++ List.replicate k 165 ++ List.replicate (80 - k) 0) ∧ Kept (fun _=>False) w wr)
 case atStart=>exact ⟨l.length,0,rfl,rfl,rfl,by simpa using hrow,hkc⟩
 case round =>
  obtain ⟨m,k,hgk,hmk,rfl,hr,hK⟩:=hrel
  clear hrow hkc
  have HM:Hid (m = l.length + k):=hmk
  have hm1:m ≤ l.length + 80:=by omega
  clear hmk
  by_cases hk:k < 80
  ·have hlen:(l ++ List.replicate k 165 ++ List.replicate (80 - k) 0).length = l.length + 80:=by simp; omega
   have hr':=hr
   rw [← hlen] at hr'
   have hml:m < l.length + 80:=by have:=HM.out; omega
   have hc:=hr'.cell m (by omega)
   have hfz:=hr'.1.frozenAt m
   have hst:=hr'.store m 165
   rw [HM.out,fill_step l k hk, ← HM.out,hlen] at hst
   have hkst:Kept (fun _=>False) w (wr.setCell ⟨w.heap.size,m,none⟩ (.int .u8 165)):=hK.setCell (p:=⟨w.heap.size,m,none⟩) (fun h=>by simp at h) _
   clear hr' hr hlen
   generalize (l ++ List.replicate k 165 ++ List.replicate (80 - k) 0).getD m 0 = old at hc
   go_wp2
   go_roundg (80 - (k + 1))
   case measure=>omega
   case rel=>exact ⟨m + 1,k + 1,by omega,by have:=HM.out; omega,by go_num,hst,hkst⟩
  ·have hk80:k = 80:=by omega
   subst hk80
   have hmm:l.length + 80 ≤ m:=by have:=HM.out; omega
   clear HM
   go_wp2
   go_ret
   exact ⟨_,_,rfl,by simpa using hr,Nat.le_refl _,Nat.le_refl _,by unfold maxLen; omega,hK⟩
def SameE (w:World) (e:Ending) (w':World):Prop:=e = .returned (.bool true) ∧ Kept (fun _=>False) w w'
set_option maxHeartbeats 1600000 in
set_option maxRecDepth 1000000 in
theorem same (v1 v2:Value) (b1 b2:Nat) (l:List Nat) (w:World) (_hl:l.length ≤ 140737488355328) (h1:Rd w b1 v1 l) (h2:Rd w b2 v2 l):Calls Tryz.prog 68 #[v1,v2] w (SameE w):=by
 obtain ⟨x1,y1,e1⟩:=h1.shape
 obtain ⟨x2,y2,e2⟩:=h2.shape
 have haddr:0 < l.length → ∃ o1 o2,x1 = some ⟨b1,o1,none⟩ ∧ x2 = some ⟨b2,o2,none⟩ ∧ ∀ j,j < l.length → w.cell? ⟨b1,o1 + j,none⟩ = some (.int .u8 ((l.getD j 0:Nat):Int)) ∧ w.cell? ⟨b2,o2 + j,none⟩ = some (.int .u8 ((l.getD j 0:Nat):Int)):=by
  intro hp
  obtain ⟨o1,c1,f1,_⟩:=h1.addr2 hp
  obtain ⟨o2,c2,f2,_⟩:=h2.addr2 hp
  have g1:x1 = some ⟨b1,o1,none⟩:=by rw [e1] at f1; simp at f1; exact f1.1
  have g2:x2 = some ⟨b2,o2,none⟩:=by rw [e2] at f2; simp at f2; exact f2.1
  refine ⟨o1,o2,g1,g2,fun j hj=>⟨?_,?_⟩⟩
  ·exact Rd.at (f1 ▸ h1) j hj
  ·exact Rd.at (f2 ▸ h2) j hj
 subst e1
 subst e2
 go_enter Tryz.func68,Tryz.ntmps68
 go_wp2
 go_loopg [5] l.length (fun g i wr=>∃ k nq:Nat,g + k = l.length ∧ i = .int .i64 k ∧ wr = w.drewN nq)
 case atStart=>exact ⟨0,0,rfl,rfl,rfl⟩
 case round =>
  obtain ⟨k,nq,hgk,rfl,rfl⟩:=hrel
  by_cases hlt:k < l.length
  ·obtain ⟨o1,o2,rfl,rfl,hcell⟩:=haddr (by omega)
   obtain ⟨d1,d2⟩:=hcell k hlt
   generalize l.getD k 0 = x at d1 d2
   clear hcell haddr h1 h2
   have hk0:(0:Int) ≤ k:=by omega
   have hkl:(k:Int) < l.length:=by omega
   go_wp2
   go_quiet (fail)
   go_wp2
   go_roundg (l.length - (k + 1))
   case measure=>omega
   case rel=>exact ⟨k + 1,_,by omega,by go_num,rfl⟩
  ·clear haddr
   go_wp2
   go_ret
   exact ⟨rfl,kept_drewN _ _⟩
theorem row_sub {w:World} {g c:Nat} {l:List Nat} (hr:Row w g (.slice (some ⟨g,0,none⟩) (l.length + 80) c) (l ++ List.replicate 80 165)):Rd w g (.slice (some ⟨g,0,none⟩) l.length c) l:=by
 have h:=hr.rd
 refine .inr ⟨⟨g,0,none⟩,c,rfl,rfl,fun j u hu=>?_⟩
 rcases h with ⟨h,_⟩ | ⟨a,cap,h,_,hcc⟩
 ·simp at h
 ·simp at h
  rw [h.1]
  refine hcc j u ?_
  rw [bs_append,List.getElem?_append_left]
  ·exact hu
  ·exact (List.getElem?_eq_some_iff.1 hu).1
theorem Rd.blk {w:World} {b:Nat} {v:Value} {l:List Nat} (h:Rd w b v l):l = [] ∨ b < w.heap.size:=by
 by_cases hp:0 < l.length
 ·right
  obtain ⟨off,cap,e,_⟩:=h.addr2 hp
  exact World.block_lt_of_cell? w _ (Rd.at (e ▸ h) 0 hp)
 ·left
  exact List.eq_nil_of_length_eq_zero (by omega)
set_option maxHeartbeats 1600000 in
set_option maxRecDepth 1000000 in
theorem intact (v : Value) (b0 g c : Nat) (l : List Nat) (w : World) (hl : l.length ≤ 140737488351232) (hc : l.length + 80 ≤ c) (_hcm : c ≤ maxLen) (hrd : Rd w b0 v l) (hr : Row w g (.slice (some ⟨g, 0, none⟩) (l.length + 80) c) (l ++ List.replicate 80 165)) :
  Calls Tryz.prog 24 #[.slice (some ⟨g,0,none⟩) (l.length + 80) c,v,.int .u8 165] w (SameE w):=by
 obtain ⟨x2,y2,e2⟩:=hrd.shape
 unfold maxLen at _hcm
 have hlen:(l ++ List.replicate 80 165).length = l.length + 80:=by simp
 have hr':=hr
 rw [← hlen] at hr'
 have hsub:Rd w g (.slice (some ⟨g,0,none⟩) l.length c) l:=by
  have h:=hr'.rd
  refine .inr ⟨⟨g,0,none⟩,c,rfl,rfl,fun j u hu=>?_⟩
  rcases h with ⟨h,_⟩ | ⟨a,cap,h,_,hcc⟩
  ·simp at h
  ·simp at h
   rw [h.1]
   refine hcc j u ?_
   rw [bs_append,List.getElem?_append_left]
   ·exact hu
   ·exact (List.getElem?_eq_some_iff.1 hu).1
 have hcell:∀ m,l.length ≤ m → m < l.length + 80 → w.cell? ⟨g,m,none⟩ = some (.int .u8 165):=by
  intro m h1 h2
  have e:(l ++ List.replicate 80 165).getD m 0 = 165:=by
   rw [List.getD,List.getElem?_append_right h1,List.getElem?_replicate,if_pos (by omega)]
   rfl
  rw [hr'.cell m (by omega),e]
  rfl
 have hsame:=same _ v g b0 l w (by omega) hsub hrd
 subst e2
 clear hsub hrd hr hr' hlen
 go_enter Tryz.func24,Tryz.ntmps24
 go_wp2_with fail
 refine hsame.mono ?_
 rintro e w1 ⟨rfl,hk1⟩
 clear hsame
 have hcell1:∀ m,l.length ≤ m → m < l.length + 80 → w1.cell? ⟨g,m,none⟩ = some (.int .u8 165):=fun m h1 h2=>hk1.cell (hcell m h1 h2) (fun h=>h)
 clear hcell
 go_wp2
 go_loopg [7] 80 (fun gk i wr=>∃ m:Nat,gk + m = l.length + 80 ∧ l.length ≤ m ∧ i = .int .i64 m ∧ wr = w1)
 case atStart=>exact ⟨l.length,by omega,Nat.le_refl _,rfl,rfl⟩
 case round =>
  obtain ⟨m,hgm,hlm,rfl,hw⟩:=hrel
  subst hw
  by_cases hlt:m < l.length + 80
  ·have hcx:=hcell1 m hlm hlt
   clear hcell1
   go_wp2
   go_roundg (l.length + 80 - (m + 1))
   case measure=>omega
   case rel=>exact ⟨m + 1,by omega,by omega,by go_num,rfl⟩
  ·clear hcell1
   go_wp2
   go_ret
   exact ⟨rfl,hk1⟩
end Go.Proofs.YtiiepfplommmfaaGreatDoor.Wire
