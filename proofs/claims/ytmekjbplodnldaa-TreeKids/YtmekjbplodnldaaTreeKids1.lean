/-
  The statements' TreeKids: its walk.
-/
import Derived.Deep.RegionHeld3
import Derived.Deep.RegionWith
import Derived.Test.YtmekjbplodnldaaTreeKidsM
import Derived.Test.YtmekjbplodnldaaTreeMade
namespace Go.Proofs.Ytmekjbplodnldaa
open Go.RowKit

/-- What is kept of a text that is one tree. -/
def KOk (t : Tr) : Prop := Right t ∧ (∀ j ∈ toks t, GTok j) ∧ (pr t).length ≤ 500
def kidsRel (n : Nat) (w : World) (gh : Nat) (sv kv iv : Value) (wr : World) : Prop := ∃ (k : Nat) (ks : List Tr) (F : Nat → Prop), gh + k = n ∧ iv = .int .i64 (k : Int) ∧ sv = .string (str (40 :: seps true (ks.map pr))) ∧ OneM 24 w.heap.size F wr kv ks ∧ ks.length ≤ k ∧ k ≤ 8 ∧ (∀ t ∈ ks, KOk t) ∧ Below w.heap.size w wr
def PEF (r : Except (Nat × Nat) Tr) (w : World) (e : Ending) (w' : World) : Prop := ∃ (T : Tr) (y b : Nat) (kv : Value), e = .returned (.tuple #[trv T kv, .int .i64 (y : Int), .int .i64 (b : Int)]) ∧ TL (fun g => w.heap.size ≤ g ∧ g < w'.heap.size) w' kv T.kids ∧ Below w.heap.size w w' ∧ ((r = .ok T ∧ y = 0) ∨ (T = root ∧ r = .error (y, b) ∧ y ≠ 0))
theorem pef {L : List UInt8} {w w' : World} {e : Ending} (h : PE (parseR L) w e w') : PEF (parseR L) w e w' := by
  obtain ⟨h1, h2⟩ := h
  cases hr : parseR L with
  | ok t =>
    rw [hr] at h1
    obtain ⟨kv, he, ht⟩ := h1
    exact ⟨t, 0, 0, kv, he, ht, h2, .inl ⟨rfl, rfl⟩⟩
  | error yb =>
    obtain ⟨y, b⟩ := yb
    rw [hr] at h1
    exact ⟨root, y, b, .slice none 0 0, h1, TL.nil _ _, h2, .inr ⟨rfl, rfl, parse_no0 hr⟩⟩
theorem pef_len {L : List UInt8} {T : Tr} {y b : Nat} (h : (parseR L = .ok T ∧ y = 0) ∨ (T = root ∧ parseR L = .error (y, b) ∧ y ≠ 0)) : (pr T).length ≤ 1000000000000 := by
  rcases h with ⟨h, _⟩ | ⟨rfl, _, _⟩
  · have := (parse_ok h).2.2.2
    omega
  · rw [pr_eq]; decide

set_option maxHeartbeats 32000000 in
set_option maxRecDepth 1000000 in
theorem kids_walk (n c : Nat) (la : Option Addr) (xs : List ByteArray) (w : World) (hn : (n : Int) ≤ 9223372036854775807) (hxl : xs.length = n) (hl1 : 0 < n → ∃ b, la = some b) (hl2 : ∀ b, la = some b → 0 < n → b.block < w.heap.size ∧ ∀ (j : Nat) z, xs[j]? = some z → w.cell? (b.add j) = some (.string z)) :
    Calls Try.prog 7 #[.slice la n c] w (KnownE w) := by
  go_enter Try.func7, Try.ntmps7
  go_wp2
  go_loopg [3, 4, 5] n (fun gh sv kv iv wr => kidsRel n w gh sv kv iv wr)
  case atStart => exact ⟨0, [], _, rfl, rfl, rfl, OneM.nil _ _ _, by simp, by omega, by simp, Below.refl _ _⟩
  case round =>
    obtain ⟨k, ks, F, hgh, rfl, rfl, hM, hkl, hk8, hgd, hBw⟩ := hrel
    obtain ⟨ma, mc, rfl⟩ := hM.own.shape
    have hsw := hBw.size
    by_cases hk : k < n ∧ k < 8
    · obtain ⟨hkn, hk8'⟩ := hk
      have hki : (k : Int) < (n : Int) := by omega
      have hki8 : (k : Int) < 8 := by omega
      obtain ⟨b, rfl⟩ := hl1 (by omega)
      obtain ⟨hb1, hb2⟩ := hl2 b rfl (by omega)
      have hkx : k < xs.length := by omega
      have hcell := hb2 k xs[k] (List.getElem?_eq_getElem hkx)
      have hcell' : wr.cell? (b.add k) = some (.string xs[k]) := (hBw.cell (by rw [add_block']; exact hb1)).trans hcell
      have hp1 := fun w => (parse xs[k] w).mono (fun e w' h => pef h)
      generalize xs[k] = sx at *
      clear hcell hb2
      go_wp2_with fail
      refine (hp1 _).mono ?_
      rintro e w1 ⟨T, y, bb, kv1, rfl, ht1, hbw1, hr1⟩
      obtain ⟨ka, kc, rfl⟩ := ht1.shape
      unfold trv
      have hlT := pef_len hr1
      have hs1 := hbw1.size
      have ht6 : TL (fun g => wr.heap.size ≤ g ∧ g < w1.heap.size) (w1.alloc (.cells #[.int .i64 (T.kind : Int), .int .i64 (T.place : Int), .string (str T.text), .slice ka T.kids.length kc] 24)) (.slice ka T.kids.length kc) T.kids := ht1.kept ((Kept.refl (fun _ => False) w1).alloc _) (fun g hg => ⟨hg.2, fun h => h⟩)
      have hpT := print T (.slice ka T.kids.length kc) _ (w1.alloc (.cells #[.int .i64 (T.kind : Int), .int .i64 (T.place : Int), .string (str T.text), .slice ka T.kids.length kc] 24)) ht6 (fun g hg => by simp; omega) hlT
      unfold trv at hpT
      clear hp1
      go_wp2_with fail
      refine hpT.mono ?_
      rintro e w2 ⟨rfl, hbw2⟩
      have hs2 : w1.heap.size + 1 ≤ w2.heap.size := by have := hbw2.size; simpa using this
      have hp2 := fun w => (parse (str (pr T)) w).mono (fun e w' h => pef h)
      rw [str_data] at hp2
      clear hpT
      go_wp2_with fail
      refine (hp2 _).mono ?_
      rintro e w3 ⟨U, y2, b2, kv3, rfl, ht3, hbw3, hr2⟩
      obtain ⟨ua, uc, rfl⟩ := ht3.shape
      unfold trv
      have hlU := pef_len hr2
      have hs3 := hbw3.size
      have hbx6 : (w3.alloc (.cells #[.int .i64 (U.kind : Int), .int .i64 (U.place : Int), .string (str U.text), .slice ua U.kids.length uc] 24)).heap[w1.heap.size]? = some (.cells #[.int .i64 (T.kind : Int), .int .i64 (T.place : Int), .string (str T.text), .slice ka T.kids.length kc] 24) := by
        rw [Below.heap_alloc _ _ _ (by omega), hbw3.block _ (by omega), hbw2.block _ (by simp)]
        exact heap_alloc_new w1 _
      have hbx9 : (w3.alloc (.cells #[.int .i64 (U.kind : Int), .int .i64 (U.place : Int), .string (str U.text), .slice ua U.kids.length uc] 24)).heap[w3.heap.size]? = some (.cells #[.int .i64 (U.kind : Int), .int .i64 (U.place : Int), .string (str U.text), .slice ua U.kids.length uc] 24) := heap_alloc_new w3 _
      have hsz : Hid ((w3.alloc (.cells #[.int .i64 (U.kind : Int), .int .i64 (U.place : Int), .string (str U.text), .slice ua U.kids.length uc] 24)).heap.size = w3.heap.size + 1) := by simp [Hid]
      have K13 : Kept (fun _ => False) w1 (w3.alloc (.cells #[.int .i64 (U.kind : Int), .int .i64 (U.place : Int), .string (str U.text), .slice ua U.kids.length uc] 24)) := ((((Kept.refl _ w1).alloc (.cells #[.int .i64 (T.kind : Int), .int .i64 (T.place : Int), .string (str T.text), .slice ka T.kids.length kc] 24)).trans ((Kept.of_below hbw2).mono (T := fun _ => False) (fun k hk h => by omega)) (fun _ _ h => h) (fun _ _ h => h)).trans ((Kept.of_below hbw3).mono (T := fun _ => False) (fun k hk h => by omega)) (fun _ _ h => h) (fun _ _ h => h)).alloc _
      have Kr : Kept (fun _ => False) wr (w3.alloc (.cells #[.int .i64 (U.kind : Int), .int .i64 (U.place : Int), .string (str U.text), .slice ua U.kids.length uc] 24)) := ((Kept.of_below hbw1).mono (T := fun _ => False) (fun k hk h => by omega)).trans K13 (fun _ _ h => h) (fun _ _ h => h)
      have hT1 := ht1.kept K13 (fun g hg => ⟨hg.2, fun h => h⟩)
      have hU1 := ht3.kept ((Kept.refl (fun _ => False) w3).alloc (.cells #[.int .i64 (U.kind : Int), .int .i64 (U.place : Int), .string (str U.text), .slice ua U.kids.length uc] 24)) (fun g hg => ⟨hg.2, fun h => h⟩)
      have hBW : Below w.heap.size w (w3.alloc (.cells #[.int .i64 (U.kind : Int), .int .i64 (U.place : Int), .string (str U.text), .slice ua U.kids.length uc] 24)) := hBw.trans (Kr.below hsw (fun _ _ h => h))
      have hMW := hM.grow (G := fun _ => False) Kr hsw (fun _ h => h.elim)
      have hsu : ∀ u, Below (w3.heap.size + 1) (w3.alloc (.cells #[.int .i64 (U.kind : Int), .int .i64 (U.place : Int), .string (str U.text), .slice ua U.kids.length uc] 24)) u → w3.heap.size + 1 ≤ u.heap.size := fun u hu => by have := hu.size; rw [hsz.out] at this; exact this
      have hS : ∀ u, Below (w3.heap.size + 1) (w3.alloc (.cells #[.int .i64 (U.kind : Int), .int .i64 (U.place : Int), .string (str U.text), .slice ua U.kids.length uc] 24)) u → u.cell? ⟨w1.heap.size, 0, none⟩ = some (.int .i64 (T.kind : Int)) ∧ u.cell? ⟨w1.heap.size, 1, none⟩ = some (.int .i64 (T.place : Int)) ∧ u.cell? ⟨w1.heap.size, 2, none⟩ = some (.string (str T.text)) ∧ u.cell? ⟨w1.heap.size, 3, none⟩ = some (.slice ka T.kids.length kc) ∧ u.cell? ⟨w3.heap.size, 0, none⟩ = some (.int .i64 (U.kind : Int)) ∧ u.cell? ⟨w3.heap.size, 1, none⟩ = some (.int .i64 (U.place : Int)) ∧ u.cell? ⟨w3.heap.size, 2, none⟩ = some (.string (str U.text)) ∧ u.cell? ⟨w3.heap.size, 3, none⟩ = some (.slice ua U.kids.length uc) := by
        intro u hu
        obtain ⟨d0, d1, d2, d3, _⟩ := four_cells ((hu.block w1.heap.size (by omega)).trans hbx6)
        obtain ⟨e0, e1, e2, e3, _⟩ := four_cells ((hu.block w3.heap.size (by omega)).trans hbx9)
        exact ⟨d0, d1, d2, d3, e0, e1, e2, e3⟩
      have hT2 : ∀ u, Below (w3.heap.size + 1) (w3.alloc (.cells #[.int .i64 (U.kind : Int), .int .i64 (U.place : Int), .string (str U.text), .slice ua U.kids.length uc] 24)) u → TL (fun g => wr.heap.size ≤ g ∧ g < w1.heap.size) u (.slice ka T.kids.length kc) T.kids := fun u hu => hT1.kept (Kept.of_below hu) (fun g hg => ⟨by rw [hsz.out]; omega, by omega⟩)
      have hPT : ∀ u, Below (w3.heap.size + 1) (w3.alloc (.cells #[.int .i64 (U.kind : Int), .int .i64 (U.place : Int), .string (str U.text), .slice ua U.kids.length uc] 24)) u → Calls Try.prog 9 #[trv T (.slice ka T.kids.length kc)] u (TextE (pr T) u) := fun u hu => print T _ _ u (hT2 u hu) (fun g hg => by have := hsu u hu; omega) hlT
      have hPU : ∀ u, Below (w3.heap.size + 1) (w3.alloc (.cells #[.int .i64 (U.kind : Int), .int .i64 (U.place : Int), .string (str U.text), .slice ua U.kids.length uc] 24)) u → Calls Try.prog 9 #[trv U (.slice ua U.kids.length uc)] u (TextE (pr U) u) := fun u hu => print U _ _ u (hU1.kept (Kept.of_below hu) (fun g hg => ⟨by rw [hsz.out]; omega, by omega⟩)) (fun g hg => by have := hsu u hu; omega) hlU
      have hnext : ∀ u u', Below (w3.heap.size + 1) (w3.alloc (.cells #[.int .i64 (U.kind : Int), .int .i64 (U.place : Int), .string (str U.text), .slice ua U.kids.length uc] 24)) u → Below u.heap.size u u' → Below (w3.heap.size + 1) (w3.alloc (.cells #[.int .i64 (U.kind : Int), .int .i64 (U.place : Int), .string (str U.text), .slice ua U.kids.length uc] 24)) u' := fun u u' hu h => hu.trans (h.mono (hsu u hu))
      have hM1 : ∀ u, Below (w3.heap.size + 1) (w3.alloc (.cells #[.int .i64 (U.kind : Int), .int .i64 (U.place : Int), .string (str U.text), .slice ua U.kids.length uc] 24)) u → OneM 24 w.heap.size (fun g => F g ∨ False) u (.slice ma ks.length mc) ks := fun u hu => by
        have K := (Kept.of_below hu).mono (T := fun _ => False) (fun k hk h => by rw [hsz.out] at hk; omega)
        exact ⟨hMW.own.kept K (fun g hg => ⟨(hMW.lies g hg).2, fun h => h⟩) (fun _ _ h => h), fun g hg => ⟨(hMW.lies g hg).1, Nat.lt_of_lt_of_le (hMW.lies g hg).2 K.size⟩, hMW.far⟩
      have hBx : ∀ u, Below (w3.heap.size + 1) (w3.alloc (.cells #[.int .i64 (U.kind : Int), .int .i64 (U.place : Int), .string (str U.text), .slice ua U.kids.length uc] 24)) u → Below w.heap.size w u := fun u hu => hBW.trans (hu.mono (by omega))
      have hbq : ∀ u, Below (w3.heap.size + 1) (w3.alloc (.cells #[.int .i64 (U.kind : Int), .int .i64 (U.place : Int), .string (str U.text), .slice ua U.kids.length uc] 24)) u → u.heap[w1.heap.size]? = some (.cells #[.int .i64 (T.kind : Int), .int .i64 (T.place : Int), .string (str T.text), .slice ka T.kids.length kc] 24) := fun u hu => (hu.block w1.heap.size (by omega)).trans hbx6
      have hfar : ∀ g, (Value.slice ma ks.length mc).ownBlock = some g → g < wr.heap.size := fun g hg => (hM.own.lt g hg).2
      have G0 : Below (w3.heap.size + 1) (w3.alloc (.cells #[.int .i64 (U.kind : Int), .int .i64 (U.place : Int), .string (str U.text), .slice ua U.kids.length uc] 24)) (w3.alloc (.cells #[.int .i64 (U.kind : Int), .int .i64 (U.place : Int), .string (str U.text), .slice ua U.kids.length uc] 24)).drew := (Below.refl _ _).drew
      unfold trv at hPT hPU
      clear ht1 ht3 ht6 hbw1 hbw2 hbw3 K13 Kr hT1 hU1 hBW hMW hM hbx6 hbx9 hp2 hBw hcell' hlU
      obtain ⟨d0, d1, d2, d3, e0, e1, e2, e3⟩ := hS _ G0
      go_upto_region 8 with fail
      generalize hWq : (w3.alloc (.cells #[.int .i64 (U.kind : Int), .int .i64 (U.place : Int), .string (str U.text), .slice ua U.kids.length uc] 24)) = Wq at *
      clear hWq
      rcases hr1 with ⟨hr1, rfl⟩ | ⟨hx1, hx2, hy⟩
      · obtain ⟨hRT, _, hGT, _⟩ := parse_ok hr1
        rcases hr2 with ⟨hr2, rfl⟩ | ⟨hx1, hx2, hy2⟩
        · have hst := parse_again hRT hGT hr2
          have hpe : pr U = pr T := (pr_strip T U hst).symm
          rw [hpe] at hPU
          have hss : (str (pr T)).size = (pr T).length := str_size _
          clear hr1 hr2 hpe hst
          by_cases h5 : 500 < (pr T).length
          · have h5' : (500 : Int) < ((pr T).length : Int) := by omega
            have h5d : decide ((500 : Int) < ((pr T).length : Int)) = true := by simp; omega
            have h5e : decide ((500 : Int) < ((str (pr T)).size : Int)) = true := by rw [hss]; exact h5d
            go_cut [61] from 43 to 61 (fun c wx => c = .bool true ∧ Below (w3.heap.size + 1) Wq wx)
            case first =>
              first | (go_region_with (first | (go_at_call_of 9 (str T.text); refine (hPT _ (by assumption)).mono ?_; rintro e w5 ⟨rfl, hb5⟩; have G5 := hnext _ _ (by assumption) hb5; obtain ⟨d0, d1, d2, d3, e0, e1, e2, e3⟩ := hS _ G5; clear hb5) | (go_at_call_of 9 (str U.text); refine (hPU _ (by assumption)).mono ?_; rintro e w6 ⟨rfl, hb6⟩; have G6 := hnext _ _ (by assumption) hb6; obtain ⟨d0, d1, d2, d3, e0, e1, e2, e3⟩ := hS _ G6; clear hb6))) | fail
              all_goals (
                go_wp2_with fail
                go_meet
                exact ⟨rfl, by assumption⟩)
            case rest =>
              obtain ⟨rfl, hGc⟩ := hcut
              have hMz := hM1 _ hGc
              have hBz := hBx _ hGc
              clear hS hPT hPU hnext hM1 hBx hsu hT2 hbq d0 d1 d2 d3 e0 e1 e2 e3
              go_wp2
              go_roundg (n - (k + 1))
              case measure => omega
              case rel => exact ⟨k + 1, ks, _, by omega, by go_num, rfl, hMz, by omega, by omega, hgd, hBz⟩
          · have h5' : ¬ (500 : Int) < ((pr T).length : Int) := by omega
            have h5d : decide ((500 : Int) < ((pr T).length : Int)) = false := by simp; omega
            have h5e : decide ((500 : Int) < ((str (pr T)).size : Int)) = false := by rw [hss]; exact h5d
            go_cut [61] from 43 to 61 (fun c wx => c = .bool false ∧ Below (w3.heap.size + 1) Wq wx)
            case first =>
              first | (go_region_with (first | (go_at_call_of 9 (str T.text); refine (hPT _ (by assumption)).mono ?_; rintro e w5 ⟨rfl, hb5⟩; have G5 := hnext _ _ (by assumption) hb5; obtain ⟨d0, d1, d2, d3, e0, e1, e2, e3⟩ := hS _ G5; clear hb5) | (go_at_call_of 9 (str U.text); refine (hPU _ (by assumption)).mono ?_; rintro e w6 ⟨rfl, hb6⟩; have G6 := hnext _ _ (by assumption) hb6; obtain ⟨d0, d1, d2, d3, e0, e1, e2, e3⟩ := hS _ G6; clear hb6))) | fail
              all_goals (
                go_wp2_with fail
                go_meet
                exact ⟨rfl, by assumption⟩)
            case rest =>
              obtain ⟨rfl, hGc⟩ := hcut
              obtain ⟨d0, d1, d2, d3, e0, e1, e2, e3⟩ := hS _ hGc
              have hsc := hsu _ hGc
              have hMc := hM1 _ hGc
              have hTc := hT2 _ hGc
              have hBc := hBx _ hGc
              have hb6 := hbq _ hGc
              clear hS hPT hPU hnext hM1 hBx hsu hT2 hbq
              obtain ⟨vs, v1, v2, v3⟩ := grow_pack3 (.cells #[.int .i64 (T.kind : Int), .int .i64 (T.place : Int), .string (str T.text), .slice ka T.kids.length kc] 24) hMc hsw (by omega) hfar hTc
              have hE : Hid (str (40 :: seps true (ks.map pr)) ++ ⟨#[32]⟩ ++ str (pr T) = str (40 :: seps true ((ks ++ [T]).map pr))) := seps_push ks T
              have hsl : (40 :: seps true (ks.map pr)).length ≤ 5000 := by
                have := seps_len ks (fun t ht => (hgd t ht).2.2)
                rw [List.length_cons]
                omega
              have hgd' : ∀ t ∈ ks ++ [T], KOk t := fun t ht => by
                rcases List.mem_append.1 ht with h | h
                · exact hgd t h
                · rw [List.mem_singleton.1 h]; exact ⟨hRT, hGT, by omega⟩
              have hll : (ks ++ [T]).length ≤ k + 1 := by simp; omega
              generalize hacc : 40 :: seps true (ks.map pr) = acc at *
              have hsa : (str acc).size = acc.length := str_size _
              have hs2 : (str acc ++ ⟨#[32]⟩).size = acc.length + 1 := by rw [show (⟨#[32]⟩ : ByteArray) = str [32] from rfl, str_append, str_size]; simp
              clear hMc hTc
              go_wp2_with (at_builtin; refine append_tree rfl (.tmp 62) (.tmp 64) rfl w.heap.size _ _ _ rfl v2 _ _ (trc T (.slice ka T.kids.length kc)) rfl rfl ?src (trc_one _ _ rfl) ?len ?hB (wc.heap.size + 1) (by simp) ?next)
              case src => first | exact fun j u h => h | exact cells_at _ _ _ rfl | exact cells_at _ _ _ (by simp) | exact cells_new _ _ _
              case len => omega
              case hB => first | omega | (simp; omega) | (have hA := ((Kept.refl (fun _ => False) wc).alloc (.cells #[.int .i64 (T.kind : Int), .int .i64 (T.place : Int), .string (str T.text), .slice ka T.kids.length kc] 24)).size; omega)
              case next =>
                intro g' cap' w' j1 j2 j3 j4
                obtain ⟨⟨F', hM7⟩, hT7, hb7, K7⟩ := v3 g' cap' w' j1 j2 j3
                have hs7 := K7.size
                obtain ⟨r0, r1, r2, r3, _⟩ := four_cells ((hb7 w1.heap.size hs1 (by omega)).trans hb6)
                have hp7 := print T _ _ w' hT7 (fun g hg => by omega) hlT
                have hB7 : Below w.heap.size w w' := hBc.trans (K7.below (by omega) (fun x hx h => by omega))
                unfold trv at hp7
                clear v3 v2 v1 j1 j2 j3 j4 hb7 hT7 K7 hBc d0 d1 d2 d3 e0 e1 e2 e3
                go_wp2_with fail
                refine hp7.mono ?_
                rintro e w8 ⟨rfl, hb8⟩
                have K8 : Kept (fun _ => False) w' w8 := (Kept.of_below hb8).mono (fun k hk h => by omega)
                have hM8 := hM7.grow (G := fun _ => False) K8 (by omega) (fun _ h => h.elim)
                have hB8 : Below w.heap.size w w8 := hB7.trans (K8.below (by omega) (fun _ _ h => h))
                clear hM7 hb8 hp7 hB7 K8 r0 r1 r2 r3
                go_wp2
                go_roundg (n - (k + 1))
                case measure => omega
                case rel => exact ⟨k + 1, ks ++ [T], _, by omega, by go_num, by first | exact congrArg Value.string hE.out | rw [hE.out], by rw [List.length_append, List.length_singleton] at *; exact hM8, hll, by omega, hgd', hB8⟩
        · have hy2' : ((y2 : Int) != 0) = true := by rw [bne_iff_ne]; omega
          clear hr1 hx1 hx2
          go_cut [61] from 43 to 61 (fun c wx => c = .bool true ∧ Below (w3.heap.size + 1) Wq wx)
          case first =>
            first | (go_region_with (first | (go_at_call_of 9 (str T.text); refine (hPT _ (by assumption)).mono ?_; rintro e w5 ⟨rfl, hb5⟩; have G5 := hnext _ _ (by assumption) hb5; obtain ⟨d0, d1, d2, d3, e0, e1, e2, e3⟩ := hS _ G5; clear hb5) | (go_at_call_of 9 (str U.text); refine (hPU _ (by assumption)).mono ?_; rintro e w6 ⟨rfl, hb6⟩; have G6 := hnext _ _ (by assumption) hb6; obtain ⟨d0, d1, d2, d3, e0, e1, e2, e3⟩ := hS _ G6; clear hb6))) | fail
            all_goals (
              go_wp2_with fail
              go_meet
              exact ⟨rfl, by assumption⟩)
          case rest =>
            obtain ⟨rfl, hGc⟩ := hcut
            have hMz := hM1 _ hGc
            have hBz := hBx _ hGc
            clear hS hPT hPU hnext hM1 hBx hsu hT2 hbq d0 d1 d2 d3 e0 e1 e2 e3
            go_wp2
            go_roundg (n - (k + 1))
            case measure => omega
            case rel => exact ⟨k + 1, ks, _, by omega, by go_num, rfl, hMz, by omega, by omega, hgd, hBz⟩
      · have hy' : ((y : Int) != 0) = true := by rw [bne_iff_ne]; omega
        clear hr2 hx1 hx2
        go_cut [61] from 43 to 61 (fun c wx => c = .bool true ∧ Below (w3.heap.size + 1) Wq wx)
        case first =>
          first | (go_region_with (first | (go_at_call_of 9 (str T.text); refine (hPT _ (by assumption)).mono ?_; rintro e w5 ⟨rfl, hb5⟩; have G5 := hnext _ _ (by assumption) hb5; obtain ⟨d0, d1, d2, d3, e0, e1, e2, e3⟩ := hS _ G5; clear hb5) | (go_at_call_of 9 (str U.text); refine (hPU _ (by assumption)).mono ?_; rintro e w6 ⟨rfl, hb6⟩; have G6 := hnext _ _ (by assumption) hb6; obtain ⟨d0, d1, d2, d3, e0, e1, e2, e3⟩ := hS _ G6; clear hb6))) | fail
          all_goals (
            go_wp2_with fail
            go_meet
            exact ⟨rfl, by assumption⟩)
        case rest =>
          obtain ⟨rfl, hGc⟩ := hcut
          have hMz := hM1 _ hGc
          have hBz := hBx _ hGc
          clear hS hPT hPU hnext hM1 hBx hsu hT2 hbq d0 d1 d2 d3 e0 e1 e2 e3
          go_wp2
          go_roundg (n - (k + 1))
          case measure => omega
          case rel => exact ⟨k + 1, ks, _, by omega, by go_num, rfl, hMz, by omega, by omega, hgd, hBz⟩
    · by_cases hkn : (k : Int) < (n : Int)
      · have hki8 : ¬ (k : Int) < 8 := by omega
        have hTL := hM.shut (lo := w.heap.size) (Nat.le_refl _)
        have hlen : (seps true (ks.map pr)).length + 2 ≤ 8192 := by
          have := seps_len ks (fun t ht => (hgd t ht).2.2)
          omega
        have hss : (str (40 :: seps true (ks.map pr))).size = (seps true (ks.map pr)).length + 1 := by rw [str_size]; rfl
        have hps : ∀ w, Calls Try.prog 8 #[.string (str (40 :: seps true (ks.map pr)) ++ ⟨#[41]⟩)] w (PE (parseR (40 :: (seps true (ks.map pr) ++ [41]))) w) := fun w => by
          have h := parse (str (40 :: (seps true (ks.map pr) ++ [41]))) w
          rw [str_data] at h
          rw [show (⟨#[41]⟩ : ByteArray) = str [41] from rfl, str_append]
          exact h
        have hpk := parse_kids (fun k hk => ⟨(hgd k hk).1, (hgd k hk).2.1⟩) hlen
        have hlp : (pr (openOf ks)).length ≤ 10000 := by
          have h1 := seps_len ks (fun t ht => (hgd t ht).2.2)
          have h2 := seps_bool (ks.map pr)
          rw [← upK_all (openOf ks) rfl, upK, openOf, List.take_length, List.length_append, List.length_cons]
          simp only [List.length_cons, List.length_nil]
          omega
        have hkd := fun k (h : k < ks.length) => (hgd ks[k] (List.getElem_mem h)).2.2
        have hkl8 : ks.length ≤ 8 := by omega
        clear hgd hM hl1 hl2
        generalize seps true (ks.map pr) = sp' at *
        rcases hpk with ⟨b, hpe⟩ | ⟨t, hpe, k1, hst⟩
        · rw [hpe] at hps
          go_wp2_with fail
          refine (hps _).mono ?_
          rintro e w1 ⟨rfl, hb1⟩
          have hB1 := hBw.trans (hb1.mono hsw)
          have hB1a := hB1.alloc hB1.size (.cells #[.int .i64 0, .int .i64 0, .string ⟨#[]⟩, .slice none 0 0] 24)
          unfold trv
          clear hps hpe hb1
          go_wp2_with fail
          refine (known _).mono ?_
          rintro e w2 ⟨rfl, hb2⟩
          have hB2 := hB1a.trans (hb2.mono hB1a.size)
          go_wp2
          go_ret
          exact ⟨rfl, hB2⟩
        · rw [hpe] at hps
          go_wp2_with fail
          refine (hps _).mono ?_
          rintro e w1 ⟨⟨kv1, rfl, ht1⟩, hb1⟩
          obtain ⟨ta, tc', rfl⟩ := ht1.shape
          unfold trv
          have hs1 := hb1.size
          have hll : Hid (t.kids.length = ks.length) := strip_len hst
          have s2 : ((t.kids.length : Int) != (ks.length : Int)) = false := by rw [bne_eq_false_iff_eq, hll.out]
          have s1 : ((t.kind : Int) != 1) = false := by rw [bne_eq_false_iff_eq]; omega
          have hpt : pr t = pr (openOf ks) := pr_kids k1 rfl hst
          have hbx : (w1.alloc (.cells #[.int .i64 (t.kind : Int), .int .i64 (t.place : Int), .string (str t.text), .slice ta t.kids.length tc'] 24)).heap[w1.heap.size]? = some (.cells #[.int .i64 (t.kind : Int), .int .i64 (t.place : Int), .string (str t.text), .slice ta t.kids.length tc'] 24) := heap_alloc_new w1 _
          have hsz : Hid ((w1.alloc (.cells #[.int .i64 (t.kind : Int), .int .i64 (t.place : Int), .string (str t.text), .slice ta t.kids.length tc'] 24)).heap.size = w1.heap.size + 1) := by simp [Hid]
          have K1 : Kept (fun _ => False) wr (w1.alloc (.cells #[.int .i64 (t.kind : Int), .int .i64 (t.place : Int), .string (str t.text), .slice ta t.kids.length tc'] 24)) := ((Kept.of_below hb1).mono (T := fun _ => False) (fun k hk h => by omega)).alloc _
          have hB1 : Below w.heap.size w (w1.alloc (.cells #[.int .i64 (t.kind : Int), .int .i64 (t.place : Int), .string (str t.text), .slice ta t.kids.length tc'] 24)) := hBw.trans (K1.below hsw (fun _ _ h => h))
          have htk := hTL.kept K1 (fun g hg => ⟨hg.2, fun h => h⟩)
          have htt := ht1.kept ((Kept.refl (fun _ => False) w1).alloc (.cells #[.int .i64 (t.kind : Int), .int .i64 (t.place : Int), .string (str t.text), .slice ta t.kids.length tc'] 24)) (fun g hg => ⟨hg.2, fun h => h⟩)
          have hup := upK_step (openOf ks)
          have hul := upK_le (openOf ks) rfl
          have hua : Hid (str (upK (openOf ks) ks.length) ++ ⟨#[41]⟩ = str (pr t)) := by
            rw [Hid, show (⟨#[41]⟩ : ByteArray) = str [41] from rfl, str_append]
            exact congrArg str ((upK_all (openOf ks) rfl).trans hpt.symm)
          have hlt : (pr t).length ≤ 10000 := by rw [hpt]; exact hlp
          have hsp := strip_pr hst
          have hsu : ∀ u, Below (w1.heap.size + 1) (w1.alloc (.cells #[.int .i64 (t.kind : Int), .int .i64 (t.place : Int), .string (str t.text), .slice ta t.kids.length tc'] 24)) u → w1.heap.size + 1 ≤ u.heap.size := fun u hu => by have := hu.size; rw [hsz.out] at this; exact this
          have hnext : ∀ u u', Below (w1.heap.size + 1) (w1.alloc (.cells #[.int .i64 (t.kind : Int), .int .i64 (t.place : Int), .string (str t.text), .slice ta t.kids.length tc'] 24)) u → Below u.heap.size u u' → Below (w1.heap.size + 1) (w1.alloc (.cells #[.int .i64 (t.kind : Int), .int .i64 (t.place : Int), .string (str t.text), .slice ta t.kids.length tc'] 24)) u' := fun u u' hu h => hu.trans (h.mono (hsu u hu))
          have hBx : ∀ u, Below (w1.heap.size + 1) (w1.alloc (.cells #[.int .i64 (t.kind : Int), .int .i64 (t.place : Int), .string (str t.text), .slice ta t.kids.length tc'] 24)) u → Below w.heap.size w u := fun u hu => hB1.trans (hu.mono (by omega))
          have hPt : ∀ u, Below (w1.heap.size + 1) (w1.alloc (.cells #[.int .i64 (t.kind : Int), .int .i64 (t.place : Int), .string (str t.text), .slice ta t.kids.length tc'] 24)) u → Calls Try.prog 9 #[trv t (.slice ta t.kids.length tc')] u (TextE (pr t) u) := fun u hu => print t _ _ u (htt.kept (Kept.of_below hu) (fun g hg => ⟨by rw [hsz.out]; omega, by omega⟩)) (fun g hg => by have := hsu u hu; omega) (by omega)
          have hbt : ∀ u, Below (w1.heap.size + 1) (w1.alloc (.cells #[.int .i64 (t.kind : Int), .int .i64 (t.place : Int), .string (str t.text), .slice ta t.kids.length tc'] 24)) u → u.heap[w1.heap.size]? = some (.cells #[.int .i64 (t.kind : Int), .int .i64 (t.place : Int), .string (str t.text), .slice ta t.kids.length tc'] 24) := fun u hu => (hu.block w1.heap.size (by omega)).trans hbx
          have hG0 : Below (w1.heap.size + 1) (w1.alloc (.cells #[.int .i64 (t.kind : Int), .int .i64 (t.place : Int), .string (str t.text), .slice ta t.kids.length tc'] 24)) (w1.alloc (.cells #[.int .i64 (t.kind : Int), .int .i64 (t.place : Int), .string (str t.text), .slice ta t.kids.length tc'] 24)) := Below.refl _ _
          unfold trv at hPt
          clear hps hpe ht1 hb1 K1 hst hTL hBw hB1 k1 hpt
          go_wp2
          generalize hW1 : w1.alloc (.cells #[.int .i64 (t.kind : Int), .int .i64 (t.place : Int), .string (str t.text), .slice ta t.kids.length tc'] 24) = W1 at *
          clear hW1
          go_loopg [15, 16] ks.length (fun gh pv iv wq => ∃ (j : Nat), gh + j = ks.length ∧ iv = .int .i64 (j : Int) ∧ pv = .string (str (upK (openOf ks) j)) ∧ Below (w1.heap.size + 1) W1 wq)
          case atStart => exact ⟨0, rfl, rfl, rfl, hG0⟩
          case round =>
            obtain ⟨j, hgj, rfl, rfl, hGq⟩ := hrel
            have hsq := hsu _ hGq
            by_cases hj : j < ks.length
            · have hji : (j : Int) < (ks.length : Int) := by omega
              have hjt : j < t.kids.length := by rw [hll.out]; exact hj
              have hjti : (j : Int) < (t.kids.length : Int) := by omega
              obtain ⟨gk, ck, kvk, hkv, hgk, hkt, a0, a1, a2, a3⟩ := htk.at j hj
              cases hkv
              obtain ⟨ea, ec, rfl⟩ := hkt.shape
              obtain ⟨gt, ct, kvt, hkv, hgt, htt3, b0, b1, b2, b3⟩ := htt.at j hjt
              cases hkv
              obtain ⟨fa, fc, rfl⟩ := htt3.shape
              obtain ⟨hpj, hkj⟩ := hsp j hjt hj
              have hst := hup j hj
              have hle1 := hul j
              have hkl : (pr ks[j]).length ≤ 500 := hkd j hj
              have hkjb : ((t.kids[j].kind : Int) != (ks[j].kind : Int)) = false := by rw [bne_eq_false_iff_eq, hkj]
              have hPX : ∀ u, Below (w1.heap.size + 1) W1 u → Calls Try.prog 9 #[trv t.kids[j] (.slice fa t.kids[j].kids.length fc)] u (TextE (pr ks[j]) u) := fun u hu => by
                rw [← hpj]
                exact print t.kids[j] _ _ u (htt3.kept (Kept.of_below hu) (fun g hg => ⟨by rw [hsz.out]; omega, by omega⟩)) (fun g hg => by have := hsu u hu; omega) (by rw [hpj]; omega)
              have hPY : ∀ u, Below (w1.heap.size + 1) W1 u → Calls Try.prog 9 #[trv ks[j] (.slice ea ks[j].kids.length ec)] u (TextE (pr ks[j]) u) := fun u hu => print ks[j] _ _ u (hkt.kept (Kept.of_below hu) (fun g hg => ⟨by rw [hsz.out]; omega, by omega⟩)) (fun g hg => by have := hsu u hu; omega) (by omega)
              have hcX : ∀ u, Below (w1.heap.size + 1) W1 u → u.cell? ⟨w1.heap.size, 3, none⟩ = some (.slice (some ⟨gt, 0, none⟩) t.kids.length tc') := fun u hu => (four_cells (hbt u hu)).2.2.2.1
              have hel : (openOf ks).kids[j] = ks[j] := rfl
              rw [hel] at hst
              unfold trv at hPX hPY
              clear htk htt hkt htt3 hsp hup hul hkd hpj hkj hel hPt
              generalize t.kids[j] = X at *
              generalize ks[j] = Y at *
              generalize t.kids.length = N at *
              have hS : ∀ u, Below (w1.heap.size + 1) W1 u → u.cell? ⟨gk, j * 4, none⟩ = some (.int .i64 (Y.kind : Int)) ∧ u.cell? ⟨gk, j * 4 + 1, none⟩ = some (.int .i64 (Y.place : Int)) ∧ u.cell? ⟨gk, j * 4 + 2, none⟩ = some (.string (str Y.text)) ∧ u.cell? ⟨gk, j * 4 + 3, none⟩ = some (.slice ea Y.kids.length ec) ∧ u.cell? ⟨gt, j * 4, none⟩ = some (.int .i64 (X.kind : Int)) ∧ u.cell? ⟨gt, j * 4 + 1, none⟩ = some (.int .i64 (X.place : Int)) ∧ u.cell? ⟨gt, j * 4 + 2, none⟩ = some (.string (str X.text)) ∧ u.cell? ⟨gt, j * 4 + 3, none⟩ = some (.slice fa X.kids.length fc) ∧ u.cell? ⟨w1.heap.size, 3, none⟩ = some (.slice (some ⟨gt, 0, none⟩) N tc') := fun u hu => ⟨(hu.cell (show gk < w1.heap.size + 1 by omega)).trans a0, (hu.cell (show gk < w1.heap.size + 1 by omega)).trans a1, (hu.cell (show gk < w1.heap.size + 1 by omega)).trans a2, (hu.cell (show gk < w1.heap.size + 1 by omega)).trans a3, (hu.cell (show gt < w1.heap.size + 1 by omega)).trans b0, (hu.cell (show gt < w1.heap.size + 1 by omega)).trans b1, (hu.cell (show gt < w1.heap.size + 1 by omega)).trans b2, (hu.cell (show gt < w1.heap.size + 1 by omega)).trans b3, hcX u hu⟩
              obtain ⟨d0, d1, d2, d3, e0, e1, e2, e3, f3⟩ := hS _ hGq
              have hsa : (str (upK (openOf ks) j)).size = (upK (openOf ks) j).length := str_size _
              have hs1 : (str (pr Y)).size = (pr Y).length := str_size _
              clear a0 a1 a2 a3 b0 b1 b2 b3 hcX hbt hbx hG0
              by_cases k0 : 0 < j
              · have k0' : (0 : Int) < (j : Int) := by omega
                rw [if_pos k0] at hst
                have hE : Hid (str (upK (openOf ks) j) ++ ⟨#[32]⟩ ++ str (pr Y) = str (upK (openOf ks) (j + 1))) := by
                  rw [Hid, hst, show (⟨#[32]⟩ : ByteArray) = str [32] from rfl, str_append, str_append, List.append_assoc]
                have hs2 : (str (upK (openOf ks) j) ++ ⟨#[32]⟩).size = (upK (openOf ks) j).length + 1 := by rw [show (⟨#[32]⟩ : ByteArray) = str [32] from rfl, str_append, str_size]; simp
                clear hst
                generalize upK (openOf ks) j = acc at *
                go_wp2_with fail
                refine (hPY _ hGq).mono ?_
                rintro e w5 ⟨rfl, hw5⟩
                have Gw5 := hnext _ _ hGq hw5
                obtain ⟨d0, d1, d2, d3, e0, e1, e2, e3, f3⟩ := hS _ Gw5
                have Gd5 : Below (w1.heap.size + 1) W1 w5.drew := Gw5.drew
                clear hw5
                go_wp2
                go_region_held3 (fun u => u.cell? ⟨gk, j * 4, none⟩ = some (.int .i64 (Y.kind : Int)) ∧ u.cell? ⟨gk, j * 4 + 1, none⟩ = some (.int .i64 (Y.place : Int)) ∧ u.cell? ⟨gk, j * 4 + 2, none⟩ = some (.string (str Y.text)) ∧ u.cell? ⟨gk, j * 4 + 3, none⟩ = some (.slice ea Y.kids.length ec) ∧ u.cell? ⟨gt, j * 4, none⟩ = some (.int .i64 (X.kind : Int)) ∧ u.cell? ⟨gt, j * 4 + 1, none⟩ = some (.int .i64 (X.place : Int)) ∧ u.cell? ⟨gt, j * 4 + 2, none⟩ = some (.string (str X.text)) ∧ u.cell? ⟨gt, j * 4 + 3, none⟩ = some (.slice fa X.kids.length fc) ∧ u.cell? ⟨w1.heap.size, 3, none⟩ = some (.slice (some ⟨gt, 0, none⟩) N tc')) (first | go_keep | exact hS _ (by assumption)) (first | (go_at_call_of 9 (str X.text); refine (hPX _ (by assumption)).mono ?_; rintro e w7 ⟨rfl, hw7⟩; have Gw7 := hnext _ _ (by assumption) hw7; obtain ⟨d0, d1, d2, d3, e0, e1, e2, e3, f3⟩ := hS _ Gw7; clear hw7) | (go_at_call_of 9 (str Y.text); refine (hPY _ (by assumption)).mono ?_; rintro e w8 ⟨rfl, hw8⟩; have Gw8 := hnext _ _ (by assumption) hw8; obtain ⟨d0, d1, d2, d3, e0, e1, e2, e3, f3⟩ := hS _ Gw8; clear hw8))
                all_goals (
                  clear hS hPX hPY
                  go_wp2
                  go_roundg (ks.length - (j + 1))
                  case measure => omega
                  case rel => exact ⟨j + 1, by omega, by go_num, by first | exact congrArg Value.string hE.out | rw [hE.out], by assumption⟩)
              · have k0' : ¬ (0 : Int) < (j : Int) := by omega
                rw [if_neg k0, List.nil_append] at hst
                have hE : Hid (str (upK (openOf ks) j) ++ str (pr Y) = str (upK (openOf ks) (j + 1))) := by
                  rw [Hid, hst, str_append]
                clear hst
                generalize upK (openOf ks) j = acc at *
                go_wp2_with fail
                refine (hPY _ hGq).mono ?_
                rintro e w5 ⟨rfl, hw5⟩
                have Gw5 := hnext _ _ hGq hw5
                obtain ⟨d0, d1, d2, d3, e0, e1, e2, e3, f3⟩ := hS _ Gw5
                have Gd5 : Below (w1.heap.size + 1) W1 w5.drew := Gw5.drew
                clear hw5
                go_wp2
                go_region_held3 (fun u => u.cell? ⟨gk, j * 4, none⟩ = some (.int .i64 (Y.kind : Int)) ∧ u.cell? ⟨gk, j * 4 + 1, none⟩ = some (.int .i64 (Y.place : Int)) ∧ u.cell? ⟨gk, j * 4 + 2, none⟩ = some (.string (str Y.text)) ∧ u.cell? ⟨gk, j * 4 + 3, none⟩ = some (.slice ea Y.kids.length ec) ∧ u.cell? ⟨gt, j * 4, none⟩ = some (.int .i64 (X.kind : Int)) ∧ u.cell? ⟨gt, j * 4 + 1, none⟩ = some (.int .i64 (X.place : Int)) ∧ u.cell? ⟨gt, j * 4 + 2, none⟩ = some (.string (str X.text)) ∧ u.cell? ⟨gt, j * 4 + 3, none⟩ = some (.slice fa X.kids.length fc) ∧ u.cell? ⟨w1.heap.size, 3, none⟩ = some (.slice (some ⟨gt, 0, none⟩) N tc')) (first | go_keep | exact hS _ (by assumption)) (first | (go_at_call_of 9 (str X.text); refine (hPX _ (by assumption)).mono ?_; rintro e w7 ⟨rfl, hw7⟩; have Gw7 := hnext _ _ (by assumption) hw7; obtain ⟨d0, d1, d2, d3, e0, e1, e2, e3, f3⟩ := hS _ Gw7; clear hw7) | (go_at_call_of 9 (str Y.text); refine (hPY _ (by assumption)).mono ?_; rintro e w8 ⟨rfl, hw8⟩; have Gw8 := hnext _ _ (by assumption) hw8; obtain ⟨d0, d1, d2, d3, e0, e1, e2, e3, f3⟩ := hS _ Gw8; clear hw8))
                all_goals (
                  clear hS hPX hPY
                  go_wp2
                  go_roundg (ks.length - (j + 1))
                  case measure => omega
                  case rel => exact ⟨j + 1, by omega, by go_num, by first | exact congrArg Value.string hE.out | rw [hE.out], by assumption⟩)
            · have hje : j = ks.length := by omega
              subst hje
              obtain ⟨r0, r1, r2, r3, _⟩ := four_cells (hbt _ hGq)
              have hle1 := hul ks.length
              have hsa : (str (upK (openOf ks) ks.length)).size = (upK (openOf ks) ks.length).length := str_size _
              have hua' := hua.out
              have hPq := hPt _ hGq
              clear hPt htk htt hsp hup hul hkd hua
              generalize upK (openOf ks) ks.length = acc at *
              go_wp2_with fail
              refine hPq.mono ?_
              rintro e w5 ⟨rfl, hb5⟩
              have hG5 := hnext _ _ hGq hb5
              have hB5 := hBx _ hG5
              clear hPq hb5 r0 r1 r2 r3
              go_wp2_with fail
              refine (known _).mono ?_
              rintro e w6 ⟨rfl, hb6⟩
              have hB6 := hB5.trans (hb6.mono hB5.size)
              go_wp2
              go_ret
              exact ⟨rfl, hB6⟩
      · clear hk
        have hTL := hM.shut (lo := w.heap.size) (Nat.le_refl _)
        have hlen : (seps true (ks.map pr)).length + 2 ≤ 8192 := by
          have := seps_len ks (fun t ht => (hgd t ht).2.2)
          omega
        have hss : (str (40 :: seps true (ks.map pr))).size = (seps true (ks.map pr)).length + 1 := by rw [str_size]; rfl
        have hps : ∀ w, Calls Try.prog 8 #[.string (str (40 :: seps true (ks.map pr)) ++ ⟨#[41]⟩)] w (PE (parseR (40 :: (seps true (ks.map pr) ++ [41]))) w) := fun w => by
          have h := parse (str (40 :: (seps true (ks.map pr) ++ [41]))) w
          rw [str_data] at h
          rw [show (⟨#[41]⟩ : ByteArray) = str [41] from rfl, str_append]
          exact h
        have hpk := parse_kids (fun k hk => ⟨(hgd k hk).1, (hgd k hk).2.1⟩) hlen
        have hlp : (pr (openOf ks)).length ≤ 10000 := by
          have h1 := seps_len ks (fun t ht => (hgd t ht).2.2)
          have h2 := seps_bool (ks.map pr)
          rw [← upK_all (openOf ks) rfl, upK, openOf, List.take_length, List.length_append, List.length_cons]
          simp only [List.length_cons, List.length_nil]
          omega
        have hkd := fun k (h : k < ks.length) => (hgd ks[k] (List.getElem_mem h)).2.2
        have hkl8 : ks.length ≤ 8 := by omega
        clear hgd hM hl1 hl2
        generalize seps true (ks.map pr) = sp' at *
        rcases hpk with ⟨b, hpe⟩ | ⟨t, hpe, k1, hst⟩
        · rw [hpe] at hps
          go_wp2_with fail
          refine (hps _).mono ?_
          rintro e w1 ⟨rfl, hb1⟩
          have hB1 := hBw.trans (hb1.mono hsw)
          have hB1a := hB1.alloc hB1.size (.cells #[.int .i64 0, .int .i64 0, .string ⟨#[]⟩, .slice none 0 0] 24)
          unfold trv
          clear hps hpe hb1
          go_wp2_with fail
          refine (known _).mono ?_
          rintro e w2 ⟨rfl, hb2⟩
          have hB2 := hB1a.trans (hb2.mono hB1a.size)
          go_wp2
          go_ret
          exact ⟨rfl, hB2⟩
        · rw [hpe] at hps
          go_wp2_with fail
          refine (hps _).mono ?_
          rintro e w1 ⟨⟨kv1, rfl, ht1⟩, hb1⟩
          obtain ⟨ta, tc', rfl⟩ := ht1.shape
          unfold trv
          have hs1 := hb1.size
          have hll : Hid (t.kids.length = ks.length) := strip_len hst
          have s2 : ((t.kids.length : Int) != (ks.length : Int)) = false := by rw [bne_eq_false_iff_eq, hll.out]
          have s1 : ((t.kind : Int) != 1) = false := by rw [bne_eq_false_iff_eq]; omega
          have hpt : pr t = pr (openOf ks) := pr_kids k1 rfl hst
          have hbx : (w1.alloc (.cells #[.int .i64 (t.kind : Int), .int .i64 (t.place : Int), .string (str t.text), .slice ta t.kids.length tc'] 24)).heap[w1.heap.size]? = some (.cells #[.int .i64 (t.kind : Int), .int .i64 (t.place : Int), .string (str t.text), .slice ta t.kids.length tc'] 24) := heap_alloc_new w1 _
          have hsz : Hid ((w1.alloc (.cells #[.int .i64 (t.kind : Int), .int .i64 (t.place : Int), .string (str t.text), .slice ta t.kids.length tc'] 24)).heap.size = w1.heap.size + 1) := by simp [Hid]
          have K1 : Kept (fun _ => False) wr (w1.alloc (.cells #[.int .i64 (t.kind : Int), .int .i64 (t.place : Int), .string (str t.text), .slice ta t.kids.length tc'] 24)) := ((Kept.of_below hb1).mono (T := fun _ => False) (fun k hk h => by omega)).alloc _
          have hB1 : Below w.heap.size w (w1.alloc (.cells #[.int .i64 (t.kind : Int), .int .i64 (t.place : Int), .string (str t.text), .slice ta t.kids.length tc'] 24)) := hBw.trans (K1.below hsw (fun _ _ h => h))
          have htk := hTL.kept K1 (fun g hg => ⟨hg.2, fun h => h⟩)
          have htt := ht1.kept ((Kept.refl (fun _ => False) w1).alloc (.cells #[.int .i64 (t.kind : Int), .int .i64 (t.place : Int), .string (str t.text), .slice ta t.kids.length tc'] 24)) (fun g hg => ⟨hg.2, fun h => h⟩)
          have hup := upK_step (openOf ks)
          have hul := upK_le (openOf ks) rfl
          have hua : Hid (str (upK (openOf ks) ks.length) ++ ⟨#[41]⟩ = str (pr t)) := by
            rw [Hid, show (⟨#[41]⟩ : ByteArray) = str [41] from rfl, str_append]
            exact congrArg str ((upK_all (openOf ks) rfl).trans hpt.symm)
          have hlt : (pr t).length ≤ 10000 := by rw [hpt]; exact hlp
          have hsp := strip_pr hst
          have hsu : ∀ u, Below (w1.heap.size + 1) (w1.alloc (.cells #[.int .i64 (t.kind : Int), .int .i64 (t.place : Int), .string (str t.text), .slice ta t.kids.length tc'] 24)) u → w1.heap.size + 1 ≤ u.heap.size := fun u hu => by have := hu.size; rw [hsz.out] at this; exact this
          have hnext : ∀ u u', Below (w1.heap.size + 1) (w1.alloc (.cells #[.int .i64 (t.kind : Int), .int .i64 (t.place : Int), .string (str t.text), .slice ta t.kids.length tc'] 24)) u → Below u.heap.size u u' → Below (w1.heap.size + 1) (w1.alloc (.cells #[.int .i64 (t.kind : Int), .int .i64 (t.place : Int), .string (str t.text), .slice ta t.kids.length tc'] 24)) u' := fun u u' hu h => hu.trans (h.mono (hsu u hu))
          have hBx : ∀ u, Below (w1.heap.size + 1) (w1.alloc (.cells #[.int .i64 (t.kind : Int), .int .i64 (t.place : Int), .string (str t.text), .slice ta t.kids.length tc'] 24)) u → Below w.heap.size w u := fun u hu => hB1.trans (hu.mono (by omega))
          have hPt : ∀ u, Below (w1.heap.size + 1) (w1.alloc (.cells #[.int .i64 (t.kind : Int), .int .i64 (t.place : Int), .string (str t.text), .slice ta t.kids.length tc'] 24)) u → Calls Try.prog 9 #[trv t (.slice ta t.kids.length tc')] u (TextE (pr t) u) := fun u hu => print t _ _ u (htt.kept (Kept.of_below hu) (fun g hg => ⟨by rw [hsz.out]; omega, by omega⟩)) (fun g hg => by have := hsu u hu; omega) (by omega)
          have hbt : ∀ u, Below (w1.heap.size + 1) (w1.alloc (.cells #[.int .i64 (t.kind : Int), .int .i64 (t.place : Int), .string (str t.text), .slice ta t.kids.length tc'] 24)) u → u.heap[w1.heap.size]? = some (.cells #[.int .i64 (t.kind : Int), .int .i64 (t.place : Int), .string (str t.text), .slice ta t.kids.length tc'] 24) := fun u hu => (hu.block w1.heap.size (by omega)).trans hbx
          have hG0 : Below (w1.heap.size + 1) (w1.alloc (.cells #[.int .i64 (t.kind : Int), .int .i64 (t.place : Int), .string (str t.text), .slice ta t.kids.length tc'] 24)) (w1.alloc (.cells #[.int .i64 (t.kind : Int), .int .i64 (t.place : Int), .string (str t.text), .slice ta t.kids.length tc'] 24)) := Below.refl _ _
          unfold trv at hPt
          clear hps hpe ht1 hb1 K1 hst hTL hBw hB1 k1 hpt
          go_wp2
          generalize hW1 : w1.alloc (.cells #[.int .i64 (t.kind : Int), .int .i64 (t.place : Int), .string (str t.text), .slice ta t.kids.length tc'] 24) = W1 at *
          clear hW1
          go_loopg [15, 16] ks.length (fun gh pv iv wq => ∃ (j : Nat), gh + j = ks.length ∧ iv = .int .i64 (j : Int) ∧ pv = .string (str (upK (openOf ks) j)) ∧ Below (w1.heap.size + 1) W1 wq)
          case atStart => exact ⟨0, rfl, rfl, rfl, hG0⟩
          case round =>
            obtain ⟨j, hgj, rfl, rfl, hGq⟩ := hrel
            have hsq := hsu _ hGq
            by_cases hj : j < ks.length
            · have hji : (j : Int) < (ks.length : Int) := by omega
              have hjt : j < t.kids.length := by rw [hll.out]; exact hj
              have hjti : (j : Int) < (t.kids.length : Int) := by omega
              obtain ⟨gk, ck, kvk, hkv, hgk, hkt, a0, a1, a2, a3⟩ := htk.at j hj
              cases hkv
              obtain ⟨ea, ec, rfl⟩ := hkt.shape
              obtain ⟨gt, ct, kvt, hkv, hgt, htt3, b0, b1, b2, b3⟩ := htt.at j hjt
              cases hkv
              obtain ⟨fa, fc, rfl⟩ := htt3.shape
              obtain ⟨hpj, hkj⟩ := hsp j hjt hj
              have hst := hup j hj
              have hle1 := hul j
              have hkl : (pr ks[j]).length ≤ 500 := hkd j hj
              have hkjb : ((t.kids[j].kind : Int) != (ks[j].kind : Int)) = false := by rw [bne_eq_false_iff_eq, hkj]
              have hPX : ∀ u, Below (w1.heap.size + 1) W1 u → Calls Try.prog 9 #[trv t.kids[j] (.slice fa t.kids[j].kids.length fc)] u (TextE (pr ks[j]) u) := fun u hu => by
                rw [← hpj]
                exact print t.kids[j] _ _ u (htt3.kept (Kept.of_below hu) (fun g hg => ⟨by rw [hsz.out]; omega, by omega⟩)) (fun g hg => by have := hsu u hu; omega) (by rw [hpj]; omega)
              have hPY : ∀ u, Below (w1.heap.size + 1) W1 u → Calls Try.prog 9 #[trv ks[j] (.slice ea ks[j].kids.length ec)] u (TextE (pr ks[j]) u) := fun u hu => print ks[j] _ _ u (hkt.kept (Kept.of_below hu) (fun g hg => ⟨by rw [hsz.out]; omega, by omega⟩)) (fun g hg => by have := hsu u hu; omega) (by omega)
              have hcX : ∀ u, Below (w1.heap.size + 1) W1 u → u.cell? ⟨w1.heap.size, 3, none⟩ = some (.slice (some ⟨gt, 0, none⟩) t.kids.length tc') := fun u hu => (four_cells (hbt u hu)).2.2.2.1
              have hel : (openOf ks).kids[j] = ks[j] := rfl
              rw [hel] at hst
              unfold trv at hPX hPY
              clear htk htt hkt htt3 hsp hup hul hkd hpj hkj hel hPt
              generalize t.kids[j] = X at *
              generalize ks[j] = Y at *
              generalize t.kids.length = N at *
              have hS : ∀ u, Below (w1.heap.size + 1) W1 u → u.cell? ⟨gk, j * 4, none⟩ = some (.int .i64 (Y.kind : Int)) ∧ u.cell? ⟨gk, j * 4 + 1, none⟩ = some (.int .i64 (Y.place : Int)) ∧ u.cell? ⟨gk, j * 4 + 2, none⟩ = some (.string (str Y.text)) ∧ u.cell? ⟨gk, j * 4 + 3, none⟩ = some (.slice ea Y.kids.length ec) ∧ u.cell? ⟨gt, j * 4, none⟩ = some (.int .i64 (X.kind : Int)) ∧ u.cell? ⟨gt, j * 4 + 1, none⟩ = some (.int .i64 (X.place : Int)) ∧ u.cell? ⟨gt, j * 4 + 2, none⟩ = some (.string (str X.text)) ∧ u.cell? ⟨gt, j * 4 + 3, none⟩ = some (.slice fa X.kids.length fc) ∧ u.cell? ⟨w1.heap.size, 3, none⟩ = some (.slice (some ⟨gt, 0, none⟩) N tc') := fun u hu => ⟨(hu.cell (show gk < w1.heap.size + 1 by omega)).trans a0, (hu.cell (show gk < w1.heap.size + 1 by omega)).trans a1, (hu.cell (show gk < w1.heap.size + 1 by omega)).trans a2, (hu.cell (show gk < w1.heap.size + 1 by omega)).trans a3, (hu.cell (show gt < w1.heap.size + 1 by omega)).trans b0, (hu.cell (show gt < w1.heap.size + 1 by omega)).trans b1, (hu.cell (show gt < w1.heap.size + 1 by omega)).trans b2, (hu.cell (show gt < w1.heap.size + 1 by omega)).trans b3, hcX u hu⟩
              obtain ⟨d0, d1, d2, d3, e0, e1, e2, e3, f3⟩ := hS _ hGq
              have hsa : (str (upK (openOf ks) j)).size = (upK (openOf ks) j).length := str_size _
              have hs1 : (str (pr Y)).size = (pr Y).length := str_size _
              clear a0 a1 a2 a3 b0 b1 b2 b3 hcX hbt hbx hG0
              by_cases k0 : 0 < j
              · have k0' : (0 : Int) < (j : Int) := by omega
                rw [if_pos k0] at hst
                have hE : Hid (str (upK (openOf ks) j) ++ ⟨#[32]⟩ ++ str (pr Y) = str (upK (openOf ks) (j + 1))) := by
                  rw [Hid, hst, show (⟨#[32]⟩ : ByteArray) = str [32] from rfl, str_append, str_append, List.append_assoc]
                have hs2 : (str (upK (openOf ks) j) ++ ⟨#[32]⟩).size = (upK (openOf ks) j).length + 1 := by rw [show (⟨#[32]⟩ : ByteArray) = str [32] from rfl, str_append, str_size]; simp
                clear hst
                generalize upK (openOf ks) j = acc at *
                go_wp2_with fail
                refine (hPY _ hGq).mono ?_
                rintro e w5 ⟨rfl, hw5⟩
                have Gw5 := hnext _ _ hGq hw5
                obtain ⟨d0, d1, d2, d3, e0, e1, e2, e3, f3⟩ := hS _ Gw5
                have Gd5 : Below (w1.heap.size + 1) W1 w5.drew := Gw5.drew
                clear hw5
                go_wp2
                go_region_held3 (fun u => u.cell? ⟨gk, j * 4, none⟩ = some (.int .i64 (Y.kind : Int)) ∧ u.cell? ⟨gk, j * 4 + 1, none⟩ = some (.int .i64 (Y.place : Int)) ∧ u.cell? ⟨gk, j * 4 + 2, none⟩ = some (.string (str Y.text)) ∧ u.cell? ⟨gk, j * 4 + 3, none⟩ = some (.slice ea Y.kids.length ec) ∧ u.cell? ⟨gt, j * 4, none⟩ = some (.int .i64 (X.kind : Int)) ∧ u.cell? ⟨gt, j * 4 + 1, none⟩ = some (.int .i64 (X.place : Int)) ∧ u.cell? ⟨gt, j * 4 + 2, none⟩ = some (.string (str X.text)) ∧ u.cell? ⟨gt, j * 4 + 3, none⟩ = some (.slice fa X.kids.length fc) ∧ u.cell? ⟨w1.heap.size, 3, none⟩ = some (.slice (some ⟨gt, 0, none⟩) N tc')) (first | go_keep | exact hS _ (by assumption)) (first | (go_at_call_of 9 (str X.text); refine (hPX _ (by assumption)).mono ?_; rintro e w7 ⟨rfl, hw7⟩; have Gw7 := hnext _ _ (by assumption) hw7; obtain ⟨d0, d1, d2, d3, e0, e1, e2, e3, f3⟩ := hS _ Gw7; clear hw7) | (go_at_call_of 9 (str Y.text); refine (hPY _ (by assumption)).mono ?_; rintro e w8 ⟨rfl, hw8⟩; have Gw8 := hnext _ _ (by assumption) hw8; obtain ⟨d0, d1, d2, d3, e0, e1, e2, e3, f3⟩ := hS _ Gw8; clear hw8))
                all_goals (
                  clear hS hPX hPY
                  go_wp2
                  go_roundg (ks.length - (j + 1))
                  case measure => omega
                  case rel => exact ⟨j + 1, by omega, by go_num, by first | exact congrArg Value.string hE.out | rw [hE.out], by assumption⟩)
              · have k0' : ¬ (0 : Int) < (j : Int) := by omega
                rw [if_neg k0, List.nil_append] at hst
                have hE : Hid (str (upK (openOf ks) j) ++ str (pr Y) = str (upK (openOf ks) (j + 1))) := by
                  rw [Hid, hst, str_append]
                clear hst
                generalize upK (openOf ks) j = acc at *
                go_wp2_with fail
                refine (hPY _ hGq).mono ?_
                rintro e w5 ⟨rfl, hw5⟩
                have Gw5 := hnext _ _ hGq hw5
                obtain ⟨d0, d1, d2, d3, e0, e1, e2, e3, f3⟩ := hS _ Gw5
                have Gd5 : Below (w1.heap.size + 1) W1 w5.drew := Gw5.drew
                clear hw5
                go_wp2
                go_region_held3 (fun u => u.cell? ⟨gk, j * 4, none⟩ = some (.int .i64 (Y.kind : Int)) ∧ u.cell? ⟨gk, j * 4 + 1, none⟩ = some (.int .i64 (Y.place : Int)) ∧ u.cell? ⟨gk, j * 4 + 2, none⟩ = some (.string (str Y.text)) ∧ u.cell? ⟨gk, j * 4 + 3, none⟩ = some (.slice ea Y.kids.length ec) ∧ u.cell? ⟨gt, j * 4, none⟩ = some (.int .i64 (X.kind : Int)) ∧ u.cell? ⟨gt, j * 4 + 1, none⟩ = some (.int .i64 (X.place : Int)) ∧ u.cell? ⟨gt, j * 4 + 2, none⟩ = some (.string (str X.text)) ∧ u.cell? ⟨gt, j * 4 + 3, none⟩ = some (.slice fa X.kids.length fc) ∧ u.cell? ⟨w1.heap.size, 3, none⟩ = some (.slice (some ⟨gt, 0, none⟩) N tc')) (first | go_keep | exact hS _ (by assumption)) (first | (go_at_call_of 9 (str X.text); refine (hPX _ (by assumption)).mono ?_; rintro e w7 ⟨rfl, hw7⟩; have Gw7 := hnext _ _ (by assumption) hw7; obtain ⟨d0, d1, d2, d3, e0, e1, e2, e3, f3⟩ := hS _ Gw7; clear hw7) | (go_at_call_of 9 (str Y.text); refine (hPY _ (by assumption)).mono ?_; rintro e w8 ⟨rfl, hw8⟩; have Gw8 := hnext _ _ (by assumption) hw8; obtain ⟨d0, d1, d2, d3, e0, e1, e2, e3, f3⟩ := hS _ Gw8; clear hw8))
                all_goals (
                  clear hS hPX hPY
                  go_wp2
                  go_roundg (ks.length - (j + 1))
                  case measure => omega
                  case rel => exact ⟨j + 1, by omega, by go_num, by first | exact congrArg Value.string hE.out | rw [hE.out], by assumption⟩)
            · have hje : j = ks.length := by omega
              subst hje
              obtain ⟨r0, r1, r2, r3, _⟩ := four_cells (hbt _ hGq)
              have hle1 := hul ks.length
              have hsa : (str (upK (openOf ks) ks.length)).size = (upK (openOf ks) ks.length).length := str_size _
              have hua' := hua.out
              have hPq := hPt _ hGq
              clear hPt htk htt hsp hup hul hkd hua
              generalize upK (openOf ks) ks.length = acc at *
              go_wp2_with fail
              refine hPq.mono ?_
              rintro e w5 ⟨rfl, hb5⟩
              have hG5 := hnext _ _ hGq hb5
              have hB5 := hBx _ hG5
              clear hPq hb5 r0 r1 r2 r3
              go_wp2_with fail
              refine (known _).mono ?_
              rintro e w6 ⟨rfl, hb6⟩
              have hB6 := hB5.trans (hb6.mono hB5.size)
              go_wp2
              go_ret
              exact ⟨rfl, hB6⟩
end Go.Proofs.Ytmekjbplodnldaa
