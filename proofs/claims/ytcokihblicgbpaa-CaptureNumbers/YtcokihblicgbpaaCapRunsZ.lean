/-
  Captures: the chapter's runs, reckoned.
-/
import Derived.Test.YtcokihblicgbpaaCapExprZ
namespace Go.Proofs.Ytcokihblicgbpaa

/-- What is read, where all types are num: enough for the runs. -/
def rdL (t : Tr) : PR (List UInt8) := if t.kind = 3 ∧ t.text = [110, 117, 109] then .ok [110, 117, 109] else .error (0, 0)
theorem rdL_ok {t : Tr} {y : List UInt8} (h : rdL t = .ok y) : readR [109] t = .ok y := by
  unfold rdL at h
  split at h
  · rename_i hh
    cases h
    obtain ⟨k, p, x, l, q⟩ := t
    obtain ⟨h1, h2⟩ := hh
    simp only at h1 h2
    subst h1 h2
    rw [readR_eq]
    have hp : partsT ⟨3, p, [110, 117, 109], l, q⟩ = [] := by simp [partsT, formR]
    rw [hp]
    rfl
  · cases h
theorem seq_ok {α β : Type} {f g : β → PR α} (h : ∀ x y, f x = .ok y → g x = .ok y) : ∀ {l : List β} {xs : List α}, seqP (l.map f) = .ok xs → seqP (l.map g) = .ok xs
  | [], xs, hs => hs
  | x :: r, xs, hs => by
    rw [List.map_cons] at hs ⊢
    cases hx : f x with
    | error e =>
      rw [hx, seqP] at hs
      cases hs
    | ok y =>
      rw [hx, seqP] at hs
      rw [h x y hx, seqP]
      cases hr : seqP (r.map f) with
      | error e =>
        rw [hr] at hs
        cases hs
      | ok ys =>
        rw [hr] at hs
        rw [seq_ok h hr]
        exact hs
def parG (p : Tr) : PR (List UInt8 × List UInt8) :=
  if p.kind = 1 ∧ p.kids.length = 2 ∧ (kid p 0).kind = 3 then (nameP (kid p 0)).bind (fun n => (rdL (kid p 1)).bind (fun y => .ok (n, y))) else .error (12, p.place)
theorem parG_ok (p : Tr) (y : List UInt8 × List UInt8) (h : parG p = .ok y) : paramP [109] p = .ok y := by
  unfold parG at h
  unfold paramP
  split at h
  · rename_i hh
    rw [if_pos hh]
    obtain ⟨n, hn, h⟩ := bind_is h
    obtain ⟨z, hz, h⟩ := bind_is h
    rw [hn]
    show (readR [109] (kid p 1)).bind _ = _
    rw [rdL_ok hz]
    exact h
  · cases h
def shapeG (t : Tr) (k : Nat) : PR Shape :=
  if k = 10 then (seqP ((kid t 1).kids.map parG)).bind (fun ps => (rdL (kid t 2)).bind (fun y => .ok (⟨10, t.place, [], 0, 0, [], y, [], ps, [], []⟩, t.kids.drop 3, [])))
  else if k = 7 then .error (0, 0) else shapeK [109] t k
theorem shapeG_ok {t : Tr} {k : Nat} {r : Shape} (h : shapeG t k = .ok r) : shapeK [109] t k = .ok r := by
  unfold shapeG at h
  split at h
  · rename_i hk
    subst hk
    obtain ⟨ps, hp, h⟩ := bind_is h
    obtain ⟨y, hy, h⟩ := bind_is h
    unfold shapeK
    rw [if_neg (by decide), if_neg (by decide), if_neg (by decide), if_neg (by decide), if_neg (by decide), if_neg (by decide), if_neg (by decide), if_pos rfl, seq_ok parG_ok hp]
    show (readR [109] (kid t 2)).bind _ = _
    rw [rdL_ok hy]
    exact h
  · split at h
    · cases h
    · exact h
def exprF : Nat → Tr → PR Ex
  | 0, t => .error (0, t.place)
  | f + 1, t => if kindX t = 0 then .error (12, t.place) else if crowdX t (kindX t) = true then .error (19, t.place) else
    (shapeG t (kindX t)).bind (fun r => (seqP (r.2.1.map (exprF f))).bind (fun ks => (seqP (r.2.2.map (fun a => armP a (exprF f (kid a 1))))).bind (fun az => .ok (fillX r.1 ks az))))
theorem armP_ok {a : Tr} {r q : PR Ex} (h : ∀ e, r = .ok e → q = .ok e) (z : (List UInt8 × List (List UInt8)) × Ex) (hz : armP a r = .ok z) : armP a q = .ok z := by
  unfold armP at hz ⊢
  split at hz
  · cases hz
  · rename_i h1
    rw [if_neg h1]
    split at hz
    · cases hz
    · rename_i h2
      rw [if_neg h2]
      split at hz
      · cases hz
      · rename_i h3
        rw [if_neg h3]
        split at hz
        · cases hz
        · rename_i h4
          rw [if_neg h4]
          obtain ⟨vs, hv, hz⟩ := bind_is hz
          obtain ⟨b, hb, hz⟩ := bind_is hz
          rw [hv]
          show q.bind _ = _
          rw [h b hb]
          exact hz
theorem exprF_ok (f : Nat) : ∀ (t : Tr) (e : Ex), exprF f t = .ok e → exprP [109] t = .ok e := by
  induction f with
  | zero =>
    intro t e h
    cases h
  | succ f ih =>
    intro t e h
    rw [exprF] at h
    split at h
    · cases h
    · rename_i h1
      split at h
      · cases h
      · rename_i h2
        obtain ⟨r, hr, h⟩ := bind_is h
        obtain ⟨ks, hk, h⟩ := bind_is h
        obtain ⟨az, ha, h⟩ := bind_is h
        rw [expr_shape, shapeP, if_neg h1, if_neg h2, shapeG_ok hr]
        show restP [109] r = _
        unfold restP
        rw [seq_ok ih hk]
        show (seqP (r.2.2.map (armX [109]))).bind _ = _
        rw [show seqP (r.2.2.map (armX [109])) = .ok az from seq_ok (g := armX [109]) (fun a z hz => armP_ok (fun e he => ih _ e he) z hz) ha]
        exact h
def cntF : Nat → Ex → Nat
  | 0, _ => 0
  | f + 1, e => 1 + (e.kids.map (cntF f)).sum + (e.bods.map (cntF f)).sum
theorem part_cnt {e k : Ex} (h : k ∈ e.kids ∨ k ∈ e.bods) : cntX k < cntX e := by
  rw [cntX_eq e]
  have hs : ∀ (l : List Ex), k ∈ l → cntX k ≤ (l.map cntX).sum := by
    intro l
    induction l with
    | nil => simp
    | cons x r ih =>
      intro hm
      rcases List.mem_cons.1 hm with rfl | hm
      · simp
      · have := ih hm
        simp
        omega
  rcases h with h | h
  · have := hs _ h
    omega
  · have := hs _ h
    omega
theorem cntF_eq (f : Nat) : ∀ e, cntX e ≤ f → cntF f e = cntX e := by
  induction f with
  | zero =>
    intro e h
    have := cntX_pos e
    omega
  | succ f ih =>
    intro e h
    rw [cntF, cntX_eq, List.map_congr_left (fun k hm => ih k (by have := part_cnt (.inl hm : k ∈ e.kids ∨ k ∈ e.bods); omega)), List.map_congr_left (l := e.bods) (fun k hm => ih k (by have := part_cnt (.inr hm : k ∈ e.kids ∨ k ∈ e.bods); omega))]
def depF : Nat → Ex → Nat
  | 0, _ => 0
  | f + 1, e => (e.bods.map (depF f)).foldl max ((e.kids.map (depF f)).foldl max 0) + 1
theorem depF_eq (f : Nat) : ∀ e, cntX e ≤ f → depF f e = depX e := by
  induction f with
  | zero =>
    intro e h
    have := cntX_pos e
    omega
  | succ f ih =>
    intro e h
    rw [depF, depX_eq, List.map_congr_left (fun k hm => ih k (by have := part_cnt (.inl hm : k ∈ e.kids ∨ k ∈ e.bods); omega)), List.map_congr_left (l := e.bods) (fun k hm => ih k (by have := part_cnt (.inr hm : k ∈ e.kids ∨ k ∈ e.bods); omega))]
def locF : Nat → Ex → Nat
  | 0, _ => 0
  | f + 1, e => if e.kind = 10 then 0 else (armL e.arms (e.bods.map (locF f))).foldl max ((kidL e.kind (e.kids.map (locF f))).foldl max 0)
theorem locF_eq (f : Nat) : ∀ e, cntX e ≤ f → locF f e = locX e := by
  induction f with
  | zero =>
    intro e h
    have := cntX_pos e
    omega
  | succ f ih =>
    intro e h
    rw [locF, locX_eq, List.map_congr_left (fun k hm => ih k (by have := part_cnt (.inl hm : k ∈ e.kids ∨ k ∈ e.bods); omega)), List.map_congr_left (l := e.bods) (fun k hm => ih k (by have := part_cnt (.inr hm : k ∈ e.kids ∨ k ∈ e.bods); omega))]
def freeF : Nat → Ex → List (List UInt8) → List (List UInt8) → List (List UInt8)
  | 0, _, _, o => o
  | f + 1, e, bound, out => if e.kind = 3 ∧ noDot e.name = true ∧ bound.contains e.name = false ∧ out.contains e.name = false then out ++ [e.name]
    else e.bods.zipIdx.foldl (fun o p => freeF f p.1 (bound ++ (e.arms.getD p.2 ([], [])).2) o) (e.kids.zipIdx.foldl (fun o p => freeF f p.1 (bound ++ bindR e.kind e.name e.params e.kids.length p.2) o) out)
theorem foldl_cong {α β : Type} (l : List α) (f g : β → α → β) (h : ∀ x ∈ l, ∀ b, f b x = g b x) : ∀ b, l.foldl f b = l.foldl g b := by
  induction l with
  | nil => exact fun _ => rfl
  | cons x r ih =>
    intro b
    rw [List.foldl_cons, List.foldl_cons, h x (by simp)]
    exact ih (fun y hy => h y (by simp [hy])) _
theorem freeF_eq (f : Nat) : ∀ e, cntX e ≤ f → ∀ b o, freeF f e b o = freeX e b o := by
  induction f with
  | zero =>
    intro e h
    have := cntX_pos e
    omega
  | succ f ih =>
    intro e h b o
    rw [freeF, freeX_eq]
    split
    · rfl
    · rw [foldl_cong e.kids.zipIdx _ (fun o p => freeX p.1 (b ++ bindR e.kind e.name e.params e.kids.length p.2) o) (fun p hp q => ih p.1 (by have := part_cnt (.inl (List.fst_mem_of_mem_zipIdx hp) : p.1 ∈ e.kids ∨ p.1 ∈ e.bods); omega) _ _)]
      exact foldl_cong e.bods.zipIdx _ _ (fun p hp q => ih p.1 (by have := part_cnt (.inr (List.fst_mem_of_mem_zipIdx hp) : p.1 ∈ e.kids ∨ p.1 ∈ e.bods); omega) _ _) _
def runT (l : List UInt8) : Tr := match parseR l with
  | .ok t => t
  | .error _ => root
def runE (l : List UInt8) : Ex := match exprF 60 (runT l) with
  | .ok e => e
  | .error _ => ⟨0, 0, [], 0, 0, [], [], [], [], [], []⟩
/-- A text is read as an expression, and all is well with it. -/
def IsRun (l : List UInt8) : Prop := parseR l = .ok (runT l) ∧ exprP [109] (runT l) = .ok (runE l) ∧ GoodX (runE l)
theorem is_run (l : List UInt8) (h1 : parseR l = .ok (runT l)) (h2 : exprF 60 (runT l) = .ok (runE l)) : IsRun l := by
  obtain ⟨f1, f2⟩ := parse_fit h1
  replace h2 := exprF_ok 60 _ _ h2
  exact ⟨h1, h2, goodX h2 f1 f2⟩
def sA : List UInt8 := [40, 102, 110, 32, 40, 40, 120, 32, 110, 117, 109, 41, 41, 32, 110, 117, 109, 32, 120, 41]
def sB : List UInt8 := [110, 46, 120]
def sC : List UInt8 := [40, 109, 97, 116, 99, 104, 32, 116, 32, 40, 40, 65, 32, 117, 41, 32, 117, 41, 32, 40, 40, 66, 32, 118, 32, 119, 41, 32, 40, 108, 101, 116, 32, 122, 32, 118, 32, 117, 41, 41, 41]
def sD : List UInt8 := [40, 108, 101, 116, 32, 120, 32, 120, 32, 40, 102, 110, 32, 40, 40, 121, 32, 110, 117, 109, 41, 41, 32, 110, 117, 109, 32, 40, 97, 100, 100, 32, 120, 32, 40, 97, 100, 100, 32, 121, 32, 122, 41, 41, 41, 41]
def sK : List UInt8 := [40, 108, 101, 116, 32, 120, 32, 121, 32, 40, 97, 100, 100, 32, 120, 32, 122, 41, 41]
def sL : List UInt8 := [40, 108, 101, 116, 32, 97, 32, 49, 32, 40, 108, 101, 116, 32, 98, 32, 50, 32, 97, 41, 41]
theorem run_A : IsRun sA := is_run sA (by kernel_rfl) (by kernel_rfl)
theorem run_B : IsRun sB := is_run sB (by kernel_rfl) (by kernel_rfl)
theorem run_C : IsRun sC := is_run sC (by kernel_rfl) (by kernel_rfl)
theorem run_D : IsRun sD := is_run sD (by kernel_rfl) (by kernel_rfl)
theorem run_K : IsRun sK := is_run sK (by kernel_rfl) (by kernel_rfl)
theorem run_L : IsRun sL := is_run sL (by kernel_rfl) (by kernel_rfl)
theorem free_A : freeX (runE sA) [] [] = [] := by rw [← freeF_eq 8192 _ run_A.2.2.cnt]; kernel_rfl
theorem free_B : freeX (runE sB) [] [] = [] := by rw [← freeF_eq 8192 _ run_B.2.2.cnt]; kernel_rfl
theorem free_C : freeX (runE sC) [] [] = [[116], [117]] := by rw [← freeF_eq 8192 _ run_C.2.2.cnt]; kernel_rfl
theorem free_D : freeX (runE sD) [] [] = [[120], [122]] := by rw [← freeF_eq 8192 _ run_D.2.2.cnt]; kernel_rfl
theorem free_K : freeX (runE sK) [] [] = [[121], [122]] := by rw [← freeF_eq 8192 _ run_K.2.2.cnt]; kernel_rfl
theorem loc_C : locX (runE sC) = 3 := by rw [← locF_eq 8192 _ run_C.2.2.cnt]; kernel_rfl
theorem loc_D : locX (runE sD) = 1 := by rw [← locF_eq 8192 _ run_D.2.2.cnt]; kernel_rfl
theorem loc_L : locX (runE sL) = 2 := by rw [← locF_eq 8192 _ run_L.2.2.cnt]; kernel_rfl
theorem dep_B : depX (runE sB) = 1 := by rw [← depF_eq 8192 _ run_B.2.2.cnt]; kernel_rfl
theorem dep_C : depX (runE sC) = 3 := by rw [← depF_eq 8192 _ run_C.2.2.cnt]; kernel_rfl
theorem cnt_B : cntX (runE sB) = 1 := by rw [← cntF_eq 8192 _ run_B.2.2.cnt]; kernel_rfl
theorem cnt_C : cntX (runE sC) = 6 := by rw [← cntF_eq 8192 _ run_C.2.2.cnt]; kernel_rfl
end Go.Proofs.Ytcokihblicgbpaa
