/-
  What TreeKids needs of the chapter: a refusal has a number; a print that is read again is the same tree but for places.
-/
import Derived.Test.YtmekjbplodnldaaTreeRefPrint
import Derived.Test.YtmekjbplodnldaaTreeOne
namespace Go.Proofs.Ytmekjbplodnldaa
open Go.RowKit

theorem add_block' (b : Addr) (j : Nat) : (b.add j).block = b.block := by
  unfold Addr.add
  split <;> simp_all
theorem run_no0 (n : Nat) : ∀ (l : List Tok) (ts : List Tr) (y b : Nat), Stk ts → (∀ k ∈ l, k.kind ≠ 0) → took ts ++ l ≠ [] → run n ts l = .error (y, b) → y ≠ 0
  | [], ts, y, b, hs, _, hne, h => by
    cases ts with
    | nil => exact hs.elim
    | cons x r =>
      by_cases h1 : 1 < (x :: r).length
      · rw [run_end h1] at h
        cases h
        decide
      · have hr : r = [] := List.eq_nil_of_length_eq_zero (by simp only [List.length_cons] at h1; omega)
        subst hr
        cases hk : x.kids with
        | nil => simp [took, hk] at hne
        | cons k r => rw [run_whole hk] at h; cases h
  | a :: l, ts, y, b, hs, hk, _, h => by
    rw [run] at h
    by_cases hr : refu ts a = 0
    · rw [if_pos hr] at h
      obtain ⟨h1, h2, _⟩ := stk_put hs hr (hk a (by simp))
      exact run_no0 n l _ y b h1 (fun k hk' => hk k (by simp [hk'])) (by rw [h2]; simp) h
    · rw [if_neg hr] at h
      cases h
      exact hr
theorem parse_no0 {L : List UInt8} {y b : Nat} (h : parseR L = .error (y, b)) : y ≠ 0 := by
  unfold parseR at h
  cases hs : splitR L with
  | error e =>
    obtain ⟨y', b'⟩ := e
    rw [hs] at h
    simp only at h
    cases h
    have := split_why _ _ _ hs
    omega
  | ok l =>
    rw [hs] at h
    simp only at h
    split at h
    · cases h; decide
    · rename_i hl
      exact run_no0 _ l [root] y b stk_root (fun k hk => (split_good hs k hk).kind) (by rw [took_root]; simpa using hl) h
theorem parse_again {T U : Tr} (hR : Right T) (hG : ∀ k ∈ toks T, GTok k) (h : parseR (pr T) = .ok U) : strip T = strip U := by
  obtain ⟨T', h1, h2, h3⟩ := sp_print T hR hG [] 0 [] (by intro c r h; cases h)
  rw [List.append_nil, sp_nil] at h3
  have hne : toks T' ≠ [] := by rw [toks_eq]; split <;> simp
  unfold parseR splitR at h
  split at h
  · rename_i hs
    split at hs
    · cases h
    · cases h
  · rename_i l hs
    split at hs
    · cases hs
    · rw [h3] at hs
      cases hs
      simp only [List.nil_append, hne, if_false] at h
      rcases run_or (pr T).length T' root [] [] h2 (by simp) (fun _ => rfl) with ⟨b, hb⟩ | hb
      · rw [List.append_nil] at hb
        rw [hb] at h
        cases h
      · rw [List.append_nil] at hb
        rw [hb] at h
        have e : run (pr T).length [addKid root T'] [] = .ok T' := run_whole (r := []) (by simp [addKid, root])
        rw [e] at h
        cases h
        exact h1
theorem seps_push (ks : List Tr) (t : Tr) : str (40 :: seps true (ks.map pr)) ++ ⟨#[32]⟩ ++ str (pr t) = str (40 :: seps true ((ks ++ [t]).map pr)) := by
  rw [show (⟨#[32]⟩ : ByteArray) = str [32] from rfl, str_append, str_append, List.map_append, List.map_singleton, seps_last]
  simp
theorem seps_len : ∀ (ks : List Tr), (∀ t ∈ ks, (pr t).length ≤ 500) → (seps true (ks.map pr)).length ≤ ks.length * 501
  | [], _ => by simp [seps]
  | t :: ks, h => by
    have h1 := h t (by simp)
    have h2 := seps_len ks (fun k hk => h k (by simp [hk]))
    rw [List.map_cons, seps, List.length_append, List.length_append, List.length_cons]
    simp
    omega
theorem seps_bool : ∀ (l : List (List UInt8)), (seps false l).length ≤ (seps true l).length
  | [] => by simp [seps]
  | x :: l => by
    rw [seps, seps]
    simp
theorem strip_len {a b : List Tr} (h : a.map strip = b.map strip) : a.length = b.length := by
  have := congrArg List.length h
  simpa using this
theorem grow_pack3 {e B lo hi : Nat} {F : Nat → Prop} {wx : World} {kv u : Value} {ks : List Tr} {x : Tr} (O : Obj) (h : OneM e B F wx kv ks) (hB : B ≤ lo) (hhi : hi ≤ wx.heap.size) (hfar : ∀ g, kv.ownBlock = some g → g < lo) (ht : TL (fun g => lo ≤ g ∧ g < hi) wx u x.kids) :
    ∃ vs : List Value, vs.length = ks.length ∧ (wx.alloc O).ownsRow B e 4 kv ks.length (rowc ks vs) ∧
      ∀ g cap w', w'.ownsRow B e 4 (.slice (some ⟨g, 0, none⟩) (ks.length + 1) cap) (ks.length + 1) (rowc ks vs ++ trc x u) → (wx.alloc O).grownBy w' kv.ownBlock → (kv.ownBlock = some g ∨ g = wx.heap.size + 1) →
        (∃ F', OneM e B F' w' (.slice (some ⟨g, 0, none⟩) (ks.length + 1) cap) (ks ++ [x])) ∧ TL (fun g => lo ≤ g ∧ g < hi) w' u x.kids ∧ (∀ b, lo ≤ b → b < wx.heap.size → w'.heap[b]? = wx.heap[b]?) ∧ Kept (fun b => B ≤ b) wx w' := by
  have KA : Kept (fun _ => False) wx (wx.alloc O) := (Kept.refl _ wx).alloc O
  have hM6 : OneM e B (fun g => F g ∨ (lo ≤ g ∧ g < hi)) (wx.alloc O) kv ks := by
    refine ⟨(h.own.kept KA (fun g hg => ⟨(h.lies g hg).2, fun h => h⟩) (fun _ _ h => h)).mono (fun _ h => .inl h), fun g hg => ?_, fun g hg hh => ?_⟩
    · have := KA.size
      rcases hg with hg | hg
      · have := h.lies g hg; omega
      · omega
    · rcases hh with hh | hh
      · exact h.far g hg hh
      · have := hfar g hg
        omega
  have ht6 : TL (fun g => lo ≤ g ∧ g < hi) (wx.alloc O) u x.kids := ht.kept KA (fun g hg => ⟨by omega, fun h => h⟩)
  obtain ⟨vs, v1, v2, v3⟩ := hM6.own
  refine ⟨vs, v1, v2, fun g cap w' j1 j2 j3 => ?_⟩
  obtain ⟨hM7, K7⟩ := hM6.app v1 v3 j1 j2 j3 (by simp) (ht6.mono (fun g hg => .inr hg))
  have hsA : (wx.alloc O).heap.size = wx.heap.size + 1 := by simp
  refine ⟨⟨_, hM7⟩, ht6.kept K7 (fun g hg => ⟨by omega, fun e => by have := hfar g e; omega⟩), fun b hb1 hb2 => ?_, KA.trans K7 (fun _ _ h => h.elim) (fun x _ hx => (h.own.lt x hx).1)⟩
  rw [K7.block b (by omega) (fun e => by have := hfar b e; omega)]
  exact KA.block b hb2 (fun h => h)
theorem strip_pr {a b : List Tr} (h : a.map strip = b.map strip) (k : Nat) (ha : k < a.length) (hb : k < b.length) : pr a[k] = pr b[k] ∧ a[k].kind = b[k].kind := by
  have e : strip a[k] = strip b[k] := by
    have h1 := congrArg (fun l => l[k]?) h
    simpa [ha, hb] using h1
  refine ⟨pr_strip _ _ e, ?_⟩
  have := congrArg Tr.kind e
  rwa [strip_eq, strip_eq] at this
theorem pr_kids {t u : Tr} (h1 : t.kind = 1) (h2 : u.kind = 1) (h : t.kids.map strip = u.kids.map strip) : pr t = pr u := by
  have e : t.kids.map pr = u.kids.map pr := by
    refine List.ext_getElem (by simpa using strip_len h) (fun i h1 h2 => ?_)
    simp only [List.getElem_map]
    exact (strip_pr h i (by simpa using h1) (by simpa using h2)).1
  rw [pr_eq, pr_eq, if_neg (by omega), if_neg (by omega), if_pos h1, if_neg (by omega), if_neg (by omega), if_pos h2, e]
end Go.Proofs.Ytmekjbplodnldaa
