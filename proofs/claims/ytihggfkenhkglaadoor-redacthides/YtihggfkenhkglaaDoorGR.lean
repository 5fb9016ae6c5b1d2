/-
  Tags and histories with tags, as functions answer them: in lists.
  Twins, as loops find them: in lists.
  What the statements of chapter 7 come to, in lists.
  Bounds of what is redacted: in lists.
  First places, names and twins as the program keeps them: in lists, of no program.
  Twins, as the program finds them: in lists, of no program.
-/
import Derived.Test.YtihggfkenhkglaaDoorGA
import Derived.Test.YtihggfkenhkglaaDoorZPass2
import Derived.Test.YtihggfkenhkglaaDoorGB
namespace Go.Proofs.YtihggfkenhkglaaDoor
set_option maxRecDepth 100000
set_option linter.unusedVariables false
def keyTagP (s k : List UInt8) : List UInt8 × Nat := keyP s (5 :: k)
def valTagP (s v : List UInt8) : List UInt8 × Nat := if mayK s then (tagV (keyL s) v, 0) else ([], 1)
def oneP (s : List UInt8) (x : Ev) : Ev × Nat := if mayE x ∧ mayK s then (tagE (keyL s) x, 0) else ((0, 0, [], []), 1)
def allP (s : List UInt8) (h : List Ev) : List Ev × Nat := if 256 < h.length then ([], 4) else if allMay h ∧ (mayK s ∨ h = []) then (tagsL (keyL s) h, 0) else ([], 1)
theorem oneP_ok (s : List UInt8) (x : Ev) (h1 : mayE x) (h2 : mayK s) : oneP s x = (tagE (keyL s) x, 0) := by unfold oneP; rw [if_pos ⟨h1, h2⟩]
theorem oneP_no (s : List UInt8) (x : Ev) (h : ¬ (mayE x ∧ mayK s)) : oneP s x = ((0, 0, [], []), 1) := by unfold oneP; rw [if_neg h]
theorem allP_big (s : List UInt8) (h : List Ev) (hl : 256 < h.length) : allP s h = ([], 4) := by unfold allP; rw [if_pos hl]
theorem allP_bad (s : List UInt8) (h : List Ev) (hl : ¬ 256 < h.length) (k : Nat) (hk : k < h.length) (hm : ¬ (mayE h[k] ∧ mayK s)) : allP s h = ([], 1) := by
  unfold allP
  rw [if_neg hl, if_neg]
  rintro ⟨ha, hs⟩
  rcases hs with hs | hs
  · exact hm ⟨ha _ (List.getElem_mem hk), hs⟩
  · subst hs; simp at hk
theorem allP_ok (s : List UInt8) (h : List Ev) (hl : ¬ 256 < h.length) (ha : allMay h) (hs : mayK s ∨ h = []) : allP s h = (tagsL (keyL s) h, 0) := by
  unfold allP
  rw [if_neg hl, if_pos ⟨ha, hs⟩]
theorem tagsL_next (kd : List UInt8 → List UInt8) (h : List Ev) (k : Nat) (hk : k < h.length) : tagsL kd (h.take (k + 1)) = tagsL kd (h.take k) ++ [tagE kd h[k]] := by
  unfold tagsL
  rw [List.take_succ_eq_append_getElem hk, List.map_append]
  rfl
end Go.Proofs.YtihggfkenhkglaaDoor
namespace Go.Proofs.YtihggfkenhkglaaDoor
set_option maxRecDepth 100000
set_option linter.unusedVariables false
def txtAt (l : List (List UInt8)) (i : Nat) : List UInt8 := l.getD i []
theorem txtAt_get (l : List (List UInt8)) (i : Nat) (h : i < l.length) : txtAt l i = l[i] := by
  unfold txtAt
  rw [List.getD_eq_getElem?_getD, List.getElem?_eq_getElem h, Option.getD_some]
section
variable (kd : List UInt8 → List UInt8)
theorem twinAt_off (g : Nat → List UInt8) (i : Nat) (h : ∀ k, k < i → twinB kd g i k = false) : twinAt kd g i = none := (fi_none _ _).2 h
theorem twinsG_end (g : Nat → List UInt8) (n : Nat) (h : ∀ i, i < n → twinAt kd g i = none) : twinsG kd g n = none := by
  unfold twinsG
  rw [(fi_none _ _).2 (fun i hi => by rw [h i hi]; rfl)]
theorem twinsG_hit (g : Nat → List UInt8) (n i k : Nat) (hi : i < n) (hk : k < i) (h : ∀ j, j < i → twinAt kd g j = none) (hb : ∀ j, j < k → twinB kd g i j = false) (ht : twinB kd g i k = true) : twinsG kd g n = some (g k, g i) := by
  have e : twinAt kd g i = some k := (fi_some _ _ _).2 ⟨hk, ht, hb⟩
  unfold twinsG
  rw [(fi_some _ _ i).2 ⟨hi, by rw [e]; rfl, fun j hj => by rw [h j hj]; rfl⟩]
  simp only
  rw [e]
theorem twinsG_congr (g g' : Nat → List UInt8) (n : Nat) (h : ∀ i, i < n → g i = g' i) : twinsG kd g n = twinsG kd g' n := by
  have e : ∀ i, i < n → twinAt kd g i = twinAt kd g' i := fun i hi => fi_congr fun k hk => by unfold twinB; rw [h i hi, h k (by omega)]
  have e2 : fi (fun i => (twinAt kd g i).isSome) n = fi (fun i => (twinAt kd g' i).isSome) n := fi_congr fun i hi => by rw [e i hi]
  unfold twinsG
  rw [e2]
  cases h1 : fi (fun i => (twinAt kd g' i).isSome) n with
  | none => rfl
  | some i =>
    have hi := ((fi_some _ _ _).1 h1).1
    simp only
    rw [e i hi]
    cases h2 : twinAt kd g' i with
    | none => rfl
    | some k =>
      have hk := ((fi_some _ _ _).1 h2).1
      simp only
      rw [h i hi, h k (by omega)]
end
/-- As it is answered. -/
def twinsR (o : Option (List UInt8 × List UInt8)) : List UInt8 × List UInt8 × Bool := match o with
  | none => ([], [], false)
  | some p => (p.1, p.2, true)
def keysIn (h : List Ev) : List (List UInt8) := (List.range h.length).map (keyIn h)
def valsIn (h : List Ev) : List (List UInt8) := (List.range h.length).map (valIn h)
theorem keysIn_len (h : List Ev) : (keysIn h).length = h.length := by unfold keysIn; simp
theorem valsIn_len (h : List Ev) : (valsIn h).length = h.length := by unfold valsIn; simp
theorem keysIn_at (h : List Ev) (i : Nat) (hi : i < h.length) : txtAt (keysIn h) i = keyIn h i := by
  rw [txtAt_get _ _ (by rw [keysIn_len]; exact hi)]; unfold keysIn; simp
theorem valsIn_at (h : List Ev) (i : Nat) (hi : i < h.length) : txtAt (valsIn h) i = valIn h i := by
  rw [txtAt_get _ _ (by rw [valsIn_len]; exact hi)]; unfold valsIn; simp
abbrev goodH (s : List UInt8) (h : List Ev) : Prop := allMay h ∧ (mayK s ∨ h = [])
def twinsP (s : List UInt8) (h : List Ev) : List UInt8 × List UInt8 × Bool :=
  if goodH s h then (match twinsG (keyL s) (keyIn h) h.length with
    | some p => (p.1, p.2, true)
    | none => twinsR (twinsG (keyL s) (valIn h) h.length)) else ([], [], false)
theorem twinsP_bad (s : List UInt8) (h : List Ev) (k : Nat) (hk : k < h.length) (hm : ¬ (mayE h[k] ∧ mayK s)) : twinsP s h = ([], [], false) := by
  unfold twinsP
  rw [if_neg]
  rintro ⟨ha, hs⟩
  rcases hs with hs | hs
  · exact hm ⟨ha _ (List.getElem_mem hk), hs⟩
  · subst hs; simp at hk
theorem twinsP_key (s : List UInt8) (h : List Ev) (hg : goodH s h) (p : List UInt8 × List UInt8) (he : twinsG (keyL s) (txtAt (keysIn h)) h.length = some p) : twinsP s h = (p.1, p.2, true) := by
  rw [twinsG_congr (keyL s) _ (keyIn h) _ (fun i hi => keysIn_at h i hi)] at he
  unfold twinsP
  rw [if_pos hg, he]
theorem twinsP_val (s : List UInt8) (h : List Ev) (hg : goodH s h) (he : twinsG (keyL s) (txtAt (keysIn h)) h.length = none) : twinsP s h = twinsR (twinsG (keyL s) (txtAt (valsIn h)) h.length) := by
  rw [twinsG_congr (keyL s) _ (keyIn h) _ (fun i hi => keysIn_at h i hi)] at he
  rw [twinsG_congr (keyL s) _ (valIn h) _ (fun i hi => valsIn_at h i hi)]
  unfold twinsP
  rw [if_pos hg, he]
/-- What is told of twins. -/
theorem twinsP_true (s : List UInt8) (h : List Ev) (x y : List UInt8) (he : twinsP s h = (x, y, true)) : x ≠ y ∧ keyL s x = keyL s y := by
  unfold twinsP at he
  by_cases hg : goodH s h
  · rw [if_pos hg] at he
    cases h1 : twinsG (keyL s) (keyIn h) h.length with
    | some p =>
      rw [h1] at he
      simp only [Prod.mk.injEq] at he
      obtain ⟨rfl, rfl, _⟩ := he
      have := twinsG_some (keyL s) _ _ p.1 p.2 h1
      exact ⟨this.1, this.2.1⟩
    | none =>
      rw [h1] at he
      simp only at he
      cases h2 : twinsG (keyL s) (valIn h) h.length with
      | some p =>
        rw [h2] at he
        simp only [twinsR, Prod.mk.injEq] at he
        obtain ⟨rfl, rfl, _⟩ := he
        have := twinsG_some (keyL s) _ _ p.1 p.2 h2
        exact ⟨this.1, this.2.1⟩
      | none => rw [h2] at he; simp [twinsR] at he
  · rw [if_neg hg] at he; simp at he
theorem twinsP_false (s : List UInt8) (h : List Ev) (hg : goodH s h) (he : (twinsP s h).2.2 = false) : twinsG (keyL s) (keyIn h) h.length = none ∧ twinsG (keyL s) (valIn h) h.length = none := by
  unfold twinsP at he
  rw [if_pos hg] at he
  cases h1 : twinsG (keyL s) (keyIn h) h.length with
  | some p => rw [h1] at he; simp at he
  | none =>
    rw [h1] at he
    simp only at he
    cases h2 : twinsG (keyL s) (valIn h) h.length with
    | some p => rw [h2] at he; simp [twinsR] at he
    | none => exact ⟨rfl, rfl⟩
end Go.Proofs.YtihggfkenhkglaaDoor
namespace Go.Proofs.YtihggfkenhkglaaDoor
set_option maxRecDepth 100000
set_option linter.unusedVariables false
theorem tag_may (kd : List UInt8 → List UInt8) (h32 : ∀ s, (kd s).length = 32) (x : Ev) (h : mayE x) : mayE (tagE kd x) := by
  obtain ⟨k, t, a, b⟩ := x
  unfold tagE
  simp only
  by_cases hk : keyedE k
  · rw [if_pos hk]
    have h' := (mayE_key hk).1 h
    refine (mayE_key hk).2 ⟨h'.1, ?_⟩
    unfold tagK tagV
    rw [h32]
    by_cases hb : b = []
    · rw [if_pos hb]
      have h3 := h'.2.2.2.2
      rw [hb] at h3
      simp at h3 ⊢
      exact h3
    · rw [if_neg hb, h32]
      omega
  · rw [if_neg hk]; exact h
theorem tags_may (kd : List UInt8 → List UInt8) (h32 : ∀ s, (kd s).length = 32) (h : List Ev) (ha : allMay h) : allMay (tagsL kd h) := by
  intro x hx
  unfold tagsL at hx
  obtain ⟨y, hy, rfl⟩ := List.mem_map.1 hx
  exact tag_may kd h32 y (ha y hy)
/-- A history with tags may be given tags again. -/
theorem allP_zero (s : List UInt8) (h : List Ev) (he : (allP s h).2 = 0) : ¬ 256 < h.length ∧ goodH s h ∧ allP s h = (tagsL (keyL s) h, 0) := by
  unfold allP at he ⊢
  by_cases h1 : 256 < h.length
  · rw [if_pos h1] at he; cases he
  · rw [if_neg h1] at he ⊢
    by_cases h2 : allMay h ∧ (mayK s ∨ h = [])
    · rw [if_pos h2]; exact ⟨h1, h2, rfl⟩
    · rw [if_neg h2] at he; cases he
/-- What is redacted has the shape of what it was, or there are twins. -/
theorem shape_or_twins (s : List UInt8) (h : List Ev) (hg : goodH s h) : shapeL (tagsL (keyL s) h) = shapeL h ∨ (twinsP s h).2.2 = true ∧ (twinsP s h).1 ≠ (twinsP s h).2.1 ∧ mayK s ∧ keyL s (twinsP s h).1 = keyL s (twinsP s h).2.1 := by
  rcases hg.2 with hs | rfl
  · cases hb : (twinsP s h).2.2 with
    | false =>
      left
      obtain ⟨h1, h2⟩ := twinsP_false s h hg hb
      exact shape_tags (keyL s) (keyL_32 s) h (fun i hi => by rw [ev_get _ _ hi]; exact hg.1 _ (List.getElem_mem hi)) h1 h2
    | true =>
      right
      rcases ht : twinsP s h with ⟨x, y, b⟩
      simp only
      rw [ht] at hb
      simp only at hb
      subst hb
      obtain ⟨h1, h2⟩ := twinsP_true s h x y ht
      exact ⟨trivial, h1, hs, h2⟩
  · left; rfl
end Go.Proofs.YtihggfkenhkglaaDoor
namespace Go.Proofs.YtihggfkenhkglaaDoor
set_option maxRecDepth 100000
set_option linter.unusedVariables false
theorem allP_len (s : List UInt8) (h : List Ev) : (allP s h).1.length ≤ 256 := by
  unfold allP
  by_cases h1 : 256 < h.length
  · rw [if_pos h1]; simp
  · rw [if_neg h1]
    by_cases h2 : allMay h ∧ (mayK s ∨ h = [])
    · rw [if_pos h2]; show (tagsL (keyL s) h).length ≤ 256; rw [tags_len]; omega
    · rw [if_neg h2]; simp
theorem good_len (h : List Ev) (G : ∀ x ∈ h, goodE x) : ∀ x ∈ h, x.2.2.1.length ≤ 1125899906842624 ∧ x.2.2.2.length ≤ 1125899906842624 := fun x hx => by
  have := G x hx
  unfold goodE at this
  omega
theorem may_good7 (x : Ev) (h : mayE x) : goodE x := by
  obtain ⟨k, t, a, b⟩ := x
  have h1 := mayE_range h
  refine ⟨by simp only; omega, by simp only; omega, ?_, ?_⟩
  · by_cases hk : k = 2 ∨ k = 3
    · have := ((mayE_key hk).1 h).2; simp only; omega
    · have := ((mayE_unkey hk).1 h).2; simp only [this.1]; simp
  · by_cases hk : k = 2 ∨ k = 3
    · have := ((mayE_key hk).1 h).2; simp only; omega
    · have := ((mayE_unkey hk).1 h).2; simp only [this.2]; simp
theorem tags_good (s : List UInt8) (h : List Ev) (ha : allMay h) : ∀ x ∈ tagsL (keyL s) h, goodE x := fun x hx => may_good7 x (tags_may (keyL s) (keyL_32 s) h ha x hx)
theorem keyIn_len (h : List Ev) (ha : allMay h) (i : Nat) (hi : i < h.length) : (keyIn h i).length ≤ 100 := by
  have hm := ha _ (List.getElem_mem hi)
  unfold keyIn keyAt
  rw [ev_get h i hi]
  obtain ⟨⟨x0, x1, x2, x3⟩, hx⟩ : ∃ x, h[i] = x := ⟨_, rfl⟩
  rw [hx] at hm ⊢
  simp only
  by_cases hk : keyedE x0
  · rw [if_pos hk]; have := ((mayE_key hk).1 hm).2; simp only [List.length_cons]; omega
  · rw [if_neg hk]; simp
theorem valIn_len (h : List Ev) (ha : allMay h) (i : Nat) (hi : i < h.length) : (valIn h i).length ≤ 100 := by
  have hm := ha _ (List.getElem_mem hi)
  unfold valIn valAt
  rw [ev_get h i hi]
  obtain ⟨⟨x0, x1, x2, x3⟩, hx⟩ : ∃ x, h[i] = x := ⟨_, rfl⟩
  rw [hx] at hm ⊢
  simp only
  by_cases hk : keyedE x0 ∧ x3 ≠ []
  · rw [if_pos hk]; have := ((mayE_key hk.1).1 hm).2; simp only [List.length_cons]; omega
  · rw [if_neg hk]; simp
theorem twinsP_len (s : List UInt8) (h : List Ev) : (twinsP s h).1.length ≤ 100 ∧ (twinsP s h).2.1.length ≤ 100 := by
  unfold twinsP
  by_cases hg : goodH s h
  · rw [if_pos hg]
    cases h1 : twinsG (keyL s) (keyIn h) h.length with
    | some p =>
      obtain ⟨_, _, i, k, hk, hi, e1, e2⟩ := twinsG_some (keyL s) _ _ p.1 p.2 h1
      simp only
      rw [e1, e2]
      exact ⟨keyIn_len h hg.1 k (by omega), keyIn_len h hg.1 i hi⟩
    | none =>
      simp only
      cases h2 : twinsG (keyL s) (valIn h) h.length with
      | some p =>
        obtain ⟨_, _, i, k, hk, hi, e1, e2⟩ := twinsG_some (keyL s) _ _ p.1 p.2 h2
        simp only [twinsR]
        rw [e1, e2]
        exact ⟨valIn_len h hg.1 k (by omega), valIn_len h hg.1 i hi⟩
      | none => simp [twinsR]
  · rw [if_neg hg]; simp
theorem allP_again (s : List UInt8) (h : List Ev) (hl : ¬ 256 < h.length) (hg : goodH s h) : allP s (tagsL (keyL s) h) = (tagsL (keyL s) (tagsL (keyL s) h), 0) := by
  refine allP_ok s _ (by rw [tags_len]; exact hl) (tags_may _ (keyL_32 s) h hg.1) ?_
  rcases hg.2 with hs | rfl
  · exact Or.inl hs
  · right; rfl
theorem tags_get (s : List UInt8) (h : List Ev) (i : Nat) (hi : i < h.length) : (tagsL (keyL s) h)[i]'(by rw [tags_len]; exact hi) = tagE (keyL s) h[i] := by
  unfold tagsL
  rw [List.getElem_map]
end Go.Proofs.YtihggfkenhkglaaDoor
namespace Go.Proofs.YtihggfkenhkglaaDoor
set_option maxRecDepth 100000
set_option linter.unusedVariables false
/-- What is known of texts when one more was asked for. -/
def updF (f : List UInt8 → Option Nat) (t : List UInt8) (p : Nat) : List UInt8 → Option Nat := fun u => if u = t then some ((f t).getD p) else f u
def stepF (f : List UInt8 → Option Nat) (t : List UInt8) (p : Nat) : List UInt8 → Option Nat := if t = [] then f else updF f t p
def nmF (c : UInt8) (f : List UInt8 → Option Nat) (t : List UInt8) (p : Nat) : List UInt8 := if t = [] then [] else c :: figsL ((f t).getD p)
theorem updF_same (f : List UInt8 → Option Nat) (t : List UInt8) (p : Nat) : updF f t p t = some ((f t).getD p) := by unfold updF; rw [if_pos rfl]
theorem updF_other (f : List UInt8 → Option Nat) (t u : List UInt8) (p : Nat) (h : u ≠ t) : updF f t p u = f u := by unfold updF; rw [if_neg h]
theorem updF_there (f : List UInt8 → Option Nat) (t : List UInt8) (p k : Nat) (h : f t = some k) : updF f t p = f := by
  funext u
  unfold updF
  by_cases hu : u = t
  · rw [if_pos hu, hu, h]; rfl
  · rw [if_neg hu]
/-- All first places of the first n. -/
def gF (g : Nat → List UInt8) (n : Nat) : List UInt8 → Option Nat := fun t => fi (fun j => decide (g j = t)) n
def sF (g : Nat → List UInt8) (n : Nat) : List UInt8 → Option Nat := fun t => if t = [] then none else gF g n t
theorem gF_zero (g : Nat → List UInt8) : gF g 0 = fun _ => none := rfl
theorem sF_zero (g : Nat → List UInt8) : sF g 0 = fun _ => none := by funext t; unfold sF; rw [gF_zero]; simp
theorem gF_next (g : Nat → List UInt8) (n : Nat) : updF (gF g n) (g n) n = gF g (n + 1) := by
  funext u
  unfold updF gF
  rw [fi_succ]
  by_cases hu : u = g n
  · rw [if_pos hu, hu]
    simp only [decide_true, if_true]
    cases fi (fun j => decide (g j = g n)) n with
    | none => rfl
    | some k => rfl
  · rw [if_neg hu, if_neg (by simpa using fun h => hu h.symm), Option.or_none]
theorem sF_next (g : Nat → List UInt8) (n : Nat) : stepF (sF g n) (g n) n = sF g (n + 1) := by
  unfold stepF
  by_cases h0 : g n = []
  · rw [if_pos h0]
    funext u
    unfold sF
    by_cases hu : u = []
    · rw [if_pos hu, if_pos hu]
    · rw [if_neg hu, if_neg hu, ← gF_next, updF_other _ _ _ _ (by rw [h0]; exact hu)]
  · rw [if_neg h0]
    funext u
    by_cases hu : u = []
    · rw [updF_other _ _ _ _ (by rw [hu]; exact fun h => h0 h.symm)]
      unfold sF
      rw [if_pos hu, if_pos hu]
    · have e : updF (sF g n) (g n) n u = updF (gF g n) (g n) n u := by
        unfold updF
        have : sF g n (g n) = gF g n (g n) := by unfold sF; rw [if_neg h0]
        rw [this]
        by_cases hh : u = g n
        · rw [if_pos hh, if_pos hh]
        · rw [if_neg hh, if_neg hh]; unfold sF; rw [if_neg hu]
      rw [e, gF_next]
      unfold sF
      rw [if_neg hu]
theorem gF_at (g : Nat → List UInt8) (n i : Nat) (hi : i < n) : (gF g i (g i)).getD i = fstAt g n (g i) := by
  have e := gF_next g i
  have h1 : gF g (i + 1) (g i) = some ((gF g i (g i)).getD i) := by rw [← e, updF_same]
  obtain ⟨a, b, c⟩ := (fi_some _ _ _).1 h1
  exact (first_uniq g n i _ hi (by omega) (of_decide_eq_true b) (fun j hj => of_decide_eq_false (c j hj))).symm
theorem nm_at (c : UInt8) (g : Nat → List UInt8) (n i : Nat) (hi : i < n) : nmF c (sF g i) (g i) i = nameL c g n (g i) := by
  unfold nmF nameL
  by_cases h0 : g i = []
  · rw [if_pos h0, if_pos h0]
  · rw [if_neg h0, if_neg h0, ← gF_at g n i hi]
    unfold sF
    rw [if_neg h0]
theorem gF_lt (g : Nat → List UInt8) (n : Nat) (t : List UInt8) (k : Nat) (h : gF g n t = some k) : k < n := ((fi_some _ _ _).1 h).1
theorem sF_lt (g : Nat → List UInt8) (n : Nat) (t : List UInt8) (k : Nat) (h : sF g n t = some k) : k < n := by
  unfold sF at h
  by_cases h0 : t = []
  · rw [if_pos h0] at h; cases h
  · rw [if_neg h0] at h; exact gF_lt g n t k h
/-- A bound that is kept. -/
def lessF (f : List UInt8 → Option Nat) (n : Nat) : Prop := ∀ t k, f t = some k → k < n
theorem lessF.get {f : List UInt8 → Option Nat} {n : Nat} (h : lessF f n) (t : List UInt8) (p : Nat) (hp : p < n) : (f t).getD p < n := by
  cases hf : f t with
  | none => exact hp
  | some k => exact h t k hf
theorem lessF.upd {f : List UInt8 → Option Nat} {n : Nat} (h : lessF f n) (t : List UInt8) (p : Nat) (hp : p < n) : lessF (updF f t p) n := by
  intro u k hu
  unfold updF at hu
  by_cases hh : u = t
  · rw [if_pos hh] at hu; cases hu; exact h.get t p hp
  · rw [if_neg hh] at hu; exact h u k hu
theorem lessF.step {f : List UInt8 → Option Nat} {n : Nat} (h : lessF f n) (t : List UInt8) (p : Nat) (hp : p < n) : lessF (stepF f t p) n := by
  unfold stepF
  by_cases h0 : t = []
  · rw [if_pos h0]; exact h
  · rw [if_neg h0]; exact h.upd t p hp
theorem lessF.zero (n : Nat) : lessF (fun _ => none) n := fun _ _ h => by cases h
/-- The shape as it grows: k of its events. -/
def shapeTo (h : List Ev) (k : Nat) : List Ev := (shapeL h).take k
theorem shapeTo_next (h : List Ev) (k : Nat) (hk : k < h.length) : shapeTo h (k + 1) = shapeTo h k ++ [((ev h k).1, (ev h k).2.1, nmF 107 (sF (keyAt h) k) (keyAt h k) k, nmF 118 (sF (valAt h) k) (valAt h k) k)] := by
  unfold shapeTo
  have hk' : k < (shapeL h).length := by rw [shape_len]; exact hk
  rw [List.take_succ_eq_append_getElem hk', ← ev_get _ _ hk', shape_at h k hk]
  unfold shapeE
  rw [nm_at _ _ h.length k hk, nm_at _ _ h.length k hk]
  rfl
theorem shapeTo_len (h : List Ev) (k : Nat) (hk : k ≤ h.length) : (shapeTo h k).length = k := by unfold shapeTo; rw [List.length_take, shape_len]; omega
theorem shapeTo_all (h : List Ev) : shapeTo h h.length = shapeL h := by unfold shapeTo; rw [← shape_len h, List.take_length]
/-- Places in order. -/
theorem fin_prefix {n : Nat} {pre : List (Fin n)} {x : Fin n} (h : pre ++ [x] <+: List.finRange n) : pre <+: List.finRange n ∧ x.val = pre.length ∧ pre.length < n := by
  have hl := h.length_le
  rw [List.length_append, List.length_finRange] at hl
  have h1 : pre <+: List.finRange n := (List.prefix_append _ _).trans h
  refine ⟨h1, ?_, by simp at hl; omega⟩
  have h2 := List.IsPrefix.getElem h (i := pre.length) (by simp)
  rw [List.getElem_append_right (Nat.le_refl _)] at h2
  simp at h2
  rw [h2]
theorem fin_take {n k : Nat} (hk : k < n) : (List.finRange n).take (k + 1) = (List.finRange n).take k ++ [⟨k, hk⟩] := by
  rw [List.take_succ_eq_append_getElem (by rw [List.length_finRange]; exact hk), List.getElem_finRange]
  rfl
section
variable (kd : List UInt8 → List UInt8)
/-- Twins, as the program finds them: texts g, what they have tg, inputs in. -/
def tgAt (i : Nat → List UInt8) (j : Nat) : List UInt8 := if i j = [] then [] else kd (i j)
theorem pair_go (hne : ∀ s, kd s ≠ []) (inp g : Nat → List UInt8) (m : UInt8) (hg : ∀ j, inp j = [] ∧ g j = [] ∨ inp j = m :: g j) (i : Nat)
    (hn : ∀ j, j < i → twinAt kd inp j = none) (he : g ((gF (tgAt kd inp) i (tgAt kd inp i)).getD i) = g i) : twinAt kd inp i = none := by
  refine twinAt_off kd inp i fun k hk => ?_
  unfold twinB
  refine decide_eq_false ?_
  rintro ⟨h1, h2, h3, h4⟩
  have tk : tgAt kd inp k = tgAt kd inp i := by unfold tgAt; rw [if_neg h1, if_neg h2, h4]
  cases hf : gF (tgAt kd inp) i (tgAt kd inp i) with
  | none =>
    have := (fi_none _ _).1 hf k hk
    exact of_decide_eq_false this tk
  | some j =>
    rw [hf] at he
    obtain ⟨a, b, c⟩ := (fi_some _ _ _).1 hf
    have tj : tgAt kd inp j = tgAt kd inp i := of_decide_eq_true b
    have hj : inp j ≠ [] := by
      intro h
      unfold tgAt at tj
      rw [if_pos h, if_neg h1] at tj
      exact hne _ tj.symm
    have ej : inp j = inp i := by
      rcases hg j with h | h
      · exact absurd h.1 hj
      · rcases hg i with h' | h'
        · exact absurd h'.1 h1
        · rw [h, h', show g j = g i from he]
    rcases Nat.lt_trichotomy k j with hh | hh | hh
    · exact of_decide_eq_false (c k hh) tk
    · subst hh; exact h3 ej.symm
    · have := (fi_none _ _).1 (hn k hk) j hh
      unfold twinB at this
      have := of_decide_eq_false this
      apply this
      refine ⟨h2, hj, fun e => h3 (by rw [e, ej]), ?_⟩
      rw [← h4, ej]
theorem pair_hit (hne : ∀ s, kd s ≠ []) (inp g : Nat → List UInt8) (m : UInt8) (hg : ∀ j, inp j = [] ∧ g j = [] ∨ inp j = m :: g j) (n i : Nat) (hi : i < n)
    (hn : ∀ j, j < i → twinAt kd inp j = none) (he : g ((gF (tgAt kd inp) i (tgAt kd inp i)).getD i) ≠ g i) :
    twinsG kd inp n = some (m :: g ((gF (tgAt kd inp) i (tgAt kd inp i)).getD i), m :: g i) := by
  cases hf : gF (tgAt kd inp) i (tgAt kd inp i) with
  | none => rw [hf] at he; exact absurd rfl he
  | some j =>
    rw [hf] at he
    simp only [Option.getD_some] at he ⊢
    obtain ⟨a, b, c⟩ := (fi_some _ _ _).1 hf
    have tj : tgAt kd inp j = tgAt kd inp i := of_decide_eq_true b
    have h0 : inp i ≠ [] ∧ inp j ≠ [] := by
      unfold tgAt at tj
      by_cases h1 : inp i = []
      · by_cases h2 : inp j = []
        · exfalso
          apply he
          rcases hg i with h | h
          · rcases hg j with h' | h'
            · rw [h.2, h'.2]
            · rw [h'] at h2; cases h2
          · rw [h] at h1; cases h1
        · rw [if_pos h1, if_neg h2] at tj; exact absurd tj (hne _)
      · by_cases h2 : inp j = []
        · rw [if_neg h1, if_pos h2] at tj; exact absurd tj.symm (hne _)
        · exact ⟨h1, h2⟩
    have ei : inp i = m :: g i := (hg i).resolve_left fun h => h0.1 h.1
    have ej : inp j = m :: g j := (hg j).resolve_left fun h => h0.2 h.1
    rw [← ei, ← ej]
    refine twinsG_hit kd inp n i j hi a hn (fun k hk => ?_) ?_
    · refine decide_eq_false ?_
      rintro ⟨h1, h2, h3, h4⟩
      have := of_decide_eq_false (c k hk)
      exact this (by unfold tgAt; rw [if_neg h1, if_neg h2, h4])
    · refine decide_eq_true ⟨h0.1, h0.2, fun e => he ?_, ?_⟩
      · rw [ei, ej] at e; exact (List.cons.inj e).2.symm
      · unfold tgAt at tj
        rw [if_neg h0.1, if_neg h0.2] at tj
        exact tj.symm
end
end Go.Proofs.YtihggfkenhkglaaDoor
namespace Go.Proofs.YtihggfkenhkglaaDoor
set_option maxRecDepth 100000
set_option linter.unusedVariables false
/-- The first that has the tag of an unlike text ahead of it. -/
def pairL (g tg : Nat → List UInt8) (n : Nat) : Option Nat := fi (fun k => decide (g ((gF tg k (tg k)).getD k) ≠ g k)) n
def pairR (m : UInt8) (g tg : Nat → List UInt8) (n : Nat) : List UInt8 × List UInt8 × Bool := match pairL g tg n with
  | none => ([], [], false)
  | some k => (m :: g ((gF tg k (tg k)).getD k), m :: g k, true)
theorem pairR_none (m : UInt8) (g tg : Nat → List UInt8) (n : Nat) (h : ∀ j, j < n → g ((gF tg j (tg j)).getD j) = g j) : pairR m g tg n = ([], [], false) := by
  unfold pairR pairL
  rw [(fi_none _ _).2 (fun j hj => decide_eq_false (fun hh => hh (h j hj)))]
theorem pairR_some (m : UInt8) (g tg : Nat → List UInt8) (n k : Nat) (hk : k < n) (h : ∀ j, j < k → g ((gF tg j (tg j)).getD j) = g j) (hh : g ((gF tg k (tg k)).getD k) ≠ g k) : pairR m g tg n = (m :: g ((gF tg k (tg k)).getD k), m :: g k, true) := by
  have e : pairL g tg n = some k := (fi_some (fun k => decide (g ((gF tg k (tg k)).getD k) ≠ g k)) n k).2 ⟨hk, decide_eq_true hh, fun j hj => decide_eq_false (fun hx => hx (h j hj))⟩
  unfold pairR
  rw [e]
theorem pair_twins (kd : List UInt8 → List UInt8) (hne : ∀ s, kd s ≠ []) (inp g : Nat → List UInt8) (m : UInt8) (hg : ∀ j, inp j = [] ∧ g j = [] ∨ inp j = m :: g j) (n : Nat) : pairR m g (tgAt kd inp) n = twinsR (twinsG kd inp n) := by
  have go : ∀ k, (∀ j, j < k → g ((gF (tgAt kd inp) j (tgAt kd inp j)).getD j) = g j) → ∀ j, j < k → twinAt kd inp j = none := by
    intro k h j
    induction j using Nat.strongRecOn with
    | _ j ih =>
      intro hj
      exact pair_go kd hne inp g m hg j (fun i hi => ih i hi (by omega)) (h j hj)
  cases hp : pairL g (tgAt kd inp) n with
  | none =>
    have hn : ∀ j, j < n → g ((gF (tgAt kd inp) j (tgAt kd inp j)).getD j) = g j := fun j hj => Classical.byContradiction fun hx => of_decide_eq_false ((fi_none _ _).1 hp j hj) hx
    rw [pairR_none m g _ n hn, twinsG_end kd inp n (go n hn)]
    rfl
  | some k =>
    obtain ⟨h1, h2, h3⟩ := (fi_some _ _ _).1 hp
    have hb : ∀ j, j < k → g ((gF (tgAt kd inp) j (tgAt kd inp j)).getD j) = g j := fun j hj => Classical.byContradiction fun hx => of_decide_eq_false (h3 j hj) hx
    rw [pairR_some m g _ n k h1 hb (of_decide_eq_true h2), pair_hit kd hne inp g m hg n k h1 (go k hb) (of_decide_eq_true h2)]
    rfl
theorem ev_off (h : List Ev) (i : Nat) (hi : ¬ i < h.length) : ev h i = (0, 0, [], []) := by
  unfold ev
  rw [List.getD_eq_getElem?_getD, List.getElem?_eq_none (by omega)]
  rfl
theorem may_at (h : List Ev) (ha : allMay h) (j : Nat) (hj : j < h.length) : mayE (ev h j) := by rw [ev_get h j hj]; exact ha _ (List.getElem_mem hj)
theorem keys_in (h : List Ev) (ha : allMay h) (j : Nat) : keyIn h j = [] ∧ keyAt h j = [] ∨ keyIn h j = 5 :: keyAt h j := by
  unfold keyIn
  by_cases hc : keyedE (ev h j).1
  · right; rw [if_pos hc]
  · left
    rw [if_neg hc]
    refine ⟨rfl, ?_⟩
    by_cases hj : j < h.length
    · have := (may_at h ha j hj).2
      rw [if_neg hc] at this
      exact this.1
    · unfold keyAt; rw [ev_off h j hj]
theorem vals_in (h : List Ev) (ha : allMay h) (j : Nat) : valIn h j = [] ∧ valAt h j = [] ∨ valIn h j = 6 :: valAt h j := by
  unfold valIn
  by_cases hc : keyedE (ev h j).1 ∧ valAt h j ≠ []
  · right; rw [if_pos hc]
  · left
    rw [if_neg hc]
    refine ⟨rfl, ?_⟩
    by_cases hv : valAt h j = []
    · exact hv
    · have hk : ¬ keyedE (ev h j).1 := fun hk => hc ⟨hk, hv⟩
      by_cases hj : j < h.length
      · have := (may_at h ha j hj).2
        rw [if_neg hk] at this
        exact this.2
      · unfold valAt; rw [ev_off h j hj]
section
variable (kd : List UInt8 → List UInt8)
theorem tags_ev (h : List Ev) (j : Nat) : ev (tagsL kd h) j = tagE kd (ev h j) := by
  by_cases hj : j < h.length
  · exact tags_at kd h j hj
  · rw [ev_off _ _ (by rw [tags_len]; exact hj), ev_off _ _ hj]
    unfold tagE
    rw [if_neg (by decide)]
theorem tags_keys (h : List Ev) (ha : allMay h) : keyAt (tagsL kd h) = tgAt kd (keyIn h) := by
  funext j
  unfold keyAt tgAt
  rw [tags_ev]
  by_cases hc : keyedE (ev h j).1
  · have : keyIn h j = 5 :: keyAt h j := by unfold keyIn; rw [if_pos hc]
    rw [this, if_neg (by simp)]
    unfold tagE tagK keyAt
    rw [if_pos hc]
  · have h0 : keyIn h j = [] := by unfold keyIn; rw [if_neg hc]
    rw [h0, if_pos rfl]
    unfold tagE
    rw [if_neg hc]
    rcases keys_in h ha j with h1 | h1
    · exact h1.2
    · rw [h0] at h1; cases h1
theorem tags_vals (h : List Ev) (ha : allMay h) : valAt (tagsL kd h) = tgAt kd (valIn h) := by
  funext j
  unfold valAt tgAt
  rw [tags_ev]
  by_cases hc : keyedE (ev h j).1
  · unfold tagE
    rw [if_pos hc]
    show tagV kd (ev h j).2.2.2 = _
    unfold tagV
    by_cases hv : (ev h j).2.2.2 = []
    · have : valIn h j = [] := by unfold valIn; rw [if_neg (fun hh => hh.2 hv)]
      rw [if_pos hv, this, if_pos rfl]
    · have : valIn h j = 6 :: valAt h j := by unfold valIn; rw [if_pos ⟨hc, hv⟩]
      rw [if_neg hv, this, if_neg (by simp)]
      rfl
  · have h0 : valIn h j = [] := by unfold valIn; rw [if_neg (fun hh => hc hh.1)]
    rw [h0, if_pos rfl]
    unfold tagE
    rw [if_neg hc]
    rcases vals_in h ha j with h1 | h1
    · exact h1.2
    · rw [h0] at h1; cases h1
end
end Go.Proofs.YtihggfkenhkglaaDoor
