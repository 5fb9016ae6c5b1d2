/-
  What follows of a history that is well formed, in lists: of no program.
-/
import Derived.Test.YthopjpjloeaamaaZHistL
namespace Go.Proofs.Ythopjpjloeaamaa
set_option maxRecDepth 100000
set_option linter.unusedVariables false
theorem fstL_none (h : List Ev) (t : Int) (n : Nat) : fstL h t n = none ↔ ∀ j, j < n → (ev h j).2.1 ≠ t := by
  unfold fstL; rw [fi_none]
  constructor
  · intro hh j hj; exact of_decide_eq_false (hh j hj)
  · intro hh j hj; exact decide_eq_false (hh j hj)
theorem fstL_some (h : List Ev) (t : Int) (n i : Nat) : fstL h t n = some i ↔ i < n ∧ (ev h i).2.1 = t ∧ ∀ j, j < i → (ev h j).2.1 ≠ t := by
  unfold fstL; rw [fi_some]
  constructor
  · intro ⟨a, b, c⟩; exact ⟨a, of_decide_eq_true b, fun j hj => of_decide_eq_false (c j hj)⟩
  · intro ⟨a, b, c⟩; exact ⟨a, decide_eq_true b, fun j hj => decide_eq_false (c j hj)⟩
abbrev endB (x : Ev) (t : Int) : Prop := x.2.1 = t ∧ (x.1 = 4 ∨ x.1 = 5)
theorem endL_none (h : List Ev) (t : Int) (n : Nat) : endL h t n = none ↔ ∀ j, j < n → ¬ endB (ev h j) t := by
  unfold endL; rw [fi_none]
  constructor
  · intro hh j hj; exact of_decide_eq_false (hh j hj)
  · intro hh j hj; exact decide_eq_false (hh j hj)
theorem endL_some (h : List Ev) (t : Int) (n i : Nat) : endL h t n = some i ↔ i < n ∧ endB (ev h i) t ∧ ∀ j, j < i → ¬ endB (ev h j) t := by
  unfold endL; rw [fi_some]
  constructor
  · intro ⟨a, b, c⟩; exact ⟨a, of_decide_eq_true b, fun j hj => of_decide_eq_false (c j hj)⟩
  · intro ⟨a, b, c⟩; exact ⟨a, decide_eq_true b, fun j hj => decide_eq_false (c j hj)⟩
theorem writerL_none (h : List Ev) (key val : List UInt8) : writerL h key val = none ↔ ∀ j, j < h.length → ¬ ((ev h j).1 = 3 ∧ (ev h j).2.2.1 = key ∧ (ev h j).2.2.2 = val) := by
  unfold writerL; rw [fi_none]
  constructor
  · intro hh j hj; exact of_decide_eq_false (hh j hj)
  · intro hh j hj; exact decide_eq_false (hh j hj)
theorem writerL_some (h : List Ev) (key val : List UInt8) (i : Nat) : writerL h key val = some i ↔ i < h.length ∧ ((ev h i).1 = 3 ∧ (ev h i).2.2.1 = key ∧ (ev h i).2.2.2 = val) ∧ ∀ j, j < i → ¬ ((ev h j).1 = 3 ∧ (ev h j).2.2.1 = key ∧ (ev h j).2.2.2 = val) := by
  unfold writerL; rw [fi_some]
  constructor
  · intro ⟨a, b, c⟩; exact ⟨a, of_decide_eq_true b, fun j hj => of_decide_eq_false (c j hj)⟩
  · intro ⟨a, b, c⟩; exact ⟨a, decide_eq_true b, fun j hj => decide_eq_false (c j hj)⟩
theorem lastN_some (h : List Ev) (t : Int) (key : List UInt8) (n i : Nat) : lastN h t key n = some i ↔ i < n ∧ ((ev h i).1 = 3 ∧ (ev h i).2.1 = t ∧ (ev h i).2.2.1 = key) ∧ ∀ j, i < j → j < n → ¬ ((ev h j).1 = 3 ∧ (ev h j).2.1 = t ∧ (ev h j).2.2.1 = key) := by
  unfold lastN; rw [la_some]
  constructor
  · intro ⟨a, b, c⟩; exact ⟨a, of_decide_eq_true b, fun j hj hn => of_decide_eq_false (c j hj hn)⟩
  · intro ⟨a, b, c⟩; exact ⟨a, decide_eq_true b, fun j hj hn => decide_eq_false (c j hj hn)⟩
theorem lastN_none (h : List Ev) (t : Int) (key : List UInt8) (n : Nat) : lastN h t key n = none ↔ ∀ j, j < n → ¬ ((ev h j).1 = 3 ∧ (ev h j).2.1 = t ∧ (ev h j).2.2.1 = key) := by
  unfold lastN; rw [la_none]
  constructor
  · intro hh j hj; exact of_decide_eq_false (hh j hj)
  · intro hh j hj; exact decide_eq_false (hh j hj)
theorem sameVal_none (h : List Ev) (v : List UInt8) (n : Nat) : fi (sameVal h v) n = none ↔ ∀ j, j < n → ¬ ((ev h j).1 = 3 ∧ (ev h j).2.2.2 = v) := by
  rw [fi_none]
  constructor
  · intro hh j hj; exact of_decide_eq_false (hh j hj)
  · intro hh j hj; exact decide_eq_false (hh j hj)
/-- A transaction's life: number, first place, end, whether it was committed. -/
def findL (h : List Ev) (t : Int) : Option (Int × Nat × Nat × Bool) :=
  match fstL h t h.length with
  | none => none
  | some f => match endL h t h.length with
    | none => some (t, f, h.length, false)
    | some e => some (t, f, e, decide ((ev h e).1 = 4))
def livesL (h : List Ev) : List (Int × Nat × Nat × Bool) := (List.range h.length).filterMap fun i => if fstL h (ev h i).2.1 i = none then findL h (ev h i).2.1 else none
/-- Is the end of a committed transaction that wrote the key. -/
def verOf (h : List Ev) (key : List UInt8) (i : Nat) : Option Nat := if (ev h i).1 = 4 ∧ endL h (ev h i).2.1 h.length = some i then lastN h (ev h i).2.1 key i else none
def versL (h : List Ev) (key : List UInt8) : List Nat := (List.range h.length).filterMap (verOf h key)
section
variable {h : List Ev}
theorem wf_may (hw : WF h) {i : Nat} (hi : i < h.length) : mayE (ev h i) := ((formStep_zero h i).1 (hw.2.1 i hi)).1
theorem wf_first (hw : WF h) {i j : Nat} (hi : i < h.length) (h1 : (ev h i).1 = 1) (hj : j < i) : (ev h j).2.1 ≠ (ev h i).2.1 := (fstL_none _ _ _).1 (((formStep_zero h i).1 (hw.2.1 i hi)).2.1 h1) j hj
theorem wf_had (hw : WF h) {i : Nat} (hi : i < h.length) (h1 : (ev h i).1 ≠ 1) : ∃ j, j < i ∧ (ev h j).2.1 = (ev h i).2.1 := by
  have := (((formStep_zero h i).1 (hw.2.1 i hi)).2.2 h1).1
  cases hf : fstL h (ev h i).2.1 i with
  | none => exact absurd hf this
  | some j => have := (fstL_some _ _ _ _).1 hf; exact ⟨j, this.1, this.2.1⟩
theorem wf_open (hw : WF h) {i j : Nat} (hi : i < h.length) (hj : j < i) : ¬ endB (ev h j) (ev h i).2.1 := by
  by_cases h1 : (ev h i).1 = 1
  · intro he; exact wf_first hw hi h1 hj he.1
  · exact (endL_none _ _ _).1 (((formStep_zero h i).1 (hw.2.1 i hi)).2.2 h1).2.1 j hj
theorem wf_vals (hw : WF h) {i j : Nat} (hi : i < h.length) (h3 : (ev h i).1 = 3) (hj : j < i) (h3' : (ev h j).1 = 3) : (ev h j).2.2.2 ≠ (ev h i).2.2.2 := by
  intro he
  exact (sameVal_none _ _ _).1 ((((formStep_zero h i).1 (hw.2.1 i hi)).2.2 (by rw [h3]; decide)).2.2.1 h3) j hj ⟨h3', he⟩
theorem wf_read (hw : WF h) {i : Nat} (hi : i < h.length) (h2 : (ev h i).1 = 2) (hv : (ev h i).2.2.2 ≠ []) : ∃ j, writerL h (ev h i).2.2.1 (ev h i).2.2.2 = some j := by
  have := (((formStep_zero h i).1 (hw.2.1 i hi)).2.2 (by rw [h2]; decide)).2.2.2 h2 hv
  cases hf : writerL h (ev h i).2.2.1 (ev h i).2.2.2 with
  | none => exact absurd hf this
  | some j => exact ⟨j, rfl⟩
/-- Each transaction has one beginning ahead of all its events, and one end behind them. -/
theorem wf_life (hw : WF h) {i : Nat} (hi : i < h.length) : ∃ f e, fstL h (ev h i).2.1 h.length = some f ∧ endL h (ev h i).2.1 h.length = some e ∧ f ≤ i ∧ i ≤ e ∧ e < h.length ∧ ((ev h i).1 = 1 ↔ i = f) ∧ (4 ≤ (ev h i).1 ↔ i = e) := by
  cases hf : fstL h (ev h i).2.1 h.length with
  | none => exact absurd rfl ((fstL_none _ _ _).1 hf i hi)
  | some f =>
    cases he : endL h (ev h i).2.1 h.length with
    | none => exact absurd he (hw.2.2 i hi)
    | some e =>
      obtain ⟨f1, f2, f3⟩ := (fstL_some _ _ _ _).1 hf
      obtain ⟨e1, e2, e3⟩ := (endL_some _ _ _ _).1 he
      have hfi : f ≤ i := Nat.le_of_not_lt fun hh => f3 i hh rfl
      have hie : i ≤ e := Nat.le_of_not_lt fun hh => wf_open hw hi hh e2
      refine ⟨f, e, rfl, rfl, hfi, hie, e1, ⟨fun h1 => ?_, fun h1 => ?_⟩, ⟨fun h4 => ?_, fun h4 => ?_⟩⟩
      · rcases Nat.lt_or_ge f i with hh | hh
        · exact absurd f2 (wf_first hw hi h1 hh)
        · omega
      · apply Classical.byContradiction
        intro hn
        obtain ⟨j, hj, hjt⟩ := wf_had hw hi hn
        exact f3 j (by omega) hjt
      · have hm := wf_may hw hi
        have hb : endB (ev h i) (ev h i).2.1 := ⟨rfl, by have := hm.1; omega⟩
        rcases Nat.lt_or_ge i e with hh | hh
        · exact absurd hb (e3 i hh)
        · omega
      · subst h4
        rcases e2.2 with hh | hh <;> rw [hh] <;> decide
theorem wf_find (hw : WF h) {i : Nat} (hi : i < h.length) : ∃ f e, findL h (ev h i).2.1 = some ((ev h i).2.1, f, e, decide ((ev h e).1 = 4)) ∧ f ≤ i ∧ i ≤ e ∧ e < h.length ∧ ((ev h i).1 = 1 ↔ i = f) ∧ (4 ≤ (ev h i).1 ↔ i = e) ∧ endL h (ev h i).2.1 h.length = some e := by
  obtain ⟨f, e, h1, h2, h3, h4, h5, h6, h7⟩ := wf_life hw hi
  exact ⟨f, e, by unfold findL; rw [h1, h2], h3, h4, h5, h6, h7, h2⟩
end
theorem verOf_some {h : List Ev} {key : List UInt8} {i k : Nat} (hv : verOf h key i = some k) : (ev h i).1 = 4 ∧ endL h (ev h i).2.1 h.length = some i ∧ k < i ∧ (ev h k).1 = 3 ∧ (ev h k).2.1 = (ev h i).2.1 ∧ (ev h k).2.2.1 = key ∧ ∀ j, k < j → j < i → ¬ ((ev h j).1 = 3 ∧ (ev h j).2.1 = (ev h i).2.1 ∧ (ev h j).2.2.1 = key) := by
  unfold verOf at hv
  by_cases hc : (ev h i).1 = 4 ∧ endL h (ev h i).2.1 h.length = some i
  · rw [if_pos hc] at hv
    obtain ⟨a, b, c⟩ := (lastN_some _ _ _ _ _).1 hv
    exact ⟨hc.1, hc.2, a, b.1, b.2.1, b.2.2, c⟩
  · rw [if_neg hc] at hv; cases hv
/-- The ends that versions come from, in the order of the versions. -/
def srcL (h : List Ev) (key : List UInt8) : List Nat := (List.range h.length).filter fun i => (verOf h key i).isSome
theorem filterMap_filter {α β : Type} (f : α → Option β) (d : β) : ∀ l : List α, l.filterMap f = (l.filter fun i => (f i).isSome).map fun i => (f i).getD d
  | [] => rfl
  | x :: l => by
    cases hx : f x with
    | none => rw [List.filterMap_cons_none hx, List.filter_cons_of_neg (by simp [hx]), filterMap_filter f d l]
    | some y => rw [List.filterMap_cons_some hx, List.filter_cons_of_pos (by simp [hx]), List.map_cons, hx, filterMap_filter f d l]; rfl
theorem vers_src (h : List Ev) (key : List UInt8) : versL h key = (srcL h key).map fun i => (verOf h key i).getD 0 := filterMap_filter _ _ _
theorem src_len (h : List Ev) (key : List UInt8) : (srcL h key).length = (versL h key).length := by rw [vers_src, List.length_map]
theorem src_sorted (h : List Ev) (key : List UInt8) : (srcL h key).Pairwise (· < ·) := List.Pairwise.filter _ List.pairwise_lt_range
theorem src_at (h : List Ev) (key : List UInt8) (j : Nat) (hj : j < (versL h key).length) : (srcL h key)[j]'(by rw [src_len]; exact hj) < h.length ∧ verOf h key ((srcL h key)[j]'(by rw [src_len]; exact hj)) = some (versL h key)[j] := by
  have hm := List.getElem_mem (l := srcL h key) (by rw [src_len]; exact hj : j < (srcL h key).length)
  unfold srcL at hm
  rw [List.mem_filter, List.mem_range] at hm
  refine ⟨hm.1, ?_⟩
  have e : (versL h key)[j] = (verOf h key ((srcL h key)[j]'(by rw [src_len]; exact hj))).getD 0 := by simp only [vers_src, List.getElem_map]
  rw [e]
  obtain ⟨y, hy⟩ := Option.isSome_iff_exists.1 hm.2
  have hy' : verOf h key ((srcL h key)[j]'(by rw [src_len]; exact hj)) = some y := hy
  rw [hy']; rfl
theorem vers_mem (h : List Ev) (key : List UInt8) (i k : Nat) (hi : i < h.length) (hv : verOf h key i = some k) : k ∈ versL h key := List.mem_filterMap.2 ⟨i, List.mem_range.2 hi, hv⟩
/-- A key's versions are writes of it by committed transactions, whose ends are the sources. -/
theorem vers_at {h : List Ev} (hw : WF h) (key : List UInt8) (j : Nat) (hj : j < (versL h key).length) : ∃ f, (versL h key)[j] < h.length ∧ (ev h (versL h key)[j]).1 = 3 ∧ (ev h (versL h key)[j]).2.2.1 = key ∧ findL h (ev h (versL h key)[j]).2.1 = some ((ev h (versL h key)[j]).2.1, f, (srcL h key)[j]'(by rw [src_len]; exact hj), true) := by
  obtain ⟨s1, s2⟩ := src_at h key j hj
  obtain ⟨a, b, c, d, e, f, _⟩ := verOf_some s2
  obtain ⟨f', e', g1, g2, g3, g4, g5, g6, g7⟩ := wf_find hw (show (versL h key)[j] < h.length by omega)
  refine ⟨f', by omega, d, f, ?_⟩
  rw [e] at g7
  rw [g7] at b
  cases b
  rw [g1, a]; rfl
/-- Each committed transaction that wrote the key has a version, no elder one. -/
theorem vers_has {h : List Ev} (hw : WF h) (key : List UInt8) (i : Nat) (hi : i < h.length) (h3 : (ev h i).1 = 3) (hk : (ev h i).2.2.1 = key) (f e : Nat) (hf : findL h (ev h i).2.1 = some ((ev h i).2.1, f, e, true)) : ∃ k, k ∈ versL h key ∧ (ev h k).2.1 = (ev h i).2.1 ∧ i ≤ k := by
  obtain ⟨f', e', g1, g2, g3, g4, g5, g6, g7⟩ := wf_find hw hi
  rw [hf] at g1
  simp only [Option.some.injEq, Prod.mk.injEq, true_and] at g1
  obtain ⟨rfl, rfl, h4⟩ := g1
  have h4' : (ev h e).1 = 4 := of_decide_eq_true h4.symm
  have hie : i ≠ e := fun he => by rw [he] at h3; rw [h3] at h4'; cases h4'
  have et := (endL_some _ _ _ _).1 g7
  cases hl : lastN h (ev h i).2.1 key e with
  | none => exact absurd ⟨h3, rfl, hk⟩ ((lastN_none _ _ _ _).1 hl i (by omega))
  | some k =>
    obtain ⟨l1, l2, l3⟩ := (lastN_some _ _ _ _ _).1 hl
    refine ⟨k, vers_mem h key e k g4 ?_, l2.2.1, Nat.le_of_not_lt fun hh => l3 i hh (by omega) ⟨h3, rfl, hk⟩⟩
    unfold verOf
    rw [et.2.1.1, if_pos ⟨h4', g7⟩]
    exact hl
end Go.Proofs.Ythopjpjloeaamaa
