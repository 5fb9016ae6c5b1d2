/-
  What a committed transaction saw and should not have seen, in lists: of no program.
-/
import Derived.Test.YthopjpjloeaamaaZHistM
namespace Go.Proofs.Ythopjpjloeaamaa
set_option maxRecDepth 100000
set_option linter.unusedVariables false
/-- Where a transaction was committed. -/
def commL (h : List Ev) (t : Int) : Option Nat :=
  match endL h t h.length with
  | none => none
  | some e => if (ev h e).1 = 4 then some e else none
theorem commL_some (h : List Ev) (t : Int) (e : Nat) : commL h t = some e ↔ endL h t h.length = some e ∧ (ev h e).1 = 4 := by
  unfold commL
  cases he : endL h t h.length with
  | none => simp
  | some e' =>
    simp only
    by_cases h4 : (ev h e').1 = 4
    · rw [if_pos h4]
      constructor
      · intro hh; cases hh; exact ⟨rfl, h4⟩
      · intro hh; cases hh.1; rfl
    · rw [if_neg h4]
      constructor
      · intro hh; cases hh
      · intro hh; cases hh.1; exact absurd hh.2 h4
theorem comm_find (h : List Ev) (t : Int) (e : Nat) (hc : commL h t = some e) : ∃ f, findL h t = some (t, f, e, true) := by
  obtain ⟨h1, h2⟩ := (commL_some h t e).1 hc
  obtain ⟨e1, e2, e3⟩ := (endL_some _ _ _ _).1 h1
  cases hf : fstL h t h.length with
  | none => exact absurd e2.1 ((fstL_none _ _ _).1 hf e e1)
  | some f => exact ⟨f, by unfold findL; rw [hf, h1]; simp only [h2]; rfl⟩
theorem find_comm (h : List Ev) (t : Int) (a f e : Nat) (t' : Int) (hf : findL h t = some (t', f, e, true)) : t' = t ∧ commL h t = some e := by
  unfold findL at hf
  cases h1 : fstL h t h.length with
  | none => rw [h1] at hf; cases hf
  | some f' =>
    rw [h1] at hf
    simp only at hf
    cases h2 : endL h t h.length with
    | none => rw [h2] at hf; simp at hf
    | some e' =>
      rw [h2] at hf
      simp only [Option.some.injEq, Prod.mk.injEq] at hf
      obtain ⟨rfl, rfl, rfl, h4⟩ := hf
      exact ⟨rfl, (commL_some _ _ _).2 ⟨h2, of_decide_eq_true h4⟩⟩
/-- A read that counts. -/
def countsL (h : List Ev) (i : Nat) : Prop := i < h.length ∧ (ev h i).1 = 2 ∧ ∃ e, commL h (ev h i).2.1 = some e ∧ i < e
def countsB (h : List Ev) (i : Nat) : Bool := decide (i < h.length) && decide ((ev h i).1 = 2) && (match commL h (ev h i).2.1 with | some e => decide (i < e) | none => false)
theorem counts_iff (h : List Ev) (i : Nat) : countsB h i = true ↔ countsL h i := by
  unfold countsB countsL
  cases hc : commL h (ev h i).2.1 with
  | none => simp
  | some e => simp [and_assoc]
/-- What is wrong with a read: kind, its place, the place of the write. -/
def atL (h : List Ev) (i : Nat) : Int × Int × Int :=
  if countsB h i = false then (0, 0, 0) else
  match lastN h (ev h i).2.1 (ev h i).2.2.1 i with
  | some k => if (ev h k).2.2.2 = (ev h i).2.2.2 then (0, 0, 0) else (3, (i : Int), (k : Int))
  | none =>
    if (ev h i).2.2.2 = [] then (0, 0, 0) else
    match writerL h (ev h i).2.2.1 (ev h i).2.2.2 with
    | none => (0, 0, 0)
    | some w =>
      if (ev h w).2.1 = (ev h i).2.1 then (4, (i : Int), (w : Int)) else
      match commL h (ev h w).2.1 with
      | none => (1, (i : Int), (w : Int))
      | some e => if lastN h (ev h w).2.1 (ev h i).2.2.1 (min h.length e) = some w then (0, 0, 0) else (2, (i : Int), oI (lastN h (ev h w).2.1 (ev h i).2.2.1 (min h.length e)))
def outerB (h : List Ev) (i : Nat) : Bool := countsB h i && decide (lastN h (ev h i).2.1 (ev h i).2.2.1 i = none)
def badsL (h : List Ev) : List (Int × Int × Int) := (List.range h.length).filterMap fun i => if (atL h i).1 = 0 then none else some (atL h i)
def clean (h : List Ev) : Prop := ∀ i, i < h.length → (atL h i).1 = 0
theorem bads_nil (h : List Ev) : badsL h = [] ↔ clean h := by
  unfold badsL clean
  rw [List.filterMap_eq_nil_iff]
  constructor
  · intro hh i hi
    have := hh i (List.mem_range.2 hi)
    by_cases h0 : (atL h i).1 = 0
    · exact h0
    · rw [if_neg h0] at this; cases this
  · intro hh i hi
    rw [if_pos (hh i (List.mem_range.1 hi))]
theorem at_zero (h : List Ev) (i : Nat) (h0 : (atL h i).1 = 0) : atL h i = (0, 0, 0) := by
  unfold atL at h0 ⊢
  repeat' split at h0
  all_goals first | (exfalso; revert h0; decide) | skip
  all_goals simp_all
/-- What a clean read is of. -/
theorem clean_own {h : List Ev} (hc : clean h) {i k : Nat} (hi : countsL h i) (hl : lastN h (ev h i).2.1 (ev h i).2.2.1 i = some k) : (ev h k).2.2.2 = (ev h i).2.2.2 := by
  have h0 := hc i hi.1
  unfold atL at h0
  rw [if_neg (by rw [(counts_iff h i).2 hi]; simp), hl] at h0
  simp only at h0
  by_cases he : (ev h k).2.2.2 = (ev h i).2.2.2
  · exact he
  · rw [if_neg he] at h0; revert h0; simp
theorem clean_other {h : List Ev} (hc : clean h) {i w : Nat} (hi : countsL h i) (hl : lastN h (ev h i).2.1 (ev h i).2.2.1 i = none) (hv : (ev h i).2.2.2 ≠ []) (hw : writerL h (ev h i).2.2.1 (ev h i).2.2.2 = some w) : (ev h w).2.1 ≠ (ev h i).2.1 ∧ ∃ e, commL h (ev h w).2.1 = some e ∧ lastN h (ev h w).2.1 (ev h i).2.2.1 e = some w := by
  have h0 := hc i hi.1
  unfold atL at h0
  rw [if_neg (by rw [(counts_iff h i).2 hi]; simp), hl] at h0
  simp only at h0
  rw [if_neg hv, hw] at h0
  simp only at h0
  by_cases ht : (ev h w).2.1 = (ev h i).2.1
  · rw [if_pos ht] at h0; revert h0; simp
  · rw [if_neg ht] at h0
    refine ⟨ht, ?_⟩
    cases hm : commL h (ev h w).2.1 with
    | none => rw [hm] at h0; revert h0; simp
    | some e =>
      rw [hm] at h0
      simp only at h0
      have he := ((endL_some _ _ _ _).1 ((commL_some _ _ _).1 hm).1).1
      rw [Nat.min_eq_right (by omega)] at h0
      by_cases hl' : lastN h (ev h w).2.1 (ev h i).2.2.1 e = some w
      · exact ⟨e, rfl, hl'⟩
      · rw [if_neg hl'] at h0; revert h0; simp
end Go.Proofs.Ythopjpjloeaamaa
