/-
  Histories in lists: places, ends, writes, versions, which are well formed: of no program.
-/
import Derived.Test.YthopjpjloeaamaaZEventL
namespace Go.Proofs.Ythopjpjloeaamaa
set_option maxRecDepth 100000
set_option linter.unusedVariables false
/-- The first number below n of which p says so; the last one. -/
def fi (p : Nat → Bool) (n : Nat) : Option Nat := (List.range n).find? p
def la (p : Nat → Bool) : Nat → Option Nat
  | 0 => none
  | n + 1 => if p n = true then some n else la p n
theorem fi_zero (p : Nat → Bool) : fi p 0 = none := rfl
theorem fi_succ (p : Nat → Bool) (n : Nat) : fi p (n + 1) = (fi p n).or (if p n = true then some n else none) := by
  unfold fi
  rw [List.range_succ, List.find?_append]
  congr 1
  by_cases h : p n = true
  · rw [if_pos h, List.find?_cons_of_pos h]
  · rw [if_neg h, List.find?_cons_of_neg h]; rfl
theorem fi_none (p : Nat → Bool) (n : Nat) : fi p n = none ↔ ∀ i, i < n → p i = false := by
  unfold fi
  rw [List.find?_eq_none]
  constructor
  · intro h i hi
    have := h i (List.mem_range.2 hi)
    simpa using this
  · intro h i hi
    have := h i (List.mem_range.1 hi)
    simp [this]
theorem fi_some (p : Nat → Bool) : ∀ (n i : Nat), fi p n = some i ↔ i < n ∧ p i = true ∧ ∀ j, j < i → p j = false
  | 0, i => by rw [fi_zero]; constructor; intro h; cases h; intro h; omega
  | n + 1, i => by
    rw [fi_succ]
    cases hf : fi p n with
    | none =>
      have hn := (fi_none p n).1 hf
      rw [Option.none_or]
      by_cases h : p n = true
      · rw [if_pos h]
        constructor
        · intro e; cases e; exact ⟨by omega, h, hn⟩
        · intro ⟨h1, h2, h3⟩
          rcases Nat.lt_or_ge i n with hi | hi
          · have := hn i hi; rw [h2] at this; cases this
          · rw [show i = n by omega]
      · rw [if_neg h]
        constructor
        · intro e; cases e
        · intro ⟨h1, h2, h3⟩
          rcases Nat.lt_or_ge i n with hi | hi
          · have := hn i hi; rw [h2] at this; cases this
          · rw [show i = n by omega] at h2; exact absurd h2 h
    | some k =>
      have hk := (fi_some p n k).1 hf
      rw [Option.some_or]
      constructor
      · intro e; cases e; exact ⟨by omega, hk.2.1, hk.2.2⟩
      · intro ⟨h1, h2, h3⟩
        rcases Nat.lt_trichotomy i k with hi | hi | hi
        · have := hk.2.2 i hi; rw [h2] at this; cases this
        · rw [hi]
        · have := h3 k hi; rw [hk.2.1] at this; cases this
theorem fi_congr {p q : Nat → Bool} {n : Nat} (h : ∀ i, i < n → p i = q i) : fi p n = fi q n := by
  cases hf : fi q n with
  | none => rw [fi_none] at hf ⊢; intro i hi; rw [h i hi]; exact hf i hi
  | some k =>
    rw [fi_some] at hf ⊢
    exact ⟨hf.1, by rw [h k hf.1]; exact hf.2.1, fun j hj => by rw [h j (by omega)]; exact hf.2.2 j hj⟩
theorem la_some (p : Nat → Bool) : ∀ (n i : Nat), la p n = some i ↔ i < n ∧ p i = true ∧ ∀ j, i < j → j < n → p j = false
  | 0, i => by rw [la]; constructor; intro h; cases h; intro h; omega
  | n + 1, i => by
    rw [la]
    by_cases h : p n = true
    · rw [if_pos h]
      constructor
      · intro e; cases e; exact ⟨by omega, h, fun j h1 h2 => by omega⟩
      · intro ⟨h1, h2, h3⟩
        rcases Nat.lt_or_ge i n with hi | hi
        · have := h3 n hi (by omega); rw [h] at this; cases this
        · rw [show i = n by omega]
    · rw [if_neg h, la_some p n i]
      constructor
      · intro ⟨h1, h2, h3⟩
        refine ⟨by omega, h2, fun j hj hn => ?_⟩
        rcases Nat.lt_or_ge j n with hjn | hjn
        · exact h3 j hj hjn
        · rw [show j = n by omega]; simpa using h
      · intro ⟨h1, h2, h3⟩
        rcases Nat.lt_or_ge i n with hi | hi
        · exact ⟨hi, h2, fun j hj hn => h3 j hj (by omega)⟩
        · rw [show i = n by omega] at h2; exact absurd h2 h
theorem la_none (p : Nat → Bool) : ∀ (n : Nat), la p n = none ↔ ∀ i, i < n → p i = false
  | 0 => by rw [la]; exact ⟨fun _ i hi => by omega, fun _ => rfl⟩
  | n + 1 => by
    rw [la]
    by_cases h : p n = true
    · rw [if_pos h]
      constructor
      · intro e; cases e
      · intro hh; have := hh n (by omega); rw [h] at this; cases this
    · rw [if_neg h, la_none p n]
      constructor
      · intro hh i hi
        rcases Nat.lt_or_ge i n with hin | hin
        · exact hh i hin
        · rw [show i = n by omega]; simpa using h
      · intro hh i hi; exact hh i (by omega)
def oI : Option Nat → Int
  | none => -1
  | some i => (i : Int)
/-- The event at a place. -/
def ev (h : List Ev) (i : Nat) : Ev := h.getD i (0, 0, [], [])
theorem ev_get (h : List Ev) (i : Nat) (hi : i < h.length) : ev h i = h[i] := by unfold ev; rw [List.getD_eq_getElem?_getD, List.getElem?_eq_getElem hi]; rfl
theorem ev_left (a b : List Ev) (i : Nat) (hi : i < a.length) : ev (a ++ b) i = ev a i := by
  rw [ev_get _ _ (by rw [List.length_append]; omega), ev_get _ _ hi, List.getElem_append_left hi]
theorem ev_right (a b : List Ev) (i : Nat) (hi : i < b.length) : ev (a ++ b) (a.length + i) = ev b i := by
  rw [ev_get _ _ (by rw [List.length_append]; omega), ev_get _ _ hi, List.getElem_append_right (by omega)]
  congr 1; omega
theorem ev_take (h : List Ev) (n i : Nat) (hi : i < n) (hn : n ≤ h.length) : ev (h.take n) i = ev h i := by
  rw [ev_get _ _ (by rw [List.length_take]; omega), ev_get _ _ (by omega), List.getElem_take]
def isEnd (h : List Ev) (t : Int) (i : Nat) : Bool := decide ((ev h i).2.1 = t ∧ ((ev h i).1 = 4 ∨ (ev h i).1 = 5))
def endL (h : List Ev) (t : Int) (n : Nat) : Option Nat := fi (isEnd h t) n
def ofTxn (h : List Ev) (t : Int) (i : Nat) : Bool := decide ((ev h i).2.1 = t)
def fstL (h : List Ev) (t : Int) (n : Nat) : Option Nat := fi (ofTxn h t) n
def isWr (h : List Ev) (key val : List UInt8) (i : Nat) : Bool := decide ((ev h i).1 = 3 ∧ (ev h i).2.2.1 = key ∧ (ev h i).2.2.2 = val)
def writerL (h : List Ev) (key val : List UInt8) : Option Nat := fi (isWr h key val) h.length
def isWrT (h : List Ev) (t : Int) (key : List UInt8) (i : Nat) : Bool := decide ((ev h i).1 = 3 ∧ (ev h i).2.1 = t ∧ (ev h i).2.2.1 = key)
def lastN (h : List Ev) (t : Int) (key : List UInt8) (n : Nat) : Option Nat := la (isWrT h t key) n
def lastL (h : List Ev) (t : Int) (key : List UInt8) (before : Int) : Option Nat := lastN h t key (min h.length before.toNat)
def sameVal (h : List Ev) (v : List UInt8) (i : Nat) : Bool := decide ((ev h i).1 = 3 ∧ (ev h i).2.2.2 = v)
/-- What is wrong with the event at a place (0: nothing). -/
def formStep (h : List Ev) (i : Nat) : Nat :=
  if ¬ mayE (ev h i) then 1
  else if (ev h i).1 = 1 then (if fstL h (ev h i).2.1 i = none then 0 else 8)
  else if fstL h (ev h i).2.1 i = none then 7
  else if endL h (ev h i).2.1 i ≠ none then 9
  else if (ev h i).1 = 3 ∧ fi (sameVal h (ev h i).2.2.2) i ≠ none then 8
  else if (ev h i).1 = 2 ∧ (ev h i).2.2.2 ≠ [] ∧ writerL h (ev h i).2.2.1 (ev h i).2.2.2 = none then 7
  else 0
def wrongAt (h : List Ev) (i : Nat) : Bool := decide (formStep h i ≠ 0)
def openAt (h : List Ev) (i : Nat) : Bool := decide (endL h (ev h i).2.1 h.length = none)
def formedL (h : List Ev) : Nat × Nat :=
  if 256 < h.length then (0, 4) else
  match fi (wrongAt h) h.length with
  | some i => (i, formStep h i)
  | none => if fi (openAt h) h.length = none then (h.length, 0) else (h.length, 9)
/-- Well formed. -/
def WF (h : List Ev) : Prop := h.length ≤ 256 ∧ (∀ i, i < h.length → formStep h i = 0) ∧ ∀ i, i < h.length → endL h (ev h i).2.1 h.length ≠ none
theorem formed_ok (h : List Ev) : (formedL h).2 = 0 ↔ WF h := by
  unfold formedL WF
  by_cases h1 : 256 < h.length
  · rw [if_pos h1]
    constructor
    · intro e; cases e
    · intro e; omega
  · rw [if_neg h1]
    cases hf : fi (wrongAt h) h.length with
    | some i =>
      have hi := (fi_some _ _ _).1 hf
      have hw := of_decide_eq_true hi.2.1
      constructor
      · intro e; exact absurd e hw
      · intro e; exact absurd (e.2.1 i hi.1) hw
    | none =>
      have hn := (fi_none _ _).1 hf
      have hz : ∀ i, i < h.length → formStep h i = 0 := fun i hi => by
        have := of_decide_eq_false (hn i hi); omega
      simp only
      by_cases ho : fi (openAt h) h.length = none
      · rw [if_pos ho]
        have hoo := (fi_none _ _).1 ho
        constructor
        · intro _
          exact ⟨by omega, hz, fun i hi => of_decide_eq_false (hoo i hi)⟩
        · intro _; rfl
      · rw [if_neg ho]
        constructor
        · intro e; cases e
        · intro e
          exfalso
          apply ho
          rw [fi_none]
          intro i hi
          exact decide_eq_false (e.2.2 i hi)
theorem formed_wf (h : List Ev) (hw : WF h) : formedL h = (h.length, 0) := by
  have h2 := (formed_ok h).2 hw
  unfold formedL at h2 ⊢
  rw [if_neg (by have := hw.1; omega)] at h2 ⊢
  have hf : fi (wrongAt h) h.length = none := by
    rw [fi_none]; intro i hi; exact decide_eq_false (by rw [hw.2.1 i hi]; simp)
  rw [hf] at h2 ⊢
  simp only at h2 ⊢
  by_cases ho : fi (openAt h) h.length = none
  · rw [if_pos ho]
  · rw [if_neg ho] at h2; cases h2
theorem formStep_zero (h : List Ev) (i : Nat) : formStep h i = 0 ↔ mayE (ev h i) ∧ ((ev h i).1 = 1 → fstL h (ev h i).2.1 i = none) ∧ ((ev h i).1 ≠ 1 → fstL h (ev h i).2.1 i ≠ none ∧ endL h (ev h i).2.1 i = none ∧ ((ev h i).1 = 3 → fi (sameVal h (ev h i).2.2.2) i = none) ∧ ((ev h i).1 = 2 → (ev h i).2.2.2 ≠ [] → writerL h (ev h i).2.2.1 (ev h i).2.2.2 ≠ none)) := by
  unfold formStep
  by_cases hm : mayE (ev h i)
  · rw [if_neg (fun hh => hh hm)]
    by_cases h1 : (ev h i).1 = 1
    · rw [if_pos h1]
      by_cases hf : fstL h (ev h i).2.1 i = none
      · rw [if_pos hf]; exact ⟨fun _ => ⟨hm, fun _ => hf, fun hh => absurd h1 hh⟩, fun _ => rfl⟩
      · rw [if_neg hf]; exact ⟨fun e => (by cases e), fun e => absurd (e.2.1 h1) hf⟩
    · rw [if_neg h1]
      by_cases hf : fstL h (ev h i).2.1 i = none
      · rw [if_pos hf]; exact ⟨fun e => (by cases e), fun e => absurd hf (e.2.2 h1).1⟩
      · rw [if_neg hf]
        by_cases he : endL h (ev h i).2.1 i = none
        · rw [if_neg (fun hh => hh he)]
          by_cases h3 : (ev h i).1 = 3 ∧ fi (sameVal h (ev h i).2.2.2) i ≠ none
          · rw [if_pos h3]; exact ⟨fun e => (by cases e), fun e => absurd ((e.2.2 h1).2.2.1 h3.1) h3.2⟩
          · rw [if_neg h3]
            by_cases h2 : (ev h i).1 = 2 ∧ (ev h i).2.2.2 ≠ [] ∧ writerL h (ev h i).2.2.1 (ev h i).2.2.2 = none
            · rw [if_pos h2]; exact ⟨fun e => (by cases e), fun e => absurd h2.2.2 ((e.2.2 h1).2.2.2 h2.1 h2.2.1)⟩
            · rw [if_neg h2]
              refine ⟨fun _ => ⟨hm, fun hh => absurd hh h1, fun _ => ⟨hf, he, fun h3' => ?_, fun h2' hv hw => h2 ⟨h2', hv, hw⟩⟩⟩, fun _ => rfl⟩
              exact Classical.byContradiction fun hh => h3 ⟨h3', hh⟩
        · rw [if_pos he]; exact ⟨fun e => (by cases e), fun e => absurd (e.2.2 h1).2.1 he⟩
  · rw [if_pos hm]; exact ⟨fun e => (by cases e), fun e => absurd e.1 hm⟩
end Go.Proofs.Ythopjpjloeaamaa
