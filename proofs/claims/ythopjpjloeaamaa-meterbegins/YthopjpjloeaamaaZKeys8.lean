/-
  Keys of a history, as a loop makes them: in lists.
-/
import Derived.Test.YthopjpjloeaamaaZEdgesL
namespace Go.Proofs.Ythopjpjloeaamaa
set_option maxRecDepth 100000
set_option linter.unusedVariables false
theorem keysF_snoc (x : Ev) : ∀ (l : List Ev) (acc : List (List UInt8)), keysF acc (l ++ [x]) = if keyedE x.1 then insK x.2.2.1 (keysF acc l) else keysF acc l
  | [], acc => by show keysF _ [] = _; rw [keysF]; rfl
  | y :: l, acc => by
    show keysF acc (y :: (l ++ [x])) = _
    rw [keysF, keysF_snoc x l]
    rfl
theorem insK_split (k : List UInt8) : ∀ (K : List (List UInt8)) (q : Nat) (hq : q ≤ K.length) (hl : ∀ j (h : j < q), lessB (K[j]'(by omega)) k = true) (hn : ∀ h : q < K.length, lessB (K[q]'h) k = false),
    insK k K = if ∃ h : q < K.length, K[q]'h = k then K else K.take q ++ k :: K.drop q
  | [], q, hq, hl, hn => by
    obtain rfl : q = 0 := by simpa using hq
    rw [insK, if_neg (by rintro ⟨h, _⟩; simp at h)]
    rfl
  | x :: K, 0, hq, hl, hn => by
    have := hn (by simp)
    simp only [List.getElem_cons_zero] at this
    rw [insK, if_neg (by rw [this]; simp)]
    by_cases hx : x = k
    · rw [if_pos hx, if_pos ⟨by simp, hx⟩]
    · rw [if_neg hx, if_neg (by rintro ⟨_, h⟩; exact hx h)]
      rfl
  | x :: K, q + 1, hq, hl, hn => by
    have h0 := hl 0 (by omega)
    simp only [List.getElem_cons_zero] at h0
    rw [insK, if_pos h0, insK_split k K q (by simpa using hq) (fun j h => by have := hl (j + 1) (by omega); simpa using this) (fun h => by have := hn (by simpa using h); simpa using this)]
    by_cases hx : ∃ h : q < K.length, K[q]'h = k
    · rw [if_pos hx, if_pos (by obtain ⟨h, e⟩ := hx; exact ⟨by simpa using h, by simpa using e⟩)]
    · rw [if_neg hx, if_neg (by rintro ⟨h, e⟩; exact hx ⟨by simpa using h, by simpa using e⟩)]
      rfl
theorem insK_len (k : List UInt8) : ∀ K : List (List UInt8), (insK k K).length ≤ K.length + 1
  | [] => by rw [insK]; simp
  | x :: K => by
    rw [insK]
    by_cases h1 : lessB x k = true
    · rw [if_pos h1]; have := insK_len k K; simp only [List.length_cons]; omega
    · rw [if_neg h1]
      by_cases h2 : x = k
      · rw [if_pos h2]; simp
      · rw [if_neg h2]; simp
theorem lessB_same (x y : UInt8) (l m : List UInt8) (h : x = y) : lessB (x :: l) (y :: m) = lessB l m := by
  subst h
  rw [lessB, if_neg (by simp), if_pos rfl]
theorem lessB_diff (x y : UInt8) (l m : List UInt8) (h : x ≠ y) : lessB (x :: l) (y :: m) = decide (x.toNat < y.toNat) := by
  rw [lessB, if_neg h]
  by_cases hx : x < y
  · rw [if_pos hx, decide_eq_true (UInt8.lt_iff_toNat_lt.1 hx)]
  · rw [if_neg hx, decide_eq_false (fun hh => hx (UInt8.lt_iff_toNat_lt.2 hh))]
theorem lessB_nil (m : List UInt8) : lessB [] m = decide (0 < m.length) := by
  cases m with
  | nil => rfl
  | cons _ _ => rw [lessB]; simp
theorem lessB_cons_nil (x : UInt8) (l : List UInt8) : lessB (x :: l) [] = false := by rw [lessB]
end Go.Proofs.Ythopjpjloeaamaa
