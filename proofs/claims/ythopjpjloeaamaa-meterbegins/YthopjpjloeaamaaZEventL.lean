/-
  Events and their bytes, in lists: of no program.
-/
import Derived.Test.YthopjpjloeaamaaGA
namespace Go.Proofs.Ythopjpjloeaamaa
set_option maxRecDepth 100000
set_option linter.unusedVariables false
/-- An event: kind, transaction, key, value. -/
abbrev Ev := Int × Int × List UInt8 × List UInt8
abbrev keyedE (k : Int) : Prop := k = 2 ∨ k = 3
abbrev mayE (x : Ev) : Prop := (1 ≤ x.1 ∧ x.1 ≤ 5 ∧ 1 ≤ x.2.1 ∧ x.2.1 ≤ 32) ∧ (if keyedE x.1 then (1 ≤ x.2.2.1.length ∧ x.2.2.1.length ≤ 32 ∧ x.2.2.2.length ≤ 32 ∧ (x.1 = 2 ∨ 1 ≤ x.2.2.2.length)) else (x.2.2.1 = [] ∧ x.2.2.2 = []))
def txtE (t : List UInt8) : List UInt8 := Lm.lenL t.length ++ t
/-- The bytes of an event that may be. -/
def bytE (x : Ev) : List UInt8 := UInt8.ofNat x.1.toNat :: UInt8.ofNat x.2.1.toNat :: (if keyedE x.1 then txtE x.2.2.1 ++ txtE x.2.2.2 else [])
def bytesE (x : Ev) : List UInt8 × Nat := if mayE x then (bytE x, 0) else ([], 1)
/-- The event of bytes. -/
def takeE (s : List UInt8) : Option Ev :=
  match s with
  | a :: b :: r =>
    if keyedE (a.toNat : Int) then
      if (Lm.takeTextL r 32).2.2 ≠ 0 then none
      else if (Lm.takeTextL (Lm.takeTextL r 32).2.1 32).2.2 ≠ 0 ∨ 0 < (Lm.takeTextL (Lm.takeTextL r 32).2.1 32).2.1.length then none
      else if mayE ((a.toNat : Int), (b.toNat : Int), (Lm.takeTextL r 32).1, (Lm.takeTextL (Lm.takeTextL r 32).2.1 32).1) then some ((a.toNat : Int), (b.toNat : Int), (Lm.takeTextL r 32).1, (Lm.takeTextL (Lm.takeTextL r 32).2.1 32).1) else none
    else if 0 < r.length ∨ ¬ mayE ((a.toNat : Int), (b.toNat : Int), [], []) then none else some ((a.toNat : Int), (b.toNat : Int), [], [])
  | _ => none
theorem size_take (s : List UInt8) (n : Nat) (r : List UInt8) (h : Lm.sizeL s = (n, r, 0)) : Lm.lenL n ++ r = s ∧ n ≤ 65535 := by
  unfold Lm.sizeL at h
  match s, h with
  | [], h => simp at h
  | c :: q, h =>
    simp only at h
    by_cases h1 : c.toNat ≤ 250
    · rw [if_pos h1] at h
      simp only [Prod.mk.injEq] at h
      obtain ⟨rfl, rfl, _⟩ := h
      unfold Lm.lenL
      rw [if_pos h1]
      exact ⟨by simp, by omega⟩
    · rw [if_neg h1] at h
      by_cases h2 : 251 < c.toNat
      · rw [if_pos h2] at h; simp at h
      · rw [if_neg h2] at h
        have hc : c = 251 := by apply UInt8.toNat_inj.1; show c.toNat = 251; omega
        match q, h with
        | [], h => simp at h
        | [_], h => simp at h
        | a :: b :: q', h =>
          simp only at h
          have ha := a.toNat_lt
          have hb := b.toNat_lt
          by_cases h3 : 256 * a.toNat + b.toNat ≤ 250
          · rw [if_pos h3] at h; simp at h
          · rw [if_neg h3] at h
            simp only [Prod.mk.injEq] at h
            obtain ⟨rfl, rfl, _⟩ := h
            unfold Lm.lenL
            rw [if_neg h3, hc]
            refine ⟨?_, by omega⟩
            have e1 : UInt8.ofNat ((256 * a.toNat + b.toNat) / 256) = a := by apply UInt8.toNat_inj.1; rw [UInt8.toNat_ofNat']; omega
            have e2 : UInt8.ofNat ((256 * a.toNat + b.toNat) % 256) = b := by apply UInt8.toNat_inj.1; rw [UInt8.toNat_ofNat']; omega
            rw [e1, e2]; rfl
theorem text_take (s t r : List UInt8) (most : Int) (h : Lm.takeTextL s most = (t, r, 0)) : Lm.lenL t.length ++ t ++ r = s ∧ t.length ≤ 65535 ∧ (t.length : Int) ≤ most := by
  unfold Lm.takeTextL at h
  by_cases h1 : (Lm.takeLenL s most).2.2 ≠ 0
  · rw [if_pos h1] at h; simp only [Prod.mk.injEq] at h; exact absurd h.2.2 h1
  · rw [if_neg h1] at h
    by_cases h2 : (Lm.takeLenL s most).2.1.length < (Lm.takeLenL s most).1
    · rw [if_pos h2] at h; simp at h
    · rw [if_neg h2] at h
      simp only [Prod.mk.injEq] at h
      obtain ⟨rfl, rfl, _⟩ := h
      have hL : Lm.takeLenL s most = Lm.sizeL s ∧ (Lm.sizeL s).2.2 = 0 ∧ ((Lm.sizeL s).1 : Int) ≤ most := by
        unfold Lm.takeLenL at h1 ⊢
        by_cases h3 : (Lm.sizeL s).2.2 ≠ 0
        · rw [if_pos h3] at h1; simp at h1; exact absurd h1 h3
        · rw [if_neg h3] at h1 ⊢
          by_cases h4 : most < (Lm.sizeL s).1
          · rw [if_pos h4] at h1; simp at h1
          · rw [if_neg h4]; exact ⟨rfl, by omega, by omega⟩
      rw [hL.1] at h2 ⊢
      have hz := size_take s (Lm.sizeL s).1 (Lm.sizeL s).2.1 (by rw [← hL.2.1])
      have hn : ((Lm.sizeL s).2.1.take (Lm.sizeL s).1).length = (Lm.sizeL s).1 := by rw [List.length_take]; omega
      rw [hn, List.append_assoc, List.take_append_drop]
      exact ⟨hz.1, hz.2, hL.2.2⟩
theorem txt_taken (t : List UInt8) (h : t.length ≤ 32) (r : List UInt8) : Lm.takeTextL (txtE t ++ r) 32 = (t, r, 0) := Lm.takeText_text t (by omega) 32 (by omega) r
theorem may_bytes (x : Ev) (h : mayE x) : (UInt8.ofNat x.1.toNat).toNat = x.1.toNat ∧ (UInt8.ofNat x.2.1.toNat).toNat = x.2.1.toNat ∧ ((x.1.toNat : Nat) : Int) = x.1 ∧ ((x.2.1.toNat : Nat) : Int) = x.2.1 := by
  obtain ⟨⟨h1, h2, h3, h4⟩, _⟩ := h
  refine ⟨?_, ?_, by omega, by omega⟩
  · simp; omega
  · simp; omega
/-- What was written is taken, with nothing behind. -/
theorem take_byt (x : Ev) (h : mayE x) (m : List UInt8) : takeE (bytE x ++ m) = if m = [] then some x else none := by
  obtain ⟨e1, e2, e3, e4⟩ := may_bytes x h
  have hx : x = (x.1, x.2.1, x.2.2.1, x.2.2.2) := rfl
  unfold bytE takeE
  by_cases hk : keyedE x.1
  · rw [if_pos hk]
    obtain ⟨h0, h5⟩ := h
    have h5' := h5
    rw [if_pos hk] at h5
    obtain ⟨k1, k2, k3, k4⟩ := h5
    simp only [List.cons_append, e1, e2, e3, e4]
    rw [if_pos hk, List.append_assoc, txt_taken x.2.2.1 k2]
    simp only
    rw [if_neg (by simp), txt_taken x.2.2.2 k3 m]
    simp only
    by_cases hm : m = []
    · subst hm
      rw [if_neg (by simp), if_pos ⟨h0, h5'⟩, if_pos rfl]
    · rw [if_pos (Or.inr (List.length_pos_iff.2 hm)), if_neg hm]
  · rw [if_neg hk]
    obtain ⟨h0, h5⟩ := h
    have h5' := h5
    rw [if_neg hk] at h5
    simp only [List.cons_append, List.nil_append, e1, e2, e3, e4]
    rw [if_neg hk]
    have ex : (x.1, x.2.1, ([] : List UInt8), ([] : List UInt8)) = x := by rw [hx]; simp only [h5.1, h5.2]
    by_cases hm : m = []
    · subst hm
      rw [if_neg (by intro hh; rcases hh with hh | hh; simp at hh; exact hh (by rw [ex]; exact ⟨h0, h5'⟩)), if_pos rfl, ex]
    · rw [if_pos (Or.inl (List.length_pos_iff.2 hm)), if_neg hm]
/-- What is taken may be, and is written by the same bytes. -/
theorem byt_take (s : List UInt8) (x : Ev) (h : takeE s = some x) : mayE x ∧ bytE x = s := by
  unfold takeE at h
  match s, h with
  | [], h => cases h
  | [_], h => cases h
  | a :: b :: r, h =>
    simp only at h
    by_cases hk : keyedE (a.toNat : Int)
    · rw [if_pos hk] at h
      by_cases h1 : (Lm.takeTextL r 32).2.2 ≠ 0
      · rw [if_pos h1] at h; cases h
      · rw [if_neg h1] at h
        by_cases h2 : (Lm.takeTextL (Lm.takeTextL r 32).2.1 32).2.2 ≠ 0 ∨ 0 < (Lm.takeTextL (Lm.takeTextL r 32).2.1 32).2.1.length
        · rw [if_pos h2] at h; cases h
        · rw [if_neg h2] at h
          by_cases h3 : mayE ((a.toNat : Int), (b.toNat : Int), (Lm.takeTextL r 32).1, (Lm.takeTextL (Lm.takeTextL r 32).2.1 32).1)
          · rw [if_pos h3] at h
            cases h
            refine ⟨h3, ?_⟩
            have t1 := text_take r (Lm.takeTextL r 32).1 (Lm.takeTextL r 32).2.1 32 (by rw [show (0 : Nat) = (Lm.takeTextL r 32).2.2 by omega])
            have t2 := text_take (Lm.takeTextL r 32).2.1 (Lm.takeTextL (Lm.takeTextL r 32).2.1 32).1 (Lm.takeTextL (Lm.takeTextL r 32).2.1 32).2.1 32 (by rw [show (0 : Nat) = (Lm.takeTextL (Lm.takeTextL r 32).2.1 32).2.2 by omega])
            have t3 : (Lm.takeTextL (Lm.takeTextL r 32).2.1 32).2.1 = [] := List.length_eq_zero_iff.1 (by omega)
            rw [t3, List.append_nil] at t2
            unfold bytE
            simp only
            rw [if_pos hk]
            have ea : UInt8.ofNat ((a.toNat : Int).toNat) = a := by simp
            have eb : UInt8.ofNat ((b.toNat : Int).toNat) = b := by simp
            rw [ea, eb]
            unfold txtE
            rw [t2.1, t1.1]
          · rw [if_neg h3] at h; cases h
    · rw [if_neg hk] at h
      by_cases h1 : 0 < r.length ∨ ¬ mayE ((a.toNat : Int), (b.toNat : Int), [], [])
      · rw [if_pos h1] at h; cases h
      · rw [if_neg h1] at h
        cases h
        have hm : mayE ((a.toNat : Int), (b.toNat : Int), [], []) := Classical.byContradiction fun hh => h1 (Or.inr hh)
        refine ⟨hm, ?_⟩
        have hr : r = [] := List.length_eq_zero_iff.1 (by omega)
        unfold bytE
        simp only
        rw [if_neg hk, hr]
        have ea : UInt8.ofNat ((a.toNat : Int).toNat) = a := by simp
        have eb : UInt8.ofNat ((b.toNat : Int).toNat) = b := by simp
        rw [ea, eb]
theorem byt_inj (x y : Ev) (hx : mayE x) (hy : mayE y) (h : bytE x = bytE y) : x = y := by
  have h1 := take_byt x hx []
  have h2 := take_byt y hy []
  rw [List.append_nil, if_pos rfl] at h1 h2
  rw [h, h2] at h1
  exact (Option.some.inj h1).symm
/-- Of what was written no beginning is taken. -/
theorem take_cut (x : Ev) (hx : mayE x) (c : Nat) (hc : c < (bytE x).length) : takeE ((bytE x).take c) = none := by
  cases hy : takeE ((bytE x).take c) with
  | none => rfl
  | some y =>
    obtain ⟨my, by'⟩ := byt_take _ y hy
    exfalso
    have h1 := take_byt y my ((bytE x).drop c)
    rw [by', List.take_append_drop] at h1
    have h2 := take_byt x hx []
    rw [List.append_nil, if_pos rfl] at h2
    rw [if_neg (by intro h; have := congrArg List.length h; rw [List.length_drop] at this; simp at this; omega)] at h1
    rw [h1] at h2
    cases h2
end Go.Proofs.Ythopjpjloeaamaa
