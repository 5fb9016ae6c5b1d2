/-
  What redact's small functions answer: input, tag, KeyTag, ValTag, seedMay, keyOf, valOf.
-/
import Derived.Test.YtihggfkenhkglaaDoorGR
import Derived.Test.YtihggfkenhkglaaDoorZP2Keyed
import Derived.Test.YtihggfkenhkglaaDoorGB
import Derived.Test.YtihggfkenhkglaaDoorGH
namespace Go.Proofs.YtihggfkenhkglaaDoor
set_option maxRecDepth 100000
open Go.RowKit
set_option linter.unusedVariables false
attribute [local go_sem] ba_size ba_append
theorem keyed7_any (k s : List UInt8) (hs : s.length ≤ 9223372036854774000) (w : World) (hG : G w) :
    Calls Tryd.prog 40 #[.string ⟨k.toArray⟩, .string ⟨s.toArray⟩] w fun e w' => e = .returned (.tuple #[.string ⟨(keyP k s).1.toArray⟩, .int .i64 ((keyP k s).2 : Int)]) ∧ Below w.heap.size w w' := by
  unfold keyP
  by_cases h : mayK k
  · rw [if_pos h]; exact keyed_good k s h.1 h.2 hs w hG
  · rw [if_neg h]
    by_cases h1 : 32 < k.length
    · exact keyed_long k s h1 w
    · have h0 : k.length = 0 := by unfold mayK at h; omega
      obtain rfl := List.length_eq_zero_iff.1 h0
      exact keyed_none s w
theorem pinput5 (t : List UInt8) (ht : t.length ≤ 9223372036854770000) (w : World) :
    Calls Tryd.prog 28 #[.int .u8 5, .string ⟨t.toArray⟩] w fun e w' => e = .returned (.string ⟨(5 :: t).toArray⟩) ∧ Below w.heap.size w w' := by
  have c1 := conv1
  have z1 : 1 + t.length ≤ 9223372036854775807 := by omega
  go_enter Tryd.func28, Tryd.ntmps28
  go_wp2_with fail
  go_ret
  exact ⟨rfl, (Below.refl _ _).alloc (Nat.le_refl _) _⟩
theorem pinput6 (t : List UInt8) (ht : t.length ≤ 9223372036854770000) (w : World) :
    Calls Tryd.prog 28 #[.int .u8 6, .string ⟨t.toArray⟩] w fun e w' => e = .returned (.string ⟨(6 :: t).toArray⟩) ∧ Below w.heap.size w w' := by
  have c1 := conv1
  have z1 : 1 + t.length ≤ 9223372036854775807 := by omega
  go_enter Tryd.func28, Tryd.ntmps28
  go_wp2_with fail
  go_ret
  exact ⟨rfl, (Below.refl _ _).alloc (Nat.le_refl _) _⟩
abbrev inF (m : Int) : Value := .func (.func 28) #[.int .u8 m] #[]
theorem ptag5 (s t : List UInt8) (ht : t.length ≤ 9223372036854770000) (w : World) (hG : G w) :
    Calls Tryd.prog 27 #[.string ⟨s.toArray⟩, .string ⟨t.toArray⟩, inF 5] w fun e w' => e = .returned (.tuple #[.string ⟨(keyP s (5 :: t)).1.toArray⟩, .int .i64 ((keyP s (5 :: t)).2 : Int)]) ∧ Below w.heap.size w w' := by
  have A := fun W => pinput5 t ht W
  have C := fun W g => keyed7_any s (5 :: t) (by simp; omega) W g
  obtain ⟨⟨x, y⟩, hx⟩ : ∃ x, keyP s (5 :: t) = x := ⟨_, rfl⟩
  rw [hx] at C ⊢
  clear hx
  go_enter Tryd.func27, Tryd.ntmps27
  go_wp2_with fail
  refine (A _).mono ?_
  rintro e w1 ⟨rfl, hb1⟩
  have g1 := hG.below hb1 hG.size
  go_wp2_with fail
  refine (C _ g1).mono ?_
  rintro e w2 ⟨rfl, hb2⟩
  go_wp2_with fail
  go_ret2
  exact ⟨rfl, bel_trans hb1 hb2⟩
theorem ptag6 (s t : List UInt8) (ht : t.length ≤ 9223372036854770000) (w : World) (hG : G w) :
    Calls Tryd.prog 27 #[.string ⟨s.toArray⟩, .string ⟨t.toArray⟩, inF 6] w fun e w' => e = .returned (.tuple #[.string ⟨(keyP s (6 :: t)).1.toArray⟩, .int .i64 ((keyP s (6 :: t)).2 : Int)]) ∧ Below w.heap.size w w' := by
  have A := fun W => pinput6 t ht W
  have C := fun W g => keyed7_any s (6 :: t) (by simp; omega) W g
  obtain ⟨⟨x, y⟩, hx⟩ : ∃ x, keyP s (6 :: t) = x := ⟨_, rfl⟩
  rw [hx] at C ⊢
  clear hx
  go_enter Tryd.func27, Tryd.ntmps27
  go_wp2_with fail
  refine (A _).mono ?_
  rintro e w1 ⟨rfl, hb1⟩
  have g1 := hG.below hb1 hG.size
  go_wp2_with fail
  refine (C _ g1).mono ?_
  rintro e w2 ⟨rfl, hb2⟩
  go_wp2_with fail
  go_ret2
  exact ⟨rfl, bel_trans hb1 hb2⟩
theorem pkeytag_any (s k : List UInt8) (w : World) (hG : G w) (hk : k.length ≤ 140737488351232) :
    Calls Tryd.prog 11 #[.string ⟨s.toArray⟩, .string ⟨k.toArray⟩] w fun e w' => e = .returned (.tuple #[.string ⟨(keyTagP s k).1.toArray⟩, .int .i64 ((keyTagP s k).2 : Int)]) ∧ Below w.heap.size w w' := by
  have A := ptag5 s k (by omega) w hG
  unfold keyTagP
  obtain ⟨⟨x, y⟩, hx⟩ : ∃ x, keyP s (5 :: k) = x := ⟨_, rfl⟩
  rw [hx] at A ⊢
  clear hx
  go_enter Tryd.func11, Tryd.ntmps11
  go_wp2_with fail
  refine A.mono ?_
  rintro e w1 ⟨rfl, hb1⟩
  go_wp2_with fail
  go_ret2
  exact ⟨rfl, hb1⟩
theorem pseedMay_any (s : List UInt8) (w : World) :
    Calls Tryd.prog 29 #[.string ⟨s.toArray⟩] w fun e w' => e = .returned (.bool (decide (mayK s))) ∧ w' = w := by
  by_cases h1 : s.length < 1
  · rw [decide_eq_false (show ¬ mayK s from fun h => by have := h.1; omega)]
    have i1 : ¬ (1 : Int) ≤ (s.length : Int) := by omega
    go_enter Tryd.func29, Tryd.ntmps29
    go_wp2_with fail
    go_ret
    exact ⟨rfl, rfl⟩
  · have i1 : (1 : Int) ≤ (s.length : Int) := by omega
    by_cases h2 : s.length ≤ 32
    · rw [decide_eq_true (show mayK s from ⟨by omega, h2⟩)]
      have i2 : (s.length : Int) ≤ 32 := by omega
      go_enter Tryd.func29, Tryd.ntmps29
      go_wp2_with fail
      go_ret
      exact ⟨rfl, rfl⟩
    · rw [decide_eq_false (show ¬ mayK s from fun h => by have := h.2; omega)]
      have i2 : ¬ (s.length : Int) ≤ 32 := by omega
      go_enter Tryd.func29, Tryd.ntmps29
      go_wp2_with fail
      go_ret
      exact ⟨rfl, rfl⟩
theorem pvaltag_any (s v : List UInt8) (w : World) (hG : G w) (hv : v.length ≤ 140737488351232) :
    Calls Tryd.prog 13 #[.string ⟨s.toArray⟩, .string ⟨v.toArray⟩] w fun e w' => e = .returned (.tuple #[.string ⟨(valTagP s v).1.toArray⟩, .int .i64 ((valTagP s v).2 : Int)]) ∧ Below w.heap.size w w' := by
  have A := ptag6 s v (by omega) w hG
  have M := pseedMay_any s w
  unfold valTagP
  by_cases hs : mayK s
  · rw [show keyP s (6 :: v) = (keyL s (6 :: v), 0) by unfold keyP; rw [if_pos hs]] at A
    rw [decide_eq_true hs] at M
    rw [if_pos hs]
    unfold tagV
    obtain ⟨x, hx⟩ : ∃ x, keyL s (6 :: v) = x := ⟨_, rfl⟩
    rw [hx] at A ⊢
    clear hx hs
    by_cases h0 : v = []
    · subst h0
      rw [if_pos rfl]
      go_enter Tryd.func13, Tryd.ntmps13
      go_wp2_with fail
      refine M.mono ?_
      rintro e w1 ⟨rfl, rfl⟩
      go_wp2_with fail
      go_ret2
      exact ⟨rfl, Below.refl _ _⟩
    · rw [if_neg h0]
      have n0 : v.isEmpty = false := ne_nil7 v h0
      clear h0
      go_enter Tryd.func13, Tryd.ntmps13
      go_wp2_with fail
      refine M.mono ?_
      rintro e w1 ⟨rfl, rfl⟩
      go_wp2_with fail
      refine A.mono ?_
      rintro e w1 ⟨rfl, hb1⟩
      go_wp2_with fail
      go_ret2
      exact ⟨rfl, hb1⟩
  · rw [decide_eq_false hs] at M
    rw [if_neg hs]
    clear hs
    go_enter Tryd.func13, Tryd.ntmps13
    go_wp2_with fail
    refine M.mono ?_
    rintro e w1 ⟨rfl, rfl⟩
    go_wp2_with fail
    go_ret2
    exact ⟨rfl, Below.refl _ _⟩
theorem pkeyOf_any (k t : Int) (a b : List UInt8) (w : World) :
    Calls Tryd.prog 48 #[.agg #[.int .i64 k, .int .i64 t, .string ⟨a.toArray⟩, .string ⟨b.toArray⟩]] w fun e w' => e = .returned (.string ⟨a.toArray⟩) ∧ Below w.heap.size w w' := by
  go_enter Tryd.func48, Tryd.ntmps48
  go_wp2_with fail
  go_ret
  exact ⟨rfl, (Below.refl _ _).alloc (Nat.le_refl _) _⟩
theorem pvalOf_any (k t : Int) (a b : List UInt8) (w : World) :
    Calls Tryd.prog 49 #[.agg #[.int .i64 k, .int .i64 t, .string ⟨a.toArray⟩, .string ⟨b.toArray⟩]] w fun e w' => e = .returned (.string ⟨b.toArray⟩) ∧ Below w.heap.size w w' := by
  go_enter Tryd.func49, Tryd.ntmps49
  go_wp2_with fail
  go_ret
  exact ⟨rfl, (Below.refl _ _).alloc (Nat.le_refl _) _⟩
end Go.Proofs.YtihggfkenhkglaaDoor
