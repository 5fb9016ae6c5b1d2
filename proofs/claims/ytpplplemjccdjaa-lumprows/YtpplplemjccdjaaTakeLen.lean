/-
  What lump.takeLength, lump.TakeText, and their answers by definition, answer at whatever bytes.
-/
import Derived.Test.YtpplplemjccdjaaProg
import Derived.Test.YtpplplemjccdjaaMath
import Derived.Test.YtpplplemjccdjaaBase
import Derived.BigQuiet
import Derived.Deep.QuietTactic
namespace Go.Proofs.Ytpplplemjccdjaa
open Go.RowKit
attribute [local go_sem] ba_size ba_get ba_extract ba_append wrap_byte wrap_u64_byte take_drop_end
theorem ret3 {a a' b b' c c' : Value} (h1 : a = a') (h2 : b = b') (h3 : c = c') : Ending.returned (.tuple #[a, b, c]) = .returned (.tuple #[a', b', c']) := by rw [h1, h2, h3]
set_option maxHeartbeats 400000 in
theorem takeSize_any (l : List UInt8) (w : World) (hs : l.length ≤ 9223372036854775807) :
    Calls Try.prog 30 #[.string ⟨l.toArray⟩] w fun e w' => e = .returned (.tuple #[.int .i64 ((Lm.sizeL l).1 : Int), .string ⟨(Lm.sizeL l).2.1.toArray⟩, .int .i64 ((Lm.sizeL l).2.2 : Int)]) ∧ Below w.heap.size w w' := by
  match l, hs with
  | [], _ =>
    go_enter Try.func30, Try.ntmps30
    go_wp2
    go_ret3
    exact ⟨rfl, Below.refl _ _⟩
  | b :: r, hs =>
    simp only [List.length_cons] at hs
    by_cases h1 : b.toNat ≤ 250
    · have e : Lm.sizeL (b :: r) = (b.toNat, r, 0) := by simp [Lm.sizeL, h1]
      rw [e]; clear e
      go_enter Try.func30, Try.ntmps30
      go_wp2
      go_quiet (fail)
      go_wp2
      go_ret3
      exact ⟨rfl, below_drewN (Below.refl _ _) _⟩
    by_cases h2 : 251 < b.toNat
    · have e : Lm.sizeL (b :: r) = (0, [], 3) := by simp [Lm.sizeL, h1, h2]
      rw [e]; clear e
      go_enter Try.func30, Try.ntmps30
      go_wp2
      go_ret3
      exact ⟨rfl, Below.refl _ _⟩
    obtain rfl : b = 251 := by apply UInt8.toNat_inj.1; show b.toNat = 251; omega
    clear h1 h2
    match r, hs with
    | [], hs =>
      go_enter Try.func30, Try.ntmps30
      go_wp2
      go_ret3
      exact ⟨rfl, Below.refl _ _⟩
    | [a], hs =>
      go_enter Try.func30, Try.ntmps30
      go_wp2
      go_ret3
      exact ⟨rfl, Below.refl _ _⟩
    | a :: c :: r, hs =>
      simp only [List.length_cons] at hs
      have ha := a.toNat_lt
      have hc := c.toNat_lt
      by_cases h3 : 256 * a.toNat + c.toNat ≤ 250
      · have e : Lm.sizeL (251 :: a :: c :: r) = (0, [], 3) := by simp [Lm.sizeL, h3]
        rw [e]; clear e
        go_enter Try.func30, Try.ntmps30
        go_wp2
        go_quiet (fail)
        go_wp2
        go_ret3
        exact ⟨rfl, below_drewN (Below.refl _ _) _⟩
      · have e : Lm.sizeL (251 :: a :: c :: r) = (256 * a.toNat + c.toNat, r, 0) := by simp [Lm.sizeL, h3]
        rw [e]; clear e
        go_enter Try.func30, Try.ntmps30
        go_wp2
        go_quiet (fail)
        go_wp2
        go_quiet (fail)
        go_wp2
        go_ret3
        exact ⟨rfl, below_drewN (below_drewN (Below.refl _ _) _) _⟩
set_option maxHeartbeats 800000 in
theorem takeLength_any (l : List UInt8) (most : Int) (w : World) (hs : l.length ≤ 9223372036854775807) :
    Calls Try.prog 29 #[.string ⟨l.toArray⟩, .int .i64 most] w fun e w' => e = .returned (.tuple #[.int .i64 ((Lm.takeLenL l most).1 : Int), .string ⟨(Lm.takeLenL l most).2.1.toArray⟩, .int .i64 ((Lm.takeLenL l most).2.2 : Int)]) ∧ Below w.heap.size w w' := by
  match l, hs with
  | [], _ =>
    go_enter Try.func29, Try.ntmps29
    go_wp2
    go_ret3
    exact ⟨rfl, Below.refl _ _⟩
  | b :: r, hs =>
    simp only [List.length_cons] at hs
    by_cases h1 : b.toNat ≤ 250
    · have hne : ((b.toNat : Int) == 251) = false := by simp; omega
      by_cases h0 : most < (b.toNat : Int)
      · have e : Lm.takeLenL (b :: r) most = (0, [], 4) := by simp [Lm.takeLenL, Lm.sizeL, h1, h0]
        rw [e]; clear e
        go_enter Try.func29, Try.ntmps29
        go_wp2
        go_quiet (fail)
        go_wp2
        go_ret3
        exact ⟨rfl, below_drewN (Below.refl _ _) _⟩
      · have e : Lm.takeLenL (b :: r) most = (b.toNat, r, 0) := by simp [Lm.takeLenL, Lm.sizeL, h1, h0]
        rw [e]; clear e
        go_enter Try.func29, Try.ntmps29
        go_wp2
        go_quiet (fail)
        go_wp2
        go_ret3
        exact ⟨rfl, below_drewN (Below.refl _ _) _⟩
    by_cases h2 : 251 < b.toNat
    · have e : Lm.takeLenL (b :: r) most = (0, [], 3) := by simp [Lm.takeLenL, Lm.sizeL, h1, h2]
      rw [e]; clear e
      go_enter Try.func29, Try.ntmps29
      go_wp2
      go_quiet (fail)
      go_wp2
      go_ret3
      exact ⟨rfl, below_drewN (Below.refl _ _) _⟩
    obtain rfl : b = 251 := by apply UInt8.toNat_inj.1; show b.toNat = 251; omega
    clear h1 h2
    match r, hs with
    | [], hs =>
      go_enter Try.func29, Try.ntmps29
      go_wp2
      go_quiet (fail)
      go_wp2
      go_ret3
      exact ⟨rfl, below_drewN (Below.refl _ _) _⟩
    | [a], hs =>
      go_enter Try.func29, Try.ntmps29
      go_wp2
      go_quiet (fail)
      go_wp2
      go_ret3
      exact ⟨rfl, below_drewN (Below.refl _ _) _⟩
    | a :: c :: r, hs =>
      simp only [List.length_cons] at hs
      have ha := a.toNat_lt
      have hc := c.toNat_lt
      have hor := or_byte_i64 a c
      by_cases h3 : 256 * a.toNat + c.toNat ≤ 250
      · have e : Lm.takeLenL (251 :: a :: c :: r) most = (0, [], 3) := by simp [Lm.takeLenL, Lm.sizeL, h3]
        rw [e]; clear e
        go_enter Try.func29, Try.ntmps29
        go_wp2
        go_quiet (fail)
        go_wp2
        go_quiet (fail)
        go_wp2
        go_ret3
        exact ⟨rfl, below_drewN (Below.refl _ _) _⟩
      by_cases h0 : most < ((256 * a.toNat + c.toNat : Nat) : Int)
      · have e : Lm.takeLenL (251 :: a :: c :: r) most = (0, [], 4) := by
          simp only [Lm.takeLenL, Lm.sizeL, h3]; simp; omega
        rw [e]; clear e
        go_enter Try.func29, Try.ntmps29
        go_wp2
        go_quiet (fail)
        go_wp2
        go_quiet (fail)
        go_wp2
        go_ret3
        exact ⟨rfl, below_drewN (Below.refl _ _) _⟩
      · have e : Lm.takeLenL (251 :: a :: c :: r) most = (256 * a.toNat + c.toNat, r, 0) := by
          simp only [Lm.takeLenL, Lm.sizeL, h3]; simp; omega
        rw [e]; clear e
        go_enter Try.func29, Try.ntmps29
        go_wp2
        go_quiet (fail)
        go_wp2
        go_quiet (fail)
        go_wp2
        go_ret3
        exact ⟨rfl, below_drewN (Below.refl _ _) _⟩
theorem sizeL_bd (l : List UInt8) : (Lm.sizeL l).1 ≤ 65535 ∧ (Lm.sizeL l).2.1.length ≤ l.length := by
  unfold Lm.sizeL
  split
  · simp
  · rename_i n r
    have := n.toNat_lt
    split
    · simp; omega
    · split
      · simp
      · split
        · rename_i a b r'
          have := a.toNat_lt
          have := b.toNat_lt
          split <;> simp <;> omega
        · simp
theorem takeLenL_bd (l : List UInt8) (most : Int) : (Lm.takeLenL l most).1 ≤ 65535 ∧ (Lm.takeLenL l most).2.1.length ≤ l.length := by
  have := sizeL_bd l
  unfold Lm.takeLenL
  split
  · simp
  · split
    · simp
    · exact this
set_option maxHeartbeats 800000 in
theorem takeText_any (l : List UInt8) (most : Int) (w : World) (hs : l.length ≤ 9223372036854775807) :
    Calls Try.prog 20 #[.string ⟨l.toArray⟩, .int .i64 most] w fun e w' => e = .returned (.tuple #[.string ⟨(Lm.takeTextL l most).1.toArray⟩, .string ⟨(Lm.takeTextL l most).2.1.toArray⟩, .int .i64 ((Lm.takeTextL l most).2.2 : Int)]) ∧ Below w.heap.size w w' := by
  have hbd := takeLenL_bd l most
  have hc := takeLength_any l most w hs
  unfold Lm.takeTextL
  generalize Lm.takeLenL l most = x at *
  obtain ⟨n, rest, e⟩ := x
  have HC : Hid (Calls Try.prog 29 #[.string ⟨l.toArray⟩, .int .i64 most] w fun e' w' => e' = .returned (.tuple #[.int .i64 (n : Int), .string ⟨rest.toArray⟩, .int .i64 (e : Int)]) ∧ Below w.heap.size w w') := hc
  simp only at hbd
  clear hc
  by_cases he : e ≠ 0
  · rw [if_pos he]
    have hb : ((e : Int) != 0) = true := by simp; omega
    go_enter Try.func20, Try.ntmps20
    go_wp2_with fail
    refine HC.out.mono ?_
    rintro e w1 ⟨rfl, hb1⟩
    go_wp2_with fail
    go_ret3
    exact ⟨rfl, hb1⟩
  · have he' : e = 0 := by omega
    subst he'
    clear he
    rw [if_neg (by simp)]
    by_cases hl : rest.length < n
    · rw [if_pos hl]
      go_enter Try.func20, Try.ntmps20
      go_wp2_with fail
      refine HC.out.mono ?_
      rintro e w1 ⟨rfl, hb1⟩
      go_wp2_with fail
      go_ret3
      exact ⟨rfl, hb1⟩
    · rw [if_neg hl]
      go_enter Try.func20, Try.ntmps20
      go_wp2_with fail
      refine HC.out.mono ?_
      rintro e w1 ⟨rfl, hb1⟩
      go_wp2_with fail
      go_quiet (fail)
      go_wp2
      go_ret3
      exact ⟨rfl, below_drewN hb1 _⟩
set_option maxHeartbeats 800000 in
theorem refTakeText_any (l : List UInt8) (most : Int) (w : World) (hs : l.length ≤ 9223372036854775807) :
    Calls Try.prog 21 #[.string ⟨l.toArray⟩, .int .i64 most] w fun e w' => e = .returned (.tuple #[.string ⟨(Lm.takeTextL l most).1.toArray⟩, .string ⟨(Lm.takeTextL l most).2.1.toArray⟩, .int .i64 ((Lm.takeTextL l most).2.2 : Int)]) ∧ Below w.heap.size w w' := by
  have hbd := sizeL_bd l
  have hc := takeSize_any l w hs
  unfold Lm.takeTextL Lm.takeLenL
  generalize Lm.sizeL l = x at *
  obtain ⟨n, rest, e⟩ := x
  have HC : Hid (Calls Try.prog 30 #[.string ⟨l.toArray⟩] w fun e' w' => e' = .returned (.tuple #[.int .i64 (n : Int), .string ⟨rest.toArray⟩, .int .i64 (e : Int)]) ∧ Below w.heap.size w w') := hc
  simp only at hbd
  clear hc
  by_cases he : e ≠ 0
  · simp only [he, ne_eq, not_false_eq_true, if_true]
    have hb : ((e : Int) != 0) = true := by simp; omega
    go_enter Try.func21, Try.ntmps21
    go_wp2_with fail
    refine HC.out.mono ?_
    rintro e w1 ⟨rfl, hb1⟩
    go_wp2_with fail
    go_ret3
    exact ⟨rfl, hb1⟩
  · have he' : e = 0 := by omega
    subst he'
    clear he
    simp only [ne_eq, not_true_eq_false, if_false]
    by_cases hmn : most < (n : Int)
    · simp only [hmn, if_true]
      rw [if_pos (by simp)]
      have hor : most < 0 ∨ (¬ most < 0 ∧ True) := by by_cases h : most < 0; exact .inl h; exact .inr ⟨h, trivial⟩
      rcases hor with h0 | ⟨h0, -⟩
      all_goals
        go_enter Try.func21, Try.ntmps21
        go_wp2_with fail
        refine HC.out.mono ?_
        rintro e w1 ⟨rfl, hb1⟩
        go_wp2_with fail
        go_ret3
        exact ⟨rfl, hb1⟩
    · simp only [hmn, if_false]
      simp only [not_true_eq_false, if_false]
      have h0 : ¬ most < 0 := by omega
      by_cases hl : rest.length < n
      · rw [if_pos hl]
        go_enter Try.func21, Try.ntmps21
        go_wp2_with fail
        refine HC.out.mono ?_
        rintro e w1 ⟨rfl, hb1⟩
        go_wp2_with fail
        go_ret3
        exact ⟨rfl, hb1⟩
      · rw [if_neg hl]
        go_enter Try.func21, Try.ntmps21
        go_wp2_with fail
        refine HC.out.mono ?_
        rintro e w1 ⟨rfl, hb1⟩
        go_wp2_with fail
        go_quiet (fail)
        go_wp2
        go_ret3
        exact ⟨rfl, below_drewN hb1 _⟩
end Go.Proofs.Ytpplplemjccdjaa
