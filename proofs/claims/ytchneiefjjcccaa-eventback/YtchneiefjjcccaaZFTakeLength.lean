/-
  What lump.takeLength answers, at whatever bytes.
-/
import Derived.Test.YtchneiefjjcccaaProg
import Derived.Test.YtchneiefjjcccaaGA
import Derived.Test.YtchneiefjjcccaaZBase
import Derived.BigQuiet
import Derived.Deep.QuietTactic
namespace Go.Proofs.Ytchneiefjjcccaa
set_option maxRecDepth 100000
open Go.RowKit
attribute [local go_sem] ba_size ba_get ba_extract ba_append wrap_byte wrap_u64_byte take_drop_end
set_option maxHeartbeats 800000 in
theorem takeLength_any (l : List UInt8) (most : Int) (w : World) (hs : l.length ≤ 9223372036854775807) :
    Calls Try.prog 35 #[.string ⟨l.toArray⟩, .int .i64 most] w fun e w' => e = .returned (.tuple #[.int .i64 ((Lm.takeLenL l most).1 : Int), .string ⟨(Lm.takeLenL l most).2.1.toArray⟩, .int .i64 ((Lm.takeLenL l most).2.2 : Int)]) ∧ Below w.heap.size w w' := by
  match l, hs with
  | [], _ =>
    go_enter Try.func35, Try.ntmps35
    go_wp2
    go_ret3
    exact ⟨rfl, Below.refl _ _⟩
  | b :: r, hs =>
    simp only [List.length_cons] at hs
    by_cases h1 : b.toNat ≤ 250
    · have hne : ((b.toNat : Int) == 251) = false := by simp; omega
      by_cases h0 : most < (b.toNat : Int)
      · have e : Lm.takeLenL (b :: r) most = (0, [], 4) := by simp [Lm.takeLenL, Lm.sizeL, h1, h0]
        rw [e]; clear e
        go_enter Try.func35, Try.ntmps35
        go_wp2
        go_quiet (fail)
        go_wp2
        go_ret3
        exact ⟨rfl, below_drewN (Below.refl _ _) _⟩
      · have e : Lm.takeLenL (b :: r) most = (b.toNat, r, 0) := by simp [Lm.takeLenL, Lm.sizeL, h1, h0]
        rw [e]; clear e
        go_enter Try.func35, Try.ntmps35
        go_wp2
        go_quiet (fail)
        go_wp2
        go_ret3
        exact ⟨rfl, below_drewN (Below.refl _ _) _⟩
    by_cases h2 : 251 < b.toNat
    · have e : Lm.takeLenL (b :: r) most = (0, [], 3) := by simp [Lm.takeLenL, Lm.sizeL, h1, h2]
      rw [e]; clear e
      go_enter Try.func35, Try.ntmps35
      go_wp2
      go_quiet (fail)
      go_wp2
      go_ret3
      exact ⟨rfl, below_drewN (Below.refl _ _) _⟩
    obtain rfl : b = 251 := by apply UInt8.toNat_inj.1; show b.toNat = 251; omega
    clear h1 h2
    match r, hs with
    | [], hs =>
      go_enter Try.func35, Try.ntmps35
      go_wp2
      go_quiet (fail)
      go_wp2
      go_ret3
      exact ⟨rfl, below_drewN (Below.refl _ _) _⟩
    | [a], hs =>
      go_enter Try.func35, Try.ntmps35
      go_wp2
      go_quiet (fail)
      go_wp2
      go_ret3
      exact ⟨rfl, below_drewN (Below.refl _ _) _⟩
    | a :: c :: r, hs =>
      simp only [List.length_cons] at hs
      have ha := a.toNat_lt
      have hc := c.toNat_lt
      have hor := or_byte_i64 a c
      by_cases h3 : 256 * a.toNat + c.toNat ≤ 250
      · have e : Lm.takeLenL (251 :: a :: c :: r) most = (0, [], 3) := by simp [Lm.takeLenL, Lm.sizeL, h3]
        rw [e]; clear e
        go_enter Try.func35, Try.ntmps35
        go_wp2
        go_quiet (fail)
        go_wp2
        go_quiet (fail)
        go_wp2
        go_ret3
        exact ⟨rfl, below_drewN (Below.refl _ _) _⟩
      by_cases h0 : most < ((256 * a.toNat + c.toNat : Nat) : Int)
      · have e : Lm.takeLenL (251 :: a :: c :: r) most = (0, [], 4) := by
          simp only [Lm.takeLenL, Lm.sizeL, h3]; simp; omega
        rw [e]; clear e
        go_enter Try.func35, Try.ntmps35
        go_wp2
        go_quiet (fail)
        go_wp2
        go_quiet (fail)
        go_wp2
        go_ret3
        exact ⟨rfl, below_drewN (Below.refl _ _) _⟩
      · have e : Lm.takeLenL (251 :: a :: c :: r) most = (256 * a.toNat + c.toNat, r, 0) := by
          simp only [Lm.takeLenL, Lm.sizeL, h3]; simp; omega
        rw [e]; clear e
        go_enter Try.func35, Try.ntmps35
        go_wp2
        go_quiet (fail)
        go_wp2
        go_quiet (fail)
        go_wp2
        go_ret3
        exact ⟨rfl, below_drewN (Below.refl _ _) _⟩
end Go.Proofs.Ytchneiefjjcccaa
