/-
  What cartoucheref01.takeSize answers, at whatever bytes.
-/
import Derived.Test.YtchneiefjjcccaaProg
import Derived.Test.YtchneiefjjcccaaGA
import Derived.Test.YtchneiefjjcccaaZBase
import Derived.BigQuiet
import Derived.Deep.QuietTactic
namespace Go.Proofs.Ytchneiefjjcccaa
set_option maxRecDepth 100000
open Go.RowKit
attribute [local go_sem] ba_size ba_get ba_extract ba_append wrap_byte wrap_u64_byte take_drop_end
set_option maxHeartbeats 400000 in
theorem takeSize_any (l : List UInt8) (w : World) (hs : l.length ≤ 9223372036854775807) :
    Calls Try.prog 36 #[.string ⟨l.toArray⟩] w fun e w' => e = .returned (.tuple #[.int .i64 ((Lm.sizeL l).1 : Int), .string ⟨(Lm.sizeL l).2.1.toArray⟩, .int .i64 ((Lm.sizeL l).2.2 : Int)]) ∧ Below w.heap.size w w' := by
  match l, hs with
  | [], _ =>
    go_enter Try.func36, Try.ntmps36
    go_wp2
    go_ret3
    exact ⟨rfl, Below.refl _ _⟩
  | b :: r, hs =>
    simp only [List.length_cons] at hs
    by_cases h1 : b.toNat ≤ 250
    · have e : Lm.sizeL (b :: r) = (b.toNat, r, 0) := by simp [Lm.sizeL, h1]
      rw [e]; clear e
      go_enter Try.func36, Try.ntmps36
      go_wp2
      go_quiet (fail)
      go_wp2
      go_ret3
      exact ⟨rfl, below_drewN (Below.refl _ _) _⟩
    by_cases h2 : 251 < b.toNat
    · have e : Lm.sizeL (b :: r) = (0, [], 3) := by simp [Lm.sizeL, h1, h2]
      rw [e]; clear e
      go_enter Try.func36, Try.ntmps36
      go_wp2
      go_ret3
      exact ⟨rfl, Below.refl _ _⟩
    obtain rfl : b = 251 := by apply UInt8.toNat_inj.1; show b.toNat = 251; omega
    clear h1 h2
    match r, hs with
    | [], hs =>
      go_enter Try.func36, Try.ntmps36
      go_wp2
      go_ret3
      exact ⟨rfl, Below.refl _ _⟩
    | [a], hs =>
      go_enter Try.func36, Try.ntmps36
      go_wp2
      go_ret3
      exact ⟨rfl, Below.refl _ _⟩
    | a :: c :: r, hs =>
      simp only [List.length_cons] at hs
      have ha := a.toNat_lt
      have hc := c.toNat_lt
      by_cases h3 : 256 * a.toNat + c.toNat ≤ 250
      · have e : Lm.sizeL (251 :: a :: c :: r) = (0, [], 3) := by simp [Lm.sizeL, h3]
        rw [e]; clear e
        go_enter Try.func36, Try.ntmps36
        go_wp2
        go_quiet (fail)
        go_wp2
        go_ret3
        exact ⟨rfl, below_drewN (Below.refl _ _) _⟩
      · have e : Lm.sizeL (251 :: a :: c :: r) = (256 * a.toNat + c.toNat, r, 0) := by simp [Lm.sizeL, h3]
        rw [e]; clear e
        go_enter Try.func36, Try.ntmps36
        go_wp2
        go_quiet (fail)
        go_wp2
        go_quiet (fail)
        go_wp2
        go_ret3
        exact ⟨rfl, below_drewN (below_drewN (Below.refl _ _) _) _⟩
end Go.Proofs.Ytchneiefjjcccaa
