/-
  All of a text, block by block, in lists: of no program.
-/
import Derived.Test.YthdikknjabdfeaaDoorBlockL
import Derived.Test.YthdikknjabdfeaaDoorByteRow
namespace Go.Proofs.YthdikknjabdfeaaDoor
open Go.RowKit
set_option linter.unusedVariables false
/-- The words behind the first k blocks of a text. -/
def fk (H : List Int) (S : List UInt8) : Nat → List Int
  | 0 => H
  | k + 1 => blockL (fk H S k) ((S.drop (64 * k)).take 64) (64 * (k + 1)) false
theorem fk_len (H : List Int) (S : List UInt8) (h : H.length = 8) (k : Nat) : (fk H S k).length = 8 := by
  cases k with
  | zero => exact h
  | succ k => exact blockL_len _ _ _ _
/-- How many blocks are taken ahead of the last one. -/
def nb (S : List UInt8) : Nat := (S.length - 1) / 64
/-- The words behind all of a text. -/
def foldL (H : List Int) (S : List UInt8) : List Int := blockL (fk H S (nb S)) (padL (S.drop (64 * nb S))) S.length true
theorem foldL_len (H : List Int) (S : List UInt8) : (foldL H S).length = 8 := blockL_len _ _ _ _
theorem nb_of (S : List UInt8) (k : Nat) (h1 : k = 0 ∨ 64 * k < S.length) (h2 : S.length ≤ 64 * k + 64) : nb S = k := by
  unfold nb; omega
end Go.Proofs.YthdikknjabdfeaaDoor
