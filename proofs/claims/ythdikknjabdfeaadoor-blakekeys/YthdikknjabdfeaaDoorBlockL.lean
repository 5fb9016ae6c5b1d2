/-
  What a block makes of the words, in lists: of no program.
-/
import Derived.Test.YthdikknjabdfeaaDoorP2Glob
import Derived.Test.YthdikknjabdfeaaDoorWordsB
namespace Go.Proofs.YthdikknjabdfeaaDoor
open Go.RowKit
set_option linter.unusedVariables false
/-- The words behind r rounds. -/
def vr (B : List UInt8) (V : List Int) : Nat → List Int
  | 0 => V
  | r + 1 => rk (mp B 16) (vr B V r) (sg r) 8
theorem vr_len (B : List UInt8) (V : List Int) (h : V.length = 16) (r : Nat) : (vr B V r).length = 16 := by
  induction r with
  | zero => exact h
  | succ r ih => exact rk_len _ _ _ ih 8
/-- The words of a sum behind a block, as far as they are laid. -/
def hx (H V : List Int) (k : Nat) : List Int := (List.range 8).map fun i => if i < k then bits .xor .u32 (at_ H i) (bits .xor .u32 (at_ V i) (at_ V (i + 8))) else at_ H i
theorem hx_len (H V : List Int) (k : Nat) : (hx H V k).length = 8 := by simp [hx]
theorem hx_at (H V : List Int) (k : Nat) (h : k < 8) : at_ (hx H V k) k = at_ H k := by
  have e : at_ (hx H V k) k = (hx H V k)[k]'(by rw [hx_len]; exact h) := (at_eq _ _ _).symm
  rw [e]
  simp [hx]
theorem hx_zero (H V : List Int) (h : H.length = 8) : hx H V 0 = H := by
  apply List.ext_getElem
  · simp [hx, h]
  · intro i h1 h2
    simp [hx, at_, h2]
theorem hx_set (H V : List Int) (k : Nat) (x : Int) (hx' : x = bits .xor .u32 (at_ H k) (bits .xor .u32 (at_ V k) (at_ V (k + 8)))) : (hx H V k).set k x = hx H V (k + 1) := by
  subst hx'
  apply List.ext_getElem
  · simp [hx]
  · intro i h1 h2
    simp only [List.getElem_set, hx, List.getElem_map, List.getElem_range]
    by_cases h : k = i
    · subst h; simp
    · rw [if_neg h]
      by_cases h3 : i < k
      · rw [if_pos h3, if_pos (by omega)]
      · rw [if_neg h3, if_neg (by omega)]
/-- The words behind a block. -/
def blockL (H : List Int) (B : List UInt8) (t : Nat) (last : Bool) : List Int := hx H (vr B (spreadL H t last) 10) 8
theorem blockL_len (H : List Int) (B : List UInt8) (t : Nat) (last : Bool) : (blockL H B t last).length = 8 := hx_len _ _ _
end Go.Proofs.YthdikknjabdfeaaDoor
