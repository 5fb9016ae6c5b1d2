/-
  A sum's bytes as words; noughts behind a text, one after the other: of no program.
-/
import Derived.Test.YthdikknjabdfeaaDoorFoldL
import Derived.Test.YthdikknjabdfeaaDoorP2Flat
namespace Go.Proofs.YthdikknjabdfeaaDoor
open Go.RowKit
set_option linter.unusedVariables false
theorem xor_rng (a b : Int) : 0 ≤ bits .xor .u32 a b ∧ bits .xor .u32 a b < 4294967296 := by
  show 0 ≤ IntKind.u32.wrap ((BitVec.ofInt 32 a ^^^ BitVec.ofInt 32 b).toNat : Int) ∧ IntKind.u32.wrap ((BitVec.ofInt 32 a ^^^ BitVec.ofInt 32 b).toNat : Int) < 4294967296
  rw [IntKind.wrap_u32']
  omega
theorem hx_rng (H V : List Int) (i : Nat) (hi : i < 8) : 0 ≤ at_ (hx H V 8) i ∧ at_ (hx H V 8) i < 4294967296 := by
  have e : at_ (hx H V 8) i = bits .xor .u32 (at_ H i) (bits .xor .u32 (at_ V i) (at_ V (i + 8))) := by
    rw [← at_eq (hx H V 8) i (by rw [hx_len]; exact hi)]
    simp [hx, hi]
  rw [e]
  exact xor_rng _ _
theorem foldL_rng (H : List Int) (S : List UInt8) (i : Nat) (hi : i < 8) : 0 ≤ at_ (foldL H S) i ∧ at_ (foldL H S) i < 4294967296 := hx_rng _ _ i hi
theorem fl_get (H : List Int) (i : Nat) (hi : i < (fl H 32).length) : (((fl H 32)[i]'hi).toNat : Int) = at_ H (i / 4) / 2 ^ (8 * (i % 4)) % 256 := by
  have h32 : i < 32 := by rw [fl_len] at hi; exact hi
  simp only [fl, List.getElem_map, List.getElem_range, if_pos h32]
  simp; omega
/-- The word of four bytes of a sum. -/
theorem fl_word (H : List Int) (i : Nat) (hi : i < 8) (h0 : 0 ≤ at_ H i) (h1 : at_ H i < 4294967296) (g0 : 4 * i < (fl H 32).length) (g1 : 4 * i + 1 < (fl H 32).length) (g2 : 4 * i + 2 < (fl H 32).length) (g3 : 4 * i + 3 < (fl H 32).length) :
    (((fl H 32)[4 * i]'g0).toNat : Int) + 256 * (((fl H 32)[4 * i + 1]'g1).toNat : Int) + 65536 * (((fl H 32)[4 * i + 2]'g2).toNat : Int) + 16777216 * (((fl H 32)[4 * i + 3]'g3).toNat : Int) = at_ H i := by
  rw [fl_get, fl_get, fl_get, fl_get, show 4 * i / 4 = i by omega, show (4 * i + 1) / 4 = i by omega, show (4 * i + 2) / 4 = i by omega, show (4 * i + 3) / 4 = i by omega, show 4 * i % 4 = 0 by omega, show (4 * i + 1) % 4 = 1 by omega, show (4 * i + 2) % 4 = 2 by omega, show (4 * i + 3) % 4 = 3 by omega]
  simp only [Nat.mul_zero, Nat.mul_one, Int.pow_zero, show (2 : Int) ^ 8 = 256 from rfl, show (2 : Int) ^ (8 * 2) = 65536 from rfl, show (2 : Int) ^ (8 * 3) = 16777216 from rfl]
  omega
theorem padL_step (P : List UInt8) (h : P.length < 64) : padL (P ++ [0]) = padL P := by
  unfold padL
  rw [List.append_assoc]
  congr 1
  rw [show 64 - P.length = (64 - (P ++ [0]).length) + 1 by simp; omega, List.replicate_succ]; rfl
theorem padL_full (P : List UInt8) (h : P.length = 64) : padL P = P := by simp [padL, h]
theorem foldL_of (H : List Int) (S T : List UInt8) (k : Nat) (h1 : k = 0 ∨ 64 * k < S.length) (h2 : S.length ≤ 64 * k + 64) (hT : T = S.drop (64 * k)) (P : List UInt8) (hP : P.length = 64) (hp : padL P = padL T) :
    foldL H S = blockL (fk H S k) P S.length true := by
  unfold foldL
  rw [nb_of S k h1 h2, ← hT, ← hp, padL_full P hP]
theorem drop_next (S T : List UInt8) (k : Nat) (hT : T = S.drop (64 * k)) : T.drop 64 = S.drop (64 * (k + 1)) := by
  rw [hT, List.drop_drop]; rfl
end Go.Proofs.YthdikknjabdfeaaDoor
