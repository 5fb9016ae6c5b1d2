/-
  The words of a block, out of its bytes: of no program.
-/
import Derived.Test.YthdikknjabdfeaaDoorWords2
namespace Go.Proofs.YthdikknjabdfeaaDoor
open Go.RowKit
set_option linter.unusedVariables false
def Z8 : List Int := List.replicate 8 0
def Z16 : List Int := List.replicate 16 0
def bt (B : List UInt8) (i : Nat) : Nat := (B.getD i 0).toNat
theorem bt_lt (B : List UInt8) (i : Nat) : bt B i < 256 := (B.getD i 0).toNat_lt
theorem bt_eq (B : List UInt8) (i : Nat) (h : i < B.length) : B[i].toNat = bt B i := by simp [bt, h]
/-- The i-th word of a block. -/
def wd (B : List UInt8) (i : Nat) : Int := ((bt B (4 * i) + 256 * bt B (4 * i + 1) + 65536 * bt B (4 * i + 2) + 16777216 * bt B (4 * i + 3) : Nat) : Int)
/-- The words of a block, as far as they are laid. -/
def mp (B : List UInt8) (k : Nat) : List Int := (List.range 16).map fun i => if i < k then wd B i else 0
theorem mp_len (B : List UInt8) (k : Nat) : (mp B k).length = 16 := by simp [mp]
theorem mp_set (B : List UInt8) (k : Nat) : (mp B k).set k (wd B k) = mp B (k + 1) := by
  apply List.ext_getElem
  · simp [mp]
  · intro i h1 h2
    simp only [List.getElem_set, mp, List.getElem_map, List.getElem_range]
    by_cases h : k = i
    · subst h; simp
    · rw [if_neg h]
      by_cases h3 : i < k
      · rw [if_pos h3, if_pos (by omega)]
      · rw [if_neg h3, if_neg (by omega)]
/-- The first c bytes of a word. -/
def wdc (B : List UInt8) (q : Nat) : Nat → Int
  | 0 => 0
  | 1 => (bt B (4 * q) : Nat)
  | 2 => (bt B (4 * q) + 256 * bt B (4 * q + 1) : Nat)
  | _ => (bt B (4 * q) + 256 * bt B (4 * q + 1) + 65536 * bt B (4 * q + 2) : Nat)
/-- The words of a block behind q words and c bytes. -/
def mq (B : List UInt8) (q c : Nat) : List Int := (mp B q).set q (wdc B q c)
theorem mq_len (B : List UInt8) (q c : Nat) : (mq B q c).length = 16 := by simp [mq, mp_len]
theorem mq_at (B : List UInt8) (q c : Nat) (h : q < 16) : at_ (mq B q c) q = wdc B q c := at_set_same _ _ _ (by rw [mp_len]; exact h)
theorem mq_set (B : List UInt8) (q c : Nat) (x : Int) : (mq B q c).set q x = (mp B q).set q x := by simp [mq]
theorem mq_zero (B : List UInt8) (q : Nat) : mq B q 0 = mp B q := by
  apply List.ext_getElem
  · simp [mq]
  · intro i h1 h2
    simp only [mq, List.getElem_set]
    by_cases h : q = i
    · subst h; simp [mp, wdc]
    · rw [if_neg h]
theorem or_part (i : Nat) (hi : i ≤ 24) (x y : Nat) (hx : x < 2 ^ i) (hy : y < 256) : bits .or .u32 (x : Int) ((y * 2 ^ i : Nat) : Int) = ((x + y * 2 ^ i : Nat) : Int) := by
  have hp : (2 : Nat) ^ i ≤ 2 ^ 24 := Nat.pow_le_pow_right (by decide) hi
  have hp0 : 0 < (2 : Nat) ^ i := Nat.two_pow_pos i
  have hym : y * 2 ^ i < 4294967296 := by
    have : y * 2 ^ i ≤ 255 * 2 ^ 24 := Nat.mul_le_mul (by omega) hp
    omega
  rw [u32_or_nat _ _ (by omega) hym]
  have h := Nat.two_pow_add_eq_or_of_lt hx y
  rw [Nat.or_comm, Nat.mul_comm y, ← h]; omega
theorem wdc_step (B : List UInt8) (q : Nat) : bits .or .u32 (wdc B q 0) ((bt B (4 * q) : Nat) : Int) = wdc B q 1 ∧ bits .or .u32 (wdc B q 1) (((bt B (4 * q + 1) : Nat) : Int) * 256) = wdc B q 2 ∧ bits .or .u32 (wdc B q 2) (((bt B (4 * q + 2) : Nat) : Int) * 65536) = wdc B q 3 ∧ bits .or .u32 (wdc B q 3) (((bt B (4 * q + 3) : Nat) : Int) * 16777216) = wd B q := by
  have h0 := bt_lt B (4 * q)
  have h1 := bt_lt B (4 * q + 1)
  have h2 := bt_lt B (4 * q + 2)
  have h3 := bt_lt B (4 * q + 3)
  refine ⟨?_, ?_, ?_, ?_⟩
  · have := or_part 0 (by decide) 0 (bt B (4 * q)) (by decide) h0
    simpa [wdc] using this
  · have := or_part 8 (by decide) (bt B (4 * q)) (bt B (4 * q + 1)) (by omega) h1
    show bits .or .u32 ((bt B (4 * q) : Nat) : Int) _ = ((bt B (4 * q) + 256 * bt B (4 * q + 1) : Nat) : Int)
    rw [show ((bt B (4 * q + 1) : Nat) : Int) * 256 = ((bt B (4 * q + 1) * 2 ^ 8 : Nat) : Int) by omega, this]; omega
  · have := or_part 16 (by decide) (bt B (4 * q) + 256 * bt B (4 * q + 1)) (bt B (4 * q + 2)) (by omega) h2
    show bits .or .u32 ((bt B (4 * q) + 256 * bt B (4 * q + 1) : Nat) : Int) _ = ((bt B (4 * q) + 256 * bt B (4 * q + 1) + 65536 * bt B (4 * q + 2) : Nat) : Int)
    rw [show ((bt B (4 * q + 2) : Nat) : Int) * 65536 = ((bt B (4 * q + 2) * 2 ^ 16 : Nat) : Int) by omega, this]; omega
  · have := or_part 24 (by decide) (bt B (4 * q) + 256 * bt B (4 * q + 1) + 65536 * bt B (4 * q + 2)) (bt B (4 * q + 3)) (by omega) h3
    show bits .or .u32 ((bt B (4 * q) + 256 * bt B (4 * q + 1) + 65536 * bt B (4 * q + 2) : Nat) : Int) _ = ((bt B (4 * q) + 256 * bt B (4 * q + 1) + 65536 * bt B (4 * q + 2) + 16777216 * bt B (4 * q + 3) : Nat) : Int)
    rw [show ((bt B (4 * q + 3) : Nat) : Int) * 16777216 = ((bt B (4 * q + 3) * 2 ^ 24 : Nat) : Int) by omega, this]; omega
/-- The words that the rounds mix, as far as they are laid. -/
def sp (H : List Int) (k : Nat) : List Int := (List.range 16).map fun i => if i < 8 then (if i < k then at_ H i else 0) else (if i - 8 < k then at_ firstL (i - 8) else 0)
theorem sp_len (H : List Int) (k : Nat) : (sp H k).length = 16 := by simp [sp]
theorem sp_set (H : List Int) (k : Nat) (hk : k < 8) : ((sp H k).set k (at_ H k)).set (k + 8) (at_ firstL k) = sp H (k + 1) := by
  apply List.ext_getElem
  · simp [sp]
  · intro i h1 h2
    simp only [List.getElem_set, sp, List.getElem_map, List.getElem_range]
    by_cases h8 : k + 8 = i
    · subst h8
      rw [if_pos rfl, if_neg (by omega), if_pos (by omega), Nat.add_sub_cancel]
    · rw [if_neg h8]
      by_cases h : k = i
      · subst h
        rw [if_pos rfl, if_pos hk, if_pos (by omega)]
      · rw [if_neg h]
        by_cases hi : i < 8
        · rw [if_pos hi, if_pos hi]
          by_cases h3 : i < k
          · rw [if_pos h3, if_pos (by omega)]
          · rw [if_neg h3, if_neg (by omega)]
        · rw [if_neg hi, if_neg hi]
          by_cases h3 : i - 8 < k
          · rw [if_pos h3, if_pos (by omega)]
          · rw [if_neg h3, if_neg (by omega)]
/-- The words that the rounds mix. -/
def spreadL (H : List Int) (t : Nat) (last : Bool) : List Int :=
  let V := ((sp H 8).set 12 (bits .xor .u32 (at_ (sp H 8) 12) ((t : Int) % 4294967296))).set 13 (bits .xor .u32 (at_ (sp H 8) 13) ((t : Int) / 4294967296))
  if last then V.set 14 (bits .xor .u32 (at_ (sp H 8) 14) 4294967295) else V
theorem spreadL_len (H : List Int) (t : Nat) (last : Bool) : (spreadL H t last).length = 16 := by
  unfold spreadL
  cases last <;> simp [sp_len]
end Go.Proofs.YthdikknjabdfeaaDoor
