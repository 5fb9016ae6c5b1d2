/-
  What math/bits.RotateLeft32, blake.mix and blake.figure answer.
-/
import Derived.Test.YthdikknjabdfeaaDoorProg
import Derived.Test.YthdikknjabdfeaaDoorWords2
namespace Go.Proofs.YthdikknjabdfeaaDoor
open Go.RowKit
set_option linter.unusedVariables false
theorem rl_16 (x : Int) (w : World) : Calls Tryd.prog 37 #[.int .u32 x, .int .i64 (-16)] w fun e w' => e = .returned (.int .u32 (rot 65536 65536 x)) ∧ w' = w := by
  have hs : bits .and .u64 (IntKind.u64.wrap (-16)) 31 = 16 := by decide +kernel
  go_enter Tryd.func37, Tryd.ntmps37
  go_wp2
  go_ret
  exact ⟨ret_int (or_comm32 _ _), rfl⟩
theorem rl_12 (x : Int) (w : World) : Calls Tryd.prog 37 #[.int .u32 x, .int .i64 (-12)] w fun e w' => e = .returned (.int .u32 (rot 4096 1048576 x)) ∧ w' = w := by
  have hs : bits .and .u64 (IntKind.u64.wrap (-12)) 31 = 20 := by decide +kernel
  go_enter Tryd.func37, Tryd.ntmps37
  go_wp2
  go_ret
  exact ⟨ret_int (or_comm32 _ _), rfl⟩
theorem rl_8 (x : Int) (w : World) : Calls Tryd.prog 37 #[.int .u32 x, .int .i64 (-8)] w fun e w' => e = .returned (.int .u32 (rot 256 16777216 x)) ∧ w' = w := by
  have hs : bits .and .u64 (IntKind.u64.wrap (-8)) 31 = 24 := by decide +kernel
  go_enter Tryd.func37, Tryd.ntmps37
  go_wp2
  go_ret
  exact ⟨ret_int (or_comm32 _ _), rfl⟩
theorem rl_7 (x : Int) (w : World) : Calls Tryd.prog 37 #[.int .u32 x, .int .i64 (-7)] w fun e w' => e = .returned (.int .u32 (rot 128 33554432 x)) ∧ w' = w := by
  have hs : bits .and .u64 (IntKind.u64.wrap (-7)) 31 = 25 := by decide +kernel
  go_enter Tryd.func37, Tryd.ntmps37
  go_wp2
  go_ret
  exact ⟨ret_int (or_comm32 _ _), rfl⟩
set_option maxHeartbeats 400000 in
theorem mix_a (a b c d x : Int) (w : World) : Calls Tryd.prog 27 #[.int .u32 a, .int .u32 b, .int .u32 c, .int .u32 d, .int .u32 x, .int .i64 16, .int .i64 12] w fun e w' => e = .returned (.tuple #[.int .u32 (hA a b x), .int .u32 (hB 65536 65536 4096 1048576 a b c d x), .int .u32 (hC 65536 65536 a b c d x), .int .u32 (hD 65536 65536 a b d x)]) ∧ w' = w := by
  go_enter Tryd.func27, Tryd.ntmps27
  go_wp2_with fail
  refine (rl_16 _ _).mono ?_
  rintro e w1 ⟨rfl, rfl⟩
  go_wp2_with fail
  refine (rl_12 _ _).mono ?_
  rintro e w1 ⟨rfl, rfl⟩
  go_wp2_with fail
  rw [add3]
  exact bodyPost_ret (results_tmp4 rfl _ _ _) rfl ⟨rfl, rfl⟩
set_option maxHeartbeats 400000 in
theorem mix_b (a b c d x : Int) (w : World) : Calls Tryd.prog 27 #[.int .u32 a, .int .u32 b, .int .u32 c, .int .u32 d, .int .u32 x, .int .i64 8, .int .i64 7] w fun e w' => e = .returned (.tuple #[.int .u32 (hA a b x), .int .u32 (hB 256 16777216 128 33554432 a b c d x), .int .u32 (hC 256 16777216 a b c d x), .int .u32 (hD 256 16777216 a b d x)]) ∧ w' = w := by
  go_enter Tryd.func27, Tryd.ntmps27
  go_wp2_with fail
  refine (rl_8 _ _).mono ?_
  rintro e w1 ⟨rfl, rfl⟩
  go_wp2_with fail
  refine (rl_7 _ _).mono ?_
  rintro e w1 ⟨rfl, rfl⟩
  go_wp2_with fail
  rw [add3]
  exact bodyPost_ret (results_tmp4 rfl _ _ _) rfl ⟨rfl, rfl⟩
theorem and15 (x : Int) (h0 : 0 ≤ x) (h1 : x < 18446744073709551616) : bits .and .u64 x 15 = x % 16 :=
  bits_mask .u64 64 (by decide) (fun n h h' => by rw [IntKind.wrap_u64]; omega) 4 (by decide) x h0 h1
/-- The i-th figure of an order. -/
def fg (o i : Nat) : Nat := o / 2 ^ (60 - 4 * i) % 16
theorem figure_0 (o : Nat) (ho : o < 18446744073709551616) (w : World) : Calls Tryd.prog 26 #[.int .u64 o, .int .i64 0] w fun e w' => e = .returned (.int .i64 (fg o 0)) ∧ w' = w := by
  have hA : bits .and .u64 ((o : Int) / 1152921504606846976) 15 = (o : Int) / 1152921504606846976 % 16 := and15 _ (by omega) (by omega)
  have hw : IntKind.i64.wrap ((o : Int) / 1152921504606846976 % 16) = (o : Int) / 1152921504606846976 % 16 := by rw [IntKind.wrap_i64]; omega
  go_enter Tryd.func26, Tryd.ntmps26
  go_wp2
  go_ret
  exact ⟨ret_int (by unfold fg; simp only [Nat.reduceMul, Nat.reduceSub, Nat.reducePow]; omega), rfl⟩
theorem figure_1 (o : Nat) (ho : o < 18446744073709551616) (w : World) : Calls Tryd.prog 26 #[.int .u64 o, .int .i64 1] w fun e w' => e = .returned (.int .i64 (fg o 1)) ∧ w' = w := by
  have hA : bits .and .u64 ((o : Int) / 72057594037927936) 15 = (o : Int) / 72057594037927936 % 16 := and15 _ (by omega) (by omega)
  have hw : IntKind.i64.wrap ((o : Int) / 72057594037927936 % 16) = (o : Int) / 72057594037927936 % 16 := by rw [IntKind.wrap_i64]; omega
  go_enter Tryd.func26, Tryd.ntmps26
  go_wp2
  go_ret
  exact ⟨ret_int (by unfold fg; simp only [Nat.reduceMul, Nat.reduceSub, Nat.reducePow]; omega), rfl⟩
theorem figure_2 (o : Nat) (ho : o < 18446744073709551616) (w : World) : Calls Tryd.prog 26 #[.int .u64 o, .int .i64 2] w fun e w' => e = .returned (.int .i64 (fg o 2)) ∧ w' = w := by
  have hA : bits .and .u64 ((o : Int) / 4503599627370496) 15 = (o : Int) / 4503599627370496 % 16 := and15 _ (by omega) (by omega)
  have hw : IntKind.i64.wrap ((o : Int) / 4503599627370496 % 16) = (o : Int) / 4503599627370496 % 16 := by rw [IntKind.wrap_i64]; omega
  go_enter Tryd.func26, Tryd.ntmps26
  go_wp2
  go_ret
  exact ⟨ret_int (by unfold fg; simp only [Nat.reduceMul, Nat.reduceSub, Nat.reducePow]; omega), rfl⟩
theorem figure_3 (o : Nat) (ho : o < 18446744073709551616) (w : World) : Calls Tryd.prog 26 #[.int .u64 o, .int .i64 3] w fun e w' => e = .returned (.int .i64 (fg o 3)) ∧ w' = w := by
  have hA : bits .and .u64 ((o : Int) / 281474976710656) 15 = (o : Int) / 281474976710656 % 16 := and15 _ (by omega) (by omega)
  have hw : IntKind.i64.wrap ((o : Int) / 281474976710656 % 16) = (o : Int) / 281474976710656 % 16 := by rw [IntKind.wrap_i64]; omega
  go_enter Tryd.func26, Tryd.ntmps26
  go_wp2
  go_ret
  exact ⟨ret_int (by unfold fg; simp only [Nat.reduceMul, Nat.reduceSub, Nat.reducePow]; omega), rfl⟩
theorem figure_4 (o : Nat) (ho : o < 18446744073709551616) (w : World) : Calls Tryd.prog 26 #[.int .u64 o, .int .i64 4] w fun e w' => e = .returned (.int .i64 (fg o 4)) ∧ w' = w := by
  have hA : bits .and .u64 ((o : Int) / 17592186044416) 15 = (o : Int) / 17592186044416 % 16 := and15 _ (by omega) (by omega)
  have hw : IntKind.i64.wrap ((o : Int) / 17592186044416 % 16) = (o : Int) / 17592186044416 % 16 := by rw [IntKind.wrap_i64]; omega
  go_enter Tryd.func26, Tryd.ntmps26
  go_wp2
  go_ret
  exact ⟨ret_int (by unfold fg; simp only [Nat.reduceMul, Nat.reduceSub, Nat.reducePow]; omega), rfl⟩
theorem figure_5 (o : Nat) (ho : o < 18446744073709551616) (w : World) : Calls Tryd.prog 26 #[.int .u64 o, .int .i64 5] w fun e w' => e = .returned (.int .i64 (fg o 5)) ∧ w' = w := by
  have hA : bits .and .u64 ((o : Int) / 1099511627776) 15 = (o : Int) / 1099511627776 % 16 := and15 _ (by omega) (by omega)
  have hw : IntKind.i64.wrap ((o : Int) / 1099511627776 % 16) = (o : Int) / 1099511627776 % 16 := by rw [IntKind.wrap_i64]; omega
  go_enter Tryd.func26, Tryd.ntmps26
  go_wp2
  go_ret
  exact ⟨ret_int (by unfold fg; simp only [Nat.reduceMul, Nat.reduceSub, Nat.reducePow]; omega), rfl⟩
theorem figure_6 (o : Nat) (ho : o < 18446744073709551616) (w : World) : Calls Tryd.prog 26 #[.int .u64 o, .int .i64 6] w fun e w' => e = .returned (.int .i64 (fg o 6)) ∧ w' = w := by
  have hA : bits .and .u64 ((o : Int) / 68719476736) 15 = (o : Int) / 68719476736 % 16 := and15 _ (by omega) (by omega)
  have hw : IntKind.i64.wrap ((o : Int) / 68719476736 % 16) = (o : Int) / 68719476736 % 16 := by rw [IntKind.wrap_i64]; omega
  go_enter Tryd.func26, Tryd.ntmps26
  go_wp2
  go_ret
  exact ⟨ret_int (by unfold fg; simp only [Nat.reduceMul, Nat.reduceSub, Nat.reducePow]; omega), rfl⟩
theorem figure_7 (o : Nat) (ho : o < 18446744073709551616) (w : World) : Calls Tryd.prog 26 #[.int .u64 o, .int .i64 7] w fun e w' => e = .returned (.int .i64 (fg o 7)) ∧ w' = w := by
  have hA : bits .and .u64 ((o : Int) / 4294967296) 15 = (o : Int) / 4294967296 % 16 := and15 _ (by omega) (by omega)
  have hw : IntKind.i64.wrap ((o : Int) / 4294967296 % 16) = (o : Int) / 4294967296 % 16 := by rw [IntKind.wrap_i64]; omega
  go_enter Tryd.func26, Tryd.ntmps26
  go_wp2
  go_ret
  exact ⟨ret_int (by unfold fg; simp only [Nat.reduceMul, Nat.reduceSub, Nat.reducePow]; omega), rfl⟩
theorem figure_8 (o : Nat) (ho : o < 18446744073709551616) (w : World) : Calls Tryd.prog 26 #[.int .u64 o, .int .i64 8] w fun e w' => e = .returned (.int .i64 (fg o 8)) ∧ w' = w := by
  have hA : bits .and .u64 ((o : Int) / 268435456) 15 = (o : Int) / 268435456 % 16 := and15 _ (by omega) (by omega)
  have hw : IntKind.i64.wrap ((o : Int) / 268435456 % 16) = (o : Int) / 268435456 % 16 := by rw [IntKind.wrap_i64]; omega
  go_enter Tryd.func26, Tryd.ntmps26
  go_wp2
  go_ret
  exact ⟨ret_int (by unfold fg; simp only [Nat.reduceMul, Nat.reduceSub, Nat.reducePow]; omega), rfl⟩
theorem figure_9 (o : Nat) (ho : o < 18446744073709551616) (w : World) : Calls Tryd.prog 26 #[.int .u64 o, .int .i64 9] w fun e w' => e = .returned (.int .i64 (fg o 9)) ∧ w' = w := by
  have hA : bits .and .u64 ((o : Int) / 16777216) 15 = (o : Int) / 16777216 % 16 := and15 _ (by omega) (by omega)
  have hw : IntKind.i64.wrap ((o : Int) / 16777216 % 16) = (o : Int) / 16777216 % 16 := by rw [IntKind.wrap_i64]; omega
  go_enter Tryd.func26, Tryd.ntmps26
  go_wp2
  go_ret
  exact ⟨ret_int (by unfold fg; simp only [Nat.reduceMul, Nat.reduceSub, Nat.reducePow]; omega), rfl⟩
theorem figure_10 (o : Nat) (ho : o < 18446744073709551616) (w : World) : Calls Tryd.prog 26 #[.int .u64 o, .int .i64 10] w fun e w' => e = .returned (.int .i64 (fg o 10)) ∧ w' = w := by
  have hA : bits .and .u64 ((o : Int) / 1048576) 15 = (o : Int) / 1048576 % 16 := and15 _ (by omega) (by omega)
  have hw : IntKind.i64.wrap ((o : Int) / 1048576 % 16) = (o : Int) / 1048576 % 16 := by rw [IntKind.wrap_i64]; omega
  go_enter Tryd.func26, Tryd.ntmps26
  go_wp2
  go_ret
  exact ⟨ret_int (by unfold fg; simp only [Nat.reduceMul, Nat.reduceSub, Nat.reducePow]; omega), rfl⟩
theorem figure_11 (o : Nat) (ho : o < 18446744073709551616) (w : World) : Calls Tryd.prog 26 #[.int .u64 o, .int .i64 11] w fun e w' => e = .returned (.int .i64 (fg o 11)) ∧ w' = w := by
  have hA : bits .and .u64 ((o : Int) / 65536) 15 = (o : Int) / 65536 % 16 := and15 _ (by omega) (by omega)
  have hw : IntKind.i64.wrap ((o : Int) / 65536 % 16) = (o : Int) / 65536 % 16 := by rw [IntKind.wrap_i64]; omega
  go_enter Tryd.func26, Tryd.ntmps26
  go_wp2
  go_ret
  exact ⟨ret_int (by unfold fg; simp only [Nat.reduceMul, Nat.reduceSub, Nat.reducePow]; omega), rfl⟩
theorem figure_12 (o : Nat) (ho : o < 18446744073709551616) (w : World) : Calls Tryd.prog 26 #[.int .u64 o, .int .i64 12] w fun e w' => e = .returned (.int .i64 (fg o 12)) ∧ w' = w := by
  have hA : bits .and .u64 ((o : Int) / 4096) 15 = (o : Int) / 4096 % 16 := and15 _ (by omega) (by omega)
  have hw : IntKind.i64.wrap ((o : Int) / 4096 % 16) = (o : Int) / 4096 % 16 := by rw [IntKind.wrap_i64]; omega
  go_enter Tryd.func26, Tryd.ntmps26
  go_wp2
  go_ret
  exact ⟨ret_int (by unfold fg; simp only [Nat.reduceMul, Nat.reduceSub, Nat.reducePow]; omega), rfl⟩
theorem figure_13 (o : Nat) (ho : o < 18446744073709551616) (w : World) : Calls Tryd.prog 26 #[.int .u64 o, .int .i64 13] w fun e w' => e = .returned (.int .i64 (fg o 13)) ∧ w' = w := by
  have hA : bits .and .u64 ((o : Int) / 256) 15 = (o : Int) / 256 % 16 := and15 _ (by omega) (by omega)
  have hw : IntKind.i64.wrap ((o : Int) / 256 % 16) = (o : Int) / 256 % 16 := by rw [IntKind.wrap_i64]; omega
  go_enter Tryd.func26, Tryd.ntmps26
  go_wp2
  go_ret
  exact ⟨ret_int (by unfold fg; simp only [Nat.reduceMul, Nat.reduceSub, Nat.reducePow]; omega), rfl⟩
theorem figure_14 (o : Nat) (ho : o < 18446744073709551616) (w : World) : Calls Tryd.prog 26 #[.int .u64 o, .int .i64 14] w fun e w' => e = .returned (.int .i64 (fg o 14)) ∧ w' = w := by
  have hA : bits .and .u64 ((o : Int) / 16) 15 = (o : Int) / 16 % 16 := and15 _ (by omega) (by omega)
  have hw : IntKind.i64.wrap ((o : Int) / 16 % 16) = (o : Int) / 16 % 16 := by rw [IntKind.wrap_i64]; omega
  go_enter Tryd.func26, Tryd.ntmps26
  go_wp2
  go_ret
  exact ⟨ret_int (by unfold fg; simp only [Nat.reduceMul, Nat.reduceSub, Nat.reducePow]; omega), rfl⟩
theorem figure_15 (o : Nat) (ho : o < 18446744073709551616) (w : World) : Calls Tryd.prog 26 #[.int .u64 o, .int .i64 15] w fun e w' => e = .returned (.int .i64 (fg o 15)) ∧ w' = w := by
  have hA : bits .and .u64 ((o : Int)) 15 = (o : Int) % 16 := and15 _ (by omega) (by omega)
  have hw : IntKind.i64.wrap ((o : Int) % 16) = (o : Int) % 16 := by rw [IntKind.wrap_i64]; omega
  go_enter Tryd.func26, Tryd.ntmps26
  go_wp2
  go_ret
  exact ⟨ret_int (by unfold fg; simp only [Nat.reduceMul, Nat.reduceSub, Nat.reducePow]; omega), rfl⟩
theorem figure_of (o i : Nat) (ho : o < 18446744073709551616) (hi : i < 16) (w : World) : Calls Tryd.prog 26 #[.int .u64 o, .int .i64 i] w fun e w' => e = .returned (.int .i64 (fg o i)) ∧ w' = w := by
  have hc : i = 0 ∨ i = 1 ∨ i = 2 ∨ i = 3 ∨ i = 4 ∨ i = 5 ∨ i = 6 ∨ i = 7 ∨ i = 8 ∨ i = 9 ∨ i = 10 ∨ i = 11 ∨ i = 12 ∨ i = 13 ∨ i = 14 ∨ i = 15 := by omega
  rcases hc with rfl | rfl | rfl | rfl | rfl | rfl | rfl | rfl | rfl | rfl | rfl | rfl | rfl | rfl | rfl | rfl
  · exact figure_0 o ho w
  · exact figure_1 o ho w
  · exact figure_2 o ho w
  · exact figure_3 o ho w
  · exact figure_4 o ho w
  · exact figure_5 o ho w
  · exact figure_6 o ho w
  · exact figure_7 o ho w
  · exact figure_8 o ho w
  · exact figure_9 o ho w
  · exact figure_10 o ho w
  · exact figure_11 o ho w
  · exact figure_12 o ho w
  · exact figure_13 o ho w
  · exact figure_14 o ho w
  · exact figure_15 o ho w
end Go.Proofs.YthdikknjabdfeaaDoor
