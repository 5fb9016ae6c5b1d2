/-
  What math/bits.RotateLeft32, blake.mix and blake.figure answer.
  What blake.words answers.
  What blake.spread answers.
  What blake.Start answers.
  What blake.fill answers.
  What blake.flat answers.
-/
import Derived.Test.YtihggfkenhkglaaDoorProg
import Derived.Test.YtihggfkenhkglaaDoorGC
import Derived.Deep.Cut
namespace Go.Proofs.YtihggfkenhkglaaDoor
set_option maxRecDepth 100000
open Go.RowKit
set_option linter.unusedVariables false
theorem rl_16 (x : Int) (w : World) : Calls Tryd.prog 73 #[.int .u32 x, .int .i64 (-16)] w fun e w' => e = .returned (.int .u32 (rot 65536 65536 x)) ∧ w' = w := by
  have hs : bits .and .u64 (IntKind.u64.wrap (-16)) 31 = 16 := by decide +kernel
  go_enter Tryd.func73, Tryd.ntmps73
  go_wp2
  go_ret
  exact ⟨ret_int (or_comm32 _ _), rfl⟩
theorem rl_12 (x : Int) (w : World) : Calls Tryd.prog 73 #[.int .u32 x, .int .i64 (-12)] w fun e w' => e = .returned (.int .u32 (rot 4096 1048576 x)) ∧ w' = w := by
  have hs : bits .and .u64 (IntKind.u64.wrap (-12)) 31 = 20 := by decide +kernel
  go_enter Tryd.func73, Tryd.ntmps73
  go_wp2
  go_ret
  exact ⟨ret_int (or_comm32 _ _), rfl⟩
theorem rl_8 (x : Int) (w : World) : Calls Tryd.prog 73 #[.int .u32 x, .int .i64 (-8)] w fun e w' => e = .returned (.int .u32 (rot 256 16777216 x)) ∧ w' = w := by
  have hs : bits .and .u64 (IntKind.u64.wrap (-8)) 31 = 24 := by decide +kernel
  go_enter Tryd.func73, Tryd.ntmps73
  go_wp2
  go_ret
  exact ⟨ret_int (or_comm32 _ _), rfl⟩
theorem rl_7 (x : Int) (w : World) : Calls Tryd.prog 73 #[.int .u32 x, .int .i64 (-7)] w fun e w' => e = .returned (.int .u32 (rot 128 33554432 x)) ∧ w' = w := by
  have hs : bits .and .u64 (IntKind.u64.wrap (-7)) 31 = 25 := by decide +kernel
  go_enter Tryd.func73, Tryd.ntmps73
  go_wp2
  go_ret
  exact ⟨ret_int (or_comm32 _ _), rfl⟩
set_option maxHeartbeats 400000 in
theorem mix_a (a b c d x : Int) (w : World) : Calls Tryd.prog 68 #[.int .u32 a, .int .u32 b, .int .u32 c, .int .u32 d, .int .u32 x, .int .i64 16, .int .i64 12] w fun e w' => e = .returned (.tuple #[.int .u32 (hA a b x), .int .u32 (hB 65536 65536 4096 1048576 a b c d x), .int .u32 (hC 65536 65536 a b c d x), .int .u32 (hD 65536 65536 a b d x)]) ∧ w' = w := by
  go_enter Tryd.func68, Tryd.ntmps68
  go_wp2_with fail
  refine (rl_16 _ _).mono ?_
  rintro e w1 ⟨rfl, rfl⟩
  go_wp2_with fail
  refine (rl_12 _ _).mono ?_
  rintro e w1 ⟨rfl, rfl⟩
  go_wp2_with fail
  rw [add3]
  exact bodyPost_ret (results_tmp4 rfl _ _ _) rfl ⟨rfl, rfl⟩
set_option maxHeartbeats 400000 in
theorem mix_b (a b c d x : Int) (w : World) : Calls Tryd.prog 68 #[.int .u32 a, .int .u32 b, .int .u32 c, .int .u32 d, .int .u32 x, .int .i64 8, .int .i64 7] w fun e w' => e = .returned (.tuple #[.int .u32 (hA a b x), .int .u32 (hB 256 16777216 128 33554432 a b c d x), .int .u32 (hC 256 16777216 a b c d x), .int .u32 (hD 256 16777216 a b d x)]) ∧ w' = w := by
  go_enter Tryd.func68, Tryd.ntmps68
  go_wp2_with fail
  refine (rl_8 _ _).mono ?_
  rintro e w1 ⟨rfl, rfl⟩
  go_wp2_with fail
  refine (rl_7 _ _).mono ?_
  rintro e w1 ⟨rfl, rfl⟩
  go_wp2_with fail
  rw [add3]
  exact bodyPost_ret (results_tmp4 rfl _ _ _) rfl ⟨rfl, rfl⟩
theorem and15 (x : Int) (h0 : 0 ≤ x) (h1 : x < 18446744073709551616) : bits .and .u64 x 15 = x % 16 :=
  bits_mask .u64 64 (by decide) (fun n h h' => by rw [IntKind.wrap_u64]; omega) 4 (by decide) x h0 h1
/-- The i-th figure of an order. -/
def fg (o i : Nat) : Nat := o / 2 ^ (60 - 4 * i) % 16
theorem figure_0 (o : Nat) (ho : o < 18446744073709551616) (w : World) : Calls Tryd.prog 67 #[.int .u64 o, .int .i64 0] w fun e w' => e = .returned (.int .i64 (fg o 0)) ∧ w' = w := by
  have hA : bits .and .u64 ((o : Int) / 1152921504606846976) 15 = (o : Int) / 1152921504606846976 % 16 := and15 _ (by omega) (by omega)
  have hw : IntKind.i64.wrap ((o : Int) / 1152921504606846976 % 16) = (o : Int) / 1152921504606846976 % 16 := by rw [IntKind.wrap_i64]; omega
  go_enter Tryd.func67, Tryd.ntmps67
  go_wp2
  go_ret
  exact ⟨ret_int (by unfold fg; simp only [Nat.reduceMul, Nat.reduceSub, Nat.reducePow]; omega), rfl⟩
theorem figure_1 (o : Nat) (ho : o < 18446744073709551616) (w : World) : Calls Tryd.prog 67 #[.int .u64 o, .int .i64 1] w fun e w' => e = .returned (.int .i64 (fg o 1)) ∧ w' = w := by
  have hA : bits .and .u64 ((o : Int) / 72057594037927936) 15 = (o : Int) / 72057594037927936 % 16 := and15 _ (by omega) (by omega)
  have hw : IntKind.i64.wrap ((o : Int) / 72057594037927936 % 16) = (o : Int) / 72057594037927936 % 16 := by rw [IntKind.wrap_i64]; omega
  go_enter Tryd.func67, Tryd.ntmps67
  go_wp2
  go_ret
  exact ⟨ret_int (by unfold fg; simp only [Nat.reduceMul, Nat.reduceSub, Nat.reducePow]; omega), rfl⟩
theorem figure_2 (o : Nat) (ho : o < 18446744073709551616) (w : World) : Calls Tryd.prog 67 #[.int .u64 o, .int .i64 2] w fun e w' => e = .returned (.int .i64 (fg o 2)) ∧ w' = w := by
  have hA : bits .and .u64 ((o : Int) / 4503599627370496) 15 = (o : Int) / 4503599627370496 % 16 := and15 _ (by omega) (by omega)
  have hw : IntKind.i64.wrap ((o : Int) / 4503599627370496 % 16) = (o : Int) / 4503599627370496 % 16 := by rw [IntKind.wrap_i64]; omega
  go_enter Tryd.func67, Tryd.ntmps67
  go_wp2
  go_ret
  exact ⟨ret_int (by unfold fg; simp only [Nat.reduceMul, Nat.reduceSub, Nat.reducePow]; omega), rfl⟩
theorem figure_3 (o : Nat) (ho : o < 18446744073709551616) (w : World) : Calls Tryd.prog 67 #[.int .u64 o, .int .i64 3] w fun e w' => e = .returned (.int .i64 (fg o 3)) ∧ w' = w := by
  have hA : bits .and .u64 ((o : Int) / 281474976710656) 15 = (o : Int) / 281474976710656 % 16 := and15 _ (by omega) (by omega)
  have hw : IntKind.i64.wrap ((o : Int) / 281474976710656 % 16) = (o : Int) / 281474976710656 % 16 := by rw [IntKind.wrap_i64]; omega
  go_enter Tryd.func67, Tryd.ntmps67
  go_wp2
  go_ret
  exact ⟨ret_int (by unfold fg; simp only [Nat.reduceMul, Nat.reduceSub, Nat.reducePow]; omega), rfl⟩
theorem figure_4 (o : Nat) (ho : o < 18446744073709551616) (w : World) : Calls Tryd.prog 67 #[.int .u64 o, .int .i64 4] w fun e w' => e = .returned (.int .i64 (fg o 4)) ∧ w' = w := by
  have hA : bits .and .u64 ((o : Int) / 17592186044416) 15 = (o : Int) / 17592186044416 % 16 := and15 _ (by omega) (by omega)
  have hw : IntKind.i64.wrap ((o : Int) / 17592186044416 % 16) = (o : Int) / 17592186044416 % 16 := by rw [IntKind.wrap_i64]; omega
  go_enter Tryd.func67, Tryd.ntmps67
  go_wp2
  go_ret
  exact ⟨ret_int (by unfold fg; simp only [Nat.reduceMul, Nat.reduceSub, Nat.reducePow]; omega), rfl⟩
theorem figure_5 (o : Nat) (ho : o < 18446744073709551616) (w : World) : Calls Tryd.prog 67 #[.int .u64 o, .int .i64 5] w fun e w' => e = .returned (.int .i64 (fg o 5)) ∧ w' = w := by
  have hA : bits .and .u64 ((o : Int) / 1099511627776) 15 = (o : Int) / 1099511627776 % 16 := and15 _ (by omega) (by omega)
  have hw : IntKind.i64.wrap ((o : Int) / 1099511627776 % 16) = (o : Int) / 1099511627776 % 16 := by rw [IntKind.wrap_i64]; omega
  go_enter Tryd.func67, Tryd.ntmps67
  go_wp2
  go_ret
  exact ⟨ret_int (by unfold fg; simp only [Nat.reduceMul, Nat.reduceSub, Nat.reducePow]; omega), rfl⟩
theorem figure_6 (o : Nat) (ho : o < 18446744073709551616) (w : World) : Calls Tryd.prog 67 #[.int .u64 o, .int .i64 6] w fun e w' => e = .returned (.int .i64 (fg o 6)) ∧ w' = w := by
  have hA : bits .and .u64 ((o : Int) / 68719476736) 15 = (o : Int) / 68719476736 % 16 := and15 _ (by omega) (by omega)
  have hw : IntKind.i64.wrap ((o : Int) / 68719476736 % 16) = (o : Int) / 68719476736 % 16 := by rw [IntKind.wrap_i64]; omega
  go_enter Tryd.func67, Tryd.ntmps67
  go_wp2
  go_ret
  exact ⟨ret_int (by unfold fg; simp only [Nat.reduceMul, Nat.reduceSub, Nat.reducePow]; omega), rfl⟩
theorem figure_7 (o : Nat) (ho : o < 18446744073709551616) (w : World) : Calls Tryd.prog 67 #[.int .u64 o, .int .i64 7] w fun e w' => e = .returned (.int .i64 (fg o 7)) ∧ w' = w := by
  have hA : bits .and .u64 ((o : Int) / 4294967296) 15 = (o : Int) / 4294967296 % 16 := and15 _ (by omega) (by omega)
  have hw : IntKind.i64.wrap ((o : Int) / 4294967296 % 16) = (o : Int) / 4294967296 % 16 := by rw [IntKind.wrap_i64]; omega
  go_enter Tryd.func67, Tryd.ntmps67
  go_wp2
  go_ret
  exact ⟨ret_int (by unfold fg; simp only [Nat.reduceMul, Nat.reduceSub, Nat.reducePow]; omega), rfl⟩
theorem figure_8 (o : Nat) (ho : o < 18446744073709551616) (w : World) : Calls Tryd.prog 67 #[.int .u64 o, .int .i64 8] w fun e w' => e = .returned (.int .i64 (fg o 8)) ∧ w' = w := by
  have hA : bits .and .u64 ((o : Int) / 268435456) 15 = (o : Int) / 268435456 % 16 := and15 _ (by omega) (by omega)
  have hw : IntKind.i64.wrap ((o : Int) / 268435456 % 16) = (o : Int) / 268435456 % 16 := by rw [IntKind.wrap_i64]; omega
  go_enter Tryd.func67, Tryd.ntmps67
  go_wp2
  go_ret
  exact ⟨ret_int (by unfold fg; simp only [Nat.reduceMul, Nat.reduceSub, Nat.reducePow]; omega), rfl⟩
theorem figure_9 (o : Nat) (ho : o < 18446744073709551616) (w : World) : Calls Tryd.prog 67 #[.int .u64 o, .int .i64 9] w fun e w' => e = .returned (.int .i64 (fg o 9)) ∧ w' = w := by
  have hA : bits .and .u64 ((o : Int) / 16777216) 15 = (o : Int) / 16777216 % 16 := and15 _ (by omega) (by omega)
  have hw : IntKind.i64.wrap ((o : Int) / 16777216 % 16) = (o : Int) / 16777216 % 16 := by rw [IntKind.wrap_i64]; omega
  go_enter Tryd.func67, Tryd.ntmps67
  go_wp2
  go_ret
  exact ⟨ret_int (by unfold fg; simp only [Nat.reduceMul, Nat.reduceSub, Nat.reducePow]; omega), rfl⟩
theorem figure_10 (o : Nat) (ho : o < 18446744073709551616) (w : World) : Calls Tryd.prog 67 #[.int .u64 o, .int .i64 10] w fun e w' => e = .returned (.int .i64 (fg o 10)) ∧ w' = w := by
  have hA : bits .and .u64 ((o : Int) / 1048576) 15 = (o : Int) / 1048576 % 16 := and15 _ (by omega) (by omega)
  have hw : IntKind.i64.wrap ((o : Int) / 1048576 % 16) = (o : Int) / 1048576 % 16 := by rw [IntKind.wrap_i64]; omega
  go_enter Tryd.func67, Tryd.ntmps67
  go_wp2
  go_ret
  exact ⟨ret_int (by unfold fg; simp only [Nat.reduceMul, Nat.reduceSub, Nat.reducePow]; omega), rfl⟩
theorem figure_11 (o : Nat) (ho : o < 18446744073709551616) (w : World) : Calls Tryd.prog 67 #[.int .u64 o, .int .i64 11] w fun e w' => e = .returned (.int .i64 (fg o 11)) ∧ w' = w := by
  have hA : bits .and .u64 ((o : Int) / 65536) 15 = (o : Int) / 65536 % 16 := and15 _ (by omega) (by omega)
  have hw : IntKind.i64.wrap ((o : Int) / 65536 % 16) = (o : Int) / 65536 % 16 := by rw [IntKind.wrap_i64]; omega
  go_enter Tryd.func67, Tryd.ntmps67
  go_wp2
  go_ret
  exact ⟨ret_int (by unfold fg; simp only [Nat.reduceMul, Nat.reduceSub, Nat.reducePow]; omega), rfl⟩
theorem figure_12 (o : Nat) (ho : o < 18446744073709551616) (w : World) : Calls Tryd.prog 67 #[.int .u64 o, .int .i64 12] w fun e w' => e = .returned (.int .i64 (fg o 12)) ∧ w' = w := by
  have hA : bits .and .u64 ((o : Int) / 4096) 15 = (o : Int) / 4096 % 16 := and15 _ (by omega) (by omega)
  have hw : IntKind.i64.wrap ((o : Int) / 4096 % 16) = (o : Int) / 4096 % 16 := by rw [IntKind.wrap_i64]; omega
  go_enter Tryd.func67, Tryd.ntmps67
  go_wp2
  go_ret
  exact ⟨ret_int (by unfold fg; simp only [Nat.reduceMul, Nat.reduceSub, Nat.reducePow]; omega), rfl⟩
theorem figure_13 (o : Nat) (ho : o < 18446744073709551616) (w : World) : Calls Tryd.prog 67 #[.int .u64 o, .int .i64 13] w fun e w' => e = .returned (.int .i64 (fg o 13)) ∧ w' = w := by
  have hA : bits .and .u64 ((o : Int) / 256) 15 = (o : Int) / 256 % 16 := and15 _ (by omega) (by omega)
  have hw : IntKind.i64.wrap ((o : Int) / 256 % 16) = (o : Int) / 256 % 16 := by rw [IntKind.wrap_i64]; omega
  go_enter Tryd.func67, Tryd.ntmps67
  go_wp2
  go_ret
  exact ⟨ret_int (by unfold fg; simp only [Nat.reduceMul, Nat.reduceSub, Nat.reducePow]; omega), rfl⟩
theorem figure_14 (o : Nat) (ho : o < 18446744073709551616) (w : World) : Calls Tryd.prog 67 #[.int .u64 o, .int .i64 14] w fun e w' => e = .returned (.int .i64 (fg o 14)) ∧ w' = w := by
  have hA : bits .and .u64 ((o : Int) / 16) 15 = (o : Int) / 16 % 16 := and15 _ (by omega) (by omega)
  have hw : IntKind.i64.wrap ((o : Int) / 16 % 16) = (o : Int) / 16 % 16 := by rw [IntKind.wrap_i64]; omega
  go_enter Tryd.func67, Tryd.ntmps67
  go_wp2
  go_ret
  exact ⟨ret_int (by unfold fg; simp only [Nat.reduceMul, Nat.reduceSub, Nat.reducePow]; omega), rfl⟩
theorem figure_15 (o : Nat) (ho : o < 18446744073709551616) (w : World) : Calls Tryd.prog 67 #[.int .u64 o, .int .i64 15] w fun e w' => e = .returned (.int .i64 (fg o 15)) ∧ w' = w := by
  have hA : bits .and .u64 ((o : Int)) 15 = (o : Int) % 16 := and15 _ (by omega) (by omega)
  have hw : IntKind.i64.wrap ((o : Int) % 16) = (o : Int) % 16 := by rw [IntKind.wrap_i64]; omega
  go_enter Tryd.func67, Tryd.ntmps67
  go_wp2
  go_ret
  exact ⟨ret_int (by unfold fg; simp only [Nat.reduceMul, Nat.reduceSub, Nat.reducePow]; omega), rfl⟩
theorem figure_of (o i : Nat) (ho : o < 18446744073709551616) (hi : i < 16) (w : World) : Calls Tryd.prog 67 #[.int .u64 o, .int .i64 i] w fun e w' => e = .returned (.int .i64 (fg o i)) ∧ w' = w := by
  have hc : i = 0 ∨ i = 1 ∨ i = 2 ∨ i = 3 ∨ i = 4 ∨ i = 5 ∨ i = 6 ∨ i = 7 ∨ i = 8 ∨ i = 9 ∨ i = 10 ∨ i = 11 ∨ i = 12 ∨ i = 13 ∨ i = 14 ∨ i = 15 := by omega
  rcases hc with rfl | rfl | rfl | rfl | rfl | rfl | rfl | rfl | rfl | rfl | rfl | rfl | rfl | rfl | rfl | rfl
  · exact figure_0 o ho w
  · exact figure_1 o ho w
  · exact figure_2 o ho w
  · exact figure_3 o ho w
  · exact figure_4 o ho w
  · exact figure_5 o ho w
  · exact figure_6 o ho w
  · exact figure_7 o ho w
  · exact figure_8 o ho w
  · exact figure_9 o ho w
  · exact figure_10 o ho w
  · exact figure_11 o ho w
  · exact figure_12 o ho w
  · exact figure_13 o ho w
  · exact figure_14 o ho w
  · exact figure_15 o ho w
end Go.Proofs.YtihggfkenhkglaaDoor
namespace Go.Proofs.YtihggfkenhkglaaDoor
set_option maxRecDepth 100000
open Go.RowKit
set_option linter.unusedVariables false
attribute [local go_sem] ba_size ba_get ba_extract ba_append wrap_byte wrap_u64_byte take_drop_end wrap_u32_byte wv_get wv_getE wv_set wv_size
set_option maxHeartbeats 1000000 in
theorem words_any (B : List UInt8) (hB : B.length = 64) (w : World) :
    Calls Tryd.prog 64 #[.string ⟨B.toArray⟩] w fun e w' => e = .returned (.agg (wv (mp B 16))) ∧ Below w.heap.size w w' := by
  go_enter Tryd.func64, Tryd.ntmps64
  go_wp2
  go_loopw [7] (fun i wr => ∃ q c : Nat, q ≤ 16 ∧ c < 4 ∧ (q = 16 → c = 0) ∧ i = .int .i64 ((4 * q + c : Nat) : Int) ∧ Hid (Row wr w.heap.size 88 Z16) ∧ Hid (Row wr (w.heap.size + 1) 88 (mq B q c)) ∧ Hid (wr.heap.size = w.heap.size + 2) ∧ Below w.heap.size w wr) (fun i _ => 64 - (intOf i).toNat)
  case atStart =>
    refine ⟨0, 0, by omega, by omega, by omega, rfl, ?_, ?_, ?_, ((Below.refl _ _).alloc (Nat.le_refl _) _).alloc (by simp) _⟩
    · exact heap_alloc2_old w _ _
    · exact heap_alloc2_new w _ _
    · show _ = _
      simp
  case round =>
    obtain ⟨q, c, hq, hc, hqc, rfl, HR1, HR2, HS, hbw⟩ := hrel
    by_cases hlt : q < 16
    · have hl := mq_len B q c
      have c3 : wr.cell? ⟨w.heap.size + 1, q, none⟩ = some (.int .u32 (wdc B q c)) := by rw [HR2.out.cell q (by omega), at_eq, mq_at B q c hlt]
      have f3 := HR2.out.frozen q
      have hcc : c = 0 ∨ c = 1 ∨ c = 2 ∨ c = 3 := by omega
      have wq : IntKind.i64.wrap (q : Int) = q := by rw [IntKind.wrap_i64]; omega
      have iq : (q : Int) < 16 := by omega
      rcases hcc with rfl | rfl | rfl | rfl
      · have hk : 4 * (q : Int) < 64 := by omega
        have hp : (0 : Int) ≤ 4 * (q : Int) := by omega
        have tq : (4 * (q : Int)).tdiv 4 = q := by rw [Int.tdiv_eq_ediv_of_nonneg hp]; omega
        have tm : (4 * (q : Int)).tmod 4 = 0 := by rw [Int.tmod_eq_emod_of_nonneg hp]; omega
        have w8 : IntKind.i64.wrap 0 = 0 ∧ IntKind.i64.wrap 8 = 8 ∧ IntKind.i64.wrap 16 = 16 ∧ IntKind.i64.wrap 24 = 24 := by decide +kernel
        obtain ⟨w80, w81, w82, w83⟩ := w8
        have tn : (4 * (q : Int)).toNat = 4 * q := by omega
        have b0 := B[4 * q].toNat_lt
        have s0 : IntKind.u32.wrap ((B[4 * q].toNat : Int) * 1) = (B[4 * q].toNat : Int) * 1 := by rw [IntKind.wrap_u32']; omega
        go_wp2
        refine region_tail 14 (by kernel_rfl) (by kernel_rfl) ?_
        simp only [List.take_succ_cons, List.take_zero, List.drop_succ_cons, List.drop_zero]
        repeat still_step
        refine wpStill_nil ?_
        go_wp2
        go_roundw
        case rel =>
          have hv : bits .or .u32 (wdc B q 0) (B[4 * q].toNat : Int) = wdc B q 1 := by rw [bt_eq B _ (by omega)]; exact (wdc_step B q).1
          rw [hv]
          refine ⟨q, 1, by omega, by omega, by omega, by go_num, (HR1.out.other _ _ _ (by omega)).drew, ?_, ?_, (hbw.setCell (by simp) _).drew⟩
          · show Row _ _ _ ((mp B q).set q (wdc B q 1))
            rw [← mq_set B q 0]
            exact (HR2.out.set q _).drew
          · have := HS.out
            show _ = _
            simpa using this
        case measure => simp [intOf]; omega
      · have hk : 4 * (q : Int) + 1 < 64 := by omega
        have hp : (0 : Int) ≤ 4 * (q : Int) + 1 := by omega
        have tq : (4 * (q : Int) + 1).tdiv 4 = q := by rw [Int.tdiv_eq_ediv_of_nonneg hp]; omega
        have tm : (4 * (q : Int) + 1).tmod 4 = 1 := by rw [Int.tmod_eq_emod_of_nonneg hp]; omega
        have w8 : IntKind.i64.wrap 0 = 0 ∧ IntKind.i64.wrap 8 = 8 ∧ IntKind.i64.wrap 16 = 16 ∧ IntKind.i64.wrap 24 = 24 := by decide +kernel
        obtain ⟨w80, w81, w82, w83⟩ := w8
        have tn : (4 * (q : Int) + 1).toNat = 4 * q + 1 := by omega
        have b0 := B[4 * q + 1].toNat_lt
        have s0 : IntKind.u32.wrap ((B[4 * q + 1].toNat : Int) * 256) = (B[4 * q + 1].toNat : Int) * 256 := by rw [IntKind.wrap_u32']; omega
        go_wp2
        refine region_tail 14 (by kernel_rfl) (by kernel_rfl) ?_
        simp only [List.take_succ_cons, List.take_zero, List.drop_succ_cons, List.drop_zero]
        repeat still_step
        refine wpStill_nil ?_
        go_wp2
        go_roundw
        case rel =>
          have hv : bits .or .u32 (wdc B q 1) ((B[4 * q + 1].toNat : Int) * 256) = wdc B q 2 := by rw [bt_eq B _ (by omega)]; exact (wdc_step B q).2.1
          rw [hv]
          refine ⟨q, 2, by omega, by omega, by omega, by go_num, (HR1.out.other _ _ _ (by omega)).drew, ?_, ?_, (hbw.setCell (by simp) _).drew⟩
          · show Row _ _ _ ((mp B q).set q (wdc B q 2))
            rw [← mq_set B q 1]
            exact (HR2.out.set q _).drew
          · have := HS.out
            show _ = _
            simpa using this
        case measure => simp [intOf]; omega
      · have hk : 4 * (q : Int) + 2 < 64 := by omega
        have hp : (0 : Int) ≤ 4 * (q : Int) + 2 := by omega
        have tq : (4 * (q : Int) + 2).tdiv 4 = q := by rw [Int.tdiv_eq_ediv_of_nonneg hp]; omega
        have tm : (4 * (q : Int) + 2).tmod 4 = 2 := by rw [Int.tmod_eq_emod_of_nonneg hp]; omega
        have w8 : IntKind.i64.wrap 0 = 0 ∧ IntKind.i64.wrap 8 = 8 ∧ IntKind.i64.wrap 16 = 16 ∧ IntKind.i64.wrap 24 = 24 := by decide +kernel
        obtain ⟨w80, w81, w82, w83⟩ := w8
        have tn : (4 * (q : Int) + 2).toNat = 4 * q + 2 := by omega
        have b0 := B[4 * q + 2].toNat_lt
        have s0 : IntKind.u32.wrap ((B[4 * q + 2].toNat : Int) * 65536) = (B[4 * q + 2].toNat : Int) * 65536 := by rw [IntKind.wrap_u32']; omega
        go_wp2
        refine region_tail 14 (by kernel_rfl) (by kernel_rfl) ?_
        simp only [List.take_succ_cons, List.take_zero, List.drop_succ_cons, List.drop_zero]
        repeat still_step
        refine wpStill_nil ?_
        go_wp2
        go_roundw
        case rel =>
          have hv : bits .or .u32 (wdc B q 2) ((B[4 * q + 2].toNat : Int) * 65536) = wdc B q 3 := by rw [bt_eq B _ (by omega)]; exact (wdc_step B q).2.2.1
          rw [hv]
          refine ⟨q, 3, by omega, by omega, by omega, by go_num, (HR1.out.other _ _ _ (by omega)).drew, ?_, ?_, (hbw.setCell (by simp) _).drew⟩
          · show Row _ _ _ ((mp B q).set q (wdc B q 3))
            rw [← mq_set B q 2]
            exact (HR2.out.set q _).drew
          · have := HS.out
            show _ = _
            simpa using this
        case measure => simp [intOf]; omega
      · have hk : 4 * (q : Int) + 3 < 64 := by omega
        have hp : (0 : Int) ≤ 4 * (q : Int) + 3 := by omega
        have tq : (4 * (q : Int) + 3).tdiv 4 = q := by rw [Int.tdiv_eq_ediv_of_nonneg hp]; omega
        have tm : (4 * (q : Int) + 3).tmod 4 = 3 := by rw [Int.tmod_eq_emod_of_nonneg hp]; omega
        have w8 : IntKind.i64.wrap 0 = 0 ∧ IntKind.i64.wrap 8 = 8 ∧ IntKind.i64.wrap 16 = 16 ∧ IntKind.i64.wrap 24 = 24 := by decide +kernel
        obtain ⟨w80, w81, w82, w83⟩ := w8
        have tn : (4 * (q : Int) + 3).toNat = 4 * q + 3 := by omega
        have b0 := B[4 * q + 3].toNat_lt
        have s0 : IntKind.u32.wrap ((B[4 * q + 3].toNat : Int) * 16777216) = (B[4 * q + 3].toNat : Int) * 16777216 := by rw [IntKind.wrap_u32']; omega
        go_wp2
        refine region_tail 14 (by kernel_rfl) (by kernel_rfl) ?_
        simp only [List.take_succ_cons, List.take_zero, List.drop_succ_cons, List.drop_zero]
        repeat still_step
        refine wpStill_nil ?_
        go_wp2
        go_roundw
        case rel =>
          have hv : bits .or .u32 (wdc B q 3) ((B[4 * q + 3].toNat : Int) * 16777216) = wd B q := by rw [bt_eq B _ (by omega)]; exact (wdc_step B q).2.2.2
          rw [hv]
          refine ⟨q + 1, 0, by omega, by omega, by omega, by go_num, (HR1.out.other _ _ _ (by omega)).drew, ?_, ?_, (hbw.setCell (by simp) _).drew⟩
          · rw [mq_zero, ← mp_set, ← mq_set B q 3]
            exact (HR2.out.set q _).drew
          · have := HS.out
            show _ = _
            simpa using this
        case measure => simp [intOf]; omega
    · obtain rfl : q = 16 := by omega
      obtain rfl : c = 0 := hqc rfl
      rw [mq_zero] at HR2
      have hsz : (Tryd.prog.info? 88).map (·.size) = some 16 := by kernel_rfl
      have r1 : wr.heap[w.heap.size]? = some (.cells (wv Z16) 88 (0, 0)) := HR1.out
      have r2 : wr.heap[w.heap.size + 1]? = some (.cells (wv (mp B 16)) 88 (0, 0)) := HR2.out
      go_wp2_with (first | (refine wpList_load_row rfl 88 _ rfl (w.heap.size + 1) rfl 88 (wv (mp B 16)) (0, 0) _ ?hg Tryd.underlying88 rfl ?hi ?_) | (refine wpList_store_row rfl 88 _ _ rfl w.heap.size (wv (mp B 16)) rfl rfl 88 (wv Z16) ?hg2 ?hi2 ?ho2 ?h12 ?_))
      case hi => simp [mp_len]
      case hi2 => simp [mp_len]
      case ho2 => simp [mp_len, Z16]
      case h12 => exact wv_one _
      refine bodyPost_ret (v := .agg (wv (mp B 16))) (results_cell_row Tryd.results64 _ _ w.heap.size 88 (wv (mp B 16)) (0, 0) _ rfl ?_ Tryd.underlying88 rfl ?_) rfl ⟨rfl, ?_⟩
      · exact setRow_heap _ _ _ _ _ _ r1
      · rw [hsz, wv_size, mp_len]
      · exact below_setRow hbw (Nat.le_refl _) _
end Go.Proofs.YtihggfkenhkglaaDoor
namespace Go.Proofs.YtihggfkenhkglaaDoor
set_option maxRecDepth 100000
open Go.RowKit
set_option linter.unusedVariables false
attribute [local go_sem] wv_get wv_getE wv_set wv_size
set_option maxRecDepth 100000 in
set_option maxHeartbeats 1000000 in
theorem spread_any (H : List Int) (hH : H.length = 8) (t : Nat) (ht : t < 18446744073709551616) (last : Bool) (w : World) (hG : G w) :
    Calls Tryd.prog 65 #[.agg (wv H), .int .u64 t, .bool last] w fun e w' => e = .returned (.agg (wv (spreadL H t last))) ∧ Below w.heap.size w w' := by
  have hHs : (wv H).size = 8 := by rw [wv_size, hH]
  go_enter Tryd.func65, Tryd.ntmps65
  go_wp2
  go_loopw [9] (fun i wr => ∃ k : Nat, k ≤ 8 ∧ i = .int .i64 k ∧ Hid (Row wr w.heap.size 67 H) ∧ Hid (Row wr (w.heap.size + 1) 88 Z16) ∧ Hid (Row wr (w.heap.size + 1 + 1) 88 (sp H k)) ∧ Hid (wr.heap.size = w.heap.size + 3) ∧ Below w.heap.size w wr) (fun i _ => 8 - (intOf i).toNat)
  case atStart =>
    refine ⟨0, by omega, rfl, ?_, ?_, ?_, ?_, (((Below.refl _ _).alloc (Nat.le_refl _) _).alloc (by simp) _).alloc (by simp; omega) _⟩
    · exact ((Row.new w H 67).alloc _).alloc _
    · exact (heap_alloc_old _ _ (by simp)).trans (heap_alloc2_new w _ _)
    · have h := heap_alloc_new ((w.alloc (.cells (wv H) 67)).alloc (.cells (wv Z16) 88)) (.cells (wv (sp H 0)) 88)
      simp only [World.size_alloc] at h
      exact h
    · show _ = _
      simp
  case round =>
    obtain ⟨k, hk, rfl, HR1, HR2, HR3, HS, hbw⟩ := hrel
    by_cases hlt : k < 8
    · have i0 : (k : Int) < 8 := by omega
      have hGr : G wr := hG.below hbw hG.size
      have c0 := hGr.first k hlt
      have c1 : wr.cell? ⟨w.heap.size, k, none⟩ = some (.int .u32 (at_ H k)) := by rw [HR1.out.cell k (by omega), at_eq]
      have hl3 := sp_len H k
      have c3 : wr.cell? ⟨w.heap.size + 1 + 1, k, none⟩ = some (.int .u32 (at_ (sp H k) k)) := by rw [HR3.out.cell k (by omega), at_eq]
      have f3 := HR3.out.frozen k
      have c4 : wr.cell? ⟨w.heap.size + 1 + 1, k + 8, none⟩ = some (.int .u32 (at_ (sp H k) (k + 8))) := by rw [HR3.out.cell (k + 8) (by omega), at_eq]
      have f4 := HR3.out.frozen (k + 8)
      go_wp2
      go_roundw
      case rel =>
        refine ⟨k + 1, by omega, by go_num, (HR1.out.other _ _ _ (by omega)).other _ _ _ (by omega), (HR2.out.other _ _ _ (by omega)).other _ _ _ (by omega), ?_, ?_, (hbw.setCell (by simp; omega) _).setCell (by simp; omega) _⟩
        · rw [← sp_set H k hlt]
          exact (HR3.out.set k _).set (k + 8) _
        · have := HS.out
          show _ = _
          simpa using this
      case measure => simp [intOf]; omega
    · obtain rfl : k = 8 := by omega
      have hl3 := sp_len H 8
      have c12 : wr.cell? ⟨w.heap.size + 1 + 1, 12, none⟩ = some (.int .u32 (at_ (sp H 8) 12)) := by rw [HR3.out.cell 12 (by omega), at_eq]
      have c13 : wr.cell? ⟨w.heap.size + 1 + 1, 13, none⟩ = some (.int .u32 (at_ (sp H 8) 13)) := by rw [HR3.out.cell 13 (by omega), at_eq]
      have c14 : wr.cell? ⟨w.heap.size + 1 + 1, 14, none⟩ = some (.int .u32 (at_ (sp H 8) 14)) := by rw [HR3.out.cell 14 (by omega), at_eq]
      have f12 := HR3.out.frozen 12
      have f13 := HR3.out.frozen 13
      have f14 := HR3.out.frozen 14
      have hsz : (Tryd.prog.info? 88).map (·.size) = some 16 := by kernel_rfl
      cases last with
      | true =>
        obtain ⟨X, hX⟩ : ∃ X, (((sp H 8).set 12 (bits .xor .u32 (at_ (sp H 8) 12) ((t : Int) % 4294967296))).set 13 (bits .xor .u32 (at_ (sp H 8) 13) ((t : Int) / 4294967296))).set 14 (bits .xor .u32 IntKind.u32.max (at_ (sp H 8) 14)) = X := ⟨_, rfl⟩
        have hlX : X.length = 16 := by rw [← hX]; simp [sp_len]
        have hXs : spreadL H t true = X := by
          rw [← hX]
          unfold spreadL
          rw [if_pos rfl, xor_comm32 (at_ (sp H 8) 14)]
          rfl
        go_wp2_with (first | (refine wpList_load_row rfl 88 _ rfl (w.heap.size + 1 + 1) rfl 88 (wv X) (0, 0) _ ?hg Tryd.underlying88 rfl ?hi ?_) | (refine wpList_store_row rfl 88 _ _ rfl (w.heap.size + 1) (wv X) rfl rfl 88 (wv Z16) ?hg2 ?hi2 ?ho2 ?h12 ?_))
        case hg => rw [← hX]; exact ((HR3.out.set 12 _).set 13 _).set 14 _
        case hi => rw [hsz, wv_size, hlX]
        case hg2 => exact ((HR2.out.other _ _ _ (by omega)).other _ _ _ (by omega)).other _ _ _ (by omega)
        case hi2 => rw [hsz, wv_size, hlX]
        case ho2 => rw [wv_size, wv_size, hlX]; rfl
        case h12 => exact wv_one _
        refine bodyPost_ret (v := .agg (wv X)) (results_cell_row Tryd.results65 _ _ (w.heap.size + 1) 88 (wv X) (0, 0) _ rfl ?_ Tryd.underlying88 rfl ?_) rfl ⟨by first | rfl | rw [hXs], ?_⟩
        · exact setRow_heap _ _ _ _ _ _ (((HR2.out.other _ _ _ (by omega)).other _ _ _ (by omega)).other _ _ _ (by omega))
        · rw [hsz, wv_size, hlX]
        · exact below_setRow (((hbw.setCell (by simp; omega) _).setCell (by simp; omega) _).setCell (by simp; omega) _) (by omega) _
      | false =>
        obtain ⟨X, hX⟩ : ∃ X, ((sp H 8).set 12 (bits .xor .u32 (at_ (sp H 8) 12) ((t : Int) % 4294967296))).set 13 (bits .xor .u32 (at_ (sp H 8) 13) ((t : Int) / 4294967296)) = X := ⟨_, rfl⟩
        have hlX : X.length = 16 := by rw [← hX]; simp [sp_len]
        have hXs : spreadL H t false = X := by
          rw [← hX]
          rfl
        go_wp2_with (first | (refine wpList_load_row rfl 88 _ rfl (w.heap.size + 1 + 1) rfl 88 (wv X) (0, 0) _ ?hgF Tryd.underlying88 rfl ?hiF ?_) | (refine wpList_store_row rfl 88 _ _ rfl (w.heap.size + 1) (wv X) rfl rfl 88 (wv Z16) ?hg2F ?hi2F ?ho2F ?h12F ?_))
        case hgF => rw [← hX]; exact (HR3.out.set 12 _).set 13 _
        case hiF => rw [hsz, wv_size, hlX]
        case hg2F => exact (HR2.out.other _ _ _ (by omega)).other _ _ _ (by omega)
        case hi2F => rw [hsz, wv_size, hlX]
        case ho2F => rw [wv_size, wv_size, hlX]; rfl
        case h12F => exact wv_one _
        refine bodyPost_ret (v := .agg (wv X)) (results_cell_row Tryd.results65 _ _ (w.heap.size + 1) 88 (wv X) (0, 0) _ rfl ?_ Tryd.underlying88 rfl ?_) rfl ⟨by first | rfl | rw [hXs], ?_⟩
        · exact setRow_heap _ _ _ _ _ _ ((HR2.out.other _ _ _ (by omega)).other _ _ _ (by omega))
        · rw [hsz, wv_size, hlX]
        · exact below_setRow ((hbw.setCell (by simp; omega) _).setCell (by simp; omega) _) (by omega) _
end Go.Proofs.YtihggfkenhkglaaDoor
namespace Go.Proofs.YtihggfkenhkglaaDoor
set_option maxRecDepth 100000
open Go.RowKit
set_option linter.unusedVariables false
attribute [local go_sem] wv_get wv_getE wv_set wv_size
/-- How it begins, with a key of so many bytes. -/
def startL (k : Int) : List Int := firstL.set 0 (bits .xor .u32 (at_ firstL 0) (bits .xor .u32 16842784 (256 * k)))
theorem startL_len (k : Int) : (startL k).length = 8 := rfl
theorem psize8 : (Tryd.prog.info? 67).map (·.size) = some 8 := by kernel_rfl
set_option maxHeartbeats 1000000 in
theorem start_bad (k : Int) (hk : k < 0 ∨ 32 < k) (w : World) :
    Calls Tryd.prog 52 #[.int .i64 k] w fun e w' => e = .returned (.tuple #[.agg (wv Z8), .int .i64 1]) ∧ Below w.heap.size w w' := by
  rcases hk with hk | hk
  · go_enter Tryd.func52, Tryd.ntmps52
    go_wp2
    refine bodyPost_ret (v := .tuple #[.agg (wv Z8), .int .i64 1]) (results_row_tmp Tryd.results52 _ _ w.heap.size 67 (wv Z8) (0, 0) _ rfl ?_ Tryd.underlying67 rfl ?_) rfl ⟨rfl, ?_⟩
    · exact heap_alloc_new w _
    · rw [psize8, wv_size]; rfl
    · exact (Below.refl _ _).alloc (Nat.le_refl _) _
  · have h0 : ¬ k < 0 := by omega
    go_enter Tryd.func52, Tryd.ntmps52
    go_wp2
    refine bodyPost_ret (v := .tuple #[.agg (wv Z8), .int .i64 1]) (results_row_tmp Tryd.results52 _ _ w.heap.size 67 (wv Z8) (0, 0) _ rfl ?_ Tryd.underlying67 rfl ?_) rfl ⟨rfl, ?_⟩
    · exact heap_alloc_new w _
    · rw [psize8, wv_size]; rfl
    · exact (Below.refl _ _).alloc (Nat.le_refl _) _
set_option maxHeartbeats 1000000 in
theorem start_good (k : Int) (h0 : 0 ≤ k) (h1 : k ≤ 32) (w : World) (hG : G w) :
    Calls Tryd.prog 52 #[.int .i64 k] w fun e w' => e = .returned (.tuple #[.agg (wv (startL k)), .int .i64 0]) ∧ Below w.heap.size w w' := by
  have hg3 := hG.size
  obtain ⟨tg, hg⟩ := hG.g0
  go_enter Tryd.func52, Tryd.ntmps52
  go_upto_region 4 with (first | (refine wpList_load_row rfl 67 _ rfl 0 rfl tg (wv firstL) (0, 0) _ ?hg1 Tryd.underlying67 rfl ?hi1 ?_) | (refine wpList_store_row rfl 67 _ _ rfl (w.heap.size + 1) (wv firstL) rfl rfl 67 (wv Z8) ?hg2 ?hi2 ?ho2 ?h12 ?_))
  case hg1 => exact (heap_alloc_old w _ (by omega)).trans hg
  case hi1 => rw [psize8, wv_size]; rfl
  case hg2 => exact heap_alloc2_new w _ _
  case hi2 => rw [psize8, wv_size]; rfl
  case ho2 => rfl
  case h12 => exact wv_one _
  change Code.wp _ _ _ _ (((w.alloc (.cells (wv Z8) 67)).alloc (.cells (wv Z8) 67)).setRow (w.heap.size + 1) (wv firstL))
  obtain ⟨w2, hw2⟩ : ∃ w2, ((w.alloc (.cells (wv Z8) 67)).alloc (.cells (wv Z8) 67)).setRow (w.heap.size + 1) (wv firstL) = w2 := ⟨_, rfl⟩
  have hL2 : Row w2 (w.heap.size + 1) 67 firstL := by rw [← hw2]; exact setRow_heap _ _ _ _ _ _ (heap_alloc2_new w _ _)
  have hZ2 : Row w2 w.heap.size 67 Z8 := by rw [← hw2]; exact Row.setRow_other (V := Z8) (heap_alloc2_old w _ _) _ _ (by omega)
  have hbw2 : Below w.heap.size w w2 := by rw [← hw2]; exact below_setRow (((Below.refl _ _).alloc (Nat.le_refl _) _).alloc (by simp) _) (by omega) _
  rw [hw2]
  clear hw2
  have c0 : w2.cell? ⟨w.heap.size + 1, 0, none⟩ = some (.int .u32 (at_ firstL 0)) := by rw [hL2.cell 0 (by decide), at_eq]
  have f0 := hL2.frozen 0
  have x0 : IntKind.i64.wrap (256 * k) = 256 * k := by rw [IntKind.wrap_i64]; omega
  have x1 : IntKind.u32.wrap (256 * k) = 256 * k := by rw [IntKind.wrap_u32']; omega
  obtain ⟨R, hR⟩ : ∃ R, startL k = R := ⟨_, rfl⟩
  have lR : R.length = 8 := by rw [← hR]; rfl
  go_wp2_with (first | (refine wpList_load_row rfl 67 _ rfl (w.heap.size + 1) rfl 67 (wv R) (0, 0) _ ?hg3 Tryd.underlying67 rfl ?hi3 ?_) | (refine wpList_store_row rfl 67 _ _ rfl w.heap.size (wv R) rfl rfl 67 (wv Z8) ?hg4 ?hi4 ?ho4 ?h14 ?_))
  case hg3 => rw [← hR]; exact hL2.set 0 _
  case hi3 => rw [psize8, wv_size, lR]
  case hg4 => exact hZ2.other _ _ _ (by omega)
  case hi4 => rw [psize8, wv_size, lR]
  case ho4 => rw [wv_size, wv_size, lR]; rfl
  case h14 => exact wv_one _
  refine bodyPost_ret (v := .tuple #[.agg (wv R), .int .i64 0]) (results_row_tmp Tryd.results52 _ _ w.heap.size 67 (wv R) (0, 0) _ rfl ?_ Tryd.underlying67 rfl ?_) rfl ⟨by first | rfl | rw [hR], ?_⟩
  · exact setRow_heap _ _ _ _ _ _ (hZ2.other _ _ _ (by omega))
  · rw [psize8, wv_size, lR]
  · exact below_setRow (hbw2.setCell (by simp) _) (by omega) _
end Go.Proofs.YtihggfkenhkglaaDoor
namespace Go.Proofs.YtihggfkenhkglaaDoor
set_option maxRecDepth 100000
open Go.RowKit
set_option linter.unusedVariables false
def Z64 : List UInt8 := List.replicate 64 0
set_option maxHeartbeats 1000000 in
theorem fill_any (l : List UInt8) (hl : l.length ≤ 64) (w : World) :
    Calls Tryd.prog 54 #[.string ⟨l.toArray⟩] w fun e w' => e = .returned (.string ⟨(padL l).toArray⟩) ∧ Below w.heap.size w w' := by
  have hpad : l ++ Z64.drop l.length = padL l := by unfold Z64; rw [List.drop_replicate]; rfl
  have hb : (Tryd.prog.info? 5).map (·.size) = some 1 := by kernel_rfl
  go_enter Tryd.func54, Tryd.ntmps54
  go_upto_region 3 with (refine wpList_copy_str rfl _ _ 71 9 rfl 5 Tryd.underlying71 hb w.heap.size 64 64 rfl Z64 l rfl 93 (heap_alloc_new w _) hl ?h2 ?_)
  case h2 => exact hl
  change Code.wp _ _ _ _ ((w.alloc (.cells (bv Z64) 93)).setRow w.heap.size (bv (l ++ Z64.drop l.length)))
  rw [hpad]
  obtain ⟨w2, hw2⟩ : ∃ w2, (w.alloc (.cells (bv Z64) 93)).setRow w.heap.size (bv (padL l)) = w2 := ⟨_, rfl⟩
  have hrow : BRow w2 w.heap.size 93 (padL l) := by rw [← hw2]; exact setRow_heap _ _ _ _ _ _ (heap_alloc_new w _)
  have hbw : Below w.heap.size w w2 := by rw [← hw2]; exact below_setRow ((Below.refl _ _).alloc (Nat.le_refl _) _) (Nat.le_refl _) _
  have hconv := hrow.string (P := Tryd.prog) 71 5 9 (by kernel_rfl) (by kernel_rfl) (by kernel_rfl) 64 64 (padL_len l hl)
  rw [hw2]
  clear hw2
  go_wp2
  go_ret
  exact ⟨rfl, hbw⟩
end Go.Proofs.YtihggfkenhkglaaDoor
namespace Go.Proofs.YtihggfkenhkglaaDoor
set_option maxRecDepth 100000
open Go.RowKit
set_option linter.unusedVariables false
attribute [local go_sem] wv_get wv_getE wv_set wv_size
/-- The words as bytes, as far as they are laid. -/
def fl (H : List Int) (k : Nat) : List UInt8 := (List.range 32).map fun i => if i < k then UInt8.ofNat ((at_ H (i / 4) / 2 ^ (8 * (i % 4))) % 256).toNat else 0
theorem fl_len (H : List Int) (k : Nat) : (fl H k).length = 32 := by simp [fl]
theorem fl_set (H : List Int) (k : Nat) (x : UInt8) (hx : x = UInt8.ofNat ((at_ H (k / 4) / 2 ^ (8 * (k % 4))) % 256).toNat) : (fl H k).set k x = fl H (k + 1) := by
  subst hx
  apply List.ext_getElem
  · simp [fl]
  · intro i h1 h2
    simp only [List.getElem_set, fl, List.getElem_map, List.getElem_range]
    by_cases h : k = i
    · subst h; simp
    · rw [if_neg h]
      by_cases h3 : i < k
      · rw [if_pos h3, if_pos (by omega)]
      · rw [if_neg h3, if_neg (by omega)]
theorem byte_of (x : Int) : (Value.int .u8 (x % 256)) = .int .u8 ((UInt8.ofNat (x % 256).toNat).toNat : Int) := by
  congr 1
  simp; omega
set_option maxHeartbeats 1000000 in
theorem flat_any (H : List Int) (hH : H.length = 8) (w : World) :
    Calls Tryd.prog 61 #[.agg (wv H)] w fun e w' => e = .returned (.string ⟨(fl H 32).toArray⟩) ∧ Below w.heap.size w w' := by
  have hHs : (wv H).size = 8 := by rw [wv_size, hH]
  go_enter Tryd.func61, Tryd.ntmps61
  go_wp2
  go_loopw [5] (fun i wr => ∃ k : Nat, k ≤ 32 ∧ i = .int .i64 k ∧ Hid (Row wr w.heap.size 67 H) ∧ Hid (BRow wr (w.heap.size + 1) 105 (fl H k)) ∧ Below w.heap.size w wr) (fun i _ => 32 - (intOf i).toNat)
  case atStart =>
    refine ⟨0, by omega, rfl, ?_, ?_, ((Below.refl _ _).alloc (Nat.le_refl _) _).alloc (by simp) _⟩
    · exact heap_alloc2_old w _ _
    · exact heap_alloc2_new w _ _
  case round =>
    obtain ⟨k, hk, rfl, HR, HB, hbw⟩ := hrel
    by_cases hlt : k < 32
    · have i0 : (k : Int) < 32 := by omega
      have p0 : (0 : Int) ≤ k := by omega
      have lf := fl_len H k
      have q8 : k / 4 < 8 := by omega
      have c0 : wr.cell? ⟨w.heap.size, k / 4, none⟩ = some (.int .u32 (at_ H (k / 4))) := by rw [HR.out.cell _ (by omega), at_eq]
      obtain ⟨y, hy⟩ : ∃ y, at_ H (k / 4) = y := ⟨_, rfl⟩
      rw [hy] at c0
      have cB := HB.out.cell k (by omega)
      have fB := HB.out.frozen k
      go_wp2
      go_roundw
      case rel =>
        refine ⟨k + 1, by omega, by go_num, HR.out.other _ _ _ (by omega), ?_, hbw.setCell (by simp) _⟩
        rw [byte_of, ← fl_set H k _ (by rw [hy])]
        exact HB.out.set k _
      case measure => simp [intOf]; omega
    · obtain rfl : k = 32 := by omega
      have hconv := HB.out.string (P := Tryd.prog) 71 5 9 (by kernel_rfl) (by kernel_rfl) (by kernel_rfl) 32 32 (fl_len H 32)
      go_wp2
      go_ret
      exact ⟨rfl, hbw⟩
end Go.Proofs.YtihggfkenhkglaaDoor
