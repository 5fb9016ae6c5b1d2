/-
  What cartoucheref02.turn and cartoucheref02.mix answer.
-/
import Derived.Test.YthdikknjabdfeaaDoorProg
import Derived.Test.YthdikknjabdfeaaDoorWords
namespace Go.Proofs.YthdikknjabdfeaaDoor
open Go.RowKit
attribute [local go_sem] wv_get wv_getE wv_set wv_size
set_option maxHeartbeats 400000 in
theorem turn_16 (x : Int) (w : World) :
    Calls Tryd.prog 38 #[.int .u32 x, .int .u32 16] w fun e w' => e = .returned (.int .u32 (rot 65536 65536 x)) ∧ w' = w := by
  go_enter Tryd.func38, Tryd.ntmps38
  go_wp2
  go_ret
  exact ⟨rfl, rfl⟩
set_option maxHeartbeats 400000 in
theorem turn_12 (x : Int) (w : World) :
    Calls Tryd.prog 38 #[.int .u32 x, .int .u32 12] w fun e w' => e = .returned (.int .u32 (rot 4096 1048576 x)) ∧ w' = w := by
  go_enter Tryd.func38, Tryd.ntmps38
  go_wp2
  go_ret
  exact ⟨rfl, rfl⟩
set_option maxHeartbeats 400000 in
theorem turn_8 (x : Int) (w : World) :
    Calls Tryd.prog 38 #[.int .u32 x, .int .u32 8] w fun e w' => e = .returned (.int .u32 (rot 256 16777216 x)) ∧ w' = w := by
  go_enter Tryd.func38, Tryd.ntmps38
  go_wp2
  go_ret
  exact ⟨rfl, rfl⟩
set_option maxHeartbeats 400000 in
theorem turn_7 (x : Int) (w : World) :
    Calls Tryd.prog 38 #[.int .u32 x, .int .u32 7] w fun e w' => e = .returned (.int .u32 (rot 128 33554432 x)) ∧ w' = w := by
  go_enter Tryd.func38, Tryd.ntmps38
  go_wp2
  go_ret
  exact ⟨rfl, rfl⟩
set_option maxHeartbeats 2000000 in
theorem mix_any (V : List Int) (hV : V.length = 16) (a b c d : Nat) (ha : a < 16) (hb : b < 16) (hc : c < 16) (hd : d < 16) (x y : Int) (w : World) :
    Calls Tryd.prog 30 #[.agg (wv V), .int .i64 a, .int .i64 b, .int .i64 c, .int .i64 d, .int .u32 x, .int .u32 y] w fun e w' => e = .returned (.agg (wv (mixL V a b c d x y))) ∧ Below w.heap.size w w' := by
  have ia : (a : Int) < 16 := by omega
  have ib : (b : Int) < 16 := by omega
  have ic : (c : Int) < 16 := by omega
  have id' : (d : Int) < 16 := by omega
  go_enter Tryd.func30, Tryd.ntmps30
  have hl0 := hV
  go_wp2
  refine region_tail 11 (by kernel_rfl) (by kernel_rfl) ?_
  simp only [List.take_succ_cons, List.take_zero, List.drop_succ_cons, List.drop_zero]
  repeat still_step
  refine wpStill_nil ?_
  go_wp2
  obtain ⟨V1, hV1⟩ : ∃ V1, V.set a (((V[a] + V[b]) % 4294967296 + x) % 4294967296) = V1 := ⟨_, rfl⟩
  rw [hV1]
  have hl1 : V1.length = 16 := by rw [← hV1]; simpa using hl0
  have H1 : Hid (V1 = mx1 V a b x) := by rw [← hV1]; simp only [at_eq]; rfl
  clear hV1
  refine region_tail 10 (by kernel_rfl) (by kernel_rfl) ?_
  simp only [List.take_succ_cons, List.take_zero, List.drop_succ_cons, List.drop_zero]
  repeat still_step
  still_call (turn_16 _ _)
  repeat still_step
  refine wpStill_nil ?_
  go_wp2
  obtain ⟨V2, hV2⟩ : ∃ V2, V1.set d (rot 65536 65536 (bits BinOp.xor IntKind.u32 V1[d] V1[a])) = V2 := ⟨_, rfl⟩
  rw [hV2]
  have hl2 : V2.length = 16 := by rw [← hV2]; simpa using hl1
  have H2 : Hid (V2 = mx2 65536 65536 V1 d a) := by rw [← hV2]; simp only [at_eq]; rfl
  clear hV2
  refine region_tail 9 (by kernel_rfl) (by kernel_rfl) ?_
  simp only [List.take_succ_cons, List.take_zero, List.drop_succ_cons, List.drop_zero]
  repeat still_step
  refine wpStill_nil ?_
  go_wp2
  obtain ⟨V3, hV3⟩ : ∃ V3, V2.set c ((V2[c] + V2[d]) % 4294967296) = V3 := ⟨_, rfl⟩
  rw [hV3]
  have hl3 : V3.length = 16 := by rw [← hV3]; simpa using hl2
  have H3 : Hid (V3 = mx3 V2 c d) := by rw [← hV3]; simp only [at_eq]; rfl
  clear hV3
  refine region_tail 10 (by kernel_rfl) (by kernel_rfl) ?_
  simp only [List.take_succ_cons, List.take_zero, List.drop_succ_cons, List.drop_zero]
  repeat still_step
  still_call (turn_12 _ _)
  repeat still_step
  refine wpStill_nil ?_
  go_wp2
  obtain ⟨V4, hV4⟩ : ∃ V4, V3.set b (rot 4096 1048576 (bits BinOp.xor IntKind.u32 V3[b] V3[c])) = V4 := ⟨_, rfl⟩
  rw [hV4]
  have hl4 : V4.length = 16 := by rw [← hV4]; simpa using hl3
  have H4 : Hid (V4 = mx2 4096 1048576 V3 b c) := by rw [← hV4]; simp only [at_eq]; rfl
  clear hV4
  refine region_tail 11 (by kernel_rfl) (by kernel_rfl) ?_
  simp only [List.take_succ_cons, List.take_zero, List.drop_succ_cons, List.drop_zero]
  repeat still_step
  refine wpStill_nil ?_
  go_wp2
  obtain ⟨V5, hV5⟩ : ∃ V5, V4.set a (((V4[a] + V4[b]) % 4294967296 + y) % 4294967296) = V5 := ⟨_, rfl⟩
  rw [hV5]
  have hl5 : V5.length = 16 := by rw [← hV5]; simpa using hl4
  have H5 : Hid (V5 = mx1 V4 a b y) := by rw [← hV5]; simp only [at_eq]; rfl
  clear hV5
  refine region_tail 10 (by kernel_rfl) (by kernel_rfl) ?_
  simp only [List.take_succ_cons, List.take_zero, List.drop_succ_cons, List.drop_zero]
  repeat still_step
  still_call (turn_8 _ _)
  repeat still_step
  refine wpStill_nil ?_
  go_wp2
  obtain ⟨V6, hV6⟩ : ∃ V6, V5.set d (rot 256 16777216 (bits BinOp.xor IntKind.u32 V5[d] V5[a])) = V6 := ⟨_, rfl⟩
  rw [hV6]
  have hl6 : V6.length = 16 := by rw [← hV6]; simpa using hl5
  have H6 : Hid (V6 = mx2 256 16777216 V5 d a) := by rw [← hV6]; simp only [at_eq]; rfl
  clear hV6
  refine region_tail 9 (by kernel_rfl) (by kernel_rfl) ?_
  simp only [List.take_succ_cons, List.take_zero, List.drop_succ_cons, List.drop_zero]
  repeat still_step
  refine wpStill_nil ?_
  go_wp2
  obtain ⟨V7, hV7⟩ : ∃ V7, V6.set c ((V6[c] + V6[d]) % 4294967296) = V7 := ⟨_, rfl⟩
  rw [hV7]
  have hl7 : V7.length = 16 := by rw [← hV7]; simpa using hl6
  have H7 : Hid (V7 = mx3 V6 c d) := by rw [← hV7]; simp only [at_eq]; rfl
  clear hV7
  refine region_tail 10 (by kernel_rfl) (by kernel_rfl) ?_
  simp only [List.take_succ_cons, List.take_zero, List.drop_succ_cons, List.drop_zero]
  repeat still_step
  still_call (turn_7 _ _)
  repeat still_step
  refine wpStill_nil ?_
  have hs8 : (V7.set b (rot 128 33554432 (bits BinOp.xor IntKind.u32 V7[b] V7[c]))).length = 16 := by simpa using hl7
  have hsz : (Tryd.prog.info? 49).map (·.size) = some 16 := by kernel_rfl
  obtain ⟨V8, hV8⟩ : ∃ V8, V7.set b (rot 128 33554432 (bits BinOp.xor IntKind.u32 V7[b] V7[c])) = V8 := ⟨_, rfl⟩
  go_wp2_with (first | (refine wpList_load_row rfl 49 _ rfl w.heap.size rfl 49 (wv V8) (0, 0) _ ?hg Tryd.underlying49 rfl ?hi ?_) | (refine wpList_store_row rfl 49 _ _ rfl (w.heap.size + 1) (wv V8) rfl rfl 49 #[Value.int IntKind.u32 0, Value.int IntKind.u32 0, Value.int IntKind.u32 0, Value.int IntKind.u32 0, Value.int IntKind.u32 0, Value.int IntKind.u32 0, Value.int IntKind.u32 0, Value.int IntKind.u32 0, Value.int IntKind.u32 0, Value.int IntKind.u32 0, Value.int IntKind.u32 0, Value.int IntKind.u32 0, Value.int IntKind.u32 0, Value.int IntKind.u32 0, Value.int IntKind.u32 0, Value.int IntKind.u32 0] ?hg2 ?hi2 ?ho2 ?h12 ?_))
  case hg => exact heap_alloc2_old w _ _
  case hi => rw [hsz, wv_size, ← hV8, hs8]
  case hg2 => exact heap_alloc2_new w _ _
  case hi2 => rw [hsz, wv_size, ← hV8, hs8]
  case ho2 => rw [wv_size, ← hV8, hs8]; rfl
  case h12 => exact wv_one V8
  have HR : Hid (V8 = mixL V a b c d x y) := by
    show V8 = _
    rw [← hV8]
    simp only [at_eq]
    unfold mixL
    rw [← H1.out, ← H2.out, ← H3.out, ← H4.out, ← H5.out, ← H6.out, ← H7.out]
    rfl
  refine bodyPost_ret (v := .agg (wv V8)) (results_cell_row Tryd.results30 _ _ (w.heap.size + 1) 49 (wv V8) (0, 0) _ rfl ?_ Tryd.underlying49 rfl ?_) rfl ⟨by rw [HR.out], ?_⟩
  · exact setRow_heap _ _ _ _ _ _ (heap_alloc2_new w _ _)
  · rw [hsz, wv_size, ← hV8, hs8]
  · exact below_setRow (Below.drew (Below.drew (Below.drew (Below.drew (Below.drew (Below.drew (Below.drew (Below.drew (((Below.refl _ _).alloc (Nat.le_refl _) _).alloc (by simp) _))))))))) (by omega) _
end Go.Proofs.YthdikknjabdfeaaDoor
