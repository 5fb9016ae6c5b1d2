/-
  What cartoucheref02.Block answers.
-/
import Derived.Test.YthdikknjabdfeaaDoorR2BlockT
import Derived.Test.YthdikknjabdfeaaDoorR2BlockF
namespace Go.Proofs.YthdikknjabdfeaaDoor
open Go.RowKit
set_option linter.unusedVariables false
attribute [local go_sem] ba_size ba_get wv_get wv_getE wv_set wv_size
theorem rblock_good (H : List Int) (hH : H.length = 8) (B : List UInt8) (hB : B.length = 64) (t : Nat) (ht : t < 18446744073709551616) (last : Bool) (w : World) :
    Calls Tryd.prog 15 #[.agg (wv H), .string ⟨B.toArray⟩, .int .u64 t, .bool last] w fun e w' => e = .returned (.tuple #[.agg (wv (blockL H B t last)), .int .i64 0]) ∧ Below w.heap.size w w' := by
  cases last with
  | true => exact rblock_true H hH B hB t ht w
  | false => exact rblock_false H hH B hB t ht w
set_option maxRecDepth 100000 in
set_option maxHeartbeats 1000000 in
theorem rblock_bad (H : List Int) (hH : H.length = 8) (B : List UInt8) (hB : B.length ≠ 64) (t : Nat) (last : Bool) (w : World) :
    Calls Tryd.prog 15 #[.agg (wv H), .string ⟨B.toArray⟩, .int .u64 t, .bool last] w fun e w' => e = .returned (.tuple #[.agg (wv Z8), .int .i64 1]) ∧ Below w.heap.size w w' := by
  have hHs : (wv H).size = 8 := by rw [wv_size, hH]
  have hn : ((B.length : Int) != 64) = true := by simp; omega
  have hn2 : ¬ (B.length : Int) = 64 := by omega
  go_enter Tryd.func15, Tryd.ntmps15
  go_wp2_with fail
  refine bodyPost_ret (v := .tuple #[.agg (wv Z8), .int .i64 1]) (results_row_tmp Tryd.results15 _ _ (w.heap.size + 1) 24 (wv Z8) (0, 0) _ rfl ?_ Tryd.underlying24 rfl ?_) rfl ⟨rfl, ?_⟩
  · exact heap_alloc2_new w _ _
  · rw [rsize8_true, wv_size]; rfl
  · exact ((Below.refl _ _).alloc (Nat.le_refl _) _).alloc (by simp) _
end Go.Proofs.YthdikknjabdfeaaDoor
