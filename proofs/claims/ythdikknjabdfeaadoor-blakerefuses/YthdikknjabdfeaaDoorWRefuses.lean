/-
  The walk of BlakeRefuses.
-/
import Derived.Test.YthdikknjabdfeaaDoorShown2
namespace Go.Proofs.YthdikknjabdfeaaDoor
open Go.RowKit
set_option linter.unusedVariables false
attribute [local go_sem] ba_size wv_get wv_getE wv_set wv_size
set_option maxHeartbeats 400000 in
theorem refuses_walk (V : List Int) (lV : V.length = 8) (B : List UInt8) (T : Nat) (hT : T < 18446744073709551616) (k : Int) (w : World) (hG : G w) :
    Calls Tryd.prog 10 #[.agg #[.int .u32 (at_ V 0), .int .u32 (at_ V 1), .int .u32 (at_ V 2), .int .u32 (at_ V 3), .int .u32 (at_ V 4), .int .u32 (at_ V 5), .int .u32 (at_ V 6), .int .u32 (at_ V 7), .string ⟨B.toArray⟩, .int .u64 T, .int .i64 k]] w fun e w' => e = .returned (.bool true) ∧ Below w.heap.size w w' := by
  have hg3 := hG.size
  have E8 := wv8 V lV
  have hBl : ∃ R : List Int, ∃ eb : Int, R.length = 8 ∧ ((B.length = 64 ∧ eb = 0) ∨ (B.length ≠ 64 ∧ eb = 1)) ∧ ∀ w, G w → Calls Tryd.prog 14 #[.agg (wv V), .string ⟨B.toArray⟩, .int .u64 T, .bool true] w fun e w' => e = .returned (.tuple #[.agg (wv R), .int .i64 eb]) ∧ Below w.heap.size w w' := by
    by_cases hb : B.length = 64
    · exact ⟨blockL V B T true, 0, blockL_len _ _ _ _, Or.inl ⟨hb, rfl⟩, fun w h => block_good V lV B hb T hT true w h⟩
    · exact ⟨Z8, 1, rfl, Or.inr ⟨hb, rfl⟩, fun w h => block_bad V lV B hb T true w⟩
  have hSt : ∃ S : List Int, ∃ es : Int, S.length = 8 ∧ ((0 ≤ k ∧ k ≤ 32 ∧ es = 0) ∨ (k < 0 ∧ es = 1) ∨ (0 ≤ k ∧ 32 < k ∧ es = 1)) ∧ ∀ w, G w → Calls Tryd.prog 12 #[.int .i64 k] w fun e w' => e = .returned (.tuple #[.agg (wv S), .int .i64 es]) ∧ Below w.heap.size w w' := by
    by_cases h0 : k < 0
    · exact ⟨Z8, 1, rfl, Or.inr (Or.inl ⟨h0, rfl⟩), fun w _ => start_bad k (Or.inl h0) w⟩
    · by_cases h1 : 32 < k
      · exact ⟨Z8, 1, rfl, Or.inr (Or.inr ⟨by omega, h1, rfl⟩), fun w _ => start_bad k (Or.inr h1) w⟩
      · exact ⟨startL k, 0, rfl, Or.inl ⟨by omega, by omega, rfl⟩, fun w h => start_good k (by omega) (by omega) w h⟩
  obtain ⟨R, eb, lR, cB, hB⟩ := hBl
  obtain ⟨S, es, lS, cS, hS⟩ := hSt
  have hszR : (Tryd.prog.info? 24).map (·.size) = some (wv R).size := by rw [size8, wv_size, lR]
  have hszS : (Tryd.prog.info? 24).map (·.size) = some (wv S).size := by rw [size8, wv_size, lS]
  go_enter Tryd.func10, Tryd.ntmps10
  go_wp2_with fail
  have hb0 : Below w.heap.size w ((w.alloc (.cells #[.int .u32 (at_ V 0), .int .u32 (at_ V 1), .int .u32 (at_ V 2), .int .u32 (at_ V 3), .int .u32 (at_ V 4), .int .u32 (at_ V 5), .int .u32 (at_ V 6), .int .u32 (at_ V 7), .string ⟨B.toArray⟩, .int .u64 T, .int .i64 k] 45)).alloc (.cells #[.int .u32 (at_ V 0), .int .u32 (at_ V 1), .int .u32 (at_ V 2), .int .u32 (at_ V 3), .int .u32 (at_ V 4), .int .u32 (at_ V 5), .int .u32 (at_ V 6), .int .u32 (at_ V 7)] 24)) := ((Below.refl _ _).alloc (Nat.le_refl _) _).alloc (by simp) _
  refine (shown2 _ (hG.below hb0 hg3)).mono ?_
  rintro e w1 ⟨rfl, hb1⟩
  have hV1 : w1.heap[w.heap.size + 1]? = some (.cells (wv V) 24 (0, 0)) := by
    rw [E8]
    exact (hb1.block _ (by simp)).trans (heap_alloc2_new w _ _)
  have hbw1 : Below w.heap.size w w1 := bel_trans hb0 hb1
  have hszV : (Tryd.prog.info? 24).map (·.size) = some (wv V).size := by rw [size8, wv_size, lV]
  clear hb0 hb1 E8
  go_wp2_with (refine wpList_load_row rfl 24 _ rfl (w.heap.size + 1) rfl 24 (wv V) (0, 0) _ hV1 Tryd.underlying24 rfl hszV ?_)
  refine (hB w1 (hG.below hbw1 hg3)).mono ?_
  rintro e w2 ⟨rfl, hb2⟩
  have hbw2 := bel_trans hbw1 hb2
  go_upto_region 7 with (refine wpList_store_row rfl 24 _ _ rfl w2.heap.size (wv R) rfl rfl 24 (wv Z8) (heap_alloc_new w2 _) hszR (by rw [wv_size, wv_size, lR]; rfl) (wv_one _) ?_)
  change Code.wp _ _ _ _ ((w2.alloc (.cells (wv Z8) 24)).setRow w2.heap.size (wv R))
  obtain ⟨w3, hw3⟩ : ∃ w3, (w2.alloc (.cells (wv Z8) 24)).setRow w2.heap.size (wv R) = w3 := ⟨_, rfl⟩
  have hb3 : Below w.heap.size w w3 := by rw [← hw3]; exact below_setRow (hbw2.alloc hbw2.size _) hbw2.size _
  rw [hw3]
  clear hw3
  go_wp2_with fail
  refine (hS w3 (hG.below hb3 hg3)).mono ?_
  rintro e w4 ⟨rfl, hb4⟩
  have hbw4 := bel_trans hb3 hb4
  go_upto_region 8 with (refine wpList_store_row rfl 24 _ _ rfl w4.heap.size (wv S) rfl rfl 24 (wv Z8) (heap_alloc_new w4 _) hszS (by rw [wv_size, wv_size, lS]; rfl) (wv_one _) ?_)
  change Code.wp _ _ _ _ ((w4.alloc (.cells (wv Z8) 24)).setRow w4.heap.size (wv S))
  obtain ⟨w5, hw5⟩ : ∃ w5, (w4.alloc (.cells (wv Z8) 24)).setRow w4.heap.size (wv S) = w5 := ⟨_, rfl⟩
  have hb5 : Below w.heap.size w w5 := by rw [← hw5]; exact below_setRow (hbw4.alloc hbw4.size _) hbw4.size _
  rw [hw5]
  clear hw5 hB hS
  rcases cB with ⟨cb, rfl⟩ | ⟨cb, rfl⟩ <;> rcases cS with ⟨k0, k1, rfl⟩ | ⟨k0, rfl⟩ | ⟨k0, k1, rfl⟩
  · have q1 : ((B.length : Int) == 64) = true := by simp; omega
    go_wp2
    go_ret
    exact ⟨by first | (simp; done) | (simp; omega), hb5⟩
  · have q1 : ((B.length : Int) == 64) = true := by simp; omega
    go_wp2
    go_ret
    exact ⟨by first | (simp; done) | (simp; omega), hb5⟩
  · have q1 : ((B.length : Int) == 64) = true := by simp; omega
    go_wp2
    go_ret
    exact ⟨by first | (simp; done) | (simp; omega), hb5⟩
  · have q1 : ((B.length : Int) == 64) = false := by simp; omega
    go_wp2
    go_ret
    exact ⟨by first | (simp; done) | (simp; omega), hb5⟩
  · have q1 : ((B.length : Int) == 64) = false := by simp; omega
    go_wp2
    go_ret
    exact ⟨by first | (simp; done) | (simp; omega), hb5⟩
  · have q1 : ((B.length : Int) == 64) = false := by simp; omega
    go_wp2
    go_ret
    exact ⟨by first | (simp; done) | (simp; omega), hb5⟩
end Go.Proofs.YthdikknjabdfeaaDoor
