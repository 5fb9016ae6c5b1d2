/-
  What cartoucheref02.Keyed answers.
-/
import Derived.Test.YtihggfkenhkglaaDoorGF
import Derived.Test.YtihggfkenhkglaaDoorZP2Keyed
namespace Go.Proofs.YtihggfkenhkglaaDoor
set_option maxRecDepth 100000
open Go.RowKit
set_option linter.unusedVariables false
attribute [local go_sem] ba_size ba_get ba_extract ba_append take_drop_end wv_get wv_getE wv_set wv_size
set_option maxHeartbeats 1000000 in
theorem rkeyed_none (S : List UInt8) (w : World) :
    Calls Tryd.prog 25 #[.string ⟨#[]⟩, .string ⟨S.toArray⟩] w fun e w' => e = .returned (.tuple #[.string ⟨#[]⟩, .int .i64 1]) ∧ Below w.heap.size w w' := by
  go_enter Tryd.func25, Tryd.ntmps25
  go_wp2_with fail
  go_ret2
  exact ⟨rfl, Below.refl _ _⟩
set_option maxHeartbeats 1000000 in
theorem rkeyed_long (K S : List UInt8) (hK : 32 < K.length) (w : World) :
    Calls Tryd.prog 25 #[.string ⟨K.toArray⟩, .string ⟨S.toArray⟩] w fun e w' => e = .returned (.tuple #[.string ⟨#[]⟩, .int .i64 1]) ∧ Below w.heap.size w w' := by
  have i0 : ¬ (K.length : Int) < 1 := by omega
  have i1 : (32 : Int) < (K.length : Int) := by omega
  go_enter Tryd.func25, Tryd.ntmps25
  go_wp2_with fail
  go_ret2
  exact ⟨rfl, Below.refl _ _⟩
set_option maxHeartbeats 2000000 in
theorem rkeyed_good (K S : List UInt8) (h1 : 1 ≤ K.length) (h32 : K.length ≤ 32) (hS : S.length ≤ 9223372036854774000) (w : World) :
    Calls Tryd.prog 25 #[.string ⟨K.toArray⟩, .string ⟨S.toArray⟩] w fun e w' => e = .returned (.tuple #[.string ⟨(keyL K S).toArray⟩, .int .i64 0]) ∧ Below w.heap.size w w' := by
  have i0 : ¬ (K.length : Int) < 1 := by omega
  have i1 : ¬ (32 : Int) < (K.length : Int) := by omega
  have hK64 : K.length ≤ 64 := by omega
  have lsum : 64 + S.length ≤ 9223372036854775807 := by omega
  have hs := rstart_good (K.length : Int) (by omega) (by omega) w
  have lp := padL_len K hK64
  have hF0 := fun H lH w1 => rall_any H lH (padL K ++ S) (by rw [List.length_append]; omega) w1
  have lH : (startL K.length).length = 8 := rfl
  have hkey : keyL K S = fl (foldL (startL K.length) (padL K ++ S)) 32 := rfl
  obtain ⟨H, hH⟩ : ∃ H, startL K.length = H := ⟨_, rfl⟩
  rw [hH] at hs lH hkey
  have hF : ∀ w1, Calls Tryd.prog 38 #[.agg #[.int .u32 (at_ H 0), .int .u32 (at_ H 1), .int .u32 (at_ H 2), .int .u32 (at_ H 3), .int .u32 (at_ H 4), .int .u32 (at_ H 5), .int .u32 (at_ H 6), .int .u32 (at_ H 7)], .string ⟨(padL K ++ S).toArray⟩] w1 fun e w' => e = .returned (.string ⟨(keyL K S).toArray⟩) ∧ Below w1.heap.size w1 w' := fun w1 => by
    have h' := hF0 H lH w1
    rw [rwv8 H lH, ← hkey] at h'
    exact h'
  clear hF0 hkey hH
  obtain ⟨D, hD⟩ : ∃ D, keyL K S = D := ⟨_, rfl⟩
  rw [hD] at hF ⊢
  clear hD
  have hsz : (Tryd.prog.info? 67).map (·.size) = some (wv H).size := by rw [rsize8_true, wv_size, lH]
  go_enter Tryd.func25, Tryd.ntmps25
  go_wp2_with fail
  refine hs.mono ?_
  rintro e w1 ⟨rfl, hb1⟩
  go_upto_region 4 with (refine wpList_store_row rfl 67 _ _ rfl w1.heap.size (wv H) rfl rfl 67 (wv Z8) (heap_alloc_new w1 _) hsz (by rw [wv_size, wv_size, lH]; rfl) (wv_one _) ?_)
  change Code.wp _ _ _ _ ((w1.alloc (.cells (wv Z8) 67)).setRow w1.heap.size (wv H))
  obtain ⟨w3, hw3⟩ : ∃ w3, (w1.alloc (.cells (wv Z8) 67)).setRow w1.heap.size (wv H) = w3 := ⟨_, rfl⟩
  have hR3 : Row w3 w1.heap.size 67 H := by rw [← hw3]; exact setRow_heap _ _ _ _ _ _ (heap_alloc_new w1 _)
  have hbw3 : Below w.heap.size w w3 := by rw [← hw3]; exact below_setRow (hb1.alloc hb1.size _) hb1.size _
  rw [hw3]
  clear hw3
  have hgs := hb1.size
  obtain ⟨gh, hgh⟩ : ∃ gh, w1.heap.size = gh := ⟨_, rfl⟩
  rw [hgh] at hR3 hgs
  simp only [hgh]
  clear hb1 hgh hs
  go_wp2_with fail
  refine wp_region_any (by kernel_rfl) ?_
  change wpAny _ _ _ _ _ _ _ (World.drew _)
  refine wpAny_take (i := 1) (v := .string ⟨K.toArray⟩) rfl (by kernel_rfl) (by kernel_rfl) (by kernel_rfl) (fun _ _ _ h => h) (Or.inl ⟨by rfl, fun w => by go_simp⟩) ?_
  refine wpAny_take (i := 3) (v := .string ⟨S.toArray⟩) rfl (by kernel_rfl) (by kernel_rfl) (by kernel_rfl) (fun _ _ _ h => h) (Or.inl ⟨by rfl, fun w => by go_simp⟩) ?_
  have c0 : (w3).cell? ⟨gh, 0, none⟩ = some (.int .u32 (at_ H 0)) := by rw [(hR3).cell 0 (by omega), at_eq]
  have c1 : (w3).cell? ⟨gh, 1, none⟩ = some (.int .u32 (at_ H 1)) := by rw [(hR3).cell 1 (by omega), at_eq]
  have c2 : (w3).cell? ⟨gh, 2, none⟩ = some (.int .u32 (at_ H 2)) := by rw [(hR3).cell 2 (by omega), at_eq]
  have c3 : (w3).cell? ⟨gh, 3, none⟩ = some (.int .u32 (at_ H 3)) := by rw [(hR3).cell 3 (by omega), at_eq]
  have c4 : (w3).cell? ⟨gh, 4, none⟩ = some (.int .u32 (at_ H 4)) := by rw [(hR3).cell 4 (by omega), at_eq]
  have c5 : (w3).cell? ⟨gh, 5, none⟩ = some (.int .u32 (at_ H 5)) := by rw [(hR3).cell 5 (by omega), at_eq]
  have c6 : (w3).cell? ⟨gh, 6, none⟩ = some (.int .u32 (at_ H 6)) := by rw [(hR3).cell 6 (by omega), at_eq]
  have c7 : (w3).cell? ⟨gh, 7, none⟩ = some (.int .u32 (at_ H 7)) := by rw [(hR3).cell 7 (by omega), at_eq]
  refine wpAny_ready (rs := [0, 2]) (by kernel_rfl) (by simp) ?_
  refine AllReady.cons rfl (fun K' hK => ?_) ?_
  · go_simp
    refine hK _ _ ?_
    clear hK K'
    refine wpAny_ready (rs := [2]) (by kernel_rfl) (by simp) ?_
    refine AllReady.cons rfl (fun K' hK => ?_) AllReady.nil
    go_simp
    refine (rpad_any K hK64 _).mono ?_
    rintro e w4 ⟨rfl, hb4⟩
    have hR4 : Row w4 gh 67 H := (hb4.block _ (Row.lt hR3)).trans hR3
    have hbw4 : Below w.heap.size w w4 := hbw3.drew.trans (hb4.mono hbw3.size)
    refine hK _ _ ?_
    clear hK K'
    refine wpAny_take (i := 4) (v := .string ⟨(padL K ++ S).toArray⟩) rfl (by kernel_rfl) (by kernel_rfl) (by kernel_rfl) (fun _ _ _ h => h) (Or.inl ⟨by rfl, fun w => by go_simp⟩) ?_
    refine wpAny_ready (rs := [5]) (by kernel_rfl) (by simp) ?_
    refine AllReady.cons rfl (fun K' hK => ?_) AllReady.nil
    go_simp
    refine (hF w4).mono ?_
    rintro e w5 ⟨rfl, hb5⟩
    refine hK _ _ ?_
    clear hK K'
    refine any_seqI [6, 7] [_, _] _ _ _ rfl (by kernel_rfl) ?_
    go_wp2_with fail
    go_ret2
    exact ⟨rfl, bel_trans hbw4 hb5⟩
  · refine AllReady.cons rfl (fun K' hK => ?_) AllReady.nil
    go_simp
    refine (rpad_any K hK64 _).mono ?_
    rintro e w4 ⟨rfl, hb4⟩
    have hR4 : Row w4 gh 67 H := (hb4.block _ (Row.lt hR3)).trans hR3
    have hbw4 : Below w.heap.size w w4 := hbw3.drew.trans (hb4.mono hbw3.size)
    have d0 : (w4).cell? ⟨gh, 0, none⟩ = some (.int .u32 (at_ H 0)) := by rw [(hR4).cell 0 (by omega), at_eq]
    have d1 : (w4).cell? ⟨gh, 1, none⟩ = some (.int .u32 (at_ H 1)) := by rw [(hR4).cell 1 (by omega), at_eq]
    have d2 : (w4).cell? ⟨gh, 2, none⟩ = some (.int .u32 (at_ H 2)) := by rw [(hR4).cell 2 (by omega), at_eq]
    have d3 : (w4).cell? ⟨gh, 3, none⟩ = some (.int .u32 (at_ H 3)) := by rw [(hR4).cell 3 (by omega), at_eq]
    have d4 : (w4).cell? ⟨gh, 4, none⟩ = some (.int .u32 (at_ H 4)) := by rw [(hR4).cell 4 (by omega), at_eq]
    have d5 : (w4).cell? ⟨gh, 5, none⟩ = some (.int .u32 (at_ H 5)) := by rw [(hR4).cell 5 (by omega), at_eq]
    have d6 : (w4).cell? ⟨gh, 6, none⟩ = some (.int .u32 (at_ H 6)) := by rw [(hR4).cell 6 (by omega), at_eq]
    have d7 : (w4).cell? ⟨gh, 7, none⟩ = some (.int .u32 (at_ H 7)) := by rw [(hR4).cell 7 (by omega), at_eq]
    refine hK _ _ ?_
    clear hK K'
    refine wpAny_take (i := 4) (v := .string ⟨(padL K ++ S).toArray⟩) rfl (by kernel_rfl) (by kernel_rfl) (by kernel_rfl) (fun _ _ _ h => h) (Or.inl ⟨by rfl, fun w => by go_simp⟩) ?_
    refine wpAny_ready (rs := [0]) (by kernel_rfl) (by simp) ?_
    refine AllReady.cons rfl (fun K' hK => ?_) AllReady.nil
    go_simp
    refine hK _ _ ?_
    clear hK K'
    refine wpAny_ready (rs := [5]) (by kernel_rfl) (by simp) ?_
    refine AllReady.cons rfl (fun K' hK => ?_) AllReady.nil
    go_simp
    refine (hF w4).mono ?_
    rintro e w5 ⟨rfl, hb5⟩
    refine hK _ _ ?_
    clear hK K'
    refine any_seqI [6, 7] [_, _] _ _ _ rfl (by kernel_rfl) ?_
    go_wp2_with fail
    go_ret2
    exact ⟨rfl, bel_trans hbw4 hb5⟩
end Go.Proofs.YtihggfkenhkglaaDoor
