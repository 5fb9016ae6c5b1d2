/-
  What cartoucheref02.Start answers.
-/
import Derived.Test.YthdikknjabdfeaaDoorR2First
import Derived.Test.YthdikknjabdfeaaDoorP2Start
namespace Go.Proofs.YthdikknjabdfeaaDoor
open Go.RowKit
set_option linter.unusedVariables false
attribute [local go_sem] wv_get wv_getE wv_set wv_size
def fsp (k : Nat) : List Int := (List.range 8).map fun i => if i < k then at_ firstL i else 0
theorem fsp_len (k : Nat) : (fsp k).length = 8 := by simp [fsp]
theorem fsp_set (k : Nat) : (fsp k).set k (at_ firstL k) = fsp (k + 1) := by
  apply List.ext_getElem
  · simp [fsp]
  · intro i h1 h2
    simp only [List.getElem_set, fsp, List.getElem_map, List.getElem_range]
    by_cases h : k = i
    · subst h; simp
    · rw [if_neg h]
      by_cases h3 : i < k
      · rw [if_pos h3, if_pos (by omega)]
      · rw [if_neg h3, if_neg (by omega)]
theorem fsp_8 : fsp 8 = firstL := by decide
set_option maxHeartbeats 1000000 in
theorem rstart_bad (k : Int) (hk : k < 0 ∨ 32 < k) (w : World) :
    Calls Tryd.prog 13 #[.int .i64 k] w fun e w' => e = .returned (.tuple #[.agg (wv Z8), .int .i64 1]) ∧ Below w.heap.size w w' := by
  rcases hk with hk | hk
  · go_enter Tryd.func13, Tryd.ntmps13
    go_wp2
    refine bodyPost_ret (v := .tuple #[.agg (wv Z8), .int .i64 1]) (results_row_tmp Tryd.results13 _ _ w.heap.size 24 (wv Z8) (0, 0) _ rfl ?_ Tryd.underlying24 rfl ?_) rfl ⟨rfl, ?_⟩
    · exact heap_alloc2_old w _ _
    · rw [psize8, wv_size]; rfl
    · exact ((Below.refl _ _).alloc (Nat.le_refl _) _).alloc (by simp) _
  · have h0 : ¬ k < 0 := by omega
    go_enter Tryd.func13, Tryd.ntmps13
    go_wp2
    refine bodyPost_ret (v := .tuple #[.agg (wv Z8), .int .i64 1]) (results_row_tmp Tryd.results13 _ _ w.heap.size 24 (wv Z8) (0, 0) _ rfl ?_ Tryd.underlying24 rfl ?_) rfl ⟨rfl, ?_⟩
    · exact heap_alloc2_old w _ _
    · rw [psize8, wv_size]; rfl
    · exact ((Below.refl _ _).alloc (Nat.le_refl _) _).alloc (by simp) _
set_option maxHeartbeats 1000000 in
theorem rstart_good (k : Int) (h0 : 0 ≤ k) (h1 : k ≤ 32) (w : World) :
    Calls Tryd.prog 13 #[.int .i64 k] w fun e w' => e = .returned (.tuple #[.agg (wv (startL k)), .int .i64 0]) ∧ Below w.heap.size w w' := by
  go_enter Tryd.func13, Tryd.ntmps13
  go_wp2_with fail
  refine (first_any _).mono ?_
  rintro e w1 ⟨⟨g, rfl, hg, hrf⟩, hb1⟩
  have hs1 : w.heap.size + 2 ≤ g := by simpa using hg
  have hZ1 : Row w1 w.heap.size 24 Z8 := (hb1.block _ (by simp; omega)).trans (heap_alloc2_old w _ _)
  have hF1 : Row w1 (w.heap.size + 1) 24 (fsp 0) := (hb1.block _ (by simp)).trans (heap_alloc2_new w _ _)
  have hbw1 : Below w.heap.size w w1 := (((Below.refl _ _).alloc (Nat.le_refl _) _).alloc (by simp) _).trans (hb1.mono (by simp; omega))
  clear hb1
  go_wp2_with fail
  go_loopw [6] (fun i wr => ∃ j : Nat, j ≤ 8 ∧ i = .int .i64 j ∧ Hid (Row wr w.heap.size 24 Z8) ∧ Hid (Row wr (w.heap.size + 1) 24 (fsp j)) ∧ Hid (Row wr g 23 firstL) ∧ Below w.heap.size w wr) (fun i _ => 8 - (intOf i).toNat)
  case atStart => exact ⟨0, by omega, rfl, hZ1, hF1, hrf, hbw1⟩
  case round =>
    obtain ⟨j, hj, rfl, HZ, HF, HL, hbw⟩ := hrel
    by_cases hlt : j < 8
    · have i0 : (j : Int) < 8 := by omega
      have lf := fsp_len j
      have c0 : wr.cell? ⟨g, j, none⟩ = some (.int .u32 (at_ firstL j)) := by rw [HL.out.cell j (by simpa [firstL] using hlt), at_eq]
      have c1 := HF.out.cell j (by omega)
      have f1 := HF.out.frozen j
      go_wp2_with fail
      go_roundw
      case rel =>
        refine ⟨j + 1, by omega, by go_num, HZ.out.other _ _ _ (by omega), ?_, HL.out.other _ _ _ (by omega), hbw.setCell (by simp) _⟩
        rw [← fsp_set j]
        exact HF.out.set j _
      case measure => simp [intOf]; omega
    · obtain rfl : j = 8 := by omega
      have hL : Row wr (w.heap.size + 1) 24 firstL := by rw [← fsp_8]; exact HF.out
      have c0 : wr.cell? ⟨w.heap.size + 1, 0, none⟩ = some (.int .u32 (at_ firstL 0)) := by rw [hL.cell 0 (by decide), at_eq]
      have f0 := hL.frozen 0
      have x0 : IntKind.i64.wrap (256 * k) = 256 * k := by rw [IntKind.wrap_i64]; omega
      have x1 : IntKind.u32.wrap (256 * k) = 256 * k := by rw [IntKind.wrap_u32']; omega
      obtain ⟨R, hR⟩ : ∃ R, startL k = R := ⟨_, rfl⟩
      have lR : R.length = 8 := by rw [← hR]; rfl
      go_wp2_with (first | (refine wpList_load_row rfl 24 _ rfl (w.heap.size + 1) rfl 24 (wv R) (0, 0) _ ?hg3 Tryd.underlying24 rfl ?hi3 ?_) | (refine wpList_store_row rfl 24 _ _ rfl w.heap.size (wv R) rfl rfl 24 (wv Z8) ?hg4 ?hi4 ?ho4 ?h14 ?_))
      case hg3 => rw [← hR]; unfold startL; rw [← xor_assoc32]; exact hL.set 0 _
      case hi3 => rw [psize8, wv_size, lR]
      case hg4 => exact HZ.out.other _ _ _ (by omega)
      case hi4 => rw [psize8, wv_size, lR]
      case ho4 => rw [wv_size, wv_size, lR]; rfl
      case h14 => exact wv_one _
      refine bodyPost_ret (v := .tuple #[.agg (wv R), .int .i64 0]) (results_row_tmp Tryd.results13 _ _ w.heap.size 24 (wv R) (0, 0) _ rfl ?_ Tryd.underlying24 rfl ?_) rfl ⟨by first | rfl | rw [hR], ?_⟩
      · exact setRow_heap _ _ _ _ _ _ (HZ.out.other _ _ _ (by omega))
      · rw [psize8, wv_size, lR]
      · exact below_setRow (hbw.setCell (by simp) _) (by omega) _
end Go.Proofs.YthdikknjabdfeaaDoor
