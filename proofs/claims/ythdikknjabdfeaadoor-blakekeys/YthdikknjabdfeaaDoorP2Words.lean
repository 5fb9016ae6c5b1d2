/-
  What blake.words answers.
-/
import Derived.Test.YthdikknjabdfeaaDoorProg
import Derived.Test.YthdikknjabdfeaaDoorWordsB
namespace Go.Proofs.YthdikknjabdfeaaDoor
open Go.RowKit
set_option linter.unusedVariables false
attribute [local go_sem] ba_size ba_get ba_extract ba_append wrap_byte wrap_u64_byte take_drop_end wrap_u32_byte wv_get wv_getE wv_set wv_size
set_option maxHeartbeats 1000000 in
theorem words_any (B : List UInt8) (hB : B.length = 64) (w : World) :
    Calls Tryd.prog 23 #[.string ⟨B.toArray⟩] w fun e w' => e = .returned (.agg (wv (mp B 16))) ∧ Below w.heap.size w w' := by
  go_enter Tryd.func23, Tryd.ntmps23
  go_wp2
  go_loopw [7] (fun i wr => ∃ q c : Nat, q ≤ 16 ∧ c < 4 ∧ (q = 16 → c = 0) ∧ i = .int .i64 ((4 * q + c : Nat) : Int) ∧ Hid (Row wr w.heap.size 49 Z16) ∧ Hid (Row wr (w.heap.size + 1) 49 (mq B q c)) ∧ Hid (wr.heap.size = w.heap.size + 2) ∧ Below w.heap.size w wr) (fun i _ => 64 - (intOf i).toNat)
  case atStart =>
    refine ⟨0, 0, by omega, by omega, by omega, rfl, ?_, ?_, ?_, ((Below.refl _ _).alloc (Nat.le_refl _) _).alloc (by simp) _⟩
    · exact heap_alloc2_old w _ _
    · exact heap_alloc2_new w _ _
    · show _ = _
      simp
  case round =>
    obtain ⟨q, c, hq, hc, hqc, rfl, HR1, HR2, HS, hbw⟩ := hrel
    by_cases hlt : q < 16
    · have hl := mq_len B q c
      have c3 : wr.cell? ⟨w.heap.size + 1, q, none⟩ = some (.int .u32 (wdc B q c)) := by rw [HR2.out.cell q (by omega), at_eq, mq_at B q c hlt]
      have f3 := HR2.out.frozen q
      have hcc : c = 0 ∨ c = 1 ∨ c = 2 ∨ c = 3 := by omega
      have wq : IntKind.i64.wrap (q : Int) = q := by rw [IntKind.wrap_i64]; omega
      have iq : (q : Int) < 16 := by omega
      rcases hcc with rfl | rfl | rfl | rfl
      · have hk : 4 * (q : Int) < 64 := by omega
        have hp : (0 : Int) ≤ 4 * (q : Int) := by omega
        have tq : (4 * (q : Int)).tdiv 4 = q := by rw [Int.tdiv_eq_ediv_of_nonneg hp]; omega
        have tm : (4 * (q : Int)).tmod 4 = 0 := by rw [Int.tmod_eq_emod_of_nonneg hp]; omega
        have w8 : IntKind.i64.wrap 0 = 0 ∧ IntKind.i64.wrap 8 = 8 ∧ IntKind.i64.wrap 16 = 16 ∧ IntKind.i64.wrap 24 = 24 := by decide +kernel
        obtain ⟨w80, w81, w82, w83⟩ := w8
        have tn : (4 * (q : Int)).toNat = 4 * q := by omega
        have b0 := B[4 * q].toNat_lt
        have s0 : IntKind.u32.wrap ((B[4 * q].toNat : Int) * 1) = (B[4 * q].toNat : Int) * 1 := by rw [IntKind.wrap_u32']; omega
        go_wp2
        refine region_tail 14 (by kernel_rfl) (by kernel_rfl) ?_
        simp only [List.take_succ_cons, List.take_zero, List.drop_succ_cons, List.drop_zero]
        repeat still_step
        refine wpStill_nil ?_
        go_wp2
        go_roundw
        case rel =>
          have hv : bits .or .u32 (wdc B q 0) (B[4 * q].toNat : Int) = wdc B q 1 := by rw [bt_eq B _ (by omega)]; exact (wdc_step B q).1
          rw [hv]
          refine ⟨q, 1, by omega, by omega, by omega, by go_num, (HR1.out.other _ _ _ (by omega)).drew, ?_, ?_, (hbw.setCell (by simp) _).drew⟩
          · show Row _ _ _ ((mp B q).set q (wdc B q 1))
            rw [← mq_set B q 0]
            exact (HR2.out.set q _).drew
          · have := HS.out
            show _ = _
            simpa using this
        case measure => simp [intOf]; omega
      · have hk : 4 * (q : Int) + 1 < 64 := by omega
        have hp : (0 : Int) ≤ 4 * (q : Int) + 1 := by omega
        have tq : (4 * (q : Int) + 1).tdiv 4 = q := by rw [Int.tdiv_eq_ediv_of_nonneg hp]; omega
        have tm : (4 * (q : Int) + 1).tmod 4 = 1 := by rw [Int.tmod_eq_emod_of_nonneg hp]; omega
        have w8 : IntKind.i64.wrap 0 = 0 ∧ IntKind.i64.wrap 8 = 8 ∧ IntKind.i64.wrap 16 = 16 ∧ IntKind.i64.wrap 24 = 24 := by decide +kernel
        obtain ⟨w80, w81, w82, w83⟩ := w8
        have tn : (4 * (q : Int) + 1).toNat = 4 * q + 1 := by omega
        have b0 := B[4 * q + 1].toNat_lt
        have s0 : IntKind.u32.wrap ((B[4 * q + 1].toNat : Int) * 256) = (B[4 * q + 1].toNat : Int) * 256 := by rw [IntKind.wrap_u32']; omega
        go_wp2
        refine region_tail 14 (by kernel_rfl) (by kernel_rfl) ?_
        simp only [List.take_succ_cons, List.take_zero, List.drop_succ_cons, List.drop_zero]
        repeat still_step
        refine wpStill_nil ?_
        go_wp2
        go_roundw
        case rel =>
          have hv : bits .or .u32 (wdc B q 1) ((B[4 * q + 1].toNat : Int) * 256) = wdc B q 2 := by rw [bt_eq B _ (by omega)]; exact (wdc_step B q).2.1
          rw [hv]
          refine ⟨q, 2, by omega, by omega, by omega, by go_num, (HR1.out.other _ _ _ (by omega)).drew, ?_, ?_, (hbw.setCell (by simp) _).drew⟩
          · show Row _ _ _ ((mp B q).set q (wdc B q 2))
            rw [← mq_set B q 1]
            exact (HR2.out.set q _).drew
          · have := HS.out
            show _ = _
            simpa using this
        case measure => simp [intOf]; omega
      · have hk : 4 * (q : Int) + 2 < 64 := by omega
        have hp : (0 : Int) ≤ 4 * (q : Int) + 2 := by omega
        have tq : (4 * (q : Int) + 2).tdiv 4 = q := by rw [Int.tdiv_eq_ediv_of_nonneg hp]; omega
        have tm : (4 * (q : Int) + 2).tmod 4 = 2 := by rw [Int.tmod_eq_emod_of_nonneg hp]; omega
        have w8 : IntKind.i64.wrap 0 = 0 ∧ IntKind.i64.wrap 8 = 8 ∧ IntKind.i64.wrap 16 = 16 ∧ IntKind.i64.wrap 24 = 24 := by decide +kernel
        obtain ⟨w80, w81, w82, w83⟩ := w8
        have tn : (4 * (q : Int) + 2).toNat = 4 * q + 2 := by omega
        have b0 := B[4 * q + 2].toNat_lt
        have s0 : IntKind.u32.wrap ((B[4 * q + 2].toNat : Int) * 65536) = (B[4 * q + 2].toNat : Int) * 65536 := by rw [IntKind.wrap_u32']; omega
        go_wp2
        refine region_tail 14 (by kernel_rfl) (by kernel_rfl) ?_
        simp only [List.take_succ_cons, List.take_zero, List.drop_succ_cons, List.drop_zero]
        repeat still_step
        refine wpStill_nil ?_
        go_wp2
        go_roundw
        case rel =>
          have hv : bits .or .u32 (wdc B q 2) ((B[4 * q + 2].toNat : Int) * 65536) = wdc B q 3 := by rw [bt_eq B _ (by omega)]; exact (wdc_step B q).2.2.1
          rw [hv]
          refine ⟨q, 3, by omega, by omega, by omega, by go_num, (HR1.out.other _ _ _ (by omega)).drew, ?_, ?_, (hbw.setCell (by simp) _).drew⟩
          · show Row _ _ _ ((mp B q).set q (wdc B q 3))
            rw [← mq_set B q 2]
            exact (HR2.out.set q _).drew
          · have := HS.out
            show _ = _
            simpa using this
        case measure => simp [intOf]; omega
      · have hk : 4 * (q : Int) + 3 < 64 := by omega
        have hp : (0 : Int) ≤ 4 * (q : Int) + 3 := by omega
        have tq : (4 * (q : Int) + 3).tdiv 4 = q := by rw [Int.tdiv_eq_ediv_of_nonneg hp]; omega
        have tm : (4 * (q : Int) + 3).tmod 4 = 3 := by rw [Int.tmod_eq_emod_of_nonneg hp]; omega
        have w8 : IntKind.i64.wrap 0 = 0 ∧ IntKind.i64.wrap 8 = 8 ∧ IntKind.i64.wrap 16 = 16 ∧ IntKind.i64.wrap 24 = 24 := by decide +kernel
        obtain ⟨w80, w81, w82, w83⟩ := w8
        have tn : (4 * (q : Int) + 3).toNat = 4 * q + 3 := by omega
        have b0 := B[4 * q + 3].toNat_lt
        have s0 : IntKind.u32.wrap ((B[4 * q + 3].toNat : Int) * 16777216) = (B[4 * q + 3].toNat : Int) * 16777216 := by rw [IntKind.wrap_u32']; omega
        go_wp2
        refine region_tail 14 (by kernel_rfl) (by kernel_rfl) ?_
        simp only [List.take_succ_cons, List.take_zero, List.drop_succ_cons, List.drop_zero]
        repeat still_step
        refine wpStill_nil ?_
        go_wp2
        go_roundw
        case rel =>
          have hv : bits .or .u32 (wdc B q 3) ((B[4 * q + 3].toNat : Int) * 16777216) = wd B q := by rw [bt_eq B _ (by omega)]; exact (wdc_step B q).2.2.2
          rw [hv]
          refine ⟨q + 1, 0, by omega, by omega, by omega, by go_num, (HR1.out.other _ _ _ (by omega)).drew, ?_, ?_, (hbw.setCell (by simp) _).drew⟩
          · rw [mq_zero, ← mp_set, ← mq_set B q 3]
            exact (HR2.out.set q _).drew
          · have := HS.out
            show _ = _
            simpa using this
        case measure => simp [intOf]; omega
    · obtain rfl : q = 16 := by omega
      obtain rfl : c = 0 := hqc rfl
      rw [mq_zero] at HR2
      have hsz : (Tryd.prog.info? 49).map (·.size) = some 16 := by kernel_rfl
      have r1 : wr.heap[w.heap.size]? = some (.cells (wv Z16) 49 (0, 0)) := HR1.out
      have r2 : wr.heap[w.heap.size + 1]? = some (.cells (wv (mp B 16)) 49 (0, 0)) := HR2.out
      go_wp2_with (first | (refine wpList_load_row rfl 49 _ rfl (w.heap.size + 1) rfl 49 (wv (mp B 16)) (0, 0) _ ?hg Tryd.underlying49 rfl ?hi ?_) | (refine wpList_store_row rfl 49 _ _ rfl w.heap.size (wv (mp B 16)) rfl rfl 49 (wv Z16) ?hg2 ?hi2 ?ho2 ?h12 ?_))
      case hi => simp [mp_len]
      case hi2 => simp [mp_len]
      case ho2 => simp [mp_len, Z16]
      case h12 => exact wv_one _
      refine bodyPost_ret (v := .agg (wv (mp B 16))) (results_cell_row Tryd.results23 _ _ w.heap.size 49 (wv (mp B 16)) (0, 0) _ rfl ?_ Tryd.underlying49 rfl ?_) rfl ⟨rfl, ?_⟩
      · exact setRow_heap _ _ _ _ _ _ r1
      · rw [hsz, wv_size, mp_len]
      · exact below_setRow hbw (Nat.le_refl _) _
end Go.Proofs.YthdikknjabdfeaaDoor
