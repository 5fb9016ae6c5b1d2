/-
  What blake.spread answers.
-/
import Derived.Test.YthdikknjabdfeaaDoorP2Glob
import Derived.Test.YthdikknjabdfeaaDoorWordsB
namespace Go.Proofs.YthdikknjabdfeaaDoor
open Go.RowKit
set_option linter.unusedVariables false
attribute [local go_sem] wv_get wv_getE wv_set wv_size
set_option maxRecDepth 100000 in
set_option maxHeartbeats 1000000 in
theorem spread_any (H : List Int) (hH : H.length = 8) (t : Nat) (ht : t < 18446744073709551616) (last : Bool) (w : World) (hG : G w) :
    Calls Tryd.prog 24 #[.agg (wv H), .int .u64 t, .bool last] w fun e w' => e = .returned (.agg (wv (spreadL H t last))) ∧ Below w.heap.size w w' := by
  have hHs : (wv H).size = 8 := by rw [wv_size, hH]
  go_enter Tryd.func24, Tryd.ntmps24
  go_wp2
  go_loopw [9] (fun i wr => ∃ k : Nat, k ≤ 8 ∧ i = .int .i64 k ∧ Hid (Row wr w.heap.size 24 H) ∧ Hid (Row wr (w.heap.size + 1) 49 Z16) ∧ Hid (Row wr (w.heap.size + 1 + 1) 49 (sp H k)) ∧ Hid (wr.heap.size = w.heap.size + 3) ∧ Below w.heap.size w wr) (fun i _ => 8 - (intOf i).toNat)
  case atStart =>
    refine ⟨0, by omega, rfl, ?_, ?_, ?_, ?_, (((Below.refl _ _).alloc (Nat.le_refl _) _).alloc (by simp) _).alloc (by simp; omega) _⟩
    · exact ((Row.new w H 24).alloc _).alloc _
    · exact (heap_alloc_old _ _ (by simp)).trans (heap_alloc2_new w _ _)
    · have h := heap_alloc_new ((w.alloc (.cells (wv H) 24)).alloc (.cells (wv Z16) 49)) (.cells (wv (sp H 0)) 49)
      simp only [World.size_alloc] at h
      exact h
    · show _ = _
      simp
  case round =>
    obtain ⟨k, hk, rfl, HR1, HR2, HR3, HS, hbw⟩ := hrel
    by_cases hlt : k < 8
    · have i0 : (k : Int) < 8 := by omega
      have hGr : G wr := hG.below hbw hG.size
      have c0 := hGr.first k hlt
      have c1 : wr.cell? ⟨w.heap.size, k, none⟩ = some (.int .u32 (at_ H k)) := by rw [HR1.out.cell k (by omega), at_eq]
      have hl3 := sp_len H k
      have c3 : wr.cell? ⟨w.heap.size + 1 + 1, k, none⟩ = some (.int .u32 (at_ (sp H k) k)) := by rw [HR3.out.cell k (by omega), at_eq]
      have f3 := HR3.out.frozen k
      have c4 : wr.cell? ⟨w.heap.size + 1 + 1, k + 8, none⟩ = some (.int .u32 (at_ (sp H k) (k + 8))) := by rw [HR3.out.cell (k + 8) (by omega), at_eq]
      have f4 := HR3.out.frozen (k + 8)
      go_wp2
      go_roundw
      case rel =>
        refine ⟨k + 1, by omega, by go_num, (HR1.out.other _ _ _ (by omega)).other _ _ _ (by omega), (HR2.out.other _ _ _ (by omega)).other _ _ _ (by omega), ?_, ?_, (hbw.setCell (by simp; omega) _).setCell (by simp; omega) _⟩
        · rw [← sp_set H k hlt]
          exact (HR3.out.set k _).set (k + 8) _
        · have := HS.out
          show _ = _
          simpa using this
      case measure => simp [intOf]; omega
    · obtain rfl : k = 8 := by omega
      have hl3 := sp_len H 8
      have c12 : wr.cell? ⟨w.heap.size + 1 + 1, 12, none⟩ = some (.int .u32 (at_ (sp H 8) 12)) := by rw [HR3.out.cell 12 (by omega), at_eq]
      have c13 : wr.cell? ⟨w.heap.size + 1 + 1, 13, none⟩ = some (.int .u32 (at_ (sp H 8) 13)) := by rw [HR3.out.cell 13 (by omega), at_eq]
      have c14 : wr.cell? ⟨w.heap.size + 1 + 1, 14, none⟩ = some (.int .u32 (at_ (sp H 8) 14)) := by rw [HR3.out.cell 14 (by omega), at_eq]
      have f12 := HR3.out.frozen 12
      have f13 := HR3.out.frozen 13
      have f14 := HR3.out.frozen 14
      have hsz : (Tryd.prog.info? 49).map (·.size) = some 16 := by kernel_rfl
      cases last with
      | true =>
        obtain ⟨X, hX⟩ : ∃ X, (((sp H 8).set 12 (bits .xor .u32 (at_ (sp H 8) 12) ((t : Int) % 4294967296))).set 13 (bits .xor .u32 (at_ (sp H 8) 13) ((t : Int) / 4294967296))).set 14 (bits .xor .u32 IntKind.u32.max (at_ (sp H 8) 14)) = X := ⟨_, rfl⟩
        have hlX : X.length = 16 := by rw [← hX]; simp [sp_len]
        have hXs : spreadL H t true = X := by
          rw [← hX]
          unfold spreadL
          rw [if_pos rfl, xor_comm32 (at_ (sp H 8) 14)]
          rfl
        go_wp2_with (first | (refine wpList_load_row rfl 49 _ rfl (w.heap.size + 1 + 1) rfl 49 (wv X) (0, 0) _ ?hg Tryd.underlying49 rfl ?hi ?_) | (refine wpList_store_row rfl 49 _ _ rfl (w.heap.size + 1) (wv X) rfl rfl 49 (wv Z16) ?hg2 ?hi2 ?ho2 ?h12 ?_))
        case hg => rw [← hX]; exact ((HR3.out.set 12 _).set 13 _).set 14 _
        case hi => rw [hsz, wv_size, hlX]
        case hg2 => exact ((HR2.out.other _ _ _ (by omega)).other _ _ _ (by omega)).other _ _ _ (by omega)
        case hi2 => rw [hsz, wv_size, hlX]
        case ho2 => rw [wv_size, wv_size, hlX]; rfl
        case h12 => exact wv_one _
        refine bodyPost_ret (v := .agg (wv X)) (results_cell_row Tryd.results24 _ _ (w.heap.size + 1) 49 (wv X) (0, 0) _ rfl ?_ Tryd.underlying49 rfl ?_) rfl ⟨by first | rfl | rw [hXs], ?_⟩
        · exact setRow_heap _ _ _ _ _ _ (((HR2.out.other _ _ _ (by omega)).other _ _ _ (by omega)).other _ _ _ (by omega))
        · rw [hsz, wv_size, hlX]
        · exact below_setRow (((hbw.setCell (by simp; omega) _).setCell (by simp; omega) _).setCell (by simp; omega) _) (by omega) _
      | false =>
        obtain ⟨X, hX⟩ : ∃ X, ((sp H 8).set 12 (bits .xor .u32 (at_ (sp H 8) 12) ((t : Int) % 4294967296))).set 13 (bits .xor .u32 (at_ (sp H 8) 13) ((t : Int) / 4294967296)) = X := ⟨_, rfl⟩
        have hlX : X.length = 16 := by rw [← hX]; simp [sp_len]
        have hXs : spreadL H t false = X := by
          rw [← hX]
          rfl
        go_wp2_with (first | (refine wpList_load_row rfl 49 _ rfl (w.heap.size + 1 + 1) rfl 49 (wv X) (0, 0) _ ?hgF Tryd.underlying49 rfl ?hiF ?_) | (refine wpList_store_row rfl 49 _ _ rfl (w.heap.size + 1) (wv X) rfl rfl 49 (wv Z16) ?hg2F ?hi2F ?ho2F ?h12F ?_))
        case hgF => rw [← hX]; exact (HR3.out.set 12 _).set 13 _
        case hiF => rw [hsz, wv_size, hlX]
        case hg2F => exact (HR2.out.other _ _ _ (by omega)).other _ _ _ (by omega)
        case hi2F => rw [hsz, wv_size, hlX]
        case ho2F => rw [wv_size, wv_size, hlX]; rfl
        case h12F => exact wv_one _
        refine bodyPost_ret (v := .agg (wv X)) (results_cell_row Tryd.results24 _ _ (w.heap.size + 1) 49 (wv X) (0, 0) _ rfl ?_ Tryd.underlying49 rfl ?_) rfl ⟨by first | rfl | rw [hXs], ?_⟩
        · exact setRow_heap _ _ _ _ _ _ ((HR2.out.other _ _ _ (by omega)).other _ _ _ (by omega))
        · rw [hsz, wv_size, hlX]
        · exact below_setRow ((hbw.setCell (by simp; omega) _).setCell (by simp; omega) _) (by omega) _
end Go.Proofs.YthdikknjabdfeaaDoor
