/-
  What blake.Block answers.
-/
import Derived.Test.YtihggfkenhkglaaDoorZP2Round
import Derived.Test.YtihggfkenhkglaaDoorGD
import Derived.Test.YtihggfkenhkglaaDoorGC
import Derived.Deep.Cut
namespace Go.Proofs.YtihggfkenhkglaaDoor
set_option maxRecDepth 100000
open Go.RowKit
set_option linter.unusedVariables false
attribute [local go_sem] ba_size ba_get wv_get wv_getE wv_set wv_size
theorem fg_sg (r i : Nat) (hr : r < 10) (hi : i < 16) : fg (ords.getD r 0) i = sg r i := by
  have h : ∀ r, r < 10 → ∀ i, i < 16 → fg (ords.getD r 0) i = sg r i := by decide +kernel
  exact h r hr i hi
theorem ords_lt (r : Nat) : ords.getD r 0 < 18446744073709551616 := by
  have h : ∀ r, r < 10 → ords.getD r 0 < 18446744073709551616 := by decide
  rcases Nat.lt_or_ge r 10 with h' | h'
  · exact h r h'
  · simp [List.getD, List.getElem?_eq_none (show ords.length ≤ r from h')]
theorem size8 : (Tryd.prog.info? 67).map (·.size) = some 8 := by kernel_rfl
theorem size16 : (Tryd.prog.info? 88).map (·.size) = some 16 := by kernel_rfl
set_option maxHeartbeats 1000000 in
theorem block_bad (H : List Int) (hH : H.length = 8) (B : List UInt8) (hB : B.length ≠ 64) (t : Nat) (last : Bool) (w : World) :
    Calls Tryd.prog 60 #[.agg (wv H), .string ⟨B.toArray⟩, .int .u64 t, .bool last] w fun e w' => e = .returned (.tuple #[.agg (wv Z8), .int .i64 1]) ∧ Below w.heap.size w w' := by
  have hHs : (wv H).size = 8 := by rw [wv_size, hH]
  have hn : ((B.length : Int) != 64) = true := by simp; omega
  have hn2 : ¬ (B.length : Int) = 64 := by omega
  go_enter Tryd.func60, Tryd.ntmps60
  go_wp2_with fail
  refine bodyPost_ret (v := .tuple #[.agg (wv Z8), .int .i64 1]) (results_row_tmp Tryd.results60 _ _ (w.heap.size + 1) 67 (wv Z8) (0, 0) _ rfl ?_ Tryd.underlying67 rfl ?_) rfl ⟨rfl, ?_⟩
  · exact heap_alloc2_new w _ _
  · rw [size8, wv_size]; rfl
  · exact ((Below.refl _ _).alloc (Nat.le_refl _) _).alloc (by simp) _
set_option maxHeartbeats 2000000 in
theorem block_good (H : List Int) (hH : H.length = 8) (B : List UInt8) (hB : B.length = 64) (t : Nat) (ht : t < 18446744073709551616) (last : Bool) (w : World) (hG : G w) :
    Calls Tryd.prog 60 #[.agg (wv H), .string ⟨B.toArray⟩, .int .u64 t, .bool last] w fun e w' => e = .returned (.tuple #[.agg (wv (blockL H B t last)), .int .i64 0]) ∧ Below w.heap.size w w' := by
  have hHs : (wv H).size = 8 := by rw [wv_size, hH]
  have hB1 : ((B.length : Int) != 64) = false := by simp; omega
  go_enter Tryd.func60, Tryd.ntmps60
  go_wp2_with fail
  refine (words_any B hB _).mono ?_
  rintro e w1 ⟨rfl, hb1⟩
  have hs1 : w.heap.size + 2 ≤ w1.heap.size := by have := hb1.size; simpa using this
  have hH1 : Row w1 w.heap.size 67 H := (hb1.block _ (by simp; omega)).trans (heap_alloc2_old w _ _)
  have hZ1 : Row w1 (w.heap.size + 1) 67 Z8 := (hb1.block _ (by simp)).trans (heap_alloc2_new w _ _)
  have hbw1 : Below w.heap.size w w1 := (((Below.refl _ _).alloc (Nat.le_refl _) _).alloc (by simp) _).trans (hb1.mono (by simp; omega))
  go_upto_region 4 with (refine wpList_store_row rfl 88 _ _ rfl w1.heap.size (wv (mp B 16)) rfl rfl 88 (wv Z16) ?hg1 ?hi1 ?ho1 ?h11 ?_)
  case hg1 => exact heap_alloc_new w1 _
  case hi1 => rw [size16, wv_size, mp_len]
  case ho1 => rw [wv_size, wv_size, mp_len]; rfl
  case h11 => exact wv_one _
  change Code.wp _ _ _ _ ((w1.alloc (.cells (wv Z16) 88)).setRow w1.heap.size (wv (mp B 16)))
  obtain ⟨w2, hw2⟩ : ∃ w2, (w1.alloc (.cells (wv Z16) 88)).setRow w1.heap.size (wv (mp B 16)) = w2 := ⟨_, rfl⟩
  have hM2 : Row w2 w1.heap.size 88 (mp B 16) := by rw [← hw2]; exact setRow_heap _ _ _ _ _ _ (heap_alloc_new w1 _)
  have hH2 : Row w2 w.heap.size 67 H := by rw [← hw2]; exact (hH1.alloc _).setRow_other _ _ (by omega)
  have hZ2 : Row w2 (w.heap.size + 1) 67 Z8 := by rw [← hw2]; exact (hZ1.alloc _).setRow_other _ _ (by omega)
  have hbw2 : Below w.heap.size w w2 := by rw [← hw2]; exact below_setRow (hbw1.alloc (by omega) _) (by omega) _
  have hs2 : w1.heap.size < w2.heap.size := hM2.lt
  have hG2 : G w2 := hG.below hbw2 hG.size
  rw [hw2]
  clear hw2
  go_wp2_with (refine wpList_load_row rfl 67 _ rfl w.heap.size rfl 67 (wv H) (0, 0) _ ?hg3 Tryd.underlying67 rfl ?hi3 ?_)
  case hg3 => exact hH2
  case hi3 => rw [size8, hHs]
  refine (spread_any H hH t ht last _ hG2).mono ?_
  rintro e w3 ⟨rfl, hb3⟩
  have hs3 := hb3.size
  have hM3 := hM2.below hb3
  have hH3 := hH2.below hb3
  have hZ3 := hZ2.below hb3
  have hbw3 : Below w.heap.size w w3 := hbw2.trans (hb3.mono (by omega))
  have lV := spreadL_len H t last
  obtain ⟨V0, hV0⟩ : ∃ V0, spreadL H t last = V0 := ⟨_, rfl⟩
  have hbl : blockL H B t last = hx H (vr B V0 10) 8 := by unfold blockL; rw [hV0]
  rw [hV0] at lV ⊢
  go_upto_region 5 with (refine wpList_store_row rfl 88 _ _ rfl w3.heap.size (wv V0) rfl rfl 88 (wv Z16) ?hg4 ?hi4 ?ho4 ?h14 ?_)
  case hg4 => exact heap_alloc_new w3 _
  case hi4 => rw [size16, wv_size, lV]
  case ho4 => rw [wv_size, wv_size, lV]; rfl
  case h14 => exact wv_one _
  change Code.wp _ _ _ _ ((w3.alloc (.cells (wv Z16) 88)).setRow w3.heap.size (wv V0))
  obtain ⟨w4, hw4⟩ : ∃ w4, (w3.alloc (.cells (wv Z16) 88)).setRow w3.heap.size (wv V0) = w4 := ⟨_, rfl⟩
  have hV4 : Row w4 w3.heap.size 88 V0 := by rw [← hw4]; exact setRow_heap _ _ _ _ _ _ (heap_alloc_new w3 _)
  have hM4 : Row w4 w1.heap.size 88 (mp B 16) := by rw [← hw4]; exact (hM3.alloc _).setRow_other _ _ (by omega)
  have hH4 : Row w4 w.heap.size 67 H := by rw [← hw4]; exact (hH3.alloc _).setRow_other _ _ (by omega)
  have hZ4 : Row w4 (w.heap.size + 1) 67 Z8 := by rw [← hw4]; exact (hZ3.alloc _).setRow_other _ _ (by omega)
  have hbw4 : Below w.heap.size w w4 := by rw [← hw4]; exact below_setRow (hbw3.alloc (by omega) _) (by omega) _
  rw [hw4]
  clear hw4 hb1 hb3 hM3 hH3 hZ3 hM2 hH2 hZ2
  have hg3 := hG.size
  obtain ⟨gm, hgm⟩ : ∃ gm, w1.heap.size = gm := ⟨_, rfl⟩
  obtain ⟨gv, hgv⟩ : ∃ gv, w3.heap.size = gv := ⟨_, rfl⟩
  have n1 : w.heap.size + 2 ≤ gm := by omega
  have n2 : gm < gv := by omega
  rw [hgm] at hM4
  rw [hgv] at hV4
  simp only [hgm, hgv]
  clear hs1 hs2 hs3 hbw1 hbw2 hbw3 hgm hgv
  go_wp2_with fail
  go_loopw [26] (fun i wr => ∃ k : Nat, k ≤ 10 ∧ i = .int .i64 k ∧ Hid (Row wr gv 88 (vr B V0 k)) ∧ Hid (Row wr gm 88 (mp B 16)) ∧ Hid (Row wr w.heap.size 67 H) ∧ Hid (Row wr (w.heap.size + 1) 67 Z8) ∧ Below w.heap.size w wr) (fun i _ => 10 - (intOf i).toNat)
  case atStart => exact ⟨0, by omega, rfl, hV4, hM4, hH4, hZ4, hbw4⟩
  case round =>
    obtain ⟨k, hk, rfl, HV, HM, HH, HZ, hbw⟩ := hrel
    by_cases hlt : k < 10
    · have i0 : (k : Int) < 10 := by omega
      have hGr : G wr := hG.below hbw hg3
      have co := hGr.ord k hlt
      obtain ⟨o, ho⟩ : ∃ o, ords.getD k 0 = o := ⟨_, rfl⟩
      have hol : o < 18446744073709551616 := by rw [← ho]; exact ords_lt k
      rw [ho] at co
      have hR := round_any o hol (mp B 16) (vr B V0 k) (mp_len B 16) (vr_len B V0 lV k) gm gv (by omega) wr hGr (by omega) HM.out HV.out
      go_wp2_with fail
      refine hR.mono ?_
      rintro e w5 ⟨rfl, hv5, ho5, hsz5, hb5⟩
      go_wp2_with fail
      go_roundw
      case rel =>
        refine ⟨k + 1, by omega, by go_num, ?_, (ho5 gm (by omega)).trans HM.out, (ho5 _ (by omega)).trans HH.out, (ho5 _ (by omega)).trans HZ.out, hbw.trans (hb5.mono (by omega))⟩
        show Row w5 gv 88 (rk (mp B 16) (vr B V0 k) (sg k) 8)
        rw [rk_congr (mp B 16) (vr B V0 k) (sg k) (fg o) 8 (fun i hi => by rw [← ho, fg_sg k i hlt (by omega)])]
        exact hv5
      case measure => simp [intOf]; omega
    · obtain rfl : k = 10 := by omega
      have lV10 := vr_len B V0 lV 10
      obtain ⟨V, hV⟩ : ∃ V, vr B V0 10 = V := ⟨_, rfl⟩
      rw [hV] at HV lV10 hbl
      obtain ⟨w6, hw6⟩ : ∃ w6, wr = w6 := ⟨_, rfl⟩
      rw [hw6] at HV HH HZ hbw
      rw [hw6]
      clear hw6 HM
      go_wp2_with fail
      go_loopw [35] (fun i wq => ∃ k : Nat, k ≤ 8 ∧ i = .int .i64 k ∧ Hid (Row wq gv 88 V) ∧ Hid (Row wq w.heap.size 67 (hx H V k)) ∧ Hid (Row wq (w.heap.size + 1) 67 Z8) ∧ Below w.heap.size w wq) (fun i _ => 8 - (intOf i).toNat)
      case atStart => exact ⟨0, by omega, rfl, HV, by rw [hx_zero H V hH]; exact HH, HZ, hbw⟩
      case round =>
        obtain ⟨k, hk, rfl, JV, JH, JZ, hbq⟩ := hrel
        by_cases hlt : k < 8
        · have i0 : (k : Int) < 8 := by omega
          have x0 : IntKind.i64.wrap ((k : Int) + 8) = (k : Int) + 8 := by rw [IntKind.wrap_i64]; omega
          have x1 : ((k : Int) + 8).toNat = k + 8 := by omega
          have x2 : (k : Int) + 8 < 16 := by omega
          have x3 : (0 : Int) ≤ (k : Int) + 8 := by omega
          have x4 : (k : Int) < 16 := by omega
          have lh := hx_len H V k
          have c0 : wr.cell? ⟨w.heap.size, k, none⟩ = some (.int .u32 (at_ H k)) := by rw [JH.out.cell k (by omega), at_eq, hx_at H V k hlt]
          have c1 : wr.cell? ⟨gv, k, none⟩ = some (.int .u32 (at_ V k)) := by rw [JV.out.cell k (by omega), at_eq]
          have c2 : wr.cell? ⟨gv, k + 8, none⟩ = some (.int .u32 (at_ V (k + 8))) := by rw [JV.out.cell (k + 8) (by omega), at_eq]
          have f0 := JH.out.frozen k
          go_wp2_with fail
          refine region_tail 13 (by kernel_rfl) (by kernel_rfl) ?_
          simp only [List.take_succ_cons, List.take_zero, List.drop_succ_cons, List.drop_zero]
          repeat still_step
          refine wpStill_nil ?_
          go_wp2_with fail
          refine ⟨?_, ?measure2⟩
          (repeat apply Exists.intro)
          refine ⟨?rel2, rfl⟩
          case rel2 =>
            refine ⟨k + 1, by omega, by go_num, (JV.out.other _ _ _ (by omega)).drew, ?_, (JZ.out.other _ _ _ (by omega)).drew, (hbq.setCell (by simp) _).drew⟩
            rw [← hx_set H V k _ rfl]
            exact (JH.out.set k _).drew
          case measure2 => simp [intOf]; omega
        · obtain rfl : k = 8 := by omega
          have lh := hx_len H V 8
          obtain ⟨R, hRR⟩ : ∃ R, hx H V 8 = R := ⟨_, rfl⟩
          rw [hRR] at JH lh hbl
          go_wp2_with (first | (refine wpList_load_row rfl 67 _ rfl w.heap.size rfl 67 (wv R) (0, 0) _ ?hg7 Tryd.underlying67 rfl ?hi7 ?_) | (refine wpList_store_row rfl 67 _ _ rfl (w.heap.size + 1) (wv R) rfl rfl 67 (wv Z8) ?hg8 ?hi8 ?ho8 ?h18 ?_))
          case hg7 => exact JH.out
          case hi7 => rw [size8, wv_size, lh]
          case hg8 => exact JZ.out
          case hi8 => rw [size8, wv_size, lh]
          case ho8 => rw [wv_size, wv_size, lh]; rfl
          case h18 => exact wv_one _
          refine bodyPost_ret (v := .tuple #[.agg (wv R), .int .i64 0]) (results_row_tmp Tryd.results60 _ _ (w.heap.size + 1) 67 (wv R) (0, 0) _ rfl ?_ Tryd.underlying67 rfl ?_) rfl ⟨by first | rfl | rw [hbl], ?_⟩
          · exact setRow_heap _ _ _ _ _ _ JZ.out
          · rw [size8, wv_size, lh]
          · exact below_setRow hbq (by omega) _
end Go.Proofs.YtihggfkenhkglaaDoor
