/-
  What blake.fold answers.
-/
import Derived.Test.YtgickejfcmnaiaaDoorZP2Block
import Derived.Test.YtgickejfcmnaiaaDoorGD
import Derived.Test.YtgickejfcmnaiaaDoorGC
namespace Go.Proofs.YtgickejfcmnaiaaDoor
set_option maxRecDepth 100000
open Go.RowKit
set_option linter.unusedVariables false
attribute [local go_sem] ba_size ba_get ba_extract take_drop_end wv_get wv_getE wv_set wv_size
theorem wv8 (H : List Int) (h : H.length = 8) : wv H = #[.int .u32 (at_ H 0), .int .u32 (at_ H 1), .int .u32 (at_ H 2), .int .u32 (at_ H 3), .int .u32 (at_ H 4), .int .u32 (at_ H 5), .int .u32 (at_ H 6), .int .u32 (at_ H 7)] := by
  match H, h with
  | [a, b, c, d, e, f, g, i], _ => rfl
set_option maxHeartbeats 1000000 in
theorem fold_any (H : List Int) (hH : H.length = 8) (S : List UInt8) (hS : S.length ≤ 9223372036854775000) (w : World) (hG : G w) :
    Calls Tryd.prog 37 #[.agg (wv H), .string ⟨S.toArray⟩] w fun e w' => e = .returned (.string ⟨(fl (foldL H S) 32).toArray⟩) ∧ Below w.heap.size w w' := by
  have hHs : (wv H).size = 8 := by rw [wv_size, hH]
  have hg3 := hG.size
  go_enter Tryd.func37, Tryd.ntmps37
  go_wp2
  go_loopw [5] (fun i wr => ∃ k : Nat, Hid (k = 0 ∨ 64 * k < S.length) ∧ i = .int .i64 ((64 * k : Nat) : Int) ∧ Hid (Row wr w.heap.size 59 (fk H S k)) ∧ Below w.heap.size w wr) (fun i _ => S.length - (intOf i).toNat)
  case atStart => exact ⟨0, Or.inl rfl, rfl, heap_alloc_new w _, (Below.refl _ _).alloc (Nat.le_refl _) _⟩
  case round =>
    obtain ⟨k, hk, rfl, HR, hbw⟩ := hrel
    have hGr : G wr := hG.below hbw hg3
    have lk := fk_len H S hH k
    have hlk : (wv (fk H S k)).size = 8 := by rw [wv_size, lk]
    have hrow : wr.heap[w.heap.size]? = some (.cells (wv (fk H S k)) 59 (0, 0)) := HR.out
    have hsz : (Tryd.prog.info? 59).map (·.size) = some (wv (fk H S k)).size := by rw [size8, hlk]
    by_cases hlt : 64 * k + 64 < S.length
    · have i1 : ¬ (S.length : Int) - 64 * (k : Int) ≤ 64 := by omega
      have i2 : (64 : Int) < (S.length : Int) - 64 * (k : Int) := by omega
      have lb : ((S.drop (64 * k)).take 64).length = 64 := by simp; omega
      have e64 : 64 * k + 64 - 64 * k = 64 := by omega
      have hC := block_good (fk H S k) lk ((S.drop (64 * k)).take 64) lb (64 * (k + 1)) (by omega) false wr hGr
      rw [show ((64 * (k + 1) : Nat) : Int) = 64 * (k : Int) + 64 by omega] at hC
      change Calls _ _ _ _ fun e w' => e = .returned (.tuple #[.agg (wv (fk H S (k + 1))), .int .i64 0]) ∧ Below wr.heap.size wr w' at hC
      have lk1 := fk_len H S hH (k + 1)
      obtain ⟨H1, hH1⟩ : ∃ H1, fk H S (k + 1) = H1 := ⟨_, rfl⟩
      rw [hH1] at hC lk1
      go_wp2_with (refine wpList_load_row rfl 59 _ rfl w.heap.size rfl 59 (wv (fk H S k)) (0, 0) _ hrow Tryd.underlying59 rfl hsz ?_)
      refine hC.mono ?_
      rintro e w1 ⟨rfl, hb1⟩
      have hrow1 : w1.heap[w.heap.size]? = some (.cells (wv (fk H S k)) 59 (0, 0)) := (hb1.block _ HR.out.lt).trans hrow
      have hsz1 : (Tryd.prog.info? 59).map (·.size) = some (wv H1).size := by rw [size8, wv_size, lk1]
      go_wp2_with (refine wpList_store_row rfl 59 _ _ rfl w.heap.size (wv H1) rfl rfl 59 (wv (fk H S k)) hrow1 hsz1 (by rw [wv_size, wv_size, lk, lk1]) (wv_one _) ?_)
      try go_simp
      go_roundw
      case rel =>
        refine ⟨k + 1, (Or.inr (by omega) : _ ∨ _), by first | go_num | omega, ?_, below_setRow (hbw.trans (hb1.mono (by have := HR.out.lt; omega))) (Nat.le_refl _) _⟩
        rw [hH1]
        exact setRow_heap _ _ _ _ _ _ hrow1
      case measure => simp [intOf]; omega
    · have i1 : (S.length : Int) - 64 * (k : Int) ≤ 64 := by omega
      have i2 : ¬ (64 : Int) < (S.length : Int) - 64 * (k : Int) := by omega
      have j0 : (0 : Int) ≤ 64 * (k : Int) := by omega
      have j1 : 64 * (k : Int) ≤ (S.length : Int) := by have := hk.out; omega
      have j2 : (64 * (k : Int)).toNat = 64 * k := by omega
      have j3 : IntKind.u64.wrap (S.length : Int) = S.length := by rw [IntKind.wrap_u64]; omega
      have hnb : nb S = k := nb_of S k hk.out (by omega)
      have ld : (S.drop (64 * k)).length ≤ 64 := by simp; omega
      have hfold : foldL H S = blockL (fk H S k) (padL (S.drop (64 * k))) S.length true := by unfold foldL; rw [hnb]
      have lp := padL_len _ ld
      have lr := foldL_len H S
      go_wp2_with fail
      refine wp_region_any (by kernel_rfl) ?_
      change wpAny _ _ _ _ _ _ _ (World.drew _)
      refine wpAny_take (i := 1) (v := .string ⟨S.toArray⟩) rfl (by kernel_rfl) (by kernel_rfl) (by kernel_rfl) (fun _ _ _ h => h) (Or.inl ⟨by rfl, fun w => by go_simp⟩) ?_
      refine wpAny_take (i := 2) (v := .int .i64 (64 * (k : Int))) rfl (by kernel_rfl) (by kernel_rfl) (by kernel_rfl) (fun _ _ _ h => h) (Or.inl ⟨by rfl, fun w => by go_simp⟩) ?_
      refine wpAny_take (i := 3) (v := .string ⟨(S.drop (64 * k)).toArray⟩) rfl (by kernel_rfl) (by kernel_rfl) (by kernel_rfl) (fun _ _ _ h => h) (Or.inl ⟨by rfl, fun w => by go_simp⟩) ?_
      refine wpAny_take (i := 5) (v := .string ⟨S.toArray⟩) rfl (by kernel_rfl) (by kernel_rfl) (by kernel_rfl) (fun _ _ _ h => h) (Or.inl ⟨by rfl, fun w => by go_simp⟩) ?_
      refine wpAny_take (i := 6) (v := .int .i64 S.length) rfl (by kernel_rfl) (by kernel_rfl) (by kernel_rfl) (fun _ _ _ h => h) (Or.inl ⟨by rfl, fun w => by go_simp⟩) ?_
      refine wpAny_take (i := 7) (v := .int .u64 S.length) rfl (by kernel_rfl) (by kernel_rfl) (by kernel_rfl) (fun _ _ _ h => h) (Or.inl ⟨by rfl, fun w => by go_simp⟩) ?_
      obtain ⟨R, hR⟩ : ∃ R, foldL H S = R := ⟨_, rfl⟩
      have hC : ∀ w1, G w1 → Calls Tryd.prog 45 #[.agg #[.int .u32 (at_ (fk H S k) 0), .int .u32 (at_ (fk H S k) 1), .int .u32 (at_ (fk H S k) 2), .int .u32 (at_ (fk H S k) 3), .int .u32 (at_ (fk H S k) 4), .int .u32 (at_ (fk H S k) 5), .int .u32 (at_ (fk H S k) 6), .int .u32 (at_ (fk H S k) 7)], .string ⟨(padL (S.drop (64 * k))).toArray⟩, .int .u64 S.length, .bool true] w1 fun e w' => e = .returned (.tuple #[.agg (wv R), .int .i64 0]) ∧ Below w1.heap.size w1 w' := fun w1 h1 => by
        have h := block_good (fk H S k) lk (padL (S.drop (64 * k))) lp S.length (by omega) true w1 h1
        rw [wv8 (fk H S k) lk, ← hfold, hR] at h
        exact h
      rw [hR] at lr
      have hszR : (Tryd.prog.info? 59).map (·.size) = some (wv R).size := by rw [size8, wv_size, lr]
      have c0 : wr.cell? ⟨w.heap.size, 0, none⟩ = some (.int .u32 (at_ (fk H S k) 0)) := by rw [HR.out.cell 0 (by omega), at_eq]
      have c1 : wr.cell? ⟨w.heap.size, 1, none⟩ = some (.int .u32 (at_ (fk H S k) 1)) := by rw [HR.out.cell 1 (by omega), at_eq]
      have c2 : wr.cell? ⟨w.heap.size, 2, none⟩ = some (.int .u32 (at_ (fk H S k) 2)) := by rw [HR.out.cell 2 (by omega), at_eq]
      have c3 : wr.cell? ⟨w.heap.size, 3, none⟩ = some (.int .u32 (at_ (fk H S k) 3)) := by rw [HR.out.cell 3 (by omega), at_eq]
      have c4 : wr.cell? ⟨w.heap.size, 4, none⟩ = some (.int .u32 (at_ (fk H S k) 4)) := by rw [HR.out.cell 4 (by omega), at_eq]
      have c5 : wr.cell? ⟨w.heap.size, 5, none⟩ = some (.int .u32 (at_ (fk H S k) 5)) := by rw [HR.out.cell 5 (by omega), at_eq]
      have c6 : wr.cell? ⟨w.heap.size, 6, none⟩ = some (.int .u32 (at_ (fk H S k) 6)) := by rw [HR.out.cell 6 (by omega), at_eq]
      have c7 : wr.cell? ⟨w.heap.size, 7, none⟩ = some (.int .u32 (at_ (fk H S k) 7)) := by rw [HR.out.cell 7 (by omega), at_eq]
      refine wpAny_ready (rs := [0, 4]) (by kernel_rfl) (by simp) ?_
      refine AllReady.cons rfl (fun K hK => ?_) ?_
      · go_simp
        refine hK _ _ ?_
        clear hK K
        refine wpAny_ready (rs := [4]) (by kernel_rfl) (by simp) ?_
        refine AllReady.cons rfl (fun K hK => ?_) AllReady.nil
        go_simp
        refine (fill_any _ ld _).mono ?_
        rintro e w1 ⟨rfl, hb1⟩
        have HR1 : Row w1 w.heap.size 59 (fk H S k) := (hb1.block _ HR.out.lt).trans hrow
        have hbw1 : Below w.heap.size w w1 := hbw.drew.trans (hb1.mono (by have := HR.out.lt; show w.heap.size ≤ wr.heap.size; omega))
        have hG1 : G w1 := hG.below hbw1 hg3
        refine hK _ _ ?_
        clear hK K
        refine wpAny_ready (rs := [8]) (by kernel_rfl) (by simp) ?_
        refine AllReady.cons rfl (fun K hK => ?_) AllReady.nil
        go_simp
        refine (hC w1 hG1).mono ?_
        rintro e w2 ⟨rfl, hb2⟩
        have hrow2 : w2.heap[w.heap.size]? = some (.cells (wv (fk H S k)) 59 (0, 0)) := (hb2.block _ HR1.lt).trans HR1
        refine hK _ _ ?_
        clear hK K
        refine wpAny_ready (rs := [9]) (by kernel_rfl) (by simp) ?_
        refine AllReady.cons rfl (fun K hK => ?_) AllReady.nil
        go_simp
        refine hK _ _ ?_
        clear hK K
        refine wpAny_take (i := 11) (v := .int .i64 0) rfl (by kernel_rfl) (by kernel_rfl) (by kernel_rfl) (fun _ _ _ h => h) (Or.inl ⟨by rfl, fun w => by go_simp⟩) ?_
        refine wpAny_ready (rs := [10]) (by kernel_rfl) (by simp) ?_
        refine AllReady.cons rfl (fun K hK => ?_) AllReady.nil
        go_simp
        refine hK _ _ ?_
        clear hK K
        refine any_seqI [12] [_] _ _ _ rfl (by kernel_rfl) ?_
        refine wpList_store_row rfl 59 _ _ rfl w.heap.size (wv R) rfl rfl 59 (wv (fk H S k)) hrow2 hszR (by rw [wv_size, wv_size, lk, lr]) (wv_one _) ?_
        have hrow3 : (w2.setRow w.heap.size (wv R)).heap[w.heap.size]? = some (.cells (wv R) 59 (0, 0)) := setRow_heap _ _ _ _ _ _ hrow2
        have hb3 : Below w.heap.size w (w2.setRow w.heap.size (wv R)) := below_setRow (hbw1.trans (hb2.mono (by have := HR1.lt; omega))) (Nat.le_refl _) _
        obtain ⟨w3, hw3⟩ : ∃ w3, w2.setRow w.heap.size (wv R) = w3 := ⟨_, rfl⟩
        rw [hw3] at hrow3 hb3 ⊢
        go_wp2_with (refine wpList_load_row rfl 59 _ rfl w.heap.size rfl 59 (wv R) (0, 0) _ hrow3 Tryd.underlying59 rfl hszR ?_)
        refine (flat_any R lr _).mono ?_
        rintro e w4 ⟨rfl, hb4⟩
        go_wp2_with fail
        go_ret
        exact ⟨by rw [hR]; rfl, hb3.trans (hb4.mono hb3.size)⟩
      · refine AllReady.cons rfl (fun K hK => ?_) AllReady.nil
        go_simp
        refine (fill_any _ ld _).mono ?_
        rintro e w1 ⟨rfl, hb1⟩
        have HR1 : Row w1 w.heap.size 59 (fk H S k) := (hb1.block _ HR.out.lt).trans hrow
        have hbw1 : Below w.heap.size w w1 := hbw.drew.trans (hb1.mono (by have := HR.out.lt; show w.heap.size ≤ wr.heap.size; omega))
        have hG1 : G w1 := hG.below hbw1 hg3
        have d0 : w1.cell? ⟨w.heap.size, 0, none⟩ = some (.int .u32 (at_ (fk H S k) 0)) := by rw [HR1.cell 0 (by omega), at_eq]
        have d1 : w1.cell? ⟨w.heap.size, 1, none⟩ = some (.int .u32 (at_ (fk H S k) 1)) := by rw [HR1.cell 1 (by omega), at_eq]
        have d2 : w1.cell? ⟨w.heap.size, 2, none⟩ = some (.int .u32 (at_ (fk H S k) 2)) := by rw [HR1.cell 2 (by omega), at_eq]
        have d3 : w1.cell? ⟨w.heap.size, 3, none⟩ = some (.int .u32 (at_ (fk H S k) 3)) := by rw [HR1.cell 3 (by omega), at_eq]
        have d4 : w1.cell? ⟨w.heap.size, 4, none⟩ = some (.int .u32 (at_ (fk H S k) 4)) := by rw [HR1.cell 4 (by omega), at_eq]
        have d5 : w1.cell? ⟨w.heap.size, 5, none⟩ = some (.int .u32 (at_ (fk H S k) 5)) := by rw [HR1.cell 5 (by omega), at_eq]
        have d6 : w1.cell? ⟨w.heap.size, 6, none⟩ = some (.int .u32 (at_ (fk H S k) 6)) := by rw [HR1.cell 6 (by omega), at_eq]
        have d7 : w1.cell? ⟨w.heap.size, 7, none⟩ = some (.int .u32 (at_ (fk H S k) 7)) := by rw [HR1.cell 7 (by omega), at_eq]
        refine hK _ _ ?_
        clear hK K
        refine wpAny_ready (rs := [0]) (by kernel_rfl) (by simp) ?_
        refine AllReady.cons rfl (fun K hK => ?_) AllReady.nil
        go_simp
        refine hK _ _ ?_
        clear hK K
        refine wpAny_ready (rs := [8]) (by kernel_rfl) (by simp) ?_
        refine AllReady.cons rfl (fun K hK => ?_) AllReady.nil
        go_simp
        refine (hC w1 hG1).mono ?_
        rintro e w2 ⟨rfl, hb2⟩
        have hrow2 : w2.heap[w.heap.size]? = some (.cells (wv (fk H S k)) 59 (0, 0)) := (hb2.block _ HR1.lt).trans HR1
        refine hK _ _ ?_
        clear hK K
        refine wpAny_ready (rs := [9]) (by kernel_rfl) (by simp) ?_
        refine AllReady.cons rfl (fun K hK => ?_) AllReady.nil
        go_simp
        refine hK _ _ ?_
        clear hK K
        refine wpAny_take (i := 11) (v := .int .i64 0) rfl (by kernel_rfl) (by kernel_rfl) (by kernel_rfl) (fun _ _ _ h => h) (Or.inl ⟨by rfl, fun w => by go_simp⟩) ?_
        refine wpAny_ready (rs := [10]) (by kernel_rfl) (by simp) ?_
        refine AllReady.cons rfl (fun K hK => ?_) AllReady.nil
        go_simp
        refine hK _ _ ?_
        clear hK K
        refine any_seqI [12] [_] _ _ _ rfl (by kernel_rfl) ?_
        refine wpList_store_row rfl 59 _ _ rfl w.heap.size (wv R) rfl rfl 59 (wv (fk H S k)) hrow2 hszR (by rw [wv_size, wv_size, lk, lr]) (wv_one _) ?_
        have hrow3 : (w2.setRow w.heap.size (wv R)).heap[w.heap.size]? = some (.cells (wv R) 59 (0, 0)) := setRow_heap _ _ _ _ _ _ hrow2
        have hb3 : Below w.heap.size w (w2.setRow w.heap.size (wv R)) := below_setRow (hbw1.trans (hb2.mono (by have := HR1.lt; omega))) (Nat.le_refl _) _
        obtain ⟨w3, hw3⟩ : ∃ w3, w2.setRow w.heap.size (wv R) = w3 := ⟨_, rfl⟩
        rw [hw3] at hrow3 hb3 ⊢
        go_wp2_with (refine wpList_load_row rfl 59 _ rfl w.heap.size rfl 59 (wv R) (0, 0) _ hrow3 Tryd.underlying59 rfl hszR ?_)
        refine (flat_any R lr _).mono ?_
        rintro e w4 ⟨rfl, hb4⟩
        go_wp2_with fail
        go_ret
        exact ⟨by rw [hR]; rfl, hb3.trans (hb4.mono hb3.size)⟩
/-- A text's sum. -/
def sumL (S : List UInt8) : List UInt8 := fl (foldL (startL 0) S) 32
end Go.Proofs.YtgickejfcmnaiaaDoor
