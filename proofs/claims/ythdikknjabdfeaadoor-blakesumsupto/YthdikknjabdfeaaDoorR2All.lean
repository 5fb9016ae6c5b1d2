/-
  What cartoucheref02.all answers.
-/
import Derived.Test.YthdikknjabdfeaaDoorR2Block
import Derived.Test.YthdikknjabdfeaaDoorR2Pad
import Derived.Test.YthdikknjabdfeaaDoorHeads
namespace Go.Proofs.YthdikknjabdfeaaDoor
open Go.RowKit
set_option linter.unusedVariables false
attribute [local go_sem] ba_size ba_get ba_extract take_drop_end wv_get wv_getE wv_set wv_size
theorem rwv8 (H : List Int) (h : H.length = 8) : wv H = #[.int .u32 (at_ H 0), .int .u32 (at_ H 1), .int .u32 (at_ H 2), .int .u32 (at_ H 3), .int .u32 (at_ H 4), .int .u32 (at_ H 5), .int .u32 (at_ H 6), .int .u32 (at_ H 7)] := by
  match H, h with
  | [a, b, c, d, e, f, g, i], _ => rfl
theorem fl_at (H : List Int) (i q : Nat) (hq : q < 4) (h : 4 * i + q < (fl H 32).length) : (fl H 32)[4 * i + q]'h = UInt8.ofNat (at_ H i / 256 ^ q % 256).toNat := by
  have h32 : 4 * i + q < 32 := by rw [fl_len] at h; exact h
  simp only [fl, List.getElem_map, List.getElem_range, if_pos h32]
  rw [show (4 * i + q) / 4 = i by omega, show (4 * i + q) % 4 = q by omega, Int.pow_mul]
  rfl
set_option maxRecDepth 100000 in
set_option maxHeartbeats 8000000 in
theorem rall_any (H : List Int) (hH : H.length = 8) (S : List UInt8) (hS : S.length ≤ 9223372036854775000) (w : World) :
    Calls Tryd.prog 32 #[.agg (wv H), .string ⟨S.toArray⟩] w fun e w' => e = .returned (.string ⟨(fl (foldL H S) 32).toArray⟩) ∧ Below w.heap.size w w' := by
  have hHs : (wv H).size = 8 := by rw [wv_size, hH]
  have s8 := rsize8_true
  obtain ⟨i0, hi, hz0, hz1, hz2⟩ := info_parts byte_info
  go_enter Tryd.func32, Tryd.ntmps32
  go_wp2
  go_loopw [5] (fun i wr => ∃ k : Nat, Hid (k = 0 ∨ 64 * k < S.length) ∧ i = .int .i64 (64 * (k : Int)) ∧ Hid (Row wr w.heap.size 24 (fk H S k)) ∧ Below w.heap.size w wr) (fun i _ => S.length - (intOf i).toNat)
  case atStart => exact ⟨0, (Or.inl rfl : _ ∨ _), rfl, heap_alloc_new w _, (Below.refl _ _).alloc (Nat.le_refl _) _⟩
  case round =>
    obtain ⟨k, hk, rfl, HR, hbw⟩ := hrel
    have lk := fk_len H S hH k
    have hrow : wr.heap[w.heap.size]? = some (.cells (wv (fk H S k)) 24 (0, 0)) := HR.out
    have hgl : w.heap.size < wr.heap.size := HR.out.lt
    have hkS : 64 * k ≤ S.length := by have := hk.out; omega
    have y0 : IntKind.i64.wrap (64 * (k : Int) + 64) = 64 * (k : Int) + 64 := by rw [IntKind.wrap_i64]; omega
    by_cases hlt : 64 * k + 64 < S.length
    · have i1 : 64 * (k : Int) + 64 < (S.length : Int) := by omega
      have i2 : 64 * (k : Int) + 64 ≤ (S.length : Int) := by omega
      have i3 : (0 : Int) ≤ 64 * (k : Int) := by omega
      have i5 : (64 * (k : Int)).toNat = 64 * k := by omega
      have i6 : (64 * (k : Int) + 64).toNat = 64 * k + 64 := by omega
      have i7 : 64 * (k : Int) ≤ 64 * (k : Int) + 64 := by omega
      have e64 : 64 * k + 64 - 64 * k = 64 := by omega
      have y1 : IntKind.u64.wrap (64 * (k : Int) + 64) = 64 * (k : Int) + 64 := by rw [IntKind.wrap_u64]; omega
      have lb : ((S.drop (64 * k)).take 64).length = 64 := by simp; omega
      have lk1 := fk_len H S hH (k + 1)
      obtain ⟨H1, hH1⟩ : ∃ H1, fk H S (k + 1) = H1 := ⟨_, rfl⟩
      have hC : ∀ w1, Calls Tryd.prog 15 #[.agg #[.int .u32 (at_ (fk H S k) 0), .int .u32 (at_ (fk H S k) 1), .int .u32 (at_ (fk H S k) 2), .int .u32 (at_ (fk H S k) 3), .int .u32 (at_ (fk H S k) 4), .int .u32 (at_ (fk H S k) 5), .int .u32 (at_ (fk H S k) 6), .int .u32 (at_ (fk H S k) 7)], .string ⟨((S.drop (64 * k)).take 64).toArray⟩, .int .u64 (64 * (k : Int) + 64), .bool false] w1 fun e w' => e = .returned (.tuple #[.agg (wv H1), .int .i64 0]) ∧ Below w1.heap.size w1 w' := fun w1 => by
        have h := rblock_good (fk H S k) lk ((S.drop (64 * k)).take 64) lb (64 * (k + 1)) (by omega) false w1
        rw [show ((64 * (k + 1) : Nat) : Int) = 64 * (k : Int) + 64 by omega, rwv8 (fk H S k) lk, show blockL (fk H S k) ((S.drop (64 * k)).take 64) (64 * (k + 1)) false = H1 by rw [← hH1]; rfl] at h
        exact h
      rw [hH1] at lk1
      have hsz1 : (Tryd.prog.info? 24).map (·.size) = some (wv H1).size := by rw [s8, wv_size, lk1]
      have c0 : (wr).cell? ⟨w.heap.size, 0, none⟩ = some (.int .u32 (at_ (fk H S k) 0)) := by rw [(HR.out).cell 0 (by omega), at_eq]
      have c1 : (wr).cell? ⟨w.heap.size, 1, none⟩ = some (.int .u32 (at_ (fk H S k) 1)) := by rw [(HR.out).cell 1 (by omega), at_eq]
      have c2 : (wr).cell? ⟨w.heap.size, 2, none⟩ = some (.int .u32 (at_ (fk H S k) 2)) := by rw [(HR.out).cell 2 (by omega), at_eq]
      have c3 : (wr).cell? ⟨w.heap.size, 3, none⟩ = some (.int .u32 (at_ (fk H S k) 3)) := by rw [(HR.out).cell 3 (by omega), at_eq]
      have c4 : (wr).cell? ⟨w.heap.size, 4, none⟩ = some (.int .u32 (at_ (fk H S k) 4)) := by rw [(HR.out).cell 4 (by omega), at_eq]
      have c5 : (wr).cell? ⟨w.heap.size, 5, none⟩ = some (.int .u32 (at_ (fk H S k) 5)) := by rw [(HR.out).cell 5 (by omega), at_eq]
      have c6 : (wr).cell? ⟨w.heap.size, 6, none⟩ = some (.int .u32 (at_ (fk H S k) 6)) := by rw [(HR.out).cell 6 (by omega), at_eq]
      have c7 : (wr).cell? ⟨w.heap.size, 7, none⟩ = some (.int .u32 (at_ (fk H S k) 7)) := by rw [(HR.out).cell 7 (by omega), at_eq]
      go_wp2_with fail
      refine wp_region_any (by kernel_rfl) ?_
      change wpAny _ _ _ _ _ _ _ (World.drew _)
      refine wpAny_take (i := 1) (v := .string ⟨S.toArray⟩) rfl (by kernel_rfl) (by kernel_rfl) (by kernel_rfl) (fun _ _ _ h => h) (Or.inl ⟨by rfl, fun w => by go_simp⟩) ?_
      refine wpAny_take (i := 2) (v := .int .i64 (64 * (k : Int))) rfl (by kernel_rfl) (by kernel_rfl) (by kernel_rfl) (fun _ _ _ h => h) (Or.inl ⟨by rfl, fun w => by go_simp⟩) ?_
      refine wpAny_take (i := 3) (v := .int .i64 (64 * (k : Int))) rfl (by kernel_rfl) (by kernel_rfl) (by kernel_rfl) (fun _ _ _ h => h) (Or.inl ⟨by rfl, fun w => by go_simp⟩) ?_
      refine wpAny_take (i := 4) (v := .int .i64 (64 * (k : Int) + 64)) rfl (by kernel_rfl) (by kernel_rfl) (by kernel_rfl) (fun _ _ _ h => h) (Or.inl ⟨by rfl, fun w => by go_simp⟩) ?_
      refine wpAny_take (i := 5) (v := .string ⟨((S.drop (64 * k)).take 64).toArray⟩) rfl (by kernel_rfl) (by kernel_rfl) (by kernel_rfl) (fun _ _ _ h => h) (Or.inl ⟨by rfl, fun w => by go_simp⟩) ?_
      refine wpAny_take (i := 6) (v := .int .i64 (64 * (k : Int))) rfl (by kernel_rfl) (by kernel_rfl) (by kernel_rfl) (fun _ _ _ h => h) (Or.inl ⟨by rfl, fun w => by go_simp⟩) ?_
      refine wpAny_take (i := 7) (v := .int .i64 (64 * (k : Int) + 64)) rfl (by kernel_rfl) (by kernel_rfl) (by kernel_rfl) (fun _ _ _ h => h) (Or.inl ⟨by rfl, fun w => by go_simp⟩) ?_
      refine wpAny_take (i := 8) (v := .int .u64 (64 * (k : Int) + 64)) rfl (by kernel_rfl) (by kernel_rfl) (by kernel_rfl) (fun _ _ _ h => h) (Or.inl ⟨by rfl, fun w => by go_simp⟩) ?_
      refine wpAny_ready (rs := [0]) (by kernel_rfl) (by simp) ?_
      refine AllReady.cons rfl (fun K' hK => ?_) AllReady.nil
      go_simp
      refine hK _ _ ?_
      clear hK K'
      refine wpAny_ready (rs := [9]) (by kernel_rfl) (by simp) ?_
      refine AllReady.cons rfl (fun K' hK => ?_) AllReady.nil
      go_simp
      refine (hC wr.drew).mono ?_
      rintro e w1 ⟨rfl, hb1⟩
      have hs1 : wr.heap.size ≤ w1.heap.size := hb1.size
      have hr1 : w1.heap[w.heap.size]? = some (.cells (wv (fk H S k)) 24 (0, 0)) := (hb1.block _ hgl).trans hrow
      have hbw1 : Below w.heap.size w w1 := hbw.drew.trans (hb1.mono (by show w.heap.size ≤ wr.heap.size; omega))
      refine hK _ _ ?_
      clear hK K'
      refine wpAny_take (i := 10) (v := .tuple #[.agg (wv H1), .int .i64 0]) rfl (by kernel_rfl) (by kernel_rfl) (by kernel_rfl) (fun _ _ _ h => h) (Or.inl ⟨by rfl, fun w => by go_simp⟩) ?_
      refine wpAny_take (i := 11) (v := .agg (wv H1)) rfl (by kernel_rfl) (by kernel_rfl) (by kernel_rfl) (fun _ _ _ h => h) (Or.inl ⟨by rfl, fun w => by go_simp⟩) ?_
      refine wpAny_take (i := 12) (v := .int .i64 0) rfl (by kernel_rfl) (by kernel_rfl) (by kernel_rfl) (fun _ _ _ h => h) (Or.inl ⟨by rfl, fun w => by go_simp⟩) ?_
      refine any_seqI [13] [_] _ _ _ rfl (by kernel_rfl) ?_
      refine wpList_store_row rfl 24 _ _ rfl w.heap.size (wv H1) rfl rfl 24 (wv (fk H S k)) hr1 hsz1 (by rw [wv_size, wv_size, lk, lk1]) (wv_one _) ?_
      have rh3 : (w1.setRow w.heap.size (wv H1)).heap[w.heap.size]? = some (.cells (wv H1) 24 (0, 0)) := setRow_heap _ _ _ _ _ _ hr1
      have hb3 : Below w.heap.size w (w1.setRow w.heap.size (wv H1)) := below_setRow hbw1 (by omega) _
      obtain ⟨w3, hw3⟩ : ∃ w3, w1.setRow w.heap.size (wv H1) = w3 := ⟨_, rfl⟩
      change wpList _ _ _ _ _ (w1.setRow w.heap.size (wv H1))
      rw [hw3] at rh3 hb3 ⊢
      clear hw3
      go_wp2_with fail
      refine ⟨?relA, ?measureA⟩
      case relA => exact ⟨k + 1, (Or.inr (by omega) : _ ∨ _), by first | go_num | omega, by rw [hH1]; exact rh3, hb3⟩
      case measureA => simp [intOf]; omega
    · have i1 : ¬ 64 * (k : Int) + 64 < (S.length : Int) := by omega
      have i2 : 64 * (k : Int) ≤ (S.length : Int) := by omega
      have i3 : (0 : Int) ≤ 64 * (k : Int) := by omega
      have i5 : (64 * (k : Int)).toNat = 64 * k := by omega
      have y1 : IntKind.u64.wrap (S.length : Int) = S.length := by rw [IntKind.wrap_u64]; omega
      have hnb : nb S = k := nb_of S k hk.out (by omega)
      have ld : (S.drop (64 * k)).length ≤ 64 := by simp; omega
      have hfold : foldL H S = blockL (fk H S k) (padL (S.drop (64 * k))) S.length true := by unfold foldL; rw [hnb]
      have lp := padL_len _ ld
      have lr := foldL_len H S
      have rng := foldL_rng H S
      obtain ⟨R, hR⟩ : ∃ R, foldL H S = R := ⟨_, rfl⟩
      have hC : ∀ w1, Calls Tryd.prog 15 #[.agg #[.int .u32 (at_ (fk H S k) 0), .int .u32 (at_ (fk H S k) 1), .int .u32 (at_ (fk H S k) 2), .int .u32 (at_ (fk H S k) 3), .int .u32 (at_ (fk H S k) 4), .int .u32 (at_ (fk H S k) 5), .int .u32 (at_ (fk H S k) 6), .int .u32 (at_ (fk H S k) 7)], .string ⟨(padL (S.drop (64 * k))).toArray⟩, .int .u64 S.length, .bool true] w1 fun e w' => e = .returned (.tuple #[.agg (wv R), .int .i64 0]) ∧ Below w1.heap.size w1 w' := fun w1 => by
        have h := rblock_good (fk H S k) lk (padL (S.drop (64 * k))) lp S.length (by omega) true w1
        rw [rwv8 (fk H S k) lk, ← hfold, hR] at h
        exact h
      obtain ⟨D, hDD⟩ : ∃ D, fl R 32 = D := ⟨_, rfl⟩
      have hDg : ∀ i q, q < 4 → ∀ h : 4 * i + q < D.length, D[4 * i + q]'h = UInt8.ofNat (at_ R i / 256 ^ q % 256).toNat := by intro i q hq h; subst hDD; exact fl_at R i q hq h
      have lD : D.length = 32 := by rw [← hDD]; exact fl_len R 32
      have HD : Hid (fl (foldL H S) 32 = D) := by rw [hR]; exact hDD
      rw [hR] at lr rng
      have hszR : (Tryd.prog.info? 24).map (·.size) = some (wv R).size := by rw [s8, wv_size, lr]
      clear hfold hR hnb hDD
      have c0 : (wr).cell? ⟨w.heap.size, 0, none⟩ = some (.int .u32 (at_ (fk H S k) 0)) := by rw [(HR.out).cell 0 (by omega), at_eq]
      have c1 : (wr).cell? ⟨w.heap.size, 1, none⟩ = some (.int .u32 (at_ (fk H S k) 1)) := by rw [(HR.out).cell 1 (by omega), at_eq]
      have c2 : (wr).cell? ⟨w.heap.size, 2, none⟩ = some (.int .u32 (at_ (fk H S k) 2)) := by rw [(HR.out).cell 2 (by omega), at_eq]
      have c3 : (wr).cell? ⟨w.heap.size, 3, none⟩ = some (.int .u32 (at_ (fk H S k) 3)) := by rw [(HR.out).cell 3 (by omega), at_eq]
      have c4 : (wr).cell? ⟨w.heap.size, 4, none⟩ = some (.int .u32 (at_ (fk H S k) 4)) := by rw [(HR.out).cell 4 (by omega), at_eq]
      have c5 : (wr).cell? ⟨w.heap.size, 5, none⟩ = some (.int .u32 (at_ (fk H S k) 5)) := by rw [(HR.out).cell 5 (by omega), at_eq]
      have c6 : (wr).cell? ⟨w.heap.size, 6, none⟩ = some (.int .u32 (at_ (fk H S k) 6)) := by rw [(HR.out).cell 6 (by omega), at_eq]
      have c7 : (wr).cell? ⟨w.heap.size, 7, none⟩ = some (.int .u32 (at_ (fk H S k) 7)) := by rw [(HR.out).cell 7 (by omega), at_eq]
      go_wp2_with fail
      refine wp_region_any (by kernel_rfl) ?_
      change wpAny _ _ _ _ _ _ _ (World.drew _)
      refine wpAny_take (i := 1) (v := .string ⟨S.toArray⟩) rfl (by kernel_rfl) (by kernel_rfl) (by kernel_rfl) (fun _ _ _ h => h) (Or.inl ⟨by rfl, fun w => by go_simp⟩) ?_
      refine wpAny_take (i := 2) (v := .int .i64 (64 * (k : Int))) rfl (by kernel_rfl) (by kernel_rfl) (by kernel_rfl) (fun _ _ _ h => h) (Or.inl ⟨by rfl, fun w => by go_simp⟩) ?_
      refine wpAny_take (i := 3) (v := .string ⟨(S.drop (64 * k)).toArray⟩) rfl (by kernel_rfl) (by kernel_rfl) (by kernel_rfl) (fun _ _ _ h => h) (Or.inl ⟨by rfl, fun w => by go_simp⟩) ?_
      refine wpAny_take (i := 5) (v := .string ⟨S.toArray⟩) rfl (by kernel_rfl) (by kernel_rfl) (by kernel_rfl) (fun _ _ _ h => h) (Or.inl ⟨by rfl, fun w => by go_simp⟩) ?_
      refine wpAny_take (i := 6) (v := .int .i64 S.length) rfl (by kernel_rfl) (by kernel_rfl) (by kernel_rfl) (fun _ _ _ h => h) (Or.inl ⟨by rfl, fun w => by go_simp⟩) ?_
      refine wpAny_take (i := 7) (v := .int .u64 S.length) rfl (by kernel_rfl) (by kernel_rfl) (by kernel_rfl) (fun _ _ _ h => h) (Or.inl ⟨by rfl, fun w => by go_simp⟩) ?_
      refine wpAny_ready (rs := [0, 4]) (by kernel_rfl) (by simp) ?_
      refine AllReady.cons rfl (fun K' hK => ?_) ?_
      · go_simp
        refine hK _ _ ?_
        clear hK K'
        refine wpAny_ready (rs := [4]) (by kernel_rfl) (by simp) ?_
        refine AllReady.cons rfl (fun K' hK => ?_) AllReady.nil
        go_simp
        refine (rpad_any _ ld _).mono ?_
        rintro e w2 ⟨rfl, hb2⟩
        have hR2 : Row w2 w.heap.size 24 (fk H S k) := (hb2.block _ hgl).trans hrow
        have hbw2 : Below w.heap.size w w2 := hbw.drew.trans (hb2.mono (by show w.heap.size ≤ wr.heap.size; omega))
        refine hK _ _ ?_
        clear hK K'
        refine wpAny_ready (rs := [8]) (by kernel_rfl) (by simp) ?_
        refine AllReady.cons rfl (fun K' hK => ?_) AllReady.nil
        go_simp
        refine (hC w2).mono ?_
        rintro e w4 ⟨rfl, hb4⟩
        have hr4 : w4.heap[w.heap.size]? = some (.cells (wv (fk H S k)) 24 (0, 0)) := (hb4.block _ hR2.lt).trans hR2
        have hbw4 : Below w.heap.size w w4 := hbw2.trans (hb4.mono hbw2.size)
        refine hK _ _ ?_
        clear hK K'
        refine wpAny_take (i := 9) (v := .tuple #[.agg (wv R), .int .i64 0]) rfl (by kernel_rfl) (by kernel_rfl) (by kernel_rfl) (fun _ _ _ h => h) (Or.inl ⟨by rfl, fun w => by go_simp⟩) ?_
        refine wpAny_take (i := 10) (v := .agg (wv R)) rfl (by kernel_rfl) (by kernel_rfl) (by kernel_rfl) (fun _ _ _ h => h) (Or.inl ⟨by rfl, fun w => by go_simp⟩) ?_
        refine wpAny_take (i := 11) (v := .int .i64 0) rfl (by kernel_rfl) (by kernel_rfl) (by kernel_rfl) (fun _ _ _ h => h) (Or.inl ⟨by rfl, fun w => by go_simp⟩) ?_
        refine any_seqI [12] [_] _ _ _ rfl (by kernel_rfl) ?_
        refine wpList_store_row rfl 24 _ _ rfl w.heap.size (wv R) rfl rfl 24 (wv (fk H S k)) hr4 hszR (by rw [wv_size, wv_size, lk, lr]) (wv_one _) ?_
        have rh5 : (w4.setRow w.heap.size (wv R)).heap[w.heap.size]? = some (.cells (wv R) 24 (0, 0)) := setRow_heap _ _ _ _ _ _ hr4
        have hb5 : Below w.heap.size w (w4.setRow w.heap.size (wv R)) := below_setRow hbw4 (by omega) _
        obtain ⟨w5, hw5⟩ : ∃ w5, w4.setRow w.heap.size (wv R) = w5 := ⟨_, rfl⟩
        change wpList _ _ _ _ _ (w4.setRow w.heap.size (wv R))
        rw [hw5] at rh5 hb5 ⊢
        clear hw5
        go_wp2_with fail
        have hlt5 : w.heap.size < w5.heap.size := Row.lt rh5
        go_loopw [6, 7] (fun v i wq => ∃ j : Nat, j ≤ 8 ∧ i = .int .i64 j ∧ Hid (wq.ownsRow w5.heap.size 5 1 v (4 * j) (Lib.byteCells (D.take (4 * j)))) ∧ Hid (Row wq w.heap.size 24 R) ∧ Below w.heap.size w wq ∧ w5.heap.size ≤ wq.heap.size) (fun _ i _ => 8 - (intOf i).toNat)
        case atStart => exact ⟨0, by omega, rfl, World.ownsRow_nil _ _ _ _, rh5, hb5, Nat.le_refl _⟩
        case round =>
          obtain ⟨j, hj, rfl, HO, HR7, hbw7, hs7⟩ := hrel
          by_cases hl3 : j < 8
          · have i4 : (j : Int) < 8 := by omega
            have rj := rng j hl3
            have c0 : wr.cell? ⟨w.heap.size, j, none⟩ = some (.int .u32 (at_ R j)) := by rw [HR7.out.cell j (by omega), at_eq]
            obtain ⟨X, hX⟩ : ∃ X, at_ R j = X := ⟨_, rfl⟩
            have hDX : ∀ q, q < 4 → ∀ h : 4 * j + q < D.length, D[4 * j + q]'h = UInt8.ofNat (X / 256 ^ q % 256).toNat := by
              intro q hq h
              rw [← hX]
              exact hDg j q hq h
            rw [hX] at c0 rj
            clear hX
            go_wp2_with fail
            go_loopw [6, 8, 9] (fun v y i wq => ∃ q : Nat, q ≤ 4 ∧ i = .int .i64 q ∧ y = .int .u32 (X / 256 ^ q) ∧ Hid (wq.ownsRow w5.heap.size 5 1 v (4 * j + q) (Lib.byteCells (D.take (4 * j + q)))) ∧ Hid (Row wq w.heap.size 24 R) ∧ Below w.heap.size w wq ∧ w5.heap.size ≤ wq.heap.size) (fun _ _ i _ => 4 - (intOf i).toNat)
            case atStart => exact ⟨0, by omega, rfl, by simp, HO, HR7, hbw7, hs7⟩
            case round =>
              obtain ⟨q, hq, rfl, rfl, HO, HR8, hbw8, hs8⟩ := hrel
              by_cases hl4 : q < 4
              · have i5 : (q : Int) < 4 := by omega
                have hd := hDX q hl4 (by omega)
                have hnext : X / 256 ^ (q + 1) = X / 256 ^ q / 256 := by rw [Int.pow_succ, Int.ediv_ediv_of_nonneg (Int.pow_nonneg (by omega))]
                have hnn : 0 ≤ X / 256 ^ q := Int.ediv_nonneg rj.1 (Int.pow_nonneg (by omega))
                have hle : X / 256 ^ q < 4294967296 := by
                  have h1 : X / 256 ^ q ≤ X := Int.ediv_le_self _ rj.1
                  omega
                obtain ⟨Y, hY⟩ : ∃ Y, X / 256 ^ q = Y := ⟨_, rfl⟩
                have HN : Hid (X / 256 ^ (q + 1) = Y / 256) := by rw [← hY]; exact hnext
                rw [hY] at hd hnn hle
                simp only [hY]
                clear hnext hY
                have x1 : IntKind.u8.wrap (Y % 256) = Y % 256 := by rw [IntKind.wrap_u8]; omega
                go_wp2_with (at_builtin; refine wpList_append_own _ rfl _ _ 64 rfl w5.heap.size 5 i0 (.int .u8 0) 1 1 Tryd.underlying64 hi hz0 hz1 hz2 rfl (by decide) _ _ _ rfl (HO.out.alloc _) ⟨wr.heap.size, 0, none⟩ 1 1 [.int .u8 (Y % 256)] rfl rfl ?d1x ?d2x ?d3x ?d4x ?d5x ?_)
                case d1x =>
                  intro j u hj
                  match j, hj with
                  | 0, hj => simp at hj; subst hj; simp [Addr.add]
                case d2x => intro u hu; simp at hu; subst hu; rfl
                case d3x => unfold maxLen; omega
                case d4x => omega
                case d5x => simp; omega
                intro v' w6 hown6 hgrow6 _
                have hblk : ∀ k, (u6 : Value).ownBlock = some k → w5.heap.size ≤ k := fun k hk => by
                  rcases HO.out.2 with ⟨hv, _⟩ | ⟨g, cap, cur, hv, hbg, _⟩
                  · rw [hv] at hk; simp [Value.ownBlock] at hk
                  · rw [hv] at hk; simp [Value.ownBlock] at hk; omega
                have hR9 : Row w6 w.heap.size 24 R := (hgrow6.block _ (by simp; have := HR8.out.lt; omega) (fun e => by have := hblk _ e.symm; omega)).trans (HR8.out.alloc _)
                have hbw9 : Below w.heap.size w w6 := (hbw8.alloc (by omega) _).grown hgrow6 (by simp; omega) (fun k hk => by have := hblk k hk; omega)
                have hs9 : w5.heap.size ≤ w6.heap.size := by have := hgrow6.size; simp at this; omega
                have HO9 : w6.ownsRow w5.heap.size 5 1 v' (4 * j + (q + 1)) (Lib.byteCells (D.take (4 * j + (q + 1)))) := by
                  have e : D.take (4 * j + (q + 1)) = D.take (4 * j + q) ++ [D[4 * j + q]'(by omega)] := by rw [← Nat.add_assoc, List.take_add_one, List.getElem?_eq_getElem (show 4 * j + q < D.length by omega)]; rfl
                  rw [e, ← byteCells_append, hd, ← Nat.add_assoc]
                  rw [byte_of Y] at hown6
                  exact hown6
                clear hown6 hgrow6
                go_wp2_with fail
                refine ⟨?relCx, ?measureCx⟩
                case relCx => exact ⟨q + 1, by omega, by go_num, by rw [HN.out], HO9, hR9, hbw9, hs9⟩
                case measureCx => simp [intOf]; omega
              · obtain rfl : q = 4 := by omega
                go_wp2_with fail
                refine ⟨?relBx, ?measureBx⟩
                case relBx => exact ⟨j + 1, by omega, by go_num, by rw [Nat.mul_add]; exact HO, HR8, hbw8, hs8⟩
                case measureBx => simp [intOf]; omega
          · obtain rfl : j = 8 := by omega
            have e32 : D.take (4 * 8) = D := List.take_of_length_le (by omega)
            have hO8 := HO.out
            rw [e32] at hO8
            have hst := owns_string (P := Tryd.prog) hO8 (by omega) 64 9 Tryd.underlying64 Tryd.underlying5 Tryd.underlying9
            clear HO hO8 e32
            go_wp2_with fail
            go_ret
            exact ⟨by rw [HD.out]; rfl, hbw7⟩
      · refine AllReady.cons rfl (fun K' hK => ?_) AllReady.nil
        go_simp
        refine (rpad_any _ ld _).mono ?_
        rintro e w2 ⟨rfl, hb2⟩
        have hR2 : Row w2 w.heap.size 24 (fk H S k) := (hb2.block _ hgl).trans hrow
        have hbw2 : Below w.heap.size w w2 := hbw.drew.trans (hb2.mono (by show w.heap.size ≤ wr.heap.size; omega))
        have d0 : (w2).cell? ⟨w.heap.size, 0, none⟩ = some (.int .u32 (at_ (fk H S k) 0)) := by rw [(hR2).cell 0 (by omega), at_eq]
        have d1 : (w2).cell? ⟨w.heap.size, 1, none⟩ = some (.int .u32 (at_ (fk H S k) 1)) := by rw [(hR2).cell 1 (by omega), at_eq]
        have d2 : (w2).cell? ⟨w.heap.size, 2, none⟩ = some (.int .u32 (at_ (fk H S k) 2)) := by rw [(hR2).cell 2 (by omega), at_eq]
        have d3 : (w2).cell? ⟨w.heap.size, 3, none⟩ = some (.int .u32 (at_ (fk H S k) 3)) := by rw [(hR2).cell 3 (by omega), at_eq]
        have d4 : (w2).cell? ⟨w.heap.size, 4, none⟩ = some (.int .u32 (at_ (fk H S k) 4)) := by rw [(hR2).cell 4 (by omega), at_eq]
        have d5 : (w2).cell? ⟨w.heap.size, 5, none⟩ = some (.int .u32 (at_ (fk H S k) 5)) := by rw [(hR2).cell 5 (by omega), at_eq]
        have d6 : (w2).cell? ⟨w.heap.size, 6, none⟩ = some (.int .u32 (at_ (fk H S k) 6)) := by rw [(hR2).cell 6 (by omega), at_eq]
        have d7 : (w2).cell? ⟨w.heap.size, 7, none⟩ = some (.int .u32 (at_ (fk H S k) 7)) := by rw [(hR2).cell 7 (by omega), at_eq]
        refine hK _ _ ?_
        clear hK K'
        refine wpAny_ready (rs := [0]) (by kernel_rfl) (by simp) ?_
        refine AllReady.cons rfl (fun K' hK => ?_) AllReady.nil
        go_simp
        refine hK _ _ ?_
        clear hK K'
        refine wpAny_ready (rs := [8]) (by kernel_rfl) (by simp) ?_
        refine AllReady.cons rfl (fun K' hK => ?_) AllReady.nil
        go_simp
        refine (hC w2).mono ?_
        rintro e w4 ⟨rfl, hb4⟩
        have hr4 : w4.heap[w.heap.size]? = some (.cells (wv (fk H S k)) 24 (0, 0)) := (hb4.block _ hR2.lt).trans hR2
        have hbw4 : Below w.heap.size w w4 := hbw2.trans (hb4.mono hbw2.size)
        refine hK _ _ ?_
        clear hK K'
        refine wpAny_take (i := 9) (v := .tuple #[.agg (wv R), .int .i64 0]) rfl (by kernel_rfl) (by kernel_rfl) (by kernel_rfl) (fun _ _ _ h => h) (Or.inl ⟨by rfl, fun w => by go_simp⟩) ?_
        refine wpAny_take (i := 10) (v := .agg (wv R)) rfl (by kernel_rfl) (by kernel_rfl) (by kernel_rfl) (fun _ _ _ h => h) (Or.inl ⟨by rfl, fun w => by go_simp⟩) ?_
        refine wpAny_take (i := 11) (v := .int .i64 0) rfl (by kernel_rfl) (by kernel_rfl) (by kernel_rfl) (fun _ _ _ h => h) (Or.inl ⟨by rfl, fun w => by go_simp⟩) ?_
        refine any_seqI [12] [_] _ _ _ rfl (by kernel_rfl) ?_
        refine wpList_store_row rfl 24 _ _ rfl w.heap.size (wv R) rfl rfl 24 (wv (fk H S k)) hr4 hszR (by rw [wv_size, wv_size, lk, lr]) (wv_one _) ?_
        have rh5 : (w4.setRow w.heap.size (wv R)).heap[w.heap.size]? = some (.cells (wv R) 24 (0, 0)) := setRow_heap _ _ _ _ _ _ hr4
        have hb5 : Below w.heap.size w (w4.setRow w.heap.size (wv R)) := below_setRow hbw4 (by omega) _
        obtain ⟨w5, hw5⟩ : ∃ w5, w4.setRow w.heap.size (wv R) = w5 := ⟨_, rfl⟩
        change wpList _ _ _ _ _ (w4.setRow w.heap.size (wv R))
        rw [hw5] at rh5 hb5 ⊢
        clear hw5
        go_wp2_with fail
        have hlt5 : w.heap.size < w5.heap.size := Row.lt rh5
        go_loopw [6, 7] (fun v i wq => ∃ j : Nat, j ≤ 8 ∧ i = .int .i64 j ∧ Hid (wq.ownsRow w5.heap.size 5 1 v (4 * j) (Lib.byteCells (D.take (4 * j)))) ∧ Hid (Row wq w.heap.size 24 R) ∧ Below w.heap.size w wq ∧ w5.heap.size ≤ wq.heap.size) (fun _ i _ => 8 - (intOf i).toNat)
        case atStart => exact ⟨0, by omega, rfl, World.ownsRow_nil _ _ _ _, rh5, hb5, Nat.le_refl _⟩
        case round =>
          obtain ⟨j, hj, rfl, HO, HR7, hbw7, hs7⟩ := hrel
          by_cases hl3 : j < 8
          · have i4 : (j : Int) < 8 := by omega
            have rj := rng j hl3
            have c0 : wr.cell? ⟨w.heap.size, j, none⟩ = some (.int .u32 (at_ R j)) := by rw [HR7.out.cell j (by omega), at_eq]
            obtain ⟨X, hX⟩ : ∃ X, at_ R j = X := ⟨_, rfl⟩
            have hDX : ∀ q, q < 4 → ∀ h : 4 * j + q < D.length, D[4 * j + q]'h = UInt8.ofNat (X / 256 ^ q % 256).toNat := by
              intro q hq h
              rw [← hX]
              exact hDg j q hq h
            rw [hX] at c0 rj
            clear hX
            go_wp2_with fail
            go_loopw [6, 8, 9] (fun v y i wq => ∃ q : Nat, q ≤ 4 ∧ i = .int .i64 q ∧ y = .int .u32 (X / 256 ^ q) ∧ Hid (wq.ownsRow w5.heap.size 5 1 v (4 * j + q) (Lib.byteCells (D.take (4 * j + q)))) ∧ Hid (Row wq w.heap.size 24 R) ∧ Below w.heap.size w wq ∧ w5.heap.size ≤ wq.heap.size) (fun _ _ i _ => 4 - (intOf i).toNat)
            case atStart => exact ⟨0, by omega, rfl, by simp, HO, HR7, hbw7, hs7⟩
            case round =>
              obtain ⟨q, hq, rfl, rfl, HO, HR8, hbw8, hs8⟩ := hrel
              by_cases hl4 : q < 4
              · have i5 : (q : Int) < 4 := by omega
                have hd := hDX q hl4 (by omega)
                have hnext : X / 256 ^ (q + 1) = X / 256 ^ q / 256 := by rw [Int.pow_succ, Int.ediv_ediv_of_nonneg (Int.pow_nonneg (by omega))]
                have hnn : 0 ≤ X / 256 ^ q := Int.ediv_nonneg rj.1 (Int.pow_nonneg (by omega))
                have hle : X / 256 ^ q < 4294967296 := by
                  have h1 : X / 256 ^ q ≤ X := Int.ediv_le_self _ rj.1
                  omega
                obtain ⟨Y, hY⟩ : ∃ Y, X / 256 ^ q = Y := ⟨_, rfl⟩
                have HN : Hid (X / 256 ^ (q + 1) = Y / 256) := by rw [← hY]; exact hnext
                rw [hY] at hd hnn hle
                simp only [hY]
                clear hnext hY
                have x1 : IntKind.u8.wrap (Y % 256) = Y % 256 := by rw [IntKind.wrap_u8]; omega
                go_wp2_with (at_builtin; refine wpList_append_own _ rfl _ _ 64 rfl w5.heap.size 5 i0 (.int .u8 0) 1 1 Tryd.underlying64 hi hz0 hz1 hz2 rfl (by decide) _ _ _ rfl (HO.out.alloc _) ⟨wr.heap.size, 0, none⟩ 1 1 [.int .u8 (Y % 256)] rfl rfl ?d1y ?d2y ?d3y ?d4y ?d5y ?_)
                case d1y =>
                  intro j u hj
                  match j, hj with
                  | 0, hj => simp at hj; subst hj; simp [Addr.add]
                case d2y => intro u hu; simp at hu; subst hu; rfl
                case d3y => unfold maxLen; omega
                case d4y => omega
                case d5y => simp; omega
                intro v' w6 hown6 hgrow6 _
                have hblk : ∀ k, (u6 : Value).ownBlock = some k → w5.heap.size ≤ k := fun k hk => by
                  rcases HO.out.2 with ⟨hv, _⟩ | ⟨g, cap, cur, hv, hbg, _⟩
                  · rw [hv] at hk; simp [Value.ownBlock] at hk
                  · rw [hv] at hk; simp [Value.ownBlock] at hk; omega
                have hR9 : Row w6 w.heap.size 24 R := (hgrow6.block _ (by simp; have := HR8.out.lt; omega) (fun e => by have := hblk _ e.symm; omega)).trans (HR8.out.alloc _)
                have hbw9 : Below w.heap.size w w6 := (hbw8.alloc (by omega) _).grown hgrow6 (by simp; omega) (fun k hk => by have := hblk k hk; omega)
                have hs9 : w5.heap.size ≤ w6.heap.size := by have := hgrow6.size; simp at this; omega
                have HO9 : w6.ownsRow w5.heap.size 5 1 v' (4 * j + (q + 1)) (Lib.byteCells (D.take (4 * j + (q + 1)))) := by
                  have e : D.take (4 * j + (q + 1)) = D.take (4 * j + q) ++ [D[4 * j + q]'(by omega)] := by rw [← Nat.add_assoc, List.take_add_one, List.getElem?_eq_getElem (show 4 * j + q < D.length by omega)]; rfl
                  rw [e, ← byteCells_append, hd, ← Nat.add_assoc]
                  rw [byte_of Y] at hown6
                  exact hown6
                clear hown6 hgrow6
                go_wp2_with fail
                refine ⟨?relCy, ?measureCy⟩
                case relCy => exact ⟨q + 1, by omega, by go_num, by rw [HN.out], HO9, hR9, hbw9, hs9⟩
                case measureCy => simp [intOf]; omega
              · obtain rfl : q = 4 := by omega
                go_wp2_with fail
                refine ⟨?relBy, ?measureBy⟩
                case relBy => exact ⟨j + 1, by omega, by go_num, by rw [Nat.mul_add]; exact HO, HR8, hbw8, hs8⟩
                case measureBy => simp [intOf]; omega
          · obtain rfl : j = 8 := by omega
            have e32 : D.take (4 * 8) = D := List.take_of_length_le (by omega)
            have hO8 := HO.out
            rw [e32] at hO8
            have hst := owns_string (P := Tryd.prog) hO8 (by omega) 64 9 Tryd.underlying64 Tryd.underlying5 Tryd.underlying9
            clear HO hO8 e32
            go_wp2_with fail
            go_ret
            exact ⟨by rw [HD.out]; rfl, hbw7⟩
end Go.Proofs.YthdikknjabdfeaaDoor
