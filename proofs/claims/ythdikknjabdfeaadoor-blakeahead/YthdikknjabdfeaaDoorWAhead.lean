/-
  The walk of BlakeAhead.
-/
import Derived.Test.YthdikknjabdfeaaDoorShown2
import Derived.Test.YthdikknjabdfeaaDoorTurnsL
import Derived.Test.YthdikknjabdfeaaDoorP2Keyed
namespace Go.Proofs.YthdikknjabdfeaaDoor
open Go.RowKit
set_option linter.unusedVariables false
attribute [local go_sem] ba_size ba_get ba_extract ba_append take_drop_end wv_get wv_getE wv_set wv_size wrap_u32_byte
def slenA : Value → Nat
  | .string s => s.size
  | _ => 0
set_option maxRecDepth 100000 in
set_option maxHeartbeats 4000000 in
theorem ahead_none (S0 : List UInt8) (w : World) (hG : G w) :
    Calls Tryd.prog 9 #[.string ⟨#[]⟩, .string ⟨S0.toArray⟩] w fun e w' => e = .returned (.bool true) ∧ Below w.heap.size w w' := by
  have hg3 := hG.size
  have hk := fun w1 => keyed_none S0 w1
  have hs := fun w1 h => start_good 0 (by omega) (by omega) w1 h
  have lH : (startL 0).length = 8 := rfl
  obtain ⟨H, hH⟩ : ∃ H, startL 0 = H := ⟨_, rfl⟩
  rw [hH] at hs lH
  have hsz : (Tryd.prog.info? 24).map (·.size) = some (wv H).size := by rw [size8, wv_size, lH]
  go_enter Tryd.func9, Tryd.ntmps9
  go_wp2_with fail
  refine (shown2 w hG).mono ?_
  rintro e w1 ⟨rfl, hb1⟩
  go_wp2_with fail
  refine (hk w1).mono ?_
  rintro e w2 ⟨rfl, hb2⟩
  have hbw2 := bel_trans hb1 hb2
  have hG2 : G w2 := hG.below hbw2 hg3
  go_wp2_with fail
  refine (hs w2 hG2).mono ?_
  rintro e w3 ⟨rfl, hb3⟩
  have hbw3 := bel_trans hbw2 hb3
  go_wp2_with (refine wpList_store_row rfl 24 _ _ rfl w3.heap.size (wv H) rfl rfl 24 (wv Z8) (heap_alloc_new w3 _) hsz (by rw [wv_size, wv_size, lH]; rfl) (wv_one _) ?_)
  go_ret
  exact ⟨rfl, below_setRow (hbw3.alloc hbw3.size _) hbw3.size _⟩
set_option maxRecDepth 100000 in
set_option maxHeartbeats 4000000 in
theorem ahead_long (K S0 : List UInt8) (hK : 32 < K.length) (w : World) (hG : G w) :
    Calls Tryd.prog 9 #[.string ⟨K.toArray⟩, .string ⟨S0.toArray⟩] w fun e w' => e = .returned (.bool true) ∧ Below w.heap.size w w' := by
  have hg3 := hG.size
  have i0 : ¬ (K.length : Int) < 1 := by omega
  have i1 : (32 : Int) < (K.length : Int) := by omega
  have hk := fun w1 => keyed_long K S0 hK w1
  have hs := fun w1 => start_bad (K.length : Int) (Or.inr (by omega)) w1
  have hsz : (Tryd.prog.info? 24).map (·.size) = some (wv Z8).size := by rw [size8, wv_size]; rfl
  go_enter Tryd.func9, Tryd.ntmps9
  go_wp2_with fail
  refine (shown2 w hG).mono ?_
  rintro e w1 ⟨rfl, hb1⟩
  go_wp2_with fail
  refine (hk w1).mono ?_
  rintro e w2 ⟨rfl, hb2⟩
  have hbw2 := bel_trans hb1 hb2
  go_wp2_with fail
  refine (hs w2).mono ?_
  rintro e w3 ⟨rfl, hb3⟩
  have hbw3 := bel_trans hbw2 hb3
  go_wp2_with (refine wpList_store_row rfl 24 _ _ rfl w3.heap.size (wv Z8) rfl rfl 24 (wv Z8) (heap_alloc_new w3 _) hsz rfl (wv_one _) ?_)
  go_ret
  exact ⟨rfl, below_setRow (hbw3.alloc hbw3.size _) hbw3.size _⟩
set_option maxRecDepth 100000 in
set_option maxHeartbeats 8000000 in
theorem ahead_good (K S0 : List UInt8) (h1 : 1 ≤ K.length) (h32 : K.length ≤ 32) (hS0 : S0.length ≤ 140737488351232) (w : World) (hG : G w) :
    Calls Tryd.prog 9 #[.string ⟨K.toArray⟩, .string ⟨S0.toArray⟩] w fun e w' => e = .returned (.bool true) ∧ Below w.heap.size w w' := by
  have hg3 := hG.size
  have hk := fun w1 h => keyed_good K S0 h1 h32 (by omega) w1 h
  have hkey : keyL K S0 = fl (foldL (startL K.length) (padL K ++ S0)) 32 := rfl
  have hs := fun w1 h => start_good (K.length : Int) (by omega) (by omega) w1 h
  have lH : (startL K.length).length = 8 := rfl
  obtain ⟨H, hH⟩ : ∃ H, startL K.length = H := ⟨_, rfl⟩
  have lp := padL_len K (by omega)
  rw [hH] at hs lH hkey
  obtain ⟨S, hSS⟩ : ∃ S, padL K ++ S0 = S := ⟨_, rfl⟩
  have hS : S.length ≤ 9223372036854775000 := by rw [← hSS, List.length_append]; omega
  rw [hSS] at hkey
  have lD := fl_len (foldL H S) 32
  rw [← hkey] at lD
  obtain ⟨D, hDD⟩ : ∃ D, keyL K S0 = D := ⟨_, rfl⟩
  rw [hDD] at hk lD hkey
  have HK : Hid (D = fl (foldL H S) 32) := hkey
  clear hDD hH hkey
  have hsz : (Tryd.prog.info? 24).map (·.size) = some (wv H).size := by rw [size8, wv_size, lH]
  go_enter Tryd.func9, Tryd.ntmps9
  go_wp2_with fail
  refine (shown2 w hG).mono ?_
  rintro e w1 ⟨rfl, hb1⟩
  have hG1 : G w1 := hG.below hb1 hg3
  go_wp2_with fail
  refine (hk w1 hG1).mono ?_
  rintro e wk ⟨rfl, hbk⟩
  have hbwk := bel_trans hb1 hbk
  have hGk : G wk := hG.below hbwk hg3
  go_wp2_with fail
  refine (hs wk hGk).mono ?_
  rintro e w2 ⟨rfl, hb2⟩
  have hbw2 := bel_trans hbwk hb2
  have hs2 := hbw2.size
  go_upto_region 4 with (refine wpList_store_row rfl 24 _ _ rfl w2.heap.size (wv H) rfl rfl 24 (wv Z8) (heap_alloc_new w2 _) hsz (by rw [wv_size, wv_size, lH]; rfl) (wv_one _) ?_)
  change Code.wp _ _ _ _ ((w2.alloc (.cells (wv Z8) 24)).setRow w2.heap.size (wv H))
  obtain ⟨w0, hw0⟩ : ∃ w0, (w2.alloc (.cells (wv Z8) 24)).setRow w2.heap.size (wv H) = w0 := ⟨_, rfl⟩
  have hrow0 : w0.heap[w2.heap.size]? = some (.cells (wv H) 24 (0, 0)) := by rw [← hw0]; exact setRow_heap _ _ _ _ _ _ (heap_alloc_new w2 _)
  have hb0 : Below w.heap.size w w0 := by rw [← hw0]; exact below_setRow (hbw2.alloc hs2 _) hs2 _
  rw [hw0]
  clear hw0 hb1 hb2 hbk hbwk hGk hbw2 hG1 hk hs
  obtain ⟨gh, hgh⟩ : ∃ gh, w2.heap.size = gh := ⟨_, rfl⟩
  rw [hgh] at hrow0 hs2
  simp only [hgh]
  clear hgh
  go_wp2_with fail
  go_loop [10] (fun t => ∃ P : List UInt8, P.length ≤ 64 ∧ Hid (padL P = padL K) ∧ t = .string ⟨P.toArray⟩) (fun t => 64 - slenA t)
  case atStart => exact ⟨K, by omega, (rfl : _ = _), rfl⟩
  case round =>
   obtain ⟨P0, hP0, hp0, rfl⟩ := hrel
   by_cases hl1 : P0.length < 64
   · have i3 : (P0.length : Int) < 64 := by omega
     go_wp2_with fail
     refine ⟨?relO, ?measureO⟩
     case relO => exact ⟨P0 ++ [0], by simp; omega, (padL_step P0 hl1).trans hp0.out, rfl⟩
     case measureO => simp [slenA, ba_size]; omega
   · have hP64 : P0.length = 64 := by omega
     have i3 : ¬ (P0.length : Int) < 64 := by omega
     have hcat : P0 ++ S0 = S := by rw [← hSS, ← hp0.out, padL_full P0 hP64]
     have lsum : 64 + S0.length ≤ 9223372036854775807 := by omega
     go_wp2_with fail
     clear hcat
     go_loopw [10, 11] (fun t n wr => ∃ (k : Nat) (T : List UInt8), Hid (k = 0 ∨ 64 * k < S.length) ∧ Hid (T = S.drop (64 * k)) ∧ T.length + 64 * k = S.length ∧ t = .string ⟨T.toArray⟩ ∧ n = .int .u64 (64 * (k : Int)) ∧ Hid (Row wr gh 24 (fk H S k)) ∧ Below w.heap.size w wr) (fun _ n _ => S.length - (intOf n).toNat)
     case atStart => exact ⟨0, S, (Or.inl rfl : _ ∨ _), (rfl : _ = _), by omega, rfl, rfl, hrow0, hb0⟩
     case round =>
       obtain ⟨k, T, hk, hT, hlen, rfl, rfl, HR, hbw⟩ := hrel
       have hGr : G wr := hG.below hbw hg3
       have lk := fk_len H S lH k
       have hlk : (wv (fk H S k)).size = 8 := by rw [wv_size, lk]
       have hrow : wr.heap[gh]? = some (.cells (wv (fk H S k)) 24 (0, 0)) := HR.out
       have hgl : gh < wr.heap.size := HR.out.lt
       have hsk : (Tryd.prog.info? 24).map (·.size) = some (wv (fk H S k)).size := by rw [size8, hlk]
       by_cases hlt : 64 < T.length
       · have i1 : (64 : Int) < (T.length : Int) := by omega
         have i2 : ¬ (T.length : Int) ≤ 64 := by omega
         have i3 : (64 : Int) ≤ (T.length : Int) := by omega
         have x1 : IntKind.u64.wrap (64 * (k : Int) + 64) = 64 * (k : Int) + 64 := by rw [IntKind.wrap_u64]; omega
         have lb : (T.take 64).length = 64 := by simp; omega
         have hbs : w.heap.size ≤ wr.heap.size := by omega
         have hGd : G wr.drew := ⟨hGr.g0, hGr.g1, hGr.g2⟩
         have lk1 := fk_len H S lH (k + 1)
         obtain ⟨H1, hH1⟩ : ∃ H1, fk H S (k + 1) = H1 := ⟨_, rfl⟩
         have hC : ∀ w1, G w1 → Calls Tryd.prog 14 #[.agg #[.int .u32 (at_ (fk H S k) 0), .int .u32 (at_ (fk H S k) 1), .int .u32 (at_ (fk H S k) 2), .int .u32 (at_ (fk H S k) 3), .int .u32 (at_ (fk H S k) 4), .int .u32 (at_ (fk H S k) 5), .int .u32 (at_ (fk H S k) 6), .int .u32 (at_ (fk H S k) 7)], .string ⟨(T.take 64).toArray⟩, .int .u64 (64 * (k : Int) + 64), .bool false] w1 fun e w' => e = .returned (.tuple #[.agg (wv H1), .int .i64 0]) ∧ Below w1.heap.size w1 w' := fun w1 h1 => by
           have h := block_good (fk H S k) lk (T.take 64) lb (64 * (k + 1)) (by omega) false w1 h1
           rw [show ((64 * (k + 1) : Nat) : Int) = 64 * (k : Int) + 64 by omega, wv8 (fk H S k) lk, show blockL (fk H S k) (T.take 64) (64 * (k + 1)) false = H1 by rw [← hH1, hT.out]; rfl] at h
           exact h
         rw [hH1] at lk1
         have hsz1 : (Tryd.prog.info? 24).map (·.size) = some (wv H1).size := by rw [size8, wv_size, lk1]
         have c0 : (wr).cell? ⟨gh, 0, none⟩ = some (.int .u32 (at_ (fk H S k) 0)) := by rw [(HR.out).cell 0 (by omega), at_eq]
         have c1 : (wr).cell? ⟨gh, 1, none⟩ = some (.int .u32 (at_ (fk H S k) 1)) := by rw [(HR.out).cell 1 (by omega), at_eq]
         have c2 : (wr).cell? ⟨gh, 2, none⟩ = some (.int .u32 (at_ (fk H S k) 2)) := by rw [(HR.out).cell 2 (by omega), at_eq]
         have c3 : (wr).cell? ⟨gh, 3, none⟩ = some (.int .u32 (at_ (fk H S k) 3)) := by rw [(HR.out).cell 3 (by omega), at_eq]
         have c4 : (wr).cell? ⟨gh, 4, none⟩ = some (.int .u32 (at_ (fk H S k) 4)) := by rw [(HR.out).cell 4 (by omega), at_eq]
         have c5 : (wr).cell? ⟨gh, 5, none⟩ = some (.int .u32 (at_ (fk H S k) 5)) := by rw [(HR.out).cell 5 (by omega), at_eq]
         have c6 : (wr).cell? ⟨gh, 6, none⟩ = some (.int .u32 (at_ (fk H S k) 6)) := by rw [(HR.out).cell 6 (by omega), at_eq]
         have c7 : (wr).cell? ⟨gh, 7, none⟩ = some (.int .u32 (at_ (fk H S k) 7)) := by rw [(HR.out).cell 7 (by omega), at_eq]
         go_wp2_with fail
         refine wp_region_any (by kernel_rfl) ?_
         change wpAny _ _ _ _ _ _ _ (World.drew _)
         refine wpAny_take (i := 1) (v := .string ⟨T.toArray⟩) rfl (by kernel_rfl) (by kernel_rfl) (by kernel_rfl) (fun _ _ _ h => h) (Or.inl ⟨by rfl, fun w => by go_simp⟩) ?_
         refine wpAny_take (i := 2) (v := .string ⟨(T.take 64).toArray⟩) rfl (by kernel_rfl) (by kernel_rfl) (by kernel_rfl) (fun _ _ _ h => h) (Or.inl ⟨by rfl, fun w => by go_simp⟩) ?_
         refine wpAny_take (i := 3) (v := .int .u64 (64 * (k : Int) + 64)) rfl (by kernel_rfl) (by kernel_rfl) (by kernel_rfl) (fun _ _ _ h => h) (Or.inl ⟨by rfl, fun w => by go_simp⟩) ?_
         refine wpAny_ready (rs := [0]) (by kernel_rfl) (by simp) ?_
         refine AllReady.cons rfl (fun K' hK => ?_) AllReady.nil
         go_simp
         refine hK _ _ ?_
         clear hK K'
         refine wpAny_ready (rs := [4]) (by kernel_rfl) (by simp) ?_
         refine AllReady.cons rfl (fun K' hK => ?_) AllReady.nil
         go_simp
         refine (hC wr.drew hGd).mono ?_
         rintro e w1 ⟨rfl, hb1⟩
         have hs1 : wr.heap.size ≤ w1.heap.size := hb1.size
         have hr1 : w1.heap[gh]? = some (.cells (wv (fk H S k)) 24 (0, 0)) := (hb1.block _ hgl).trans hrow
         have hbw1 : Below w.heap.size w w1 := hbw.drew.trans (hb1.mono hbs)
         refine hK _ _ ?_
         clear hK K'
         refine wpAny_take (i := 5) (v := .tuple #[.agg (wv H1), .int .i64 0]) rfl (by kernel_rfl) (by kernel_rfl) (by kernel_rfl) (fun _ _ _ h => h) (Or.inl ⟨by rfl, fun w => by go_simp⟩) ?_
         refine wpAny_take (i := 6) (v := .agg (wv H1)) rfl (by kernel_rfl) (by kernel_rfl) (by kernel_rfl) (fun _ _ _ h => h) (Or.inl ⟨by rfl, fun w => by go_simp⟩) ?_
         refine wpAny_take (i := 7) (v := .int .i64 0) rfl (by kernel_rfl) (by kernel_rfl) (by kernel_rfl) (fun _ _ _ h => h) (Or.inl ⟨by rfl, fun w => by go_simp⟩) ?_
         refine any_seqI [8] [_] _ _ _ rfl (by kernel_rfl) ?_
         refine wpList_store_row rfl 24 _ _ rfl gh (wv H1) rfl rfl 24 (wv (fk H S k)) hr1 hsz1 (by rw [wv_size, wv_size, lk, lk1]) (wv_one _) ?_
         have rh3 : (w1.setRow gh (wv H1)).heap[gh]? = some (.cells (wv H1) 24 (0, 0)) := setRow_heap _ _ _ _ _ _ hr1
         have hb3 : Below w.heap.size w (w1.setRow gh (wv H1)) := below_setRow hbw1 (by omega) _
         obtain ⟨w3, hw3⟩ : ∃ w3, w1.setRow gh (wv H1) = w3 := ⟨_, rfl⟩
         change wpList _ _ _ _ _ (w1.setRow gh (wv H1))
         rw [hw3] at rh3 hb3 ⊢
         clear hw3
         go_wp2_with fail
         refine ⟨?relA, ?measureA⟩
         case relA =>
           refine ⟨k + 1, T.drop 64, (Or.inr (by omega) : _ ∨ _), drop_next S T k hT.out, by simp; omega, rfl, by first | go_num | omega, ?_, hb3⟩
           rw [hH1]
           exact rh3
         case measureA => simp [intOf]; omega
       · have i1 : ¬ (64 : Int) < (T.length : Int) := by omega
         have hle : T.length ≤ 64 := by omega
         have x1 : IntKind.u64.wrap (T.length : Int) = T.length := by rw [IntKind.wrap_u64]; omega
         have x2 : IntKind.u64.wrap (64 * (k : Int) + (T.length : Int)) = S.length := by rw [IntKind.wrap_u64]; omega
         go_wp2_with fail
         go_loop [10] (fun t => ∃ P : List UInt8, P.length ≤ 64 ∧ Hid (padL P = padL T) ∧ t = .string ⟨P.toArray⟩) (fun t => 64 - slenA t)
         case atStart => exact ⟨T, hle, (rfl : _ = _), rfl⟩
         case round =>
           obtain ⟨P, hP, hp, rfl⟩ := hrel
           by_cases hl2 : P.length < 64
           · have i3 : (P.length : Int) < 64 := by omega
             go_wp2_with fail
             refine ⟨?relP, ?measureP⟩
             case relP => exact ⟨P ++ [0], by simp; omega, (padL_step P hl2).trans hp.out, rfl⟩
             case measureP => simp [slenA, ba_size]; omega
           · have hP64 : P.length = 64 := by omega
             have i3 : ¬ (P.length : Int) < 64 := by omega
             have hfold := foldL_of H S T k hk.out (by omega) hT.out P hP64 hp.out
             have hC := block_good (fk H S k) lk P hP64 S.length (by omega) true wr hGr
             rw [← hfold] at hC
             have lr := foldL_len H S
             have rng := foldL_rng H S
             obtain ⟨R, hR⟩ : ∃ R, foldL H S = R := ⟨_, rfl⟩
             rw [hR] at hC lr rng
             clear hfold
             have hszR : (Tryd.prog.info? 24).map (·.size) = some (wv R).size := by rw [size8, wv_size, lr]
             go_wp2_with (refine wpList_load_row rfl 24 _ rfl gh rfl 24 (wv (fk H S k)) (0, 0) _ hrow Tryd.underlying24 rfl hsk ?_)
             refine hC.mono ?_
             rintro e w4 ⟨rfl, hb4⟩
             have hrow4 : w4.heap[gh]? = some (.cells (wv (fk H S k)) 24 (0, 0)) := (hb4.block _ hgl).trans hrow
             have hbw4 : Below w.heap.size w w4 := hbw.trans (hb4.mono (by omega))
             go_upto_region 19 with (refine wpList_store_row rfl 24 _ _ rfl gh (wv R) rfl rfl 24 (wv (fk H S k)) hrow4 hszR (by rw [wv_size, wv_size, lk, lr]) (wv_one _) ?_)
             change Code.wp _ _ _ _ (w4.setRow gh (wv R))
             obtain ⟨w5, hw5⟩ : ∃ w5, w4.setRow gh (wv R) = w5 := ⟨_, rfl⟩
             have hrow5 : w5.heap[gh]? = some (.cells (wv R) 24 (0, 0)) := by rw [← hw5]; exact setRow_heap _ _ _ _ _ _ hrow4
             have hbw5 : Below w.heap.size w w5 := by rw [← hw5]; exact below_setRow hbw4 (by omega) _
             have hG5 : G w5 := hG.below hbw5 hg3
             rw [hw5]
             clear hw5 hb4 hrow4 hbw4 HR hrow
             have hD := fl_word R
             have hkey := HK.out
             rw [hR] at hkey
             rw [← hkey] at hD
             clear hC hkey
             have hR6 : Row w5 gh 24 R := hrow5
             go_wp2_with fail
             go_loopw [13] (fun i wq => ∃ j : Nat, j ≤ 8 ∧ i = .int .i64 j ∧ Hid (Row wq gh 24 R) ∧ Below w.heap.size w wq) (fun i _ => 8 - (intOf i).toNat)
             case atStart => exact ⟨0, by omega, rfl, hR6, hbw5⟩
             case round =>
               obtain ⟨j, hj, rfl, HR7, hbw7⟩ := hrel
               by_cases hl3 : j < 8
               · have i4 : (j : Int) < 8 := by omega
                 have hw := hD j hl3 (rng j hl3).1 (rng j hl3).2 (by omega) (by omega) (by omega) (by omega)
                 have b0 := D[4 * j].toNat_lt
                 have b1 := D[4 * j + 1].toNat_lt
                 have b2 := D[4 * j + 2].toNat_lt
                 have b3 := D[4 * j + 3].toNat_lt
                 have c0 : wr.cell? ⟨gh, j, none⟩ = some (.int .u32 (at_ R j)) := by rw [HR7.out.cell j (by omega), at_eq]
                 have e0 : IntKind.i64.wrap (4 * (j : Int)) = 4 * (j : Int) := by rw [IntKind.wrap_i64]; omega
                 have e1 : IntKind.i64.wrap (4 * (j : Int) + 1) = 4 * (j : Int) + 1 := by rw [IntKind.wrap_i64]; omega
                 have e2 : IntKind.i64.wrap (4 * (j : Int) + 2) = 4 * (j : Int) + 2 := by rw [IntKind.wrap_i64]; omega
                 have e3 : IntKind.i64.wrap (4 * (j : Int) + 3) = 4 * (j : Int) + 3 := by rw [IntKind.wrap_i64]; omega
                 have n0 : (4 * (j : Int)).toNat = 4 * j := by omega
                 have n1 : (4 * (j : Int) + 1).toNat = 4 * j + 1 := by omega
                 have n2 : (4 * (j : Int) + 2).toNat = 4 * j + 2 := by omega
                 have n3 : (4 * (j : Int) + 3).toNat = 4 * j + 3 := by omega
                 have p0 : (0 : Int) ≤ 4 * (j : Int) := by omega
                 have p1 : (0 : Int) ≤ 4 * (j : Int) + 1 := by omega
                 have p2 : (0 : Int) ≤ 4 * (j : Int) + 2 := by omega
                 have p3 : (0 : Int) ≤ 4 * (j : Int) + 3 := by omega
                 have l0 : 4 * (j : Int) < 32 := by omega
                 have l1 : 4 * (j : Int) + 1 < 32 := by omega
                 have l2 : 4 * (j : Int) + 2 < 32 := by omega
                 have l3 : 4 * (j : Int) + 3 < 32 := by omega
                 have s1 : IntKind.u32.wrap (256 * (D[4 * j + 1].toNat : Int)) = 256 * (D[4 * j + 1].toNat : Int) := by rw [IntKind.wrap_u32']; omega
                 have s2 : IntKind.u32.wrap (65536 * (D[4 * j + 2].toNat : Int)) = 65536 * (D[4 * j + 2].toNat : Int) := by rw [IntKind.wrap_u32']; omega
                 have s3 : IntKind.u32.wrap (16777216 * (D[4 * j + 3].toNat : Int)) = 16777216 * (D[4 * j + 3].toNat : Int) := by rw [IntKind.wrap_u32']; omega
                 have a1 : IntKind.u32.wrap ((D[4 * j].toNat : Int) + 256 * (D[4 * j + 1].toNat : Int)) = (D[4 * j].toNat : Int) + 256 * (D[4 * j + 1].toNat : Int) := by rw [IntKind.wrap_u32']; omega
                 have a2 : IntKind.u32.wrap ((D[4 * j].toNat : Int) + 256 * (D[4 * j + 1].toNat : Int) + 65536 * (D[4 * j + 2].toNat : Int)) = (D[4 * j].toNat : Int) + 256 * (D[4 * j + 1].toNat : Int) + 65536 * (D[4 * j + 2].toNat : Int) := by rw [IntKind.wrap_u32']; omega
                 have a3 : IntKind.u32.wrap ((D[4 * j].toNat : Int) + 256 * (D[4 * j + 1].toNat : Int) + 65536 * (D[4 * j + 2].toNat : Int) + 16777216 * (D[4 * j + 3].toNat : Int)) = at_ R j := by rw [IntKind.wrap_u32', ← hw]; omega
                 have hmod : at_ R j % 4294967296 = at_ R j := by have := rng j hl3; omega
                 clear hw
                 go_wp2_with fail
                 refine region_tail 32 (by kernel_rfl) (by kernel_rfl) ?_
                 simp only [List.take_succ_cons, List.take_zero, List.drop_succ_cons, List.drop_zero]
                 repeat still_step
                 refine wpStill_nil ?_
                 go_wp2_with fail
                 refine ⟨?relW, ?measureW⟩
                 case relW => exact ⟨j + 1, by omega, by go_num, HR7.out.drew, hbw7.drew⟩
                 case measureW => simp [intOf]; omega
               · obtain rfl : j = 8 := by omega
                 go_wp2_with fail
                 go_ret
                 exact ⟨rfl, hbw7⟩
set_option maxRecDepth 100000 in
theorem ahead_walk (K S0 : List UInt8) (hK : K.length ≤ 140737488351232) (hS0 : S0.length ≤ 140737488351232) (w : World) (hG : G w) :
    Calls Tryd.prog 9 #[.string ⟨K.toArray⟩, .string ⟨S0.toArray⟩] w fun e w' => e = .returned (.bool true) ∧ Below w.heap.size w w' := by
  rcases Nat.lt_or_ge 32 K.length with h | h
  · exact ahead_long K S0 h w hG
  · match K, h with
    | [], _ => exact ahead_none S0 w hG
    | a :: l, h => exact ahead_good (a :: l) S0 (by simp) h hS0 w hG
end Go.Proofs.YthdikknjabdfeaaDoor
