/-
  What cartoucheref18.Spend and Same answer.
-/
import Derived.Test.YthopjpjloeaamaaZR18Chg
import Derived.Test.YthopjpjloeaamaaZBools18
import Derived.Test.YthopjpjloeaamaaZTakeD
import Derived.Test.YthopjpjloeaamaaZApp17
import Derived.Test.YthopjpjloeaamaaZFork2
import Derived.Test.YthopjpjloeaamaaZHist10
import Derived.BigQuiet
import Derived.Deep.CutRange
import Derived.Lib.Hide
import Derived.Deep.QuietTactic
namespace Go.Proofs.Ythopjpjloeaamaa
set_option maxRecDepth 100000
open Go.RowKit
set_option linter.unusedVariables false
attribute [local go_sem] ba_size
set_option maxHeartbeats 4000000 in
theorem rspend18_any (now : Int) (hnow : 0 ≤ now ∧ now ≤ 18446744073709551615) (V0 : Value) (L : List Int) (w : World) (hL : IsInts w V0 L) :
    Calls Try.prog 17 #[.int .u64 now, V0] w fun e w' => SpRes w (spnM now (now, 150) L) e w' := by
  have hm0 : goodM (now, 150) := by unfold goodM; simp only; omega
  obtain ⟨a, cap, rfl, hq1, hq2, hb1, HC⟩ := hL.some_at
  obtain ⟨n, hn⟩ : ∃ n, L.length = n := ⟨_, rfl⟩
  have HN := Lib.hid hn
  have HL := Lib.hid hL
  rw [hn] at hb1 hq1 ⊢
  clear hL hn
  have X := SBox.new w 24 #[.int .u64 now, .int .i64 150]
  have B0 := mbel1 w (.cells #[.int .u64 now, .int .i64 150] 24)
  go_enter Try.func17, Try.ntmps17
  go_wp2_with fail
  go_loopw [6, 7] (fun v i wr => ∃ (k : Nat) (m : Mt), k ≤ n ∧ goodM m ∧ i = .int .i64 k ∧ Hid (m = endM now (now, 150) (L.take k)) ∧ SBox wr w.heap.size 24 #[.int .u64 m.1, .int .i64 m.2] ∧ wr.ownsRow (w.heap.size + 1) 4 1 v k (recV boE (spnM now (now, 150) (L.take k))) ∧ Below w.heap.size w wr) (fun _ i _ => n - (intOf i).toNat)
  case atStart => exact ⟨0, (now, 150), Nat.zero_le _, hm0, rfl, rfl, X, own_nil18 _ _ _ _, B0⟩
  case round =>
    obtain ⟨k, ⟨a0, l0⟩, hk, hgm, rfl, HM, XM, O, BW⟩ := hrel
    simp only at XM
    clear X B0 hm0
    by_cases hlt : k < n
    · have hk1 : k < L.length := by rw [HN.out]; exact hlt
      obtain ⟨bb, off, rfl, hblt, cell⟩ := HC.out k hk1
      obtain ⟨c, hc⟩ : ∃ c, L[k] = c := ⟨_, rfl⟩
      have HCC : Hid (L[k] = c) := hc
      have C := fun W => rchg18_any (a0, l0) now c hgm W
      have hgn := chgM_good hgm now c hnow
      have HE := Lib.hid (endM_at hk1 now (now, 150))
      have HS := Lib.hid (spnM_at hk1 now (now, 150))
      rw [← HM.out, hc] at HE HS
      replace cell : wr.cell? ⟨bb, off + k, none⟩ = some (.int .i64 c) := (BW.cell (p := ⟨bb, off + k, none⟩) hblt).trans (by simpa [hc] using cell 0 _ rfl)
      obtain ⟨⟨⟨a2, l2⟩, e2⟩, hx⟩ : ∃ x, chgM (a0, l0) now c = x := ⟨_, rfl⟩
      rw [hx] at C hgn HE HS
      unfold mtV mtC at C
      simp only at C hgn HE HS
      obtain ⟨S0, hS0⟩ : ∃ S, spnM now (now, 150) (L.take k) = S := ⟨_, rfl⟩
      rw [hS0] at O HS
      clear hc hx hS0
      have x0 := XM.cell 0 _ rfl
      have x1 := XM.cell 1 _ rfl
      have hbz := XM.lt
      go_wp2_with fail
      clear x0 x1
      refine wp_region_any (by kernel_rfl) ?_
      change wpAny _ _ _ _ _ _ _ (World.drew _)
      generalize hwd : World.drew _ = wd
      replace XM := XM.drew
      replace BW := BW.drew
      replace cell : wd.cell? ⟨bb, off + k, none⟩ = some (.int .i64 c) := by rw [← hwd]; exact cell
      replace O : wd.ownsRow (w.heap.size + 1) 4 1 u6 k (recV boE S0) := by rw [← hwd]; exact O
      rw [hwd] at XM BW
      clear hwd
      refine any_of_C (C := (fun V => SBox V w.heap.size 24 #[.int .u64 a0, .int .i64 l0] ∧ V.cell? ⟨bb, off + k, none⟩ = some (.int .i64 c))) 12 _ _ _ _ ?_
      refine takeD 0 (.agg #[.int .u64 a0, .int .i64 l0]) rfl (by kernel_rfl) (fun _ _ _ h => h) (fun V hV => by have hV0 := hV.1; have hV1 := hV.2; have k0 := hV0.cell 0 _ rfl; have k1 := hV0.cell 1 _ rfl; go_simp) ?_
      refine takeD 1 (.int .u64 now) rfl (by kernel_rfl) (fun _ _ _ h => h) (fun V hV => by have hV0 := hV.1; have hV1 := hV.2; have k0 := hV0.cell 0 _ rfl; have k1 := hV0.cell 1 _ rfl; go_simp) ?_
      refine takeD 2 (.slice (some ⟨bb, off, none⟩) n cap) rfl (by kernel_rfl) (fun _ _ _ h => h) (fun V hV => by have hV0 := hV.1; have hV1 := hV.2; have k0 := hV0.cell 0 _ rfl; have k1 := hV0.cell 1 _ rfl; go_simp) ?_
      refine takeD 3 (.int .i64 (k : Int)) rfl (by kernel_rfl) (fun _ _ _ h => h) (fun V hV => by have hV0 := hV.1; have hV1 := hV.2; have k0 := hV0.cell 0 _ rfl; have k1 := hV0.cell 1 _ rfl; go_simp) ?_
      refine takeD 4 (.pointer (some ⟨bb, off + k, none⟩)) rfl (by kernel_rfl) (fun _ _ _ h => h) (fun V hV => by have hV0 := hV.1; have hV1 := hV.2; have k0 := hV0.cell 0 _ rfl; have k1 := hV0.cell 1 _ rfl; go_simp) ?_
      refine takeD 5 (.int .i64 c) rfl (by kernel_rfl) (fun _ _ _ h => h) (fun V hV => by have hV0 := hV.1; have hV1 := hV.2; have k0 := hV0.cell 0 _ rfl; have k1 := hV0.cell 1 _ rfl; go_simp) ?_
      refine fork2 (i := 6) (j := 10) (by kernel_rfl) (by kernel_rfl) ⟨XM, cell⟩ rfl rfl (fun K hK => ?_) (fun K hK => ?_)
      · skip
        go_wp2_with fail
        refine (C _).mono ?_
        rintro e1 w2 ⟨rfl, b2⟩
        replace cell := cell_bel b2 cell
        replace XM := XM.below b2
        replace O := owns_below O b2
        replace BW := BW.trans (b2.mono BW.size)
        clear b2 C
        go_wp2_with fail
        refine takeD 7 (.tuple #[.agg #[.int .u64 a2, .int .i64 l2], .int .i64 e2]) rfl (by kernel_rfl) (fun _ _ _ h => h) (fun V hV => by go_simp) ?_
        refine takeD 8 (.agg #[.int .u64 a2, .int .i64 l2]) rfl (by kernel_rfl) (fun _ _ _ h => h) (fun V hV => by go_simp) ?_
        refine takeD 9 (.int .i64 e2) rfl (by kernel_rfl) (fun _ _ _ h => h) (fun V hV => by go_simp) ?_
        refine consC (i := 10) (by kernel_rfl) (by kernel_rfl) ⟨XM, cell⟩ rfl (fun K hK => ?_)
        go_wp2_with fail
        have Q := SBox.new w2 24 #[.int .u64 0, .int .i64 0]
        have hq := XM.lt
        have hbq := cell_lt18 cell
        replace cell := cell_bel ((Below.refl _ _).alloc (Nat.le_refl _) (.cells #[.int .u64 0, .int .i64 0] 24)) cell
        replace XM := XM.alloc (.cells #[.int .u64 0, .int .i64 0] 24)
        replace O := O.alloc (.cells #[.int .u64 0, .int .i64 0] 24)
        replace BW := BW.alloc BW.size (.cells #[.int .u64 0, .int .i64 0] 24)
        obtain ⟨q, hqq⟩ : ∃ q, w2.heap.size = q := ⟨_, rfl⟩
        rw [hqq] at Q hq hbq ⊢
        clear hqq
        generalize World.alloc w2 (.cells #[.int .u64 0, .int .i64 0] 24) = WA at Q XM O BW cell ⊢
        go_wp2_with fail
        refine consC (i := 11) (by kernel_rfl) (by kernel_rfl) ⟨XM, cell⟩ rfl (fun K hK => ?_)
        have q0 := Q.cell 0 _ rfl
        have q1 := Q.cell 1 _ rfl
        have fq0 := Q.frozen 0
        have fq1 := Q.frozen 1
        go_wp2_with fail
        clear q0 q1 fq0 fq1
        have nq : q ≠ w.heap.size := by omega
        replace O := owns_type18 O Q (by decide) 0 (.int .u64 a2)
        replace O := owns_type18 O (Q.set 0 (.int .u64 a2)) (by decide) 1 (.int .i64 l2)
        replace cell := cell_put18 (k := q) cell (by show bb ≠ q; have : bb < q := hbq; omega) (.int .u64 a2) (.int .i64 l2)
        replace BW := bel_put2 (B := q) BW (by omega) (.int .u64 a2) (.int .i64 l2)
        replace XM := XM.other2 nq (.int .u64 a2) (.int .i64 l2)
        replace Q := Q.put2 (.int .u64 a2) (.int .i64 l2)
        refine lastC (by kernel_rfl) (by kernel_rfl) ⟨XM, cell⟩ (of_decide_eq_true (by kernel_rfl)) ?_
        refine any_seqI [12] [_] _ _ _ rfl (by kernel_rfl) ?_
        have x0 := XM.cell 0 _ rfl
        have fx0 := XM.frozen 0
        have x1 := XM.cell 1 _ rfl
        have fx1 := XM.frozen 1
        have q0 := Q.cell 0 _ rfl
        have fq0 := Q.frozen 0
        have q1 := Q.cell 1 _ rfl
        have fq1 := Q.frozen 1
        have ge : (e2 == 0) = decide (e2 = 0) := rfl
        go_upto_region 8 with fail
        clear x0 x1 q0 q1 fx0 fx1 fq0 fq1
        replace O := owns_type18 O XM (by decide) 0 (.int .u64 a2)
        replace O := owns_type18 O (XM.set 0 (.int .u64 a2)) (by decide) 1 (.int .i64 l2)
        replace BW := bel_put2 (B := w.heap.size) BW (Nat.le_refl _) (.int .u64 a2) (.int .i64 l2)
        replace XM := XM.put2 (.int .u64 a2) (.int .i64 l2)
        generalize hWB : World.setCell _ ⟨w.heap.size, 1, none⟩ _ = WB at O BW XM ⊢
        clear hWB cell Q hq hbq nq
        obtain ⟨r, hr⟩ : ∃ r, decide (e2 = 0) = r := ⟨_, rfl⟩
        rw [hr] at HS ge
        clear hr
        have O5 := own_one18 WB 4 [.bool r] rfl
        replace O := O.alloc (.cells #[.bool r] 4)
        replace XM := XM.alloc (.cells #[.bool r] 4)
        replace BW := BW.alloc BW.size (.cells #[.bool r] 4)
        have hlo := XM.lt
        go_wp2_with (at_builtin; refine app18 rfl _ _ 36 4 1 1 (.bool false) rfl Try.underlying36 boo_info rfl (by decide) (w.heap.size + 1) _ k _ rfl O _ 1 [.bool r] rfl (src_own O5) (by intro u hu; simp at hu; subst hu; rfl) (by omega) (by omega) (by omega) ?_)
        intro v2 W2 O2 g2
        replace BW := BW.grown g2 BW.size (fun j ej => Nat.le_trans (Nat.le_succ _) (O.lt j ej).1)
        replace XM := XM.grown18 O g2 (by omega)
        clear g2 O O5
        go_wp2_with fail
        go_roundw
        case rel => exact ⟨k + 1, (a2, l2), by omega, hgn, by first | go_num | simp, HE.out.symm, XM, by rw [HS.out, recV_append]; exact O2, BW⟩
        case measure => simp [intOf]; omega
      · skip
        go_wp2_with fail
        have Q := SBox.new wd 24 #[.int .u64 0, .int .i64 0]
        have hq := XM.lt
        have hbq := cell_lt18 cell
        replace cell := cell_bel ((Below.refl _ _).alloc (Nat.le_refl _) (.cells #[.int .u64 0, .int .i64 0] 24)) cell
        replace XM := XM.alloc (.cells #[.int .u64 0, .int .i64 0] 24)
        replace O := O.alloc (.cells #[.int .u64 0, .int .i64 0] 24)
        replace BW := BW.alloc BW.size (.cells #[.int .u64 0, .int .i64 0] 24)
        obtain ⟨q, hqq⟩ : ∃ q, wd.heap.size = q := ⟨_, rfl⟩
        rw [hqq] at Q hq hbq ⊢
        clear hqq
        generalize World.alloc wd (.cells #[.int .u64 0, .int .i64 0] 24) = WA at Q XM O BW cell ⊢
        go_wp2_with fail
        refine consC (i := 6) (by kernel_rfl) (by kernel_rfl) ⟨XM, cell⟩ rfl (fun K hK => ?_)
        go_wp2_with fail
        refine (C _).mono ?_
        rintro e1 w2 ⟨rfl, b2⟩
        replace cell := cell_bel b2 cell
        replace XM := XM.below b2
        replace O := owns_below O b2
        replace Q := Q.below b2
        replace BW := BW.trans (b2.mono BW.size)
        clear b2 C
        go_wp2_with fail
        refine takeD 7 (.tuple #[.agg #[.int .u64 a2, .int .i64 l2], .int .i64 e2]) rfl (by kernel_rfl) (fun _ _ _ h => h) (fun V hV => by go_simp) ?_
        refine takeD 8 (.agg #[.int .u64 a2, .int .i64 l2]) rfl (by kernel_rfl) (fun _ _ _ h => h) (fun V hV => by go_simp) ?_
        refine takeD 9 (.int .i64 e2) rfl (by kernel_rfl) (fun _ _ _ h => h) (fun V hV => by go_simp) ?_
        refine consC (i := 11) (by kernel_rfl) (by kernel_rfl) ⟨XM, cell⟩ rfl (fun K hK => ?_)
        have q0 := Q.cell 0 _ rfl
        have q1 := Q.cell 1 _ rfl
        have fq0 := Q.frozen 0
        have fq1 := Q.frozen 1
        go_wp2_with fail
        clear q0 q1 fq0 fq1
        have nq : q ≠ w.heap.size := by omega
        replace O := owns_type18 O Q (by decide) 0 (.int .u64 a2)
        replace O := owns_type18 O (Q.set 0 (.int .u64 a2)) (by decide) 1 (.int .i64 l2)
        replace cell := cell_put18 (k := q) cell (by show bb ≠ q; have : bb < q := hbq; omega) (.int .u64 a2) (.int .i64 l2)
        replace BW := bel_put2 (B := q) BW (by omega) (.int .u64 a2) (.int .i64 l2)
        replace XM := XM.other2 nq (.int .u64 a2) (.int .i64 l2)
        replace Q := Q.put2 (.int .u64 a2) (.int .i64 l2)
        refine lastC (by kernel_rfl) (by kernel_rfl) ⟨XM, cell⟩ (of_decide_eq_true (by kernel_rfl)) ?_
        refine any_seqI [12] [_] _ _ _ rfl (by kernel_rfl) ?_
        have x0 := XM.cell 0 _ rfl
        have fx0 := XM.frozen 0
        have x1 := XM.cell 1 _ rfl
        have fx1 := XM.frozen 1
        have q0 := Q.cell 0 _ rfl
        have fq0 := Q.frozen 0
        have q1 := Q.cell 1 _ rfl
        have fq1 := Q.frozen 1
        have ge : (e2 == 0) = decide (e2 = 0) := rfl
        go_upto_region 8 with fail
        clear x0 x1 q0 q1 fx0 fx1 fq0 fq1
        replace O := owns_type18 O XM (by decide) 0 (.int .u64 a2)
        replace O := owns_type18 O (XM.set 0 (.int .u64 a2)) (by decide) 1 (.int .i64 l2)
        replace BW := bel_put2 (B := w.heap.size) BW (Nat.le_refl _) (.int .u64 a2) (.int .i64 l2)
        replace XM := XM.put2 (.int .u64 a2) (.int .i64 l2)
        generalize hWB : World.setCell _ ⟨w.heap.size, 1, none⟩ _ = WB at O BW XM ⊢
        clear hWB cell Q hq hbq nq
        obtain ⟨r, hr⟩ : ∃ r, decide (e2 = 0) = r := ⟨_, rfl⟩
        rw [hr] at HS ge
        clear hr
        have O5 := own_one18 WB 4 [.bool r] rfl
        replace O := O.alloc (.cells #[.bool r] 4)
        replace XM := XM.alloc (.cells #[.bool r] 4)
        replace BW := BW.alloc BW.size (.cells #[.bool r] 4)
        have hlo := XM.lt
        go_wp2_with (at_builtin; refine app18 rfl _ _ 36 4 1 1 (.bool false) rfl Try.underlying36 boo_info rfl (by decide) (w.heap.size + 1) _ k _ rfl O _ 1 [.bool r] rfl (src_own O5) (by intro u hu; simp at hu; subst hu; rfl) (by omega) (by omega) (by omega) ?_)
        intro v2 W2 O2 g2
        replace BW := BW.grown g2 BW.size (fun j ej => Nat.le_trans (Nat.le_succ _) (O.lt j ej).1)
        replace XM := XM.grown18 O g2 (by omega)
        clear g2 O O5
        go_wp2_with fail
        go_roundw
        case rel => exact ⟨k + 1, (a2, l2), by omega, hgn, by first | go_num | simp, HE.out.symm, XM, by rw [HS.out, recV_append]; exact O2, BW⟩
        case measure => simp [intOf]; omega
    · obtain rfl : k = n := by omega
      have jq : ¬ (k : Int) < (k : Int) := by omega
      have HT : Hid (L.take k = L) := List.take_of_length_le (by have := HN.out; omega)
      rw [HT.out] at O
      go_wp2_with fail
      go_ret
      exact ⟨_, rfl, BW, IsRec.own (sz := 1) (enc := boE) (fun _ => rfl) (by decide) O (by omega)⟩
end Go.Proofs.Ythopjpjloeaamaa
