/-
  The walk of TaintOwn.
-/
import Derived.Test.YtljgflgfcbmgiaaZShown9
import Derived.Test.YtljgflgfcbmgiaaZR9All
import Derived.Test.YtljgflgfcbmgiaaZR8Life
import Derived.Test.YtljgflgfcbmgiaaZR8Last
import Derived.Test.YtljgflgfcbmgiaaZBads9
import Derived.Deep.RegionHeld3
import Derived.BigQuiet
import Derived.Deep.QuietTactic
namespace Go.Proofs.Ytljgflgfcbmgiaa
set_option maxRecDepth 100000
open Go.RowKit
set_option linter.unusedVariables false
attribute [local go_sem] ba_size ba_append ba_get ba_extract
set_option maxHeartbeats 6000000 in
theorem own9_walk (C : P9C) (w : World) (vh : Value) (h : List Ev) (Th : IsEvs w vh h) (Gh : ∀ x ∈ h, goodE x) (i : Int) (gi : okI i) :
    Calls Try.prog 7 #[vh, .int .i64 i] w fun e w' => e = .returned (.bool true) ∧ Below w.heap.size w w' := by
  have HSh : Hid (∀ W, Below w.heap.size w W → Calls Try.prog 9 #[] W fun e w' => e = .returned (.bool true) ∧ Below W.heap.size W w') := fun W h => shown9_any C W
  have HF : Hid (∀ W, Below w.heap.size w W → Calls Try.prog 10 #[vh] W fun e w' => e = .returned (.bool (decide (h.length ≤ 300))) ∧ Below W.heap.size W w') := fun W hb => few9_any vh h W (Th.below hb)
  by_cases h1 : h.length ≤ 300
  · rw [decide_eq_true h1] at HF
    have HA : Hid (∀ W, Below w.heap.size w W → Calls Try.prog 15 #[vh, .int .i64 i] W fun e w' => e = .returned (badA (atI h i)) ∧ Below W.heap.size W w') := fun W hb => C.at_ h vh W i (Th.below hb) Gh h1 gi
    have HO : Hid (∀ W, Below w.heap.size w W → Calls Try.prog 17 #[vh, .int .i64 i] W fun e w' => e = .returned (.bool (outerI h i)) ∧ Below W.heap.size W w') := fun W hb => C.outer h vh W i (Th.below hb) Gh h1 gi
    have HFi : Hid (∀ t W, Below w.heap.size w W → Calls Try.prog 20 #[vh, .int .i64 t] W fun e w' => e = .returned (.tuple #[lifA (findP h t).1, .bool (findP h t).2]) ∧ Below W.heap.size W w') := fun t W hb => rfind_any h vh W (Th.below hb) t
    have HLa : Hid (∀ t key (p : Nat) W, Below w.heap.size w W → Calls Try.prog 21 #[vh, .int .i64 t, .string ⟨key.toArray⟩, .int .i64 (p : Int)] W fun e w' => e = .returned (.int .i64 (oI (lastL h t key (p : Int)))) ∧ Below W.heap.size W w') := fun t key p W hb => rlast_any h vh W (Th.below hb) t key (p : Int)
    obtain ⟨ah, ch, rfl, ih, jh, kh, HCh⟩ := Th.reads
    obtain ⟨n, hn⟩ : ∃ n, h.length = n := ⟨_, rfl⟩
    have HN : Hid (h.length = n) := hn
    simp only [hn] at HF HA HO HFi HLa h1 ih kh ⊢
    clear hn
    by_cases i0 : i < 0
    · go_enter Try.func7, Try.ntmps7
      go_wp2_with fail
      refine (HSh.out _ (Below.refl w.heap.size w)).mono ?_
      rintro e w1 ⟨rfl, b1⟩
      have B1 := bel_trans (Below.refl w.heap.size w) b1
      go_wp2_with fail
      refine (HF.out _ B1).mono ?_
      rintro e w2 ⟨rfl, b2⟩
      have B2 := bel_trans B1 b2
      go_wp2_with fail
      go_ret
      exact ⟨rfl, B2⟩
    · by_cases i1 : (n : Int) ≤ i
      · go_enter Try.func7, Try.ntmps7
        go_wp2_with fail
        refine (HSh.out _ (Below.refl w.heap.size w)).mono ?_
        rintro e w1 ⟨rfl, b1⟩
        have B1 := bel_trans (Below.refl w.heap.size w) b1
        go_wp2_with fail
        refine (HF.out _ B1).mono ?_
        rintro e w2 ⟨rfl, b2⟩
        have B2 := bel_trans B1 b2
        go_wp2_with fail
        go_ret
        exact ⟨rfl, B2⟩
      · skip
        obtain ⟨q, rfl⟩ : ∃ q : Nat, i = (q : Int) := ⟨i.toNat, by omega⟩
        have hq1 : q < h.length := by have := HN.out; omega
        have hqn : q < n := by omega
        have j1 : ¬ (n : Int) ≤ (q : Int) := by omega
        have j2 : ¬ n ≤ q := by omega
        have j3 : ¬ (q : Int) < 0 := by omega
        obtain ⟨bb, off, rfl, HQ⟩ := HCh.out (by omega)
        obtain ⟨⟨f0, f, e, c⟩, hfi⟩ := find_has h q hq1
        have HQ1 : Hid (q < h.length) := hq1
        obtain ⟨⟨x0, x1, x2, x3⟩, hx⟩ : ∃ x, ev h q = x := ⟨_, rfl⟩
        have HX : Hid (ev h q = (x0, x1, x2, x3)) := hx
        have D := fun W hb => HFi.out x1 W hb
        have hfi' := hfi
        rw [hx] at hfi'
        simp only at hfi'
        rw [findP_of hfi'] at D
        simp only at D
        by_cases hk2 : x0 = 2
        · have e0 : (x0 != 2) = false := by rw [hk2]; rfl
          have DL := fun W hb => HLa.out x1 x2 q W hb
          rw [last_upto h x1 x2 q (by have := HQ1.out; omega)] at DL
          obtain ⟨y, hy⟩ : ∃ y, lastN h x1 x2 q = y := ⟨_, rfl⟩
          rw [hy] at DL
          have HK2 : Hid (x0 = 2) := hk2
          clear hk2
          by_cases hcm : c = true ∧ q < e
          · obtain ⟨rfl, hqe⟩ := hcm
            have g1 : ¬ (e : Int) ≤ (q : Int) := by omega
            have g1' : (q : Int) < (e : Int) := by omega
            cases y with
            | none =>
              clear hfi hfi' hx hy
              simp only [oI] at DL
              go_enter Try.func7, Try.ntmps7
              go_wp2_with fail
              refine (HSh.out _ (Below.refl w.heap.size w)).mono ?_
              rintro e w1 ⟨rfl, b1⟩
              have B1 := bel_trans (Below.refl w.heap.size w) b1
              go_wp2_with fail
              refine (HF.out _ B1).mono ?_
              rintro e w2 ⟨rfl, b2⟩
              have B2 := bel_trans B1 b2
              obtain ⟨s0, s1, s2, s3⟩ := HQ.out q HQ1.out _ B2
              rw [HX.out] at s0 s1 s2 s3
              simp only at s0 s1 s2 s3
              go_wp2_with fail
              refine (D _ B2).mono ?_
              rintro e' w3 ⟨rfl, b3⟩
              have B3 := bel_trans B2 b3
              have X3 := SBox.new w3 39 #[.int .i64 f0, .int .i64 (f : Int), .int .i64 (e : Int), .bool true]
              have B3' := B3.alloc B3.size (.cells #[.int .i64 f0, .int .i64 (f : Int), .int .i64 (e : Int), .bool true] 39)
              have l0 := X3.cell 0 _ rfl
              have l1 := X3.cell 1 _ rfl
              have l2 := X3.cell 2 _ rfl
              have l3 := X3.cell 3 _ rfl
              obtain ⟨_, r1, r2, _⟩ := HQ.out q HQ1.out _ B3'
              rw [HX.out] at r1 r2
              simp only at r1 r2
              have S0 : (fun V => Below w.heap.size w V ∧ V.cell? ⟨w3.heap.size, 0, none⟩ = some (.int .i64 f0) ∧ V.cell? ⟨w3.heap.size, 1, none⟩ = some (.int .i64 (f : Int)) ∧ V.cell? ⟨w3.heap.size, 2, none⟩ = some (.int .i64 (e : Int)) ∧ V.cell? ⟨w3.heap.size, 3, none⟩ = some (.bool true) ∧ V.cell? ⟨bb, off + q * 4 + 1, none⟩ = some (.int .i64 x1) ∧ V.cell? ⟨bb, off + q * 4 + 2, none⟩ = some (.string ⟨x2.toArray⟩)) (w3.alloc (.cells #[.int .i64 f0, .int .i64 (f : Int), .int .i64 (e : Int), .bool true] 39)).drew := ⟨B3'.drew, l0, l1, l2, l3, r1, r2⟩
              have keepS : ∀ V V' : World, (fun V => Below w.heap.size w V ∧ V.cell? ⟨w3.heap.size, 0, none⟩ = some (.int .i64 f0) ∧ V.cell? ⟨w3.heap.size, 1, none⟩ = some (.int .i64 (f : Int)) ∧ V.cell? ⟨w3.heap.size, 2, none⟩ = some (.int .i64 (e : Int)) ∧ V.cell? ⟨w3.heap.size, 3, none⟩ = some (.bool true) ∧ V.cell? ⟨bb, off + q * 4 + 1, none⟩ = some (.int .i64 x1) ∧ V.cell? ⟨bb, off + q * 4 + 2, none⟩ = some (.string ⟨x2.toArray⟩)) V → Below V.heap.size V V' → (fun V => Below w.heap.size w V ∧ V.cell? ⟨w3.heap.size, 0, none⟩ = some (.int .i64 f0) ∧ V.cell? ⟨w3.heap.size, 1, none⟩ = some (.int .i64 (f : Int)) ∧ V.cell? ⟨w3.heap.size, 2, none⟩ = some (.int .i64 (e : Int)) ∧ V.cell? ⟨w3.heap.size, 3, none⟩ = some (.bool true) ∧ V.cell? ⟨bb, off + q * 4 + 1, none⟩ = some (.int .i64 x1) ∧ V.cell? ⟨bb, off + q * 4 + 2, none⟩ = some (.string ⟨x2.toArray⟩)) V' := fun V V' ⟨a, a0, a1, a2, a3, a4, a5⟩ d => ⟨bel_trans a d, cell_bel d a0, cell_bel d a1, cell_bel d a2, cell_bel d a3, cell_bel d a4, cell_bel d a5⟩
              go_wp2_with fail
              go_region_held3 (fun V => Below w.heap.size w V ∧ V.cell? ⟨w3.heap.size, 0, none⟩ = some (.int .i64 f0) ∧ V.cell? ⟨w3.heap.size, 1, none⟩ = some (.int .i64 (f : Int)) ∧ V.cell? ⟨w3.heap.size, 2, none⟩ = some (.int .i64 (e : Int)) ∧ V.cell? ⟨w3.heap.size, 3, none⟩ = some (.bool true) ∧ V.cell? ⟨bb, off + q * 4 + 1, none⟩ = some (.int .i64 x1) ∧ V.cell? ⟨bb, off + q * 4 + 2, none⟩ = some (.string ⟨x2.toArray⟩)) (first | exact S0 | exact keepS _ _ (by assumption) (by assumption)) (first | (go_at_call 21; refine (DL _ (And.left (by assumption))).mono ?_; rintro e' w' ⟨rfl, b8⟩))
              rename_i hHeld8
              obtain ⟨B4, m0, m1, m2, m3, _, _⟩ := hHeld8
              clear S0 keepS l0 l1 l2 l3 r1 r2 s0 s1 s2 s3
              go_wp2_with fail
              go_ret
              exact ⟨rfl, B4⟩
            | some k =>
              have hkq : k < q := ((la_some _ _ _).1 hy).1
              have hk1 : k < h.length := by omega
              have hcl : countsL h q := counts_yes h q hq1 (by rw [hx]; exact HK2.out) f0 f e hfi hqe
              have hlk : lastN h (ev h q).2.1 (ev h q).2.2.1 q = some k := by rw [hx]; exact hy
              have hat := atI_own h q k hcl hlk
              have hou := outerI_own h q k hlk
              rw [hou] at HO
              obtain ⟨⟨y0, y1, y2, y3⟩, hyk⟩ : ∃ x, ev h k = x := ⟨_, rfl⟩
              have HY : Hid (ev h k = (y0, y1, y2, y3)) := hyk
              have HKl : Hid (k < h.length) := hk1
              rw [hyk, hx] at hat
              simp only at hat
              simp only [oI] at DL
              have g2 : ¬ (k : Int) < 0 := by omega
              have g3 : ¬ (n : Int) ≤ (k : Int) := by omega
              have g4 : ¬ n ≤ k := by omega
              have g5 : k < n := by omega
              clear hfi hfi' hx hy hcl hlk hou hyk
              by_cases hv : y3 = x3
              · have e1 : (y3 == x3) = true := by rw [hv]; exact beq_self_eq_true _
                rw [if_pos hv] at hat
                rw [hat] at HA
                try simp only at HA
                clear hat hv
                go_enter Try.func7, Try.ntmps7
                go_wp2_with fail
                refine (HSh.out _ (Below.refl w.heap.size w)).mono ?_
                rintro e w1 ⟨rfl, b1⟩
                have B1 := bel_trans (Below.refl w.heap.size w) b1
                go_wp2_with fail
                refine (HF.out _ B1).mono ?_
                rintro e w2 ⟨rfl, b2⟩
                have B2 := bel_trans B1 b2
                obtain ⟨s0, s1, s2, s3⟩ := HQ.out q HQ1.out _ B2
                rw [HX.out] at s0 s1 s2 s3
                simp only at s0 s1 s2 s3
                go_wp2_with fail
                refine (D _ B2).mono ?_
                rintro e' w3 ⟨rfl, b3⟩
                have B3 := bel_trans B2 b3
                have X3 := SBox.new w3 39 #[.int .i64 f0, .int .i64 (f : Int), .int .i64 (e : Int), .bool true]
                have B3' := B3.alloc B3.size (.cells #[.int .i64 f0, .int .i64 (f : Int), .int .i64 (e : Int), .bool true] 39)
                have l0 := X3.cell 0 _ rfl
                have l1 := X3.cell 1 _ rfl
                have l2 := X3.cell 2 _ rfl
                have l3 := X3.cell 3 _ rfl
                obtain ⟨_, r1, r2, _⟩ := HQ.out q HQ1.out _ B3'
                rw [HX.out] at r1 r2
                simp only at r1 r2
                have S0 : (fun V => Below w.heap.size w V ∧ V.cell? ⟨w3.heap.size, 0, none⟩ = some (.int .i64 f0) ∧ V.cell? ⟨w3.heap.size, 1, none⟩ = some (.int .i64 (f : Int)) ∧ V.cell? ⟨w3.heap.size, 2, none⟩ = some (.int .i64 (e : Int)) ∧ V.cell? ⟨w3.heap.size, 3, none⟩ = some (.bool true) ∧ V.cell? ⟨bb, off + q * 4 + 1, none⟩ = some (.int .i64 x1) ∧ V.cell? ⟨bb, off + q * 4 + 2, none⟩ = some (.string ⟨x2.toArray⟩)) (w3.alloc (.cells #[.int .i64 f0, .int .i64 (f : Int), .int .i64 (e : Int), .bool true] 39)).drew := ⟨B3'.drew, l0, l1, l2, l3, r1, r2⟩
                have keepS : ∀ V V' : World, (fun V => Below w.heap.size w V ∧ V.cell? ⟨w3.heap.size, 0, none⟩ = some (.int .i64 f0) ∧ V.cell? ⟨w3.heap.size, 1, none⟩ = some (.int .i64 (f : Int)) ∧ V.cell? ⟨w3.heap.size, 2, none⟩ = some (.int .i64 (e : Int)) ∧ V.cell? ⟨w3.heap.size, 3, none⟩ = some (.bool true) ∧ V.cell? ⟨bb, off + q * 4 + 1, none⟩ = some (.int .i64 x1) ∧ V.cell? ⟨bb, off + q * 4 + 2, none⟩ = some (.string ⟨x2.toArray⟩)) V → Below V.heap.size V V' → (fun V => Below w.heap.size w V ∧ V.cell? ⟨w3.heap.size, 0, none⟩ = some (.int .i64 f0) ∧ V.cell? ⟨w3.heap.size, 1, none⟩ = some (.int .i64 (f : Int)) ∧ V.cell? ⟨w3.heap.size, 2, none⟩ = some (.int .i64 (e : Int)) ∧ V.cell? ⟨w3.heap.size, 3, none⟩ = some (.bool true) ∧ V.cell? ⟨bb, off + q * 4 + 1, none⟩ = some (.int .i64 x1) ∧ V.cell? ⟨bb, off + q * 4 + 2, none⟩ = some (.string ⟨x2.toArray⟩)) V' := fun V V' ⟨a, a0, a1, a2, a3, a4, a5⟩ d => ⟨bel_trans a d, cell_bel d a0, cell_bel d a1, cell_bel d a2, cell_bel d a3, cell_bel d a4, cell_bel d a5⟩
                go_wp2_with fail
                go_region_held3 (fun V => Below w.heap.size w V ∧ V.cell? ⟨w3.heap.size, 0, none⟩ = some (.int .i64 f0) ∧ V.cell? ⟨w3.heap.size, 1, none⟩ = some (.int .i64 (f : Int)) ∧ V.cell? ⟨w3.heap.size, 2, none⟩ = some (.int .i64 (e : Int)) ∧ V.cell? ⟨w3.heap.size, 3, none⟩ = some (.bool true) ∧ V.cell? ⟨bb, off + q * 4 + 1, none⟩ = some (.int .i64 x1) ∧ V.cell? ⟨bb, off + q * 4 + 2, none⟩ = some (.string ⟨x2.toArray⟩)) (first | exact S0 | exact keepS _ _ (by assumption) (by assumption)) (first | (go_at_call 21; refine (DL _ (And.left (by assumption))).mono ?_; rintro e' w' ⟨rfl, b8⟩))
                rename_i hHeld8
                obtain ⟨B4, m0, m1, m2, m3, _, _⟩ := hHeld8
                clear S0 keepS l0 l1 l2 l3 r1 r2 s0 s1 s2 s3
                go_wp2_with fail
                refine (HA.out _ B4).mono ?_
                rintro e' w5 ⟨rfl, b5⟩
                have B5 := bel_trans B4 b5
                have X5 := SBox.new w5 29 #[.int .i64 0, .int .i64 0, .int .i64 0]
                have B5' := B5.alloc B5.size (.cells #[.int .i64 0, .int .i64 0, .int .i64 0] 29)
                have z0 := X5.cell 0 _ rfl
                have z1 := X5.cell 1 _ rfl
                have z2 := X5.cell 2 _ rfl
                obtain ⟨_, _, _, p3⟩ := HQ.out k HKl.out _ B5'
                rw [HY.out] at p3
                obtain ⟨_, _, _, q3⟩ := HQ.out q HQ1.out _ B5'
                rw [HX.out] at q3
                simp only at p3 q3
                go_wp2_with fail
                go_quiet (fail)
                go_wp2_with fail
                go_ret
                exact ⟨rfl, below_drewN B5' _⟩
              · rw [if_neg hv] at hat
                rw [hat] at HA
                try simp only at HA
                have e1 : (y3 == x3) = false := beq_eq_false_iff_ne.2 hv
                clear hat hv
                go_enter Try.func7, Try.ntmps7
                go_wp2_with fail
                refine (HSh.out _ (Below.refl w.heap.size w)).mono ?_
                rintro e w1 ⟨rfl, b1⟩
                have B1 := bel_trans (Below.refl w.heap.size w) b1
                go_wp2_with fail
                refine (HF.out _ B1).mono ?_
                rintro e w2 ⟨rfl, b2⟩
                have B2 := bel_trans B1 b2
                obtain ⟨s0, s1, s2, s3⟩ := HQ.out q HQ1.out _ B2
                rw [HX.out] at s0 s1 s2 s3
                simp only at s0 s1 s2 s3
                go_wp2_with fail
                refine (D _ B2).mono ?_
                rintro e' w3 ⟨rfl, b3⟩
                have B3 := bel_trans B2 b3
                have X3 := SBox.new w3 39 #[.int .i64 f0, .int .i64 (f : Int), .int .i64 (e : Int), .bool true]
                have B3' := B3.alloc B3.size (.cells #[.int .i64 f0, .int .i64 (f : Int), .int .i64 (e : Int), .bool true] 39)
                have l0 := X3.cell 0 _ rfl
                have l1 := X3.cell 1 _ rfl
                have l2 := X3.cell 2 _ rfl
                have l3 := X3.cell 3 _ rfl
                obtain ⟨_, r1, r2, _⟩ := HQ.out q HQ1.out _ B3'
                rw [HX.out] at r1 r2
                simp only at r1 r2
                have S0 : (fun V => Below w.heap.size w V ∧ V.cell? ⟨w3.heap.size, 0, none⟩ = some (.int .i64 f0) ∧ V.cell? ⟨w3.heap.size, 1, none⟩ = some (.int .i64 (f : Int)) ∧ V.cell? ⟨w3.heap.size, 2, none⟩ = some (.int .i64 (e : Int)) ∧ V.cell? ⟨w3.heap.size, 3, none⟩ = some (.bool true) ∧ V.cell? ⟨bb, off + q * 4 + 1, none⟩ = some (.int .i64 x1) ∧ V.cell? ⟨bb, off + q * 4 + 2, none⟩ = some (.string ⟨x2.toArray⟩)) (w3.alloc (.cells #[.int .i64 f0, .int .i64 (f : Int), .int .i64 (e : Int), .bool true] 39)).drew := ⟨B3'.drew, l0, l1, l2, l3, r1, r2⟩
                have keepS : ∀ V V' : World, (fun V => Below w.heap.size w V ∧ V.cell? ⟨w3.heap.size, 0, none⟩ = some (.int .i64 f0) ∧ V.cell? ⟨w3.heap.size, 1, none⟩ = some (.int .i64 (f : Int)) ∧ V.cell? ⟨w3.heap.size, 2, none⟩ = some (.int .i64 (e : Int)) ∧ V.cell? ⟨w3.heap.size, 3, none⟩ = some (.bool true) ∧ V.cell? ⟨bb, off + q * 4 + 1, none⟩ = some (.int .i64 x1) ∧ V.cell? ⟨bb, off + q * 4 + 2, none⟩ = some (.string ⟨x2.toArray⟩)) V → Below V.heap.size V V' → (fun V => Below w.heap.size w V ∧ V.cell? ⟨w3.heap.size, 0, none⟩ = some (.int .i64 f0) ∧ V.cell? ⟨w3.heap.size, 1, none⟩ = some (.int .i64 (f : Int)) ∧ V.cell? ⟨w3.heap.size, 2, none⟩ = some (.int .i64 (e : Int)) ∧ V.cell? ⟨w3.heap.size, 3, none⟩ = some (.bool true) ∧ V.cell? ⟨bb, off + q * 4 + 1, none⟩ = some (.int .i64 x1) ∧ V.cell? ⟨bb, off + q * 4 + 2, none⟩ = some (.string ⟨x2.toArray⟩)) V' := fun V V' ⟨a, a0, a1, a2, a3, a4, a5⟩ d => ⟨bel_trans a d, cell_bel d a0, cell_bel d a1, cell_bel d a2, cell_bel d a3, cell_bel d a4, cell_bel d a5⟩
                go_wp2_with fail
                go_region_held3 (fun V => Below w.heap.size w V ∧ V.cell? ⟨w3.heap.size, 0, none⟩ = some (.int .i64 f0) ∧ V.cell? ⟨w3.heap.size, 1, none⟩ = some (.int .i64 (f : Int)) ∧ V.cell? ⟨w3.heap.size, 2, none⟩ = some (.int .i64 (e : Int)) ∧ V.cell? ⟨w3.heap.size, 3, none⟩ = some (.bool true) ∧ V.cell? ⟨bb, off + q * 4 + 1, none⟩ = some (.int .i64 x1) ∧ V.cell? ⟨bb, off + q * 4 + 2, none⟩ = some (.string ⟨x2.toArray⟩)) (first | exact S0 | exact keepS _ _ (by assumption) (by assumption)) (first | (go_at_call 21; refine (DL _ (And.left (by assumption))).mono ?_; rintro e' w' ⟨rfl, b8⟩))
                rename_i hHeld8
                obtain ⟨B4, m0, m1, m2, m3, _, _⟩ := hHeld8
                clear S0 keepS l0 l1 l2 l3 r1 r2 s0 s1 s2 s3
                go_wp2_with fail
                refine (HA.out _ B4).mono ?_
                rintro e' w5 ⟨rfl, b5⟩
                have B5 := bel_trans B4 b5
                have X5 := SBox.new w5 29 #[.int .i64 3, .int .i64 (q : Int), .int .i64 (k : Int)]
                have B5' := B5.alloc B5.size (.cells #[.int .i64 3, .int .i64 (q : Int), .int .i64 (k : Int)] 29)
                have z0 := X5.cell 0 _ rfl
                have z1 := X5.cell 1 _ rfl
                have z2 := X5.cell 2 _ rfl
                obtain ⟨_, _, _, p3⟩ := HQ.out k HKl.out _ B5'
                rw [HY.out] at p3
                obtain ⟨_, _, _, q3⟩ := HQ.out q HQ1.out _ B5'
                rw [HX.out] at q3
                simp only at p3 q3
                go_wp2_with fail
                go_quiet (fail)
                go_wp2_with fail
                refine (HO.out _ (below_drewN B5' _)).mono ?_
                rintro e' w6 ⟨rfl, b6⟩
                go_wp2_with fail
                go_ret
                exact ⟨rfl, bel_trans (below_drewN B5' _) b6⟩
          · have hor : c = false ∨ (c = true ∧ (e : Int) ≤ (q : Int) ∧ e ≤ q) := by
              cases c with
              | false => left; rfl
              | true => right; exact ⟨rfl, by have : ¬ q < e := fun hh => hcm ⟨rfl, hh⟩
                                              omega, by have : ¬ q < e := fun hh => hcm ⟨rfl, hh⟩
                                                        omega⟩
            clear hfi hfi' hx hcm hy
            rcases hor with rfl | ⟨rfl, g1, g2⟩
            · go_enter Try.func7, Try.ntmps7
              go_wp2_with fail
              refine (HSh.out _ (Below.refl w.heap.size w)).mono ?_
              rintro e w1 ⟨rfl, b1⟩
              have B1 := bel_trans (Below.refl w.heap.size w) b1
              go_wp2_with fail
              refine (HF.out _ B1).mono ?_
              rintro e w2 ⟨rfl, b2⟩
              have B2 := bel_trans B1 b2
              obtain ⟨s0, s1, s2, s3⟩ := HQ.out q HQ1.out _ B2
              rw [HX.out] at s0 s1 s2 s3
              simp only at s0 s1 s2 s3
              go_wp2_with fail
              refine (D _ B2).mono ?_
              rintro e' w3 ⟨rfl, b3⟩
              have B3 := bel_trans B2 b3
              have X3 := SBox.new w3 39 #[.int .i64 f0, .int .i64 (f : Int), .int .i64 (e : Int), .bool false]
              have B3' := B3.alloc B3.size (.cells #[.int .i64 f0, .int .i64 (f : Int), .int .i64 (e : Int), .bool false] 39)
              have l0 := X3.cell 0 _ rfl
              have l1 := X3.cell 1 _ rfl
              have l2 := X3.cell 2 _ rfl
              have l3 := X3.cell 3 _ rfl
              obtain ⟨_, r1, r2, _⟩ := HQ.out q HQ1.out _ B3'
              rw [HX.out] at r1 r2
              simp only at r1 r2
              have S0 : (fun V => Below w.heap.size w V ∧ V.cell? ⟨w3.heap.size, 0, none⟩ = some (.int .i64 f0) ∧ V.cell? ⟨w3.heap.size, 1, none⟩ = some (.int .i64 (f : Int)) ∧ V.cell? ⟨w3.heap.size, 2, none⟩ = some (.int .i64 (e : Int)) ∧ V.cell? ⟨w3.heap.size, 3, none⟩ = some (.bool false) ∧ V.cell? ⟨bb, off + q * 4 + 1, none⟩ = some (.int .i64 x1) ∧ V.cell? ⟨bb, off + q * 4 + 2, none⟩ = some (.string ⟨x2.toArray⟩)) (w3.alloc (.cells #[.int .i64 f0, .int .i64 (f : Int), .int .i64 (e : Int), .bool false] 39)).drew := ⟨B3'.drew, l0, l1, l2, l3, r1, r2⟩
              have keepS : ∀ V V' : World, (fun V => Below w.heap.size w V ∧ V.cell? ⟨w3.heap.size, 0, none⟩ = some (.int .i64 f0) ∧ V.cell? ⟨w3.heap.size, 1, none⟩ = some (.int .i64 (f : Int)) ∧ V.cell? ⟨w3.heap.size, 2, none⟩ = some (.int .i64 (e : Int)) ∧ V.cell? ⟨w3.heap.size, 3, none⟩ = some (.bool false) ∧ V.cell? ⟨bb, off + q * 4 + 1, none⟩ = some (.int .i64 x1) ∧ V.cell? ⟨bb, off + q * 4 + 2, none⟩ = some (.string ⟨x2.toArray⟩)) V → Below V.heap.size V V' → (fun V => Below w.heap.size w V ∧ V.cell? ⟨w3.heap.size, 0, none⟩ = some (.int .i64 f0) ∧ V.cell? ⟨w3.heap.size, 1, none⟩ = some (.int .i64 (f : Int)) ∧ V.cell? ⟨w3.heap.size, 2, none⟩ = some (.int .i64 (e : Int)) ∧ V.cell? ⟨w3.heap.size, 3, none⟩ = some (.bool false) ∧ V.cell? ⟨bb, off + q * 4 + 1, none⟩ = some (.int .i64 x1) ∧ V.cell? ⟨bb, off + q * 4 + 2, none⟩ = some (.string ⟨x2.toArray⟩)) V' := fun V V' ⟨a, a0, a1, a2, a3, a4, a5⟩ d => ⟨bel_trans a d, cell_bel d a0, cell_bel d a1, cell_bel d a2, cell_bel d a3, cell_bel d a4, cell_bel d a5⟩
              go_wp2_with fail
              go_region_held3 (fun V => Below w.heap.size w V ∧ V.cell? ⟨w3.heap.size, 0, none⟩ = some (.int .i64 f0) ∧ V.cell? ⟨w3.heap.size, 1, none⟩ = some (.int .i64 (f : Int)) ∧ V.cell? ⟨w3.heap.size, 2, none⟩ = some (.int .i64 (e : Int)) ∧ V.cell? ⟨w3.heap.size, 3, none⟩ = some (.bool false) ∧ V.cell? ⟨bb, off + q * 4 + 1, none⟩ = some (.int .i64 x1) ∧ V.cell? ⟨bb, off + q * 4 + 2, none⟩ = some (.string ⟨x2.toArray⟩)) (first | exact S0 | exact keepS _ _ (by assumption) (by assumption)) (first | (go_at_call 21; refine (DL _ (And.left (by assumption))).mono ?_; rintro e' w' ⟨rfl, b8⟩))
              rename_i hHeld8
              obtain ⟨B4, m0, m1, m2, m3, _, _⟩ := hHeld8
              clear S0 keepS l0 l1 l2 l3 r1 r2 s0 s1 s2 s3
              go_wp2_with fail
              go_ret
              exact ⟨rfl, B4⟩
            · go_enter Try.func7, Try.ntmps7
              go_wp2_with fail
              refine (HSh.out _ (Below.refl w.heap.size w)).mono ?_
              rintro e w1 ⟨rfl, b1⟩
              have B1 := bel_trans (Below.refl w.heap.size w) b1
              go_wp2_with fail
              refine (HF.out _ B1).mono ?_
              rintro e w2 ⟨rfl, b2⟩
              have B2 := bel_trans B1 b2
              obtain ⟨s0, s1, s2, s3⟩ := HQ.out q HQ1.out _ B2
              rw [HX.out] at s0 s1 s2 s3
              simp only at s0 s1 s2 s3
              go_wp2_with fail
              refine (D _ B2).mono ?_
              rintro e' w3 ⟨rfl, b3⟩
              have B3 := bel_trans B2 b3
              have X3 := SBox.new w3 39 #[.int .i64 f0, .int .i64 (f : Int), .int .i64 (e : Int), .bool true]
              have B3' := B3.alloc B3.size (.cells #[.int .i64 f0, .int .i64 (f : Int), .int .i64 (e : Int), .bool true] 39)
              have l0 := X3.cell 0 _ rfl
              have l1 := X3.cell 1 _ rfl
              have l2 := X3.cell 2 _ rfl
              have l3 := X3.cell 3 _ rfl
              obtain ⟨_, r1, r2, _⟩ := HQ.out q HQ1.out _ B3'
              rw [HX.out] at r1 r2
              simp only at r1 r2
              have S0 : (fun V => Below w.heap.size w V ∧ V.cell? ⟨w3.heap.size, 0, none⟩ = some (.int .i64 f0) ∧ V.cell? ⟨w3.heap.size, 1, none⟩ = some (.int .i64 (f : Int)) ∧ V.cell? ⟨w3.heap.size, 2, none⟩ = some (.int .i64 (e : Int)) ∧ V.cell? ⟨w3.heap.size, 3, none⟩ = some (.bool true) ∧ V.cell? ⟨bb, off + q * 4 + 1, none⟩ = some (.int .i64 x1) ∧ V.cell? ⟨bb, off + q * 4 + 2, none⟩ = some (.string ⟨x2.toArray⟩)) (w3.alloc (.cells #[.int .i64 f0, .int .i64 (f : Int), .int .i64 (e : Int), .bool true] 39)).drew := ⟨B3'.drew, l0, l1, l2, l3, r1, r2⟩
              have keepS : ∀ V V' : World, (fun V => Below w.heap.size w V ∧ V.cell? ⟨w3.heap.size, 0, none⟩ = some (.int .i64 f0) ∧ V.cell? ⟨w3.heap.size, 1, none⟩ = some (.int .i64 (f : Int)) ∧ V.cell? ⟨w3.heap.size, 2, none⟩ = some (.int .i64 (e : Int)) ∧ V.cell? ⟨w3.heap.size, 3, none⟩ = some (.bool true) ∧ V.cell? ⟨bb, off + q * 4 + 1, none⟩ = some (.int .i64 x1) ∧ V.cell? ⟨bb, off + q * 4 + 2, none⟩ = some (.string ⟨x2.toArray⟩)) V → Below V.heap.size V V' → (fun V => Below w.heap.size w V ∧ V.cell? ⟨w3.heap.size, 0, none⟩ = some (.int .i64 f0) ∧ V.cell? ⟨w3.heap.size, 1, none⟩ = some (.int .i64 (f : Int)) ∧ V.cell? ⟨w3.heap.size, 2, none⟩ = some (.int .i64 (e : Int)) ∧ V.cell? ⟨w3.heap.size, 3, none⟩ = some (.bool true) ∧ V.cell? ⟨bb, off + q * 4 + 1, none⟩ = some (.int .i64 x1) ∧ V.cell? ⟨bb, off + q * 4 + 2, none⟩ = some (.string ⟨x2.toArray⟩)) V' := fun V V' ⟨a, a0, a1, a2, a3, a4, a5⟩ d => ⟨bel_trans a d, cell_bel d a0, cell_bel d a1, cell_bel d a2, cell_bel d a3, cell_bel d a4, cell_bel d a5⟩
              go_wp2_with fail
              go_region_held3 (fun V => Below w.heap.size w V ∧ V.cell? ⟨w3.heap.size, 0, none⟩ = some (.int .i64 f0) ∧ V.cell? ⟨w3.heap.size, 1, none⟩ = some (.int .i64 (f : Int)) ∧ V.cell? ⟨w3.heap.size, 2, none⟩ = some (.int .i64 (e : Int)) ∧ V.cell? ⟨w3.heap.size, 3, none⟩ = some (.bool true) ∧ V.cell? ⟨bb, off + q * 4 + 1, none⟩ = some (.int .i64 x1) ∧ V.cell? ⟨bb, off + q * 4 + 2, none⟩ = some (.string ⟨x2.toArray⟩)) (first | exact S0 | exact keepS _ _ (by assumption) (by assumption)) (first | (go_at_call 21; refine (DL _ (And.left (by assumption))).mono ?_; rintro e' w' ⟨rfl, b8⟩))
              rename_i hHeld8
              obtain ⟨B4, m0, m1, m2, m3, _, _⟩ := hHeld8
              clear S0 keepS l0 l1 l2 l3 r1 r2 s0 s1 s2 s3
              go_wp2_with fail
              go_ret
              exact ⟨rfl, B4⟩
        · have e0 : (x0 != 2) = true := by simpa using hk2
          clear hfi hfi' hx
          go_enter Try.func7, Try.ntmps7
          go_wp2_with fail
          refine (HSh.out _ (Below.refl w.heap.size w)).mono ?_
          rintro e w1 ⟨rfl, b1⟩
          have B1 := bel_trans (Below.refl w.heap.size w) b1
          go_wp2_with fail
          refine (HF.out _ B1).mono ?_
          rintro e w2 ⟨rfl, b2⟩
          have B2 := bel_trans B1 b2
          obtain ⟨s0, s1, s2, s3⟩ := HQ.out q HQ1.out _ B2
          rw [HX.out] at s0 s1 s2 s3
          simp only at s0 s1 s2 s3
          go_wp2_with fail
          go_ret
          exact ⟨rfl, B2⟩
  · rw [decide_eq_false h1] at HF
    obtain ⟨ah, ch, rfl, ih, jh, kh, HCh⟩ := Th.reads
    go_enter Try.func7, Try.ntmps7
    go_wp2_with fail
    refine (HSh.out _ (Below.refl w.heap.size w)).mono ?_
    rintro e w1 ⟨rfl, b1⟩
    have B1 := bel_trans (Below.refl w.heap.size w) b1
    go_wp2_with fail
    refine (HF.out _ B1).mono ?_
    rintro e w2 ⟨rfl, b2⟩
    have B2 := bel_trans B1 b2
    go_wp2_with fail
    go_ret
    exact ⟨rfl, B2⟩
end Go.Proofs.Ytljgflgfcbmgiaa
