/-
  The walk of TaintAborts.
-/
import Derived.Test.YtljgflgfcbmgiaaZShown9
import Derived.Test.YtljgflgfcbmgiaaZR9All
import Derived.Test.YtljgflgfcbmgiaaZR8Life
import Derived.Test.YtljgflgfcbmgiaaZBads9
import Derived.Deep.RegionHeld3
import Derived.BigQuiet
import Derived.Deep.QuietTactic
namespace Go.Proofs.Ytljgflgfcbmgiaa
set_option maxRecDepth 100000
open Go.RowKit
set_option linter.unusedVariables false
attribute [local go_sem] ba_size ba_append ba_get ba_extract
set_option maxHeartbeats 4000000 in
theorem aborts9_walk (C : P9C) (w : World) (vh : Value) (h : List Ev) (Th : IsEvs w vh h) (Gh : ∀ x ∈ h, goodE x) (i : Int) (gi : okI i) :
    Calls Try.prog 8 #[vh, .int .i64 i] w fun e w' => e = .returned (.bool true) ∧ Below w.heap.size w w' := by
  have HSh : Hid (∀ W, Below w.heap.size w W → Calls Try.prog 9 #[] W fun e w' => e = .returned (.bool true) ∧ Below W.heap.size W w') := fun W h => shown9_any C W
  have HF : Hid (∀ W, Below w.heap.size w W → Calls Try.prog 10 #[vh] W fun e w' => e = .returned (.bool (decide (h.length ≤ 300))) ∧ Below W.heap.size W w') := fun W hb => few9_any vh h W (Th.below hb)
  by_cases h1 : h.length ≤ 300
  · rw [decide_eq_true h1] at HF
    have HA : Hid (∀ W, Below w.heap.size w W → Calls Try.prog 15 #[vh, .int .i64 i] W fun e w' => e = .returned (badA (atI h i)) ∧ Below W.heap.size W w') := fun W hb => C.at_ h vh W i (Th.below hb) Gh h1 gi
    have HO : Hid (∀ W, Below w.heap.size w W → Calls Try.prog 17 #[vh, .int .i64 i] W fun e w' => e = .returned (.bool (outerI h i)) ∧ Below W.heap.size W w') := fun W hb => C.outer h vh W i (Th.below hb) Gh h1 gi
    have HFi : Hid (∀ t W, Below w.heap.size w W → Calls Try.prog 20 #[vh, .int .i64 t] W fun e w' => e = .returned (.tuple #[lifA (findP h t).1, .bool (findP h t).2]) ∧ Below W.heap.size W w') := fun t W hb => rfind_any h vh W (Th.below hb) t
    obtain ⟨ah, ch, rfl, ih, jh, kh, HCh⟩ := Th.reads
    obtain ⟨n, hn⟩ : ∃ n, h.length = n := ⟨_, rfl⟩
    have HN : Hid (h.length = n) := hn
    simp only [hn] at HF HA HO HFi h1 ih kh ⊢
    clear hn
    by_cases i0 : i < 0
    · go_enter Try.func8, Try.ntmps8
      go_wp2_with fail
      refine (HSh.out _ (Below.refl w.heap.size w)).mono ?_
      rintro e w1 ⟨rfl, b1⟩
      have B1 := bel_trans (Below.refl w.heap.size w) b1
      go_wp2_with fail
      refine (HF.out _ B1).mono ?_
      rintro e w2 ⟨rfl, b2⟩
      have B2 := bel_trans B1 b2
      go_wp2_with fail
      go_ret
      exact ⟨rfl, B2⟩
    · by_cases i1 : (n : Int) ≤ i
      · go_enter Try.func8, Try.ntmps8
        go_wp2_with fail
        refine (HSh.out _ (Below.refl w.heap.size w)).mono ?_
        rintro e w1 ⟨rfl, b1⟩
        have B1 := bel_trans (Below.refl w.heap.size w) b1
        go_wp2_with fail
        refine (HF.out _ B1).mono ?_
        rintro e w2 ⟨rfl, b2⟩
        have B2 := bel_trans B1 b2
        go_wp2_with fail
        go_ret
        exact ⟨rfl, B2⟩
      · skip
        obtain ⟨q, rfl⟩ : ∃ q : Nat, i = (q : Int) := ⟨i.toNat, by omega⟩
        have hq1 : q < h.length := by have := HN.out; omega
        have hqn : q < n := by omega
        have j1 : ¬ (n : Int) ≤ (q : Int) := by omega
        have j2 : ¬ n ≤ q := by omega
        have j3 : ¬ (q : Int) < 0 := by omega
        obtain ⟨bb, off, rfl, HQ⟩ := HCh.out (by omega)
        obtain ⟨⟨f0, f, e, c⟩, hfi⟩ := find_has h q hq1
        have HQ1 : Hid (q < h.length) := hq1
        obtain ⟨⟨x0, x1, x2, x3⟩, hx⟩ : ∃ x, ev h q = x := ⟨_, rfl⟩
        have HX : Hid (ev h q = (x0, x1, x2, x3)) := hx
        have D := fun W hb => HFi.out x1 W hb
        have hfi' := hfi
        rw [hx] at hfi'
        simp only at hfi'
        rw [findP_of hfi'] at D
        simp only at D
        by_cases hcm : c = true ∧ q < e
        · obtain ⟨rfl, hqe⟩ := hcm
          have g1 : (q : Int) < (e : Int) := by omega
          clear hfi hfi' hx
          go_enter Try.func8, Try.ntmps8
          go_wp2_with fail
          refine (HSh.out _ (Below.refl w.heap.size w)).mono ?_
          rintro e w1 ⟨rfl, b1⟩
          have B1 := bel_trans (Below.refl w.heap.size w) b1
          go_wp2_with fail
          refine (HF.out _ B1).mono ?_
          rintro e w2 ⟨rfl, b2⟩
          have B2 := bel_trans B1 b2
          obtain ⟨s0, s1, s2, s3⟩ := HQ.out q HQ1.out _ B2
          rw [HX.out] at s0 s1 s2 s3
          simp only at s0 s1 s2 s3
          go_wp2_with fail
          refine (D _ B2).mono ?_
          rintro e' w3 ⟨rfl, b3⟩
          have B3 := bel_trans B2 b3
          have X3 := SBox.new w3 39 #[.int .i64 f0, .int .i64 (f : Int), .int .i64 (e : Int), .bool true]
          have B3' := B3.alloc B3.size (.cells #[.int .i64 f0, .int .i64 (f : Int), .int .i64 (e : Int), .bool true] 39)
          have l0 := X3.cell 0 _ rfl
          have l1 := X3.cell 1 _ rfl
          have l2 := X3.cell 2 _ rfl
          have l3 := X3.cell 3 _ rfl
          go_wp2_with fail
          go_ret
          exact ⟨rfl, B3'⟩
        · have hcb := counts_no h q f0 f e c hfi hcm
          rw [atI_no h q hcb] at HA
          rw [outerI_no h q hcb] at HO
          have hor : c = false ∨ (c = true ∧ ¬ (q : Int) < (e : Int) ∧ ¬ q < e) := by
            cases c with
            | false => left; rfl
            | true => right; exact ⟨rfl, by have : ¬ q < e := fun hh => hcm ⟨rfl, hh⟩
                                            omega, fun hh => hcm ⟨rfl, hh⟩⟩
          clear hfi hfi' hx hcb hcm
          rcases hor with rfl | ⟨rfl, g1, g2⟩
          · go_enter Try.func8, Try.ntmps8
            go_wp2_with fail
            refine (HSh.out _ (Below.refl w.heap.size w)).mono ?_
            rintro e w1 ⟨rfl, b1⟩
            have B1 := bel_trans (Below.refl w.heap.size w) b1
            go_wp2_with fail
            refine (HF.out _ B1).mono ?_
            rintro e w2 ⟨rfl, b2⟩
            have B2 := bel_trans B1 b2
            obtain ⟨s0, s1, s2, s3⟩ := HQ.out q HQ1.out _ B2
            rw [HX.out] at s0 s1 s2 s3
            simp only at s0 s1 s2 s3
            go_wp2_with fail
            refine (D _ B2).mono ?_
            rintro e' w3 ⟨rfl, b3⟩
            have B3 := bel_trans B2 b3
            have X3 := SBox.new w3 39 #[.int .i64 f0, .int .i64 (f : Int), .int .i64 (e : Int), .bool false]
            have B3' := B3.alloc B3.size (.cells #[.int .i64 f0, .int .i64 (f : Int), .int .i64 (e : Int), .bool false] 39)
            have l0 := X3.cell 0 _ rfl
            have l1 := X3.cell 1 _ rfl
            have l2 := X3.cell 2 _ rfl
            have l3 := X3.cell 3 _ rfl
            go_wp2_with fail
            refine (HA.out _ B3').mono ?_
            rintro e' w4 ⟨rfl, b4⟩
            have B4 := bel_trans B3' b4
            go_wp2_with fail
            refine (HO.out _ B4).mono ?_
            rintro e' w5 ⟨rfl, b5⟩
            go_wp2_with fail
            go_ret
            exact ⟨rfl, bel_trans B4 b5⟩
          · go_enter Try.func8, Try.ntmps8
            go_wp2_with fail
            refine (HSh.out _ (Below.refl w.heap.size w)).mono ?_
            rintro e w1 ⟨rfl, b1⟩
            have B1 := bel_trans (Below.refl w.heap.size w) b1
            go_wp2_with fail
            refine (HF.out _ B1).mono ?_
            rintro e w2 ⟨rfl, b2⟩
            have B2 := bel_trans B1 b2
            obtain ⟨s0, s1, s2, s3⟩ := HQ.out q HQ1.out _ B2
            rw [HX.out] at s0 s1 s2 s3
            simp only at s0 s1 s2 s3
            go_wp2_with fail
            refine (D _ B2).mono ?_
            rintro e' w3 ⟨rfl, b3⟩
            have B3 := bel_trans B2 b3
            have X3 := SBox.new w3 39 #[.int .i64 f0, .int .i64 (f : Int), .int .i64 (e : Int), .bool true]
            have B3' := B3.alloc B3.size (.cells #[.int .i64 f0, .int .i64 (f : Int), .int .i64 (e : Int), .bool true] 39)
            have l0 := X3.cell 0 _ rfl
            have l1 := X3.cell 1 _ rfl
            have l2 := X3.cell 2 _ rfl
            have l3 := X3.cell 3 _ rfl
            go_wp2_with fail
            refine (HA.out _ B3').mono ?_
            rintro e' w4 ⟨rfl, b4⟩
            have B4 := bel_trans B3' b4
            go_wp2_with fail
            refine (HO.out _ B4).mono ?_
            rintro e' w5 ⟨rfl, b5⟩
            go_wp2_with fail
            go_ret
            exact ⟨rfl, bel_trans B4 b5⟩
  · rw [decide_eq_false h1] at HF
    obtain ⟨ah, ch, rfl, ih, jh, kh, HCh⟩ := Th.reads
    go_enter Try.func8, Try.ntmps8
    go_wp2_with fail
    refine (HSh.out _ (Below.refl w.heap.size w)).mono ?_
    rintro e w1 ⟨rfl, b1⟩
    have B1 := bel_trans (Below.refl w.heap.size w) b1
    go_wp2_with fail
    refine (HF.out _ B1).mono ?_
    rintro e w2 ⟨rfl, b2⟩
    have B2 := bel_trans B1 b2
    go_wp2_with fail
    go_ret
    exact ⟨rfl, B2⟩
end Go.Proofs.Ytljgflgfcbmgiaa
