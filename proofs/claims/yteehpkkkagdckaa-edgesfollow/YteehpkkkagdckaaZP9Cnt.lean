/-
  What taint.counts and ownWrite answer.
-/
import Derived.Test.YteehpkkkagdckaaGE
import Derived.Test.YteehpkkkagdckaaZP8Find
import Derived.Test.YteehpkkkagdckaaGP
import Derived.Deep.RegionHeld3
namespace Go.Proofs.Yteehpkkkagdckaa
set_option maxRecDepth 100000
open Go.RowKit
set_option linter.unusedVariables false
attribute [local go_sem] ba_size
set_option maxHeartbeats 2000000 in
theorem pcounts_any (h : List Ev) (v : Value) (w : World) (hT : IsEvs w v h) (i : Int) :
    Calls Try.prog 66 #[v, .int .i64 i] w fun e w' => e = .returned (.bool (countI h i)) ∧ Below w.heap.size w w' := by
  have C1 := fun (t : Int) W hW => pfind8_any h v W t (hT.below (w' := W) hW)
  obtain ⟨a, cap, rfl, h1, h2, h3, HC⟩ := hT.reads
  obtain ⟨n, hn⟩ : ∃ n, h.length = n := ⟨_, rfl⟩
  have HN : Hid (h.length = n) := hn
  simp only [hn] at C1
  rw [hn] at h1 h3 ⊢
  clear hT hn
  by_cases i0 : i < 0
  · rw [show countI h i = false by unfold countI; rw [decide_eq_false (by omega)]; rfl]
    go_enter Try.func66, Try.ntmps66
    go_wp2_with fail
    go_ret
    exact ⟨rfl, Below.refl _ _⟩
  · obtain ⟨q, rfl⟩ : ∃ q : Nat, i = (q : Int) := ⟨i.toNat, by omega⟩
    have HQQ : Hid (countI h (q : Int) = countsB h q) := by show _ = _; unfold countI; rw [decide_eq_true (by omega)]; simp
    by_cases i1 : q < n
    · have hq1 : q < h.length := by have := HN.out; omega
      have j1 : ¬ (n : Int) ≤ (q : Int) := by omega
      have j11 : ¬ n ≤ q := by omega
      obtain ⟨bb, off, rfl, HQ⟩ := HC.out (by omega)
      obtain ⟨c0, c1, _, _⟩ := HQ.out q hq1 _ (Below.refl _ _)
      obtain ⟨⟨x0, x1, x2, x3⟩, hx⟩ : ∃ x, ev h q = x := ⟨_, rfl⟩
      have HX : Hid (ev h q = (x0, x1, x2, x3)) := hx
      rw [hx] at c0 c1
      simp only at c0 c1
      by_cases d : x0 = 2
      · have e2 : (x0 != 2) = false := by rw [d]; rfl
        have D := C1 x1
        have HF := cnt_find h q hq1 (by rw [hx]; exact d)
        rw [hx] at HF
        simp only at HF
        obtain ⟨⟨⟨f0, f1, f2, f3⟩, f4⟩, hf⟩ : ∃ y, findP h x1 = y := ⟨_, rfl⟩
        rw [hf] at HF D
        simp only at HF D
        rw [HQQ.out, HF]
        clear hx HF hf d hq1
        cases f3 with
        | false =>
          rw [Bool.false_and]
          go_enter Try.func66, Try.ntmps66
          go_wp2_with fail
          refine (D _ (Below.refl _ _)).mono ?_
          rintro e' w1 ⟨rfl, b1⟩
          have X1 := SBox.new w1 44 #[.int .i64 f0, .int .i64 (f1 : Int), .int .i64 (f2 : Int), .bool false]
          have y2 := X1.cell 2 _ rfl
          have y3 := X1.cell 3 _ rfl
          go_wp2_with fail
          go_ret
          exact ⟨rfl, b1.alloc b1.size _⟩

        | true =>
          rw [Bool.true_and]
          by_cases l1 : q < f2
          · have l2 : (q : Int) < (f2 : Int) := by omega
            rw [decide_eq_true l1]
            go_enter Try.func66, Try.ntmps66
            go_wp2_with fail
            refine (D _ (Below.refl _ _)).mono ?_
            rintro e' w1 ⟨rfl, b1⟩
            have X1 := SBox.new w1 44 #[.int .i64 f0, .int .i64 (f1 : Int), .int .i64 (f2 : Int), .bool true]
            have y2 := X1.cell 2 _ rfl
            have y3 := X1.cell 3 _ rfl
            go_wp2_with fail
            go_ret
            exact ⟨rfl, b1.alloc b1.size _⟩

          · have l2 : ¬ (q : Int) < (f2 : Int) := by omega
            rw [decide_eq_false l1]
            go_enter Try.func66, Try.ntmps66
            go_wp2_with fail
            refine (D _ (Below.refl _ _)).mono ?_
            rintro e' w1 ⟨rfl, b1⟩
            have X1 := SBox.new w1 44 #[.int .i64 f0, .int .i64 (f1 : Int), .int .i64 (f2 : Int), .bool true]
            have y2 := X1.cell 2 _ rfl
            have y3 := X1.cell 3 _ rfl
            go_wp2_with fail
            go_ret
            exact ⟨rfl, b1.alloc b1.size _⟩
      · have e2 : (x0 != 2) = true := bne_iff_ne.2 d
        rw [HQQ.out, count_kind h q (by rw [HX.out]; exact d)]
        clear hx
        go_enter Try.func66, Try.ntmps66
        go_wp2_with fail
        go_ret
        exact ⟨rfl, Below.refl _ _⟩
    · have j1 : (n : Int) ≤ (q : Int) := by omega
      have j11 : n ≤ q := by omega
      rw [HQQ.out, count_out h q (by have := HN.out; omega)]
      go_enter Try.func66, Try.ntmps66
      go_wp2_with fail
      go_ret
      exact ⟨rfl, Below.refl _ _⟩
set_option maxHeartbeats 2000000 in
theorem pown_any (h : List Ev) (v : Value) (w : World) (hT : IsEvs w v h) (q : Nat) (hq : q < h.length) :
    Calls Try.prog 67 #[v, .int .i64 (q : Int)] w fun e w' => e = .returned (.int .i64 (oI (lastN h (ev h q).2.1 (ev h q).2.2.1 q))) ∧ Below w.heap.size w w' := by
  have C1 := fun (t : Int) (k : List UInt8) W hW => plast8_any h v W t k (q : Int) (hT.below (w' := W) hW)
  simp only [last_upto h _ _ q (by omega)] at C1
  obtain ⟨a, cap, rfl, h1, h2, h3, HC⟩ := hT.reads
  obtain ⟨bb, off, rfl, HQ⟩ := HC.out (by omega)
  obtain ⟨c0, c1, c2, _⟩ := HQ.out q hq _ (Below.refl _ _)
  obtain ⟨⟨x0, x1, x2, x3⟩, hx⟩ : ∃ x, ev h q = x := ⟨_, rfl⟩
  rw [hx] at c0 c1 c2 ⊢
  simp only at c0 c1 c2 ⊢
  have D := C1 x1 x2
  obtain ⟨m, hm⟩ : ∃ m, oI (lastN h x1 x2 q) = m := ⟨_, rfl⟩
  rw [hm] at D ⊢
  obtain ⟨n, hn⟩ : ∃ n, h.length = n := ⟨_, rfl⟩
  rw [hn] at D h1 h3 hq ⊢
  clear hn hm hx C1 hT HC HQ
  go_enter Try.func67, Try.ntmps67
  go_wp2_with fail
  have S0 : (fun V => Below (w).heap.size (w) V ∧ V.cell? ⟨bb, off + q * 4 + 1, none⟩ = some (.int .i64 x1) ∧ V.cell? ⟨bb, off + q * 4 + 2, none⟩ = some (.string ⟨x2.toArray⟩)) (w).drew := ⟨(Below.refl _ _).drew, c1, c2⟩
  have keepS : ∀ V V' : World, (fun V => Below (w).heap.size (w) V ∧ V.cell? ⟨bb, off + q * 4 + 1, none⟩ = some (.int .i64 x1) ∧ V.cell? ⟨bb, off + q * 4 + 2, none⟩ = some (.string ⟨x2.toArray⟩)) V → Below V.heap.size V V' → (fun V => Below (w).heap.size (w) V ∧ V.cell? ⟨bb, off + q * 4 + 1, none⟩ = some (.int .i64 x1) ∧ V.cell? ⟨bb, off + q * 4 + 2, none⟩ = some (.string ⟨x2.toArray⟩)) V' := fun V V' ⟨a, a0, a1⟩ d => ⟨bel_trans a d, cell_bel d a0, cell_bel d a1⟩
  go_wp2_with fail
  go_region_held3 (fun V => Below (w).heap.size (w) V ∧ V.cell? ⟨bb, off + q * 4 + 1, none⟩ = some (.int .i64 x1) ∧ V.cell? ⟨bb, off + q * 4 + 2, none⟩ = some (.string ⟨x2.toArray⟩)) (first | exact S0 | exact keepS _ _ (by assumption) (by assumption)) (first | (go_at_call 93; refine (D _ (bel_trans (Below.refl _ _) (And.left (by assumption)))).mono ?_; rintro e' w' ⟨rfl, b8⟩))
  rename_i hHeld8
  have s8 := hHeld8.1
  clear S0 keepS hHeld8
  go_wp2_with fail
  go_ret
  exact ⟨rfl, s8⟩
end Go.Proofs.Yteehpkkkagdckaa
