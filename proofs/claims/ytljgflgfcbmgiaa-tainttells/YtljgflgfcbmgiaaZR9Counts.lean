/-
  What cartoucheref09.counts answers.
-/
import Derived.Test.YtljgflgfcbmgiaaGE
import Derived.Test.YtljgflgfcbmgiaaZR8Find
namespace Go.Proofs.Ytljgflgfcbmgiaa
set_option maxRecDepth 100000
open Go.RowKit
set_option linter.unusedVariables false
attribute [local go_sem] ba_size
set_option maxHeartbeats 2000000 in
theorem rcounts_any (h : List Ev) (v : Value) (w : World) (hT : IsEvs w v h) (i : Int) :
    Calls Try.prog 27 #[v, .int .i64 i] w fun e w' => e = .returned (.bool (countI h i)) ∧ Below w.heap.size w w' := by
  have C1 := fun (t : Int) W hW => rend_any h v W (hT.below (w' := W) hW) t h.length (Nat.le_refl _)
  obtain ⟨a, cap, rfl, h1, h2, h3, HC⟩ := hT.reads
  obtain ⟨n, hn⟩ : ∃ n, h.length = n := ⟨_, rfl⟩
  have HN : Hid (h.length = n) := hn
  simp only [hn] at C1
  rw [hn] at h1 h3 ⊢
  clear hT hn
  by_cases i0 : i < 0
  · rw [show countI h i = false by unfold countI; rw [decide_eq_false (by omega)]; rfl]
    go_enter Try.func27, Try.ntmps27
    go_wp2_with fail
    go_ret
    exact ⟨rfl, Below.refl _ _⟩
  · obtain ⟨q, rfl⟩ : ∃ q : Nat, i = (q : Int) := ⟨i.toNat, by omega⟩
    have HQQ : Hid (countI h (q : Int) = countsB h q) := by show _ = _; unfold countI; rw [decide_eq_true (by omega)]; simp
    by_cases i1 : q < n
    · have hq1 : q < h.length := by have := HN.out; omega
      have j1 : ¬ (n : Int) ≤ (q : Int) := by omega
      have j11 : ¬ n ≤ q := by omega
      obtain ⟨bb, off, rfl, HQ⟩ := HC.out (by omega)
      obtain ⟨c0, c1, _, _⟩ := HQ.out q hq1 _ (Below.refl _ _)
      obtain ⟨⟨x0, x1, x2, x3⟩, hx⟩ : ∃ x, ev h q = x := ⟨_, rfl⟩
      have HX : Hid (ev h q = (x0, x1, x2, x3)) := hx
      rw [hx] at c0 c1
      simp only at c0 c1
      clear hx
      by_cases d : x0 = 2
      · have e2 : (x0 != 2) = false := by rw [d]; rfl
        have D := C1 x1
        rcases he : endL h x1 n with _ | e
        · rw [HQQ.out, count_open h q (by rw [HX.out, HN.out]; exact he)]
          rw [he] at D
          simp only [oI] at D
          have j2 : ¬ (q : Int) < -1 := by omega
          clear he d
          go_enter Try.func27, Try.ntmps27
          go_wp2_with fail
          refine (D _ (Below.refl _ _)).mono ?_
          rintro e w1 ⟨rfl, b1⟩
          go_wp2_with fail
          go_ret
          exact ⟨rfl, b1⟩
        · have hel : e < h.length := by have := ((fi_some _ _ _).1 he).1; have := HN.out; omega
          have HCE : Hid (countsB h q = (decide (q < e) && decide ((ev h e).1 = 4))) := count_end h q e hq1 (by rw [HX.out]; exact d) (by rw [HX.out, HN.out]; exact he)
          rw [HQQ.out, HCE.out]
          rw [he] at D
          simp only [oI] at D
          have HE : Hid (e < h.length) := hel
          have hen : e < n := by have := HN.out; omega
          clear he d hel
          by_cases l1 : q < e
          · have l2 : (q : Int) < (e : Int) := by omega
            rw [decide_eq_true l1]
            obtain ⟨z0, hz⟩ : ∃ z, (ev h e).1 = z := ⟨_, rfl⟩
            have HZ : Hid ((ev h e).1 = z0) := hz
            rw [hz]
            clear hz
            by_cases l3 : z0 = 4
            · have l4 : (z0 == 4) = true := by rw [l3]; rfl
              rw [decide_eq_true l3]
              clear l3
              go_enter Try.func27, Try.ntmps27
              go_wp2_with fail
              refine (D _ (Below.refl _ _)).mono ?_
              rintro e' w1 ⟨rfl, b1⟩
              have m0 := (HQ.out e HE.out _ b1).1
              rw [HZ.out] at m0
              go_wp2_with fail
              go_ret
              exact ⟨rfl, b1⟩
            · have l4 : (z0 == 4) = false := beq_eq_false_iff_ne.2 l3
              rw [decide_eq_false l3]
              go_enter Try.func27, Try.ntmps27
              go_wp2_with fail
              refine (D _ (Below.refl _ _)).mono ?_
              rintro e' w1 ⟨rfl, b1⟩
              have m0 := (HQ.out e HE.out _ b1).1
              rw [HZ.out] at m0
              go_wp2_with fail
              go_ret
              exact ⟨rfl, b1⟩
          · have l2 : ¬ (q : Int) < (e : Int) := by omega
            rw [decide_eq_false l1, Bool.false_and]
            go_enter Try.func27, Try.ntmps27
            go_wp2_with fail
            refine (D _ (Below.refl _ _)).mono ?_
            rintro e' w1 ⟨rfl, b1⟩
            go_wp2_with fail
            go_ret
            exact ⟨rfl, b1⟩
      · have e2 : (x0 != 2) = true := bne_iff_ne.2 d
        rw [HQQ.out, count_kind h q (by rw [HX.out]; exact d)]
        go_enter Try.func27, Try.ntmps27
        go_wp2_with fail
        go_ret
        exact ⟨rfl, Below.refl _ _⟩
    · have j1 : (n : Int) ≤ (q : Int) := by omega
      have j11 : n ≤ q := by omega
      rw [HQQ.out, count_out h q (by have := HN.out; omega)]
      go_enter Try.func27, Try.ntmps27
      go_wp2_with fail
      go_ret
      exact ⟨rfl, Below.refl _ _⟩
end Go.Proofs.Ytljgflgfcbmgiaa
