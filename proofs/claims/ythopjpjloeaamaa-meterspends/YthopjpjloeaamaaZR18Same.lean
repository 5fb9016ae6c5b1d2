/-
  What cartoucheref18.Same answers.
-/
import Derived.Test.YthopjpjloeaamaaZBools18
import Derived.Test.YthopjpjloeaamaaZLife8
import Derived.BigQuiet
import Derived.Deep.QuietTactic
namespace Go.Proofs.Ythopjpjloeaamaa
set_option maxRecDepth 100000
open Go.RowKit
set_option linter.unusedVariables false
attribute [local go_sem] ba_size
set_option maxHeartbeats 2000000 in
theorem rsame18_any (v1 v2 : Value) (L M : List Bool) (w : World) (h1 : IsBs w v1 L) (h2 : IsBs w v2 M) :
    Calls Try.prog 15 #[v1, v2] w fun e w' => e = .returned (.bool (decide (L = M))) ∧ Below w.heap.size w w' := by
  obtain ⟨a1, c1, rfl, hq1, hq2, hb1, HC1⟩ := h1.some_at
  obtain ⟨a2, c2, rfl, hq3, hq4, hb2, HC2⟩ := h2.some_at
  clear h1 h2
  by_cases hn : L.length = M.length
  · obtain ⟨n1, hn1⟩ : ∃ n1, L.length = n1 := ⟨_, rfl⟩
    have hn2 : M.length = n1 := by omega
    have HL1 : Hid (L.length = n1) := hn1
    have HL2 : Hid (M.length = n1) := hn2
    rw [hn1] at hb1 hq1 ⊢
    rw [hn2] at hq3 ⊢
    clear hb2 hn hn1 hn2
    have hbne : ((n1 : Int) != (n1 : Int)) = false := by simp
    go_enter Try.func15, Try.ntmps15
    go_wp2
    go_loopw [5] (fun i wr => ∃ k : Nat, k ≤ n1 ∧ i = .int .i64 k ∧ Hid (L.take k = M.take k) ∧ Below w.heap.size w wr) (fun i _ => n1 - (intOf i).toNat)
    case atStart => exact ⟨0, Nat.zero_le _, rfl, rfl, Below.refl _ _⟩
    case round =>
      obtain ⟨k, hk, rfl, HT, hbw⟩ := hrel
      by_cases hlt : k < n1
      · have hk1 : k < L.length := by have := HL1.out; omega
        have hk2 : k < M.length := by have := HL2.out; omega
        obtain ⟨x1, o1, rfl, hx1, p1⟩ := HC1.out k hk1
        obtain ⟨x2, o2, rfl, hx2, p2⟩ := HC2.out k hk2
        have qx10 : wr.cell? ⟨x1, o1 + k, none⟩ = some (.bool L[k]) := (hbw.cell (p := ⟨x1, o1 + k, none⟩) hx1).trans (by simpa using p1 0 _ rfl)
        have qx20 : wr.cell? ⟨x2, o2 + k, none⟩ = some (.bool M[k]) := (hbw.cell (p := ⟨x2, o2 + k, none⟩) hx2).trans (by simpa using p2 0 _ rfl)
        clear p1 p2
        obtain ⟨xx, hxx⟩ : ∃ x, L[k] = x := ⟨_, rfl⟩
        obtain ⟨yy, hyy⟩ : ∃ x, M[k] = x := ⟨_, rfl⟩
        have HX : Hid (L[k] = xx) := hxx
        have HY : Hid (M[k] = yy) := hyy
        rw [hxx] at qx10
        rw [hyy] at qx20
        clear hxx hyy
        by_cases he : xx = yy
        · subst he
          have e0 : (xx == xx) = true := beq_self_eq_true _
          go_wp2
          go_quiet (fail)
          go_wp2
          go_roundw
          case rel => exact ⟨k + 1, by omega, by go_num, (take_next_eq hk1 hk2 HT.out (by rw [HX.out, HY.out]) : _ = _), below_drewN hbw _⟩
          case measure => simp [intOf]; omega
        · have HF : Hid (decide (L = M) = false) := decide_eq_false (ne_by_at hk1 hk2 (by rw [HX.out, HY.out]; exact he))
          have f0 : ¬ xx = yy := he
          have b0 : (xx != yy) = true := bne_iff_ne.2 he
          have e0 : (xx == yy) = false := beq_eq_false_iff_ne.2 f0
          clear he f0
          go_wp2
          go_quiet (fail)
          go_wp2
          go_ret
          exact ⟨by rw [HF.out]; rfl, below_drewN hbw _⟩
      · have HF : Hid (decide (L = M) = true) := by
          show decide (L = M) = true
          apply decide_eq_true
          have h := HT.out
          rwa [List.take_of_length_le (by have := HL1.out; omega), List.take_of_length_le (by have := HL2.out; omega)] at h
        go_wp2
        go_ret
        exact ⟨by rw [HF.out]; rfl, hbw⟩
  · have hbne : ((L.length : Int) != (M.length : Int)) = true := by simp; omega
    have HF : Hid (decide (L = M) = false) := decide_eq_false (fun h => hn (by rw [h]))
    clear hn
    go_enter Try.func15, Try.ntmps15
    go_wp2
    go_ret
    exact ⟨by rw [HF.out]; rfl, Below.refl _ _⟩
end Go.Proofs.Ythopjpjloeaamaa
