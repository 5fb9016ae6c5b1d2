/-
  What cartoucheref06.Same answers.
-/
import Derived.Test.YtngllioidfffdaaProg
import Derived.Test.YtngllioidfffdaaGD
import Derived.BigQuiet
import Derived.Deep.QuietTactic
namespace Go.Proofs.Ytngllioidfffdaa
set_option maxRecDepth 100000
open Go.RowKit
set_option linter.unusedVariables false
attribute [local go_sem] ba_size
set_option maxHeartbeats 2000000 in
theorem rsame6_any (v1 v2 : Value) (L M : List Ev) (w : World) (h1 : IsEvs w v1 L) (h2 : IsEvs w v2 M) :
    Calls Try.prog 50 #[v1, v2] w fun e w' => e = .returned (.bool (decide (L = M))) ∧ Below w.heap.size w w' := by
  obtain ⟨a1, c1, rfl, hq1, hq2, hb1, HC1⟩ := h1.some_at
  obtain ⟨a2, c2, rfl, hq3, hq4, hb2, HC2⟩ := h2.some_at
  clear h1 h2
  by_cases hn : L.length = M.length
  · obtain ⟨n1, hn1⟩ : ∃ n1, L.length = n1 := ⟨_, rfl⟩
    have hn2 : M.length = n1 := by omega
    have HL1 : Hid (L.length = n1) := hn1
    have HL2 : Hid (M.length = n1) := hn2
    rw [hn1] at hb1 hq1 ⊢
    rw [hn2] at hq3 ⊢
    clear hb2 hn hn1 hn2
    have hbne : ((n1 : Int) != (n1 : Int)) = false := by simp
    go_enter Try.func50, Try.ntmps50
    go_wp2
    go_loopw [5] (fun i wr => ∃ k : Nat, k ≤ n1 ∧ i = .int .i64 k ∧ Hid (L.take k = M.take k) ∧ Below w.heap.size w wr) (fun i _ => n1 - (intOf i).toNat)
    case atStart => exact ⟨0, Nat.zero_le _, rfl, rfl, Below.refl _ _⟩
    case round =>
      obtain ⟨k, hk, rfl, HT, hbw⟩ := hrel
      by_cases hlt : k < n1
      · have hk1 : k < L.length := by have := HL1.out; omega
        have hk2 : k < M.length := by have := HL2.out; omega
        obtain ⟨x1, o1, rfl, hx1, p1⟩ := HC1.out k hk1
        obtain ⟨x2, o2, rfl, hx2, p2⟩ := HC2.out k hk2
        have qx10 : wr.cell? ⟨x1, o1 + k * 4, none⟩ = some (.int .i64 L[k].1) := (hbw.cell (p := ⟨x1, o1 + k * 4, none⟩) hx1).trans (p1 0 _ rfl)
        have qx20 : wr.cell? ⟨x2, o2 + k * 4, none⟩ = some (.int .i64 M[k].1) := (hbw.cell (p := ⟨x2, o2 + k * 4, none⟩) hx2).trans (p2 0 _ rfl)
        have qx11 : wr.cell? ⟨x1, o1 + k * 4 + 1, none⟩ = some (.int .i64 L[k].2.1) := (hbw.cell (p := ⟨x1, o1 + k * 4 + 1, none⟩) hx1).trans (p1 1 _ rfl)
        have qx21 : wr.cell? ⟨x2, o2 + k * 4 + 1, none⟩ = some (.int .i64 M[k].2.1) := (hbw.cell (p := ⟨x2, o2 + k * 4 + 1, none⟩) hx2).trans (p2 1 _ rfl)
        have qx12 : wr.cell? ⟨x1, o1 + k * 4 + 2, none⟩ = some (.string ⟨L[k].2.2.1.toArray⟩) := (hbw.cell (p := ⟨x1, o1 + k * 4 + 2, none⟩) hx1).trans (p1 2 _ rfl)
        have qx22 : wr.cell? ⟨x2, o2 + k * 4 + 2, none⟩ = some (.string ⟨M[k].2.2.1.toArray⟩) := (hbw.cell (p := ⟨x2, o2 + k * 4 + 2, none⟩) hx2).trans (p2 2 _ rfl)
        have qx13 : wr.cell? ⟨x1, o1 + k * 4 + 3, none⟩ = some (.string ⟨L[k].2.2.2.toArray⟩) := (hbw.cell (p := ⟨x1, o1 + k * 4 + 3, none⟩) hx1).trans (p1 3 _ rfl)
        have qx23 : wr.cell? ⟨x2, o2 + k * 4 + 3, none⟩ = some (.string ⟨M[k].2.2.2.toArray⟩) := (hbw.cell (p := ⟨x2, o2 + k * 4 + 3, none⟩) hx2).trans (p2 3 _ rfl)
        clear p1 p2
        obtain ⟨xx, hxx⟩ : ∃ x, L[k] = x := ⟨_, rfl⟩
        obtain ⟨yy, hyy⟩ : ∃ x, M[k] = x := ⟨_, rfl⟩
        have HX : Hid (L[k] = xx) := hxx
        have HY : Hid (M[k] = yy) := hyy
        rw [hxx] at qx10 qx11 qx12 qx13
        rw [hyy] at qx20 qx21 qx22 qx23
        clear hxx hyy
        by_cases he : xx = yy
        · subst he
          have e0 : (xx.1 == xx.1) = true := beq_self_eq_true _
          have e1 : (xx.2.1 == xx.2.1) = true := beq_self_eq_true _
          have e2 : (xx.2.2.1 == xx.2.2.1) = true := beq_self_eq_true _
          have e3 : (xx.2.2.2 == xx.2.2.2) = true := beq_self_eq_true _
          go_wp2
          go_quiet (fail)
          go_wp2
          go_roundw
          case rel => exact ⟨k + 1, by omega, by go_num, (take_next_eq hk1 hk2 HT.out (by rw [HX.out, HY.out]) : _ = _), below_drewN hbw _⟩
          case measure => simp [intOf]; omega
        · have HF : Hid (decide (L = M) = false) := decide_eq_false (ne_by_at hk1 hk2 (by rw [HX.out, HY.out]; exact he))
          by_cases f0 : xx.1 = yy.1
          · have e0 : (xx.1 == yy.1) = true := by rw [f0]; exact beq_self_eq_true _
            by_cases f1 : xx.2.1 = yy.2.1
            · have e1 : (xx.2.1 == yy.2.1) = true := by rw [f1]; exact beq_self_eq_true _
              by_cases f2 : xx.2.2.1 = yy.2.2.1
              · have e2 : (xx.2.2.1 == yy.2.2.1) = true := by rw [f2]; exact beq_self_eq_true _
                have f3 : ¬ xx.2.2.2 = yy.2.2.2 := fun h => he (Prod.ext f0 (Prod.ext f1 (Prod.ext f2 (h))))
                have e3 : (xx.2.2.2 == yy.2.2.2) = false := beq_eq_false_iff_ne.2 f3
                clear he f0 f1 f2 f3
                go_wp2
                go_quiet (fail)
                go_wp2
                go_ret
                exact ⟨by rw [HF.out]; rfl, below_drewN hbw _⟩
              · have e2 : (xx.2.2.1 == yy.2.2.1) = false := beq_eq_false_iff_ne.2 f2
                clear he f0 f1 f2
                go_wp2
                go_quiet (fail)
                go_wp2
                go_ret
                exact ⟨by rw [HF.out]; rfl, below_drewN hbw _⟩
            · have e1 : (xx.2.1 == yy.2.1) = false := beq_eq_false_iff_ne.2 f1
              clear he f0 f1
              go_wp2
              go_quiet (fail)
              go_wp2
              go_ret
              exact ⟨by rw [HF.out]; rfl, below_drewN hbw _⟩
          · have e0 : (xx.1 == yy.1) = false := beq_eq_false_iff_ne.2 f0
            clear he f0
            go_wp2
            go_quiet (fail)
            go_wp2
            go_ret
            exact ⟨by rw [HF.out]; rfl, below_drewN hbw _⟩
      · have HF : Hid (decide (L = M) = true) := by
          show decide (L = M) = true
          apply decide_eq_true
          have h := HT.out
          rwa [List.take_of_length_le (by have := HL1.out; omega), List.take_of_length_le (by have := HL2.out; omega)] at h
        go_wp2
        go_ret
        exact ⟨by rw [HF.out]; rfl, hbw⟩
  · have hbne : ((L.length : Int) != (M.length : Int)) = true := by simp; omega
    have HF : Hid (decide (L = M) = false) := decide_eq_false (fun h => hn (by rw [h]))
    clear hn
    go_enter Try.func50, Try.ntmps50
    go_wp2
    go_ret
    exact ⟨by rw [HF.out]; rfl, Below.refl _ _⟩
end Go.Proofs.Ytngllioidfffdaa
