/-
  What cartoucheref04.Same answers, of whatever two rows of links.
-/
import Derived.Test.YtgickejfcmnaiaaDoorProg
import Derived.Test.YtgickejfcmnaiaaDoorGH
import Derived.Test.YtgickejfcmnaiaaDoorZRSame
import Derived.BigQuiet
import Derived.Deep.QuietTactic
namespace Go.Proofs.YtgickejfcmnaiaaDoor
set_option maxRecDepth 100000
open Go.RowKit
set_option linter.unusedVariables false
attribute [local go_sem] ba_size
theorem take_succ_eq {α : Type} {l m : List α} {k : Nat} (h1 : k < l.length) (h2 : k < m.length) (h : l.take k = m.take k) (he : l[k] = m[k]) : l.take (k + 1) = m.take (k + 1) := by
  rw [List.take_succ_eq_append_getElem h1, List.take_succ_eq_append_getElem h2, h, he]
theorem ne_of_at {α : Type} {l m : List α} {k : Nat} (h1 : k < l.length) (h2 : k < m.length) (he : ¬ l[k] = m[k]) : ¬ l = m := fun h => by subst h; exact he rfl
set_option maxHeartbeats 1000000 in
theorem lsame_any (v1 v2 : Value) (L M : List Lk) (w : World) (h1 : IsLnk w v1 L) (h2 : IsLnk w v2 M) :
    Calls Tryd.prog 21 #[v1, v2] w fun e w' => e = .returned (.bool (decide (L = M))) ∧ Below w.heap.size w w' := by
  obtain ⟨a1, c1, rfl, hq1, hq2, hb1, HC1⟩ := h1.some_at
  obtain ⟨a2, c2, rfl, hq3, hq4, hb2, HC2⟩ := h2.some_at
  clear h1 h2
  by_cases hn : L.length = M.length
  · obtain ⟨n1, hn1⟩ : ∃ n1, L.length = n1 := ⟨_, rfl⟩
    have hn2 : M.length = n1 := by omega
    have HL1 : Hid (L.length = n1) := hn1
    have HL2 : Hid (M.length = n1) := hn2
    rw [hn1] at hb1 hq1 ⊢
    rw [hn2] at hq3 ⊢
    clear hb2 hn hn1 hn2
    have hbne : ((n1 : Int) != (n1 : Int)) = false := by simp
    go_enter Tryd.func21, Tryd.ntmps21
    go_wp2
    go_loopw [5] (fun i wr => ∃ k : Nat, k ≤ n1 ∧ i = .int .i64 k ∧ Hid (L.take k = M.take k) ∧ Below w.heap.size w wr) (fun i _ => n1 - (intOf i).toNat)
    case atStart => exact ⟨0, Nat.zero_le _, rfl, rfl, Below.refl _ _⟩
    case round =>
      obtain ⟨k, hk, rfl, HT, hbw⟩ := hrel
      by_cases hlt : k < n1
      · have hk1 : k < L.length := by have := HL1.out; omega
        have hk2 : k < M.length := by have := HL2.out; omega
        obtain ⟨x1, o1, rfl, hx1, p1, p2⟩ := HC1.out k hk1
        obtain ⟨x2, o2, rfl, hx2, p3, p4⟩ := HC2.out k hk2
        have q1 : wr.cell? ⟨x1, o1 + k * 2, none⟩ = some (.string ⟨L[k].1.toArray⟩) := (hbw.cell (p := ⟨x1, o1 + k * 2, none⟩) hx1).trans p1
        have q2 : wr.cell? ⟨x1, o1 + k * 2 + 1, none⟩ = some (.string ⟨L[k].2.toArray⟩) := (hbw.cell (p := ⟨x1, o1 + k * 2 + 1, none⟩) hx1).trans p2
        have q3 : wr.cell? ⟨x2, o2 + k * 2, none⟩ = some (.string ⟨M[k].1.toArray⟩) := (hbw.cell (p := ⟨x2, o2 + k * 2, none⟩) hx2).trans p3
        have q4 : wr.cell? ⟨x2, o2 + k * 2 + 1, none⟩ = some (.string ⟨M[k].2.toArray⟩) := (hbw.cell (p := ⟨x2, o2 + k * 2 + 1, none⟩) hx2).trans p4
        clear p1 p2 p3 p4
        by_cases he : L[k] = M[k]
        · have HE : Hid (L[k] = M[k]) := he
          have e1 : (L[k].1 == M[k].1) = true := by rw [he]; exact beq_self_eq_true _
          have e2 : (L[k].2 == M[k].2) = true := by rw [he]; exact beq_self_eq_true _
          clear he
          go_wp2
          go_quiet (fail)
          go_wp2
          go_roundw
          case rel => exact ⟨k + 1, by omega, by go_num, (take_succ_eq hk1 hk2 HT.out HE.out : _ = _), below_drewN hbw _⟩
          case measure => simp [intOf]; omega
        · have HF : Hid (decide (L = M) = false) := decide_eq_false (ne_of_at hk1 hk2 he)
          by_cases he1 : L[k].1 = M[k].1
          · have e1 : (L[k].1 == M[k].1) = true := by rw [he1]; exact beq_self_eq_true _
            have he2 : ¬ L[k].2 = M[k].2 := fun h => he (Prod.ext he1 h)
            have e2 : (L[k].2 == M[k].2) = false := beq_eq_false_iff_ne.2 he2
            clear he he1 he2
            go_wp2
            go_quiet (fail)
            go_wp2
            go_ret
            exact ⟨by rw [HF.out]; rfl, below_drewN hbw _⟩
          · have e1 : (L[k].1 == M[k].1) = false := beq_eq_false_iff_ne.2 he1
            clear he he1
            go_wp2
            go_quiet (fail)
            go_wp2
            go_ret
            exact ⟨by rw [HF.out]; rfl, below_drewN hbw _⟩
      · have HF : Hid (decide (L = M) = true) := by
          show decide (L = M) = true
          apply decide_eq_true
          have h := HT.out
          rwa [List.take_of_length_le (by have := HL1.out; omega), List.take_of_length_le (by have := HL2.out; omega)] at h
        go_wp2
        go_ret
        exact ⟨by rw [HF.out]; rfl, hbw⟩
  · have HF : Hid (decide (L = M) = false) := decide_eq_false (fun h => hn (by rw [h]))
    have hbne : ((L.length : Int) == (M.length : Int)) = false := by rw [beq_eq_false_iff_ne]; omega
    clear HC1 HC2
    go_enter Tryd.func21, Tryd.ntmps21
    go_wp2
    go_ret
    exact ⟨by rw [HF.out]; rfl, Below.refl _ _⟩
end Go.Proofs.YtgickejfcmnaiaaDoor
