/-
  What cartoucheref01.Same answers, of whatever two rows of texts.
  What cartoucheref01.Same answers, of whatever two rows of texts (IsTxt).
-/
import Derived.Test.YtngllioidfffdaaGB
import Derived.BigQuiet
import Derived.Deep.QuietTactic
namespace Go.Proofs.Ytngllioidfffdaa
set_option maxRecDepth 100000
open Go.RowKit
attribute [local go_sem] ba_size ba_get ba_extract ba_append wrap_byte wrap_u64_byte take_drop_end
theorem list_ne_of_get {a b : List (List UInt8)} {k : Nat} (ha : k < a.length) (hb : k < b.length) (h : a[k] ≠ b[k]) : a ≠ b := by
  rintro rfl; exact h rfl
theorem take_eq_succ {a b : List (List UInt8)} {k : Nat} (ha : k < a.length) (hb : k < b.length) (h : a.take k = b.take k) (h2 : a[k] = b[k]) : a.take (k + 1) = b.take (k + 1) := by
  rw [List.take_succ_eq_append_getElem ha, List.take_succ_eq_append_getElem hb, h, h2]
set_option maxHeartbeats 1000000 in
theorem same_any (a1 a2 : Option Addr) (n1 n2 c1 c2 : Nat) (ss tt : List (List UInt8)) (w : World) (h1 : IsStrs w a1 n1 ss) (h2 : IsStrs w a2 n2 tt) :
    Calls Try.prog 51 #[.slice a1 n1 c1, .slice a2 n2 c2] w fun e w' => e = .returned (.bool (decide (ss = tt))) ∧ Below w.heap.size w w' := by
  have hb1 : n1 ≤ 140737488351232 := h1.2.2.1
  have hb2 : n2 ≤ 140737488351232 := h2.2.2.1
  by_cases hn : n1 = n2
  · subst hn
    by_cases h0 : n1 = 0
    · have e1 : ss = [] := List.length_eq_zero_iff.1 (h1.1.trans h0)
      have e2 : tt = [] := List.length_eq_zero_iff.1 (h2.1.trans h0)
      subst e1 e2 h0
      go_enter Try.func51, Try.ntmps51
      go_wp2
      go_loop [5] (fun i => i = .int .i64 0) (fun _ => 0)
      case atStart => rfl
      case round =>
        obtain rfl := hrel
        go_wp2
        go_ret
        exact ⟨rfl, Below.refl _ _⟩
    · obtain ⟨x1, o1, rfl, hx1, HC1⟩ := h1.at (by omega)
      obtain ⟨x2, o2, rfl, hx2, HC2⟩ := h2.at (by omega)
      have HL1 : Hid (ss.length = n1) := h1.1
      have HL2 : Hid (tt.length = n1) := h2.1
      clear h1 h2 hb2
      have hbne : ((n1 : Int) != (n1 : Int)) = false := by simp
      go_enter Try.func51, Try.ntmps51
      go_wp2
      go_loopw [5] (fun i wr => ∃ k : Nat, k ≤ n1 ∧ i = .int .i64 k ∧ Hid (ss.take k = tt.take k) ∧ Below w.heap.size w wr) (fun i _ => n1 - (intOf i).toNat)
      case atStart => exact ⟨0, Nat.zero_le _, rfl, rfl, Below.refl _ _⟩
      case round =>
        obtain ⟨k, hk, rfl, HT, hbw⟩ := hrel
        by_cases hlt : k < n1
        · have hk1 : k < ss.length := by have := HL1.out; omega
          have hk2 : k < tt.length := by have := HL2.out; omega
          have hc1 : wr.cell? ⟨x1, o1 + k, none⟩ = some (.string ⟨ss[k].toArray⟩) := (hbw.cell (p := ⟨x1, o1 + k, none⟩) hx1).trans (HC1.out k hk1)
          have hc2 : wr.cell? ⟨x2, o2 + k, none⟩ = some (.string ⟨tt[k].toArray⟩) := (hbw.cell (p := ⟨x2, o2 + k, none⟩) hx2).trans (HC2.out k hk2)
          by_cases he : ss[k] = tt[k]
          · have HE : Hid (ss[k] = tt[k]) := he
            have heb : (ss[k] == tt[k]) = true := by simp [he]
            clear he
            go_wp2
            go_quiet (fail)
            go_wp2
            go_roundw
            case rel => exact ⟨k + 1, by omega, by go_num, take_eq_succ hk1 hk2 HT.out HE.out, below_drewN hbw _⟩
            case measure => simp [intOf]; omega
          · have HF : Hid (decide (ss = tt) = false) := by
              show decide (ss = tt) = false
              exact decide_eq_false (list_ne_of_get hk1 hk2 he)
            have heb : (ss[k] == tt[k]) = false := by simp [he]
            clear he
            go_wp2
            go_quiet (fail)
            go_wp2
            go_ret
            refine ⟨?_, below_drewN hbw _⟩
            rw [HF.out]
            rfl
        · have HF : Hid (decide (ss = tt) = true) := by
            show decide (ss = tt) = true
            apply decide_eq_true
            have h := HT.out
            rwa [List.take_of_length_le (by have := HL1.out; omega), List.take_of_length_le (by have := HL2.out; omega)] at h
          go_wp2
          go_ret
          refine ⟨?_, hbw⟩
          rw [HF.out]
          rfl
  · have HF : Hid (decide (ss = tt) = false) := by
      show decide (ss = tt) = false
      apply decide_eq_false
      rintro rfl
      exact hn (h1.1.symm.trans h2.1)
    have hbne : ((n1 : Int) == (n2 : Int)) = false := by simp; omega
    clear h1 h2
    go_enter Try.func51, Try.ntmps51
    go_wp2
    go_ret
    refine ⟨?_, Below.refl _ _⟩
    rw [HF.out]
    rfl
end Go.Proofs.Ytngllioidfffdaa
namespace Go.Proofs.Ytngllioidfffdaa
set_option maxRecDepth 100000
open Go.RowKit
attribute [local go_sem] ba_size ba_get ba_extract ba_append wrap_byte wrap_u64_byte take_drop_end
set_option maxHeartbeats 1000000 in
theorem same_txt (v1 v2 : Value) (ss tt : List (List UInt8)) (w : World) (h1 : IsTxt w v1 ss) (h2 : IsTxt w v2 tt) :
    Calls Try.prog 51 #[v1, v2] w fun e w' => e = .returned (.bool (decide (ss = tt))) ∧ Below w.heap.size w w' := by
  by_cases hn : ss.length = tt.length
  · by_cases h0 : ss.length = 0
    · have e1 : ss = [] := List.length_eq_zero_iff.1 h0
      have e2 : tt = [] := List.length_eq_zero_iff.1 (hn.symm.trans h0)
      subst e1 e2
      obtain ⟨a1, c1, rfl, _, _, _⟩ := h1.len
      obtain ⟨a2, c2, rfl, _, _, _⟩ := h2.len
      clear h1 h2 hn h0
      go_enter Try.func51, Try.ntmps51
      go_wp2
      go_loop [5] (fun i => i = .int .i64 0) (fun _ => 0)
      case atStart => rfl
      case round =>
        obtain rfl := hrel
        go_wp2
        go_ret
        exact ⟨rfl, Below.refl _ _⟩
    · obtain ⟨x1, o1, c1, rfl, hx1, hq1, hq2, hb1, HC1⟩ := h1.at (by omega)
      obtain ⟨x2, o2, c2, rfl, hx2, hq3, hq4, hb2, HC2⟩ := h2.at (by omega)
      obtain ⟨n1, hn1⟩ : ∃ n1, ss.length = n1 := ⟨_, rfl⟩
      have hn2 : tt.length = n1 := by omega
      have HL1 : Hid (ss.length = n1) := hn1
      have HL2 : Hid (tt.length = n1) := hn2
      rw [hn1] at hb1 hq1 h0 ⊢
      rw [hn2] at hq3 ⊢
      clear h1 h2 hb2 hn hn1 hn2
      have hbne : ((n1 : Int) != (n1 : Int)) = false := by simp
      go_enter Try.func51, Try.ntmps51
      go_wp2
      go_loopw [5] (fun i wr => ∃ k : Nat, k ≤ n1 ∧ i = .int .i64 k ∧ Hid (ss.take k = tt.take k) ∧ Below w.heap.size w wr) (fun i _ => n1 - (intOf i).toNat)
      case atStart => exact ⟨0, Nat.zero_le _, rfl, rfl, Below.refl _ _⟩
      case round =>
        obtain ⟨k, hk, rfl, HT, hbw⟩ := hrel
        by_cases hlt : k < n1
        · have hk1 : k < ss.length := by have := HL1.out; omega
          have hk2 : k < tt.length := by have := HL2.out; omega
          have hc1 : wr.cell? ⟨x1, o1 + k, none⟩ = some (.string ⟨ss[k].toArray⟩) := (hbw.cell (p := ⟨x1, o1 + k, none⟩) hx1).trans (HC1.out k hk1)
          have hc2 : wr.cell? ⟨x2, o2 + k, none⟩ = some (.string ⟨tt[k].toArray⟩) := (hbw.cell (p := ⟨x2, o2 + k, none⟩) hx2).trans (HC2.out k hk2)
          by_cases he : ss[k] = tt[k]
          · have HE : Hid (ss[k] = tt[k]) := he
            have heb : (ss[k] == tt[k]) = true := by simp [he]
            clear he
            go_wp2
            go_quiet (fail)
            go_wp2
            go_roundw
            case rel => exact ⟨k + 1, by omega, by go_num, take_eq_succ hk1 hk2 HT.out HE.out, below_drewN hbw _⟩
            case measure => simp [intOf]; omega
          · have HF : Hid (decide (ss = tt) = false) := by
              show decide (ss = tt) = false
              exact decide_eq_false (list_ne_of_get hk1 hk2 he)
            have heb : (ss[k] == tt[k]) = false := by simp [he]
            clear he
            go_wp2
            go_quiet (fail)
            go_wp2
            go_ret
            refine ⟨?_, below_drewN hbw _⟩
            rw [HF.out]
            rfl
        · have HF : Hid (decide (ss = tt) = true) := by
            show decide (ss = tt) = true
            apply decide_eq_true
            have h := HT.out
            rwa [List.take_of_length_le (by have := HL1.out; omega), List.take_of_length_le (by have := HL2.out; omega)] at h
          go_wp2
          go_ret
          refine ⟨?_, hbw⟩
          rw [HF.out]
          rfl
  · have HF : Hid (decide (ss = tt) = false) := by
      show decide (ss = tt) = false
      apply decide_eq_false
      rintro rfl
      exact hn rfl
    obtain ⟨a1, c1, rfl, _, _, _⟩ := h1.len
    obtain ⟨a2, c2, rfl, _, _, _⟩ := h2.len
    have hbne : ((ss.length : Int) == (tt.length : Int)) = false := by rw [beq_eq_false_iff_ne]; omega
    clear h1 h2
    go_enter Try.func51, Try.ntmps51
    go_wp2
    go_ret
    refine ⟨?_, Below.refl _ _⟩
    rw [HF.out]
    rfl
end Go.Proofs.Ytngllioidfffdaa
