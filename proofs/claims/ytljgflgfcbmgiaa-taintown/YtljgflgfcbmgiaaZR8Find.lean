/-
  What cartoucheref08's first, End and Writer answer: the place that each looks for.
-/
import Derived.Test.YtljgflgfcbmgiaaProg
import Derived.Test.YtljgflgfcbmgiaaGC
import Derived.BigQuiet
import Derived.Deep.QuietTactic
namespace Go.Proofs.Ytljgflgfcbmgiaa
set_option maxRecDepth 100000
open Go.RowKit
set_option linter.unusedVariables false
attribute [local go_sem] ba_size
set_option maxHeartbeats 2000000 in
theorem rfirst_any (h : List Ev) (v : Value) (w : World) (hT : IsEvs w v h) (t : Int) (m : Nat) (hm : m ≤ h.length) :
    Calls Try.prog 31 #[v, .int .i64 t, .int .i64 (m : Int)] w fun e w' => e = .returned (.int .i64 (oI (fstL h t m))) ∧ Below w.heap.size w w' := by
  obtain ⟨a, cap, rfl, h1, h2, h3, HC⟩ := hT.reads
  obtain ⟨n, hn⟩ : ∃ n, h.length = n := ⟨_, rfl⟩
  have HN : Hid (h.length = n) := hn
  rw [hn] at h1 h3 hm ⊢
  clear hT hn
  go_enter Try.func31, Try.ntmps31
  go_wp2_with fail
  go_loopw [7] (fun i wr => ∃ k : Nat, k ≤ m ∧ i = .int .i64 k ∧ Hid (∀ j, j < k → ofTxn h t j = false) ∧ Below w.heap.size w wr) (fun i _ => m - (intOf i).toNat)
  case atStart => exact ⟨0, Nat.zero_le _, rfl, (fun j hj => by omega), Below.refl _ _⟩
  case round =>
    obtain ⟨k, hk, rfl, HA, hbw⟩ := hrel
    by_cases hlt : k < m
    · have hk1 : k < h.length := by have := HN.out; omega
      have hkn : k < n := by omega
      obtain ⟨bb, off, rfl, HQ⟩ := HC.out (by omega)
      obtain ⟨c0, c1, c2, c3⟩ := HQ.out k hk1 _ hbw
      obtain ⟨⟨x0, x1, x2, x3⟩, hx⟩ : ∃ x, ev h k = x := ⟨_, rfl⟩
      have HX : Hid (ev h k = (x0, x1, x2, x3)) := hx
      rw [hx] at c0 c1 c2 c3
      simp only at c0 c1 c2 c3
      clear hx
      by_cases d : x1 = t
      · have e1 : (x1 == t) = true := by rw [d]; exact beq_self_eq_true _
        have HR : Hid (fstL h t m = some k) := (fi_some _ _ _).2 ⟨hlt, by show decide _ = true; rw [HX.out]; exact decide_eq_true (d), HA.out⟩
        go_wp2_with fail
        go_ret
        exact ⟨by rw [HR.out]; rfl, hbw⟩
      · have e1 : (x1 == t) = false := beq_eq_false_iff_ne.2 d
        have HA' : Hid (∀ j, j < k + 1 → ofTxn h t j = false) := upto_next _ k HA.out (by show decide _ = false; rw [HX.out]; exact decide_eq_false (d))
        go_wp2_with fail
        refine ⟨?relrfirst_any1, ?mearfirst_any1⟩
        case relrfirst_any1 => exact ⟨k + 1, by omega, by first | go_num | simp, HA', hbw⟩
        case mearfirst_any1 => simp [intOf]; omega
    · have HR : Hid (fstL h t m = none) := (fi_none _ _).2 (by
        obtain rfl : k = m := by omega
        exact HA.out)
      go_wp2_with fail
      go_ret
      exact ⟨by rw [HR.out]; rfl, hbw⟩
set_option maxHeartbeats 2000000 in
theorem rend_any (h : List Ev) (v : Value) (w : World) (hT : IsEvs w v h) (t : Int) (m : Nat) (hm : m ≤ h.length) :
    Calls Try.prog 29 #[v, .int .i64 t, .int .i64 (m : Int)] w fun e w' => e = .returned (.int .i64 (oI (endL h t m))) ∧ Below w.heap.size w w' := by
  obtain ⟨a, cap, rfl, h1, h2, h3, HC⟩ := hT.reads
  obtain ⟨n, hn⟩ : ∃ n, h.length = n := ⟨_, rfl⟩
  have HN : Hid (h.length = n) := hn
  rw [hn] at h1 h3 hm ⊢
  clear hT hn
  go_enter Try.func29, Try.ntmps29
  go_wp2_with fail
  go_loopw [7] (fun i wr => ∃ k : Nat, k ≤ m ∧ i = .int .i64 k ∧ Hid (∀ j, j < k → isEnd h t j = false) ∧ Below w.heap.size w wr) (fun i _ => m - (intOf i).toNat)
  case atStart => exact ⟨0, Nat.zero_le _, rfl, (fun j hj => by omega), Below.refl _ _⟩
  case round =>
    obtain ⟨k, hk, rfl, HA, hbw⟩ := hrel
    by_cases hlt : k < m
    · have hk1 : k < h.length := by have := HN.out; omega
      have hkn : k < n := by omega
      obtain ⟨bb, off, rfl, HQ⟩ := HC.out (by omega)
      obtain ⟨c0, c1, c2, c3⟩ := HQ.out k hk1 _ hbw
      obtain ⟨⟨x0, x1, x2, x3⟩, hx⟩ : ∃ x, ev h k = x := ⟨_, rfl⟩
      have HX : Hid (ev h k = (x0, x1, x2, x3)) := hx
      rw [hx] at c0 c1 c2 c3
      simp only at c0 c1 c2 c3
      clear hx
      by_cases d : x1 = t
      · have e1 : (x1 == t) = true := by rw [d]; exact beq_self_eq_true _
        by_cases d4 : x0 = 4
        · have e4 : (x0 == 4) = true := by rw [d4]; rfl
          have HR : Hid (endL h t m = some k) := (fi_some _ _ _).2 ⟨hlt, by show decide _ = true; rw [HX.out]; exact decide_eq_true (⟨d, Or.inl d4⟩), HA.out⟩
          go_wp2_with fail
          go_ret
          exact ⟨by rw [HR.out]; rfl, hbw⟩
        · have e4 : (x0 == 4) = false := beq_eq_false_iff_ne.2 d4
          by_cases d5 : x0 = 5
          · have e5 : (x0 == 5) = true := by rw [d5]; rfl
            have HR : Hid (endL h t m = some k) := (fi_some _ _ _).2 ⟨hlt, by show decide _ = true; rw [HX.out]; exact decide_eq_true (⟨d, Or.inr d5⟩), HA.out⟩
            go_wp2_with fail
            go_ret
            exact ⟨by rw [HR.out]; rfl, hbw⟩
          · have e5 : (x0 == 5) = false := beq_eq_false_iff_ne.2 d5
            have HA' : Hid (∀ j, j < k + 1 → isEnd h t j = false) := upto_next _ k HA.out (by show decide _ = false; rw [HX.out]; exact decide_eq_false (fun hh => hh.2.elim d4 d5))
            go_wp2_with fail
            refine ⟨?relrend_any1, ?mearend_any1⟩
            case relrend_any1 => exact ⟨k + 1, by omega, by first | go_num | simp, HA', hbw⟩
            case mearend_any1 => simp [intOf]; omega
      · have e1 : (x1 == t) = false := beq_eq_false_iff_ne.2 d
        have HA' : Hid (∀ j, j < k + 1 → isEnd h t j = false) := upto_next _ k HA.out (by show decide _ = false; rw [HX.out]; exact decide_eq_false (fun hh => d hh.1))
        go_wp2_with fail
        refine ⟨?relrend_any2, ?mearend_any2⟩
        case relrend_any2 => exact ⟨k + 1, by omega, by first | go_num | simp, HA', hbw⟩
        case mearend_any2 => simp [intOf]; omega
    · have HR : Hid (endL h t m = none) := (fi_none _ _).2 (by
        obtain rfl : k = m := by omega
        exact HA.out)
      go_wp2_with fail
      go_ret
      exact ⟨by rw [HR.out]; rfl, hbw⟩
set_option maxHeartbeats 2000000 in
theorem rwriter_any (h : List Ev) (v : Value) (w : World) (hT : IsEvs w v h) (key val : List UInt8) :
    Calls Try.prog 28 #[v, .string ⟨key.toArray⟩, .string ⟨val.toArray⟩] w fun e w' => e = .returned (.int .i64 (oI (writerL h key val))) ∧ Below w.heap.size w w' := by
  obtain ⟨a, cap, rfl, h1, h2, h3, HC⟩ := hT.reads
  obtain ⟨n, hn⟩ : ∃ n, h.length = n := ⟨_, rfl⟩
  have HN : Hid (h.length = n) := hn
  have HW : Hid (writerL h key val = fi (isWr h key val) n) := by show _ = _; unfold writerL; rw [hn]
  rw [HW.out]
  rw [hn] at h1 h3 ⊢
  clear hT hn
  go_enter Try.func28, Try.ntmps28
  go_wp2_with fail
  go_loopw [7] (fun i wr => ∃ k : Nat, k ≤ n ∧ i = .int .i64 k ∧ Hid (∀ j, j < k → isWr h key val j = false) ∧ Below w.heap.size w wr) (fun i _ => n - (intOf i).toNat)
  case atStart => exact ⟨0, Nat.zero_le _, rfl, (fun j hj => by omega), Below.refl _ _⟩
  case round =>
    obtain ⟨k, hk, rfl, HA, hbw⟩ := hrel
    by_cases hlt : k < n
    · have hk1 : k < h.length := by have := HN.out; omega
      have hkn : k < n := by omega
      obtain ⟨bb, off, rfl, HQ⟩ := HC.out (by omega)
      obtain ⟨c0, c1, c2, c3⟩ := HQ.out k hk1 _ hbw
      obtain ⟨⟨x0, x1, x2, x3⟩, hx⟩ : ∃ x, ev h k = x := ⟨_, rfl⟩
      have HX : Hid (ev h k = (x0, x1, x2, x3)) := hx
      rw [hx] at c0 c1 c2 c3
      simp only at c0 c1 c2 c3
      clear hx
      by_cases d : x0 = 3
      · have e1 : (x0 == 3) = true := by rw [d]; rfl
        by_cases d4 : x2 = key
        · have e4 : (x2 == key) = true := by rw [d4]; exact beq_self_eq_true _
          by_cases d5 : x3 = val
          · have e5 : (x3 == val) = true := by rw [d5]; exact beq_self_eq_true _
            have HR : Hid (fi (isWr h key val) n = some k) := (fi_some _ _ _).2 ⟨hlt, by show decide _ = true; rw [HX.out]; exact decide_eq_true (⟨d, d4, d5⟩), HA.out⟩
            go_wp2_with fail
            go_ret
            exact ⟨by rw [HR.out]; rfl, hbw⟩
          · have e5 : (x3 == val) = false := beq_eq_false_iff_ne.2 d5
            have HA' : Hid (∀ j, j < k + 1 → isWr h key val j = false) := upto_next _ k HA.out (by show decide _ = false; rw [HX.out]; exact decide_eq_false (fun hh => d5 hh.2.2))
            go_wp2_with fail
            refine ⟨?relrwriter_any1, ?mearwriter_any1⟩
            case relrwriter_any1 => exact ⟨k + 1, by omega, by first | go_num | simp, HA', hbw⟩
            case mearwriter_any1 => simp [intOf]; omega
        · have e4 : (x2 == key) = false := beq_eq_false_iff_ne.2 d4
          have HA' : Hid (∀ j, j < k + 1 → isWr h key val j = false) := upto_next _ k HA.out (by show decide _ = false; rw [HX.out]; exact decide_eq_false (fun hh => d4 hh.2.1))
          go_wp2_with fail
          refine ⟨?relrwriter_any2, ?mearwriter_any2⟩
          case relrwriter_any2 => exact ⟨k + 1, by omega, by first | go_num | simp, HA', hbw⟩
          case mearwriter_any2 => simp [intOf]; omega
      · have e1 : (x0 == 3) = false := beq_eq_false_iff_ne.2 d
        have HA' : Hid (∀ j, j < k + 1 → isWr h key val j = false) := upto_next _ k HA.out (by show decide _ = false; rw [HX.out]; exact decide_eq_false (fun hh => d hh.1))
        go_wp2_with fail
        refine ⟨?relrwriter_any3, ?mearwriter_any3⟩
        case relrwriter_any3 => exact ⟨k + 1, by omega, by first | go_num | simp, HA', hbw⟩
        case mearwriter_any3 => simp [intOf]; omega
    · have HR : Hid (fi (isWr h key val) n = none) := (fi_none _ _).2 (by
        obtain rfl : k = n := by omega
        exact HA.out)
      go_wp2_with fail
      go_ret
      exact ⟨by rw [HR.out]; rfl, hbw⟩
end Go.Proofs.Ytljgflgfcbmgiaa
