/-
  What cartoucheref08's first, End and Writer answer: the place that each looks for.
  What cartoucheref08.Last answers.
  What cartoucheref09.counts answers.
  What cartoucheref09.At answers.
  What cartoucheref09.All and Outer answer.
-/
import Derived.Test.YteehpkkkagdckaaProg
import Derived.Test.YteehpkkkagdckaaGC
import Derived.BigQuiet
import Derived.Deep.QuietTactic
import Derived.Test.YteehpkkkagdckaaGE
import Derived.Deep.RegionHeld3
namespace Go.Proofs.Yteehpkkkagdckaa
set_option maxRecDepth 100000
open Go.RowKit
set_option linter.unusedVariables false
attribute [local go_sem] ba_size
set_option maxHeartbeats 2000000 in
theorem rfirst_any (h : List Ev) (v : Value) (w : World) (hT : IsEvs w v h) (t : Int) (m : Nat) (hm : m ≤ h.length) :
    Calls Try.prog 44 #[v, .int .i64 t, .int .i64 (m : Int)] w fun e w' => e = .returned (.int .i64 (oI (fstL h t m))) ∧ Below w.heap.size w w' := by
  obtain ⟨a, cap, rfl, h1, h2, h3, HC⟩ := hT.reads
  obtain ⟨n, hn⟩ : ∃ n, h.length = n := ⟨_, rfl⟩
  have HN : Hid (h.length = n) := hn
  rw [hn] at h1 h3 hm ⊢
  clear hT hn
  go_enter Try.func44, Try.ntmps44
  go_wp2_with fail
  go_loopw [7] (fun i wr => ∃ k : Nat, k ≤ m ∧ i = .int .i64 k ∧ Hid (∀ j, j < k → ofTxn h t j = false) ∧ Below w.heap.size w wr) (fun i _ => m - (intOf i).toNat)
  case atStart => exact ⟨0, Nat.zero_le _, rfl, (fun j hj => by omega), Below.refl _ _⟩
  case round =>
    obtain ⟨k, hk, rfl, HA, hbw⟩ := hrel
    by_cases hlt : k < m
    · have hk1 : k < h.length := by have := HN.out; omega
      have hkn : k < n := by omega
      obtain ⟨bb, off, rfl, HQ⟩ := HC.out (by omega)
      obtain ⟨c0, c1, c2, c3⟩ := HQ.out k hk1 _ hbw
      obtain ⟨⟨x0, x1, x2, x3⟩, hx⟩ : ∃ x, ev h k = x := ⟨_, rfl⟩
      have HX : Hid (ev h k = (x0, x1, x2, x3)) := hx
      rw [hx] at c0 c1 c2 c3
      simp only at c0 c1 c2 c3
      clear hx
      by_cases d : x1 = t
      · have e1 : (x1 == t) = true := by rw [d]; exact beq_self_eq_true _
        have HR : Hid (fstL h t m = some k) := (fi_some _ _ _).2 ⟨hlt, by show decide _ = true; rw [HX.out]; exact decide_eq_true (d), HA.out⟩
        go_wp2_with fail
        go_ret
        exact ⟨by rw [HR.out]; rfl, hbw⟩
      · have e1 : (x1 == t) = false := beq_eq_false_iff_ne.2 d
        have HA' : Hid (∀ j, j < k + 1 → ofTxn h t j = false) := upto_next _ k HA.out (by show decide _ = false; rw [HX.out]; exact decide_eq_false (d))
        go_wp2_with fail
        refine ⟨?relrfirst_any1, ?mearfirst_any1⟩
        case relrfirst_any1 => exact ⟨k + 1, by omega, by first | go_num | simp, HA', hbw⟩
        case mearfirst_any1 => simp [intOf]; omega
    · have HR : Hid (fstL h t m = none) := (fi_none _ _).2 (by
        obtain rfl : k = m := by omega
        exact HA.out)
      go_wp2_with fail
      go_ret
      exact ⟨by rw [HR.out]; rfl, hbw⟩
set_option maxHeartbeats 2000000 in
theorem rend_any (h : List Ev) (v : Value) (w : World) (hT : IsEvs w v h) (t : Int) (m : Nat) (hm : m ≤ h.length) :
    Calls Try.prog 45 #[v, .int .i64 t, .int .i64 (m : Int)] w fun e w' => e = .returned (.int .i64 (oI (endL h t m))) ∧ Below w.heap.size w w' := by
  obtain ⟨a, cap, rfl, h1, h2, h3, HC⟩ := hT.reads
  obtain ⟨n, hn⟩ : ∃ n, h.length = n := ⟨_, rfl⟩
  have HN : Hid (h.length = n) := hn
  rw [hn] at h1 h3 hm ⊢
  clear hT hn
  go_enter Try.func45, Try.ntmps45
  go_wp2_with fail
  go_loopw [7] (fun i wr => ∃ k : Nat, k ≤ m ∧ i = .int .i64 k ∧ Hid (∀ j, j < k → isEnd h t j = false) ∧ Below w.heap.size w wr) (fun i _ => m - (intOf i).toNat)
  case atStart => exact ⟨0, Nat.zero_le _, rfl, (fun j hj => by omega), Below.refl _ _⟩
  case round =>
    obtain ⟨k, hk, rfl, HA, hbw⟩ := hrel
    by_cases hlt : k < m
    · have hk1 : k < h.length := by have := HN.out; omega
      have hkn : k < n := by omega
      obtain ⟨bb, off, rfl, HQ⟩ := HC.out (by omega)
      obtain ⟨c0, c1, c2, c3⟩ := HQ.out k hk1 _ hbw
      obtain ⟨⟨x0, x1, x2, x3⟩, hx⟩ : ∃ x, ev h k = x := ⟨_, rfl⟩
      have HX : Hid (ev h k = (x0, x1, x2, x3)) := hx
      rw [hx] at c0 c1 c2 c3
      simp only at c0 c1 c2 c3
      clear hx
      by_cases d : x1 = t
      · have e1 : (x1 == t) = true := by rw [d]; exact beq_self_eq_true _
        by_cases d4 : x0 = 4
        · have e4 : (x0 == 4) = true := by rw [d4]; rfl
          have HR : Hid (endL h t m = some k) := (fi_some _ _ _).2 ⟨hlt, by show decide _ = true; rw [HX.out]; exact decide_eq_true (⟨d, Or.inl d4⟩), HA.out⟩
          go_wp2_with fail
          go_ret
          exact ⟨by rw [HR.out]; rfl, hbw⟩
        · have e4 : (x0 == 4) = false := beq_eq_false_iff_ne.2 d4
          by_cases d5 : x0 = 5
          · have e5 : (x0 == 5) = true := by rw [d5]; rfl
            have HR : Hid (endL h t m = some k) := (fi_some _ _ _).2 ⟨hlt, by show decide _ = true; rw [HX.out]; exact decide_eq_true (⟨d, Or.inr d5⟩), HA.out⟩
            go_wp2_with fail
            go_ret
            exact ⟨by rw [HR.out]; rfl, hbw⟩
          · have e5 : (x0 == 5) = false := beq_eq_false_iff_ne.2 d5
            have HA' : Hid (∀ j, j < k + 1 → isEnd h t j = false) := upto_next _ k HA.out (by show decide _ = false; rw [HX.out]; exact decide_eq_false (fun hh => hh.2.elim d4 d5))
            go_wp2_with fail
            refine ⟨?relrend_any1, ?mearend_any1⟩
            case relrend_any1 => exact ⟨k + 1, by omega, by first | go_num | simp, HA', hbw⟩
            case mearend_any1 => simp [intOf]; omega
      · have e1 : (x1 == t) = false := beq_eq_false_iff_ne.2 d
        have HA' : Hid (∀ j, j < k + 1 → isEnd h t j = false) := upto_next _ k HA.out (by show decide _ = false; rw [HX.out]; exact decide_eq_false (fun hh => d hh.1))
        go_wp2_with fail
        refine ⟨?relrend_any2, ?mearend_any2⟩
        case relrend_any2 => exact ⟨k + 1, by omega, by first | go_num | simp, HA', hbw⟩
        case mearend_any2 => simp [intOf]; omega
    · have HR : Hid (endL h t m = none) := (fi_none _ _).2 (by
        obtain rfl : k = m := by omega
        exact HA.out)
      go_wp2_with fail
      go_ret
      exact ⟨by rw [HR.out]; rfl, hbw⟩
set_option maxHeartbeats 2000000 in
theorem rwriter_any (h : List Ev) (v : Value) (w : World) (hT : IsEvs w v h) (key val : List UInt8) :
    Calls Try.prog 40 #[v, .string ⟨key.toArray⟩, .string ⟨val.toArray⟩] w fun e w' => e = .returned (.int .i64 (oI (writerL h key val))) ∧ Below w.heap.size w w' := by
  obtain ⟨a, cap, rfl, h1, h2, h3, HC⟩ := hT.reads
  obtain ⟨n, hn⟩ : ∃ n, h.length = n := ⟨_, rfl⟩
  have HN : Hid (h.length = n) := hn
  have HW : Hid (writerL h key val = fi (isWr h key val) n) := by show _ = _; unfold writerL; rw [hn]
  rw [HW.out]
  rw [hn] at h1 h3 ⊢
  clear hT hn
  go_enter Try.func40, Try.ntmps40
  go_wp2_with fail
  go_loopw [7] (fun i wr => ∃ k : Nat, k ≤ n ∧ i = .int .i64 k ∧ Hid (∀ j, j < k → isWr h key val j = false) ∧ Below w.heap.size w wr) (fun i _ => n - (intOf i).toNat)
  case atStart => exact ⟨0, Nat.zero_le _, rfl, (fun j hj => by omega), Below.refl _ _⟩
  case round =>
    obtain ⟨k, hk, rfl, HA, hbw⟩ := hrel
    by_cases hlt : k < n
    · have hk1 : k < h.length := by have := HN.out; omega
      have hkn : k < n := by omega
      obtain ⟨bb, off, rfl, HQ⟩ := HC.out (by omega)
      obtain ⟨c0, c1, c2, c3⟩ := HQ.out k hk1 _ hbw
      obtain ⟨⟨x0, x1, x2, x3⟩, hx⟩ : ∃ x, ev h k = x := ⟨_, rfl⟩
      have HX : Hid (ev h k = (x0, x1, x2, x3)) := hx
      rw [hx] at c0 c1 c2 c3
      simp only at c0 c1 c2 c3
      clear hx
      by_cases d : x0 = 3
      · have e1 : (x0 == 3) = true := by rw [d]; rfl
        by_cases d4 : x2 = key
        · have e4 : (x2 == key) = true := by rw [d4]; exact beq_self_eq_true _
          by_cases d5 : x3 = val
          · have e5 : (x3 == val) = true := by rw [d5]; exact beq_self_eq_true _
            have HR : Hid (fi (isWr h key val) n = some k) := (fi_some _ _ _).2 ⟨hlt, by show decide _ = true; rw [HX.out]; exact decide_eq_true (⟨d, d4, d5⟩), HA.out⟩
            go_wp2_with fail
            go_ret
            exact ⟨by rw [HR.out]; rfl, hbw⟩
          · have e5 : (x3 == val) = false := beq_eq_false_iff_ne.2 d5
            have HA' : Hid (∀ j, j < k + 1 → isWr h key val j = false) := upto_next _ k HA.out (by show decide _ = false; rw [HX.out]; exact decide_eq_false (fun hh => d5 hh.2.2))
            go_wp2_with fail
            refine ⟨?relrwriter_any1, ?mearwriter_any1⟩
            case relrwriter_any1 => exact ⟨k + 1, by omega, by first | go_num | simp, HA', hbw⟩
            case mearwriter_any1 => simp [intOf]; omega
        · have e4 : (x2 == key) = false := beq_eq_false_iff_ne.2 d4
          have HA' : Hid (∀ j, j < k + 1 → isWr h key val j = false) := upto_next _ k HA.out (by show decide _ = false; rw [HX.out]; exact decide_eq_false (fun hh => d4 hh.2.1))
          go_wp2_with fail
          refine ⟨?relrwriter_any2, ?mearwriter_any2⟩
          case relrwriter_any2 => exact ⟨k + 1, by omega, by first | go_num | simp, HA', hbw⟩
          case mearwriter_any2 => simp [intOf]; omega
      · have e1 : (x0 == 3) = false := beq_eq_false_iff_ne.2 d
        have HA' : Hid (∀ j, j < k + 1 → isWr h key val j = false) := upto_next _ k HA.out (by show decide _ = false; rw [HX.out]; exact decide_eq_false (fun hh => d hh.1))
        go_wp2_with fail
        refine ⟨?relrwriter_any3, ?mearwriter_any3⟩
        case relrwriter_any3 => exact ⟨k + 1, by omega, by first | go_num | simp, HA', hbw⟩
        case mearwriter_any3 => simp [intOf]; omega
    · have HR : Hid (fi (isWr h key val) n = none) := (fi_none _ _).2 (by
        obtain rfl : k = n := by omega
        exact HA.out)
      go_wp2_with fail
      go_ret
      exact ⟨by rw [HR.out]; rfl, hbw⟩
end Go.Proofs.Yteehpkkkagdckaa
namespace Go.Proofs.Yteehpkkkagdckaa
set_option maxRecDepth 100000
open Go.RowKit
set_option linter.unusedVariables false
attribute [local go_sem] ba_size
set_option maxHeartbeats 2000000 in
theorem rlast_any (h : List Ev) (v : Value) (w : World) (hT : IsEvs w v h) (t : Int) (key : List UInt8) (before : Int) :
    Calls Try.prog 53 #[v, .int .i64 t, .string ⟨key.toArray⟩, .int .i64 before] w fun e w' => e = .returned (.int .i64 (oI (lastL h t key before))) ∧ Below w.heap.size w w' := by
  obtain ⟨a, cap, rfl, h1, h2, h3, HC⟩ := hT.reads
  obtain ⟨n, hn⟩ : ∃ n, h.length = n := ⟨_, rfl⟩
  have HN : Hid (h.length = n) := hn
  rw [hn] at h1 h3 ⊢
  clear hT hn
  go_enter Try.func53, Try.ntmps53
  go_wp2_with fail
  go_loopw [9, 10] (fun o i wr => ∃ k : Nat, k ≤ n ∧ (k = 0 ∨ (k : Int) ≤ before) ∧ o = .int .i64 (oI (lastN h t key k)) ∧ i = .int .i64 k ∧ Below w.heap.size w wr) (fun _ i _ => n - (intOf i).toNat)
  case atStart => exact ⟨0, Nat.zero_le _, Or.inl rfl, rfl, rfl, Below.refl _ _⟩
  case round =>
    obtain ⟨k, hk, hkb, rfl, rfl, hbw⟩ := hrel
    by_cases hlt : k < n
    · by_cases hlb : (k : Int) < before
      · have hk1 : k < h.length := by have := HN.out; omega
        obtain ⟨bb, off, rfl, HQ⟩ := HC.out (by omega)
        obtain ⟨c0, c1, c2, c3⟩ := HQ.out k hk1 _ hbw
        obtain ⟨⟨x0, x1, x2, x3⟩, hx⟩ : ∃ x, ev h k = x := ⟨_, rfl⟩
        have HX : Hid (ev h k = (x0, x1, x2, x3)) := hx
        rw [hx] at c0 c1 c2 c3
        simp only at c0 c1 c2 c3
        clear hx
        by_cases d : x0 = 3
        · have e1 : (x0 == 3) = true := by rw [d]; rfl
          by_cases d4 : x1 = t
          · have e4 : (x1 == t) = true := by rw [d4]; exact beq_self_eq_true _
            by_cases d5 : x2 = key
            · have e5 : (x2 == key) = true := by rw [d5]; exact beq_self_eq_true _
              have HS : Hid (lastN h t key (k + 1) = some k) := by
                show la (isWrT h t key) (k + 1) = _
                rw [la, show isWrT h t key k = true by show decide _ = true; rw [HX.out]; exact decide_eq_true (⟨d, d4, d5⟩)]; rfl
              go_wp2_with fail
              refine ⟨?relA, ?meaA⟩
              case relA => exact ⟨k + 1, by omega, by omega, by rw [HS.out] <;> rfl, by first | go_num | simp, hbw⟩
              case meaA => simp [intOf]; omega
            · have e5 : (x2 == key) = false := beq_eq_false_iff_ne.2 d5
              have HS : Hid (lastN h t key (k + 1) = lastN h t key k) := by
                show la (isWrT h t key) (k + 1) = _
                rw [la, show isWrT h t key k = false by show decide _ = false; rw [HX.out]; exact decide_eq_false (fun hh => d5 hh.2.2)]; rfl
              go_wp2_with fail
              refine ⟨?relB, ?meaB⟩
              case relB => exact ⟨k + 1, by omega, by omega, by rw [HS.out] <;> rfl, by first | go_num | simp, hbw⟩
              case meaB => simp [intOf]; omega
          · have e4 : (x1 == t) = false := beq_eq_false_iff_ne.2 d4
            have HS : Hid (lastN h t key (k + 1) = lastN h t key k) := by
              show la (isWrT h t key) (k + 1) = _
              rw [la, show isWrT h t key k = false by show decide _ = false; rw [HX.out]; exact decide_eq_false (fun hh => d4 hh.2.1)]; rfl
            go_wp2_with fail
            refine ⟨?relC, ?meaC⟩
            case relC => exact ⟨k + 1, by omega, by omega, by rw [HS.out] <;> rfl, by first | go_num | simp, hbw⟩
            case meaC => simp [intOf]; omega
        · have e1 : (x0 == 3) = false := beq_eq_false_iff_ne.2 d
          have HS : Hid (lastN h t key (k + 1) = lastN h t key k) := by
            show la (isWrT h t key) (k + 1) = _
            rw [la, show isWrT h t key k = false by show decide _ = false; rw [HX.out]; exact decide_eq_false (fun hh => d hh.1)]; rfl
          go_wp2_with fail
          refine ⟨?relD, ?meaD⟩
          case relD => exact ⟨k + 1, by omega, by omega, by rw [HS.out] <;> rfl, by first | go_num | simp, hbw⟩
          case meaD => simp [intOf]; omega
      · have HR : Hid (lastL h t key before = lastN h t key k) := last_end h t key before k (by have := HN.out; omega) hkb (Or.inr (by omega))
        go_wp2_with fail
        go_ret
        exact ⟨by rw [HR.out]; rfl, hbw⟩
    · have HR : Hid (lastL h t key before = lastN h t key k) := last_end h t key before k (by have := HN.out; omega) hkb (Or.inl (by have := HN.out; omega))
      go_wp2_with fail
      go_ret
      exact ⟨by rw [HR.out]; rfl, hbw⟩
end Go.Proofs.Yteehpkkkagdckaa
namespace Go.Proofs.Yteehpkkkagdckaa
set_option maxRecDepth 100000
open Go.RowKit
set_option linter.unusedVariables false
attribute [local go_sem] ba_size
set_option maxHeartbeats 2000000 in
theorem rcounts_any (h : List Ev) (v : Value) (w : World) (hT : IsEvs w v h) (i : Int) :
    Calls Try.prog 54 #[v, .int .i64 i] w fun e w' => e = .returned (.bool (countI h i)) ∧ Below w.heap.size w w' := by
  have C1 := fun (t : Int) W hW => rend_any h v W (hT.below (w' := W) hW) t h.length (Nat.le_refl _)
  obtain ⟨a, cap, rfl, h1, h2, h3, HC⟩ := hT.reads
  obtain ⟨n, hn⟩ : ∃ n, h.length = n := ⟨_, rfl⟩
  have HN : Hid (h.length = n) := hn
  simp only [hn] at C1
  rw [hn] at h1 h3 ⊢
  clear hT hn
  by_cases i0 : i < 0
  · rw [show countI h i = false by unfold countI; rw [decide_eq_false (by omega)]; rfl]
    go_enter Try.func54, Try.ntmps54
    go_wp2_with fail
    go_ret
    exact ⟨rfl, Below.refl _ _⟩
  · obtain ⟨q, rfl⟩ : ∃ q : Nat, i = (q : Int) := ⟨i.toNat, by omega⟩
    have HQQ : Hid (countI h (q : Int) = countsB h q) := by show _ = _; unfold countI; rw [decide_eq_true (by omega)]; simp
    by_cases i1 : q < n
    · have hq1 : q < h.length := by have := HN.out; omega
      have j1 : ¬ (n : Int) ≤ (q : Int) := by omega
      have j11 : ¬ n ≤ q := by omega
      obtain ⟨bb, off, rfl, HQ⟩ := HC.out (by omega)
      obtain ⟨c0, c1, _, _⟩ := HQ.out q hq1 _ (Below.refl _ _)
      obtain ⟨⟨x0, x1, x2, x3⟩, hx⟩ : ∃ x, ev h q = x := ⟨_, rfl⟩
      have HX : Hid (ev h q = (x0, x1, x2, x3)) := hx
      rw [hx] at c0 c1
      simp only at c0 c1
      clear hx
      by_cases d : x0 = 2
      · have e2 : (x0 != 2) = false := by rw [d]; rfl
        have D := C1 x1
        rcases he : endL h x1 n with _ | e
        · rw [HQQ.out, count_open h q (by rw [HX.out, HN.out]; exact he)]
          rw [he] at D
          simp only [oI] at D
          have j2 : ¬ (q : Int) < -1 := by omega
          clear he d
          go_enter Try.func54, Try.ntmps54
          go_wp2_with fail
          refine (D _ (Below.refl _ _)).mono ?_
          rintro e w1 ⟨rfl, b1⟩
          go_wp2_with fail
          go_ret
          exact ⟨rfl, b1⟩
        · have hel : e < h.length := by have := ((fi_some _ _ _).1 he).1; have := HN.out; omega
          have HCE : Hid (countsB h q = (decide (q < e) && decide ((ev h e).1 = 4))) := count_end h q e hq1 (by rw [HX.out]; exact d) (by rw [HX.out, HN.out]; exact he)
          rw [HQQ.out, HCE.out]
          rw [he] at D
          simp only [oI] at D
          have HE : Hid (e < h.length) := hel
          have hen : e < n := by have := HN.out; omega
          clear he d hel
          by_cases l1 : q < e
          · have l2 : (q : Int) < (e : Int) := by omega
            rw [decide_eq_true l1]
            obtain ⟨z0, hz⟩ : ∃ z, (ev h e).1 = z := ⟨_, rfl⟩
            have HZ : Hid ((ev h e).1 = z0) := hz
            rw [hz]
            clear hz
            by_cases l3 : z0 = 4
            · have l4 : (z0 == 4) = true := by rw [l3]; rfl
              rw [decide_eq_true l3]
              clear l3
              go_enter Try.func54, Try.ntmps54
              go_wp2_with fail
              refine (D _ (Below.refl _ _)).mono ?_
              rintro e' w1 ⟨rfl, b1⟩
              have m0 := (HQ.out e HE.out _ b1).1
              rw [HZ.out] at m0
              go_wp2_with fail
              go_ret
              exact ⟨rfl, b1⟩
            · have l4 : (z0 == 4) = false := beq_eq_false_iff_ne.2 l3
              rw [decide_eq_false l3]
              go_enter Try.func54, Try.ntmps54
              go_wp2_with fail
              refine (D _ (Below.refl _ _)).mono ?_
              rintro e' w1 ⟨rfl, b1⟩
              have m0 := (HQ.out e HE.out _ b1).1
              rw [HZ.out] at m0
              go_wp2_with fail
              go_ret
              exact ⟨rfl, b1⟩
          · have l2 : ¬ (q : Int) < (e : Int) := by omega
            rw [decide_eq_false l1, Bool.false_and]
            go_enter Try.func54, Try.ntmps54
            go_wp2_with fail
            refine (D _ (Below.refl _ _)).mono ?_
            rintro e' w1 ⟨rfl, b1⟩
            go_wp2_with fail
            go_ret
            exact ⟨rfl, b1⟩
      · have e2 : (x0 != 2) = true := bne_iff_ne.2 d
        rw [HQQ.out, count_kind h q (by rw [HX.out]; exact d)]
        go_enter Try.func54, Try.ntmps54
        go_wp2_with fail
        go_ret
        exact ⟨rfl, Below.refl _ _⟩
    · have j1 : (n : Int) ≤ (q : Int) := by omega
      have j11 : n ≤ q := by omega
      rw [HQQ.out, count_out h q (by have := HN.out; omega)]
      go_enter Try.func54, Try.ntmps54
      go_wp2_with fail
      go_ret
      exact ⟨rfl, Below.refl _ _⟩
end Go.Proofs.Yteehpkkkagdckaa
namespace Go.Proofs.Yteehpkkkagdckaa
set_option maxRecDepth 100000
open Go.RowKit
set_option linter.unusedVariables false
attribute [local go_sem] ba_size
set_option maxHeartbeats 8000000 in
theorem rat_any (h : List Ev) (v : Value) (w : World) (hT : IsEvs w v h) (i : Int) :
    Calls Try.prog 46 #[v, .int .i64 i] w fun e w' => e = .returned (badA (atI h i)) ∧ Below w.heap.size w w' := by
  have CC := fun W hW => rcounts_any h v W (hT.below (w' := W) hW) i
  have C1 := fun (t : Int) W hW => rend_any h v W (hT.below (w' := W) hW) t h.length (Nat.le_refl _)
  have C2 := fun (t : Int) (k : List UInt8) (b : Int) W hW => rlast_any h v W (hT.below (w' := W) hW) t k b
  have C3 := fun (a b : List UInt8) W hW => rwriter_any h v W (hT.below (w' := W) hW) a b
  have R0 := SBox.new w 69 #[.int .i64 0, .int .i64 0, .int .i64 0]
  have B0 := (Below.refl w.heap.size w).alloc (Nat.le_refl _) (.cells #[.int .i64 0, .int .i64 0, .int .i64 0] 69)
  obtain ⟨a, cap, rfl, h1, h2, h3, HC⟩ := hT.reads
  obtain ⟨n, hn⟩ : ∃ n, h.length = n := ⟨_, rfl⟩
  have HN : Hid (h.length = n) := hn
  simp only [hn] at CC C1 C2 C3
  rw [hn] at h1 h3 ⊢
  clear hT hn
  by_cases hc : countI h i = true
  · rw [hc] at CC
    have hi0 : 0 ≤ i ∧ countsB h i.toNat = true := by
      unfold countI at hc
      rw [Bool.and_eq_true, decide_eq_true_eq] at hc
      exact hc
    obtain ⟨q, rfl⟩ : ∃ q : Nat, i = (q : Int) := ⟨i.toNat, by omega⟩
    have hcq : countsB h q = true := by have := hi0.2; rwa [Int.toNat_natCast] at this
    have hA : atI h (q : Int) = atL h q := by unfold atI; rw [if_pos (by omega), Int.toNat_natCast]
    rw [hA]
    have hcl := (counts_iff h q).1 hcq
    have hq1 : q < h.length := hcl.1
    have hqn : q < n := by have := HN.out; omega
    unfold atL
    rw [hcq, if_neg (by simp)]
    obtain ⟨bb, off, rfl, HQ⟩ := HC.out (by omega)
    obtain ⟨⟨x0, x1, x2, x3⟩, hx⟩ : ∃ x, ev h q = x := ⟨_, rfl⟩
    have HX : Hid (ev h q = (x0, x1, x2, x3)) := hx
    simp only [hx]
    have HQ1 : Hid (q < h.length) := hq1
    have D1 := C2 x1 x2 (q : Int)
    rw [last_upto h x1 x2 q (by omega)] at D1
    have D2 := C3 x2 x3
    clear hx hcl hcq hi0 hc hA hq1
    rcases hl : lastN h x1 x2 q with _ | k
    · rw [hl] at D1
      simp only [oI] at D1 ⊢
      clear hl
      by_cases hv : x3 = []
      · subst hv
        rw [if_pos rfl]
        go_enter Try.func46, Try.ntmps46
        go_wp2_with fail
        refine (CC _ B0).mono ?_
        rintro e w1 ⟨rfl, b1⟩
        have R1 := (R0.below b1).alloc (.cells #[.int .i64 x0, .int .i64 x1, .string ⟨x2.toArray⟩, .string ⟨#[]⟩] 48)
        have B1' := bel_trans B0 b1
        have X1 := SBox.new w1 48 #[.int .i64 x0, .int .i64 x1, .string ⟨x2.toArray⟩, .string ⟨#[]⟩]
        have B1 := B1'.alloc B1'.size (.cells #[.int .i64 x0, .int .i64 x1, .string ⟨x2.toArray⟩, .string ⟨#[]⟩] 48)
        have f0 := X1.cell 0 _ rfl
        have f1 := X1.cell 1 _ rfl
        have f2 := X1.cell 2 _ rfl
        have f3 := X1.cell 3 _ rfl
        obtain ⟨s0, s1, s2, s3⟩ := HQ.out q HQ1.out _ B1'
        rw [HX.out] at s0 s1 s2 s3
        simp only at s0 s1 s2 s3
        go_wp2_with fail
        refine (D1 _ B1).mono ?_
        rintro e w2 ⟨rfl, b2⟩
        have R2 := R1.below b2
        have X2 := X1.below b2
        have B2 := bel_trans B1 b2
        clear f0 f1 f2 f3
        have f0 := X2.cell 0 _ rfl
        have f1 := X2.cell 1 _ rfl
        have f2 := X2.cell 2 _ rfl
        have f3 := X2.cell 3 _ rfl
        go_wp2_with fail
        refine (D2 _ B2).mono ?_
        rintro e w3 ⟨rfl, b3⟩
        have R3 := R2.below b3
        have X3 := X2.below b3
        have B3 := bel_trans B2 b3
        clear f0 f1 f2 f3
        have f0 := X3.cell 0 _ rfl
        have f1 := X3.cell 1 _ rfl
        have f2 := X3.cell 2 _ rfl
        have f3 := X3.cell 3 _ rfl
        have r0 := R3.cell 0 _ rfl
        have r1 := R3.cell 1 _ rfl
        have r2 := R3.cell 2 _ rfl
        have g0 := R3.frozen 0
        have g1 := R3.frozen 1
        have g2 := R3.frozen 2
        go_wp2_with fail
        generalize hW : World.setCell _ _ _ = W
        have RW : SBox W w.heap.size 69 #[.int .i64 0, .int .i64 0, .int .i64 0] := by rw [← hW]; exact SBox.put3 R3 _ _ _
        have BZ : Below w.heap.size w W := by rw [← hW]; exact bel_put3 B3 (Nat.le_refl _) _ _ _
        exact bodyPost_ret (v := badA (0, 0, 0)) (results_row1 Try.results46 _ _ w.heap.size 69 _ (0, 0) _ rfl RW Try.underlying69 rfl size_bad) rfl ⟨rfl, BZ⟩
      · have nv := ne_nil7 x3 hv
        rw [if_neg hv]
        rcases hw : writerL h x2 x3 with _ | u
        · rw [hw] at D2
          simp only [oI] at D2 ⊢
          clear hw
          go_enter Try.func46, Try.ntmps46
          go_wp2_with fail
          refine (CC _ B0).mono ?_
          rintro e w1 ⟨rfl, b1⟩
          have R1 := (R0.below b1).alloc (.cells #[.int .i64 x0, .int .i64 x1, .string ⟨x2.toArray⟩, .string ⟨x3.toArray⟩] 48)
          have B1' := bel_trans B0 b1
          have X1 := SBox.new w1 48 #[.int .i64 x0, .int .i64 x1, .string ⟨x2.toArray⟩, .string ⟨x3.toArray⟩]
          have B1 := B1'.alloc B1'.size (.cells #[.int .i64 x0, .int .i64 x1, .string ⟨x2.toArray⟩, .string ⟨x3.toArray⟩] 48)
          have f0 := X1.cell 0 _ rfl
          have f1 := X1.cell 1 _ rfl
          have f2 := X1.cell 2 _ rfl
          have f3 := X1.cell 3 _ rfl
          obtain ⟨s0, s1, s2, s3⟩ := HQ.out q HQ1.out _ B1'
          rw [HX.out] at s0 s1 s2 s3
          simp only at s0 s1 s2 s3
          go_wp2_with fail
          refine (D1 _ B1).mono ?_
          rintro e w2 ⟨rfl, b2⟩
          have R2 := R1.below b2
          have X2 := X1.below b2
          have B2 := bel_trans B1 b2
          clear f0 f1 f2 f3
          have f0 := X2.cell 0 _ rfl
          have f1 := X2.cell 1 _ rfl
          have f2 := X2.cell 2 _ rfl
          have f3 := X2.cell 3 _ rfl
          go_wp2_with fail
          refine (D2 _ B2).mono ?_
          rintro e w3 ⟨rfl, b3⟩
          have R3 := R2.below b3
          have X3 := X2.below b3
          have B3 := bel_trans B2 b3
          clear f0 f1 f2 f3
          have f0 := X3.cell 0 _ rfl
          have f1 := X3.cell 1 _ rfl
          have f2 := X3.cell 2 _ rfl
          have f3 := X3.cell 3 _ rfl
          have r0 := R3.cell 0 _ rfl
          have r1 := R3.cell 1 _ rfl
          have r2 := R3.cell 2 _ rfl
          have g0 := R3.frozen 0
          have g1 := R3.frozen 1
          have g2 := R3.frozen 2
          go_wp2_with fail
          generalize hW : World.setCell _ _ _ = W
          have RW : SBox W w.heap.size 69 #[.int .i64 0, .int .i64 0, .int .i64 0] := by rw [← hW]; exact SBox.put3 R3 _ _ _
          have BZ : Below w.heap.size w W := by rw [← hW]; exact bel_put3 B3 (Nat.le_refl _) _ _ _
          exact bodyPost_ret (v := badA (0, 0, 0)) (results_row1 Try.results46 _ _ w.heap.size 69 _ (0, 0) _ rfl RW Try.underlying69 rfl size_bad) rfl ⟨rfl, BZ⟩
        · have hu : u < h.length := ((fi_some _ _ _).1 hw).1
          rw [hw] at D2
          simp only [oI] at D2 ⊢
          have ju : ¬ (u : Int) < 0 := by omega
          have HU : Hid (u < h.length) := hu
          have hun : u < n := by have := HN.out; omega
          obtain ⟨z1, hz⟩ : ∃ z, (ev h u).2.1 = z := ⟨_, rfl⟩
          have HZ : Hid ((ev h u).2.1 = z1) := hz
          rw [hz]
          clear hw hu hz
          by_cases d : z1 = x1
          · have e1 : (z1 == x1) = true := by rw [d]; exact beq_self_eq_true _
            rw [if_pos d]
            clear d
            go_enter Try.func46, Try.ntmps46
            go_wp2_with fail
            refine (CC _ B0).mono ?_
            rintro e w1 ⟨rfl, b1⟩
            have R1 := (R0.below b1).alloc (.cells #[.int .i64 x0, .int .i64 x1, .string ⟨x2.toArray⟩, .string ⟨x3.toArray⟩] 48)
            have B1' := bel_trans B0 b1
            have X1 := SBox.new w1 48 #[.int .i64 x0, .int .i64 x1, .string ⟨x2.toArray⟩, .string ⟨x3.toArray⟩]
            have B1 := B1'.alloc B1'.size (.cells #[.int .i64 x0, .int .i64 x1, .string ⟨x2.toArray⟩, .string ⟨x3.toArray⟩] 48)
            have f0 := X1.cell 0 _ rfl
            have f1 := X1.cell 1 _ rfl
            have f2 := X1.cell 2 _ rfl
            have f3 := X1.cell 3 _ rfl
            obtain ⟨s0, s1, s2, s3⟩ := HQ.out q HQ1.out _ B1'
            rw [HX.out] at s0 s1 s2 s3
            simp only at s0 s1 s2 s3
            go_wp2_with fail
            refine (D1 _ B1).mono ?_
            rintro e w2 ⟨rfl, b2⟩
            have R2 := R1.below b2
            have X2 := X1.below b2
            have B2 := bel_trans B1 b2
            clear f0 f1 f2 f3
            have f0 := X2.cell 0 _ rfl
            have f1 := X2.cell 1 _ rfl
            have f2 := X2.cell 2 _ rfl
            have f3 := X2.cell 3 _ rfl
            go_wp2_with fail
            refine (D2 _ B2).mono ?_
            rintro e w3 ⟨rfl, b3⟩
            have R3 := R2.below b3
            have X3 := X2.below b3
            have B3 := bel_trans B2 b3
            clear f0 f1 f2 f3
            have f0 := X3.cell 0 _ rfl
            have f1 := X3.cell 1 _ rfl
            have f2 := X3.cell 2 _ rfl
            have f3 := X3.cell 3 _ rfl
            have m1 := (HQ.out u HU.out _ B3).2.1
            rw [HZ.out] at m1
            go_wp2_with fail
            go_quiet (fail)
            have R13 := R3.below (below_drewN (Below.refl _ w3) nq)
            have B13 := below_drewN B3 nq
            have X13 := X3.below (below_drewN (Below.refl _ w3) nq)
            clear f0 f1 f2 f3
            have f0 := X13.cell 0 _ rfl
            have f1 := X13.cell 1 _ rfl
            have f2 := X13.cell 2 _ rfl
            have f3 := X13.cell 3 _ rfl
            have r0 := R13.cell 0 _ rfl
            have r1 := R13.cell 1 _ rfl
            have r2 := R13.cell 2 _ rfl
            have g0 := R13.frozen 0
            have g1 := R13.frozen 1
            have g2 := R13.frozen 2
            go_wp2_with fail
            generalize hW : World.setCell _ _ _ = W
            have RW : SBox W w.heap.size 69 #[.int .i64 4, .int .i64 (q : Int), .int .i64 (u : Int)] := by rw [← hW]; exact SBox.put3 R13 _ _ _
            have BZ : Below w.heap.size w W := by rw [← hW]; exact bel_put3 B13 (Nat.le_refl _) _ _ _
            exact bodyPost_ret (v := badA (4, (q : Int), (u : Int))) (results_row1 Try.results46 _ _ w.heap.size 69 _ (0, 0) _ rfl RW Try.underlying69 rfl size_bad) rfl ⟨rfl, BZ⟩
          · have e1 : (z1 == x1) = false := beq_eq_false_iff_ne.2 d
            rw [if_neg d]
            have D3 := C1 z1
            unfold commL
            rw [HN.out]
            rcases he : endL h z1 n with _ | e
            · rw [he] at D3
              simp only [oI] at D3 ⊢
              clear he
              go_enter Try.func46, Try.ntmps46
              go_wp2_with fail
              refine (CC _ B0).mono ?_
              rintro e w1 ⟨rfl, b1⟩
              have R1 := (R0.below b1).alloc (.cells #[.int .i64 x0, .int .i64 x1, .string ⟨x2.toArray⟩, .string ⟨x3.toArray⟩] 48)
              have B1' := bel_trans B0 b1
              have X1 := SBox.new w1 48 #[.int .i64 x0, .int .i64 x1, .string ⟨x2.toArray⟩, .string ⟨x3.toArray⟩]
              have B1 := B1'.alloc B1'.size (.cells #[.int .i64 x0, .int .i64 x1, .string ⟨x2.toArray⟩, .string ⟨x3.toArray⟩] 48)
              have f0 := X1.cell 0 _ rfl
              have f1 := X1.cell 1 _ rfl
              have f2 := X1.cell 2 _ rfl
              have f3 := X1.cell 3 _ rfl
              obtain ⟨s0, s1, s2, s3⟩ := HQ.out q HQ1.out _ B1'
              rw [HX.out] at s0 s1 s2 s3
              simp only at s0 s1 s2 s3
              go_wp2_with fail
              refine (D1 _ B1).mono ?_
              rintro e w2 ⟨rfl, b2⟩
              have R2 := R1.below b2
              have X2 := X1.below b2
              have B2 := bel_trans B1 b2
              clear f0 f1 f2 f3
              have f0 := X2.cell 0 _ rfl
              have f1 := X2.cell 1 _ rfl
              have f2 := X2.cell 2 _ rfl
              have f3 := X2.cell 3 _ rfl
              go_wp2_with fail
              refine (D2 _ B2).mono ?_
              rintro e w3 ⟨rfl, b3⟩
              have R3 := R2.below b3
              have X3 := X2.below b3
              have B3 := bel_trans B2 b3
              clear f0 f1 f2 f3
              have f0 := X3.cell 0 _ rfl
              have f1 := X3.cell 1 _ rfl
              have f2 := X3.cell 2 _ rfl
              have f3 := X3.cell 3 _ rfl
              have m1 := (HQ.out u HU.out _ B3).2.1
              rw [HZ.out] at m1
              go_wp2_with fail
              go_quiet (fail)
              have R13 := R3.below (below_drewN (Below.refl _ w3) nq)
              have B13 := below_drewN B3 nq
              have X13 := X3.below (below_drewN (Below.refl _ w3) nq)
              clear f0 f1 f2 f3
              have f0 := X13.cell 0 _ rfl
              have f1 := X13.cell 1 _ rfl
              have f2 := X13.cell 2 _ rfl
              have f3 := X13.cell 3 _ rfl
              have m11 := (HQ.out u HU.out _ B13).2.1
              rw [HZ.out] at m11
              go_wp2_with fail
              refine (D3 _ B13).mono ?_
              rintro e' w4 ⟨rfl, b4⟩
              have R4 := R13.below b4
              have X4 := X13.below b4
              have B4 := bel_trans B13 b4
              clear f0 f1 f2 f3
              have f0 := X4.cell 0 _ rfl
              have f1 := X4.cell 1 _ rfl
              have f2 := X4.cell 2 _ rfl
              have f3 := X4.cell 3 _ rfl
              have r0 := R4.cell 0 _ rfl
              have r1 := R4.cell 1 _ rfl
              have r2 := R4.cell 2 _ rfl
              have g0 := R4.frozen 0
              have g1 := R4.frozen 1
              have g2 := R4.frozen 2
              go_wp2_with fail
              generalize hW : World.setCell _ _ _ = W
              have RW : SBox W w.heap.size 69 #[.int .i64 1, .int .i64 (q : Int), .int .i64 (u : Int)] := by rw [← hW]; exact SBox.put3 R4 _ _ _
              have BZ : Below w.heap.size w W := by rw [← hW]; exact bel_put3 B4 (Nat.le_refl _) _ _ _
              exact bodyPost_ret (v := badA (1, (q : Int), (u : Int))) (results_row1 Try.results46 _ _ w.heap.size 69 _ (0, 0) _ rfl RW Try.underlying69 rfl size_bad) rfl ⟨rfl, BZ⟩
            · have hel : e < h.length := by have := ((fi_some _ _ _).1 he).1; have := HN.out; omega
              have HE : Hid (e < h.length) := hel
              have hen : e < n := by have := HN.out; omega
              have je : ¬ (e : Int) < 0 := by omega
              rw [he] at D3
              simp only [oI] at D3 ⊢
              obtain ⟨y0, hy⟩ : ∃ z, (ev h e).1 = z := ⟨_, rfl⟩
              have HY : Hid ((ev h e).1 = y0) := hy
              rw [hy]
              clear he hel hy
              by_cases d4 : y0 = 4
              · have e4 : (y0 != 4) = false := by rw [d4]; rfl
                rw [if_pos d4]
                simp only
                have D4 := C2 z1 x2 (e : Int)
                have hlm : lastL h z1 x2 (e : Int) = lastN h z1 x2 (min n e) := by unfold lastL; rw [HN.out, Int.toNat_natCast]
                rw [hlm] at D4
                clear d4 hlm
                obtain ⟨o, ho⟩ : ∃ o, lastN h z1 x2 (min n e) = o := ⟨_, rfl⟩
                rw [ho] at D4 ⊢
                clear ho
                by_cases d5 : o = some u
                · have e5 : ((oI o) != (u : Int)) = false := by rw [d5]; simp [oI]
                  have e6 : oI o = (u : Int) := by rw [d5]; rfl
                  rw [if_pos d5]
                  rw [e6] at D4
                  clear d5 e5 e6
                  go_enter Try.func46, Try.ntmps46
                  go_wp2_with fail
                  refine (CC _ B0).mono ?_
                  rintro e w1 ⟨rfl, b1⟩
                  have R1 := (R0.below b1).alloc (.cells #[.int .i64 x0, .int .i64 x1, .string ⟨x2.toArray⟩, .string ⟨x3.toArray⟩] 48)
                  have B1' := bel_trans B0 b1
                  have X1 := SBox.new w1 48 #[.int .i64 x0, .int .i64 x1, .string ⟨x2.toArray⟩, .string ⟨x3.toArray⟩]
                  have B1 := B1'.alloc B1'.size (.cells #[.int .i64 x0, .int .i64 x1, .string ⟨x2.toArray⟩, .string ⟨x3.toArray⟩] 48)
                  have f0 := X1.cell 0 _ rfl
                  have f1 := X1.cell 1 _ rfl
                  have f2 := X1.cell 2 _ rfl
                  have f3 := X1.cell 3 _ rfl
                  obtain ⟨s0, s1, s2, s3⟩ := HQ.out q HQ1.out _ B1'
                  rw [HX.out] at s0 s1 s2 s3
                  simp only at s0 s1 s2 s3
                  go_wp2_with fail
                  refine (D1 _ B1).mono ?_
                  rintro e w2 ⟨rfl, b2⟩
                  have R2 := R1.below b2
                  have X2 := X1.below b2
                  have B2 := bel_trans B1 b2
                  clear f0 f1 f2 f3
                  have f0 := X2.cell 0 _ rfl
                  have f1 := X2.cell 1 _ rfl
                  have f2 := X2.cell 2 _ rfl
                  have f3 := X2.cell 3 _ rfl
                  go_wp2_with fail
                  refine (D2 _ B2).mono ?_
                  rintro e w3 ⟨rfl, b3⟩
                  have R3 := R2.below b3
                  have X3 := X2.below b3
                  have B3 := bel_trans B2 b3
                  clear f0 f1 f2 f3
                  have f0 := X3.cell 0 _ rfl
                  have f1 := X3.cell 1 _ rfl
                  have f2 := X3.cell 2 _ rfl
                  have f3 := X3.cell 3 _ rfl
                  have m1 := (HQ.out u HU.out _ B3).2.1
                  rw [HZ.out] at m1
                  go_wp2_with fail
                  go_quiet (fail)
                  have R13 := R3.below (below_drewN (Below.refl _ w3) nq)
                  have B13 := below_drewN B3 nq
                  have X13 := X3.below (below_drewN (Below.refl _ w3) nq)
                  clear f0 f1 f2 f3
                  have f0 := X13.cell 0 _ rfl
                  have f1 := X13.cell 1 _ rfl
                  have f2 := X13.cell 2 _ rfl
                  have f3 := X13.cell 3 _ rfl
                  have m11 := (HQ.out u HU.out _ B13).2.1
                  rw [HZ.out] at m11
                  go_wp2_with fail
                  refine (D3 _ B13).mono ?_
                  rintro e' w4 ⟨rfl, b4⟩
                  have R4 := R13.below b4
                  have X4 := X13.below b4
                  have B4 := bel_trans B13 b4
                  clear f0 f1 f2 f3
                  have f0 := X4.cell 0 _ rfl
                  have f1 := X4.cell 1 _ rfl
                  have f2 := X4.cell 2 _ rfl
                  have f3 := X4.cell 3 _ rfl
                  have k0 := (HQ.out e HE.out _ B4).1
                  rw [HY.out] at k0
                  have k1 := (HQ.out u HU.out _ B4).2.1
                  rw [HZ.out] at k1
                  have S0 : (fun V => Below w4.heap.size w4 V ∧ V.cell? ⟨bb, off + u * 4 + 1, none⟩ = some (.int .i64 z1) ∧ V.cell? ⟨w1.heap.size, 2, none⟩ = some (.string ⟨x2.toArray⟩)) (w4).drew := ⟨(Below.refl _ _).drew, k1, f2⟩
                  have keepS : ∀ V V' : World, (fun V => Below w4.heap.size w4 V ∧ V.cell? ⟨bb, off + u * 4 + 1, none⟩ = some (.int .i64 z1) ∧ V.cell? ⟨w1.heap.size, 2, none⟩ = some (.string ⟨x2.toArray⟩)) V → Below V.heap.size V V' → (fun V => Below w4.heap.size w4 V ∧ V.cell? ⟨bb, off + u * 4 + 1, none⟩ = some (.int .i64 z1) ∧ V.cell? ⟨w1.heap.size, 2, none⟩ = some (.string ⟨x2.toArray⟩)) V' := fun V V' ⟨a, b, c⟩ d => ⟨bel_trans a d, cell_bel d b, cell_bel d c⟩
                  go_wp2_with fail
                  go_region_held3 (fun V => Below w4.heap.size w4 V ∧ V.cell? ⟨bb, off + u * 4 + 1, none⟩ = some (.int .i64 z1) ∧ V.cell? ⟨w1.heap.size, 2, none⟩ = some (.string ⟨x2.toArray⟩)) (first | exact S0 | exact keepS _ _ (by assumption) (by assumption)) (first | (go_at_call 53; refine (D4 _ (bel_trans B4 (And.left (by assumption)))).mono ?_; rintro e' w' ⟨rfl, b8⟩))
                  rename_i hHeld8
                  have s8 := hHeld8.1
                  have R5 := R4.below s8
                  have B5 := bel_trans B4 s8
                  have r0 := R5.cell 0 _ rfl
                  have r1 := R5.cell 1 _ rfl
                  have r2 := R5.cell 2 _ rfl
                  have g0 := R5.frozen 0
                  have g1 := R5.frozen 1
                  have g2 := R5.frozen 2
                  go_wp2_with fail
                  generalize hW : World.setCell _ _ _ = W
                  have RW : SBox W w.heap.size 69 #[.int .i64 0, .int .i64 0, .int .i64 0] := by rw [← hW]; exact SBox.put3 R5 _ _ _
                  have BZ : Below w.heap.size w W := by rw [← hW]; exact bel_put3 B5 (Nat.le_refl _) _ _ _
                  exact bodyPost_ret (v := badA (0, 0, 0)) (results_row1 Try.results46 _ _ w.heap.size 69 _ (0, 0) _ rfl RW Try.underlying69 rfl size_bad) rfl ⟨rfl, BZ⟩
                · have e5 : oI o ≠ (u : Int) := by
                    intro hh
                    rcases o with _ | o
                    · simp only [oI] at hh; omega
                    · simp only [oI] at hh; exact d5 (by congr 1; omega)
                  rw [if_neg d5]
                  change Calls _ _ _ _ (fun e w' => e = .returned (badA (2, (q : Int), oI o)) ∧ Below w.heap.size w w')
                  obtain ⟨m, hm⟩ : ∃ m, oI o = m := ⟨_, rfl⟩
                  rw [hm] at D4 e5 ⊢
                  have e7 : (m != (u : Int)) = true := bne_iff_ne.2 e5
                  clear d5 e5 hm
                  go_enter Try.func46, Try.ntmps46
                  go_wp2_with fail
                  refine (CC _ B0).mono ?_
                  rintro e w1 ⟨rfl, b1⟩
                  have R1 := (R0.below b1).alloc (.cells #[.int .i64 x0, .int .i64 x1, .string ⟨x2.toArray⟩, .string ⟨x3.toArray⟩] 48)
                  have B1' := bel_trans B0 b1
                  have X1 := SBox.new w1 48 #[.int .i64 x0, .int .i64 x1, .string ⟨x2.toArray⟩, .string ⟨x3.toArray⟩]
                  have B1 := B1'.alloc B1'.size (.cells #[.int .i64 x0, .int .i64 x1, .string ⟨x2.toArray⟩, .string ⟨x3.toArray⟩] 48)
                  have f0 := X1.cell 0 _ rfl
                  have f1 := X1.cell 1 _ rfl
                  have f2 := X1.cell 2 _ rfl
                  have f3 := X1.cell 3 _ rfl
                  obtain ⟨s0, s1, s2, s3⟩ := HQ.out q HQ1.out _ B1'
                  rw [HX.out] at s0 s1 s2 s3
                  simp only at s0 s1 s2 s3
                  go_wp2_with fail
                  refine (D1 _ B1).mono ?_
                  rintro e w2 ⟨rfl, b2⟩
                  have R2 := R1.below b2
                  have X2 := X1.below b2
                  have B2 := bel_trans B1 b2
                  clear f0 f1 f2 f3
                  have f0 := X2.cell 0 _ rfl
                  have f1 := X2.cell 1 _ rfl
                  have f2 := X2.cell 2 _ rfl
                  have f3 := X2.cell 3 _ rfl
                  go_wp2_with fail
                  refine (D2 _ B2).mono ?_
                  rintro e w3 ⟨rfl, b3⟩
                  have R3 := R2.below b3
                  have X3 := X2.below b3
                  have B3 := bel_trans B2 b3
                  clear f0 f1 f2 f3
                  have f0 := X3.cell 0 _ rfl
                  have f1 := X3.cell 1 _ rfl
                  have f2 := X3.cell 2 _ rfl
                  have f3 := X3.cell 3 _ rfl
                  have m1 := (HQ.out u HU.out _ B3).2.1
                  rw [HZ.out] at m1
                  go_wp2_with fail
                  go_quiet (fail)
                  have R13 := R3.below (below_drewN (Below.refl _ w3) nq)
                  have B13 := below_drewN B3 nq
                  have X13 := X3.below (below_drewN (Below.refl _ w3) nq)
                  clear f0 f1 f2 f3
                  have f0 := X13.cell 0 _ rfl
                  have f1 := X13.cell 1 _ rfl
                  have f2 := X13.cell 2 _ rfl
                  have f3 := X13.cell 3 _ rfl
                  have m11 := (HQ.out u HU.out _ B13).2.1
                  rw [HZ.out] at m11
                  go_wp2_with fail
                  refine (D3 _ B13).mono ?_
                  rintro e' w4 ⟨rfl, b4⟩
                  have R4 := R13.below b4
                  have X4 := X13.below b4
                  have B4 := bel_trans B13 b4
                  clear f0 f1 f2 f3
                  have f0 := X4.cell 0 _ rfl
                  have f1 := X4.cell 1 _ rfl
                  have f2 := X4.cell 2 _ rfl
                  have f3 := X4.cell 3 _ rfl
                  have k0 := (HQ.out e HE.out _ B4).1
                  rw [HY.out] at k0
                  have k1 := (HQ.out u HU.out _ B4).2.1
                  rw [HZ.out] at k1
                  have S0 : (fun V => Below w4.heap.size w4 V ∧ V.cell? ⟨bb, off + u * 4 + 1, none⟩ = some (.int .i64 z1) ∧ V.cell? ⟨w1.heap.size, 2, none⟩ = some (.string ⟨x2.toArray⟩)) (w4).drew := ⟨(Below.refl _ _).drew, k1, f2⟩
                  have keepS : ∀ V V' : World, (fun V => Below w4.heap.size w4 V ∧ V.cell? ⟨bb, off + u * 4 + 1, none⟩ = some (.int .i64 z1) ∧ V.cell? ⟨w1.heap.size, 2, none⟩ = some (.string ⟨x2.toArray⟩)) V → Below V.heap.size V V' → (fun V => Below w4.heap.size w4 V ∧ V.cell? ⟨bb, off + u * 4 + 1, none⟩ = some (.int .i64 z1) ∧ V.cell? ⟨w1.heap.size, 2, none⟩ = some (.string ⟨x2.toArray⟩)) V' := fun V V' ⟨a, b, c⟩ d => ⟨bel_trans a d, cell_bel d b, cell_bel d c⟩
                  go_wp2_with fail
                  go_region_held3 (fun V => Below w4.heap.size w4 V ∧ V.cell? ⟨bb, off + u * 4 + 1, none⟩ = some (.int .i64 z1) ∧ V.cell? ⟨w1.heap.size, 2, none⟩ = some (.string ⟨x2.toArray⟩)) (first | exact S0 | exact keepS _ _ (by assumption) (by assumption)) (first | (go_at_call 53; refine (D4 _ (bel_trans B4 (And.left (by assumption)))).mono ?_; rintro e' w' ⟨rfl, b8⟩))
                  rename_i hHeld8
                  have s8 := hHeld8.1
                  have R5 := R4.below s8
                  have B5 := bel_trans B4 s8
                  have r0 := R5.cell 0 _ rfl
                  have r1 := R5.cell 1 _ rfl
                  have r2 := R5.cell 2 _ rfl
                  have g0 := R5.frozen 0
                  have g1 := R5.frozen 1
                  have g2 := R5.frozen 2
                  go_wp2_with fail
                  generalize hW : World.setCell _ _ _ = W
                  have RW : SBox W w.heap.size 69 #[.int .i64 2, .int .i64 (q : Int), .int .i64 m] := by rw [← hW]; exact SBox.put3 R5 _ _ _
                  have BZ : Below w.heap.size w W := by rw [← hW]; exact bel_put3 B5 (Nat.le_refl _) _ _ _
                  exact bodyPost_ret (v := badA (2, (q : Int), m)) (results_row1 Try.results46 _ _ w.heap.size 69 _ (0, 0) _ rfl RW Try.underlying69 rfl size_bad) rfl ⟨rfl, BZ⟩
              · have e4 : (y0 != 4) = true := bne_iff_ne.2 d4
                rw [if_neg d4]
                simp only
                go_enter Try.func46, Try.ntmps46
                go_wp2_with fail
                refine (CC _ B0).mono ?_
                rintro e w1 ⟨rfl, b1⟩
                have R1 := (R0.below b1).alloc (.cells #[.int .i64 x0, .int .i64 x1, .string ⟨x2.toArray⟩, .string ⟨x3.toArray⟩] 48)
                have B1' := bel_trans B0 b1
                have X1 := SBox.new w1 48 #[.int .i64 x0, .int .i64 x1, .string ⟨x2.toArray⟩, .string ⟨x3.toArray⟩]
                have B1 := B1'.alloc B1'.size (.cells #[.int .i64 x0, .int .i64 x1, .string ⟨x2.toArray⟩, .string ⟨x3.toArray⟩] 48)
                have f0 := X1.cell 0 _ rfl
                have f1 := X1.cell 1 _ rfl
                have f2 := X1.cell 2 _ rfl
                have f3 := X1.cell 3 _ rfl
                obtain ⟨s0, s1, s2, s3⟩ := HQ.out q HQ1.out _ B1'
                rw [HX.out] at s0 s1 s2 s3
                simp only at s0 s1 s2 s3
                go_wp2_with fail
                refine (D1 _ B1).mono ?_
                rintro e w2 ⟨rfl, b2⟩
                have R2 := R1.below b2
                have X2 := X1.below b2
                have B2 := bel_trans B1 b2
                clear f0 f1 f2 f3
                have f0 := X2.cell 0 _ rfl
                have f1 := X2.cell 1 _ rfl
                have f2 := X2.cell 2 _ rfl
                have f3 := X2.cell 3 _ rfl
                go_wp2_with fail
                refine (D2 _ B2).mono ?_
                rintro e w3 ⟨rfl, b3⟩
                have R3 := R2.below b3
                have X3 := X2.below b3
                have B3 := bel_trans B2 b3
                clear f0 f1 f2 f3
                have f0 := X3.cell 0 _ rfl
                have f1 := X3.cell 1 _ rfl
                have f2 := X3.cell 2 _ rfl
                have f3 := X3.cell 3 _ rfl
                have m1 := (HQ.out u HU.out _ B3).2.1
                rw [HZ.out] at m1
                go_wp2_with fail
                go_quiet (fail)
                have R13 := R3.below (below_drewN (Below.refl _ w3) nq)
                have B13 := below_drewN B3 nq
                have X13 := X3.below (below_drewN (Below.refl _ w3) nq)
                clear f0 f1 f2 f3
                have f0 := X13.cell 0 _ rfl
                have f1 := X13.cell 1 _ rfl
                have f2 := X13.cell 2 _ rfl
                have f3 := X13.cell 3 _ rfl
                have m11 := (HQ.out u HU.out _ B13).2.1
                rw [HZ.out] at m11
                go_wp2_with fail
                refine (D3 _ B13).mono ?_
                rintro e' w4 ⟨rfl, b4⟩
                have R4 := R13.below b4
                have X4 := X13.below b4
                have B4 := bel_trans B13 b4
                clear f0 f1 f2 f3
                have f0 := X4.cell 0 _ rfl
                have f1 := X4.cell 1 _ rfl
                have f2 := X4.cell 2 _ rfl
                have f3 := X4.cell 3 _ rfl
                have k0 := (HQ.out e HE.out _ B4).1
                rw [HY.out] at k0
                have k1 := (HQ.out u HU.out _ B4).2.1
                rw [HZ.out] at k1
                have r0 := R4.cell 0 _ rfl
                have r1 := R4.cell 1 _ rfl
                have r2 := R4.cell 2 _ rfl
                have g0 := R4.frozen 0
                have g1 := R4.frozen 1
                have g2 := R4.frozen 2
                go_wp2_with fail
                generalize hW : World.setCell _ _ _ = W
                have RW : SBox W w.heap.size 69 #[.int .i64 1, .int .i64 (q : Int), .int .i64 (u : Int)] := by rw [← hW]; exact SBox.put3 R4 _ _ _
                have BZ : Below w.heap.size w W := by rw [← hW]; exact bel_put3 B4 (Nat.le_refl _) _ _ _
                exact bodyPost_ret (v := badA (1, (q : Int), (u : Int))) (results_row1 Try.results46 _ _ w.heap.size 69 _ (0, 0) _ rfl RW Try.underlying69 rfl size_bad) rfl ⟨rfl, BZ⟩
    · have hk := ((lastN_some _ _ _ _ _).1 hl).1
      have HK : Hid (k < h.length) := by show k < _; have := HQ1.out; omega
      have hkn : k < n := by omega
      rw [hl] at D1
      simp only [oI] at D1 ⊢
      have jk : (0 : Int) ≤ (k : Int) := by omega
      obtain ⟨z3, hz⟩ : ∃ z, (ev h k).2.2.2 = z := ⟨_, rfl⟩
      have HZ : Hid ((ev h k).2.2.2 = z3) := hz
      rw [hz]
      clear hl hz hk
      by_cases d : z3 = x3
      · have e1 : (z3 == x3) = true := by rw [d]; exact beq_self_eq_true _
        rw [if_pos d]
        clear d
        go_enter Try.func46, Try.ntmps46
        go_wp2_with fail
        refine (CC _ B0).mono ?_
        rintro e w1 ⟨rfl, b1⟩
        have R1 := (R0.below b1).alloc (.cells #[.int .i64 x0, .int .i64 x1, .string ⟨x2.toArray⟩, .string ⟨x3.toArray⟩] 48)
        have B1' := bel_trans B0 b1
        have X1 := SBox.new w1 48 #[.int .i64 x0, .int .i64 x1, .string ⟨x2.toArray⟩, .string ⟨x3.toArray⟩]
        have B1 := B1'.alloc B1'.size (.cells #[.int .i64 x0, .int .i64 x1, .string ⟨x2.toArray⟩, .string ⟨x3.toArray⟩] 48)
        have f0 := X1.cell 0 _ rfl
        have f1 := X1.cell 1 _ rfl
        have f2 := X1.cell 2 _ rfl
        have f3 := X1.cell 3 _ rfl
        obtain ⟨s0, s1, s2, s3⟩ := HQ.out q HQ1.out _ B1'
        rw [HX.out] at s0 s1 s2 s3
        simp only at s0 s1 s2 s3
        go_wp2_with fail
        refine (D1 _ B1).mono ?_
        rintro e w2 ⟨rfl, b2⟩
        have R2 := R1.below b2
        have X2 := X1.below b2
        have B2 := bel_trans B1 b2
        clear f0 f1 f2 f3
        have f0 := X2.cell 0 _ rfl
        have f1 := X2.cell 1 _ rfl
        have f2 := X2.cell 2 _ rfl
        have f3 := X2.cell 3 _ rfl
        have m3 := (HQ.out k HK.out _ B2).2.2.2
        rw [HZ.out] at m3
        go_wp2_with fail
        go_quiet (fail)
        have R12 := R2.below (below_drewN (Below.refl _ w2) nq)
        have B12 := below_drewN B2 nq
        have X12 := X2.below (below_drewN (Below.refl _ w2) nq)
        clear f0 f1 f2 f3
        have f0 := X12.cell 0 _ rfl
        have f1 := X12.cell 1 _ rfl
        have f2 := X12.cell 2 _ rfl
        have f3 := X12.cell 3 _ rfl
        have r0 := R12.cell 0 _ rfl
        have r1 := R12.cell 1 _ rfl
        have r2 := R12.cell 2 _ rfl
        have g0 := R12.frozen 0
        have g1 := R12.frozen 1
        have g2 := R12.frozen 2
        go_wp2_with fail
        generalize hW : World.setCell _ _ _ = W
        have RW : SBox W w.heap.size 69 #[.int .i64 0, .int .i64 0, .int .i64 0] := by rw [← hW]; exact SBox.put3 R12 _ _ _
        have BZ : Below w.heap.size w W := by rw [← hW]; exact bel_put3 B12 (Nat.le_refl _) _ _ _
        exact bodyPost_ret (v := badA (0, 0, 0)) (results_row1 Try.results46 _ _ w.heap.size 69 _ (0, 0) _ rfl RW Try.underlying69 rfl size_bad) rfl ⟨rfl, BZ⟩
      · have e1 : (z3 == x3) = false := beq_eq_false_iff_ne.2 d
        rw [if_neg d]
        go_enter Try.func46, Try.ntmps46
        go_wp2_with fail
        refine (CC _ B0).mono ?_
        rintro e w1 ⟨rfl, b1⟩
        have R1 := (R0.below b1).alloc (.cells #[.int .i64 x0, .int .i64 x1, .string ⟨x2.toArray⟩, .string ⟨x3.toArray⟩] 48)
        have B1' := bel_trans B0 b1
        have X1 := SBox.new w1 48 #[.int .i64 x0, .int .i64 x1, .string ⟨x2.toArray⟩, .string ⟨x3.toArray⟩]
        have B1 := B1'.alloc B1'.size (.cells #[.int .i64 x0, .int .i64 x1, .string ⟨x2.toArray⟩, .string ⟨x3.toArray⟩] 48)
        have f0 := X1.cell 0 _ rfl
        have f1 := X1.cell 1 _ rfl
        have f2 := X1.cell 2 _ rfl
        have f3 := X1.cell 3 _ rfl
        obtain ⟨s0, s1, s2, s3⟩ := HQ.out q HQ1.out _ B1'
        rw [HX.out] at s0 s1 s2 s3
        simp only at s0 s1 s2 s3
        go_wp2_with fail
        refine (D1 _ B1).mono ?_
        rintro e w2 ⟨rfl, b2⟩
        have R2 := R1.below b2
        have X2 := X1.below b2
        have B2 := bel_trans B1 b2
        clear f0 f1 f2 f3
        have f0 := X2.cell 0 _ rfl
        have f1 := X2.cell 1 _ rfl
        have f2 := X2.cell 2 _ rfl
        have f3 := X2.cell 3 _ rfl
        have m3 := (HQ.out k HK.out _ B2).2.2.2
        rw [HZ.out] at m3
        go_wp2_with fail
        go_quiet (fail)
        have R12 := R2.below (below_drewN (Below.refl _ w2) nq)
        have B12 := below_drewN B2 nq
        have X12 := X2.below (below_drewN (Below.refl _ w2) nq)
        clear f0 f1 f2 f3
        have f0 := X12.cell 0 _ rfl
        have f1 := X12.cell 1 _ rfl
        have f2 := X12.cell 2 _ rfl
        have f3 := X12.cell 3 _ rfl
        have r0 := R12.cell 0 _ rfl
        have r1 := R12.cell 1 _ rfl
        have r2 := R12.cell 2 _ rfl
        have g0 := R12.frozen 0
        have g1 := R12.frozen 1
        have g2 := R12.frozen 2
        go_wp2_with fail
        generalize hW : World.setCell _ _ _ = W
        have RW : SBox W w.heap.size 69 #[.int .i64 3, .int .i64 (q : Int), .int .i64 (k : Int)] := by rw [← hW]; exact SBox.put3 R12 _ _ _
        have BZ : Below w.heap.size w W := by rw [← hW]; exact bel_put3 B12 (Nat.le_refl _) _ _ _
        exact bodyPost_ret (v := badA (3, (q : Int), (k : Int))) (results_row1 Try.results46 _ _ w.heap.size 69 _ (0, 0) _ rfl RW Try.underlying69 rfl size_bad) rfl ⟨rfl, BZ⟩
  · have hcf : countI h i = false := by simpa using hc
    rw [hcf] at CC
    have hA : atI h i = (0, 0, 0) := by
      unfold atI
      by_cases h0 : 0 ≤ i
      · rw [if_pos h0]
        unfold countI at hcf
        rw [decide_eq_true h0, Bool.true_and] at hcf
        unfold atL
        rw [if_pos hcf]
      · rw [if_neg h0]
    rw [hA]
    clear hA hcf hc
    go_enter Try.func46, Try.ntmps46
    go_wp2_with fail
    refine (CC _ B0).mono ?_
    rintro e w1 ⟨rfl, b1⟩
    have R1 := R0.below b1
    have B1 := bel_trans B0 b1
    have r0 := R1.cell 0 _ rfl
    have r1 := R1.cell 1 _ rfl
    have r2 := R1.cell 2 _ rfl
    have g0 := R1.frozen 0
    have g1 := R1.frozen 1
    have g2 := R1.frozen 2
    go_wp2_with fail
    generalize hW : World.setCell _ _ _ = W
    have RW : SBox W w.heap.size 69 #[.int .i64 0, .int .i64 0, .int .i64 0] := by rw [← hW]; exact SBox.put3 R1 _ _ _
    have BZ : Below w.heap.size w W := by rw [← hW]; exact bel_put3 B1 (Nat.le_refl _) _ _ _
    exact bodyPost_ret (v := badA (0, 0, 0)) (results_row1 Try.results46 _ _ w.heap.size 69 _ (0, 0) _ rfl RW Try.underlying69 rfl size_bad) rfl ⟨rfl, BZ⟩
end Go.Proofs.Yteehpkkkagdckaa
namespace Go.Proofs.Yteehpkkkagdckaa
set_option maxRecDepth 100000
open Go.RowKit
set_option linter.unusedVariables false
attribute [local go_sem] ba_size
def badAt (h : List Ev) (i : Nat) : Option Bd := if (atL h i).1 = 0 then none else some (atL h i)
theorem bads_next (h : List Ev) (k : Nat) : (List.range (k + 1)).filterMap (badAt h) = (List.range k).filterMap (badAt h) ++ (badAt h k).toList := by
  rw [List.range_succ, List.filterMap_append]
  cases hl : badAt h k with
  | none => simp [hl]
  | some x => simp [hl]
theorem atI_nat (h : List Ev) (k : Nat) : atI h (k : Int) = atL h k := by unfold atI; rw [if_pos (by omega), Int.toNat_natCast]
set_option maxHeartbeats 2000000 in
theorem rbads_big (h : List Ev) (v : Value) (w : World) (hT : IsEvs w v h) (hle : h.length ≤ 2932031007402) :
    Calls Try.prog 24 #[v] w fun e w' => BdRow 69 w (badsL h) e w' := by
  obtain ⟨i0, hi, hz0, hz1, hz2⟩ := info_parts bad_info
  have C1 := fun (i : Int) W hW => rat_any h v W (hT.below (w' := W) hW) i
  obtain ⟨a, cap, rfl, h1, h2, h3, HC⟩ := hT.reads
  obtain ⟨n, hn⟩ : ∃ n, h.length = n := ⟨_, rfl⟩
  have HN : Hid (h.length = n) := hn
  simp only [hn] at C1
  rw [hn] at h1 h3 hle ⊢
  clear hT hn
  go_enter Try.func24, Try.ntmps24
  go_wp2_with fail
  go_loopw [3, 4] (fun r i wr => ∃ (k c : Nat), k ≤ n ∧ c ≤ k ∧ i = .int .i64 k ∧ Hid (((List.range k).filterMap (badAt h)).length = c) ∧ Below w.heap.size w wr ∧ wr.ownsRow w.heap.size 69 3 r c (recV badV ((List.range k).filterMap (badAt h)))) (fun _ i _ => n - (intOf i).toNat)
  case atStart => exact ⟨0, 0, Nat.zero_le _, Nat.zero_le _, rfl, rfl, Below.refl _ _, World.ownsRow_nil _ _ _ _⟩
  case round =>
    obtain ⟨k, c, hk, hc, rfl, HL, hbw, hrow⟩ := hrel
    by_cases hlt : k < n
    · have D1 := C1 (k : Int)
      rw [atI_nat] at D1
      obtain ⟨⟨y0, y1, y2⟩, hy⟩ : ∃ y, atL h k = y := ⟨_, rfl⟩
      rw [hy] at D1
      by_cases d : y0 = 0
      · have HA : Hid (badAt h k = none) := by show _ = _; unfold badAt; rw [hy, if_pos d]
        have HV : Hid (recV badV ((List.range (k + 1)).filterMap (badAt h)) = recV badV ((List.range k).filterMap (badAt h))) := by show _ = _; rw [bads_next, HA.out, Option.toList_none, List.append_nil]
        have HL' : Hid (((List.range (k + 1)).filterMap (badAt h)).length = c) := by show _ = _; rw [bads_next, HA.out, Option.toList_none, List.append_nil, HL.out]
        have e1 : (y0 != 0) = false := by rw [d]; rfl
        clear d hy
        go_wp2_with fail
        refine (D1 _ hbw).mono ?_
        rintro e w1 ⟨rfl, b1⟩
        have B1 := bel_trans hbw b1
        have O1 := (owns_below hrow b1).alloc (.cells #[.int .i64 y0, .int .i64 y1, .int .i64 y2] 69)
        have B1' := B1.alloc B1.size (.cells #[.int .i64 y0, .int .i64 y1, .int .i64 y2] 69)
        go_wp2_with fail
        refine ⟨?relA, ?meaA⟩
        case relA => exact ⟨k + 1, c, by omega, by omega, by first | go_num | simp, HL', B1', by rw [HV.out]; exact O1⟩
        case meaA => simp [intOf]; omega
      · have HA : Hid (badAt h k = some (y0, y1, y2)) := by show _ = _; unfold badAt; rw [hy, if_neg d]
        have HV : Hid (recV badV ((List.range (k + 1)).filterMap (badAt h)) = recV badV ((List.range k).filterMap (badAt h)) ++ [.int .i64 y0, .int .i64 y1, .int .i64 y2]) := by show _ = _; rw [bads_next, HA.out, recV_append]; rfl
        have HL' : Hid (((List.range (k + 1)).filterMap (badAt h)).length = c + 1) := by show _ = _; rw [bads_next, HA.out, List.length_append, HL.out]; rfl
        have e1 : (y0 != 0) = true := bne_iff_ne.2 d
        obtain ⟨DR, hDR⟩ : ∃ d, recV badV ((List.range k).filterMap (badAt h)) = d := ⟨_, rfl⟩
        rw [hDR] at hrow HV
        clear hDR hy
        go_wp2_with fail
        refine (D1 _ hbw).mono ?_
        rintro e w1 ⟨rfl, b1⟩
        have B1 := bel_trans hbw b1
        have O1 := (owns_below hrow b1).alloc (.cells #[.int .i64 y0, .int .i64 y1, .int .i64 y2] 69)
        have B1' := B1.alloc B1.size (.cells #[.int .i64 y0, .int .i64 y1, .int .i64 y2] 69)
        have sz := B1.size
        go_wp2_with (at_builtin; refine wpList_append_own _ rfl _ _ 40 rfl w.heap.size 69 i0 (.agg #[.int .i64 0, .int .i64 0, .int .i64 0]) 3 24 Try.underlying40 hi hz0 hz1 hz2 rfl (by decide) _ _ _ rfl (O1.alloc _) ⟨w1.heap.size + 1, 0, none⟩ 1 1 [.int .i64 y0, .int .i64 y1, .int .i64 y2] rfl rfl ?d1 ?d2 ?d3 ?d4 ?d5 ?_)
        try
          case d1 =>
            intro j u hj
            match j, hj with
            | 0, hj => simp at hj; subst hj; first | (simp [Addr.add]; done) | exact cell_new7 (by simp) rfl
            | 1, hj => simp at hj; subst hj; first | (simp [Addr.add]; done) | exact cell_new7 (by simp) rfl
            | 2, hj => simp at hj; subst hj; first | (simp [Addr.add]; done) | exact cell_new7 (by simp) rfl
        try
          case d2 => first | exact badV_one (y0, y1, y2) | exact ⟨rfl, rfl, rfl⟩
        try
          case d3 => unfold maxLen; omega
        try
          case d4 => omega
        try
          case d5 => first | (simp; done) | (simp; omega)
        intro v' w3 own3 g3 _
        have B3 : Below w.heap.size w w3 := (B1'.alloc B1'.size _).grown g3 (by have := B1'.size; simp at this ⊢; omega) (fun j hj => (hrow.lt j hj).1)
        go_wp2_with fail
        refine ⟨?relB, ?meaB⟩
        case relB => exact ⟨k + 1, c + 1, by omega, by omega, by first | go_num | simp, HL', B3, by rw [HV.out]; exact own3⟩
        case meaB => simp [intOf]; omega
    · obtain rfl : k = n := by omega
      have HE : Hid (badsL h = (List.range k).filterMap (badAt h)) := by show badsL h = _; unfold badsL; rw [HN.out]; rfl
      go_wp2_with fail
      go_ret
      refine ⟨_, rfl, hbw, ?_⟩
      rw [HE.out, HL.out]
      exact hrow
theorem rbads_any (h : List Ev) (v : Value) (w : World) (hT : IsEvs w v h) (hle : h.length ≤ 300) :
    Calls Try.prog 24 #[v] w fun e w' => BdRow 69 w (badsL h) e w' := rbads_big h v w hT (by omega)
set_option maxHeartbeats 2000000 in
theorem router_any (h : List Ev) (v : Value) (w : World) (hT : IsEvs w v h) (i : Int) :
    Calls Try.prog 32 #[v, .int .i64 i] w fun e w' => e = .returned (.bool (outerI h i)) ∧ Below w.heap.size w w' := by
  have CC := fun W hW => rcounts_any h v W (hT.below (w' := W) hW) i
  have C2 := fun (t : Int) (k : List UInt8) (b : Int) W hW => rlast_any h v W (hT.below (w' := W) hW) t k b
  obtain ⟨a, cap, rfl, h1, h2, h3, HC⟩ := hT.reads
  obtain ⟨n, hn⟩ : ∃ n, h.length = n := ⟨_, rfl⟩
  have HN : Hid (h.length = n) := hn
  simp only [hn] at CC C2
  rw [hn] at h1 h3 ⊢
  clear hT hn
  by_cases hc : countI h i = true
  · rw [hc] at CC
    have hi0 : 0 ≤ i ∧ countsB h i.toNat = true := by
      unfold countI at hc
      rw [Bool.and_eq_true, decide_eq_true_eq] at hc
      exact hc
    obtain ⟨q, rfl⟩ : ∃ q : Nat, i = (q : Int) := ⟨i.toNat, by omega⟩
    have hcq : countsB h q = true := by have := hi0.2; rwa [Int.toNat_natCast] at this
    have hA : outerI h (q : Int) = decide (lastN h (ev h q).2.1 (ev h q).2.2.1 q = none) := by unfold outerI outerB; rw [Int.toNat_natCast, hcq, decide_eq_true (by omega)]; simp
    rw [hA]
    have hcl := (counts_iff h q).1 hcq
    have HQ1 : Hid (q < h.length) := hcl.1
    have hqn : q < n := by have := HN.out; have := HQ1.out; omega
    obtain ⟨bb, off, rfl, HQ⟩ := HC.out (by have := HQ1.out; omega)
    obtain ⟨⟨x0, x1, x2, x3⟩, hx⟩ : ∃ x, ev h q = x := ⟨_, rfl⟩
    have HX : Hid (ev h q = (x0, x1, x2, x3)) := hx
    simp only [hx]
    have D1 := C2 x1 x2 (q : Int)
    rw [last_upto h x1 x2 q (by have := HQ1.out; omega)] at D1
    clear hx hcl hcq hi0 hc hA
    rcases hl : lastN h x1 x2 q with _ | k
    · rw [hl] at D1
      simp only [oI] at D1
      rw [decide_eq_true (by rfl)]
      clear hl
      go_enter Try.func32, Try.ntmps32
      go_wp2_with fail
      refine (CC _ (Below.refl _ _)).mono ?_
      rintro e w1 ⟨rfl, b1⟩
      obtain ⟨s0, s1, s2, s3⟩ := HQ.out q HQ1.out _ b1
      rw [HX.out] at s0 s1 s2 s3
      simp only at s0 s1 s2 s3
      have S0 : (fun V => Below w1.heap.size w1 V ∧ V.cell? ⟨bb, off + q * 4 + 1, none⟩ = some (.int .i64 x1) ∧ V.cell? ⟨bb, off + q * 4 + 2, none⟩ = some (.string ⟨x2.toArray⟩)) (w1).drew := ⟨(Below.refl _ _).drew, s1, s2⟩
      have keepS : ∀ V V' : World, (fun V => Below w1.heap.size w1 V ∧ V.cell? ⟨bb, off + q * 4 + 1, none⟩ = some (.int .i64 x1) ∧ V.cell? ⟨bb, off + q * 4 + 2, none⟩ = some (.string ⟨x2.toArray⟩)) V → Below V.heap.size V V' → (fun V => Below w1.heap.size w1 V ∧ V.cell? ⟨bb, off + q * 4 + 1, none⟩ = some (.int .i64 x1) ∧ V.cell? ⟨bb, off + q * 4 + 2, none⟩ = some (.string ⟨x2.toArray⟩)) V' := fun V V' ⟨a, b, c⟩ d => ⟨bel_trans a d, cell_bel d b, cell_bel d c⟩
      go_wp2_with fail
      go_region_held3 (fun V => Below w1.heap.size w1 V ∧ V.cell? ⟨bb, off + q * 4 + 1, none⟩ = some (.int .i64 x1) ∧ V.cell? ⟨bb, off + q * 4 + 2, none⟩ = some (.string ⟨x2.toArray⟩)) (first | exact S0 | exact keepS _ _ (by assumption) (by assumption)) (first | (go_at_call 53; refine (D1 _ (bel_trans b1 (And.left (by assumption)))).mono ?_; rintro e' w' ⟨rfl, b8⟩))
      go_wp2_with fail
      go_ret
      exact ⟨rfl, bel_trans b1 (And.left (by assumption))⟩
    · rw [hl] at D1
      simp only [oI] at D1
      have jk : ¬ (k : Int) < 0 := by omega
      rw [decide_eq_false (by simp)]
      clear hl
      go_enter Try.func32, Try.ntmps32
      go_wp2_with fail
      refine (CC _ (Below.refl _ _)).mono ?_
      rintro e w1 ⟨rfl, b1⟩
      obtain ⟨s0, s1, s2, s3⟩ := HQ.out q HQ1.out _ b1
      rw [HX.out] at s0 s1 s2 s3
      simp only at s0 s1 s2 s3
      have S0 : (fun V => Below w1.heap.size w1 V ∧ V.cell? ⟨bb, off + q * 4 + 1, none⟩ = some (.int .i64 x1) ∧ V.cell? ⟨bb, off + q * 4 + 2, none⟩ = some (.string ⟨x2.toArray⟩)) (w1).drew := ⟨(Below.refl _ _).drew, s1, s2⟩
      have keepS : ∀ V V' : World, (fun V => Below w1.heap.size w1 V ∧ V.cell? ⟨bb, off + q * 4 + 1, none⟩ = some (.int .i64 x1) ∧ V.cell? ⟨bb, off + q * 4 + 2, none⟩ = some (.string ⟨x2.toArray⟩)) V → Below V.heap.size V V' → (fun V => Below w1.heap.size w1 V ∧ V.cell? ⟨bb, off + q * 4 + 1, none⟩ = some (.int .i64 x1) ∧ V.cell? ⟨bb, off + q * 4 + 2, none⟩ = some (.string ⟨x2.toArray⟩)) V' := fun V V' ⟨a, b, c⟩ d => ⟨bel_trans a d, cell_bel d b, cell_bel d c⟩
      go_wp2_with fail
      go_region_held3 (fun V => Below w1.heap.size w1 V ∧ V.cell? ⟨bb, off + q * 4 + 1, none⟩ = some (.int .i64 x1) ∧ V.cell? ⟨bb, off + q * 4 + 2, none⟩ = some (.string ⟨x2.toArray⟩)) (first | exact S0 | exact keepS _ _ (by assumption) (by assumption)) (first | (go_at_call 53; refine (D1 _ (bel_trans b1 (And.left (by assumption)))).mono ?_; rintro e' w' ⟨rfl, b8⟩))
      go_wp2_with fail
      go_ret
      exact ⟨rfl, bel_trans b1 (And.left (by assumption))⟩
  · have hcf : countI h i = false := by simpa using hc
    rw [hcf] at CC
    have hA : outerI h i = false := by
      unfold outerI outerB
      unfold countI at hcf
      rw [← Bool.and_assoc, hcf, Bool.false_and]
    rw [hA]
    clear hA hcf hc
    go_enter Try.func32, Try.ntmps32
    go_wp2_with fail
    refine (CC _ (Below.refl _ _)).mono ?_
    rintro e w1 ⟨rfl, b1⟩
    go_wp2_with fail
    go_quiet (fail)
    go_wp2_with fail
    go_ret
    exact ⟨rfl, below_drewN b1 _⟩
end Go.Proofs.Yteehpkkkagdckaa
