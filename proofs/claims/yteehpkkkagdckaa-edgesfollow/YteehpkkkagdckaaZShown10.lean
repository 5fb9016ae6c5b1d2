/-
  What cartouchelaw10.shown and few answer.
-/
import Derived.Test.YteehpkkkagdckaaGE
namespace Go.Proofs.Yteehpkkkagdckaa
set_option maxRecDepth 100000
open Go.RowKit
set_option linter.unusedVariables false
attribute [local go_sem] ba_size
abbrev sh10 : List Ev := [(1, 1, [], []), (1, 2, [], []), (2, 2, [97], []), (3, 1, [97], [120]), (4, 1, [], []), (4, 2, [], [])]
theorem sh10_all : edgesL sh10 = [(3, 2, 1, 2, 3)] := by decide +kernel
theorem own_lit10 (w : World) (e n : Nat) (L : List Ev) (hn : L.length = n) (hs : n ≤ 1000) : (w.alloc (.cells (recV evV L).toArray e)).ownsRow w.heap.size e 4 (.slice (some ⟨w.heap.size, 0, none⟩) n n) n (recV evV L) :=
  ⟨by rw [recV_length evV_len, hn], .inr ⟨w.heap.size, n, _, rfl, Nat.le_refl _, SBox.new w e _, Nat.le_refl _, by unfold maxLen; omega, by rw [List.size_toArray, recV_length evV_len, hn], by rw [List.toList_toArray, List.take_of_length_le (by rw [recV_length evV_len, hn]; exact Nat.le_refl _)]⟩⟩
set_option maxHeartbeats 1000000 in
theorem shown10_any (C : P10C) (w : World) : Calls Try.prog 10 #[] w fun e w' => e = .returned (.bool true) ∧ Below w.heap.size w w' := by
  have O1 : (w.alloc (.cells #[.int .i64 1, .int .i64 1, .string ⟨#[]⟩, .string ⟨#[]⟩, .int .i64 1, .int .i64 2, .string ⟨#[]⟩, .string ⟨#[]⟩, .int .i64 2, .int .i64 2, .string ⟨#[97]⟩, .string ⟨#[]⟩, .int .i64 3, .int .i64 1, .string ⟨#[97]⟩, .string ⟨#[120]⟩, .int .i64 4, .int .i64 1, .string ⟨#[]⟩, .string ⟨#[]⟩, .int .i64 4, .int .i64 2, .string ⟨#[]⟩, .string ⟨#[]⟩] 48)).ownsRow w.heap.size 48 4 (.slice (some ⟨w.heap.size, 0, none⟩) 6 6) 6 (recV evV sh10) := own_lit10 w 48 6 sh10 rfl (by omega)
  have T1 := IsRec.own (L := sh10) evV_len (by omega) O1 (by omega)
  have B1 := (Below.refl w.heap.size w).alloc (Nat.le_refl _) (.cells #[.int .i64 1, .int .i64 1, .string ⟨#[]⟩, .string ⟨#[]⟩, .int .i64 1, .int .i64 2, .string ⟨#[]⟩, .string ⟨#[]⟩, .int .i64 2, .int .i64 2, .string ⟨#[97]⟩, .string ⟨#[]⟩, .int .i64 3, .int .i64 1, .string ⟨#[97]⟩, .string ⟨#[120]⟩, .int .i64 4, .int .i64 1, .string ⟨#[]⟩, .string ⟨#[]⟩, .int .i64 4, .int .i64 2, .string ⟨#[]⟩, .string ⟨#[]⟩] 48)
  have A1 := C.all sh10 _ _ T1 (by unfold goodE; simp) (by simp)
  rw [sh10_all] at A1
  clear O1 T1
  go_enter Try.func10, Try.ntmps10
  go_wp2_with fail
  refine A1.mono ?_
  rintro e w1 ⟨v, rfl, b1, o1⟩
  have B2 := bel_trans B1 b1
  have T2 : IsEds w1 v [(3, 2, 1, 2, 3)] := IsRec.own (L := [(3, 2, 1, 2, 3)]) edV_len (by omega) o1 (by simp)
  obtain ⟨a, cap, rfl, h1, h2, h3, HC⟩ := T2.reads
  obtain ⟨bb, off, rfl, HQ⟩ := HC.out (by simp)
  obtain ⟨c0, c1, c2, c3, c4⟩ := HQ.out 0 (by simp) _ (Below.refl _ _)
  simp only [Nat.zero_mul, Nat.add_zero, List.getElem_cons_zero] at c0 c1 c2 c3 c4
  simp only [List.length_cons, List.length_nil] at h1
  clear HC HQ T2 o1
  go_wp2_with fail
  go_ret
  exact ⟨rfl, B2⟩
set_option maxHeartbeats 1000000 in
theorem few10_any (v : Value) (h : List Ev) (w : World) (hT : IsEvs w v h) : Calls Try.prog 11 #[v] w fun e w' => e = .returned (.bool (decide (fewH h))) ∧ Below w.heap.size w w' := by
  obtain ⟨a, cap, rfl, h1, h2, h3, HC⟩ := hT.reads
  obtain ⟨n, hn⟩ : ∃ n, h.length = n := ⟨_, rfl⟩
  have HN : Hid (h.length = n) := hn
  obtain ⟨fb, hfb⟩ : ∃ fb, decide (fewH h) = fb := ⟨_, rfl⟩
  have HB : Hid (decide (fewH h) = fb) := hfb
  rw [hfb]
  rw [hn] at h1 h3 ⊢
  clear hT hn hfb
  go_enter Try.func11, Try.ntmps11
  go_wp2_with fail
  go_loopw [3] (fun i wr => ∃ k : Nat, k ≤ n ∧ i = .int .i64 k ∧ Hid (∀ j, j < k → 0 ≤ (ev h j).2.1 ∧ (ev h j).2.1 ≤ 99) ∧ Below w.heap.size w wr) (fun i _ => n - (intOf i).toNat)
  case atStart => exact ⟨0, Nat.zero_le _, rfl, (fun j hj => by omega), Below.refl _ _⟩
  case round =>
    obtain ⟨k, hk, rfl, HA, hbw⟩ := hrel
    by_cases hlt : k < n
    · have hk1 : k < h.length := by have := HN.out; omega
      have jk : (k : Int) < (n : Int) := by omega
      obtain ⟨bb, off, rfl, HQ⟩ := HC.out (by omega)
      obtain ⟨_, c1, _, _⟩ := HQ.out k hk1 _ hbw
      obtain ⟨t, ht⟩ : ∃ t, (ev h k).2.1 = t := ⟨_, rfl⟩
      rw [ht] at c1
      have HT : Hid ((ev h k).2.1 = t) := ht
      clear ht
      by_cases d0 : t < 0
      · have HF : Hid (decide (fewH h) = false) := decide_eq_false (fun hh => by have := (hh.1 _ (List.getElem_mem hk1)).1; rw [← ev_get h k hk1, HT.out] at this; omega)
        go_wp2_with fail
        go_ret
        exact ⟨by rw [← HB.out, HF.out]; rfl, hbw⟩
      · by_cases d1 : 99 < t
        · have HF : Hid (decide (fewH h) = false) := decide_eq_false (fun hh => by have := (hh.1 _ (List.getElem_mem hk1)).2; rw [← ev_get h k hk1, HT.out] at this; omega)
          go_wp2_with fail
          go_ret
          exact ⟨by rw [← HB.out, HF.out]; rfl, hbw⟩
        · have HA2 : Hid (∀ j, j < k + 1 → 0 ≤ (ev h j).2.1 ∧ (ev h j).2.1 ≤ 99) := fun j hj => by
            rcases Nat.lt_or_ge j k with hj2 | hj2
            · exact HA.out j hj2
            · obtain rfl : j = k := by omega
              rw [HT.out]
              omega
          go_wp2_with fail
          refine ⟨⟨k + 1, by omega, by first | go_num | simp, HA2, hbw⟩, by simp [intOf]; omega⟩
    · obtain rfl : k = n := by omega
      have jk : ¬ (k : Int) < (k : Int) := by omega
      by_cases d : k ≤ 120
      · have HF : Hid (decide (fewH h) = true) := decide_eq_true ⟨fun x hx => by
          obtain ⟨j, hj, rfl⟩ := List.getElem_of_mem hx
          rw [← ev_get h j hj]
          exact HA.out j (by rw [← HN.out]; exact hj), by rw [HN.out]; exact d⟩
        have j2 : (k : Int) ≤ 120 := by omega
        go_wp2_with fail
        go_ret
        exact ⟨by rw [← HB.out, HF.out]; rfl, hbw⟩
      · have HF : Hid (decide (fewH h) = false) := decide_eq_false (fun hh => d (by rw [← HN.out]; exact hh.2))
        have j2 : ¬ (k : Int) ≤ 120 := by omega
        go_wp2_with fail
        go_ret
        exact ⟨by rw [← HB.out, HF.out]; rfl, hbw⟩
end Go.Proofs.Yteehpkkkagdckaa
