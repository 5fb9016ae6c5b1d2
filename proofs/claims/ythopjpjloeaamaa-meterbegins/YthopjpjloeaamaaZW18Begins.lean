/-
  The walk of MeterBegins.
-/
import Derived.Test.YthopjpjloeaamaaZShown18
import Derived.BigQuiet
import Derived.Deep.QuietTactic
namespace Go.Proofs.Ythopjpjloeaamaa
set_option maxRecDepth 100000
open Go.RowKit
set_option linter.unusedVariables false
attribute [local go_sem] ba_size
set_option maxHeartbeats 4000000 in
theorem begins18_walk (now : Int) (hnow : 0 ≤ now ∧ now ≤ 18446744073709551615) (V0 : Value) (L : List Int) (m : Int) (w : World) (hL : IsInts w V0 L) :
    Calls Try.prog 8 #[.int .u64 now, V0, .int .i64 m] w fun e w' => e = .returned (.bool true) ∧ Below w.heap.size w w' := by
  obtain ⟨a, cap, rfl, hq1, hq2, hb1, HC⟩ := hL.some_at
  obtain ⟨n, hn⟩ : ∃ n, L.length = n := ⟨_, rfl⟩
  have HN := Lib.hid hn
  have HL := Lib.hid hL
  clear hL HC
  by_cases h1 : m < 0
  · rw [hn] at hb1 hq1 ⊢
    clear hn HL HN
    go_enter Try.func8, Try.ntmps8
    go_wp2_with fail
    refine (shown18_any _).mono ?_
    rintro e W1 ⟨rfl, b1⟩
    go_wp2_with fail
    go_ret
    exact ⟨rfl, b1⟩
  obtain ⟨q, rfl⟩ : ∃ q : Nat, m = q := ⟨m.toNat, by omega⟩
  by_cases h2 : (n : Int) < (q : Int)
  · rw [hn] at hb1 hq1 ⊢
    clear hn HL HN
    go_enter Try.func8, Try.ntmps8
    go_wp2_with fail
    refine (shown18_any _).mono ?_
    rintro e W1 ⟨rfl, b1⟩
    go_wp2_with fail
    go_ret
    exact ⟨rfl, b1⟩
  have hq : q ≤ n := by omega
  have HT : Hid (IsInts w (.slice a q cap) (L.take q)) := IsRec.take HL.out q (by omega)
  rw [hn] at hb1 hq1 HL ⊢
  clear hn
  go_enter Try.func8, Try.ntmps8
  go_wp2_with fail
  refine (shown18_any _).mono ?_
  rintro e W1 ⟨rfl, b1⟩
  go_wp2_with fail
  refine (pspend18_any now hnow _ L _ (HL.out.below b1)).mono ?_
  rintro e W2 ⟨v1, rfl, b2, i1⟩
  have B2 := b1.trans (b2.mono b1.size)
  clear b1 b2
  have qc : q ≤ cap := by omega
  go_wp2_with fail
  refine (pspend18_any now hnow _ (L.take q) _ (HT.out.below B2)).mono ?_
  rintro e W3 ⟨v2, rfl, b3, i2⟩
  replace i1 := i1.below b3
  have B3 := B2.trans (b3.mono B2.size)
  rw [spnM_take] at i2
  obtain ⟨S, hS⟩ : ∃ S, spnM now (now, 150) L = S := ⟨_, rfl⟩
  have hSn : S.length = n := by rw [← hS, spnM_length]; exact HN.out
  have hTn : (S.take q).length = q := by rw [List.length_take]; omega
  have HSN := Lib.hid hSn
  have HTN := Lib.hid hTn
  rw [hS] at i1 i2
  obtain ⟨a1, cap1, rfl, hq3, hq4, _, HC⟩ := i1.some_at
  obtain ⟨a2, cap2, rfl, hq5, hq6, _, HD⟩ := i2.some_at
  rw [hSn] at hq3 ⊢
  rw [hTn] at hq5 ⊢
  clear hS hSn hTn i1 i2 b3 B2 HT HL h1 h2
  have g0 : ((n : Int) != (n : Int)) = false := by simp
  have g1 : ((q : Int) != (q : Int)) = false := by simp
  go_wp2_with fail
  go_loopw [10] (fun i wr => ∃ k : Nat, k ≤ q ∧ i = .int .i64 k ∧ Below W3.heap.size W3 wr) (fun i _ => q - (intOf i).toNat)
  case atStart => exact ⟨0, Nat.zero_le _, rfl, Below.refl _ _⟩
  case round =>
    obtain ⟨k, hk, rfl, hbw⟩ := hrel
    by_cases hlt : k < q
    · have hk1 : k < S.length := by rw [HSN.out]; omega
      have hk2 : k < (S.take q).length := by rw [HTN.out]; exact hlt
      obtain ⟨x1, o1, rfl, hx1, p1⟩ := HC.out k hk1
      obtain ⟨x2, o2, rfl, hx2, p2⟩ := HD.out k hk2
      have q1 : wr.cell? ⟨x1, o1 + k, none⟩ = some (.bool S[k]) := (hbw.cell (p := ⟨x1, o1 + k, none⟩) hx1).trans (by simpa using p1 0 _ rfl)
      have q2 : wr.cell? ⟨x2, o2 + k, none⟩ = some (.bool (S.take q)[k]) := (hbw.cell (p := ⟨x2, o2 + k, none⟩) hx2).trans (by simpa using p2 0 _ rfl)
      rw [List.getElem_take] at q2
      obtain ⟨r, hr⟩ : ∃ r, S[k] = r := ⟨_, rfl⟩
      rw [hr] at q1 q2
      have e0 : (r != r) = false := by simp
      have hkn : k < n := by omega
      clear p1 p2 hr
      go_wp2_with fail
      go_quiet (fail)
      go_wp2_with fail
      refine ⟨⟨k + 1, by omega, by first | go_num | simp, below_drewN hbw _⟩, by simp [intOf]; omega⟩
    · obtain rfl : k = q := by omega
      have jq : ¬ (k : Int) < (k : Int) := by omega
      have BZ := B3.trans (hbw.mono B3.size)
      go_wp2_with fail
      go_ret
      exact ⟨rfl, BZ⟩
end Go.Proofs.Ythopjpjloeaamaa
