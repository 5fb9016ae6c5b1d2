/-
  The walk of MeterMost.
-/
import Derived.Test.YthopjpjloeaamaaZShown18
import Derived.Test.YthopjpjloeaamaaZChg18
namespace Go.Proofs.Ythopjpjloeaamaa
set_option maxRecDepth 100000
open Go.RowKit
set_option linter.unusedVariables false
attribute [local go_sem] ba_size
/-- What is left, cost by cost. -/
def leftK (now : Int) (L : List Int) (k : Nat) : Int := leftM (endM now (now, 150) (L.take k)) now
theorem leftK_in (now : Int) (L : List Int) (k : Nat) : 0 ≤ leftK now L k ∧ leftK now L k ≤ 150 := by
  have h0 : leftM (now, 150) now = 150 := by
    show (if now < now then 150 else (150 : Int)) = 150
    rw [if_neg (by omega)]
  have := endM_left now (now, 150) (L.take k) (by omega)
  rw [h0] at this
  exact this
theorem leftK_yes {now : Int} {L : List Int} {k : Nat} (hk : k < L.length) (h : (spnM now (now, 150) L)[k]? = some true) : 0 ≤ L[k] ∧ L[k] ≤ leftK now L k ∧ leftK now L (k + 1) = leftK now L k - L[k] := by
  have e := spnM_at hk now (now, 150)
  rw [spnM_take] at e
  have e2 := congrArg (fun l => l[k]?) e
  have hk2 : ((spnM now (now, 150) (L.take k))).length = k := by rw [spnM_length, List.length_take]; omega
  simp only [List.getElem?_take_of_lt (Nat.lt_succ_self k), h] at e2
  rw [List.getElem?_append_right (by omega), hk2, Nat.sub_self] at e2
  have e3 : (chgM (endM now (now, 150) (L.take k)) now L[k]).2 = 0 := by simpa using e2
  obtain ⟨y1, y2, y3, y4⟩ := chg_yes e3
  refine ⟨y1, y2, ?_⟩
  show leftM (endM now (now, 150) (L.take (k + 1))) now = _
  rw [endM_at hk, y3]
  exact y4
theorem leftK_no {now : Int} {L : List Int} {k : Nat} (hk : k < L.length) (h : (spnM now (now, 150) L)[k]? = some false) : leftK now L (k + 1) = leftK now L k := by
  have e := spnM_at hk now (now, 150)
  rw [spnM_take] at e
  have e2 := congrArg (fun l => l[k]?) e
  have hk2 : ((spnM now (now, 150) (L.take k))).length = k := by rw [spnM_length, List.length_take]; omega
  simp only [List.getElem?_take_of_lt (Nat.lt_succ_self k), h] at e2
  rw [List.getElem?_append_right (by omega), hk2, Nat.sub_self] at e2
  have e3 : ¬ (chgM (endM now (now, 150) (L.take k)) now L[k]).2 = 0 := by simpa using e2
  show leftM (endM now (now, 150) (L.take (k + 1))) now = _
  rw [endM_at hk, chg_no e3]
  rfl
set_option maxHeartbeats 4000000 in
theorem most18_walk (now : Int) (hnow : 0 ≤ now ∧ now ≤ 18446744073709551615) (V0 : Value) (L : List Int) (w : World) (hL : IsInts w V0 L) :
    Calls Try.prog 5 #[.int .u64 now, V0] w fun e w' => e = .returned (.bool true) ∧ Below w.heap.size w w' := by
  obtain ⟨a, cap, rfl, hq1, hq2, hb1, HC⟩ := hL.some_at
  obtain ⟨n, hn⟩ : ∃ n, L.length = n := ⟨_, rfl⟩
  have HN := Lib.hid hn
  have HL : Hid (IsInts w (.slice a n cap) L) := by rw [hn] at hL; exact hL
  rw [hn] at hb1 hq1 ⊢
  clear hL hn
  go_enter Try.func5, Try.ntmps5
  go_wp2_with fail
  refine (shown18_any _).mono ?_
  rintro e W1 ⟨rfl, b1⟩
  go_wp2_with fail
  refine (pspend18_any now hnow _ L _ (HL.out.below b1)).mono ?_
  rintro e W2 ⟨v1, rfl, b2, h1⟩
  have BW := b1.trans (b2.mono b1.size)
  obtain ⟨S, hS⟩ : ∃ S, spnM now (now, 150) L = S := ⟨_, rfl⟩
  have HS := Lib.hid hS
  have hSn : S.length = n := by rw [← hS, spnM_length]; exact HN.out
  have HSN := Lib.hid hSn
  rw [hS] at h1
  obtain ⟨a1, cap1, rfl, hq3, hq4, _, HD⟩ := h1.some_at
  rw [hSn] at hq3 ⊢
  clear hS hSn h1 b1 b2
  have g0 : ((n : Int) != (n : Int)) = false := by simp
  have h0 : leftK now L 0 = 150 := by
    show (if now < now then 150 else (150 : Int)) = 150
    rw [if_neg (by omega)]
  go_wp2_with fail
  go_loopw [7, 8] (fun l i wr => ∃ k : Nat, k ≤ n ∧ i = .int .i64 k ∧ l = .int .i64 (leftK now L k) ∧ Below W2.heap.size W2 wr) (fun _ i _ => n - (intOf i).toNat)
  case atStart => exact ⟨0, Nat.zero_le _, rfl, by rw [h0], Below.refl _ _⟩
  case round =>
    obtain ⟨k, hk, rfl, rfl, hbw⟩ := hrel
    by_cases hlt : k < n
    · have hk1 : k < L.length := by rw [HN.out]; exact hlt
      have hk2 : k < S.length := by rw [HSN.out]; exact hlt
      obtain ⟨x1, o1, rfl, hx1, p1⟩ := HC.out k hk1
      obtain ⟨x2, o2, rfl, hx2, p2⟩ := HD.out k hk2
      have q1 : wr.cell? ⟨x1, o1 + k, none⟩ = some (.int .i64 L[k]) := ((BW.trans (hbw.mono BW.size)).cell (p := ⟨x1, o1 + k, none⟩) hx1).trans (by simpa using p1 0 _ rfl)
      have q2 : wr.cell? ⟨x2, o2 + k, none⟩ = some (.bool S[k]) := (hbw.cell (p := ⟨x2, o2 + k, none⟩) hx2).trans (by simpa using p2 0 _ rfl)
      obtain ⟨r, hr⟩ : ∃ r, S[k] = r := ⟨_, rfl⟩
      have hr2 : (spnM now (now, 150) L)[k]? = some r := by rw [HS.out, List.getElem?_eq_getElem hk2, hr]
      rw [hr] at q2
      have hlk := leftK_in now L k
      clear p1 p2 hr
      cases r with
      | true =>
        obtain ⟨y1, y2, y3⟩ := leftK_yes hk1 hr2
        have HY := Lib.hid y3
        obtain ⟨c, hc⟩ : ∃ c, L[k] = c := ⟨_, rfl⟩
        obtain ⟨x, hx⟩ : ∃ c, leftK now L k = c := ⟨_, rfl⟩
        rw [hc, hx] at HY
        rw [hc] at q1 y1 y2
        rw [hx] at y2 hlk ⊢
        have g1 : ¬ c < 0 := by omega
        have g2 : ¬ x < c := by omega
        have z1 : wrap64 (x - c) = x - c := by unfold wrap64; omega
        clear hr2 hc hx y1 y2 y3 hlk
        go_wp2_with fail
        refine ⟨⟨k + 1, by omega, by first | go_num | simp, by rw [HY.out, z1], hbw⟩, by simp [intOf]; omega⟩
      | false =>
        have HY := Lib.hid (leftK_no hk1 hr2)
        clear hr2 hlk
        obtain ⟨c, hc⟩ : ∃ c, L[k] = c := ⟨_, rfl⟩
        obtain ⟨x, hx⟩ : ∃ c, leftK now L k = c := ⟨_, rfl⟩
        rw [hx] at HY ⊢
        clear hc hx
        go_wp2_with fail
        refine ⟨⟨k + 1, by omega, by first | go_num | simp, by rw [HY.out], hbw⟩, by simp [intOf]; omega⟩
    · obtain rfl : k = n := by omega
      have jq : ¬ (k : Int) < (k : Int) := by omega
      have hlk := leftK_in now L k
      obtain ⟨x, hx⟩ : ∃ c, leftK now L k = c := ⟨_, rfl⟩
      rw [hx] at hlk ⊢
      clear hx
      obtain ⟨g1, g2⟩ := hlk
      have BZ := BW.trans (hbw.mono BW.size)
      go_wp2_with fail
      go_ret
      exact ⟨rfl, BZ⟩
end Go.Proofs.Ythopjpjloeaamaa
