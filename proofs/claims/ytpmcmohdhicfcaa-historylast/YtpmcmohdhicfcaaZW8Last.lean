/-
  The walk of HistoryLast.
-/
import Derived.Test.YtpmcmohdhicfcaaZShown8
import Derived.Test.YtpmcmohdhicfcaaGE
import Derived.Deep.RegionHeld3
import Derived.BigQuiet
import Derived.Deep.QuietTactic
namespace Go.Proofs.Ytpmcmohdhicfcaa
set_option maxRecDepth 100000
open Go.RowKit
set_option linter.unusedVariables false
attribute [local go_sem] ba_size ba_append ba_get ba_extract
set_option maxHeartbeats 4000000 in
theorem last8_walk (C : P8C) (w : World) (vh : Value) (h : List Ev) (Th : IsEvs w vh h) (Gh : ∀ x ∈ h, goodE x) (t : Int) (gt : goodI t) (key : List UInt8) (lkey : key.length ≤ 140737488351232) (before : Int) (gbefore : goodI before) :
    Calls Try.prog 10 #[.agg #[vh, .int .i64 t, .string ⟨key.toArray⟩, .int .i64 before]] w fun e w' => e = .returned (.bool true) ∧ Below w.heap.size w w' := by
  have HSh : Hid (∀ W, Below w.heap.size w W → Calls Try.prog 11 #[] W fun e w' => e = .returned (.bool true) ∧ Below W.heap.size W w') := fun W h => shown8_any C W
  have HF : Hid (∀ W, Below w.heap.size w W → Calls Try.prog 12 #[vh] W fun e w' => e = .returned (.bool (decide (h.length ≤ 300))) ∧ Below W.heap.size W w') := fun W hb => few8_any vh h W (Th.below hb)
  by_cases h1 : h.length ≤ 300
  · rw [decide_eq_true h1] at HF
    have HA : Hid (∀ W, Below w.heap.size w W → Calls Try.prog 28 #[vh, .int .i64 t, .string ⟨key.toArray⟩, .int .i64 before] W fun e w' => e = .returned (.int .i64 (oI (lastL h t key before))) ∧ Below W.heap.size W w') := fun W hb => C.last h vh W t key before (Th.below hb) Gh h1 gt lkey gbefore
    obtain ⟨ah, ch, rfl, ih, jh, kh, HCh⟩ := Th.reads
    obtain ⟨n, hn⟩ : ∃ n, h.length = n := ⟨_, rfl⟩
    have HN : Hid (h.length = n) := hn
    simp only [hn] at HF HA h1 ih kh ⊢
    clear hn
    rcases hl : lastL h t key before with _ | m
    · have HNo : Hid (∀ j, 0 ≤ j → j < h.length → (j : Int) < before → ¬ ((ev h j).1 = 3 ∧ (ev h j).2.1 = t ∧ (ev h j).2.2.1 = key)) := fun j _ hj hb => by
        unfold lastL at hl
        exact (lastN_none _ _ _ _).1 hl j (by rw [Nat.min_def]; split <;> omega)
      rw [hl] at HA
      simp only [oI] at HA
      clear hl
      have jn : ¬ (n : Int) ≤ -1 := by omega
      have XW := SBox.new w 54 #[.slice ah n ch, .int .i64 t, .string ⟨key.toArray⟩, .int .i64 before]
      have B_w := (Below.refl w.heap.size w).alloc (Nat.le_refl _) (.cells #[.slice ah n ch, .int .i64 t, .string ⟨key.toArray⟩, .int .i64 before] 54)
      have n0 := XW.cell 0 _ rfl
      have n1 := XW.cell 1 _ rfl
      have n2 := XW.cell 2 _ rfl
      have n3 := XW.cell 3 _ rfl
      go_enter Try.func10, Try.ntmps10
      go_wp2_with fail
      refine (HSh.out _ B_w).mono ?_
      rintro e w1 ⟨rfl, b1⟩
      have B1 := bel_trans B_w b1
      clear n0 n1 n2 n3 XW
      go_wp2_with fail
      refine (HF.out _ B1).mono ?_
      rintro e w2 ⟨rfl, b2⟩
      have B2 := bel_trans B1 b2
      go_wp2_with fail
      refine (HA.out _ B2).mono ?_
      rintro e w3 ⟨rfl, b3⟩
      have B3 := bel_trans B2 b3
      go_wp2_with fail
      go_loopw [10] (fun i wr => ∃ j : Nat, 0 ≤ j ∧ i = .int .i64 (j : Int) ∧ Below w.heap.size w wr) (fun i _ => n - (intOf i).toNat)
      case atStart => exact ⟨0, Nat.le_refl _, by first | rfl | simp | go_num, B3⟩
      case round =>
        obtain ⟨j, hj, rfl, hbw⟩ := hrel
        by_cases hb : (j : Int) < before
        · by_cases hlt : j < n
          · have hj1 : j < h.length := by have := HN.out; omega
            obtain ⟨bb, off, rfl, HQ⟩ := HCh.out (by omega)
            have hno := HNo.out j hj hj1 hb
            obtain ⟨c0, c1, c2, _⟩ := HQ.out j hj1 _ hbw
            obtain ⟨⟨y0, y1, y2, y3⟩, hy⟩ : ∃ x, ev h j = x := ⟨_, rfl⟩
            rw [hy] at c0 c1 c2 hno
            simp only at c0 c1 c2 hno
            clear hy
            have HC3 : Hid ((y0 == 3) = false ∨ ((y0 == 3) = true ∧ (y1 == t) = false) ∨ ((y0 == 3) = true ∧ (y1 == t) = true ∧ (y2 == key) = false)) := by
              by_cases p1 : y0 = 3
              · right
                by_cases p2 : y1 = t
                · right; exact ⟨by rw [p1]; rfl, by rw [p2]; exact beq_self_eq_true _, beq_eq_false_iff_ne.2 (fun hh => hno ⟨p1, p2, hh⟩)⟩
                · left; exact ⟨by rw [p1]; rfl, beq_eq_false_iff_ne.2 p2⟩
              · left; exact beq_eq_false_iff_ne.2 p1
            clear hno
            rcases HC3.out with g1 | ⟨g1, g2⟩ | ⟨g1, g2, g3⟩
            · go_wp2_with fail
              refine ⟨?rela0, ?meaa0⟩
              case rela0 => exact ⟨j + 1, by omega, by first | go_num | simp, hbw⟩
              case meaa0 => simp [intOf]; omega
            · go_wp2_with fail
              refine ⟨?rela1, ?meaa1⟩
              case rela1 => exact ⟨j + 1, by omega, by first | go_num | simp, hbw⟩
              case meaa1 => simp [intOf]; omega
            · go_wp2_with fail
              refine ⟨?rela2, ?meaa2⟩
              case rela2 => exact ⟨j + 1, by omega, by first | go_num | simp, hbw⟩
              case meaa2 => simp [intOf]; omega
          · have hln : ¬ (j : Int) < (n : Int) := by omega
            go_wp2_with fail
            go_ret
            exact ⟨rfl, hbw⟩
        · go_wp2_with fail
          go_ret
          exact ⟨rfl, hbw⟩
    · have hm := hl
      unfold lastL at hm
      obtain ⟨hm1, ⟨hm2, hm3, hm4⟩, hm5⟩ := (lastN_some _ _ _ _ _).1 hm
      have hmn : m < h.length ∧ (m : Int) < before := by rw [Nat.min_def] at hm1; split at hm1 <;> omega
      have HNo : Hid (∀ j, m + 1 ≤ j → j < h.length → (j : Int) < before → ¬ ((ev h j).1 = 3 ∧ (ev h j).2.1 = t ∧ (ev h j).2.2.1 = key)) := fun j hj1 hj hb => hm5 j (by omega) (by rw [Nat.min_def]; split <;> omega)
      rw [hl] at HA
      simp only [oI] at HA
      obtain ⟨hm6, hm7⟩ := hmn
      have HM : Hid (m < h.length) := hm6
      have jn : ¬ (n : Int) ≤ (m : Int) := by have := HN.out; omega
      have jn2 : ¬ n ≤ m := by have := HN.out; omega
      have jb : ¬ before ≤ (m : Int) := by omega
      have j0 : ¬ (m : Int) < -1 := by omega
      have j00 : (0 : Int) ≤ (m : Int) := by omega
      obtain ⟨bb, off, rfl, HQ⟩ := HCh.out (by omega)
      obtain ⟨⟨x0, x1, x2, x3⟩, hx⟩ : ∃ x, ev h m = x := ⟨_, rfl⟩
      have HX : Hid (ev h m = (x0, x1, x2, x3)) := hx
      rw [hx] at hm2 hm3 hm4
      simp only at hm2 hm3 hm4
      have e1 : (x0 != 3) = false := by rw [hm2]; rfl
      have e2 : (x1 != t) = false := by rw [hm3]; simp
      have e3 : (x2 != key) = false := by rw [hm4]; simp
      have e4 : (x2 == key) = true := by rw [hm4]; exact beq_self_eq_true _
      clear hl hm hm1 hm2 hm3 hm4 hm5 hm6 hm7 hx
      have XW := SBox.new w 54 #[.slice (some ⟨bb, off, none⟩) n ch, .int .i64 t, .string ⟨key.toArray⟩, .int .i64 before]
      have B_w := (Below.refl w.heap.size w).alloc (Nat.le_refl _) (.cells #[.slice (some ⟨bb, off, none⟩) n ch, .int .i64 t, .string ⟨key.toArray⟩, .int .i64 before] 54)
      have n0 := XW.cell 0 _ rfl
      have n1 := XW.cell 1 _ rfl
      have n2 := XW.cell 2 _ rfl
      have n3 := XW.cell 3 _ rfl
      go_enter Try.func10, Try.ntmps10
      go_wp2_with fail
      refine (HSh.out _ B_w).mono ?_
      rintro e w1 ⟨rfl, b1⟩
      have B1 := bel_trans B_w b1
      clear n0 n1 n2 n3 XW
      go_wp2_with fail
      refine (HF.out _ B1).mono ?_
      rintro e w2 ⟨rfl, b2⟩
      have B2 := bel_trans B1 b2
      go_wp2_with fail
      refine (HA.out _ B2).mono ?_
      rintro e w3 ⟨rfl, b3⟩
      have B3 := bel_trans B2 b3
      obtain ⟨m0, m1, m2, _⟩ := HQ.out m HM.out _ B3
      rw [HX.out] at m0 m1 m2
      simp only at m0 m1 m2
      go_wp2_with fail
      go_loopw [10] (fun i wr => ∃ j : Nat, m + 1 ≤ j ∧ i = .int .i64 (j : Int) ∧ Below w.heap.size w wr) (fun i _ => n - (intOf i).toNat)
      case atStart => exact ⟨m + 1, Nat.le_refl _, by first | rfl | simp | go_num, B3⟩
      case round =>
        obtain ⟨j, hj, rfl, hbw⟩ := hrel
        by_cases hb : (j : Int) < before
        · by_cases hlt : j < n
          · have hj1 : j < h.length := by have := HN.out; omega
            have hno := HNo.out j hj hj1 hb
            obtain ⟨c0, c1, c2, _⟩ := HQ.out j hj1 _ hbw
            obtain ⟨⟨y0, y1, y2, y3⟩, hy⟩ : ∃ x, ev h j = x := ⟨_, rfl⟩
            rw [hy] at c0 c1 c2 hno
            simp only at c0 c1 c2 hno
            clear hy
            have HC3 : Hid ((y0 == 3) = false ∨ ((y0 == 3) = true ∧ (y1 == t) = false) ∨ ((y0 == 3) = true ∧ (y1 == t) = true ∧ (y2 == key) = false)) := by
              by_cases p1 : y0 = 3
              · right
                by_cases p2 : y1 = t
                · right; exact ⟨by rw [p1]; rfl, by rw [p2]; exact beq_self_eq_true _, beq_eq_false_iff_ne.2 (fun hh => hno ⟨p1, p2, hh⟩)⟩
                · left; exact ⟨by rw [p1]; rfl, beq_eq_false_iff_ne.2 p2⟩
              · left; exact beq_eq_false_iff_ne.2 p1
            clear hno
            rcases HC3.out with g1 | ⟨g1, g2⟩ | ⟨g1, g2, g3⟩
            · go_wp2_with fail
              refine ⟨?relb0, ?meab0⟩
              case relb0 => exact ⟨j + 1, by omega, by first | go_num | simp, hbw⟩
              case meab0 => simp [intOf]; omega
            · go_wp2_with fail
              refine ⟨?relb1, ?meab1⟩
              case relb1 => exact ⟨j + 1, by omega, by first | go_num | simp, hbw⟩
              case meab1 => simp [intOf]; omega
            · go_wp2_with fail
              refine ⟨?relb2, ?meab2⟩
              case relb2 => exact ⟨j + 1, by omega, by first | go_num | simp, hbw⟩
              case meab2 => simp [intOf]; omega
          · have hln : ¬ (j : Int) < (n : Int) := by omega
            go_wp2_with fail
            go_ret
            exact ⟨rfl, hbw⟩
        · go_wp2_with fail
          go_ret
          exact ⟨rfl, hbw⟩
  · rw [decide_eq_false h1] at HF
    obtain ⟨ah, ch, rfl, ih, jh, kh, HCh⟩ := Th.reads
    have XW := SBox.new w 54 #[.slice ah h.length ch, .int .i64 t, .string ⟨key.toArray⟩, .int .i64 before]
    have B_w := (Below.refl w.heap.size w).alloc (Nat.le_refl _) (.cells #[.slice ah h.length ch, .int .i64 t, .string ⟨key.toArray⟩, .int .i64 before] 54)
    have n0 := XW.cell 0 _ rfl
    have n1 := XW.cell 1 _ rfl
    have n2 := XW.cell 2 _ rfl
    have n3 := XW.cell 3 _ rfl
    go_enter Try.func10, Try.ntmps10
    go_wp2_with fail
    refine (HSh.out _ B_w).mono ?_
    rintro e w1 ⟨rfl, b1⟩
    have B1 := bel_trans B_w b1
    clear n0 n1 n2 n3 XW
    go_wp2_with fail
    refine (HF.out _ B1).mono ?_
    rintro e w2 ⟨rfl, b2⟩
    have B2 := bel_trans B1 b2
    go_wp2_with fail
    go_ret
    exact ⟨rfl, B2⟩
end Go.Proofs.Ytpmcmohdhicfcaa
