/-
  The walk of TaintTells.
-/
import Derived.Test.YtljgflgfcbmgiaaZShown9
import Derived.Test.YtljgflgfcbmgiaaZR9All
import Derived.Test.YtljgflgfcbmgiaaZR9Bads
import Derived.Test.YtljgflgfcbmgiaaZBads9
import Derived.Deep.RegionHeld3
import Derived.BigQuiet
import Derived.Deep.QuietTactic
namespace Go.Proofs.Ytljgflgfcbmgiaa
set_option maxRecDepth 100000
open Go.RowKit
set_option linter.unusedVariables false
attribute [local go_sem] ba_size ba_append ba_get ba_extract
set_option maxHeartbeats 4000000 in
theorem tells9_walk (C : P9C) (w : World) (vh : Value) (h : List Ev) (Th : IsEvs w vh h) (Gh : ∀ x ∈ h, goodE x) (i : Int) (gi : okI i) :
    Calls Try.prog 3 #[vh, .int .i64 i] w fun e w' => e = .returned (.bool true) ∧ Below w.heap.size w w' := by
  have HSh : Hid (∀ W, Below w.heap.size w W → Calls Try.prog 9 #[] W fun e w' => e = .returned (.bool true) ∧ Below W.heap.size W w') := fun W h => shown9_any C W
  have HF : Hid (∀ W, Below w.heap.size w W → Calls Try.prog 10 #[vh] W fun e w' => e = .returned (.bool (decide (h.length ≤ 300))) ∧ Below W.heap.size W w') := fun W hb => few9_any vh h W (Th.below hb)
  by_cases h1 : h.length ≤ 300
  · rw [decide_eq_true h1] at HF
    have RB : Hid (∀ W, Below w.heap.size w W → Calls Try.prog 11 #[vh] W fun e w' => BdRow 29 W (badsL h) e w') := fun W hb => rbads_any h vh W (Th.below hb) h1
    have HB : Hid (∀ W, Below w.heap.size w W → Calls Try.prog 13 #[vh] W fun e w' => BdRow 29 W (badsL h) e w') := fun W hb => C.all h vh W (Th.below hb) Gh h1
    have HI : Hid (∀ W, Below w.heap.size w W → Calls Try.prog 14 #[vh] W fun e w' => e = .returned (.tuple #[badA (firstP h).1, .bool (firstP h).2]) ∧ Below W.heap.size W w') := fun W hb => C.first h vh W (Th.below hb) Gh h1
    have HA : Hid (∀ W, Below w.heap.size w W → Calls Try.prog 15 #[vh, .int .i64 i] W fun e w' => e = .returned (badA (atI h i)) ∧ Below W.heap.size W w') := fun W hb => C.at_ h vh W i (Th.below hb) Gh h1 gi
    have RA : Hid (∀ W, Below w.heap.size w W → Calls Try.prog 16 #[vh, .int .i64 i] W fun e w' => e = .returned (badA (atI h i)) ∧ Below W.heap.size W w') := fun W hb => rat_any h vh W (Th.below hb) i
    have HO : Hid (∀ W, Below w.heap.size w W → Calls Try.prog 17 #[vh, .int .i64 i] W fun e w' => e = .returned (.bool (outerI h i)) ∧ Below W.heap.size W w') := fun W hb => C.outer h vh W i (Th.below hb) Gh h1 gi
    have RO : Hid (∀ W, Below w.heap.size w W → Calls Try.prog 18 #[vh, .int .i64 i] W fun e w' => e = .returned (.bool (outerI h i)) ∧ Below W.heap.size W w') := fun W hb => router_any h vh W (Th.below hb) i
    have SB : Hid (∀ (L : List Bd) v1 v2 W, IsBads W v1 L → IsBads W v2 L → Calls Try.prog 12 #[v1, v2] W fun e w' => e = .returned (.bool true) ∧ Below W.heap.size W w') := fun L v1 v2 W h1 h2 => by have := rsameb_any v1 v2 L L W h1 h2; rw [decide_eq_true rfl] at this; exact this
    have bL := bads_len h
    unfold firstP at HI
    obtain ⟨BB, hBB⟩ : ∃ y, badsL h = y := ⟨_, rfl⟩
    rw [hBB] at RB HB HI bL
    obtain ⟨⟨z0, z1, z2⟩, hz⟩ : ∃ y, atI h i = y := ⟨_, rfl⟩
    rw [hz] at HA RA
    obtain ⟨o, ho⟩ : ∃ y, outerI h i = y := ⟨_, rfl⟩
    rw [ho] at HO RO
    try simp only at HA RA
    clear hBB hz ho
    have e_o : (o == o) = true := beq_self_eq_true o
    obtain ⟨ah, ch, rfl, ih, jh, kh, HCh⟩ := Th.reads
    cases BB with
    | nil =>
      try simp only at HI
      go_enter Try.func3, Try.ntmps3
      go_wp2_with fail
      refine (HSh.out _ (Below.refl w.heap.size w)).mono ?_
      rintro e w1 ⟨rfl, b1⟩
      have B1 := bel_trans (Below.refl w.heap.size w) b1
      go_wp2_with fail
      refine (HF.out _ B1).mono ?_
      rintro e w2 ⟨rfl, b2⟩
      have B2 := bel_trans B1 b2
      go_wp2_with fail
      refine (RB.out _ B2).mono ?_
      rintro e w3 hres3
      obtain ⟨u_p, rfl, b3, o_p⟩ := hres3
      have B3 := bel_trans B2 b3
      have T_p := IsRec.own (L := []) badV_len (by omega) o_p (by show List.length _ ≤ _; omega)
      obtain ⟨a_p, c_p, rfl, i_p, j_p, _, HC_p⟩ := T_p.some_at
      go_wp2_with fail
      refine (HB.out _ B3).mono ?_
      rintro e w4 hres4
      obtain ⟨u_q, rfl, b4, o_q⟩ := hres4
      have B4 := bel_trans B3 b4
      replace T_p := T_p.below b4
      have T_q := IsRec.own (L := []) badV_len (by omega) o_q (by show List.length _ ≤ _; omega)
      obtain ⟨a_q, c_q, rfl, i_q, j_q, _, HC_q⟩ := T_q.some_at
      go_wp2_with fail
      refine (SB.out _ _ _ _ T_q T_p).mono ?_
      rintro e w5 ⟨rfl, b5⟩
      have B5 := bel_trans B4 b5
      replace T_p := T_p.below b5
      replace T_q := T_q.below b5
      go_wp2_with fail
      refine (HI.out _ B5).mono ?_
      rintro e w6 ⟨rfl, b6⟩
      have B6 := bel_trans B5 b6
      replace T_p := T_p.below b6
      replace T_q := T_q.below b6
      replace T_p := T_p.below ((Below.refl _ _).alloc (Nat.le_refl _) (.cells #[.int .i64 0, .int .i64 0, .int .i64 0] 29))
      replace T_q := T_q.below ((Below.refl _ _).alloc (Nat.le_refl _) (.cells #[.int .i64 0, .int .i64 0, .int .i64 0] 29))
      have X_y := SBox.new w6 29 #[.int .i64 0, .int .i64 0, .int .i64 0]
      have B6' := B6.alloc B6.size (.cells #[.int .i64 0, .int .i64 0, .int .i64 0] 29)
      have f_y0_6 := X_y.cell 0 _ rfl
      have f_y1_6 := X_y.cell 1 _ rfl
      have f_y2_6 := X_y.cell 2 _ rfl
      go_wp2_with fail
      go_quiet (fail)
      generalize hV : World.drewN _ _ = V
      have BV : Below w.heap.size w V := by rw [← hV]; exact below_drewN B6' _
      clear hV
      go_wp2_with fail
      refine (HA.out _ BV).mono ?_
      rintro e w7 ⟨rfl, b7⟩
      have B7 := bel_trans BV b7
      go_wp2_with fail
      refine (RA.out _ B7).mono ?_
      rintro e w8 ⟨rfl, b8⟩
      have B8 := bel_trans B7 b8
      go_wp2_with fail
      refine (HO.out _ B8).mono ?_
      rintro e w9 ⟨rfl, b9⟩
      have B9 := bel_trans B8 b9
      go_wp2_with fail
      refine (RO.out _ B9).mono ?_
      rintro e w10 ⟨rfl, b10⟩
      have B10 := bel_trans B9 b10
      go_wp2_with fail
      go_ret
      exact ⟨rfl, B10⟩
    | cons b BT =>
      obtain ⟨b0, b1', b2'⟩ := b
      try simp only at HI
      go_enter Try.func3, Try.ntmps3
      go_wp2_with fail
      refine (HSh.out _ (Below.refl w.heap.size w)).mono ?_
      rintro e w1 ⟨rfl, b1⟩
      have B1 := bel_trans (Below.refl w.heap.size w) b1
      go_wp2_with fail
      refine (HF.out _ B1).mono ?_
      rintro e w2 ⟨rfl, b2⟩
      have B2 := bel_trans B1 b2
      go_wp2_with fail
      refine (RB.out _ B2).mono ?_
      rintro e w3 hres3
      obtain ⟨u_p, rfl, b3, o_p⟩ := hres3
      have B3 := bel_trans B2 b3
      have T_p := IsRec.own (L := ((b0, b1', b2') :: BT)) badV_len (by omega) o_p (by show List.length _ ≤ _; omega)
      obtain ⟨a_p, c_p, rfl, i_p, j_p, _, HC_p⟩ := T_p.some_at
      go_wp2_with fail
      refine (HB.out _ B3).mono ?_
      rintro e w4 hres4
      obtain ⟨u_q, rfl, b4, o_q⟩ := hres4
      have B4 := bel_trans B3 b4
      replace T_p := T_p.below b4
      have T_q := IsRec.own (L := ((b0, b1', b2') :: BT)) badV_len (by omega) o_q (by show List.length _ ≤ _; omega)
      obtain ⟨a_q, c_q, rfl, i_q, j_q, _, HC_q⟩ := T_q.some_at
      go_wp2_with fail
      refine (SB.out _ _ _ _ T_q T_p).mono ?_
      rintro e w5 ⟨rfl, b5⟩
      have B5 := bel_trans B4 b5
      replace T_p := T_p.below b5
      replace T_q := T_q.below b5
      go_wp2_with fail
      refine (HI.out _ B5).mono ?_
      rintro e w6 ⟨rfl, b6⟩
      have B6 := bel_trans B5 b6
      replace T_p := T_p.below b6
      replace T_q := T_q.below b6
      replace T_p := T_p.below ((Below.refl _ _).alloc (Nat.le_refl _) (.cells #[.int .i64 b0, .int .i64 b1', .int .i64 b2'] 29))
      replace T_q := T_q.below ((Below.refl _ _).alloc (Nat.le_refl _) (.cells #[.int .i64 b0, .int .i64 b1', .int .i64 b2'] 29))
      have X_y := SBox.new w6 29 #[.int .i64 b0, .int .i64 b1', .int .i64 b2']
      have B6' := B6.alloc B6.size (.cells #[.int .i64 b0, .int .i64 b1', .int .i64 b2'] 29)
      have f_y0_6 := X_y.cell 0 _ rfl
      have f_y1_6 := X_y.cell 1 _ rfl
      have f_y2_6 := X_y.cell 2 _ rfl
      obtain ⟨_, _, hvp, _, _, _, HDp⟩ := T_p.some_at
      simp only [Value.slice.injEq] at hvp
      obtain ⟨rfl, _, rfl⟩ := hvp
      obtain ⟨bp, fp, rfl, ltp, cp⟩ := HDp.out 0 (by simp)
      have r0 := cp 0 _ rfl
      have r1 := cp 1 _ rfl
      have r2 := cp 2 _ rfl
      simp only [Nat.zero_mul, Nat.add_zero] at r0 r1 r2
      go_wp2_with fail
      go_quiet (fail)
      generalize hV : World.drewN _ _ = V
      have BV : Below w.heap.size w V := by rw [← hV]; exact below_drewN B6' _
      clear hV
      go_wp2_with fail
      refine (HA.out _ BV).mono ?_
      rintro e w7 ⟨rfl, b7⟩
      have B7 := bel_trans BV b7
      go_wp2_with fail
      refine (RA.out _ B7).mono ?_
      rintro e w8 ⟨rfl, b8⟩
      have B8 := bel_trans B7 b8
      go_wp2_with fail
      refine (HO.out _ B8).mono ?_
      rintro e w9 ⟨rfl, b9⟩
      have B9 := bel_trans B8 b9
      go_wp2_with fail
      refine (RO.out _ B9).mono ?_
      rintro e w10 ⟨rfl, b10⟩
      have B10 := bel_trans B9 b10
      go_wp2_with fail
      go_ret
      exact ⟨rfl, B10⟩
  · rw [decide_eq_false h1] at HF
    obtain ⟨ah, ch, rfl, ih, jh, kh, HCh⟩ := Th.reads
    go_enter Try.func3, Try.ntmps3
    go_wp2_with fail
    refine (HSh.out _ (Below.refl w.heap.size w)).mono ?_
    rintro e w1 ⟨rfl, b1⟩
    have B1 := bel_trans (Below.refl w.heap.size w) b1
    go_wp2_with fail
    refine (HF.out _ B1).mono ?_
    rintro e w2 ⟨rfl, b2⟩
    have B2 := bel_trans B1 b2
    go_wp2_with fail
    go_ret
    exact ⟨rfl, B2⟩
end Go.Proofs.Ytljgflgfcbmgiaa
