/-
  The walk of RedactAgain.
-/
import Derived.Test.YtihggfkenhkglaaDoorZShown7
import Derived.Test.YtihggfkenhkglaaDoorZP7C
import Derived.Test.YtihggfkenhkglaaDoorZR7All
import Derived.Test.YtihggfkenhkglaaDoorGR
import Derived.Deep.RegionHeld3
import Derived.BigQuiet
import Derived.Deep.QuietTactic
namespace Go.Proofs.YtihggfkenhkglaaDoor
set_option maxRecDepth 100000
open Go.RowKit
set_option linter.unusedVariables false
attribute [local go_sem] ba_size ba_append ba_get ba_extract
theorem cell_al7 {W : World} {a : Addr} {v : Value} (o : Obj) (h : W.cell? a = some v) : (W.alloc o).cell? a = some v := cell_bel ((Below.refl _ W).alloc (Nat.le_refl _) o) h
set_option maxHeartbeats 4000000 in
theorem again7_walk (CS : P7S) (C : P7C) (w : World) (s : List UInt8) (ls : s.length ≤ 140737488351232) (vh : Value) (h : List Ev) (Th : IsEvs w vh h) (Gh : ∀ x ∈ h, goodE x) (i : Int) (hG : G w) :
    Calls Tryd.prog 8 #[.string ⟨s.toArray⟩, vh, .int .i64 i] w fun e w' => e = .returned (.bool true) ∧ Below w.heap.size w w' := by
  have hg3 := hG.size
  have HSh : Hid (∀ W, Below w.heap.size w W → Calls Tryd.prog 10 #[] W fun e w' => e = .returned (.bool true) ∧ Below W.heap.size W w') := fun W h => shown7_any CS W
  have HF : Hid (∀ W, Below w.heap.size w W → Calls Tryd.prog 17 #[vh] W fun e w' => e = .returned (.bool (decide (h.length ≤ 60))) ∧ Below W.heap.size W w') := fun W hb => few_any vh h W (Th.below hb)
  have HA : Hid (∀ W, Below w.heap.size w W → Calls Tryd.prog 18 #[.string ⟨s.toArray⟩, vh] W fun e w' => EvRes 23 W (allP s h) e w') := fun W hb => C.all s h vh W (hG.below hb hg3) ls (Th.below hb) Gh
  have bX := allP_len s h
  by_cases h1 : h.length ≤ 60
  · rw [decide_eq_true h1] at HF
    by_cases h2 : (allP s h).2 = 0
    · obtain ⟨hl, hg, hE⟩ := allP_zero s h h2
      rw [hE] at HA
      have hA2 := fun v W (hb : Below w.heap.size w W) (hv : IsEvs W v (tagsL (keyL s) h)) => C.all s (tagsL (keyL s) h) v W (hG.below hb hg3) ls hv (tags_good s h hg.1)
      have bX2 := allP_len s (tagsL (keyL s) h)
      have hE2 := allP_again s h hl hg
      rw [hE2] at hA2 bX2
      simp only at bX2
      have HA2 : Hid (∀ v W, Below w.heap.size w W → IsEvs W v (tagsL (keyL s) h) → Calls Tryd.prog 18 #[.string ⟨s.toArray⟩, v] W fun e w' => EvRes 23 W (tagsL (keyL s) (tagsL (keyL s) h), 0) e w') := hA2
      have hL := tags_len (keyL s) h
      have b1 : (tagsL (keyL s) h).length ≤ 60 := by rw [tags_len]; exact h1
      have HG : Hid (∀ q (hq : q < h.length), (tagsL (keyL s) h)[q]? = some (tagE (keyL s) h[q]) ∧ mayE h[q] ∧ mayK s) := fun q hq => ⟨by rw [List.getElem?_eq_getElem (by rw [tags_len]; exact hq), tags_get s h q hq], hg.1 _ (List.getElem_mem hq), by
        rcases hg.2 with hh | hh
        · exact hh
        · subst hh; simp at hq⟩
      obtain ⟨X, hX⟩ : ∃ y, tagsL (keyL s) h = y := ⟨_, rfl⟩
      simp only [hX] at HA HA2 b1 hL HG
      rw [hX] at bX2
      obtain ⟨X2, hX2⟩ : ∃ y, tagsL (keyL s) X = y := ⟨_, rfl⟩
      rw [hX2] at HA2 bX2
      have eL : ((X.length : Int) == (h.length : Int)) = true := by rw [hL]; exact beq_self_eq_true _
      have HL : Hid (X.length = h.length) := hL
      clear hA2 hX hX2 hE hE2 hg hl h2 bX hL
      obtain ⟨ah, ch, rfl, ih, jh, _, HCh⟩ := Th.some_at
      by_cases i1 : i < 0
      · go_enter Tryd.func8, Tryd.ntmps8
        go_wp2_with fail
        refine (HSh.out _ (Below.refl w.heap.size w)).mono ?_
        rintro e w1 ⟨rfl, b1⟩
        have B1 := bel_trans (Below.refl w.heap.size w) b1
        go_wp2_with fail
        refine (HF.out _ B1).mono ?_
        rintro e w2 ⟨rfl, b2⟩
        have B2 := bel_trans B1 b2
        go_wp2_with fail
        refine (HA.out _ B2).mono ?_
        rintro e w3 hres3
        obtain ⟨u_a, rfl, b3, o_a⟩ := hres3
        have B3 := bel_trans B2 b3
        have T_a : IsEvs w3 u_a X := IsRec.own evV_len (by omega) o_a (by show X.length ≤ _; omega)
        obtain ⟨a_a, c_a, rfl, i_a, j_a, _, HC_a⟩ := T_a.some_at
        go_wp2_with fail
        refine (HA2.out _ _ B3 T_a).mono ?_
        rintro e w4 hres4
        obtain ⟨u_b, rfl, b4, o_b⟩ := hres4
        have B4 := bel_trans B3 b4
        replace T_a := T_a.below b4
        have T_b : IsEvs w4 u_b X2 := IsRec.own evV_len (by omega) o_b (by show X2.length ≤ _; omega)
        obtain ⟨a_b, c_b, rfl, i_b, j_b, _, HC_b⟩ := T_b.some_at
        go_wp2_with fail
        go_ret
        exact ⟨rfl, B4⟩
      · by_cases i2 : (h.length : Int) ≤ i
        · go_enter Tryd.func8, Tryd.ntmps8
          go_wp2_with fail
          refine (HSh.out _ (Below.refl w.heap.size w)).mono ?_
          rintro e w1 ⟨rfl, b1⟩
          have B1 := bel_trans (Below.refl w.heap.size w) b1
          go_wp2_with fail
          refine (HF.out _ B1).mono ?_
          rintro e w2 ⟨rfl, b2⟩
          have B2 := bel_trans B1 b2
          go_wp2_with fail
          refine (HA.out _ B2).mono ?_
          rintro e w3 hres3
          obtain ⟨u_a, rfl, b3, o_a⟩ := hres3
          have B3 := bel_trans B2 b3
          have T_a : IsEvs w3 u_a X := IsRec.own evV_len (by omega) o_a (by show X.length ≤ _; omega)
          obtain ⟨a_a, c_a, rfl, i_a, j_a, _, HC_a⟩ := T_a.some_at
          go_wp2_with fail
          refine (HA2.out _ _ B3 T_a).mono ?_
          rintro e w4 hres4
          obtain ⟨u_b, rfl, b4, o_b⟩ := hres4
          have B4 := bel_trans B3 b4
          replace T_a := T_a.below b4
          have T_b : IsEvs w4 u_b X2 := IsRec.own evV_len (by omega) o_b (by show X2.length ≤ _; omega)
          obtain ⟨a_b, c_b, rfl, i_b, j_b, _, HC_b⟩ := T_b.some_at
          go_wp2_with fail
          go_ret
          exact ⟨rfl, B4⟩
        · obtain ⟨q, rfl⟩ : ∃ q : Nat, i = (q : Int) := ⟨i.toNat, by omega⟩
          have hq : q < h.length := by omega
          obtain ⟨gE, gm, gk⟩ := HG.out q hq
          obtain ⟨bb, off, rfl, hblt, hcell⟩ := HCh.out q hq
          obtain ⟨p0, p1, p2, p3⟩ := IsEvs.at hq hcell
          obtain ⟨⟨y0, y1, y2, y3⟩, hy⟩ : ∃ y, h[q] = y := ⟨_, rfl⟩
          have gy := Gh _ (List.getElem_mem hq)
          rw [hy] at p0 p1 p2 p3 gE gm gy
          simp only at p0 p1 p2 p3
          have HO : Hid (∀ W, Below w.heap.size w W → Calls Tryd.prog 15 #[.string ⟨s.toArray⟩, .agg #[.int .i64 y0, .int .i64 y1, .string ⟨y2.toArray⟩, .string ⟨y3.toArray⟩]] W fun e w' => e = .returned (.tuple #[evW (oneP s (y0, y1, y2, y3)).1, .int .i64 ((oneP s (y0, y1, y2, y3)).2 : Int)]) ∧ Below W.heap.size W w') := fun W h => C.one s y0 y1 y2 y3 W (hG.below h hg3) ls gy
          rw [oneP_ok s _ gm gk] at HO
          obtain ⟨⟨z0, z1, z2, z3⟩, hz⟩ : ∃ y, tagE (keyL s) (y0, y1, y2, y3) = y := ⟨_, rfl⟩
          rw [hz] at HO gE
          simp only [evW] at HO
          have HX : Hid (X[q]'(by have := HL.out; omega) = (z0, z1, z2, z3)) := (List.getElem?_eq_some_iff.1 gE).2
          have hqX : q < X.length := by have := HL.out; omega
          have jq : ¬ (h.length : Int) ≤ (q : Int) := by omega
          have jq2 : (q : Int) < (X.length : Int) := by omega
          clear hz hy gm gk gE hcell
          have e_z2 : (z2 == z2) = true := beq_self_eq_true z2
          have e_z3 : (z3 == z3) = true := beq_self_eq_true z3
          go_enter Tryd.func8, Tryd.ntmps8
          go_wp2_with fail
          refine (HSh.out _ (Below.refl w.heap.size w)).mono ?_
          rintro e w1 ⟨rfl, b1⟩
          have B1 := bel_trans (Below.refl w.heap.size w) b1
          go_wp2_with fail
          refine (HF.out _ B1).mono ?_
          rintro e w2 ⟨rfl, b2⟩
          have B2 := bel_trans B1 b2
          go_wp2_with fail
          refine (HA.out _ B2).mono ?_
          rintro e w3 hres3
          obtain ⟨u_a, rfl, b3, o_a⟩ := hres3
          have B3 := bel_trans B2 b3
          have T_a : IsEvs w3 u_a X := IsRec.own evV_len (by omega) o_a (by show X.length ≤ _; omega)
          obtain ⟨a_a, c_a, rfl, i_a, j_a, _, HC_a⟩ := T_a.some_at
          go_wp2_with fail
          refine (HA2.out _ _ B3 T_a).mono ?_
          rintro e w4 hres4
          obtain ⟨u_b, rfl, b4, o_b⟩ := hres4
          have B4 := bel_trans B3 b4
          replace T_a := T_a.below b4
          have T_b : IsEvs w4 u_b X2 := IsRec.own evV_len (by omega) o_b (by show X2.length ≤ _; omega)
          obtain ⟨a_b, c_b, rfl, i_b, j_b, _, HC_b⟩ := T_b.some_at
          have m0 := (B4.cell (p := ⟨bb, off + q * 4 , none⟩) hblt).trans p0
          have m1 := (B4.cell (p := ⟨bb, off + q * 4 + 1, none⟩) hblt).trans p1
          have m2 := (B4.cell (p := ⟨bb, off + q * 4 + 2, none⟩) hblt).trans p2
          have m3 := (B4.cell (p := ⟨bb, off + q * 4 + 3, none⟩) hblt).trans p3
          go_wp2_with fail
          refine (HO.out _ B4).mono ?_
          rintro e w5 ⟨rfl, b5⟩
          have B5 := bel_trans B4 b5
          replace T_a := T_a.below b5
          replace T_b := T_b.below b5
          have X_z := SBox.new w5 23 #[.int .i64 z0, .int .i64 z1, .string ⟨z2.toArray⟩, .string ⟨z3.toArray⟩]
          have B5' := B5.alloc B5.size (.cells #[.int .i64 z0, .int .i64 z1, .string ⟨z2.toArray⟩, .string ⟨z3.toArray⟩] 23)
          have f_z0_5 := X_z.cell 0 _ rfl
          have f_z1_5 := X_z.cell 1 _ rfl
          have f_z2_5 := X_z.cell 2 _ rfl
          have f_z3_5 := X_z.cell 3 _ rfl
          clear m0 m1 m2 m3
          obtain ⟨_, _, hv_a, _, _, _, HD_a⟩ := T_a.some_at
          simp only [Value.slice.injEq] at hv_a
          obtain ⟨rfl, _, rfl⟩ := hv_a
          obtain ⟨ba, fa, rfl, lta, cella⟩ := HD_a.out q hqX
          obtain ⟨r0, r1, r2, r3⟩ := IsEvs.at hqX cella
          rw [HX.out] at r0 r1 r2 r3
          simp only at r0 r1 r2 r3
          replace r0 := cell_al7 (.cells #[.int .i64 z0, .int .i64 z1, .string ⟨z2.toArray⟩, .string ⟨z3.toArray⟩] 23) r0
          replace r1 := cell_al7 (.cells #[.int .i64 z0, .int .i64 z1, .string ⟨z2.toArray⟩, .string ⟨z3.toArray⟩] 23) r1
          replace r2 := cell_al7 (.cells #[.int .i64 z0, .int .i64 z1, .string ⟨z2.toArray⟩, .string ⟨z3.toArray⟩] 23) r2
          replace r3 := cell_al7 (.cells #[.int .i64 z0, .int .i64 z1, .string ⟨z2.toArray⟩, .string ⟨z3.toArray⟩] 23) r3
          clear cella
          go_wp2_with fail
          go_quiet (fail)
          go_wp2_with fail
          go_ret
          exact ⟨rfl, below_drewN B5' _⟩
    · obtain ⟨⟨X, c⟩, hX⟩ : ∃ y, allP s h = y := ⟨_, rfl⟩
      rw [hX] at HA h2 bX
      simp only at h2 bX
      have j2 : ((c : Int) != 0) = true := by rw [bne_iff_ne]; omega
      clear hX h2
      obtain ⟨ah, ch, rfl, ih, jh, _, HCh⟩ := Th.some_at
      go_enter Tryd.func8, Tryd.ntmps8
      go_wp2_with fail
      refine (HSh.out _ (Below.refl w.heap.size w)).mono ?_
      rintro e w1 ⟨rfl, b1⟩
      have B1 := bel_trans (Below.refl w.heap.size w) b1
      go_wp2_with fail
      refine (HF.out _ B1).mono ?_
      rintro e w2 ⟨rfl, b2⟩
      have B2 := bel_trans B1 b2
      go_wp2_with fail
      refine (HA.out _ B2).mono ?_
      rintro e w3 hres3
      obtain ⟨u_a, rfl, b3, o_a⟩ := hres3
      have B3 := bel_trans B2 b3
      have T_a : IsEvs w3 u_a X := IsRec.own evV_len (by omega) o_a (by show X.length ≤ _; omega)
      obtain ⟨a_a, c_a, rfl, i_a, j_a, _, HC_a⟩ := T_a.some_at
      go_wp2_with fail
      go_ret
      exact ⟨rfl, B3⟩
  · rw [decide_eq_false h1] at HF
    obtain ⟨⟨X, c⟩, hX⟩ : ∃ y, allP s h = y := ⟨_, rfl⟩
    rw [hX] at HA bX
    simp only at bX
    clear hX
    obtain ⟨ah, ch, rfl, ih, jh, _, HCh⟩ := Th.some_at
    go_enter Tryd.func8, Tryd.ntmps8
    go_wp2_with fail
    refine (HSh.out _ (Below.refl w.heap.size w)).mono ?_
    rintro e w1 ⟨rfl, b1⟩
    have B1 := bel_trans (Below.refl w.heap.size w) b1
    go_wp2_with fail
    refine (HF.out _ B1).mono ?_
    rintro e w2 ⟨rfl, b2⟩
    have B2 := bel_trans B1 b2
    go_wp2_with fail
    refine (HA.out _ B2).mono ?_
    rintro e w3 hres3
    obtain ⟨u_a, rfl, b3, o_a⟩ := hres3
    have B3 := bel_trans B2 b3
    have T_a : IsEvs w3 u_a X := IsRec.own evV_len (by omega) o_a (by show X.length ≤ _; omega)
    obtain ⟨a_a, c_a, rfl, i_a, j_a, _, HC_a⟩ := T_a.some_at
    go_wp2_with fail
    go_ret
    exact ⟨rfl, B3⟩
end Go.Proofs.YtihggfkenhkglaaDoor
