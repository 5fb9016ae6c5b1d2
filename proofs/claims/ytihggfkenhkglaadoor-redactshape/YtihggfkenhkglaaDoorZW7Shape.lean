/-
  The walk of RedactShape.
-/
import Derived.Test.YtihggfkenhkglaaDoorZShown7
import Derived.Test.YtihggfkenhkglaaDoorZP7C
import Derived.Test.YtihggfkenhkglaaDoorZR7All
import Derived.Test.YtihggfkenhkglaaDoorZR6Same
import Derived.Test.YtihggfkenhkglaaDoorGR
import Derived.Deep.RegionHeld3
import Derived.BigQuiet
import Derived.Deep.QuietTactic
namespace Go.Proofs.YtihggfkenhkglaaDoor
set_option maxRecDepth 100000
open Go.RowKit
set_option linter.unusedVariables false
attribute [local go_sem] ba_size ba_append ba_get ba_extract
set_option maxHeartbeats 4000000 in
theorem shape7_walk (CS : P7S) (C : P7C) (w : World) (s : List UInt8) (ls : s.length ≤ 140737488351232) (vh : Value) (h : List Ev) (Th : IsEvs w vh h) (Gh : ∀ x ∈ h, goodE x) (hG : G w) :
    Calls Tryd.prog 5 #[.string ⟨s.toArray⟩, vh] w fun e w' => e = .returned (.bool true) ∧ Below w.heap.size w w' := by
  have hg3 := hG.size
  have HSh : Hid (∀ W, Below w.heap.size w W → Calls Tryd.prog 10 #[] W fun e w' => e = .returned (.bool true) ∧ Below W.heap.size W w') := fun W h => shown7_any CS W
  have HF : Hid (∀ W, Below w.heap.size w W → Calls Tryd.prog 17 #[vh] W fun e w' => e = .returned (.bool (decide (h.length ≤ 60))) ∧ Below W.heap.size W w') := fun W hb => few_any vh h W (Th.below hb)
  have HA : Hid (∀ W, Below w.heap.size w W → Calls Tryd.prog 18 #[.string ⟨s.toArray⟩, vh] W fun e w' => EvRes 23 W (allP s h) e w') := fun W hb => C.all s h vh W (hG.below hb hg3) ls (Th.below hb) Gh
  have bX := allP_len s h
  by_cases h1 : h.length ≤ 60
  · rw [decide_eq_true h1] at HF
    by_cases h2 : (allP s h).2 = 0
    · obtain ⟨hl, hg, hE⟩ := allP_zero s h h2
      rw [hE] at HA
      have hSX := fun v W (hv : IsEvs W v (tagsL (keyL s) h)) => CS.shape (tagsL (keyL s) h) v W hv (by rw [tags_len]; omega) (good_len _ (tags_good s h hg.1))
      have HSX : Hid (∀ v W, Below w.heap.size w W → IsEvs W v (tagsL (keyL s) h) → Calls Tryd.prog 21 #[v] W fun e w' => EvRow 23 W (shapeL (tagsL (keyL s) h)) e w') := fun v W _ hv => hSX v W hv
      have HS : Hid (∀ W, Below w.heap.size w W → Calls Tryd.prog 21 #[vh] W fun e w' => EvRow 23 W (shapeL h) e w') := fun W hb => CS.shape h vh W (Th.below hb) (by omega) (good_len h Gh)
      have HTw : Hid (∀ W, Below w.heap.size w W → Calls Tryd.prog 23 #[.string ⟨s.toArray⟩, vh] W fun e w' => e = .returned (twV (twinsP s h)) ∧ Below W.heap.size W w') := fun W hb => C.twins s h vh W (hG.below hb hg3) ls (Th.below hb) (by omega) Gh
      have sh := shape_or_twins s h hg
      have tl := twinsP_len s h
      have b1 : (tagsL (keyL s) h).length ≤ 60 := by rw [tags_len]; exact h1
      have b2 : (shapeL (tagsL (keyL s) h)).length ≤ 60 := by rw [shape_len]; exact b1
      have b3 : (shapeL h).length ≤ 60 := by rw [shape_len]; exact h1
      obtain ⟨⟨t1, t2, t3⟩, ht⟩ : ∃ y, twinsP s h = y := ⟨_, rfl⟩
      rw [ht] at HTw sh tl
      unfold twV at HTw
      simp only at HTw sh tl
      have RK1 : Hid (∀ W, Below w.heap.size w W → Calls Tryd.prog 25 #[.string ⟨s.toArray⟩, .string ⟨t1.toArray⟩] W fun e w' => e = .returned (.tuple #[.string ⟨(keyP s t1).1.toArray⟩, .int .i64 ((keyP s t1).2 : Int)]) ∧ Below W.heap.size W w') := fun W h => rkeyed_any s t1 (by omega) W
      have RK2 : Hid (∀ W, Below w.heap.size w W → Calls Tryd.prog 25 #[.string ⟨s.toArray⟩, .string ⟨t2.toArray⟩] W fun e w' => e = .returned (.tuple #[.string ⟨(keyP s t2).1.toArray⟩, .int .i64 ((keyP s t2).2 : Int)]) ∧ Below W.heap.size W w') := fun W h => rkeyed_any s t2 (by omega) W
      obtain ⟨X, hX⟩ : ∃ y, tagsL (keyL s) h = y := ⟨_, rfl⟩
      rw [hX] at HA HSX b1 b2 sh
      obtain ⟨Y, hY⟩ : ∃ y, shapeL X = y := ⟨_, rfl⟩
      obtain ⟨Z, hZ⟩ : ∃ y, shapeL h = y := ⟨_, rfl⟩
      rw [hY] at HSX b2 sh
      rw [hZ] at HS b3 sh
      clear hSX hX hY hZ ht hE hg hl h2 bX
      obtain ⟨ah, ch, rfl, ih, jh, _, HCh⟩ := Th.some_at
      rcases sh with rfl | ⟨rfl, n12, hs, ek⟩
      · have SE : Hid (∀ (L : List Ev) v1 v2 W, IsEvs W v1 L → IsEvs W v2 L → Calls Tryd.prog 20 #[v1, v2] W fun e w' => e = .returned (.bool true) ∧ Below W.heap.size W w') := fun L v1 v2 W h1 h2 => by have := rsame6_any v1 v2 L L W h1 h2; rw [decide_eq_true rfl] at this; exact this
        obtain ⟨⟨k1, d1⟩, hk1⟩ : ∃ y, keyP s t1 = y := ⟨_, rfl⟩
        obtain ⟨⟨k2, d2⟩, hk2⟩ : ∃ y, keyP s t2 = y := ⟨_, rfl⟩
        rw [hk1] at RK1
        rw [hk2] at RK2
        clear hk1 hk2
        go_enter Tryd.func5, Tryd.ntmps5
        go_wp2_with fail
        refine (HSh.out _ (Below.refl w.heap.size w)).mono ?_
        rintro e w1 ⟨rfl, b1⟩
        have B1 := bel_trans (Below.refl w.heap.size w) b1
        go_wp2_with fail
        refine (HF.out _ B1).mono ?_
        rintro e w2 ⟨rfl, b2⟩
        have B2 := bel_trans B1 b2
        go_wp2_with fail
        refine (HA.out _ B2).mono ?_
        rintro e w3 hres3
        obtain ⟨u_a, rfl, b3, o_a⟩ := hres3
        have B3 := bel_trans B2 b3
        have T_a : IsEvs w3 u_a X := IsRec.own evV_len (by omega) o_a (by show X.length ≤ _; omega)
        obtain ⟨a_a, c_a, rfl, i_a, j_a, _, HC_a⟩ := T_a.some_at
        go_wp2_with fail
        refine (HSX.out _ _ B3 T_a).mono ?_
        rintro e w4 hres4
        obtain ⟨u_p, rfl, b4, o_p⟩ := hres4
        have B4 := bel_trans B3 b4
        replace T_a := T_a.below b4
        have T_p : IsEvs w4 u_p Y := IsRec.own evV_len (by omega) o_p (by show Y.length ≤ _; omega)
        obtain ⟨a_p, c_p, rfl, i_p, j_p, _, HC_p⟩ := T_p.some_at
        go_wp2_with fail
        refine (HS.out _ B4).mono ?_
        rintro e w5 hres5
        obtain ⟨u_q, rfl, b5, o_q⟩ := hres5
        have B5 := bel_trans B4 b5
        replace T_a := T_a.below b5
        replace T_p := T_p.below b5
        have T_q : IsEvs w5 u_q Y := IsRec.own evV_len (by omega) o_q (by show Y.length ≤ _; omega)
        obtain ⟨a_q, c_q, rfl, i_q, j_q, _, HC_q⟩ := T_q.some_at
        go_wp2_with fail
        refine (SE.out _ _ _ _ T_p T_q).mono ?_
        rintro e w6 ⟨rfl, b6⟩
        have B6 := bel_trans B5 b6
        replace T_a := T_a.below b6
        replace T_p := T_p.below b6
        replace T_q := T_q.below b6
        go_wp2_with fail
        refine (HTw.out _ B6).mono ?_
        rintro e w7 ⟨rfl, b7⟩
        have B7 := bel_trans B6 b7
        replace T_a := T_a.below b7
        replace T_p := T_p.below b7
        replace T_q := T_q.below b7
        go_wp2_with fail
        refine (RK1.out _ B7).mono ?_
        rintro e w8 ⟨rfl, b8⟩
        have B8 := bel_trans B7 b8
        replace T_a := T_a.below b8
        replace T_p := T_p.below b8
        replace T_q := T_q.below b8
        go_wp2_with fail
        refine (RK2.out _ B8).mono ?_
        rintro e w9 ⟨rfl, b9⟩
        have B9 := bel_trans B8 b9
        replace T_a := T_a.below b9
        replace T_p := T_p.below b9
        replace T_q := T_q.below b9
        go_wp2_with fail
        go_ret
        exact ⟨rfl, B9⟩
      · have SE : Hid (∀ (L M : List Ev) v1 v2 W, IsEvs W v1 L → IsEvs W v2 M → Calls Tryd.prog 20 #[v1, v2] W fun e w' => e = .returned (.bool (decide (L = M))) ∧ Below W.heap.size W w') := fun L M v1 v2 W h1 h2 => rsame6_any v1 v2 L M W h1 h2
        have e1 : (t1 != t2) = true := bne_iff_ne.2 n12
        have e2 : (t1 == t2) = false := beq_eq_false_iff_ne.2 n12
        rw [show keyP s t1 = (keyL s t1, 0) by unfold keyP; rw [if_pos hs]] at RK1
        rw [show keyP s t2 = (keyL s t1, 0) by unfold keyP; rw [if_pos hs, ek]] at RK2
        obtain ⟨k1, hk1⟩ : ∃ y, keyL s t1 = y := ⟨_, rfl⟩
        rw [hk1] at RK1 RK2
        clear hk1 n12 hs ek
        have e_k1 : (k1 == k1) = true := beq_self_eq_true k1
        have SD : Hid (∀ v1 v2 W, IsEvs W v1 Y → IsEvs W v2 Z → Calls Tryd.prog 20 #[v1, v2] W fun e w' => e = .returned (.bool (decide (Y = Z))) ∧ Below W.heap.size W w') := fun v1 v2 W h1 h2 => SE.out Y Z v1 v2 W h1 h2
        obtain ⟨d, hd⟩ : ∃ d, decide (Y = Z) = d := ⟨_, rfl⟩
        rw [hd] at SD
        clear hd SE
        cases d
        · go_enter Tryd.func5, Tryd.ntmps5
          go_wp2_with fail
          refine (HSh.out _ (Below.refl w.heap.size w)).mono ?_
          rintro e w1 ⟨rfl, b1⟩
          have B1 := bel_trans (Below.refl w.heap.size w) b1
          go_wp2_with fail
          refine (HF.out _ B1).mono ?_
          rintro e w2 ⟨rfl, b2⟩
          have B2 := bel_trans B1 b2
          go_wp2_with fail
          refine (HA.out _ B2).mono ?_
          rintro e w3 hres3
          obtain ⟨u_a, rfl, b3, o_a⟩ := hres3
          have B3 := bel_trans B2 b3
          have T_a : IsEvs w3 u_a X := IsRec.own evV_len (by omega) o_a (by show X.length ≤ _; omega)
          obtain ⟨a_a, c_a, rfl, i_a, j_a, _, HC_a⟩ := T_a.some_at
          go_wp2_with fail
          refine (HSX.out _ _ B3 T_a).mono ?_
          rintro e w4 hres4
          obtain ⟨u_p, rfl, b4, o_p⟩ := hres4
          have B4 := bel_trans B3 b4
          replace T_a := T_a.below b4
          have T_p : IsEvs w4 u_p Y := IsRec.own evV_len (by omega) o_p (by show Y.length ≤ _; omega)
          obtain ⟨a_p, c_p, rfl, i_p, j_p, _, HC_p⟩ := T_p.some_at
          go_wp2_with fail
          refine (HS.out _ B4).mono ?_
          rintro e w5 hres5
          obtain ⟨u_q, rfl, b5, o_q⟩ := hres5
          have B5 := bel_trans B4 b5
          replace T_a := T_a.below b5
          replace T_p := T_p.below b5
          have T_q : IsEvs w5 u_q Z := IsRec.own evV_len (by omega) o_q (by show Z.length ≤ _; omega)
          obtain ⟨a_q, c_q, rfl, i_q, j_q, _, HC_q⟩ := T_q.some_at
          go_wp2_with fail
          refine (SD.out _ _ _ T_p T_q).mono ?_
          rintro e w6 ⟨rfl, b6⟩
          have B6 := bel_trans B5 b6
          replace T_a := T_a.below b6
          replace T_p := T_p.below b6
          replace T_q := T_q.below b6
          go_wp2_with fail
          refine (HTw.out _ B6).mono ?_
          rintro e w7 ⟨rfl, b7⟩
          have B7 := bel_trans B6 b7
          replace T_a := T_a.below b7
          replace T_p := T_p.below b7
          replace T_q := T_q.below b7
          go_wp2_with fail
          refine (RK1.out _ B7).mono ?_
          rintro e w8 ⟨rfl, b8⟩
          have B8 := bel_trans B7 b8
          replace T_a := T_a.below b8
          replace T_p := T_p.below b8
          replace T_q := T_q.below b8
          go_wp2_with fail
          refine (RK2.out _ B8).mono ?_
          rintro e w9 ⟨rfl, b9⟩
          have B9 := bel_trans B8 b9
          replace T_a := T_a.below b9
          replace T_p := T_p.below b9
          replace T_q := T_q.below b9
          go_wp2_with fail
          go_ret
          exact ⟨rfl, B9⟩
        · go_enter Tryd.func5, Tryd.ntmps5
          go_wp2_with fail
          refine (HSh.out _ (Below.refl w.heap.size w)).mono ?_
          rintro e w1 ⟨rfl, b1⟩
          have B1 := bel_trans (Below.refl w.heap.size w) b1
          go_wp2_with fail
          refine (HF.out _ B1).mono ?_
          rintro e w2 ⟨rfl, b2⟩
          have B2 := bel_trans B1 b2
          go_wp2_with fail
          refine (HA.out _ B2).mono ?_
          rintro e w3 hres3
          obtain ⟨u_a, rfl, b3, o_a⟩ := hres3
          have B3 := bel_trans B2 b3
          have T_a : IsEvs w3 u_a X := IsRec.own evV_len (by omega) o_a (by show X.length ≤ _; omega)
          obtain ⟨a_a, c_a, rfl, i_a, j_a, _, HC_a⟩ := T_a.some_at
          go_wp2_with fail
          refine (HSX.out _ _ B3 T_a).mono ?_
          rintro e w4 hres4
          obtain ⟨u_p, rfl, b4, o_p⟩ := hres4
          have B4 := bel_trans B3 b4
          replace T_a := T_a.below b4
          have T_p : IsEvs w4 u_p Y := IsRec.own evV_len (by omega) o_p (by show Y.length ≤ _; omega)
          obtain ⟨a_p, c_p, rfl, i_p, j_p, _, HC_p⟩ := T_p.some_at
          go_wp2_with fail
          refine (HS.out _ B4).mono ?_
          rintro e w5 hres5
          obtain ⟨u_q, rfl, b5, o_q⟩ := hres5
          have B5 := bel_trans B4 b5
          replace T_a := T_a.below b5
          replace T_p := T_p.below b5
          have T_q : IsEvs w5 u_q Z := IsRec.own evV_len (by omega) o_q (by show Z.length ≤ _; omega)
          obtain ⟨a_q, c_q, rfl, i_q, j_q, _, HC_q⟩ := T_q.some_at
          go_wp2_with fail
          refine (SD.out _ _ _ T_p T_q).mono ?_
          rintro e w6 ⟨rfl, b6⟩
          have B6 := bel_trans B5 b6
          replace T_a := T_a.below b6
          replace T_p := T_p.below b6
          replace T_q := T_q.below b6
          go_wp2_with fail
          refine (HTw.out _ B6).mono ?_
          rintro e w7 ⟨rfl, b7⟩
          have B7 := bel_trans B6 b7
          replace T_a := T_a.below b7
          replace T_p := T_p.below b7
          replace T_q := T_q.below b7
          go_wp2_with fail
          refine (RK1.out _ B7).mono ?_
          rintro e w8 ⟨rfl, b8⟩
          have B8 := bel_trans B7 b8
          replace T_a := T_a.below b8
          replace T_p := T_p.below b8
          replace T_q := T_q.below b8
          go_wp2_with fail
          refine (RK2.out _ B8).mono ?_
          rintro e w9 ⟨rfl, b9⟩
          have B9 := bel_trans B8 b9
          replace T_a := T_a.below b9
          replace T_p := T_p.below b9
          replace T_q := T_q.below b9
          go_wp2_with fail
          go_ret
          exact ⟨rfl, B9⟩
    · obtain ⟨⟨X, c⟩, hX⟩ : ∃ y, allP s h = y := ⟨_, rfl⟩
      rw [hX] at HA h2 bX
      simp only at h2 bX
      have j2 : ((c : Int) != 0) = true := by rw [bne_iff_ne]; omega
      clear hX h2
      obtain ⟨ah, ch, rfl, ih, jh, _, HCh⟩ := Th.some_at
      go_enter Tryd.func5, Tryd.ntmps5
      go_wp2_with fail
      refine (HSh.out _ (Below.refl w.heap.size w)).mono ?_
      rintro e w1 ⟨rfl, b1⟩
      have B1 := bel_trans (Below.refl w.heap.size w) b1
      go_wp2_with fail
      refine (HF.out _ B1).mono ?_
      rintro e w2 ⟨rfl, b2⟩
      have B2 := bel_trans B1 b2
      go_wp2_with fail
      refine (HA.out _ B2).mono ?_
      rintro e w3 hres3
      obtain ⟨u_a, rfl, b3, o_a⟩ := hres3
      have B3 := bel_trans B2 b3
      have T_a : IsEvs w3 u_a X := IsRec.own evV_len (by omega) o_a (by show X.length ≤ _; omega)
      obtain ⟨a_a, c_a, rfl, i_a, j_a, _, HC_a⟩ := T_a.some_at
      go_wp2_with fail
      go_ret
      exact ⟨rfl, B3⟩
  · rw [decide_eq_false h1] at HF
    obtain ⟨⟨X, c⟩, hX⟩ : ∃ y, allP s h = y := ⟨_, rfl⟩
    rw [hX] at HA bX
    simp only at bX
    clear hX
    obtain ⟨ah, ch, rfl, ih, jh, _, HCh⟩ := Th.some_at
    go_enter Tryd.func5, Tryd.ntmps5
    go_wp2_with fail
    refine (HSh.out _ (Below.refl w.heap.size w)).mono ?_
    rintro e w1 ⟨rfl, b1⟩
    have B1 := bel_trans (Below.refl w.heap.size w) b1
    go_wp2_with fail
    refine (HF.out _ B1).mono ?_
    rintro e w2 ⟨rfl, b2⟩
    have B2 := bel_trans B1 b2
    go_wp2_with fail
    refine (HA.out _ B2).mono ?_
    rintro e w3 hres3
    obtain ⟨u_a, rfl, b3, o_a⟩ := hres3
    have B3 := bel_trans B2 b3
    have T_a : IsEvs w3 u_a X := IsRec.own evV_len (by omega) o_a (by show X.length ≤ _; omega)
    obtain ⟨a_a, c_a, rfl, i_a, j_a, _, HC_a⟩ := T_a.some_at
    go_wp2_with fail
    go_ret
    exact ⟨rfl, B3⟩
end Go.Proofs.YtihggfkenhkglaaDoor
