/-
  The walk of RedactRows.
-/
import Derived.Test.YtihggfkenhkglaaDoorZShown7
import Derived.Test.YtihggfkenhkglaaDoorZP7C
import Derived.Test.YtihggfkenhkglaaDoorZR7All
import Derived.Test.YtihggfkenhkglaaDoorZR7Shape
import Derived.Test.YtihggfkenhkglaaDoorZR7Twins2
import Derived.Test.YtihggfkenhkglaaDoorZR6Same
import Derived.Test.YtihggfkenhkglaaDoorGR
import Derived.Deep.RegionHeld3
import Derived.BigQuiet
import Derived.Deep.QuietTactic
namespace Go.Proofs.YtihggfkenhkglaaDoor
set_option maxRecDepth 100000
open Go.RowKit
set_option linter.unusedVariables false
attribute [local go_sem] ba_size ba_append ba_get ba_extract
set_option maxHeartbeats 4000000 in
theorem rows7_walk (CS : P7S) (C : P7C) (w : World) (s : List UInt8) (ls : s.length ≤ 140737488351232) (vh : Value) (h : List Ev) (Th : IsEvs w vh h) (Gh : ∀ x ∈ h, goodE x) (hG : G w) :
    Calls Tryd.prog 4 #[.string ⟨s.toArray⟩, vh] w fun e w' => e = .returned (.bool true) ∧ Below w.heap.size w w' := by
  have hg3 := hG.size
  have HSh : Hid (∀ W, Below w.heap.size w W → Calls Tryd.prog 10 #[] W fun e w' => e = .returned (.bool true) ∧ Below W.heap.size W w') := fun W h => shown7_any CS W
  have HF : Hid (∀ W, Below w.heap.size w W → Calls Tryd.prog 17 #[vh] W fun e w' => e = .returned (.bool (decide (h.length ≤ 60))) ∧ Below W.heap.size W w') := fun W hb => few_any vh h W (Th.below hb)
  have HA : Hid (∀ W, Below w.heap.size w W → Calls Tryd.prog 18 #[.string ⟨s.toArray⟩, vh] W fun e w' => EvRes 23 W (allP s h) e w') := fun W hb => C.all s h vh W (hG.below hb hg3) ls (Th.below hb) Gh
  have RA : Hid (∀ W, Below w.heap.size w W → Calls Tryd.prog 19 #[.string ⟨s.toArray⟩, vh] W fun e w' => EvRes 23 W (allP s h) e w') := fun W hb => rall7_any s h vh W (Th.below hb)
  have SE : Hid (∀ (L : List Ev) v1 v2 W, IsEvs W v1 L → IsEvs W v2 L → Calls Tryd.prog 20 #[v1, v2] W fun e w' => e = .returned (.bool true) ∧ Below W.heap.size W w') := fun L v1 v2 W h1 h2 => by have := rsame6_any v1 v2 L L W h1 h2; rw [decide_eq_true rfl] at this; exact this
  have bX := allP_len s h
  obtain ⟨⟨X, c⟩, hX⟩ : ∃ y, allP s h = y := ⟨_, rfl⟩
  rw [hX] at HA RA bX
  simp only at bX
  clear hX
  by_cases h1 : h.length ≤ 60
  · rw [decide_eq_true h1] at HF
    have HS : Hid (∀ W, Below w.heap.size w W → Calls Tryd.prog 21 #[vh] W fun e w' => EvRow 23 W (shapeL h) e w') := fun W hb => CS.shape h vh W (Th.below hb) (by omega) (good_len h Gh)
    have RS : Hid (∀ W, Below w.heap.size w W → Calls Tryd.prog 22 #[vh] W fun e w' => EvRow 23 W (shapeL h) e w') := fun W hb => rshape_any h vh W (Th.below hb) (by omega)
    have HTw : Hid (∀ W, Below w.heap.size w W → Calls Tryd.prog 23 #[.string ⟨s.toArray⟩, vh] W fun e w' => e = .returned (twV (twinsP s h)) ∧ Below W.heap.size W w') := fun W hb => C.twins s h vh W (hG.below hb hg3) ls (Th.below hb) (by omega) Gh
    have RTw : Hid (∀ W, Below w.heap.size w W → Calls Tryd.prog 24 #[.string ⟨s.toArray⟩, vh] W fun e w' => e = .returned (twV (twinsP s h)) ∧ Below W.heap.size W w') := fun W hb => rtwins2_any s h vh W (Th.below hb) (by omega)
    have bS : (shapeL h).length ≤ 60 := by rw [shape_len]; exact h1
    obtain ⟨Y, hY⟩ : ∃ y, shapeL h = y := ⟨_, rfl⟩
    rw [hY] at HS RS bS
    obtain ⟨⟨t1, t2, t3⟩, ht⟩ : ∃ y, twinsP s h = y := ⟨_, rfl⟩
    rw [ht] at HTw RTw
    unfold twV at HTw RTw
    simp only at HTw RTw
    clear hY ht
    have e_t1 : (t1 == t1) = true := beq_self_eq_true t1
    have e_t2 : (t2 == t2) = true := beq_self_eq_true t2
    have e_t3 : (t3 == t3) = true := beq_self_eq_true t3
    obtain ⟨ah, ch, rfl, ih, jh, _, _⟩ := Th.some_at
    go_enter Tryd.func4, Tryd.ntmps4
    go_wp2_with fail
    refine (HSh.out _ (Below.refl w.heap.size w)).mono ?_
    rintro e w1 ⟨rfl, b1⟩
    have B1 := bel_trans (Below.refl w.heap.size w) b1
    go_wp2_with fail
    refine (HF.out _ B1).mono ?_
    rintro e w2 ⟨rfl, b2⟩
    have B2 := bel_trans B1 b2
    go_wp2_with fail
    refine (HA.out _ B2).mono ?_
    rintro e w3 hres3
    obtain ⟨u_a, rfl, b3, o_a⟩ := hres3
    have B3 := bel_trans B2 b3
    have T_a : IsEvs w3 u_a X := IsRec.own evV_len (by omega) o_a (by show X.length ≤ _; omega)
    obtain ⟨a_a, c_a, rfl, i_a, j_a, _, HC_a⟩ := T_a.some_at
    go_wp2_with fail
    refine (RA.out _ B3).mono ?_
    rintro e w4 hres4
    obtain ⟨u_b, rfl, b4, o_b⟩ := hres4
    have B4 := bel_trans B3 b4
    replace T_a := T_a.below b4
    have T_b : IsEvs w4 u_b X := IsRec.own evV_len (by omega) o_b (by show X.length ≤ _; omega)
    obtain ⟨a_b, c_b, rfl, i_b, j_b, _, HC_b⟩ := T_b.some_at
    go_wp2_with fail
    refine (SE.out _ _ _ _ T_a T_b).mono ?_
    rintro e w5 ⟨rfl, b5⟩
    have B5 := bel_trans B4 b5
    replace T_a := T_a.below b5
    replace T_b := T_b.below b5
    go_wp2_with fail
    refine (HS.out _ B5).mono ?_
    rintro e w6 hres6
    obtain ⟨u_p, rfl, b6, o_p⟩ := hres6
    have B6 := bel_trans B5 b6
    replace T_a := T_a.below b6
    replace T_b := T_b.below b6
    have T_p : IsEvs w6 u_p Y := IsRec.own evV_len (by omega) o_p (by show Y.length ≤ _; omega)
    obtain ⟨a_p, c_p, rfl, i_p, j_p, _, HC_p⟩ := T_p.some_at
    go_wp2_with fail
    refine (RS.out _ B6).mono ?_
    rintro e w7 hres7
    obtain ⟨u_q, rfl, b7, o_q⟩ := hres7
    have B7 := bel_trans B6 b7
    replace T_a := T_a.below b7
    replace T_b := T_b.below b7
    replace T_p := T_p.below b7
    have T_q : IsEvs w7 u_q Y := IsRec.own evV_len (by omega) o_q (by show Y.length ≤ _; omega)
    obtain ⟨a_q, c_q, rfl, i_q, j_q, _, HC_q⟩ := T_q.some_at
    go_wp2_with fail
    refine (SE.out _ _ _ _ T_p T_q).mono ?_
    rintro e w8 ⟨rfl, b8⟩
    have B8 := bel_trans B7 b8
    replace T_a := T_a.below b8
    replace T_b := T_b.below b8
    replace T_p := T_p.below b8
    replace T_q := T_q.below b8
    go_wp2_with fail
    refine (HTw.out _ B8).mono ?_
    rintro e w9 ⟨rfl, b9⟩
    have B9 := bel_trans B8 b9
    replace T_a := T_a.below b9
    replace T_b := T_b.below b9
    replace T_p := T_p.below b9
    replace T_q := T_q.below b9
    go_wp2_with fail
    refine (RTw.out _ B9).mono ?_
    rintro e w10 ⟨rfl, b10⟩
    have B10 := bel_trans B9 b10
    replace T_a := T_a.below b10
    replace T_b := T_b.below b10
    replace T_p := T_p.below b10
    replace T_q := T_q.below b10
    go_wp2_with fail
    go_ret
    exact ⟨rfl, B10⟩
  · rw [decide_eq_false h1] at HF
    by_cases h2 : h.length ≤ 256
    · have j2 : (h.length : Int) ≤ 256 := by omega
      obtain ⟨ah, ch, rfl, ih, jh, _, _⟩ := Th.some_at
      go_enter Tryd.func4, Tryd.ntmps4
      go_wp2_with fail
      refine (HSh.out _ (Below.refl w.heap.size w)).mono ?_
      rintro e w1 ⟨rfl, b1⟩
      have B1 := bel_trans (Below.refl w.heap.size w) b1
      go_wp2_with fail
      refine (HF.out _ B1).mono ?_
      rintro e w2 ⟨rfl, b2⟩
      have B2 := bel_trans B1 b2
      go_wp2_with fail
      go_ret
      exact ⟨rfl, B2⟩
    · have j2 : ¬ (h.length : Int) ≤ 256 := by omega
      obtain ⟨ah, ch, rfl, ih, jh, _, _⟩ := Th.some_at
      go_enter Tryd.func4, Tryd.ntmps4
      go_wp2_with fail
      refine (HSh.out _ (Below.refl w.heap.size w)).mono ?_
      rintro e w1 ⟨rfl, b1⟩
      have B1 := bel_trans (Below.refl w.heap.size w) b1
      go_wp2_with fail
      refine (HF.out _ B1).mono ?_
      rintro e w2 ⟨rfl, b2⟩
      have B2 := bel_trans B1 b2
      go_wp2_with fail
      refine (HA.out _ B2).mono ?_
      rintro e w3 hres3
      obtain ⟨u_a, rfl, b3, o_a⟩ := hres3
      have B3 := bel_trans B2 b3
      have T_a : IsEvs w3 u_a X := IsRec.own evV_len (by omega) o_a (by show X.length ≤ _; omega)
      obtain ⟨a_a, c_a, rfl, i_a, j_a, _, HC_a⟩ := T_a.some_at
      go_wp2_with fail
      refine (RA.out _ B3).mono ?_
      rintro e w4 hres4
      obtain ⟨u_b, rfl, b4, o_b⟩ := hres4
      have B4 := bel_trans B3 b4
      replace T_a := T_a.below b4
      have T_b : IsEvs w4 u_b X := IsRec.own evV_len (by omega) o_b (by show X.length ≤ _; omega)
      obtain ⟨a_b, c_b, rfl, i_b, j_b, _, HC_b⟩ := T_b.some_at
      go_wp2_with fail
      refine (SE.out _ _ _ _ T_a T_b).mono ?_
      rintro e w5 ⟨rfl, b5⟩
      have B5 := bel_trans B4 b5
      replace T_a := T_a.below b5
      replace T_b := T_b.below b5
      go_wp2_with fail
      go_ret
      exact ⟨rfl, B5⟩
end Go.Proofs.YtihggfkenhkglaaDoor
