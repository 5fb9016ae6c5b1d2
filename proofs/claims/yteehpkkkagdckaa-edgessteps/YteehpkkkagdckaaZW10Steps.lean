/-
  The walk of EdgesSteps.
-/
import Derived.Test.YteehpkkkagdckaaZShown10
import Derived.Test.YteehpkkkagdckaaZEdges10
import Derived.Test.YteehpkkkagdckaaZSteps10
import Derived.Deep.RegionHeld3
import Derived.BigQuiet
import Derived.Deep.QuietTactic
import Derived.Lib.Hide
namespace Go.Proofs.Yteehpkkkagdckaa
set_option maxRecDepth 100000
open Go.RowKit
set_option linter.unusedVariables false
attribute [local go_sem] ba_size ba_append ba_get ba_extract
set_option linter.unusedSimpArgs false
set_option maxHeartbeats 4000000 in
theorem steps10_walk (C : P10C) (w : World) (level : Int) (gl : okN level) (vl : Value) (l : List Ed) (Tl : IsEds w vl l) (Gl : ∀ x ∈ l, goodEd x) :
    Calls Try.prog 9 #[.int .i64 level, vl] w fun e w' => e = .returned (.bool true) ∧ Below w.heap.size w w' := by
  have HSh : Hid (∀ W, Below w.heap.size w W → Calls Try.prog 10 #[] W fun e w' => e = .returned (.bool true) ∧ Below W.heap.size W w') := fun W h => shown10_any C W
  by_cases h1 : l.length ≤ 200
  · by_cases d1 : level = 1
    · subst d1
      have HS : Hid (∀ W, Below w.heap.size w W → Calls Try.prog 21 #[.int .i64 1, vl] W fun e w' => StRow 50 W (stepsL 1 l) e w') := fun W hb => C.steps 1 l vl W (Tl.below hb) Gl (by omega) gl
      have bS := steps_len 1 l 200 h1
      have HL1 := steps1_len l
      have H1 : Hid (∀ s ∈ stepsL 1 l, ∃ e : Ed, s = (e.2.1, e.2.2.1, [e])) := fun s hs => steps1_at l s hs
      obtain ⟨al, cl, rfl, il, jl, kl, HCl⟩ := IsEds.reads Tl
      obtain ⟨n, hn⟩ : ∃ n, l.length = n := ⟨_, rfl⟩
      obtain ⟨SL, hSL⟩ : ∃ y, stepsL 1 l = y := ⟨_, rfl⟩
      rw [hSL] at HS bS HL1 H1
      rw [hn] at h1 il kl HS HL1 ⊢
      have j1 : ¬ (200 : Int) < (n : Int) := by omega
      clear hSL hn Tl HCl
      go_enter Try.func9, Try.ntmps9
      go_wp2_with fail
      refine (HSh.out _ (Below.refl w.heap.size w)).mono ?_
      rintro e w1 ⟨rfl, b1⟩
      have B1 := bel_trans (Below.refl w.heap.size w) b1
      go_wp2_with fail
      refine (HS.out _ B1).mono ?_
      rintro e w2 hres2
      obtain ⟨u_p, L_p, rfl, b2, o_p, so_p⟩ := hres2
      have B2 := bel_trans B1 b2
      have T_p := IsSts.own o_p so_p (by rw [so_p.1]; omega)
      obtain ⟨a_p, c_p, rfl, i_p, j_p, k_p, HC_p⟩ := T_p.reads
      obtain ⟨m, hm⟩ : ∃ m, SL.length = m := ⟨_, rfl⟩
      have HM : Hid (SL.length = m) := hm
      rw [hm] at i_p k_p ⊢
      have HLn : Hid (m = n) := by show _ = _; rw [← hm]; exact HL1
      obtain rfl := HLn.out
      clear hm HL1
      go_wp2_with fail
      go_loopw [7] (fun i wr => ∃ q : Nat, q ≤ m ∧ i = .int .i64 q ∧ Below w2.heap.size w2 wr) (fun i _ => m - (intOf i).toNat)
      case atStart => exact ⟨0, Nat.zero_le _, rfl, Below.refl _ _⟩
      case round =>
        obtain ⟨q, hq, rfl, hbw⟩ := hrel
        by_cases hlt : q < m
        · have hq1 : q < SL.length := by have := HM.out; omega
          have jq : (q : Int) < (m : Int) := by omega
          obtain ⟨bp, op, rfl, u1, E1, C1⟩ := HC_p.out q hq1
          obtain ⟨r0, r1, r2⟩ := C1 _ hbw
          obtain ⟨⟨e0, e1, e2, e3, e4⟩, hx⟩ := H1.out _ (List.getElem_mem hq1)
          simp only [hx] at r0 r1 E1
          obtain ⟨ue, ce, rfl, ie, je, ke, HD⟩ := IsEds.reads E1
          simp only [List.length_cons, List.length_nil, Nat.zero_add, Nat.reduceAdd] at ie ke
          obtain ⟨be, oe, rfl, HE⟩ := HD.out (by simp)
          have b9 := hbw
          obtain ⟨ce0, ce1, ce2, ce3, ce4⟩ := HE.out 0 (by simp) _ b9
          simp only [Nat.zero_mul, Nat.one_mul, Nat.add_zero, List.getElem_cons_zero, List.getElem_cons_succ] at ce0 ce1 ce2 ce3 ce4
          simp only [List.length_cons, List.length_nil, Nat.zero_add, Nat.reduceAdd] at r2
          clear HD E1 C1
          go_wp2_with fail
          go_quiet (fail)
          go_wp2_with fail
          go_quiet (fail)
          go_wp2_with fail
          refine ⟨⟨q + 1, by omega, by first | go_num | simp, by first | exact hbw | exact below_drewN hbw _ | exact below_drewN (below_drewN hbw _) _⟩, by simp [intOf]; omega⟩
        · obtain rfl : q = m := by omega
          have jq : ¬ (q : Int) < (q : Int) := by omega
          go_wp2_with fail
          go_ret
          exact ⟨rfl, bel_trans B2 hbw⟩
    · by_cases d2 : level = 2
      · subst d2
        have HS : Hid (∀ W, Below w.heap.size w W → Calls Try.prog 21 #[.int .i64 2, vl] W fun e w' => StRow 50 W (stepsL 2 l) e w') := fun W hb => C.steps 2 l vl W (Tl.below hb) Gl (by omega) gl
        have bS := steps_len 2 l 200 h1
        have H2 : Hid (∀ s ∈ stepsL 2 l, (∃ e : Ed, e.1 ≠ 3 ∧ s = (e.2.1, e.2.2.1, [e])) ∨ ∃ e g : Ed, e.1 ≠ 3 ∧ g.1 = 3 ∧ g.2.1 = e.2.2.1 ∧ s = (e.2.1, g.2.2.1, [e, g])) := fun s hs => steps2_at l s hs
        obtain ⟨al, cl, rfl, il, jl, kl, HCl⟩ := IsEds.reads Tl
        obtain ⟨n, hn⟩ : ∃ n, l.length = n := ⟨_, rfl⟩
        obtain ⟨SL, hSL⟩ : ∃ y, stepsL 2 l = y := ⟨_, rfl⟩
        rw [hSL] at HS bS H2
        rw [hn] at h1 il kl HS ⊢
        have j1 : ¬ (200 : Int) < (n : Int) := by omega
        clear hSL hn Tl HCl
        go_enter Try.func9, Try.ntmps9
        go_wp2_with fail
        refine (HSh.out _ (Below.refl w.heap.size w)).mono ?_
        rintro e w1 ⟨rfl, b1⟩
        have B1 := bel_trans (Below.refl w.heap.size w) b1
        go_wp2_with fail
        refine (HS.out _ B1).mono ?_
        rintro e w2 hres2
        obtain ⟨u_p, L_p, rfl, b2, o_p, so_p⟩ := hres2
        have B2 := bel_trans B1 b2
        have T_p := IsSts.own o_p so_p (by rw [so_p.1]; omega)
        obtain ⟨a_p, c_p, rfl, i_p, j_p, k_p, HC_p⟩ := T_p.reads
        obtain ⟨m, hm⟩ : ∃ m, SL.length = m := ⟨_, rfl⟩
        have HM : Hid (SL.length = m) := hm
        rw [hm] at i_p k_p ⊢
        clear hm
        go_wp2_with fail
        go_loopw [7] (fun i wr => ∃ q : Nat, q ≤ m ∧ i = .int .i64 q ∧ Below w2.heap.size w2 wr) (fun i _ => m - (intOf i).toNat)
        case atStart => exact ⟨0, Nat.zero_le _, rfl, Below.refl _ _⟩
        case round =>
          obtain ⟨q, hq, rfl, hbw⟩ := hrel
          by_cases hlt : q < m
          · have hq1 : q < SL.length := by have := HM.out; omega
            have jq : (q : Int) < (m : Int) := by omega
            obtain ⟨bp, op, rfl, u1, E1, C1⟩ := HC_p.out q hq1
            obtain ⟨r0, r1, r2⟩ := C1 _ hbw
            rcases H2.out _ (List.getElem_mem hq1) with ⟨⟨e0, e1, e2, e3, e4⟩, he3, hx⟩ | ⟨⟨e0, e1, e2, e3, e4⟩, ⟨g0, g1, g2, g3, g4⟩, he3, hg3, hge, hx⟩
            · simp only [hx] at r0 r1 E1
              simp only at he3
              have k3 : (e0 == 3) = false := beq_eq_false_iff_ne.2 he3
              clear he3
              obtain ⟨ue, ce, rfl, ie, je, ke, HD⟩ := IsEds.reads E1
              simp only [List.length_cons, List.length_nil, Nat.zero_add, Nat.reduceAdd] at ie ke
              obtain ⟨be, oe, rfl, HE⟩ := HD.out (by simp)
              have b9 := hbw
              obtain ⟨ce0, ce1, ce2, ce3, ce4⟩ := HE.out 0 (by simp) _ b9
              simp only [Nat.zero_mul, Nat.one_mul, Nat.add_zero, List.getElem_cons_zero, List.getElem_cons_succ] at ce0 ce1 ce2 ce3 ce4
              simp only [List.length_cons, List.length_nil, Nat.zero_add, Nat.reduceAdd] at r2
              clear HD E1 C1
              go_wp2_with fail
              go_quiet (fail)
              go_wp2_with fail
              go_quiet (fail)
              go_wp2_with fail
              refine ⟨⟨q + 1, by omega, by first | go_num | simp, by first | exact hbw | exact below_drewN hbw _ | exact below_drewN (below_drewN hbw _) _⟩, by simp [intOf]; omega⟩
            · simp only [hx] at r0 r1 E1
              simp only at he3 hg3 hge
              subst hg3 hge
              have k3 : (e0 == 3) = false := beq_eq_false_iff_ne.2 he3
              clear he3
              obtain ⟨ue, ce, rfl, ie, je, ke, HD⟩ := IsEds.reads E1
              simp only [List.length_cons, List.length_nil, Nat.zero_add, Nat.reduceAdd] at ie ke
              obtain ⟨be, oe, rfl, HE⟩ := HD.out (by simp)
              have b9 := hbw
              obtain ⟨ce0, ce1, ce2, ce3, ce4⟩ := HE.out 0 (by simp) _ b9
              simp only [Nat.zero_mul, Nat.one_mul, Nat.add_zero, List.getElem_cons_zero, List.getElem_cons_succ] at ce0 ce1 ce2 ce3 ce4
              obtain ⟨cg0, cg1, cg2, cg3, cg4⟩ := HE.out 1 (by simp) _ b9
              simp only [Nat.zero_mul, Nat.one_mul, Nat.add_zero, List.getElem_cons_zero, List.getElem_cons_succ] at cg0 cg1 cg2 cg3 cg4
              simp only [List.length_cons, List.length_nil, Nat.zero_add, Nat.reduceAdd] at r2
              clear HD E1 C1
              go_wp2_with fail
              go_quiet (fail)
              go_wp2_with fail
              go_quiet (fail)
              go_wp2_with fail
              refine ⟨⟨q + 1, by omega, by first | go_num | simp, by first | exact hbw | exact below_drewN hbw _ | exact below_drewN (below_drewN hbw _) _⟩, by simp [intOf]; omega⟩
          · obtain rfl : q = m := by omega
            have jq : ¬ (q : Int) < (q : Int) := by omega
            go_wp2_with fail
            go_ret
            exact ⟨rfl, bel_trans B2 hbw⟩
      · skip
        have HS : Hid (∀ W, Below w.heap.size w W → Calls Try.prog 21 #[.int .i64 level, vl] W fun e w' => StRow 50 W (stepsL level l) e w') := fun W hb => C.steps level l vl W (Tl.below hb) Gl (by omega) gl
        rw [stepsO level l d1 d2] at HS
        obtain ⟨al, cl, rfl, il, jl, kl, HCl⟩ := IsEds.reads Tl
        obtain ⟨n, hn⟩ : ∃ n, l.length = n := ⟨_, rfl⟩
        rw [hn] at h1 il kl HS ⊢
        have j1 : ¬ (200 : Int) < (n : Int) := by omega
        have y1 : (level != 1) = true := bne_iff_ne.2 d1
        have y2 : (level != 2) = true := bne_iff_ne.2 d2
        clear hn Tl HCl
        go_enter Try.func9, Try.ntmps9
        go_wp2_with fail
        refine (HSh.out _ (Below.refl w.heap.size w)).mono ?_
        rintro e w1 ⟨rfl, b1⟩
        have B1 := bel_trans (Below.refl w.heap.size w) b1
        go_wp2_with fail
        refine (HS.out _ B1).mono ?_
        rintro e w2 hres2
        obtain ⟨u_p, L_p, rfl, b2, o_p, so_p⟩ := hres2
        have B2 := bel_trans B1 b2
        have T_p := IsSts.own o_p so_p (by rw [so_p.1]; simp)
        obtain ⟨a_p, c_p, rfl, i_p, j_p, _⟩ := T_p.len
        go_wp2_with fail
        go_ret
        exact ⟨rfl, B2⟩
  · skip
    obtain ⟨al, cl, rfl, il, jl, kl, HCl⟩ := IsEds.reads Tl
    obtain ⟨n, hn⟩ : ∃ n, l.length = n := ⟨_, rfl⟩
    rw [hn] at h1 il kl ⊢
    have j1 : (200 : Int) < (n : Int) := by omega
    clear hn Tl HCl
    go_enter Try.func9, Try.ntmps9
    go_wp2_with fail
    refine (HSh.out _ (Below.refl w.heap.size w)).mono ?_
    rintro e w1 ⟨rfl, b1⟩
    have B1 := bel_trans (Below.refl w.heap.size w) b1
    go_wp2_with fail
    go_ret
    exact ⟨rfl, B1⟩
end Go.Proofs.Yteehpkkkagdckaa
