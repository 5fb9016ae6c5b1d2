/-
  The walk of EdgesStep.
-/
import Derived.Test.YteehpkkkagdckaaZShown10
import Derived.Test.YteehpkkkagdckaaZEdges10
import Derived.Test.YteehpkkkagdckaaZR10Steps
import Derived.Test.YteehpkkkagdckaaZR10SameS
import Derived.Deep.RegionHeld3
import Derived.BigQuiet
import Derived.Deep.QuietTactic
import Derived.Lib.Hide
namespace Go.Proofs.Yteehpkkkagdckaa
set_option maxRecDepth 100000
open Go.RowKit
set_option linter.unusedVariables false
attribute [local go_sem] ba_size ba_append ba_get ba_extract
set_option maxHeartbeats 4000000 in
theorem step10_walk (C : P10C) (w : World) (level : Int) (gl : okN level) (vl : Value) (l : List Ed) (Tl : IsEds w vl l) (Gl : ∀ x ∈ l, goodEd x) :
    Calls Try.prog 4 #[.int .i64 level, vl] w fun e w' => e = .returned (.bool true) ∧ Below w.heap.size w w' := by
  have HSh : Hid (∀ W, Below w.heap.size w W → Calls Try.prog 10 #[] W fun e w' => e = .returned (.bool true) ∧ Below W.heap.size W w') := fun W h => shown10_any C W
  by_cases h1 : l.length ≤ 200
  · skip
    have HS : Hid (∀ W, Below w.heap.size w W → Calls Try.prog 21 #[.int .i64 level, vl] W fun e w' => StRow 50 W (stepsL level l) e w') := fun W hb => C.steps level l vl W (Tl.below hb) Gl (by omega) gl
    have RS : Hid (∀ W, Below w.heap.size w W → Calls Try.prog 22 #[.int .i64 level, vl] W fun e w' => StRow 50 W (stepsL level l) e w') := fun W hb => rsteps_any level l vl W (Tl.below hb) (by omega)
    have SS : Hid (∀ (L : List Stp) v1 v2 W, IsSts W v1 L → IsSts W v2 L → Calls Try.prog 20 #[v1, v2] W fun e w' => e = .returned (.bool true) ∧ Below W.heap.size W w') := fun L v1 v2 W h1 h2 => rsames_any v1 v2 L W h1 h2
    have bS := steps_len level l 200 h1
    obtain ⟨al, cl, rfl, il, jl, kl, HCl⟩ := Tl.reads
    obtain ⟨n, hn⟩ : ∃ n, l.length = n := ⟨_, rfl⟩
    obtain ⟨SL, hSL⟩ : ∃ y, stepsL level l = y := ⟨_, rfl⟩
    rw [hSL] at HS RS bS
    rw [hn] at h1 il kl HS RS ⊢
    have j1 : ¬ (200 : Int) < (n : Int) := by omega
    clear hSL hn Tl HCl
    go_enter Try.func4, Try.ntmps4
    go_wp2_with fail
    refine (HSh.out _ (Below.refl w.heap.size w)).mono ?_
    rintro e w1 ⟨rfl, b1⟩
    have B1 := bel_trans (Below.refl w.heap.size w) b1
    go_wp2_with fail
    refine (HS.out _ B1).mono ?_
    rintro e w2 hres2
    obtain ⟨u_p, L_p, rfl, b2, o_p, so_p⟩ := hres2
    have B2 := bel_trans B1 b2
    have T_p := IsSts.own o_p so_p (by rw [so_p.1]; omega)
    obtain ⟨a_p, c_p, rfl, i_p, j_p, _⟩ := T_p.len
    go_wp2_with fail
    refine (RS.out _ B2).mono ?_
    rintro e w3 hres3
    obtain ⟨u_q, L_q, rfl, b3, o_q, so_q⟩ := hres3
    have B3 := bel_trans B2 b3
    replace T_p := T_p.below b3
    have T_q := IsSts.own o_q so_q (by rw [so_q.1]; omega)
    obtain ⟨a_q, c_q, rfl, i_q, j_q, _⟩ := T_q.len
    go_wp2_with fail
    refine (SS.out _ _ _ _ T_p T_q).mono ?_
    rintro e w4 ⟨rfl, b4⟩
    have B4 := bel_trans B3 b4
    replace T_p := T_p.below b4
    replace T_q := T_q.below b4
    go_wp2_with fail
    go_ret
    exact ⟨rfl, B4⟩
  · skip
    obtain ⟨al, cl, rfl, il, jl, kl, HCl⟩ := Tl.reads
    obtain ⟨n, hn⟩ : ∃ n, l.length = n := ⟨_, rfl⟩
    rw [hn] at h1 il kl ⊢
    have j1 : (200 : Int) < (n : Int) := by omega
    clear hn Tl HCl
    go_enter Try.func4, Try.ntmps4
    go_wp2_with fail
    refine (HSh.out _ (Below.refl w.heap.size w)).mono ?_
    rintro e w1 ⟨rfl, b1⟩
    have B1 := bel_trans (Below.refl w.heap.size w) b1
    go_wp2_with fail
    go_ret
    exact ⟨rfl, B1⟩
end Go.Proofs.Yteehpkkkagdckaa
