/-
  The walk of RingFinds.
-/
import Derived.Test.YtpfpkpaodlmlaaaZShown11
import Derived.Test.YtpfpkpaodlmlaaaZFwd11
import Derived.Test.YtpfpkpaodlmlaaaZR11Ring
import Derived.Test.YtpfpkpaodlmlaaaZR10SameS
import Derived.Deep.RegionHeld3
import Derived.BigQuiet
import Derived.Deep.QuietTactic
import Derived.Lib.Hide
namespace Go.Proofs.Ytpfpkpaodlmlaaa
set_option maxRecDepth 100000
open Go.RowKit
set_option linter.unusedVariables false
attribute [local go_sem] ba_size ba_append ba_get ba_extract
set_option maxHeartbeats 4000000 in
theorem finds11_walk {nb lb : Nat} (C : P11C nb lb) (hnb : 300 ≤ nb) (hlb : 120 ≤ lb) (w : World) (vl : Value) (l : List Stp) (Tl : IsSts w vl l) (Sl : Shp vl) (Gl : ∀ x ∈ l, goodSt x) :
    Calls Try.prog 4 #[vl] w fun e w' => e = .returned (.bool true) ∧ Below w.heap.size w w' := by
  have HSh : Hid (∀ W, Below w.heap.size w W → Calls Try.prog 10 #[] W fun e w' => e = .returned (.bool true) ∧ Below W.heap.size W w') := fun W h => shown11_any C (by omega) (by omega) W
  by_cases h1 : l.length ≤ 40
  · skip
    have HR : Hid (∀ W, Below w.heap.size w W → Calls Try.prog 17 #[vl] W fun e w' => RingRes 37 W (ringL l) e w') := fun W hb => C.ring l vl W (Tl.below hb) Sl Gl (by omega)
    have RR : Hid (∀ W, Below w.heap.size w W → Calls Try.prog 18 #[vl] W fun e w' => RingRes 37 W (ringL l) e w') := fun W hb => rring_any vl l W (Tl.below hb) (by omega)
    have HC : Hid (∀ W, Below w.heap.size w W → Calls Try.prog 20 #[vl] W fun e w' => e = .returned (.bool (clB l)) ∧ Below W.heap.size W w') := fun W hb => C.closed l vl W (Tl.below hb) Sl Gl (by omega)
    have RC : Hid (∀ W, Below w.heap.size w W → Calls Try.prog 21 #[vl] W fun e w' => e = .returned (.bool (clB l)) ∧ Below W.heap.size W w') := fun W hb => rclosed_any vl l W (Tl.below hb)
    have SS : Hid (∀ (L : List Stp) v1 v2 W, IsSts W v1 L → IsSts W v2 L → Calls Try.prog 19 #[v1, v2] W fun e w' => e = .returned (.bool true) ∧ Below W.heap.size W w') := fun L v1 v2 W h1 h2 => rsames_any v1 v2 L W h1 h2
    have bR : ((ringL l).getD []).length ≤ 40 := by
      cases hr : ringL l with
      | none => simp
      | some r' =>
        rcases ringL_few l r' hr with h | h
        · simp; omega
        · subst h; cases hr
    obtain ⟨r, hr⟩ : ∃ r, ringL l = r := ⟨_, rfl⟩
    rw [hr] at HR RR bR
    obtain ⟨cb, hcb⟩ : ∃ b, clB l = b := ⟨_, rfl⟩
    rw [hcb] at HC RC
    clear hr hcb
    have e_cb : (cb == cb) = true := beq_self_eq_true cb
    obtain ⟨al, cl, rfl, il, jl, kl⟩ := Tl.len
    obtain ⟨nl, hnl⟩ : ∃ nl, l.length = nl := ⟨_, rfl⟩
    have j1 : ¬ (40 : Int) < (nl : Int) := by omega
    rw [hnl] at Tl HR RR HC RC ⊢
    clear hnl
    cases r with
    | none =>
      skip
      go_enter Try.func4, Try.ntmps4
      go_wp2_with fail
      refine (HSh.out _ (Below.refl w.heap.size w)).mono ?_
      rintro e w1 ⟨rfl, b1⟩
      have B1 := bel_trans (Below.refl w.heap.size w) b1
      go_wp2_with fail
      refine (HR.out _ B1).mono ?_
      rintro e w2 hres2
      obtain ⟨u_p, L_p, rfl, b2, o_p, so_p⟩ := hres2
      have B2 := bel_trans B1 b2
      have T_p := IsSts.own o_p so_p (by rw [so_p.1]; first | (simp; done) | (simp only [Option.getD_some]; omega))
      obtain ⟨a_p, c_p, rfl, i_p, j_p, _⟩ := T_p.len
      go_wp2_with fail
      refine (RR.out _ B2).mono ?_
      rintro e w3 hres3
      obtain ⟨u_q, L_q, rfl, b3, o_q, so_q⟩ := hres3
      have B3 := bel_trans B2 b3
      replace T_p := T_p.below b3
      have T_q := IsSts.own o_q so_q (by rw [so_q.1]; first | (simp; done) | (simp only [Option.getD_some]; omega))
      obtain ⟨a_q, c_q, rfl, i_q, j_q, _⟩ := T_q.len
      go_wp2_with fail
      refine (SS.out _ _ _ _ T_p T_q).mono ?_
      rintro e w4 ⟨rfl, b4⟩
      have B4 := bel_trans B3 b4
      replace T_p := T_p.below b4
      replace T_q := T_q.below b4
      go_wp2_with fail
      refine (HC.out _ B4).mono ?_
      rintro e w5 ⟨rfl, b5⟩
      have B5 := bel_trans B4 b5
      replace T_p := T_p.below b5
      replace T_q := T_q.below b5
      go_wp2_with fail
      refine (RC.out _ B5).mono ?_
      rintro e w6 ⟨rfl, b6⟩
      have B6 := bel_trans B5 b6
      replace T_p := T_p.below b6
      replace T_q := T_q.below b6
      go_wp2_with fail
      go_ret
      exact ⟨rfl, B6⟩
    | some r' =>
      simp only [Option.getD_some] at bR
      go_enter Try.func4, Try.ntmps4
      go_wp2_with fail
      refine (HSh.out _ (Below.refl w.heap.size w)).mono ?_
      rintro e w1 ⟨rfl, b1⟩
      have B1 := bel_trans (Below.refl w.heap.size w) b1
      go_wp2_with fail
      refine (HR.out _ B1).mono ?_
      rintro e w2 hres2
      obtain ⟨u_p, L_p, rfl, b2, o_p, so_p⟩ := hres2
      have B2 := bel_trans B1 b2
      have T_p := IsSts.own o_p so_p (by rw [so_p.1]; first | (simp; done) | (simp only [Option.getD_some]; omega))
      obtain ⟨a_p, c_p, rfl, i_p, j_p, _⟩ := T_p.len
      go_wp2_with fail
      refine (RR.out _ B2).mono ?_
      rintro e w3 hres3
      obtain ⟨u_q, L_q, rfl, b3, o_q, so_q⟩ := hres3
      have B3 := bel_trans B2 b3
      replace T_p := T_p.below b3
      have T_q := IsSts.own o_q so_q (by rw [so_q.1]; first | (simp; done) | (simp only [Option.getD_some]; omega))
      obtain ⟨a_q, c_q, rfl, i_q, j_q, _⟩ := T_q.len
      go_wp2_with fail
      refine (SS.out _ _ _ _ T_p T_q).mono ?_
      rintro e w4 ⟨rfl, b4⟩
      have B4 := bel_trans B3 b4
      replace T_p := T_p.below b4
      replace T_q := T_q.below b4
      go_wp2_with fail
      refine (HC.out _ B4).mono ?_
      rintro e w5 ⟨rfl, b5⟩
      have B5 := bel_trans B4 b5
      replace T_p := T_p.below b5
      replace T_q := T_q.below b5
      go_wp2_with fail
      refine (RC.out _ B5).mono ?_
      rintro e w6 ⟨rfl, b6⟩
      have B6 := bel_trans B5 b6
      replace T_p := T_p.below b6
      replace T_q := T_q.below b6
      go_wp2_with fail
      go_ret
      exact ⟨rfl, B6⟩
  · skip
    obtain ⟨al, cl, rfl, il, jl, kl⟩ := Tl.len
    obtain ⟨nl, hnl⟩ : ∃ nl, l.length = nl := ⟨_, rfl⟩
    have j1 : (40 : Int) < (nl : Int) := by omega
    rw [hnl] at Tl ⊢
    clear hnl
    go_enter Try.func4, Try.ntmps4
    go_wp2_with fail
    refine (HSh.out _ (Below.refl w.heap.size w)).mono ?_
    rintro e w1 ⟨rfl, b1⟩
    have B1 := bel_trans (Below.refl w.heap.size w) b1
    go_wp2_with fail
    go_ret
    exact ⟨rfl, B1⟩
end Go.Proofs.Ytpfpkpaodlmlaaa
