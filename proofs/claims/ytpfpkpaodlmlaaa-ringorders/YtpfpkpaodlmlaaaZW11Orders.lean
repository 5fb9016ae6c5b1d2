/-
  The walk of RingOrders.
-/
import Derived.Test.YtpfpkpaodlmlaaaZShown11
import Derived.Test.YtpfpkpaodlmlaaaZFwd11
import Derived.Test.YtpfpkpaodlmlaaaZR8Ints
import Derived.Deep.RegionHeld3
import Derived.BigQuiet
import Derived.Deep.QuietTactic
import Derived.Lib.Hide
namespace Go.Proofs.Ytpfpkpaodlmlaaa
set_option maxRecDepth 100000
open Go.RowKit
set_option linter.unusedVariables false
attribute [local go_sem] ba_size ba_append ba_get ba_extract
set_option maxHeartbeats 4000000 in
theorem orders11_walk {nb lb : Nat} (C : P11C nb lb) (hnb : 300 ≤ nb) (hlb : 120 ≤ lb) (w : World) (vn : Value) (n : List Int) (Tn : IsInts w vn n) (Sn : Shp vn) (Gn : ∀ x ∈ n, okS x) (vl : Value) (l : List Stp) (Tl : IsSts w vl l) (Sl : Shp vl) (Gl : ∀ x ∈ l, goodSt x) (vo : Value) (o : List Int) (To : IsInts w vo o) (So : Shp vo) (Go : ∀ x ∈ o, okS x) :
    Calls Try.prog 3 #[vn, vl, vo] w fun e w' => e = .returned (.bool true) ∧ Below w.heap.size w w' := by
  have HSh : Hid (∀ W, Below w.heap.size w W → Calls Try.prog 10 #[] W fun e w' => e = .returned (.bool true) ∧ Below W.heap.size W w') := fun W h => shown11_any C (by omega) (by omega) W
  have HF : Hid (∀ W, Below w.heap.size w W → Calls Try.prog 11 #[vl] W fun e w' => e = .returned (.bool (decide (l.length ≤ 120))) ∧ Below W.heap.size W w') := fun W hb => few11_any vl l W (Tl.below hb)
  by_cases h1 : l.length ≤ 120
  · rw [decide_eq_true h1] at HF
    by_cases h2 : n.length ≤ 100
    · by_cases h3 : o.length ≤ 300
      · skip
        have HO : Hid (∀ W, Below w.heap.size w W → Calls Try.prog 12 #[vn, vl] W fun e w' => OrdRes W (orderL n l) e w') := fun W hb => C.order n l vn vl W (Tn.below hb) Sn Gn (Tl.below hb) Sl Gl (by omega) (by omega)
        have RO : Hid (∀ W, Below w.heap.size w W → Calls Try.prog 13 #[vn, vl] W fun e w' => OrdRes W (orderL n l) e w') := fun W hb => rorder_any vn vl n l W (Tn.below hb) Sn (Tl.below hb) (by omega)
        have HW : Hid (∀ W, Below w.heap.size w W → Calls Try.prog 15 #[vo, vl] W fun e w' => e = .returned (.bool (fwdB o l)) ∧ Below W.heap.size W w') := fun W hb => C.forward o l vo vl W (To.below hb) So Go (Tl.below hb) Sl Gl (by omega) (by omega)
        have RW : Hid (∀ W, Below w.heap.size w W → Calls Try.prog 16 #[vo, vl] W fun e w' => e = .returned (.bool (fwdB o l)) ∧ Below W.heap.size W w') := fun W hb => rforward_any vo vl o l W (To.below hb) (Tl.below hb)
        have SI : Hid (∀ (L : List Int) v1 v2 W, IsInts W v1 L → IsInts W v2 L → Calls Try.prog 14 #[v1, v2] W fun e w' => e = .returned (.bool true) ∧ Below W.heap.size W w') := fun L v1 v2 W h1 h2 => by have := rints_any v1 v2 L L W h1 h2; rw [decide_eq_true rfl] at this; exact this
        have bO : ((orderL n l).getD []).length ≤ 100 := by
          cases hr : orderL n l with
          | none => simp
          | some o' => have := orderF_few l n.length n o' hr; simp; omega
        obtain ⟨r, hr⟩ : ∃ r, orderL n l = r := ⟨_, rfl⟩
        rw [hr] at HO RO bO
        obtain ⟨fw, hfw⟩ : ∃ b, fwdB o l = b := ⟨_, rfl⟩
        rw [hfw] at HW RW
        clear hr hfw
        have e_fw : (fw == fw) = true := beq_self_eq_true fw
        obtain ⟨al, cl, rfl, il, jl, kl⟩ := Tl.len
        obtain ⟨a_n, c_n, rfl, i_n, j_n, k_n, HCn⟩ := IsInts.reads Tn
        obtain ⟨a_o, c_o, rfl, i_o, j_o, k_o, HCo⟩ := IsInts.reads To
        obtain ⟨nn, hnn⟩ : ∃ nn, n.length = nn := ⟨_, rfl⟩
        obtain ⟨no, hno⟩ : ∃ no, o.length = no := ⟨_, rfl⟩
        obtain ⟨nl, hnl⟩ : ∃ nl, l.length = nl := ⟨_, rfl⟩
        have j2 : ¬ (100 : Int) < (nn : Int) := by omega
        have j3 : ¬ (300 : Int) < (no : Int) := by omega
        rw [hnn] at Tn HO RO ⊢
        rw [hno] at To HW RW ⊢
        rw [hnl] at Tl HF HO RO HW RW ⊢
        clear hnn hno hnl HCn HCo
        cases r with
        | none =>
          skip
          go_enter Try.func3, Try.ntmps3
          go_wp2_with fail
          refine (HSh.out _ (Below.refl w.heap.size w)).mono ?_
          rintro e w1 ⟨rfl, b1⟩
          have B1 := bel_trans (Below.refl w.heap.size w) b1
          go_wp2_with fail
          refine (HF.out _ B1).mono ?_
          rintro e w2 ⟨rfl, b2⟩
          have B2 := bel_trans B1 b2
          go_wp2_with fail
          refine (HO.out _ B2).mono ?_
          rintro e w3 hres3
          obtain ⟨u_p, rfl, b3, o_p⟩ := hres3
          have B3 := bel_trans B2 b3
          have T_p := ints_own (l := []) o_p (by first | (simp; done) | omega)
          obtain ⟨a_p, c_p, rfl, i_p, j_p, _, HC_p⟩ := T_p.some_at
          go_wp2_with fail
          refine (RO.out _ B3).mono ?_
          rintro e w4 hres4
          obtain ⟨u_q, rfl, b4, o_q⟩ := hres4
          have B4 := bel_trans B3 b4
          replace T_p := T_p.below b4
          have T_q := ints_own (l := []) o_q (by first | (simp; done) | omega)
          obtain ⟨a_q, c_q, rfl, i_q, j_q, _, HC_q⟩ := T_q.some_at
          go_wp2_with fail
          refine (SI.out _ _ _ _ T_p T_q).mono ?_
          rintro e w5 ⟨rfl, b5⟩
          have B5 := bel_trans B4 b5
          replace T_p := T_p.below b5
          replace T_q := T_q.below b5
          go_wp2_with fail
          refine (HW.out _ B5).mono ?_
          rintro e w6 ⟨rfl, b6⟩
          have B6 := bel_trans B5 b6
          replace T_p := T_p.below b6
          replace T_q := T_q.below b6
          go_wp2_with fail
          refine (RW.out _ B6).mono ?_
          rintro e w7 ⟨rfl, b7⟩
          have B7 := bel_trans B6 b7
          replace T_p := T_p.below b7
          replace T_q := T_q.below b7
          go_wp2_with fail
          go_ret
          exact ⟨rfl, B7⟩
        | some r' =>
          simp only [Option.getD_some] at bO
          go_enter Try.func3, Try.ntmps3
          go_wp2_with fail
          refine (HSh.out _ (Below.refl w.heap.size w)).mono ?_
          rintro e w1 ⟨rfl, b1⟩
          have B1 := bel_trans (Below.refl w.heap.size w) b1
          go_wp2_with fail
          refine (HF.out _ B1).mono ?_
          rintro e w2 ⟨rfl, b2⟩
          have B2 := bel_trans B1 b2
          go_wp2_with fail
          refine (HO.out _ B2).mono ?_
          rintro e w3 hres3
          obtain ⟨u_p, rfl, b3, o_p⟩ := hres3
          have B3 := bel_trans B2 b3
          have T_p := ints_own (l := r') o_p (by first | (simp; done) | omega)
          obtain ⟨a_p, c_p, rfl, i_p, j_p, _, HC_p⟩ := T_p.some_at
          go_wp2_with fail
          refine (RO.out _ B3).mono ?_
          rintro e w4 hres4
          obtain ⟨u_q, rfl, b4, o_q⟩ := hres4
          have B4 := bel_trans B3 b4
          replace T_p := T_p.below b4
          have T_q := ints_own (l := r') o_q (by first | (simp; done) | omega)
          obtain ⟨a_q, c_q, rfl, i_q, j_q, _, HC_q⟩ := T_q.some_at
          go_wp2_with fail
          refine (SI.out _ _ _ _ T_p T_q).mono ?_
          rintro e w5 ⟨rfl, b5⟩
          have B5 := bel_trans B4 b5
          replace T_p := T_p.below b5
          replace T_q := T_q.below b5
          go_wp2_with fail
          refine (HW.out _ B5).mono ?_
          rintro e w6 ⟨rfl, b6⟩
          have B6 := bel_trans B5 b6
          replace T_p := T_p.below b6
          replace T_q := T_q.below b6
          go_wp2_with fail
          refine (RW.out _ B6).mono ?_
          rintro e w7 ⟨rfl, b7⟩
          have B7 := bel_trans B6 b7
          replace T_p := T_p.below b7
          replace T_q := T_q.below b7
          go_wp2_with fail
          go_ret
          exact ⟨rfl, B7⟩
      · skip
        obtain ⟨al, cl, rfl, il, jl, kl⟩ := Tl.len
        obtain ⟨a_n, c_n, rfl, i_n, j_n, k_n, HCn⟩ := IsInts.reads Tn
        obtain ⟨a_o, c_o, rfl, i_o, j_o, k_o, HCo⟩ := IsInts.reads To
        obtain ⟨nn, hnn⟩ : ∃ nn, n.length = nn := ⟨_, rfl⟩
        obtain ⟨no, hno⟩ : ∃ no, o.length = no := ⟨_, rfl⟩
        obtain ⟨nl, hnl⟩ : ∃ nl, l.length = nl := ⟨_, rfl⟩
        have j2 : ¬ (100 : Int) < (nn : Int) := by omega
        have j3 : (300 : Int) < (no : Int) := by omega
        rw [hnn] at Tn ⊢
        rw [hno] at To ⊢
        rw [hnl] at Tl HF ⊢
        clear hnn hno hnl HCn HCo
        go_enter Try.func3, Try.ntmps3
        go_wp2_with fail
        refine (HSh.out _ (Below.refl w.heap.size w)).mono ?_
        rintro e w1 ⟨rfl, b1⟩
        have B1 := bel_trans (Below.refl w.heap.size w) b1
        go_wp2_with fail
        refine (HF.out _ B1).mono ?_
        rintro e w2 ⟨rfl, b2⟩
        have B2 := bel_trans B1 b2
        go_wp2_with fail
        go_ret
        exact ⟨rfl, B2⟩
    · skip
      obtain ⟨al, cl, rfl, il, jl, kl⟩ := Tl.len
      obtain ⟨a_n, c_n, rfl, i_n, j_n, k_n, HCn⟩ := IsInts.reads Tn
      obtain ⟨a_o, c_o, rfl, i_o, j_o, k_o, HCo⟩ := IsInts.reads To
      obtain ⟨nn, hnn⟩ : ∃ nn, n.length = nn := ⟨_, rfl⟩
      obtain ⟨no, hno⟩ : ∃ no, o.length = no := ⟨_, rfl⟩
      obtain ⟨nl, hnl⟩ : ∃ nl, l.length = nl := ⟨_, rfl⟩
      have j2 : (100 : Int) < (nn : Int) := by omega
      rw [hnn] at Tn ⊢
      rw [hno] at To ⊢
      rw [hnl] at Tl HF ⊢
      clear hnn hno hnl HCn HCo
      go_enter Try.func3, Try.ntmps3
      go_wp2_with fail
      refine (HSh.out _ (Below.refl w.heap.size w)).mono ?_
      rintro e w1 ⟨rfl, b1⟩
      have B1 := bel_trans (Below.refl w.heap.size w) b1
      go_wp2_with fail
      refine (HF.out _ B1).mono ?_
      rintro e w2 ⟨rfl, b2⟩
      have B2 := bel_trans B1 b2
      go_wp2_with fail
      go_ret
      exact ⟨rfl, B2⟩
  · rw [decide_eq_false h1] at HF
    obtain ⟨al, cl, rfl, il, jl, kl⟩ := Tl.len
    obtain ⟨a_n, c_n, rfl, i_n, j_n, k_n, HCn⟩ := IsInts.reads Tn
    obtain ⟨a_o, c_o, rfl, i_o, j_o, k_o, HCo⟩ := IsInts.reads To
    obtain ⟨nn, hnn⟩ : ∃ nn, n.length = nn := ⟨_, rfl⟩
    obtain ⟨no, hno⟩ : ∃ no, o.length = no := ⟨_, rfl⟩
    obtain ⟨nl, hnl⟩ : ∃ nl, l.length = nl := ⟨_, rfl⟩
    rw [hnn] at Tn ⊢
    rw [hno] at To ⊢
    rw [hnl] at Tl HF ⊢
    clear hnn hno hnl HCn HCo
    go_enter Try.func3, Try.ntmps3
    go_wp2_with fail
    refine (HSh.out _ (Below.refl w.heap.size w)).mono ?_
    rintro e w1 ⟨rfl, b1⟩
    have B1 := bel_trans (Below.refl w.heap.size w) b1
    go_wp2_with fail
    refine (HF.out _ B1).mono ?_
    rintro e w2 ⟨rfl, b2⟩
    have B2 := bel_trans B1 b2
    go_wp2_with fail
    go_ret
    exact ⟨rfl, B2⟩
end Go.Proofs.Ytpfpkpaodlmlaaa
