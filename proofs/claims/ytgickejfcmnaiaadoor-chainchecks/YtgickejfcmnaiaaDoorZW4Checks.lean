/-
  The walk of ChainChecks.
-/
import Derived.Test.YtgickejfcmnaiaaDoorZShown4
import Derived.Test.YtgickejfcmnaiaaDoorZP4Differ
import Derived.Test.YtgickejfcmnaiaaDoorZR4Differ
import Derived.Test.YtgickejfcmnaiaaDoorZP4Check
import Derived.Test.YtgickejfcmnaiaaDoorZR4Check
namespace Go.Proofs.YtgickejfcmnaiaaDoor
set_option maxRecDepth 100000
open Go.RowKit
set_option linter.unusedVariables false
attribute [local go_sem] ba_size
set_option maxHeartbeats 4000000 in
theorem checks4_walk (w : World) (vl : Value) (L : List Lk) (TL : IsLnk w vl L) (o : List UInt8) (lo : o.length ≤ 140737488351232) (va : Value) (a : List (List UInt8)) (Ta : IsTxt w va a) (Ba : ∀ s ∈ a, s.length ≤ 140737488351232) (Na : a.length ≤ 8796093021952) (vb : Value) (b : List (List UInt8)) (Tb : IsTxt w vb b) (Bb : ∀ s ∈ b, s.length ≤ 140737488351232) (Nb : b.length ≤ 8796093021952) (hG : G w) :
    Calls Tryd.prog 4 #[.agg #[vl, .string ⟨o.toArray⟩, va, vb]] w fun e w' => e = .returned (.bool true) ∧ Below w.heap.size w w' := by
  have hg3 := hG.size
  have HSh : Hid (∀ W, Below w.heap.size w W → Calls Tryd.prog 11 #[] W fun e w' => e = .returned (.bool true) ∧ Below W.heap.size W w') := fun W h => shown4_any W (hG.below h hg3)
  have al : ∀ o, Below w.heap.size w (w.alloc o) := fun o => (Below.refl _ w).alloc (Nat.le_refl _) o
  have HFa : Hid (∀ W, Below w.heap.size w W → Calls Tryd.prog 12 #[va] W fun e w' => e = .returned (.bool (few4L a)) ∧ Below W.heap.size W w') := fun W h => few4_any a va W (Ta.below h)
  have HFb : Hid (∀ W, Below w.heap.size w W → Calls Tryd.prog 12 #[vb] W fun e w' => e = .returned (.bool (few4L b)) ∧ Below W.heap.size W w') := fun W h => few4_any b vb W (Tb.below h)
  have HD : few4L a = true → few4L b = true → Hid (∀ W, Below w.heap.size w W → Calls Tryd.prog 22 #[va, vb] W fun e w' => e = .returned (unV (chDifL sumL a b)) ∧ Below W.heap.size W w') := fun ha hb W h => pdif_any a b va vb W (hG.below h hg3) (Ta.below h) (Tb.below h) (by have := few4_len ha; omega) (by have := few4_len hb; omega)
  have HE : few4L a = true → few4L b = true → Hid (∀ W, Below w.heap.size w W → Calls Tryd.prog 23 #[va, vb] W fun e w' => e = .returned (unV (chDifL sumL a b)) ∧ Below W.heap.size W w') := fun ha hb W h => rdif_any a b va vb W (Ta.below h) (Tb.below h) (by have := few4_len ha; omega) (by have := few4_len hb; omega)
  have CK : Hid (∀ W, Below w.heap.size w W → Calls Tryd.prog 24 #[vl, .string ⟨o.toArray⟩] W fun e w' => e = .returned (.int .i64 (ckL sumL L o : Int)) ∧ Below W.heap.size W w') := fun W h => pcheck_any L vl o W (hG.below h hg3) (TL.below h)
  have RK : Hid (∀ W, Below w.heap.size w W → Calls Tryd.prog 25 #[vl, .string ⟨o.toArray⟩] W fun e w' => e = .returned (.int .i64 (ckL sumL L o : Int)) ∧ Below W.heap.size W w') := fun W h => rcheck_any L vl o W (TL.below h)
  obtain ⟨aa, ca, rfl, _, _, _⟩ := Ta.len
  obtain ⟨ab, cb, rfl, _, _, _⟩ := Tb.len
  obtain ⟨al', cl, rfl, _, _, _, _⟩ := TL.some_at
  clear Ta Tb TL
  obtain ⟨ck, hck⟩ : ∃ c, ckL sumL L o = c := ⟨_, rfl⟩
  rw [hck] at CK RK
  clear hck
  cases fa : few4L a with
  | false =>
    rw [fa] at HFa
    clear HD HE
    go_enter Tryd.func4, Tryd.ntmps4
    go_wp2_with fail
    refine (HSh.out _ (al _)).mono ?_
    rintro e w1 ⟨rfl, b1⟩
    have B1 := bel_trans (al _) b1
    go_wp2_with fail
    refine (HFa.out w1 B1).mono ?_
    rintro e w2 ⟨rfl, b2⟩
    have B2 := bel_trans B1 b2
    go_wp2_with fail
    go_ret
    exact ⟨rfl, B2⟩
  | true =>
    cases fb : few4L b with
    | false =>
      rw [fa] at HFa
      rw [fb] at HFb
      clear HD HE
      go_enter Tryd.func4, Tryd.ntmps4
      go_wp2_with fail
      refine (HSh.out _ (al _)).mono ?_
      rintro e w1 ⟨rfl, b1⟩
      have B1 := bel_trans (al _) b1
      go_wp2_with fail
      refine (HFa.out w1 B1).mono ?_
      rintro e w2 ⟨rfl, b2⟩
      have B2 := bel_trans B1 b2
      go_wp2_with fail
      refine (HFb.out w2 B2).mono ?_
      rintro e w3 ⟨rfl, b3⟩
      have B3 := bel_trans B2 b3
      go_wp2_with fail
      go_ret
      exact ⟨rfl, B3⟩
    | true =>
      have la := few4_len fa
      have lb := few4_len fb
      replace HD := HD fa fb
      replace HE := HE fa fb
      rw [fa] at HFa
      rw [fb] at HFb
      obtain ⟨O, hO⟩ : ∃ O, chDifL sumL a b = O := ⟨_, rfl⟩
      rw [hO] at HD HE
      clear hO fa fb
      by_cases h2 : 200 < L.length
      · have j2 : (200 : Int) < (L.length : Int) := by omega
        clear h2
        go_enter Tryd.func4, Tryd.ntmps4
        go_wp2_with fail
        refine (HSh.out _ (al _)).mono ?_
        rintro e w1 ⟨rfl, b1⟩
        have B1 := bel_trans (al _) b1
        go_wp2_with fail
        refine (HFa.out w1 B1).mono ?_
        rintro e w2 ⟨rfl, b2⟩
        have B2 := bel_trans B1 b2
        go_wp2_with fail
        refine (HFb.out w2 B2).mono ?_
        rintro e w3 ⟨rfl, b3⟩
        have B3 := bel_trans B2 b3
        go_wp2_with fail
        go_ret
        exact ⟨rfl, B3⟩
      · have j2 : ¬ (200 : Int) < (L.length : Int) := by omega
        clear h2
        rcases O with _ | ⟨x, y⟩
        · go_enter Tryd.func4, Tryd.ntmps4
          go_wp2_with fail
          refine (HSh.out _ (al _)).mono ?_
          rintro e w1 ⟨rfl, b1⟩
          have B1 := bel_trans (al _) b1
          go_wp2_with fail
          refine (HFa.out w1 B1).mono ?_
          rintro e w2 ⟨rfl, b2⟩
          have B2 := bel_trans B1 b2
          go_wp2_with fail
          refine (HFb.out w2 B2).mono ?_
          rintro e w3 ⟨rfl, b3⟩
          have B3 := bel_trans B2 b3
          go_wp2_with fail
          refine (HD.out w3 B3).mono ?_
          rintro e w4 ⟨rfl, b4⟩
          have B4 := bel_trans B3 b4
          simp only [unV]
          go_wp2_with fail
          refine (HE.out w4 B4).mono ?_
          rintro e w5 ⟨rfl, b5⟩
          have B5 := bel_trans B4 b5
          simp only [unV]
          go_wp2_with fail
          refine (CK.out w5 B5).mono ?_
          rintro e w6 ⟨rfl, b6⟩
          have B6 := bel_trans B5 b6
          go_wp2_with fail
          refine (RK.out w6 B6).mono ?_
          rintro e w7 ⟨rfl, b7⟩
          have B7 := bel_trans B6 b7
          go_wp2_with fail
          go_ret
          exact ⟨rfl, B7⟩
        · go_enter Tryd.func4, Tryd.ntmps4
          go_wp2_with fail
          refine (HSh.out _ (al _)).mono ?_
          rintro e w1 ⟨rfl, b1⟩
          have B1 := bel_trans (al _) b1
          go_wp2_with fail
          refine (HFa.out w1 B1).mono ?_
          rintro e w2 ⟨rfl, b2⟩
          have B2 := bel_trans B1 b2
          go_wp2_with fail
          refine (HFb.out w2 B2).mono ?_
          rintro e w3 ⟨rfl, b3⟩
          have B3 := bel_trans B2 b3
          go_wp2_with fail
          refine (HD.out w3 B3).mono ?_
          rintro e w4 ⟨rfl, b4⟩
          have B4 := bel_trans B3 b4
          simp only [unV]
          go_wp2_with fail
          refine (HE.out w4 B4).mono ?_
          rintro e w5 ⟨rfl, b5⟩
          have B5 := bel_trans B4 b5
          simp only [unV]
          go_wp2_with fail
          refine (CK.out w5 B5).mono ?_
          rintro e w6 ⟨rfl, b6⟩
          have B6 := bel_trans B5 b6
          go_wp2_with fail
          refine (RK.out w6 B6).mono ?_
          rintro e w7 ⟨rfl, b7⟩
          have B7 := bel_trans B6 b7
          go_wp2_with fail
          go_ret
          exact ⟨rfl, B7⟩
end Go.Proofs.YtgickejfcmnaiaaDoor
