/-
  The walk of EdgesHold.
-/
import Derived.Test.YteehpkkkagdckaaZShown10
import Derived.Test.YteehpkkkagdckaaZEdges10
import Derived.Test.YteehpkkkagdckaaZEdges10b
import Derived.Test.YteehpkkkagdckaaGR
import Derived.Test.YteehpkkkagdckaaZR8Formed
import Derived.Test.YteehpkkkagdckaaZBads9
import Derived.Deep.RegionHeld3
import Derived.BigQuiet
import Derived.Deep.QuietTactic
import Derived.Lib.Hide
namespace Go.Proofs.Yteehpkkkagdckaa
set_option maxRecDepth 100000
open Go.RowKit
set_option linter.unusedVariables false
attribute [local go_sem] ba_size ba_append ba_get ba_extract
set_option maxHeartbeats 4000000 in
theorem hold10_walk (C : P10C) (w : World) (vh : Value) (h : List Ev) (Th : IsEvs w vh h) (Gh : ∀ x ∈ h, goodE x) (Nh : h.length * 48 ≤ 140737488351232) :
    Calls Try.prog 5 #[vh] w fun e w' => e = .returned (.bool true) ∧ Below w.heap.size w w' := by
  have HSh : Hid (∀ W, Below w.heap.size w W → Calls Try.prog 10 #[] W fun e w' => e = .returned (.bool true) ∧ Below W.heap.size W w') := fun W h => shown10_any C W
  have HF : Hid (∀ W, Below w.heap.size w W → Calls Try.prog 11 #[vh] W fun e w' => e = .returned (.bool (decide (fewH h))) ∧ Below W.heap.size W w') := fun W hb => few10_any vh h W (Th.below hb)
  have RM : Hid (∀ W, Below w.heap.size w W → Calls Try.prog 23 #[vh] W fun e w' => e = .returned (.tuple #[.int .i64 ((formedL h).1 : Int), .int .i64 ((formedL h).2 : Int)]) ∧ Below W.heap.size W w') := fun W hb => rformed_any h vh W (Th.below hb)
  have RB : Hid (∀ W, Below w.heap.size w W → Calls Try.prog 24 #[vh] W fun e w' => BdRow 69 W (badsL h) e w') := fun W hb => rbads_big h vh W (Th.below hb) (by omega)
  by_cases h1 : fewH h
  · have hn3 : h.length ≤ 300 := by have := h1.2; omega
    by_cases h2 : (formedL h).2 = 0
    · have hw := (formed_ok h).1 h2
      rw [formed_wf h hw] at RM
      simp only at RM
      rw [decide_eq_true h1] at HF
      clear h2
      by_cases h3 : badsL h = []
      · rw [h3] at RB
        have GE : Hid (∀ x ∈ edgesL h, goodEd x) := fun x hx => edges_good h hn3 Gh x hx
        have HA : Hid (∀ W, Below w.heap.size w W → Calls Try.prog 13 #[vh] W fun e w' => EdRow 24 W (edgesL h) e w') := fun W hb => C.all h vh W (Th.below hb) Gh hn3
        have HO : Hid (∀ (x : Ed), goodEd x → ∀ W, Below w.heap.size w W → Calls Try.prog 18 #[vh, .agg #[.int .i64 x.1, .int .i64 x.2.1, .int .i64 x.2.2.1, .int .i64 x.2.2.2.1, .int .i64 x.2.2.2.2]] W fun e w' => e = .returned (.bool (holdsC h x)) ∧ Below W.heap.size W w') := fun x gx W hb => C.holds h vh W x.1 x.2.1 x.2.2.1 x.2.2.2.1 x.2.2.2.2 (Th.below hb) Gh hn3 gx
        have bE := edges_few h hn3
        have HH : Hid (∀ x ∈ edgesL h, holdsC h x = true) := fun x hx => (holdsC_iff h x).2 (edges_hold hw x hx)
        obtain ⟨EE, hEE⟩ : ∃ y, edgesL h = y := ⟨_, rfl⟩
        rw [hEE] at HA bE HH GE
        clear hEE h3
        obtain ⟨ah, ch, rfl, ih, jh, kh, HCh⟩ := Th.reads
        go_enter Try.func5, Try.ntmps5
        go_wp2_with fail
        refine (HSh.out _ (Below.refl w.heap.size w)).mono ?_
        rintro e w1 ⟨rfl, b1⟩
        have B1 := bel_trans (Below.refl w.heap.size w) b1
        go_wp2_with fail
        refine (HF.out _ B1).mono ?_
        rintro e w2 ⟨rfl, b2⟩
        have B2 := bel_trans B1 b2
        go_wp2_with fail
        refine (RM.out _ B2).mono ?_
        rintro e w3 ⟨rfl, b3⟩
        have B3 := bel_trans B2 b3
        go_wp2_with fail
        refine (RB.out _ B3).mono ?_
        rintro e w4 hres4
        obtain ⟨u_z, rfl, b4, o_z⟩ := hres4
        have B4 := bel_trans B3 b4
        have T_z := IsRec.own (L := ([] : List Bd)) badV_len (by omega) o_z (by simp)
        obtain ⟨a_z, c_z, rfl, i_z, j_z, _, HC_z⟩ := T_z.some_at
        go_wp2_with fail
        refine (HA.out _ B4).mono ?_
        rintro e w5 hres5
        obtain ⟨u_p, rfl, b5, o_p⟩ := hres5
        have B5 := bel_trans B4 b5
        replace T_z := T_z.below b5
        have T_p := IsRec.own (L := EE) edV_len (by omega) o_p (by omega)
        obtain ⟨a_p, c_p, rfl, i_p, j_p, k_p, HC_p⟩ := IsEds.reads T_p
        obtain ⟨m, hm⟩ : ∃ m, EE.length = m := ⟨_, rfl⟩
        have HM : Hid (EE.length = m) := hm
        rw [hm] at i_p k_p ⊢
        clear hm T_p T_z
        go_wp2_with fail
        go_loopw [9] (fun i wr => ∃ q : Nat, q ≤ m ∧ i = .int .i64 q ∧ Below w5.heap.size w5 wr) (fun i _ => m - (intOf i).toNat)
        case atStart => exact ⟨0, Nat.zero_le _, rfl, Below.refl _ _⟩
        case round =>
          obtain ⟨q, hq, rfl, hbw⟩ := hrel
          by_cases hlt : q < m
          · have hq1 : q < EE.length := by have := HM.out; omega
            have jq : (q : Int) < (m : Int) := by omega
            obtain ⟨bb, off, rfl, HQ⟩ := HC_p.out (by omega)
            obtain ⟨c0, c1, c2, c3, c4⟩ := HQ.out q hq1 _ hbw
            have D := HO.out EE[q] (GE.out _ (List.getElem_mem hq1))
            rw [HH.out _ (List.getElem_mem hq1)] at D
            obtain ⟨⟨x0, x1, x2, x3, x4⟩, hx⟩ : ∃ x, EE[q] = x := ⟨_, rfl⟩
            rw [hx] at c0 c1 c2 c3 c4 D
            simp only at c0 c1 c2 c3 c4 D
            clear hx
            go_wp2_with fail
            refine (D _ (bel_trans B5 hbw)).mono ?_
            rintro e w6 ⟨rfl, b6⟩
            go_wp2_with fail
            refine ⟨⟨q + 1, by omega, by first | go_num | simp, bel_trans hbw b6⟩, by simp [intOf]; omega⟩
          · obtain rfl : q = m := by omega
            have jq : ¬ (q : Int) < (q : Int) := by omega
            go_wp2_with fail
            go_ret
            exact ⟨rfl, bel_trans B5 hbw⟩
      · skip
        have bB := bads_len h
        obtain ⟨BB, hBB⟩ : ∃ y, badsL h = y := ⟨_, rfl⟩
        rw [hBB] at RB bB
        have lB : 0 < BB.length := by
          rcases BB with _ | ⟨x, r⟩
          · exact absurd hBB h3
          · simp
        clear hBB h3
        obtain ⟨ah, ch, rfl, ih, jh, kh, HCh⟩ := Th.reads
        obtain ⟨m, hm⟩ : ∃ m, BB.length = m := ⟨_, rfl⟩
        have jm : (0 : Int) < (m : Int) := by omega
        go_enter Try.func5, Try.ntmps5
        go_wp2_with fail
        refine (HSh.out _ (Below.refl w.heap.size w)).mono ?_
        rintro e w1 ⟨rfl, b1⟩
        have B1 := bel_trans (Below.refl w.heap.size w) b1
        go_wp2_with fail
        refine (HF.out _ B1).mono ?_
        rintro e w2 ⟨rfl, b2⟩
        have B2 := bel_trans B1 b2
        go_wp2_with fail
        refine (RM.out _ B2).mono ?_
        rintro e w3 ⟨rfl, b3⟩
        have B3 := bel_trans B2 b3
        go_wp2_with fail
        refine (RB.out _ B3).mono ?_
        rintro e w4 hres4
        obtain ⟨u_z, rfl, b4, o_z⟩ := hres4
        have B4 := bel_trans B3 b4
        have T_z := IsRec.own (L := BB) badV_len (by omega) o_z (by omega)
        obtain ⟨a_z, c_z, rfl, i_z, j_z, _, HC_z⟩ := T_z.some_at
        rw [hm] at i_z ⊢
        clear T_z hm
        go_wp2_with fail
        go_ret
        exact ⟨rfl, B4⟩
    · rw [decide_eq_true h1] at HF
      obtain ⟨⟨f1, f2⟩, hf⟩ : ∃ y, formedL h = y := ⟨_, rfl⟩
      rw [hf] at RM h2
      simp only at RM h2
      have j2 : ((f2 : Int) != 0) = true := by rw [bne_iff_ne]; omega
      clear hf h2
      have bB := bads_len h
      obtain ⟨BB, hBB⟩ : ∃ y, badsL h = y := ⟨_, rfl⟩
      rw [hBB] at RB bB
      obtain ⟨ah, ch, rfl, ih, jh, kh, HCh⟩ := Th.reads
      go_enter Try.func5, Try.ntmps5
      go_wp2_with fail
      refine (HSh.out _ (Below.refl w.heap.size w)).mono ?_
      rintro e w1 ⟨rfl, b1⟩
      have B1 := bel_trans (Below.refl w.heap.size w) b1
      go_wp2_with fail
      refine (HF.out _ B1).mono ?_
      rintro e w2 ⟨rfl, b2⟩
      have B2 := bel_trans B1 b2
      go_wp2_with fail
      refine (RM.out _ B2).mono ?_
      rintro e w3 ⟨rfl, b3⟩
      have B3 := bel_trans B2 b3
      go_wp2_with fail
      refine (RB.out _ B3).mono ?_
      rintro e w4 hres4
      obtain ⟨u_z, rfl, b4, o_z⟩ := hres4
      have B4 := bel_trans B3 b4
      have T_z := IsRec.own (L := BB) badV_len (by omega) o_z (by omega)
      obtain ⟨a_z, c_z, rfl, i_z, j_z, _, HC_z⟩ := T_z.some_at
      go_wp2_with fail
      go_ret
      exact ⟨rfl, B4⟩
  · skip
    obtain ⟨⟨f1, f2⟩, hf⟩ : ∃ y, formedL h = y := ⟨_, rfl⟩
    rw [hf] at RM
    simp only at RM
    clear hf
    rw [decide_eq_false h1] at HF
    have bB := bads_len h
    obtain ⟨BB, hBB⟩ : ∃ y, badsL h = y := ⟨_, rfl⟩
    rw [hBB] at RB bB
    obtain ⟨ah, ch, rfl, ih, jh, kh, HCh⟩ := Th.reads
    go_enter Try.func5, Try.ntmps5
    go_wp2_with fail
    refine (HSh.out _ (Below.refl w.heap.size w)).mono ?_
    rintro e w1 ⟨rfl, b1⟩
    have B1 := bel_trans (Below.refl w.heap.size w) b1
    go_wp2_with fail
    refine (HF.out _ B1).mono ?_
    rintro e w2 ⟨rfl, b2⟩
    have B2 := bel_trans B1 b2
    go_wp2_with fail
    refine (RM.out _ B2).mono ?_
    rintro e w3 ⟨rfl, b3⟩
    have B3 := bel_trans B2 b3
    go_wp2_with fail
    refine (RB.out _ B3).mono ?_
    rintro e w4 hres4
    obtain ⟨u_z, rfl, b4, o_z⟩ := hres4
    have B4 := bel_trans B3 b4
    have T_z := IsRec.own (L := BB) badV_len (by omega) o_z (by omega)
    obtain ⟨a_z, c_z, rfl, i_z, j_z, _, HC_z⟩ := T_z.some_at
    go_wp2_with fail
    go_ret
    exact ⟨rfl, B4⟩
end Go.Proofs.Yteehpkkkagdckaa
