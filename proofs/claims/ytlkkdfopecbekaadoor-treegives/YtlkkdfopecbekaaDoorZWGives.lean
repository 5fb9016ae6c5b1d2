/-
  The walk of TreeGives.
-/
import Derived.Test.YtlkkdfopecbekaaDoorZShown3
import Derived.Test.YtlkkdfopecbekaaDoorZP3Ends
import Derived.Test.YtlkkdfopecbekaaDoorGG
namespace Go.Proofs.YtlkkdfopecbekaaDoor
set_option maxRecDepth 100000
open Go.RowKit
set_option linter.unusedVariables false
attribute [local go_sem] ba_size
set_option maxHeartbeats 4000000 in
theorem gives_walk (w : World) (n i : Int) (a : List UInt8) (ha : a.length ≤ 140737488351232) (vp : Value) (p : List (List UInt8)) (hTp : IsTxt w vp p) (hBp : ∀ s ∈ p, s.length ≤ 140737488351232) (b : List UInt8) (hb : b.length ≤ 140737488351232) (vq : Value) (q : List (List UInt8)) (hTq : IsTxt w vq q) (hBq : ∀ s ∈ q, s.length ≤ 140737488351232) (vl : Value) (l : List (List UInt8)) (hTl : IsTxt w vl l) (hBl : ∀ s ∈ l, s.length ≤ 140737488351232) (vm : Value) (m : List (List UInt8)) (hTm : IsTxt w vm m) (hBm : ∀ s ∈ m, s.length ≤ 140737488351232) (hG : G w) :
    Calls Tryd.prog 5 #[.agg #[.int .i64 n, .int .i64 i, .string ⟨a.toArray⟩, vp, .string ⟨b.toArray⟩, vq, vl, vm]] w fun e w' => e = .returned (.bool true) ∧ Below w.heap.size w w' := by
  have hg3 := hG.size
  have HSh : Hid (∀ W, Below w.heap.size w W → Calls Tryd.prog 12 #[] W fun e w' => e = .returned (.bool true) ∧ Below W.heap.size W w') := fun W h => shown3_any W (hG.below h hg3)
  have al : ∀ o, Below w.heap.size w (w.alloc o) := fun o => (Below.refl _ w).alloc (Nat.le_refl _) o
  have HFl : Hid (∀ W, Below w.heap.size w W → Calls Tryd.prog 13 #[vl] W fun e w' => e = .returned (.bool (fewL l)) ∧ Below W.heap.size W w') := fun W h => few_any l vl W (hTl.below h)
  have HFm : Hid (∀ W, Below w.heap.size w W → Calls Tryd.prog 13 #[vm] W fun e w' => e = .returned (.bool (fewL m)) ∧ Below W.heap.size W w') := fun W h => few_any m vm W (hTm.below h)
  have HCl : Hid (∀ W, Below w.heap.size w W → Calls Tryd.prog 27 #[.int .i64 n, .int .i64 i, .string ⟨a.toArray⟩, vp, .string ⟨b.toArray⟩, vq] W fun e w' => e = .returned (unV (clashL sumL n i a p b q)) ∧ Below W.heap.size W w') := fun W h => pClash_any n i a (by omega) p vp b (by omega) q vq W (hG.below h hg3) (hTp.below h) (hTq.below h)
  have HD : Hid (∀ W, Below w.heap.size w W → Calls Tryd.prog 29 #[vl, vm] W fun e w' => e = .returned (unV (differL sumL l m)) ∧ Below W.heap.size W w') := fun W h => pDiffer_any l m vl vm W (hG.below h hg3) (hTl.below h) (hTm.below h) (fun s hs => by have := hBl s hs; omega) (fun s hs => by have := hBm s hs; omega)
  have HRC : Hid (∀ W, Below w.heap.size w W → Calls Tryd.prog 28 #[.int .i64 n, .int .i64 i, .string ⟨a.toArray⟩, vp, .string ⟨b.toArray⟩, vq] W fun e w' => e = .returned (unV (clashL sumL n i a p b q)) ∧ Below W.heap.size W w') := fun W h => rclash_any n i a (by omega) p vp b (by omega) q vq W (hTp.below h) (hTq.below h)
  have HRD : Hid (∀ W, Below w.heap.size w W → Calls Tryd.prog 30 #[vl, vm] W fun e w' => e = .returned (unV (differL sumL l m)) ∧ Below W.heap.size W w') := fun W h => rdiffer_any l m vl vm W (hTl.below h) (hTm.below h)
  obtain ⟨adp, cdp, rfl, _, _, _⟩ := hTp.len
  obtain ⟨adq, cdq, rfl, _, _, _⟩ := hTq.len
  obtain ⟨adl, cdl, rfl, _, _, _⟩ := hTl.len
  obtain ⟨adm, cdm, rfl, _, _, _⟩ := hTm.len
  clear hTp hTq hTl hTm hBp hBq hBl hBm
  obtain ⟨x, y, is, h1⟩ := unVform (clashL sumL n i a p b q)
  obtain ⟨s, u, on, h2⟩ := unVform (differL sumL l m)
  rw [h1] at HCl HRC
  rw [h2] at HD HRD
  clear h1 h2
  cases hfl : fewL l with
  | false =>
    rw [hfl] at HFl
    clear hfl HFm
    go_enter Tryd.func5, Tryd.ntmps5
    go_wp2_with fail
    refine (HSh.out _ (al _)).mono ?_
    rintro e w1 ⟨rfl, b1⟩
    have B1 := bel_trans (al _) b1
    go_wp2_with fail
    refine (HFl.out w1 B1).mono ?_
    rintro e w2 ⟨rfl, b2⟩
    have B2 := bel_trans B1 b2
    go_wp2_with fail
    go_ret
    exact ⟨rfl, B2⟩
  | true =>
    rw [hfl] at HFl
    cases hfm : fewL m with
    | false =>
      rw [hfm] at HFm
      clear hfl hfm
      go_enter Tryd.func5, Tryd.ntmps5
      go_wp2_with fail
      refine (HSh.out _ (al _)).mono ?_
      rintro e w1 ⟨rfl, b1⟩
      have B1 := bel_trans (al _) b1
      go_wp2_with fail
      refine (HFl.out w1 B1).mono ?_
      rintro e w2 ⟨rfl, b2⟩
      have B2 := bel_trans B1 b2
      go_wp2_with fail
      refine (HFm.out w2 B2).mono ?_
      rintro e w3 ⟨rfl, b3⟩
      have B3 := bel_trans B2 b3
      go_wp2_with fail
      go_ret
      exact ⟨rfl, B3⟩
    | true =>
      rw [hfm] at HFm
      have ll := fewL_len hfl
      have lm := fewL_len hfm
      clear hfl hfm
      go_enter Tryd.func5, Tryd.ntmps5
      go_wp2_with fail
      refine (HSh.out _ (al _)).mono ?_
      rintro e w1 ⟨rfl, b1⟩
      have B1 := bel_trans (al _) b1
      go_wp2_with fail
      refine (HFl.out w1 B1).mono ?_
      rintro e w2 ⟨rfl, b2⟩
      have B2 := bel_trans B1 b2
      go_wp2_with fail
      refine (HFm.out w2 B2).mono ?_
      rintro e w3 ⟨rfl, b3⟩
      have B3 := bel_trans B2 b3
      go_wp2_with fail
      refine (HCl.out w3 B3).mono ?_
      rintro e w4 ⟨rfl, b4⟩
      have B4 := bel_trans B3 b4
      go_wp2_with fail
      refine (HRC.out w4 B4).mono ?_
      rintro e w5 ⟨rfl, b5⟩
      have B5 := bel_trans B4 b5
      go_wp2_with fail
      refine (HD.out w5 B5).mono ?_
      rintro e w6 ⟨rfl, b6⟩
      have B6 := bel_trans B5 b6
      go_wp2_with fail
      refine (HRD.out w6 B6).mono ?_
      rintro e w7 ⟨rfl, b7⟩
      have B7 := bel_trans B6 b7
      go_wp2_with fail
      go_ret
      exact ⟨rfl, B7⟩
end Go.Proofs.YtlkkdfopecbekaaDoor
