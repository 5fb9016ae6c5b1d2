/-
  The walk of TreeClimbs.
-/
import Derived.Test.YtlkkdfopecbekaaDoorZShown3
import Derived.Test.YtlkkdfopecbekaaDoorZP3Check
import Derived.Test.YtlkkdfopecbekaaDoorGG
namespace Go.Proofs.YtlkkdfopecbekaaDoor
set_option maxRecDepth 100000
open Go.RowKit
set_option linter.unusedVariables false
attribute [local go_sem] ba_size
set_option maxHeartbeats 4000000 in
theorem climbs_walk (w : World) (root : List UInt8) (hr : root.length ≤ 140737488351232) (n i : Int) (s : List UInt8) (hs : s.length ≤ 140737488351232) (vp : Value) (p : List (List UInt8)) (hTp : IsTxt w vp p) (hBp : ∀ s ∈ p, s.length ≤ 140737488351232) (hG : G w) :
    Calls Tryd.prog 4 #[.agg #[.string ⟨root.toArray⟩, .int .i64 n, .int .i64 i, .string ⟨s.toArray⟩, vp]] w fun e w' => e = .returned (.bool true) ∧ Below w.heap.size w w' := by
  have hg3 := hG.size
  have HSh : Hid (∀ W, Below w.heap.size w W → Calls Tryd.prog 12 #[] W fun e w' => e = .returned (.bool true) ∧ Below W.heap.size W w') := fun W h => shown3_any W (hG.below h hg3)
  have al : ∀ o, Below w.heap.size w (w.alloc o) := fun o => (Below.refl _ w).alloc (Nat.le_refl _) o
  have HP : Hid (∀ W, Below w.heap.size w W → Calls Tryd.prog 23 #[.int .i64 n, .int .i64 i, .string ⟨s.toArray⟩, vp] W fun e w' => ClRes W (climbL sumL n i s p) e w') := fun W h => pClimb_any n i s (by omega) p vp W (hG.below h hg3) (hTp.below h)
  have HR : Hid (∀ W, Below w.heap.size w W → Calls Tryd.prog 24 #[.int .i64 n, .int .i64 i, .string ⟨s.toArray⟩, vp] W fun e w' => ClRes W (climbL sumL n i s p) e w') := fun W h => rclimb_any n i s (by omega) p vp W (hTp.below h)
  have HPC : Hid (∀ W, Below w.heap.size w W → Calls Tryd.prog 25 #[.string ⟨root.toArray⟩, .int .i64 n, .int .i64 i, .string ⟨s.toArray⟩, vp] W fun e w' => e = .returned (.int .i64 (checkL sumL root n i s p : Int)) ∧ Below W.heap.size W w') := fun W h => pcheck_any root n i s (by omega) p vp W (hG.below h hg3) (hTp.below h)
  have HRC : Hid (∀ W, Below w.heap.size w W → Calls Tryd.prog 26 #[.string ⟨root.toArray⟩, .int .i64 n, .int .i64 i, .string ⟨s.toArray⟩, vp] W fun e w' => e = .returned (.int .i64 (checkL sumL root n i s p : Int)) ∧ Below W.heap.size W w') := fun W h => rcheck_any root n i s (by omega) p vp W (hTp.below h)
  have hrows := climb_rows sumL sumL_len32 n i s p
  have hemp : (climbL sumL n i s p).2 ≠ 0 → (climbL sumL n i s p).1 = [] := by
    intro h
    unfold climbL at h ⊢
    by_cases h1 : n < 1 ∨ 4096 < n ∨ i < 0 ∨ n ≤ i
    · rw [if_pos h1]
    · rw [if_neg h1] at h ⊢
      by_cases h2 : ∃ x ∈ p, x.length ≠ 32
      · rw [if_pos h2]
      · rw [if_neg h2] at h ⊢
        cases hm : inL sumL n.toNat i.toNat s p with
        | none => rfl
        | some L => rw [hm] at h; exact absurd rfl h
  obtain ⟨⟨L, e0⟩, hC⟩ : ∃ C, climbL sumL n i s p = C := ⟨_, rfl⟩
  obtain ⟨ck, hck⟩ : ∃ ck, checkL sumL root n i s p = ck := ⟨_, rfl⟩
  rw [hC] at HP HR hrows hemp
  rw [hck] at HPC HRC
  simp only at hrows hemp
  have hLl : L.length ≤ 4097 := by
    by_cases h : e0 = 0
    · exact (hrows h).1
    · rw [hemp h]; simp
  have HLb : Hid (∀ t ∈ L, t.length ≤ 1125899906842624) := by
    intro t ht
    by_cases h : e0 = 0
    · have := (hrows h).2.2 t ht; omega
    · rw [hemp h] at ht; cases ht
  have HSm : Hid (∀ W v1 v2, IsTxt W v1 L → IsTxt W v2 L → Calls Tryd.prog 18 #[v1, v2] W fun e w' => e = .returned (.bool true) ∧ Below W.heap.size W w') := fun W v1 v2 h1 h2 => by
    have := same_txt v1 v2 L L W h1 h2
    rw [decide_eq_true rfl] at this
    exact this
  obtain ⟨ap, cp, rfl, _, _, _⟩ := hTp.len
  clear hC hck hrows hemp hTp hBp
  go_enter Tryd.func4, Tryd.ntmps4
  go_wp2_with fail
  refine (HSh.out _ (al _)).mono ?_
  rintro e w1 ⟨rfl, b1⟩
  have B1 := bel_trans (al _) b1
  go_wp2_with fail
  refine (HP.out w1 B1).mono ?_
  rintro e w2 hres
  obtain ⟨r2, rfl, b2, own2⟩ := hres
  have B2 := bel_trans B1 b2
  go_wp2_with fail
  refine (HR.out w2 B2).mono ?_
  rintro e w3 hres
  obtain ⟨r3, rfl, b3, own3⟩ := hres
  have B3 := bel_trans B2 b3
  have T2 : IsTxt w3 r2 L := (IsTxt.own own2 (by show L.length ≤ _; omega) HLb.out).below b3
  have T3 : IsTxt w3 r3 L := IsTxt.own own3 (by show L.length ≤ _; omega) HLb.out
  go_wp2_with fail
  refine (HSm.out w3 r2 r3 T2 T3).mono ?_
  rintro e w4 ⟨rfl, b4⟩
  have B4 := bel_trans B3 b4
  go_wp2_with fail
  refine (HPC.out w4 B4).mono ?_
  rintro e w5 ⟨rfl, b5⟩
  have B5 := bel_trans B4 b5
  go_wp2_with fail
  refine (HRC.out w5 B5).mono ?_
  rintro e w6 ⟨rfl, b6⟩
  go_wp2_with fail
  go_ret
  exact ⟨rfl, bel_trans B5 b6⟩
end Go.Proofs.YtlkkdfopecbekaaDoor
