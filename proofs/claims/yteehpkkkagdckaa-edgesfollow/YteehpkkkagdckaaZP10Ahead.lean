/-
  What edges.isPlace and wasAhead answer.
-/
import Derived.Test.YteehpkkkagdckaaGE
import Derived.Test.YteehpkkkagdckaaGC
import Derived.Test.YteehpkkkagdckaaZP8Find
import Derived.Test.YteehpkkkagdckaaGP
namespace Go.Proofs.Yteehpkkkagdckaa
set_option maxRecDepth 100000
open Go.RowKit Go.Maps
set_option linter.unusedVariables false
attribute [local go_sem] ba_size
theorem pplace_any (a : Option Addr) (n cap : Nat) (i : Int) (w : World) :
    Calls Try.prog 37 #[.slice a n cap, .int .i64 i] w fun e w' => e = .returned (.bool (decide (0 ≤ i ∧ i < (n : Int)))) ∧ w' = w := by
  by_cases h0 : 0 ≤ i
  · have h0' : ¬ i < 0 := by omega
    by_cases h1 : i < (n : Int)
    · rw [decide_eq_true ⟨h0, h1⟩]
      go_enter Try.func37, Try.ntmps37
      go_wp2_with fail
      go_ret
      exact ⟨rfl, rfl⟩
    · rw [decide_eq_false (fun hh => h1 hh.2)]
      go_enter Try.func37, Try.ntmps37
      go_wp2_with fail
      go_ret
      exact ⟨rfl, rfl⟩
  · have h0' : i < 0 := by omega
    rw [decide_eq_false (fun hh => h0 hh.1)]
    go_enter Try.func37, Try.ntmps37
    go_wp2_with fail
    go_ret
    exact ⟨rfl, rfl⟩
set_option maxHeartbeats 4000000 in
theorem pahead_any (h : List Ev) (v : Value) (w : World) (hT : IsEvs w v h) (x0 x1 : Int) (x2 x3 : List UInt8) (l0 : Int) (l1 l2 : Nat) (l3 : Bool) :
    Calls Try.prog 39 #[v, .agg #[.int .i64 x0, .int .i64 x1, .string ⟨x2.toArray⟩, .string ⟨x3.toArray⟩], .agg #[.int .i64 l0, .int .i64 (l1 : Int), .int .i64 (l2 : Int), .bool l3]] w fun e w' => e = .returned (.bool (aheadQ h x2 x3 l2)) ∧ Below w.heap.size w w' := by
  have C1 := fun (t : Int) W hW => pfind8_any h v W t (hT.below (w' := W) hW)
  have C3 := fun (a b : List UInt8) W hW => pwriter8_any h v W (hT.below (w' := W) hW) a b
  obtain ⟨a, cap, rfl, h1, h2, h3, HC⟩ := hT.reads
  have X0 := (SBox.new w 48 #[.int .i64 x0, .int .i64 x1, .string ⟨x2.toArray⟩, .string ⟨x3.toArray⟩]).alloc (.cells #[.int .i64 l0, .int .i64 (l1 : Int), .int .i64 (l2 : Int), .bool l3] 44)
  have Y0 := SBox.new (w.alloc (.cells #[.int .i64 x0, .int .i64 x1, .string ⟨x2.toArray⟩, .string ⟨x3.toArray⟩] 48)) 44 #[.int .i64 l0, .int .i64 (l1 : Int), .int .i64 (l2 : Int), .bool l3]
  rw [World.size_alloc] at Y0
  have B0 : Below w.heap.size w ((w.alloc (.cells #[.int .i64 x0, .int .i64 x1, .string ⟨x2.toArray⟩, .string ⟨x3.toArray⟩] 48)).alloc (.cells #[.int .i64 l0, .int .i64 (l1 : Int), .int .i64 (l2 : Int), .bool l3] 44)) := ((Below.refl _ w).alloc (Nat.le_refl _) _).alloc (by simp) _
  have c2 := X0.cell 2 _ rfl
  have c3 := X0.cell 3 _ rfl
  obtain ⟨n, hn⟩ : ∃ n, h.length = n := ⟨_, rfl⟩
  have HN : Hid (h.length = n) := hn
  simp only [hn] at C1 C3
  rw [hn] at h1 h3 ⊢
  clear hT hn
  unfold aheadQ
  have D2 := C3 x2 x3
  by_cases hv : x3 = []
  · subst hv
    rw [if_pos rfl]
    clear D2 C1 C3
    go_enter Try.func39, Try.ntmps39
    go_wp2_with fail
    go_ret
    exact ⟨rfl, B0⟩
  · have nv := ne_nil7 x3 hv
    have nv2 : (x3 == []) = false := beq_eq_false_iff_ne.2 hv
    rw [if_neg hv]
    clear hv
    rcases hw : writerL h x2 x3 with _ | u
    · rw [hw] at D2
      simp only [oI] at D2 ⊢
      clear hw C1 C3
      go_enter Try.func39, Try.ntmps39
      go_wp2_with fail
      refine (D2 _ B0).mono ?_
      rintro e1 w1 ⟨rfl, b1⟩
      have B1 := bel_trans B0 b1
      go_wp2_with fail
      go_ret
      exact ⟨rfl, B1⟩
    · have hu := ((writerL_some _ _ _ _).1 hw).1
      have HU : Hid (u < h.length) := hu
      have hun : u < n := by have := HN.out; omega
      rw [hw] at D2
      simp only [oI] at D2 ⊢
      have ju : ¬ (u : Int) < 0 := by omega
      obtain ⟨bb, off, rfl, HQ⟩ := HC.out (by have := HU.out; omega)
      obtain ⟨⟨z0, z1, z2, z3⟩, hz⟩ : ∃ x, ev h u = x := ⟨_, rfl⟩
      have HZ : Hid (ev h u = (z0, z1, z2, z3)) := hz
      simp only [hz]
      have D1 := C1 z1
      obtain ⟨⟨⟨f0, f1, f2, f3⟩, f4⟩, hf⟩ : ∃ y, findP h z1 = y := ⟨_, rfl⟩
      rw [hf] at D1 ⊢
      simp only at D1 ⊢
      clear hf hz hw hu C1 C3
      cases f3 with
      | false =>
        rw [Bool.false_and]
        go_enter Try.func39, Try.ntmps39
        go_wp2_with fail
        refine (D2 _ B0).mono ?_
        rintro e1 w1 ⟨rfl, b1⟩
        have B1 := bel_trans B0 b1
        have m1 := (HQ.out u HU.out _ B1).2.1
        rw [HZ.out] at m1
        simp only at m1
        go_wp2_with fail
        refine (D1 _ B1).mono ?_
        rintro e2 w2 ⟨rfl, b2⟩
        have X2 := SBox.new w2 44 #[.int .i64 f0, .int .i64 (f1 : Int), .int .i64 (f2 : Int), .bool false]
        have B2' := bel_trans B1 b2
        have B2 := B2'.alloc B2'.size (.cells #[.int .i64 f0, .int .i64 (f1 : Int), .int .i64 (f2 : Int), .bool false] 44)
        have q3 := X2.cell 3 _ rfl
        have q2 := X2.cell 2 _ rfl
        clear m1
        go_wp2_with fail
        go_ret
        exact ⟨rfl, B2⟩
      | true =>
        rw [Bool.true_and]
        have Y2 : True := trivial
        by_cases lt : f2 < l2
        · have lt2 : (f2 : Int) < (l2 : Int) := by omega
          rw [decide_eq_true lt]
          go_enter Try.func39, Try.ntmps39
          go_wp2_with fail
          refine (D2 _ B0).mono ?_
          rintro e1 w1 ⟨rfl, b1⟩
          have B1 := bel_trans B0 b1
          have m1 := (HQ.out u HU.out _ B1).2.1
          rw [HZ.out] at m1
          simp only at m1
          go_wp2_with fail
          refine (D1 _ B1).mono ?_
          rintro e2 w2 ⟨rfl, b2⟩
          have X2 := SBox.new w2 44 #[.int .i64 f0, .int .i64 (f1 : Int), .int .i64 (f2 : Int), .bool true]
          have B2' := bel_trans B1 b2
          have B2 := B2'.alloc B2'.size (.cells #[.int .i64 f0, .int .i64 (f1 : Int), .int .i64 (f2 : Int), .bool true] 44)
          have q3 := X2.cell 3 _ rfl
          have q2 := X2.cell 2 _ rfl
          clear m1
          have k2 := (((Y0.below b1).below b2).alloc (.cells #[.int .i64 f0, .int .i64 (f1 : Int), .int .i64 (f2 : Int), .bool true] 44)).cell 2 _ rfl
          go_wp2_with fail
          go_ret
          exact ⟨rfl, B2⟩
        · have lt2 : ¬ (f2 : Int) < (l2 : Int) := by omega
          rw [decide_eq_false lt]
          go_enter Try.func39, Try.ntmps39
          go_wp2_with fail
          refine (D2 _ B0).mono ?_
          rintro e1 w1 ⟨rfl, b1⟩
          have B1 := bel_trans B0 b1
          have m1 := (HQ.out u HU.out _ B1).2.1
          rw [HZ.out] at m1
          simp only at m1
          go_wp2_with fail
          refine (D1 _ B1).mono ?_
          rintro e2 w2 ⟨rfl, b2⟩
          have X2 := SBox.new w2 44 #[.int .i64 f0, .int .i64 (f1 : Int), .int .i64 (f2 : Int), .bool true]
          have B2' := bel_trans B1 b2
          have B2 := B2'.alloc B2'.size (.cells #[.int .i64 f0, .int .i64 (f1 : Int), .int .i64 (f2 : Int), .bool true] 44)
          have q3 := X2.cell 3 _ rfl
          have q2 := X2.cell 2 _ rfl
          clear m1
          have k2 := (((Y0.below b1).below b2).alloc (.cells #[.int .i64 f0, .int .i64 (f1 : Int), .int .i64 (f2 : Int), .bool true] 44)).cell 2 _ rfl
          go_wp2_with fail
          go_ret
          exact ⟨rfl, B2⟩
end Go.Proofs.Yteehpkkkagdckaa
