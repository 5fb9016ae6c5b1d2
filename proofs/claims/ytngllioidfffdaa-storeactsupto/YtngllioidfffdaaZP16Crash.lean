/-
  What tape.Read and tape.Crash answer.
-/
import Derived.Test.YtngllioidfffdaaGS
import Derived.Test.YtngllioidfffdaaGT
import Derived.BigQuiet
import Derived.Deep.QuietTactic
namespace Go.Proofs.Ytngllioidfffdaa
set_option maxRecDepth 100000
open Go.RowKit
set_option linter.unusedVariables false
attribute [local go_sem] ba_size ba_append ba_extract
theorem pread16_any (s p : List UInt8) (r f : Int) (o : Bool) (hs : s.length + p.length ≤ 8796093021952) (w : World) :
    Calls Try.prog 46 #[tpV (s, p, r, f, o)] w fun e w' => ReadRes w (Lm.recsL (s ++ p)) e w' := by
  have C := fun W => pscan16_any (s ++ p) (by simp; omega) W
  unfold tpV tpC
  go_enter Try.func46, Try.ntmps46
  go_wp2_with fail
  refine (C _).mono ?_
  rintro e w1 ⟨v, rfl, b1, hr⟩
  go_wp2_with fail
  go_ret
  exact ⟨v, rfl, bel_trans (bel1 w _) b1, owns_low hr (by simp)⟩
set_option maxHeartbeats 4000000 in
theorem pcrash16_any (s p : List UInt8) (r f : Int) (o : Bool) (n : Int) (hs : s.length + p.length ≤ 8796093021952) (w : World) :
    Calls Try.prog 36 #[tpV (s, p, r, f, o), .int .i64 n] w fun e w' => e = .returned (tpV (crashT (s, p, r, f, o) n)) ∧ Below w.heap.size w w' := by
  have hmx := hmx16
  have X := (SBox.new w 23 #[.string ⟨s.toArray⟩, .string ⟨p.toArray⟩, .int .i64 r, .int .i64 f, .bool o]).alloc (.cells #[.string ⟨#[]⟩, .string ⟨#[]⟩, .int .i64 0, .int .i64 0, .bool false] 23)
  have R := sbox2 w (.cells #[.string ⟨s.toArray⟩, .string ⟨p.toArray⟩, .int .i64 r, .int .i64 f, .bool o] 23) 23 #[.string ⟨#[]⟩, .string ⟨#[]⟩, .int .i64 0, .int .i64 0, .bool false]
  have B0 := bel2 w (.cells #[.string ⟨s.toArray⟩, .string ⟨p.toArray⟩, .int .i64 r, .int .i64 f, .bool o] 23) (.cells #[.string ⟨#[]⟩, .string ⟨#[]⟩, .int .i64 0, .int .i64 0, .bool false] 23)
  obtain ⟨k, hk⟩ : ∃ k, min n.toNat p.length = k := ⟨_, rfl⟩
  have hkp : p.take n.toNat = p.take k := by rw [← hk, List.take_eq_take_iff]; simp
  have hkl : k ≤ p.length := by omega
  have C := fun W => pscan16_any (s ++ p.take k) (by simp; omega) W
  have hm := Lm.recs_many (s ++ p.take k)
  unfold crashT keptT tpV tpC
  simp only
  rw [hkp]
  clear hkp
  obtain ⟨S, hS⟩ : ∃ S, s ++ p.take k = S := ⟨_, rfl⟩
  have hSl : S.length ≤ s.length + p.length := by rw [← hS]; simp; omega
  obtain ⟨m, hmm⟩ : ∃ m, (Lm.body (Lm.recsL S)).length = m := ⟨_, rfl⟩
  rw [hS] at C hm ⊢
  unfold ScanRes at C
  rw [hmm] at C hm ⊢
  obtain ⟨hm1, hm2, hm3⟩ := hm
  rw [← hm2]
  have z1 : wrap64 ((s.length : Int) + (p.length : Int)) = ((s.length + p.length : Nat) : Int) := by unfold wrap64; omega
  have z2 : (m : Int) ≤ (S.length : Int) := by omega
  have z3 : s.length + min k p.length ≤ 9223372036854775807 := by omega
  have z4 : s.length + k ≤ 9223372036854775807 := by omega
  have z5 : min k p.length = k := by omega
  have z6 : s.length + p.length ≤ 9223372036854775807 := by omega
  clear hm2 hmm hm3
  by_cases h1 : n < 0
  · have hk2 : k = 0 := by omega
    have hS3 : s = S := by rw [← hS, hk2]; simp
    have h2 : ¬ (p.length : Int) < 0 := by omega
    clear hS
    subst hS3
    clear hk2 hk z3 z4 z5 hkl
    go_enter Try.func36, Try.ntmps36
    go_wp2_with fail
    go_region
    have X0 := X.drew
    have R0 := R.drew
    have B1' := B0.drew
    obtain ⟨wd, hwd⟩ : ∃ wd, World.drew ((w.alloc (.cells #[.string ⟨s.toArray⟩, .string ⟨p.toArray⟩, .int .i64 r, .int .i64 f, .bool o] 23)).alloc (.cells #[.string ⟨#[]⟩, .string ⟨#[]⟩, .int .i64 0, .int .i64 0, .bool false] 23)) = wd := ⟨_, rfl⟩
    rw [hwd] at X0 R0 B1' ⊢
    clear X R B0 hwd
    go_wp2_with fail
    refine (C _).mono ?_
    rintro e w1 ⟨v, rfl, b1, hr⟩
    have X1 := X0.below b1
    have R1 := R0.below b1
    have B1 := B1'.trans (b1.mono B1'.size)
    have x0 := X1.cell 0 _ rfl
    have x1 := X1.cell 1 _ rfl
    have x2 := X1.cell 2 _ rfl
    have x3 := X1.cell 3 _ rfl
    have x4 := X1.cell 4 _ rfl
    have fx0 := X1.frozen 0
    have fx1 := X1.frozen 1
    have fx2 := X1.frozen 2
    have fx3 := X1.frozen 3
    have fx4 := X1.frozen 4
    have r0 := R1.cell 0 _ rfl
    have r1 := R1.cell 1 _ rfl
    have r2 := R1.cell 2 _ rfl
    have r3 := R1.cell 3 _ rfl
    have r4 := R1.cell 4 _ rfl
    have fr0 := R1.frozen 0
    have fr1 := R1.frozen 1
    have fr2 := R1.frozen 2
    have fr3 := R1.frozen 3
    have fr4 := R1.frozen 4
    clear X0 R0
    go_wp2_with fail
    go_region
    go_wp2_with fail
    exact bodyPost_ret (results_tp Try.results36 _ _ (w.heap.size + 1) _ rfl rfl (R1.put5 _ _ _ _ _).drew) rfl ⟨by simp, (bel_put5 B1 (by omega) _ _ _ _ _).drew⟩
  · by_cases h2 : (p.length : Int) < n
    · have hk2 : k = p.length := by omega
      have hS2 : s ++ p = S := by rw [← hS, hk2, List.take_length]
      go_enter Try.func36, Try.ntmps36
      go_wp2_with fail
      go_region
      have X0 := X.drew
      have R0 := R.drew
      have B1' := B0.drew
      obtain ⟨wd, hwd⟩ : ∃ wd, World.drew ((w.alloc (.cells #[.string ⟨s.toArray⟩, .string ⟨p.toArray⟩, .int .i64 r, .int .i64 f, .bool o] 23)).alloc (.cells #[.string ⟨#[]⟩, .string ⟨#[]⟩, .int .i64 0, .int .i64 0, .bool false] 23)) = wd := ⟨_, rfl⟩
      rw [hwd] at X0 R0 B1' ⊢
      clear X R B0 hwd
      go_wp2_with fail
      refine (C _).mono ?_
      rintro e w1 ⟨v, rfl, b1, hr⟩
      have X1 := X0.below b1
      have R1 := R0.below b1
      have B1 := B1'.trans (b1.mono B1'.size)
      have x0 := X1.cell 0 _ rfl
      have x1 := X1.cell 1 _ rfl
      have x2 := X1.cell 2 _ rfl
      have x3 := X1.cell 3 _ rfl
      have x4 := X1.cell 4 _ rfl
      have fx0 := X1.frozen 0
      have fx1 := X1.frozen 1
      have fx2 := X1.frozen 2
      have fx3 := X1.frozen 3
      have fx4 := X1.frozen 4
      have r0 := R1.cell 0 _ rfl
      have r1 := R1.cell 1 _ rfl
      have r2 := R1.cell 2 _ rfl
      have r3 := R1.cell 3 _ rfl
      have r4 := R1.cell 4 _ rfl
      have fr0 := R1.frozen 0
      have fr1 := R1.frozen 1
      have fr2 := R1.frozen 2
      have fr3 := R1.frozen 3
      have fr4 := R1.frozen 4
      clear X0 R0
      go_wp2_with fail
      go_region
      go_wp2_with fail
      exact bodyPost_ret (results_tp Try.results36 _ _ (w.heap.size + 1) _ rfl rfl (R1.put5 _ _ _ _ _).drew) rfl ⟨by simp, (bel_put5 B1 (by omega) _ _ _ _ _).drew⟩
    · obtain ⟨j, rfl⟩ : ∃ j : Nat, n = (j : Int) := ⟨n.toNat, by omega⟩
      obtain rfl : j = k := by omega
      go_enter Try.func36, Try.ntmps36
      go_wp2_with fail
      go_region
      have X0 := X.drew
      have R0 := R.drew
      have B1' := B0.drew
      obtain ⟨wd, hwd⟩ : ∃ wd, World.drew ((w.alloc (.cells #[.string ⟨s.toArray⟩, .string ⟨p.toArray⟩, .int .i64 r, .int .i64 f, .bool o] 23)).alloc (.cells #[.string ⟨#[]⟩, .string ⟨#[]⟩, .int .i64 0, .int .i64 0, .bool false] 23)) = wd := ⟨_, rfl⟩
      rw [hwd] at X0 R0 B1' ⊢
      clear X R B0 hwd
      go_wp2_with fail
      refine (C _).mono ?_
      rintro e w1 ⟨v, rfl, b1, hr⟩
      have X1 := X0.below b1
      have R1 := R0.below b1
      have B1 := B1'.trans (b1.mono B1'.size)
      have x0 := X1.cell 0 _ rfl
      have x1 := X1.cell 1 _ rfl
      have x2 := X1.cell 2 _ rfl
      have x3 := X1.cell 3 _ rfl
      have x4 := X1.cell 4 _ rfl
      have fx0 := X1.frozen 0
      have fx1 := X1.frozen 1
      have fx2 := X1.frozen 2
      have fx3 := X1.frozen 3
      have fx4 := X1.frozen 4
      have r0 := R1.cell 0 _ rfl
      have r1 := R1.cell 1 _ rfl
      have r2 := R1.cell 2 _ rfl
      have r3 := R1.cell 3 _ rfl
      have r4 := R1.cell 4 _ rfl
      have fr0 := R1.frozen 0
      have fr1 := R1.frozen 1
      have fr2 := R1.frozen 2
      have fr3 := R1.frozen 3
      have fr4 := R1.frozen 4
      clear X0 R0
      go_wp2_with fail
      go_region
      go_wp2_with fail
      exact bodyPost_ret (results_tp Try.results36 _ _ (w.heap.size + 1) _ rfl rfl (R1.put5 _ _ _ _ _).drew) rfl ⟨by simp, (bel_put5 B1 (by omega) _ _ _ _ _).drew⟩
end Go.Proofs.Ytngllioidfffdaa
